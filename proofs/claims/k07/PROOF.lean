import PyProof.Rows.All
import Wide.All
import OpenK.AllK
import Wide.FinOn
import HandS.ForMost
import HandS.IsInst
import HandS.TupAny
import HandS.Strs
import HandS.OwnEq
import HandS.Flow
import HandS.Evl
import HandS.Zip0
import HandS.Walk
import PyProof.Draws
import PyProof.EnumMake
import PyProof.InstNe
import HandS.Exc
import HandS.ExcIs
import HandS.ExcField
import HandS.ExcInit
import HandS.Small
import HandS.Defaults
import HandS.MakeKwOnly
import HandS.ExcOwn
import HandS.WordsExc
import HandS.DictComp
import HandS.More
import HandS.Star
import HandS.TryMany
import HandS.TupMul
import PySem.Challenge.RW_firstmet_k07_three_hundred_rows
/-! ## FmBase -/
set_option Elab.async false
set_option maxRecDepth 100000
/-! What all of our laws share: how a def of the text is called, heaps that grow, the bag of the drawn numbers. -/
namespace Fm
open PySem L2
/-! ### calls -/
/-- the module's name x is a def that keeps the promise sp -/
structure Df (P : Program) (w : World) (K : PySem.W.Frag) (mg : Str → Option Value) (base : Heap) (x : Str) (k : Nat) (ps : List Str) (sp : Sp) : Prop where
  ex : ∃ (f : Addr) (fd : FuncData), FnOk P w K mg base CX0 k f fd ps sp ∧ mg x = some (.ref f) ∧ PySem.W.keepIn K (.ref f) = true ∧ Binds K fd ps []
/-- the method m of the class at C -/
structure Dm (P : Program) (w : World) (K : PySem.W.Frag) (mg : Str → Option Value) (base : Heap) (C : Addr) (m : Str) (k : Nat) (ps : List Str) (sp : Sp) : Prop where
  ex : ∃ (f : Addr) (fd : FuncData), FnOk P w K mg base CX0 k f fd ps sp ∧ Meth K C m f ∧ Binds K fd ps []
/-- the class at C, by its __init__ -/
structure Dc (P : Program) (w : World) (K : PySem.W.Frag) (mg : Str → Option Value) (base : Heap) (x : Str) (C : Addr) (k : Nat) (ps : List Str) (sp : Sp) : Prop where
  ex : ∃ (f : Addr) (fd : FuncData), FnOk P w K mg base CX0 k f fd ps sp ∧ mg x = some (.ref C) ∧ Mk K C f ∧ Binds K fd ps []
section
variable {X : Cx} {k : Nat} {ps : List Str} {sp : Sp} {x m : Str} {e o : Expr} {es : List Expr} {t : TA} {to : TE} {C : Addr} {p apos pos : Pos}
theorem pe_d (D : Df X.prog X.w X.K X.mg X.base x k ps sp) (hr : Room k X.A) (ha : PA X (e :: es) t) (hg : Gl X x := by rfl) (hdb : (x == ("__debug__" : Str)) = false := by decide)
    (he : starEach (e :: es) X.env = (false, eval e X.env) :: starEach es X.env := by rfl) (hpl : (backTo pos (starEach es X.env)).any (·.1) = false := by rfl) : PE X (.Call (.Name x p) (e :: es) [] pos) (tCall sp [] E0 t) := by
  obtain ⟨f, fd, F, hm, hk, hb⟩ := D.ex
  exact pe_call F hr hg hm hk hb .nil pass0 ha hdb he hpl
theorem pe_dc (D : Dc X.prog X.w X.K X.mg X.base x C k ps sp) (hr : Room (k + 1) X.A) (ha : PA X (e :: es) t) (hg : Gl X x := by rfl) (hdb : (x == ("__debug__" : Str)) = false := by decide)
    (he : starEach (e :: es) X.env = (false, eval e X.env) :: starEach es X.env := by rfl) (hpl : (backTo pos (starEach es X.env)).any (·.1) = false := by rfl) : PE X (.Call (.Name x p) (e :: es) [] pos) (tMake C sp [] E0 t) := by
  obtain ⟨f, fd, F, hm, M, hb⟩ := D.ex
  exact pe_make M F hr hg hm hb .nil pass0 ha hdb he hpl
theorem pe_dm {pl : Sem Bool} (he : PE X o to) (c : Cls X.K C) (D : Dm X.prog X.w X.K X.mg X.base C m k ps sp) (hr : Room k X.A) (ha : PA X (e :: es) t)
    (hst : starEach (e :: es) X.env = (false, eval e X.env) :: starEach es X.env := by rfl) (hpl : (backTo pos (starEach es X.env)).any (·.1) = false := by rfl)
    (ht : eval (.Call (.Attribute o m apos) (e :: es) [] pos) X.env = (do
      let ov ← eval o X.env
      standAt apos.atName
      let (f, first) ← holding [ov] (getMethod ov m pl)
      callWith pos f first (backTo pos (starEach (e :: es) X.env)) (backToKw pos (keywordEach [] X.env))) := by rfl) : PE X (.Call (.Attribute o m apos) (e :: es) [] pos) (tMeth C m sp [] E0 to t) := by
  obtain ⟨f, fd, F, hm, hb⟩ := D.ex
  exact pe_meth he c hm F hr hb .nil pass0 ha hst hpl ht
end
section
variable {X : Cx} {x : Str} {pos : Pos}
theorem pe_gI {n : Int} (h : ∃ t, X.mg x = some (.int n t)) (hg : Gl X x := by rfl) (hd : (x == ("__debug__" : Str)) = false := by decide) : PE X (.Name x pos) (tC (.int n)) := by
  obtain ⟨t, e⟩ := h
  exact pe_glob hg e ⟨t, rfl⟩ hd
theorem pe_gS {z : Str} (h : ∃ t, X.mg x = some (.str z t)) (hg : Gl X x := by rfl) (hd : (x == ("__debug__" : Str)) = false := by decide) : PE X (.Name x pos) (tC (.str z)) := by
  obtain ⟨t, e⟩ := h
  exact pe_glob hg e ⟨t, rfl⟩ hd
end
/-! ### tests -/
theorem ifd {p A B : Prop} [Decidable p] (h1 : p → A) (h2 : ¬ p → B) : if decide p = true then A else B := by
  by_cases h : p
  · rw [if_pos (decide_eq_true h)]
    exact h1 h
  · rw [if_neg (by rw [decide_eq_false h]; exact Bool.false_ne_true)]
    exact h2 h
theorem ifn {p A B : Prop} [Decidable p] (h1 : ¬ p → A) (h2 : p → B) : if (!decide p) = true then A else B := by
  by_cases h : p
  · rw [if_neg (by rw [decide_eq_true h]; exact Bool.false_ne_true)]
    exact h2 h
  · rw [if_pos (by rw [decide_eq_false h]; rfl)]
    exact h1 h
theorem intV {i j : Int} (h : V.int i = V.int j) : i = j := V.int.inj h
/-! ### heaps that grow: F is the part that is spoken of, the rest of H stays -/
structure Grow (F H F' H' : Hp) : Prop where
  ff : Same F F'
  fh : Same F' H'
  hh : ∀ a o, F a = none → H a = some o → F' a = none ∧ H' a = some o
theorem Grow.refl {F H : Hp} (s : Same F H) : Grow F H F H := ⟨Same.refl _, s, fun _ _ a b => ⟨a, b⟩⟩
theorem Grow.same {F H F' H' : Hp} (s : Same F H) (g : Grow F H F' H') : Same H H' := fun a o e => by
  cases q : F a with
  | none => exact (g.hh a o q e).2
  | some u =>
    have z := s a u q
    rw [e] at z
    cases z
    exact g.fh _ _ (g.ff _ _ q)
theorem Grow.trans {F H F1 H1 F2 H2 : Hp} (a : Grow F H F1 H1) (b : Grow F1 H1 F2 H2) : Grow F H F2 H2 :=
  ⟨a.ff.trans b.ff, b.fh, fun c o h1 h2 => let ⟨z1, z2⟩ := a.hh c o h1 h2; b.hh c o z1 z2⟩
theorem same_upd {F H : Hp} (s : Same F H) (p : Addr) (o : HO) : Same (upd F p o) (upd H p o) := fun a u e => by
  by_cases h : a = p
  · subst h
    rw [upd_same] at e ⊢
    exact e
  · rw [upd_ne h] at e ⊢
    exact s a u e
theorem Grow.new {F H : Hp} (s : Same F H) {p : Addr} (o : HO) (hp : H p = none) : Grow F H (upd F p o) (upd H p o) :=
  ⟨fun a u e => by rw [upd_ne (ne_of_none e (s.free hp))]; exact e, same_upd s p o, fun a u e1 e2 => by
    have n := ne_of_none e2 hp
    rw [upd_ne n, upd_ne n]
    exact ⟨e1, e2⟩⟩
theorem same_upd1 {F H : Hp} (s : Same F H) {p : Addr} (o : HO) (hp : H p = none) : Same F (L2.upd H p o) := fun a u e => by
  rw [upd_ne (ne_of_none (s a u e) hp)]
  exact s a u e
theorem same_new {H : Hp} {p : Addr} (o : HO) (hp : H p = none) : Same H (upd H p o) := same_upd1 (Same.refl H) o hp
theorem same_put {H H' : Hp} (s : Same H H') {D : Addr} (o : HO) (hD : H D = none) : Same H (upd H' D o) := fun a u e => by
  have n : a ≠ D := ne_of_none e hD
  rw [upd_ne n]
  exact s a u e
theorem map_take {α β : Type} {xs : List α} {i : Nat} {c : α} (f : α → β) (h : xs[i]? = some c) : (xs.take (i + 1)).map f = (xs.take i).map f ++ [f c] := by
  rw [List.take_add_one, h, List.map_append]
  rfl
theorem take_lt {α β : Type} {xs : List α} {i : Nat} (f : α → β) (h : xs.length ≤ 100000) : ((xs.take i).map f).length < sizeLine := by
  rw [List.length_map, List.length_take]
  exact Nat.lt_of_le_of_lt (Nat.le_trans (Nat.min_le_right _ _) h) (by decide)
/-! ### the bag -/
structure Bag (F H : Hp) (b : Addr) : Prop where
  fh : Same F H
  fb : F b = none
  ex : ∃ (cl : Addr) (ns : List Int) (p g s c h : Int), F cl = none ∧ cl ≠ b ∧ H cl = some (.lst (ns.map V.int)) ∧ H b = some (.lst [.ref cl, .int p, .int g, .int s, .int c, .int h]) ∧ 0 ≤ p ∧ 0 ≤ g ∧ 0 ≤ s ∧ s < 2147483647
theorem Bag.grow {F H F' H' : Hp} {b : Addr} (B : Bag F H b) (g : Grow F H F' H') : Bag F' H' b := by
  obtain ⟨s, fb, cl, ns, p, gg, z, c, h, e1, e2, e3, e4, r⟩ := B
  obtain ⟨z1, z2⟩ := g.hh _ _ e1 e3
  obtain ⟨y1, y2⟩ := g.hh _ _ fb e4
  exact ⟨g.fh, y1, cl, ns, p, gg, z, c, h, z1, e2, z2, y2, r⟩
theorem Bag.new {F H : Hp} {b p : Addr} (B : Bag F H b) (o : HO) (hp : H p = none) : Bag (upd F p o) (upd H p o) b := B.grow (Grow.new B.fh o hp)
theorem Bag.put {F H : Hp} {b l : Addr} {o : HO} (B : Bag F H b) (o' : HO) (hl : F l = some o) : Bag (upd F l o') (upd H l o') b := by
  obtain ⟨s, fb, cl, ns, p, g, z, c, h, e1, e2, e3, e4, r⟩ := B
  have n1 : b ≠ l := fun q => by rw [q, hl] at fb; cases fb
  have n2 : cl ≠ l := fun q => by rw [q, hl] at e1; cases e1
  exact ⟨same_upd s l o', by rw [upd_ne n1]; exact fb, cl, ns, p, g, z, c, h, by rw [upd_ne n2]; exact e1, e2, by rw [upd_ne n2]; exact e3, by rw [upd_ne n1]; exact e4, r⟩
theorem Bag.ne {F H : Hp} {b l : Addr} {o : HO} (B : Bag F H b) (hl : F l = some o) : l ≠ b := fun q => by
  have z := B.fb
  rw [← q, hl] at z
  cases z
/-- what _law_pick(bag, many) gives: some number below many -/
def spPick : Sp := fun vs H Q _ => ∃ (F : Hp) (b : Addr) (m : Int), vs = [.ref b, .int m] ∧ 0 < m ∧ m < 1073741824 ∧ Bag F H b ∧ ∀ (r : Int) (H' : Hp), 0 ≤ r → r < m → Bag F H' b → Q (.int r) H'
theorem fmod_lo {a m : Int} (h : 0 < m) : 0 ≤ a.fmod m := Int.fmod_nonneg_of_pos a h
theorem fmod_hi {a m : Int} (h : 0 < m) : a.fmod m < m := Int.fmod_lt_of_pos a h
theorem fmod64 (x : Int) {m : Int} (h : 0 < m) (h2 : m < 4294967296) : -(2 ^ 64) < x.fmod m ∧ x.fmod m < 2 ^ 64 := by
  have a := fmod_lo (a := x) h
  have b := fmod_hi (a := x) h
  omega
theorem fdiv_lo {a m : Int} (ha : 0 ≤ a) (h : 0 < m) : 0 ≤ a.fdiv m := by
  rw [Int.fdiv_eq_ediv_of_nonneg _ (Int.le_of_lt h)]
  exact Int.ediv_nonneg ha (Int.le_of_lt h)
theorem fdiv_hi {a m : Int} (ha : 0 ≤ a) (h : 0 < m) : a.fdiv m ≤ a := by
  rw [Int.fdiv_eq_ediv_of_nonneg _ (Int.le_of_lt h)]
  exact Int.ediv_le_self _ ha
end Fm

/-! ## FmSet -/
set_option Elab.async false
set_option maxRecDepth 100000
set_option maxHeartbeats 8000000
/-! The size of a set that is made of a row of texts, whatever texts they are. -/
namespace Fm
open PySem L2 PyProof.Rows PySem.Spec
/-- how many unlike texts, the last one first -/
def disR : List Str → Nat
  | [] => 0
  | x :: r => if x ∈ r then disR r else disR r + 1
def dis (xs : List Str) : Nat := disR xs.reverse
theorem disR_le : ∀ r : List Str, disR r ≤ r.length
  | [] => Nat.le_refl _
  | x :: r => by
    have ih := disR_le r
    unfold disR
    split
    · exact Nat.le_succ_of_le ih
    · exact Nat.succ_le_succ ih
theorem disR_full : ∀ r : List Str, disR r = r.length ↔ r.Nodup
  | [] => ⟨fun _ => .nil, fun _ => rfl⟩
  | x :: r => by
    have ih := disR_full r
    have le := disR_le r
    unfold disR
    rw [List.nodup_cons]
    split
    · rename_i h
      constructor
      · intro e
        rw [List.length_cons] at e
        omega
      · intro e
        exact absurd h e.1
    · rename_i h
      rw [List.length_cons]
      constructor
      · intro e
        exact ⟨h, ih.mp (by omega)⟩
      · intro e
        rw [ih.mpr e.2]
theorem dis_le (xs : List Str) : dis xs ≤ xs.length := by
  have h := disR_le xs.reverse
  rw [List.length_reverse] at h
  exact h
theorem dis_full (xs : List Str) : dis xs = xs.length ↔ xs.Nodup := by
  have h := disR_full xs.reverse
  rw [List.length_reverse] at h
  refine h.trans ?_
  show List.Pairwise (· ≠ ·) xs.reverse ↔ List.Pairwise (· ≠ ·) xs
  rw [List.pairwise_reverse]
  exact ⟨fun z => z.imp Ne.symm, fun z => z.imp Ne.symm⟩
theorem dis_take {xs : List Str} {i : Nat} {x : Str} (h : xs[i]? = some x) : dis (xs.take (i + 1)) = if x ∈ xs.take i then dis (xs.take i) else dis (xs.take i) + 1 := by
  have e : xs.take (i + 1) = xs.take i ++ [x] := by
    rw [List.take_add_one, h]
    rfl
  unfold dis
  rw [e, List.reverse_append]
  show (if x ∈ (xs.take i).reverse then _ else _) = _
  by_cases m : x ∈ xs.take i
  · rw [if_pos m, if_pos (List.mem_reverse.mpr m)]
    rfl
  · rw [if_neg m, if_neg fun z => m (List.mem_reverse.mp z)]
    rfl
abbrev among (l : List Str) : Str → Bool := fun k => l.any (· == k)
theorem among_mem {l : List Str} {x : Str} : among l x = true ↔ x ∈ l := by
  show l.any (· == x) = true ↔ x ∈ l
  rw [List.any_eq_true]
  constructor
  · rintro ⟨y, hy, e⟩
    rw [← eq_of_beq e]
    exact hy
  · intro h
    exact ⟨x, h, beq_self_eq_true x⟩
theorem among_take {xs : List Str} {i : Nat} {x : Str} (h : xs[i]? = some x) (k : Str) : (among (xs.take i) k || decide (k = x)) = among (xs.take (i + 1)) k := by
  have e : xs.take (i + 1) = xs.take i ++ [x] := by
    rw [List.take_add_one, h]
    rfl
  show _ = (xs.take (i + 1)).any (· == k)
  rw [e, List.any_append]
  by_cases q : k = x
  · subst q
    simp
  · have q' : (x == k) = false := by simpa using fun z : x = k => q z.symm
    simp [q, q']
section
variable {prog : Program} {w : World} {A : Around} {R : Result → Shared → Prop} {I : Addr} {fp wr : List Addr} {G : Array GenState → Array GenState → Prop} {n : Nat} {Pz : Nat → Value → Prop} {St : Nat → Shared → Prop}
/-- the loop that fills a set: behind i items it holds those items -/
theorem fill_strs (W : WalksS prog w A.in1 I fp wr G n Pz St) (S : Addr) (hS : S ∉ fp) (xs : List Str) (hn : xs.length = n) (hb : n + 1 < scanBound) (hv : ∀ i v, Pz i v → ∃ t x, v = .str x t ∧ xs[i]? = some x) :
    ∀ (k i : Nat) (s : Shared), n - i = k → i ≤ n → St i s → s.heap.SetOf (PySem.strKind prog w) S (among (xs.take i)) (dis (xs.take i)) →
      (∀ s', Moved (S :: wr) G s s' → s'.heap.SetOf (PySem.strKind prog w) S (among xs) (dis xs) → R (.ok (.ret .none)) s') →
      codeAny (model prog w) A (.builtin "set.update.loop" ⟨[.ref S, .ref I], []⟩) R s := by
  have out : S ∉ wr := fun z => hS (W.sub _ z)
  have more : ∀ b ∈ wr, b ∈ S :: wr := fun b z => List.mem_cons_of_mem _ z
  intro k
  induction k with
  | zero =>
    intro i s e0 le st set fin
    obtain rfl : i = n := by omega
    refine codeAny_builtin F.entry_set_update_loop ?_
    rw [Around.under_plainId F.plain_set_update_loop _]
    show wpAny _ A.in1 (pyNext (.ref I) >>= _) _ _ s
    refine wpAny_bind (W.done s _ _ st fun s' mv => ?_)
    show wpAny _ A.in1 (ret Value.none) _ _ s'
    refine wpAny_pure (fin s' (mv.mono more) ?_)
    obtain ⟨o, es, ep, t, ho, rest⟩ := set
    rw [← hn, List.take_length] at rest
    exact ⟨o, es, ep, t, mv.heap S _ out ho, rest⟩
  | succ k ih =>
    intro i s e0 le st set fin
    have lt : i < n := by omega
    refine codeAny_builtin F.entry_set_update_loop ?_
    rw [Around.under_plainId F.plain_set_update_loop _]
    show wpAny _ A.in1 (pyNext (.ref I) >>= _) _ _ s
    refine wpAny_bind (W.item i s _ _ lt st fun v s' pv st' mv => ?_)
    obtain ⟨t, x, rfl, hx⟩ := hv i v pv
    have set' : s'.heap.SetOf (PySem.strKind prog w) S (among (xs.take i)) (dis (xs.take i)) := by
      obtain ⟨o, es, ep, tb, ho, rest⟩ := set
      exact ⟨o, es, ep, tb, mv.heap S _ out ho, rest⟩
    show wpAny _ A.in1 (holding [Value.str x t] (setAdd S (.str x t)) >>= _) _ _ s'
    refine wpAny_bind (wpAny_holding ?_)
    unfold setAdd
    refine wpAny_holding ?_
    refine wpAny_bind ((PySem.strKind prog w).pyHash (k := x) (strKind_is _ _ _ _) ?_)
    have small : dis (xs.take i) + 1 < scanBound := by
      have z := dis_le (xs.take i)
      rw [List.length_take] at z
      omega
    refine wpAny_setAddHashed_of (knd := PySem.strKind prog w) (s := { s' with toks := s'.toks + 1 }) (strKind_is _ _ _ _) rfl set' small fun h' sb set2 => ?_
    have set3 : h'.SetOf (PySem.strKind prog w) S (among (xs.take (i + 1))) (dis (xs.take (i + 1))) := by
      refine SetOf_congr set2 (fun k' => among_take hx k') ?_
      rw [dis_take hx]
      by_cases m : x ∈ xs.take i
      · rw [if_pos m, if_pos (among_mem.mpr m)]
      · rw [if_neg m, if_neg fun z => m (among_mem.mp z)]
    refine wpAny_pure ⟨plainId_quiet F.plain_set_update_loop _, ih (i + 1) _ (by omega) lt (W.frame _ s' _ _ st' (Nat.le_succ _) fun b hb o e => ?_) set3 fun s3 mv3 done => ?_⟩
    · rw [sb.2 b fun z : b = S => hS (by rw [← z]; exact hb)]
      exact e
    · refine fin s3 (Moved.trans W.gtrans ((mv.mono more).then_heap (Nat.le_succ _) fun b o hb e => ?_) mv3) done
      rw [sb.2 b fun z : b = S => hb (by rw [z]; exact List.mem_cons_self)]
      exact e
end
def newSet (led : Bool) : Obj := { cls := .type "set", dict := none, data := .set #[] 0 (.fresh 0 0 led) }
section
variable {prog : Program} {w : World} {A : Around} {E : Value → Shared → Prop} {s : Shared}
set_option maxHeartbeats 16000000 in
/-- set(xs), xs a list of texts -/
theorem set_of_list {l : Addr} {items : Array Value} {xs : List Str} {Q : Value → Shared → Prop} (hh : A.handled = none) (hl : s.heap.IsList l items) (hi : StrsAre items.toList xs) (hn : xs.length + 1 < scanBound)
    (k : ∀ (h' : Heap) (tk : Nat), h'.SetOf (PySem.strKind prog w) s.heap.objs.size (among xs) (dis xs) → (∀ b o, b < s.heap.objs.size → s.heap.get? b = some o → h'.get? b = some o) → Q (.ref s.heap.objs.size) { s with heap := h', toks := tk }) :
    wpAny (model prog w) A (call (.type "set") [.ref l]) Q E s := by
  obtain ⟨cc, tl, mro⟩ := PySem.F.called_set.mro
  have made := PySem.F.called_set.made
  have isub := PySem.F.called_set.sub
  refine wpAny_call (codeAny_of_tree ?_)
  show wpAny _ _ (callAny (.type "set") _) _ _ _
  refine wpAny_pure ⟨Code.quiet_builtin _ (by decide +kernel), codeAny_builtin PySem.F.entry_type_call ?_⟩
  rw [Around.under_plain (weight_type_call_type "set" [.ref l] []) rfl]
  have f1 := PySem.F.called_set.notType
  have f2 := PySem.F.called_set.canCreate
  have f3 := PySem.F.typeCall_set_1 (.ref l)
  repeat (any_goals (first | assumption | wp_step))
  refine codeAny_mono (code_set_new_1 (.ref l) (E := E) (Q₁ := fun ob s1 => ∃ led : Bool, ob = .ref s.heap.objs.size ∧ s1 = { s with heap := s.heap.push (newSet led) }) fun led => ⟨led, rfl, rfl⟩) fun r s1 hr => ?_
  cases r with
  | error e => exact hr
  | ok fl =>
    cases fl with
    | next => exact hr.elim
    | brk => exact hr.elim
    | cont => exact hr.elim
    | ret ob =>
      obtain ⟨led, rfl, rfl⟩ := hr
      have atS : (s.heap.push (newSet led)).get? s.heap.objs.size = some (newSet led) := Heap.get?_push_size _ rfl
      have ty : Shared.TypeIs { s with heap := s.heap.push (newSet led) } (.ref s.heap.objs.size) "set" := ⟨_, atS, rfl⟩
      have i1 := PySem.F.called_set.init.lookup
      have i2 := PySem.F.called_set.init.bind (.ref s.heap.objs.size)
      repeat (any_goals (first | assumption | wp_step))
      refine codeAny_mono (codeAny_call_builtin (R := wants (fun r s2 => r = .none ∧ ∃ h' tk, s2 = { s with heap := h', toks := tk } ∧ h'.SetOf (PySem.strKind prog w) s.heap.objs.size (among xs) (dis xs) ∧ (∀ b o, b < s.heap.objs.size → s.heap.get? b = some o → h'.get? b = some o)) E) PySem.F.called_set.init.plain PySem.F.entry_set_init (check_set_init_1 ty ?_)) fun r2 s2 hr2 => ?_
      · obtain ⟨ol, hol, hcl, nl, hdl⟩ := hl
        obtain ⟨oc, od, oda, osl⟩ := ol
        simp only at hcl hdl
        subst hcl hdl
        have hol' : (s.heap.push (newSet led)).get? l = some { cls := .type "list", dict := od, data := .seq items nl, slots := osl } := Heap.get?_push_of_some _ hol
        have g1 := PySem.F.sub_list_set
        have g2 := PySem.F.sub_list_frozenset
        have g3 : (Value.type "list" == Value.type "dict") = false := by decide
        have hl1 : (s.heap.push (newSet led)).IsList l items := ⟨_, hol', rfl, nl, rfl⟩
        unfold newSet at hol' hl1 ty atS ⊢
        unfold Builtin.«set.__init__» noKeywords Builtin.Frozenset.updateFrom
        generalize hPI : pyIter = PI
        wp_walk
        subst hPI
        refine wpAny_pyIter_list hl1 ?_
        refine wpAny_bind (wpAny_runValue ?_)
        have ls : l < s.heap.objs.size := Heap.lt_size hol
        have hh3 : A.in1.in1.in1.handled = none := by simp [hh]
        have sz : (s.heap.push (newSet led)).objs.size = s.heap.objs.size + 1 := Heap.size_push _ _
        unfold newSet at sz
        have n1 : l ≠ (s.heap.push { cls := .type "set", dict := none, data := .set #[] 0 (.fresh 0 0 led) }).objs.size := by
          rw [sz]
          exact Nat.ne_of_lt (Nat.lt_succ_of_lt ls)
        have n2 : s.heap.objs.size ∉ [(s.heap.push { cls := .type "set", dict := none, data := .set #[] 0 (.fresh 0 0 led) }).objs.size, l] := by
          rw [sz]
          intro z
          rcases List.mem_cons.mp z with z | z
          · exact absurd z (Nat.ne_of_lt (Nat.lt_succ_self _))
          · exact absurd (List.mem_singleton.mp z) (Nat.ne_of_gt ls)
        have hsz : xs.length = items.size := by rw [← StrsAre.len_eq hi, Array.length_toList]
        have hval : ∀ (i : Nat) (v : Value), items[i]? = some v → ∃ t x, v = .str x t ∧ xs[i]? = some x := fun i v hv => by
          obtain ⟨t, e⟩ := SS.strs_at hi i v (by rw [Array.getElem?_toList]; exact hv)
          have hlt : i < xs.length := by
            rw [hsz]
            exact (Array.getElem?_eq_some_iff.mp hv).1
          exact ⟨t, xs[i], by
            rw [e, List.getD_eq_getElem?_getD, List.getElem?_eq_getElem hlt]
            rfl, List.getElem?_eq_getElem hlt⟩
        refine fill_strs ((Walks.list hh3 _ l n1 items).toS) s.heap.objs.size n2 xs hsz (by rw [← hsz]; exact hn) hval (items.size - 0) 0 _ (by omega) (Nat.zero_le _)
          ⟨⟨_, Heap.get?_push_size _ rfl, rfl, rfl⟩, (hl1.push _)⟩ ?hS0 ?hR
        case hS0 =>
          exact SetOf_congr ((setObjOf_fresh (knd := PySem.strKind prog w) led).setOf (Heap.get?_push_of_some _ atS) (by unfold scanBound; omega)) (fun _ => rfl) rfl
        case hR =>
          intro s' mv set'
          obtain ⟨h', g', d', tk', os'⟩ := s'
          obtain rfl : g' = s.gens := mv.gens
          obtain rfl : d' = s.drawn := mv.drawn
          obtain rfl : os' = s.os := mv.os
          show wpAny _ _ _ _ _ _
          refine wpAny_pure ?_
          show wpAny _ _ (ret Value.none) _ _ _
          refine wpAny_pure ⟨rfl, h', tk', rfl, set', fun b o hb e => ?_⟩
          refine mv.heap b o ?_ (Heap.get?_push_of_some _ (Heap.get?_push_of_some _ e))
          rw [sz]
          intro z
          rcases List.mem_cons.mp z with z | z
          · exact absurd z (Nat.ne_of_lt hb)
          · exact absurd (List.mem_singleton.mp z) (Nat.ne_of_lt (Nat.lt_succ_of_lt hb))
      · cases r2 with
        | error e => exact hr2
        | ok fl2 =>
          cases fl2 with
          | next => exact hr2.elim
          | brk => exact hr2.elim
          | cont => exact hr2.elim
          | ret r =>
            obtain ⟨rfl, h', tk, rfl, set', old⟩ := hr2
            repeat (any_goals (first | assumption | wp_step))
            exact k _ _ set' old

set_option maxHeartbeats 16000000 in
/-- set(xs), xs a tuple of texts -/
theorem set_of_tuple {l : Addr} {items : Array Value} {xs : List Str} {Q : Value → Shared → Prop} (hh : A.handled = none) (hl : s.heap.IsTuple l items) (hi : StrsAre items.toList xs) (hn : xs.length + 1 < scanBound)
    (k : ∀ (h' : Heap) (tk : Nat), h'.SetOf (PySem.strKind prog w) s.heap.objs.size (among xs) (dis xs) → (∀ b o, b < s.heap.objs.size → s.heap.get? b = some o → h'.get? b = some o) → Q (.ref s.heap.objs.size) { s with heap := h', toks := tk }) :
    wpAny (model prog w) A (call (.type "set") [.ref l]) Q E s := by
  obtain ⟨cc, tl, mro⟩ := PySem.F.called_set.mro
  have made := PySem.F.called_set.made
  have isub := PySem.F.called_set.sub
  refine wpAny_call (codeAny_of_tree ?_)
  show wpAny _ _ (callAny (.type "set") _) _ _ _
  refine wpAny_pure ⟨Code.quiet_builtin _ (by decide +kernel), codeAny_builtin PySem.F.entry_type_call ?_⟩
  rw [Around.under_plain (weight_type_call_type "set" [.ref l] []) rfl]
  have f1 := PySem.F.called_set.notType
  have f2 := PySem.F.called_set.canCreate
  have f3 := PySem.F.typeCall_set_1 (.ref l)
  repeat (any_goals (first | assumption | wp_step))
  refine codeAny_mono (code_set_new_1 (.ref l) (E := E) (Q₁ := fun ob s1 => ∃ led : Bool, ob = .ref s.heap.objs.size ∧ s1 = { s with heap := s.heap.push (newSet led) }) fun led => ⟨led, rfl, rfl⟩) fun r s1 hr => ?_
  cases r with
  | error e => exact hr
  | ok fl =>
    cases fl with
    | next => exact hr.elim
    | brk => exact hr.elim
    | cont => exact hr.elim
    | ret ob =>
      obtain ⟨led, rfl, rfl⟩ := hr
      have atS : (s.heap.push (newSet led)).get? s.heap.objs.size = some (newSet led) := Heap.get?_push_size _ rfl
      have ty : Shared.TypeIs { s with heap := s.heap.push (newSet led) } (.ref s.heap.objs.size) "set" := ⟨_, atS, rfl⟩
      have i1 := PySem.F.called_set.init.lookup
      have i2 := PySem.F.called_set.init.bind (.ref s.heap.objs.size)
      repeat (any_goals (first | assumption | wp_step))
      refine codeAny_mono (codeAny_call_builtin (R := wants (fun r s2 => r = .none ∧ ∃ h' tk, s2 = { s with heap := h', toks := tk } ∧ h'.SetOf (PySem.strKind prog w) s.heap.objs.size (among xs) (dis xs) ∧ (∀ b o, b < s.heap.objs.size → s.heap.get? b = some o → h'.get? b = some o)) E) PySem.F.called_set.init.plain PySem.F.entry_set_init (check_set_init_1 ty ?_)) fun r2 s2 hr2 => ?_
      · obtain ⟨ol, hol, hcl, nl, hdl⟩ := hl
        obtain ⟨oc, od, oda, osl⟩ := ol
        simp only at hcl hdl
        subst hcl hdl
        have hol' : (s.heap.push (newSet led)).get? l = some { cls := .type "tuple", dict := od, data := .seq items nl, slots := osl } := Heap.get?_push_of_some _ hol
        have g1 := PySem.F.sub_tuple_set
        have g2 := PySem.F.sub_tuple_frozenset
        have g3 : (Value.type "tuple" == Value.type "dict") = false := by decide
        have hl1 : (s.heap.push (newSet led)).IsTuple l items := ⟨_, hol', rfl, nl, rfl⟩
        unfold newSet at hol' hl1 ty atS ⊢
        unfold Builtin.«set.__init__» noKeywords Builtin.Frozenset.updateFrom
        generalize hPI : pyIter = PI
        wp_walk
        subst hPI
        refine wpAny_pyIter_tuple hl1 ?_
        refine wpAny_bind (wpAny_runValue ?_)
        have ls : l < s.heap.objs.size := Heap.lt_size hol
        have hh3 : A.in1.in1.in1.handled = none := by simp [hh]
        have sz : (s.heap.push (newSet led)).objs.size = s.heap.objs.size + 1 := Heap.size_push _ _
        unfold newSet at sz
        have n1 : l ≠ (s.heap.push { cls := .type "set", dict := none, data := .set #[] 0 (.fresh 0 0 led) }).objs.size := by
          rw [sz]
          exact Nat.ne_of_lt (Nat.lt_succ_of_lt ls)
        have n2 : s.heap.objs.size ∉ [(s.heap.push { cls := .type "set", dict := none, data := .set #[] 0 (.fresh 0 0 led) }).objs.size, l] := by
          rw [sz]
          intro z
          rcases List.mem_cons.mp z with z | z
          · exact absurd z (Nat.ne_of_lt (Nat.lt_succ_self _))
          · exact absurd (List.mem_singleton.mp z) (Nat.ne_of_gt ls)
        have hsz : xs.length = items.size := by rw [← StrsAre.len_eq hi, Array.length_toList]
        have hval : ∀ (i : Nat) (v : Value), items[i]? = some v → ∃ t x, v = .str x t ∧ xs[i]? = some x := fun i v hv => by
          obtain ⟨t, e⟩ := SS.strs_at hi i v (by rw [Array.getElem?_toList]; exact hv)
          have hlt : i < xs.length := by
            rw [hsz]
            exact (Array.getElem?_eq_some_iff.mp hv).1
          exact ⟨t, xs[i], by
            rw [e, List.getD_eq_getElem?_getD, List.getElem?_eq_getElem hlt]
            rfl, List.getElem?_eq_getElem hlt⟩
        refine fill_strs ((Walks.tuple hh3 _ l n1 items).toS) s.heap.objs.size n2 xs hsz (by rw [← hsz]; exact hn) hval (items.size - 0) 0 _ (by omega) (Nat.zero_le _)
          ⟨⟨_, Heap.get?_push_size _ rfl, rfl, rfl⟩, (hl1.push _)⟩ ?hS0 ?hR
        case hS0 =>
          exact SetOf_congr ((setObjOf_fresh (knd := PySem.strKind prog w) led).setOf (Heap.get?_push_of_some _ atS) (by unfold scanBound; omega)) (fun _ => rfl) rfl
        case hR =>
          intro s' mv set'
          obtain ⟨h', g', d', tk', os'⟩ := s'
          obtain rfl : g' = s.gens := mv.gens
          obtain rfl : d' = s.drawn := mv.drawn
          obtain rfl : os' = s.os := mv.os
          show wpAny _ _ _ _ _ _
          refine wpAny_pure ?_
          show wpAny _ _ (ret Value.none) _ _ _
          refine wpAny_pure ⟨rfl, h', tk', rfl, set', fun b o hb e => ?_⟩
          refine mv.heap b o ?_ (Heap.get?_push_of_some _ (Heap.get?_push_of_some _ e))
          rw [sz]
          intro z
          rcases List.mem_cons.mp z with z | z
          · exact absurd z (Nat.ne_of_lt hb)
          · exact absurd (List.mem_singleton.mp z) (Nat.ne_of_lt (Nat.lt_succ_of_lt hb))
      · cases r2 with
        | error e => exact hr2
        | ok fl2 =>
          cases fl2 with
          | next => exact hr2.elim
          | brk => exact hr2.elim
          | cont => exact hr2.elim
          | ret r =>
            obtain ⟨rfl, h', tk, rfl, set', old⟩ := hr2
            repeat (any_goals (first | assumption | wp_step))
            exact k _ _ set' old
end
section
variable {X : Cx}
/-- len(set(xs)) -/
def tLenS (K : PySem.W.Frag) (ta : TE) : TE := fun σ H Q => ta σ H fun x H1 => ∃ (l : Addr) (xs : List Str), x = .ref l ∧ (SqL K H1 l (xs.map V.str) ∨ SqT K H1 l (xs.map V.str)) ∧ xs.length ≤ 100 ∧ Q (.int (dis xs)) H1
theorem small100 {n : Nat} (h : n ≤ 100) : n + 1 < scanBound := by
  unfold scanBound
  omega
theorem pe_lenS {a : Expr} {ta : TE} {p p2 q pos : Pos} (hc : X.calm = true) (hm : X.mg "len" = none) (hm2 : X.mg "set" = none) (ha : PE X a ta) (hg : Gl X "len" := by rfl) (hg2 : Gl X "set" := by rfl)
    (na : starEach [a] X.env = (false, eval a X.env) :: starEach [] X.env := by rfl) : PE X (.Call (.Name "len" p) [.Call (.Name "set" p2) [a] [] q] [] pos) (tLenS X.K ta) := by
  refine ⟨fun pins s σ H Q I h => ?_⟩
  refine Call_ (ld_blt I hg hm boot_len ?_)
  refine callWith_builtin1 (args_cons ?_ rfl) rfl rfl
  refine Call_ (ld_blt I hg2 hm2 boot_set ?_)
  refine callWith_type1 (args_cons (thn (ha.run pins s σ H _ I h) fun v s1 ⟨x, H1, I1, r1, q1⟩ => args_nil ?_) na) na rfl
  obtain ⟨l, xs, rfl, hq, h1, q1⟩ := q1
  cases r1
  have fin : ∀ (h' : Heap) (tk : Nat), h'.SetOf (PySem.strKind X.prog X.w) s1.heap.objs.size (among xs) (dis xs) → (∀ b o, b < s1.heap.objs.size → s1.heap.get? b = some o → h'.get? b = some o) →
      wpAny (model X.prog X.w) X.A (spliced (backTo pos (starEach [] X.env))) (fun vs s2 => wpAny (model X.prog X.w) X.A (call (.builtin "len") (Value.ref s1.heap.objs.size :: vs)) (EP X pins σ Q) X.xe s2) X.xe { s1 with heap := h', toks := tk } := fun h' tk hS hk => by
    refine args_nil ?_
    obtain ⟨o, es, ep, t, ho, hex, hd, _, _, _, hf, hn⟩ := hS
    have I2 : Inv X pins σ H1 { s1 with heap := h', toks := tk } := I1.kept fun b o e => hk b o (Heap.lt_size e) e
    have le := dis_le xs
    refine call_len_set ho hex hd hf (by rw [hn]; omega) ⟨.int (dis xs), H1, I2.tok _, ⟨_, by rw [hn]⟩, q1⟩
  rcases hq with hq | hq
  · obtain ⟨its, r, pl, hz⟩ := I1.list hq
    exact set_of_list (I1.ok.hd hc) pl.isList (by simpa using strsAre_of r) (small100 h1) fin
  · obtain ⟨its, r, pl, hz⟩ := I1.tuple hq
    exact set_of_tuple (I1.ok.hd hc) pl (by simpa using strsAre_of r) (small100 h1) fin
end
end Fm

/-! ## FmIter -/
set_option Elab.async false
set_option maxRecDepth 100000
set_option maxHeartbeats 4000000
/-! Walks over what may be a list or a tuple; enumerate of a tuple. -/
namespace Fm
open PySem L2 PySem.Spec PyProof.Rows
open PySem.SeqAt
open MeetsSeq MeetsSeq2 MeetsSeq3 SeqRoads2
theorem draws_tuple {prog : Program} {w : World} {A : Around} (hh : A.handled = none) (it l : Addr) (hne : l ≠ it) (items : Array Value) :
    Draws prog w A it [it, l] items.size (fun i v => items[i]? = some v) (fun i h => h.IsTupleIter it l i ∧ h.IsTuple l items) where
  live := fun _ _ z => let ⟨o, ho, _⟩ := z.1; ⟨o, ho⟩
  frame := fun _ _ _ z k => ⟨z.1.at fun o e => k it (by simp) o e, let ⟨o, ho, r⟩ := z.2; ⟨o, k l (by simp) o ho, r⟩⟩
  item := fun i s Q E hi z q => RZ.nextOf_tuple_item z.1 z.2 (x := items[i]) (by simp [hi]) fun h' it' sb => q _ h' s.toks (by simp [hi]) ⟨it', let ⟨o, ho, r⟩ := z.2; ⟨o, (sb.2 l hne).trans ho, r⟩⟩ sb
  done := fun s Q E z q => RZ.nextOf_tuple_end hh z.1 z.2 (by simp) q
theorem meets_enum_tuple (l : Addr) (items : Array Value) (n : Nat) (dct : Option Addr) (sl : Array (Option Value)) :
    Meets (Builtin.«enumerate.__new__» ⟨[.type "enumerate", .ref l], []⟩) (fun _ R s => s.heap.get? l = some { cls := .type "tuple", dict := dct, data := .seq items n, slots := sl } ∧
      R (.ok (.ret (.ref (s.heap.push { cls := .type "tuple_iterator", data := .fields #[.ref l, .int 0 0] }).objs.size)))
        { s with heap := (s.heap.push { cls := .type "tuple_iterator", data := .fields #[.ref l, .int 0 0] }).push { cls := .type "enumerate", data := .fields #[.none, .bool false, .ref s.heap.objs.size, rawInt 0, .none, .none] } }) :=
  .of_wp fun prog w A R s h => by
    obtain ⟨hp, g, d, tk, os⟩ := s
    obtain ⟨hl, h⟩ := h
    have sub := sub_enumerate
    have tup : Heap.IsTuple (Shared.heap ⟨hp, g, d, tk, os⟩) l items := ⟨_, hl, rfl, n, rfl⟩
    wp_walk using AutoSeq1.wpAny_loadPart' hl
    refine wpAny_stack_any fun st => wpAny_pure ?_
    split
    · rename_i c _ _ _ _ _
      cases (c == Value.type "enumerate") <;>
        (wp_walk using AutoSeq1.wpAny_loadPart' hl, wpAny_pyIter_tuple tup; exact ⟨_, rfl, h⟩)
    · wp_walk using AutoSeq1.wpAny_loadPart' hl, wpAny_pyIter_tuple tup
      exact ⟨_, rfl, h⟩
section
variable {prog : Program} {w : World} {A : Around} {E : Value → Shared → Prop} {s : Shared}
theorem call_enum_tuple {l : Addr} {items : Array Value} {Q : Value → Shared → Prop} (ht : s.heap.IsTuple l items)
    (k : ∀ h', IsEnum h' (s.heap.objs.size + 1) s.heap.objs.size 0 .none → h'.IsTupleIter s.heap.objs.size l 0 → (∀ b o, s.heap.get? b = some o → h'.get? b = some o) → Q (.ref (s.heap.objs.size + 1)) { s with heap := h' }) :
    wpAny (model prog w) A (call (.type "enumerate") [.ref l]) Q E s := by
  obtain ⟨⟨c, dct, dt, sl⟩, hl, hc, n, hd⟩ := ht
  simp only at hc hd
  subst hc hd
  refine callType_new F.called_enumerate (by decide) (F.typeCall_enumerate_1 _) (F.newCall_enumerate_1 _) (fun ob => F.args_object_init_2 ob _) F.entry_enumerate_new (meets_enum_tuple l items n dct sl) ⟨hl, ?_⟩
  have sz : (s.heap.push { cls := .type "tuple_iterator", data := .fields #[.ref l, .int 0 0] }).objs.size = s.heap.objs.size + 1 := Heap.size_push ..
  show _ ∧ _
  have he := Heap.get?_push_size (s.heap.push { cls := .type "tuple_iterator", data := .fields #[.ref l, .int 0 0] }) (o := { cls := .type "enumerate", data := .fields #[.none, .bool false, .ref s.heap.objs.size, rawInt 0, .none, .none] }) rfl
  rw [sz] at he ⊢
  exact ⟨⟨_, he, rfl⟩, k _ he ⟨_, Heap.get?_push_of_some _ (Heap.get?_push_size _ rfl), rfl, rfl⟩ fun b o x => Heap.get?_push_of_some _ (Heap.get?_push_of_some _ x)⟩
end
/-- the tuple at a, its items in new pairs with their numbers -/
def Iet (K : PySem.W.Frag) (a : Addr) : It :=
  ⟨fun i H => ∃ xs x, SqT K H a xs ∧ xs[i]? = some x, fun i H v H' => ∃ T x, v = .ref T ∧ H T = none ∧ H' = upd H T (.tup [.int (i : Nat), x]) ∧ ∀ xs, SqT K H a xs → xs[i]? = some x, fun i H => ∃ xs, SqT K H a xs ∧ xs.length ≤ i⟩
theorem turn_et {P : Program} {w : World} {K : PySem.W.Frag} {elts : List Expr} {kk : Nat} {tpos : Pos} (a e it : Addr) (hai : a ≠ it) (hae : e ≠ a) :
    Turn P w K (.Tuple elts kk tpos) (Iet K a) [e, it] e (fun i h => (∃ old, IsEnum h e it ((i : Nat) : Int) old) ∧ h.IsTupleIter it a i ∧ e ≠ it) where
  mem := List.mem_cons_self
  obj := fun i h st b hb => by
    obtain ⟨⟨old, he⟩, ⟨o, ho, hc, hd⟩, _⟩ := st
    rcases List.mem_cons.mp hb with z | z
    · rw [z]
      exact ⟨_, he, fun v q => nomatch q⟩
    · rw [List.mem_singleton.mp z]
      exact ⟨o, ho, fun v q => by rw [hd] at q; cases q⟩
  keep := fun i h h' st k => by
    obtain ⟨⟨old, he⟩, hi, hne⟩ := st
    exact ⟨⟨old, k e (by simp) _ he⟩, hi.at fun o q => k it (by simp) o q, hne⟩
  item := by
    intro X hP hw hK hc i pins s σ H E I hf st hg
    subst hP hw hK
    obtain ⟨⟨old, he⟩, hit, hne⟩ := st
    obtain ⟨xs, x, hq, hx⟩ := hg
    obtain ⟨its, rv, tp, hz⟩ := I.tuple hq
    obtain ⟨u, hu, ru⟩ := rv.get hx
    have el : e < s.heap.objs.size := Heap.lt_size he
    have il : it < s.heap.objs.size := by
      obtain ⟨_, q, _⟩ := hit
      exact Heap.lt_size q
    have lt : i < its.toArray.size := by
      rw [List.size_toArray]
      exact (List.getElem?_eq_some_iff.mp hu).1
    have out : e ∉ [it, a] := by
      intro z
      rcases List.mem_cons.mp z with z | z
      · exact hne z
      · exact hae (List.mem_singleton.mp z)
    refine wpAny_pyNext_enum_itemD (draws_tuple (by show X.A.in1.handled = none; simpa using I.ok.hd hc) it a hai its.toArray) he ⟨hit, tp⟩ lt hne out fun y h' tk py ho hst' hT hsz hk => ?_
    obtain rfl : u = y := by
      have z : its.toArray[i]? = some u := by simpa using hu
      rw [z] at py
      exact Option.some.inj py
    refine ⟨_, rfl, wpAny_letOwnedTupleGo_enum (s := { s with heap := h', toks := tk + 1 }) ho fun h2 he2 sb => ?_⟩
    have hT2 : h2.get? s.heap.objs.size = some { cls := .type "tuple", data := .seq #[.int i tk, u] } := (sb.2 _ (Nat.ne_of_gt el)).trans hT
    have new : ObjOk X.prog X.w (upd H s.heap.objs.size (.tup [.int (i : Nat), x])) h2 s.heap.objs.size (.tup [.int (i : Nat), x]) :=
      ⟨by show 2 ≤ sizeLine; decide, [.int i tk, u], .cons ⟨_, rfl⟩ (.cons ru .nil), ⟨_, hT2, rfl, _, rfl⟩⟩
    have I1 : Inv X pins σ (upd H s.heap.objs.size (.tup [.int (i : Nat), x])) { s with heap := h2, toks := tk + 1 } :=
      I.turnedNew (ch := [e, it]) (fun b ob hb q => (sb.2 b (fun z => hb (by simp [z]))).trans (hk b ob (fun z => hb (by simp [z])) (fun z => hb (by simp [z])) q)) hf (Nat.le_refl _) new
    refine ⟨.ref s.heap.objs.size, _, I1, rfl, ⟨_, x, rfl, I.hok.fresh (Nat.le_refl _), rfl, fun ys hy => by rw [I.tuple_inj hy hq]; exact hx⟩, ⟨⟨u, ?_⟩, hst'.1.at fun o q => (sb.2 it (Ne.symm hne)).trans q, hne⟩, fun b hb => ?_⟩
    · rw [show ((i + 1 : Nat) : Int) = (i : Int) + 1 from rfl]
      exact he2
    · have lt' : b < s.heap.objs.size := by
        rcases List.mem_cons.mp hb with z | z
        · rw [z]; exact el
        · rw [List.mem_singleton.mp z]; exact il
      rw [upd_ne (Nat.ne_of_lt lt')]
      exact (hf b hb).1
  done := by
    intro X hP hw hK hc i pins s σ H E I hf st hg
    subst hP hw hK
    obtain ⟨⟨old, he⟩, hit, hne⟩ := st
    obtain ⟨xs, hq, hx⟩ := hg
    obtain ⟨its, rv, tp, hz⟩ := I.tuple hq
    obtain ⟨f0, f1, f2, f3, f4, f5⟩ := hf it (by simp)
    have len := rv.length
    have hh : X.A.in1.handled = none := by simpa using I.ok.hd hc
    have hT : s.TypeIs (.ref e) "enumerate" := ⟨_, he, rfl⟩
    unfold pyNext
    refine wpAny_bind (wpAny_attempt (wpAny_callSpecial?_slot (name := Str.ofString "__next__") hT F.slot_enumerate_next (wpAny_call_entry F.slot_enumerate_next hT F.entry_enumerate_next ?_ (F.args_enumerate_next_1 _))))
    show wpAny _ _ (field (.ref e) 2 >>= _) _ _ _
    refine wpAny_bind (wpAny_field he rfl (x := .ref it) rfl ?_)
    refine wpAny_bind (RZ.nextOf_tuple_end hh hit tp (by simp; omega) fun h' x he' hx' => ?_)
    obtain ⟨o, ho, hc'⟩ := hx'
    refine wpAny_bind (wpAny_isInstance (T := "StopIteration") (b := true) ⟨o, ho, hc'⟩ isSubtype_stop ?_)
    exact wpAny_pure ⟨rfl, I.turned (t' := s.toks) (fun b o hb q => he' b o hb q) f0 f1 f3 f4 f5⟩
  self := fun A i s Q E st h => let ⟨⟨_, he⟩, _⟩ := st; wpAny_pyIter_enum he h
theorem walk_et {K : PySem.W.Frag} {a : Addr} {xs : List V} : Walk (Iet K a) xs.length (fun H => SqT K H a xs) (YPair (fun i => some (.int (i : Nat))) (fun i => xs[i]?)) := by
  refine ⟨fun i _ hi q => ⟨xs, xs[i], q, by simp [hi]⟩, fun _ q => ⟨xs, q, Nat.le_refl _⟩, fun i H v H' _ q y => ?_⟩
  obtain ⟨T, x, h1, h2, h3, h4⟩ := y
  exact ⟨T, .int (i : Nat), x, h1, h2, h3, rfl, h4 xs q⟩
section
variable {X : Cx} {tg l : Expr} {tl : TE}
/-- the walk of a list or of a tuple, whichever it is -/
def SeqGo (K : PySem.W.Frag) (H : Hp) (a : Addr) (xs : List V) (R : It → Hp → Prop) : Prop := (SqL K H a xs ∧ R (Itl K a) H) ∨ (SqT K H a xs ∧ R (Itt K a) H)
def EnumGo (K : PySem.W.Frag) (H : Hp) (a : Addr) (xs : List V) (R : It → Hp → Prop) : Prop := (SqL K H a xs ∧ R (Ite K a) H) ∨ (SqT K H a xs ∧ R (Iet K a) H)
/-- over a list or a tuple -/
def iAny (K : PySem.W.Frag) (tl : TE) : TI := fun σ H R => tl σ H fun x H1 => ∃ (a : Addr) (xs : List V), x = .ref a ∧ SeqGo K H1 a xs R
theorem pi_any (hl : PE X l tl) : PI X tg l (iAny X.K tl) := by
  refine ⟨fun pins s σ H R I h => thn (hl.run pins s σ H _ I h) fun v s1 ⟨x, H1, I1, r1, a, xs, ex, q⟩ => ?_⟩
  subst ex
  cases r1
  have free : ∀ b ∈ [s1.heap.objs.size], b = s1.heap.objs.size := fun b hb => List.mem_singleton.mp hb
  rcases q with ⟨hq, q⟩ | ⟨hq, q⟩
  · obtain ⟨its, rv, lp, hz⟩ := I1.list hq
    refine wpAny_pyIter_list lp.isList ⟨s1.heap.objs.size, [s1.heap.objs.size], _, _, H1, rfl, I1.kept (t' := s1.toks) fun b o e => Heap.get?_push_of_some _ e, turn_list a _, ⟨_, Heap.get?_push_size _ rfl, rfl, rfl⟩, fun b hb => ?_, q⟩
    rw [free b hb]
    exact I1.fpOk (Nat.le_refl _) (I1.hok.fresh (Nat.le_refl _))
  · obtain ⟨its, rv, tp, hz⟩ := I1.tuple hq
    refine wpAny_pyIter_tuple (show s1.heap.IsTuple a its.toArray from tp) ⟨s1.heap.objs.size, [s1.heap.objs.size], _, _, H1, rfl, I1.kept (t' := s1.toks) fun b o e => Heap.get?_push_of_some _ e, turn_tuple a _, ⟨_, Heap.get?_push_size _ rfl, rfl, rfl⟩, fun b hb => ?_, q⟩
    rw [free b hb]
    exact I1.fpOk (Nat.le_refl _) (I1.hok.fresh (Nat.le_refl _))
theorem any_of {K : PySem.W.Frag} {H0 H : Hp} {a : Addr} {xs : List V} {R : It → Hp → Prop} (h : SqL K H0 a xs ∨ SqT K H0 a xs) (s : Same H0 H)
    (go : ∀ (J : It) (G : Hp → Prop), (∀ H', Same H0 H' → G H') → Walk J xs.length G (YAt xs) → R J H) : SeqGo K H a xs R := by
  rcases h with h | h
  · exact .inl ⟨s.seq h, go _ _ (fun H' s => s.seq h) walk_list⟩
  · exact .inr ⟨SqT.ext h s, go _ _ (fun H' s => SqT.ext h s) walk_tup⟩
theorem enum_of {K : PySem.W.Frag} {H0 H : Hp} {a : Addr} {xs : List V} {R : It → Hp → Prop} (h : SqL K H0 a xs ∨ SqT K H0 a xs) (s : Same H0 H)
    (go : ∀ (J : It) (G : Hp → Prop), (∀ H', Same H0 H' → G H') → Walk J xs.length G (YPair (fun i => some (.int (i : Nat))) (fun i => xs[i]?)) → R J H) : EnumGo K H a xs R := by
  rcases h with h | h
  · exact .inl ⟨s.seq h, go _ _ (fun H' s => s.seq h) walk_enum⟩
  · exact .inr ⟨SqT.ext h s, go _ _ (fun H' s => SqT.ext h s) walk_et⟩
/-- enumerate of a list or a tuple -/
def iEnumA (K : PySem.W.Frag) (ta : TA) : TI := fun σ H R => ta σ H fun vs H1 => ∃ (a : Addr) (xs : List V), vs = [.ref a] ∧ EnumGo K H1 a xs R
theorem pi_enumA {e : Expr} {ta : TA} {p pos tpos : Pos} {elts : List Expr} {kk : Nat} (hg : Gl X "enumerate") (hm : X.mg "enumerate" = none) (ha : PA X [e] ta) (hs : starEach [e] X.env = [(false, eval e X.env)] := by rfl) :
    PI X (.Tuple elts kk tpos) (.Call (.Name "enumerate" p) [e] [] pos) (iEnumA X.K ta) := by
  refine ⟨fun pins s σ H R I h => ?_⟩
  refine Call_ (ld_blt I hg hm boot_enumerate (PyProof.Rows.callWith_type1 (thn (ha.run pos pins s σ H _ I h) fun us s1 ⟨vs, H1, I1, r1, a, xs, ex, q⟩ => ?_) hs rfl))
  subst ex
  cases r1 with
  | cons r rr =>
    cases rr
    cases r
    have old : ∀ b ∈ [s1.heap.objs.size + 1, s1.heap.objs.size], s1.heap.objs.size ≤ b := fun b hb => by
      rcases List.mem_cons.mp hb with z | z
      · rw [z]; exact Nat.le_add_right _ _
      · rw [List.mem_singleton.mp z]; exact Nat.le_refl _
    rcases q with ⟨hq, q⟩ | ⟨hq, q⟩
    · obtain ⟨its, rv, lp, hz⟩ := I1.list hq
      refine call_enumerate_list lp.isList fun h' he hit hsz hk => wpAny_pyIter_enum he ?_
      exact ⟨s1.heap.objs.size + 1, [s1.heap.objs.size + 1, s1.heap.objs.size], _, _, H1, rfl, I1.kept (t' := s1.toks) hk, turn_enum a (s1.heap.objs.size + 1) s1.heap.objs.size, ⟨⟨.none, he⟩, hit, Nat.succ_ne_self _⟩, fun b hb => I1.fpOk (old b hb) (I1.hok.fresh (old b hb)), q⟩
    · obtain ⟨its, rv, tp, hz⟩ := I1.tuple hq
      have al : a < s1.heap.objs.size := by
        obtain ⟨o, ho, _⟩ := tp
        exact Heap.lt_size ho
      refine call_enum_tuple tp fun h' he hit hk => wpAny_pyIter_enum he ?_
      exact ⟨s1.heap.objs.size + 1, [s1.heap.objs.size + 1, s1.heap.objs.size], _, _, H1, rfl, I1.kept (t' := s1.toks) hk, turn_et a (s1.heap.objs.size + 1) s1.heap.objs.size (Nat.ne_of_lt al) (Nat.ne_of_gt (Nat.lt_succ_of_lt al)), ⟨⟨.none, he⟩, hit, Nat.succ_ne_self _⟩, fun b hb => I1.fpOk (old b hb) (I1.hok.fresh (old b hb)), q⟩
end
end Fm

/-! ## FmEq -/
set_option Elab.async false
set_option maxRecDepth 100000
set_option maxHeartbeats 4000000
/-! == by a class's own __eq__, beside anything; != of two of its objects. -/
namespace Fm
open PySem L2 PySem.Spec PyProof.Rows
section
variable {X : Cx} {k : Nat} {f C : Addr} {fd : FuncData} {ps : List Str} {sp : Sp}
/-- a call of the class's __eq__ answers as it promises -/
theorem run_eq {pins : List (Addr × Obj)} {σ : L2.St} {H : Hp} {s : Shared} {A : Around} {x y : V} {a : Addr} {v : Value} {R : Bool → Hp → Prop} (F : FnOk X.prog X.w X.K X.mg X.base CX0 k f fd ps sp) (hb : Binds X.K fd ps []) (hr : Room k A) (hf : A.frames = X.A.frames)
    (I : Inv X pins σ H s) (ex : x = .ref a) (ry : RelV y v) (h : sp [x, y] H (fun z H' => ∃ b, z = .bl b ∧ R b H') E0) :
    wpAny (model X.prog X.w) A (call (.ref f) [.ref a, v]) (fun r s' => ∃ b H', r = .bool b ∧ Inv X pins σ H' s' ∧ R b H') X.xe s := by
  subst ex
  have e := I.env0
  have e0 : Env0 X.prog X.w X.K X.mg X.base A X.stack s H := ⟨by rw [hf]; exact e.frames, e.mod, e.bs, e.bsz, e.funs, e.frf, e.hok, e.bare⟩
  have r2 : Vals [V.ref a, y] [Value.ref a, v] := .cons rfl (.cons ry .nil)
  have hl := F.len _ _ _ _ h
  have bt := hb s [.ref a, v] I.kIn (by simpa using hl)
  refine wpAny_call (codeAny_mono (F.run A X.stack s H ⟨[.ref a, v], []⟩ [.ref a, v] [.ref a, y] _ E0 hr e0 (by simpa using bt) r2 h) fun r s' hq => ?_)
  cases r with
  | error er => exact absurd hq (by intro z; exact z)
  | ok fl =>
    cases fl with
    | next => exact False.elim hq
    | brk => exact False.elim hq
    | cont => exact False.elim hq
    | ret u =>
      obtain ⟨z, H', I', rz, b, ez, q⟩ := I.after hq
      subst ez
      cases rz
      exact ⟨b, H', rfl, I', q⟩
/-- x == y, x of the class at C -/
def rEqI (K : PySem.W.Frag) (C : Addr) (sp : Sp) : R2 := fun x y H Q => ∃ (a dx : Addr) (fs : List (Str × V)) (t : Value), x = .ref a ∧ H a = some (.ins C dx fs) ∧ TyX K H y t ∧ PySem.W.notFirst K C t = true ∧ sp [x, y] H (fun z H' => ∃ b, z = .bl b ∧ Q (.bl b) H') E0
theorem op_eqI' (F : FnOk X.prog X.w X.K X.mg X.base CX0 k f fd ps sp) (hs : PySem.W.findIn X.K (.ref C) "__eq__" = some (some (.ref f))) (hf : PySem.W.isFn X.K (.ref f) = true) (hb : Binds X.K fd ps []) (hr : Room k X.A) :
    OpR X (compareOp .Eq) (rEqI X.K C sp) := by
  intro pins s σ H x y v u Q I rx ry h
  obtain ⟨a, dx, fs, t, ex, ha, ty, hn, hsp⟩ := h
  have ex' := ex
  subst ex
  cases rx
  obtain ⟨mA, J, _⟩ := ins_get I.hok ha
  obtain ⟨od, J, _⟩ := J.look
  obtain ⟨m, hF⟩ := I.fr
  obtain ⟨Pz, Z, pz, _⟩ := kit_of I ry ty
  show wpAny (model X.prog X.w) X.A (richCompare .Eq (.ref a) u) (EP X pins σ Q) X.xe s
  refine PySem.W.cmp_K (op := .Eq) (tb := t) hr.units0 hF I.ok.mod.kin J (Z.ty _ _ I.kIn pz) hn hs hf ?_
  refine wpAny_mono (run_eq (R := fun b H' => Q (.bl b) H') F hb hr rfl I ex' ry hsp) (fun r s' z => ?_) fun _ _ z => z
  obtain ⟨b, H', er, I', q⟩ := z
  subst er
  exact ⟨.bl b, H', I', rfl, q⟩
theorem if_builtin {M : Model} {A : Around} {E : Value → Shared → Prop} {s : Shared} {K : PySem.W.Frag} {x : Addr} {ox : Obj} {od : Option Obj} {name : Str} {T id : String} {args : List Value} {Q : Option Value → Shared → Prop}
    (X : K.In s.heap) (I : PySem.W.InstAt s.heap x ox C od) (hs : PySem.W.findIn K (.ref C) name = some (some (.builtin id))) (sl : Slot T name id) (h : wpAny M A (call (.builtin id) (.ref x :: args)) (fun v => Q (some v)) E s) :
    wpAny M A (callSpecialIfBound? (.ref x) name args) Q E s := by
  simp only [callSpecialIfBound?, bindSpecialIfBound?]
  refine wpAny_holding (wpAny_bind (wpAny_bind (wpAny_bind (I.type.here ((PySem.W.looks_findIn X hs).here ?_)))))
  refine wpAny_bind (wpAny_askSetting (wpAny_ite ?_))
  have fin : wpAny M A (call (.builtin id) ([.ref x] ++ args) >>= fun v => pure (some v)) Q E s := wpAny_bind (wpAny_mono h (fun v s' z => wpAny_pure z) fun _ _ z => z)
  rw [sl.bind (.ref x)]
  split
  · exact wpAny_bind (wpAny_pure (wpAny_pure (by exact fin)))
  · exact wpAny_tryCatch (wpAny_bind (wpAny_pure (wpAny_pure (by exact fin))))
/-- x != y, both of the class at C, which has no __ne__ of its own -/
def rNeI (C : Addr) (sp : Sp) : R2 := fun x y H Q => ∃ (a b dx dy : Addr) (fs gs : List (Str × V)), x = .ref a ∧ y = .ref b ∧ H a = some (.ins C dx fs) ∧ H b = some (.ins C dy gs) ∧ sp [x, y] H (fun z H' => ∃ c, z = .bl c ∧ Q (.bl (!c)) H') E0
theorem op_neI' (F : FnOk X.prog X.w X.K X.mg X.base CX0 k f fd ps sp) (hs : PySem.W.findIn X.K (.ref C) "__eq__" = some (some (.ref f))) (hf : PySem.W.isFn X.K (.ref f) = true) (hb : Binds X.K fd ps []) (hr : Room (k + 1) X.A)
    (hn : PySem.W.findIn X.K (.ref C) "__ne__" = some (some (.builtin "object.__ne__"))) (hm : PySem.W.mroIn X.K C (.type "object") = some true) :
    OpR X (compareOp .NotEq) (rNeI C sp) := by
  intro pins s σ H x y v u Q I rx ry h
  obtain ⟨a, b, dx, dy, fs, gs, ex, ey, ha, hb', hsp⟩ := h
  have ex' := ex
  have ey' := ey
  subst ex ey
  cases rx
  cases ry
  obtain ⟨mA, J, _⟩ := ins_get I.hok ha
  obtain ⟨od, J, _⟩ := J.look
  obtain ⟨mB, J2, _⟩ := ins_get I.hok hb'
  obtain ⟨od2, J2, _⟩ := J2.look
  have hr1 : Room k X.A.in1 := hr.in1
  have run := run_eq (A := X.A.in1) (R := fun c H' => Q (.bl (!c)) H') F hb hr1 rfl I ex' (y := .ref b) (v := .ref b) rfl hsp
  have units : X.A.in1.units < cLine := hr1.units0
  have body : wpAny (model X.prog X.w) X.A.in1 (Builtin.«object.__ne__» ⟨[.ref a, .ref b], []⟩) (fun fin s' => ∃ r, fin = .done (.ret r) ∧ EP X pins σ Q r s' ∧ r ≠ .notImplemented) X.xe s := by
    unfold Builtin.«object.__ne__»
    refine wpAny_bind (wpAny_of_eq (a := ((Value.ref a : Value), [Value.ref b])) (by first | rfl | (simp only [Builtin.slotArgs]; rfl)) ?_)
    refine wpAny_bind (wpAny_cRoomFor units ?_)
    refine wpAny_bind (PySem.W.ifBound_K I.kIn J hs hf (wpAny_mono run (fun r s' z => ?_) fun _ _ z => z))
    obtain ⟨c, H', er, I', q⟩ := z
    subst er
    refine wpAny_bind (wpAny_truthy_bool ?_)
    exact wpAny_pure ⟨_, rfl, ⟨.bl (!c), H', I', rfl, q⟩, fun z => nomatch z⟩
  have isub : PySem.W.Looks (model X.prog X.w) s.heap (isInstance (.ref a) (.type "object")) true := J.type.andThen (PySem.W.looks_mroIn I.kIn hm)
  have SF := PySem.F.cmp_object
  show wpAny (model X.prog X.w) X.A (richCompare .NotEq (.ref a) (.ref b)) (EP X pins σ Q) X.xe s
  unfold richCompare
  simp only [oneThing_ref]
  refine wpAny_holding (wpAny_bind (wpAny_cRoomFor hr.units0 ?_))
  rw [cmpInfo_NotEq]
  dsimp only
  refine wpAny_bind (J.type.here (wpAny_bind (J2.type.here ?_)))
  rw [show (Value.ref C != Value.ref C) = false from by simp]
  simp only [Bool.false_eq_true, if_false]
  refine wpAny_bind (wpAny_pure ?_)
  simp only [Bool.false_eq_true, if_false]
  unfold tryCompare
  refine wpAny_bind (wpAny_bind (if_builtin I.kIn J hn SF.ne (wpAny_call (codeAny_call_builtin SF.ne.plain PySem.F.cmpEntry_ne ?_))))
  refine PySem.W.check_slot PySem.F.cmpKind_ne PySem.F.cmpSplit_ne isub (PySem.F.cmpArgs_ne _ _) ?_
  refine wpAny_mono body (fun fin s' z => ?_) fun _ _ z => z
  obtain ⟨r, er, q, hr'⟩ := z
  subst er
  cases r
  case notImplemented => exact absurd rfl hr'
  all_goals exact wpAny_pure (wpAny_pure q)
/-- the class at C compares by a def of its own -/
structure Deq (P : Program) (w : World) (K : PySem.W.Frag) (mg : Str → Option Value) (base : Heap) (C : Addr) (k : Nat) (ps : List Str) (sp : Sp) : Prop where
  ex : ∃ (f : Addr) (fd : FuncData), FnOk P w K mg base CX0 k f fd ps sp ∧ PySem.W.findIn K (.ref C) "__eq__" = some (some (.ref f)) ∧ PySem.W.isFn K (.ref f) = true ∧ Binds K fd ps []
theorem op_eqO (D : Deq X.prog X.w X.K X.mg X.base C k ps sp) (hr : Room k X.A) : OpR X (compareOp .Eq) (rEqI X.K C sp) := by
  obtain ⟨f, fd, F, hs, hf, hb⟩ := D.ex
  exact op_eqI' F hs hf hb hr
theorem op_neO (D : Deq X.prog X.w X.K X.mg X.base C k ps sp) (hr : Room (k + 1) X.A) (hn : PySem.W.findIn X.K (.ref C) "__ne__" = some (some (.builtin "object.__ne__"))) (hm : PySem.W.mroIn X.K C (.type "object") = some true) :
    OpR X (compareOp .NotEq) (rNeI C sp) := by
  obtain ⟨f, fd, F, hs, hf, hb⟩ := D.ex
  exact op_neI' F hs hf hb hr hn hm
end
end Fm

/-! ## FmData -/
set_option Elab.async false
set_option maxRecDepth 100000
set_option maxHeartbeats 4000000
/-! Data as trees over heaps; names; what as_tuples makes of data. -/
namespace Fm
open PySem L2
section
variable {K : PySem.W.Frag} {H H' H1 H2 N M : Hp}
theorem same_sqT {a : Addr} {xs : List V} (e : Same H H') (h : SqT K H a xs) : SqT K H' a xs := by
  rcases h with (h | ⟨o, h⟩) | h
  · exact .inl (.inl (e _ _ h))
  · exact .inl (.inr ⟨o, e _ _ h⟩)
  · exact .inr h
mutual
theorem dp_mono (e : Same H H') : ∀ (d : PyData) (v : V), Dp K H v d → Dp K H' v d
  | .none, _, h => by cases h; exact .non
  | .bool b, _, h => by cases h; exact .bl b
  | .int i, _, h => by cases h; exact .int i
  | .str x, _, h => by cases h; exact .str x
  | .list ds, _, h => by
    cases h with
    | lst hs ha => exact .lst (e.seq hs) (dpA_mono e ds _ ha)
  | .tuple ds, _, h => by
    cases h with
    | tup hs ha => exact .tup (same_sqT e hs) (dpA_mono e ds _ ha)
  | .dict _, _, h => by cases h
theorem dpA_mono (e : Same H H') : ∀ (ds : List PyData) (vs : List V), DpAll K H vs ds → DpAll K H' vs ds
  | [], _, h => by cases h; exact .nil
  | d :: ds, _, h => by
    cases h with
    | cons h1 h2 => exact .cons (dp_mono e d _ h1) (dpA_mono e ds _ h2)
end
theorem dpA_len : ∀ {ds : List PyData} {vs : List V}, DpAll K H vs ds → vs.length = ds.length
  | [], _, h => by cases h; rfl
  | d :: ds, _, h => by
    cases h with
    | cons h1 h2 => rw [List.length_cons, List.length_cons, dpA_len h2]
theorem dpA_at : ∀ {ds : List PyData} {vs : List V} {i : Nat} {v : V}, DpAll K H vs ds → vs[i]? = some v → ∃ d, ds[i]? = some d ∧ Dp K H v d
  | [], _, i, v, h, e => by cases h; simp at e
  | d :: ds, _, 0, v, h, e => by
    cases h with
    | cons h1 h2 =>
      simp at e
      subst e
      exact ⟨d, rfl, h1⟩
  | d :: ds, _, i + 1, v, h, e => by
    cases h with
    | cons h1 h2 =>
      simp at e
      obtain ⟨z, q1, q2⟩ := dpA_at h2 e
      exact ⟨z, by simpa using q1, q2⟩
theorem dpA_snoc : ∀ {ds : List PyData} {vs : List V} {d : PyData} {v : V}, DpAll K H vs ds → Dp K H v d → DpAll K H (vs ++ [v]) (ds ++ [d])
  | [], _, d, v, h, q => by cases h; exact .cons q .nil
  | c :: ds, _, d, v, h, q => by
    cases h with
    | cons h1 h2 => exact .cons h1 (dpA_snoc h2 q)
theorem dpA_strs : ∀ (xs : List Str), DpAll K H (xs.map V.str) (xs.map PyData.str)
  | [] => .nil
  | x :: xs => .cons (.str x) (dpA_strs xs)
theorem dpA_strs_inv : ∀ {xs : List Str} {vs : List V}, DpAll K H vs (xs.map PyData.str) → vs = xs.map V.str
  | [], _, h => by cases h; rfl
  | x :: xs, _, h => by
    cases h with
    | cons h1 h2 =>
      cases h1
      rw [dpA_strs_inv h2]
      rfl
/-! ### what is new -/
/-- N holds things that are new behind H, as they stand in H' -/
def Fresh (H H' N : Hp) : Prop := ∀ a o, N a = some o → H a = none ∧ H' a = some o
def uni (N M : Hp) : Hp := fun a => match N a with
  | some o => some o
  | none => M a
def nil0 : Hp := fun _ => none
theorem fresh_nil : Fresh H H' nil0 := fun _ _ h => by cases h
theorem same_uni : Same N (uni N M) := fun a o h => by
  unfold uni
  rw [h]
theorem uni_or {a : Addr} {o : HO} (h : uni N M a = some o) : N a = some o ∨ (N a = none ∧ M a = some o) := by
  unfold uni at h
  cases q : N a with
  | some u =>
    rw [q] at h
    exact .inl h
  | none =>
    rw [q] at h
    exact .inr ⟨rfl, h⟩
theorem fresh_uni (f : Fresh H H1 N) (g : Fresh H1 H2 M) (s : Same H H1) (t : Same H1 H2) : Fresh H H2 (uni N M) := fun a o h => by
  rcases uni_or h with h | ⟨_, h⟩
  · exact ⟨(f a o h).1, t _ _ (f a o h).2⟩
  · exact ⟨s.free (g a o h).1, (g a o h).2⟩
theorem same_uni2 (f : Fresh H H1 N) (g : Fresh H1 H2 M) : Same M (uni N M) := fun a o h => by
  unfold uni
  cases q : N a with
  | none => exact h
  | some u =>
    have z := (f a u q).2
    rw [(g a o h).1] at z
    cases z
theorem fresh_back (s : Same H H1) (f : Fresh H1 H2 N) : Fresh H H2 N := fun a o h => ⟨s.free (f a o h).1, (f a o h).2⟩
theorem fresh_new (f : Fresh H H1 N) (s : Same H H1) {p : Addr} (o : HO) (hp : H1 p = none) : Fresh H (upd H1 p o) (upd N p o) := fun a u h => by
  by_cases e : a = p
  · subst e
    rw [upd_same] at h ⊢
    exact ⟨s.free hp, h⟩
  · rw [upd_ne e] at h ⊢
    exact f a u h
theorem same_freshNew (f : Fresh H H1 N) {p : Addr} (o : HO) (hp : H1 p = none) : Same N (upd N p o) := fun a u h => by
  have e : a ≠ p := fun z => by
    have q := (f a u h).2
    rw [z, hp] at q
    cases q
  rw [upd_ne e]
  exact h
/-- what is spoken of, and what is new, as one part of the heap -/
theorem grow_fresh {F : Hp} (s : Same F H) (t : Same H H') (f : Fresh H H' N) : Grow F H (uni F N) H' := by
  refine ⟨same_uni, fun a o h => ?_, fun a o h1 h2 => ⟨?_, t _ _ h2⟩⟩
  · rcases uni_or h with h | ⟨_, h⟩
    · exact t _ _ (s _ _ h)
    · exact (f a o h).2
  · unfold uni
    rw [h1]
    cases q : N a with
    | none => rfl
    | some u =>
      have z := (f a u q).1
      rw [h2] at z
      cases z
theorem same_grow {F : Hp} (s : Same F H) (f : Fresh H H' N) : Same N (uni F N) := fun a o h => by
  unfold uni
  cases q : F a with
  | none => exact h
  | some u =>
    have z := s a u q
    rw [(f a o h).1] at z
    cases z
theorem bag_same {F : Hp} {b : Addr} (B : Bag F H b) (t : Same H H') : Bag F H' b := by
  obtain ⟨s, fb, cl, ns, p, g, z, c, h, e1, e2, e3, e4, r⟩ := B
  exact ⟨s.trans t, fb, cl, ns, p, g, z, c, h, e1, e2, t _ _ e3, t _ _ e4, r⟩
end
/-! ### rows as tuples -/
mutual
def tupd : PyData → PyData
  | .list xs => .tuple (tupdL xs)
  | .tuple xs => .tuple (tupdL xs)
  | .none => .none
  | .bool b => .bool b
  | .int i => .int i
  | .str s => .str s
  | .dict kvs => .dict kvs
def tupdL : List PyData → List PyData
  | [] => []
  | d :: ds => tupd d :: tupdL ds
end
theorem tupdL_map : ∀ ds : List PyData, tupdL ds = ds.map tupd
  | [] => rfl
  | d :: ds => by
    show tupd d :: tupdL ds = tupd d :: ds.map tupd
    rw [tupdL_map ds]
/-- data of at most so many rows one in the other, none of them long -/
inductive Dn : Nat → PyData → Prop
  | none (n : Nat) : Dn (n + 1) .none
  | bool (n : Nat) (b : Bool) : Dn (n + 1) (.bool b)
  | int (n : Nat) (i : Int) : Dn (n + 1) (.int i)
  | str (n : Nat) (s : Str) : Dn (n + 1) (.str s)
  | list (n : Nat) (ds : List PyData) : (∀ d ∈ ds, Dn n d) → ds.length ≤ 100000 → Dn (n + 1) (.list ds)
  | tuple (n : Nat) (ds : List PyData) : (∀ d ∈ ds, Dn n d) → ds.length ≤ 100000 → Dn (n + 1) (.tuple ds)
theorem dn_strs {n : Nat} {xs : List Str} (h : xs.length ≤ 100000) : (∀ d ∈ xs.map PyData.str, Dn (n + 1) d) ∧ (xs.map PyData.str).length ≤ 100000 := by
  refine ⟨fun d m => ?_, by rw [List.length_map]; exact h⟩
  obtain ⟨x, _, rfl⟩ := List.mem_map.mp m
  exact .str n x
theorem bl_map {α : Type} (f : α → Bool) (xs : List α) : (xs.map fun c => V.bl (f c)) = (xs.map f).map V.bl := by
  rw [List.map_map]
  rfl
theorem flat_strs (xs : List Str) : (xs.map V.str).all flatV = true := by
  rw [List.all_map]
  exact List.all_eq_true.mpr fun _ _ => rfl
theorem inV_str (n : Str) (xs : List Str) : inV (.str n) (xs.map V.str) = decide (n ∈ xs) := by
  unfold inV
  rw [List.any_map]
  by_cases h : n ∈ xs
  · rw [decide_eq_true h]
    exact List.any_eq_true.mpr ⟨n, h, beq_self_eq_true n⟩
  · rw [decide_eq_false h]
    refine List.any_eq_false.mpr fun y m => ?_
    show ¬ (y == n) = true
    intro e
    rw [eq_of_beq e] at m
    exact h m
theorem nodup_take {α : Type} {l : List α} (hN : l.Nodup) {i : Nat} {x : α} (h : l[i]? = some x) : x ∉ l.take i := fun m => by
  obtain ⟨j, hj, e⟩ := List.getElem_of_mem m
  have q : l[j]? = some x := by
    rw [List.length_take] at hj
    rw [List.getElem_take] at e
    rw [← e]
    exact List.getElem?_eq_getElem _
  have z := nd_ix hN q h
  rw [List.length_take] at hj
  omega
/-! ### rules whose K is told, for the inside of a comprehension -/
section
variable {X : Cx} {K : PySem.W.Frag}
theorem ixK_seq (h : X.K = K := by rfl) : IxR X (rIx K) := by subst h; exact ix_seq
theorem ixK_list (h : X.K = K := by rfl) : IxR X (rIxL K) := by subst h; exact ix_list
theorem ixK_tup (h : X.K = K := by rfl) : IxR X (rIxT K) := by subst h; exact ix_tup
theorem cK_len_seq (h : X.K = K := by rfl) : CallR X (.builtin "len") (fun xs H Q => ∃ p ys, xs = [.ref p] ∧ (SqL K H p ys ∨ SqT K H p ys) ∧ Q (.int ys.length) H) := by subst h; exact call_len_seq
theorem cK_isi (h : X.K = K := by rfl) : CallR X (.builtin "isinstance") (rIsi K) := by subst h; exact call_isi
theorem cK_isiT (h : X.K = K := by rfl) : CallR X (.builtin "isinstance") (rIsiT K) := by subst h; exact call_isiT
theorem cK_list_of (h : X.K = K := by rfl) : CallR X (.type "list") (fun xs H Q => ∃ p ys, xs = [.ref p] ∧ (SqL K H p ys ∨ SqT K H p ys) ∧ ∀ l, H l = none → Q (.ref l) (upd H l (.lst ys))) := by subst h; exact call_list_of
theorem cK_tuple_of (h : X.K = K := by rfl) : CallR X (.type "tuple") (fun xs H Q => ∃ p ys, xs = [.ref p] ∧ ((SqL K H p ys ∧ ∀ l, H l = none → Q (.ref l) (upd H l (.tup ys))) ∨ (SqT K H p ys ∧ Q (.ref p) H))) := by subst h; exact call_tuple_of
end
/-! ### names -/
def isNm (s : Str) : Bool := decide (1 ≤ s.length) && decide (s.length ≤ 8) && s.cps.toList.all fun c => decide (97 ≤ c) && decide (c ≤ 122)
def letters : Str := "abcdefghijklmnopqrstuvwxyz"
theorem letters_list : letters.cps.toList = List.range' 97 26 := by decide +kernel
theorem letters_mem (c : Nat) : decide (c ∈ letters.cps.toList) = (decide (97 ≤ c) && decide (c ≤ 122)) := by
  rw [letters_list]
  by_cases h : c ∈ List.range' 97 26
  · rw [decide_eq_true h]
    have q := List.mem_range'_1.mp h
    simp
    omega
  · rw [decide_eq_false h]
    have q : ¬ (97 ≤ c ∧ c < 97 + 26) := fun z => h (List.mem_range'_1.mpr z)
    symm
    rw [← Bool.decide_and]
    exact decide_eq_false (by omega)
end Fm

/-! ## K07A -/
set_option Elab.async false
set_option maxRecDepth 100000
set_option maxHeartbeats 4000000
namespace Fm
open PySem L2
def topS (i : Nat) : Stmt := PySem.Challenge.pw_firstmet_k07_three_hundred_rows.main.body.getD i (.Pass ⟨0, 0, 0, 0⟩)
/-- what the top has left of names -/
structure Txt (K : PySem.W.Frag) (mg : Str → Option Value) (CS : Addr) : Prop where
  n_len : mg "len" = none
  n_list : mg "list" = none
  n_tuple : mg "tuple" = none
  n_isinstance : mg "isinstance" = none
  n_str : mg "str" = none
  n_dict : mg "dict" = none
  n_bool : mg "bool" = none
  n_int : mg "int" = none
  n_max : mg "max" = none
  n_all : mg "all" = none
  n_set : mg "set" = none
  n_range : mg "range" = none
  n_enumerate : mg "enumerate" = none
  n_sum : mg "sum" = none
  g_LETTERS : ∃ t, mg "LETTERS" = some (.str "abcdefghijklmnopqrstuvwxyz" t)
  g_LONGEST_NAME : ∃ t, mg "LONGEST_NAME" = some (.int 8 t)
  g_MOST_TABLES : ∃ t, mg "MOST_TABLES" = some (.int 5 t)
  g_MOST_FIELDS : ∃ t, mg "MOST_FIELDS" = some (.int 4 t)
  g_LARGEST_VALUE : ∃ t, mg "LARGEST_VALUE" = some (.int 1000000000 t)
  g_MOST_ROWS : ∃ t, mg "MOST_ROWS" = some (.int 300 t)
  g_Shape : mg "Shape" = some (.ref CS)
  cl : Cls K CS
  nT : NoAttr K CS "tables"
  c_cls : PySem.W.findIn K (.ref CS) "__class__" = some (some (.builtin "object.__class__"))
  c_get : PySem.W.specialIn K (.builtin "object.__class__") "__get__" = some (some (.builtin "getset_descriptor.__get__"))
  c_tak : PySem.W.takesIn K (.builtin "object.__class__") = some true
  c_mro : PySem.W.mroIn K CS (.type "object") = some true
  c_ne : PySem.W.findIn K (.ref CS) "__ne__" = some (some (.builtin "object.__ne__"))
  c_isi : ∀ n ∈ ["NoneType", "bool", "int", "str", "list", "tuple", "dict"], PySem.W.kitOne K (.type n) (.ref CS) = some false
  c_nf : ∀ n ∈ ["NoneType", "bool", "int", "str", "list", "tuple", "dict"], PySem.W.notFirst K CS (.type n) = true
section
variable {P : Program} {w : World} {K : PySem.W.Frag} {mg : Str → Option Value} {base : Heap} {CS : Addr}
abbrev s_l_pick : Stmt := topS 31
abbrev sc_l_pickN : List Str := ["_law_bag_here", "_law_many", "_law_cell", "_law_found", "_law_one"]
abbrev ps_l_pick : List Str := ["_law_bag_here", "_law_many"]
theorem sc_l_pick : FnScope sc_l_pickN ps_l_pick (defScope s_l_pick) := ⟨rfl, rfl, rfl, by decide +kernel, rfl, by decide +kernel, by decide +kernel⟩
theorem ok_l_pick {f : Addr} {fd : FuncData} (F : Fun K "_law_pick" "_law_pick" s_l_pick f fd) (T : Txt K mg CS) : FnOk P w K mg base CX0 1 f fd ps_l_pick spPick := by
  refine F.ok sc_l_pick (fun vs H Q E h => ?_) (fun cdv A outer s H vs Q E hr h => ?_)
  · obtain ⟨_, _, _, rfl, _⟩ := h
    rfl
  · obtain ⟨F0, b, m, rfl, m0, m1, ⟨hs, hfb, cl, ns, p, g, z, c, hh, hcl0, hcb, hcl, hb, p0, g0, z0, z1⟩, k⟩ := h
    have fin : ∀ (r p' g' z' c' h' : Int) (H' : Hp), 0 ≤ r → r < m → 0 ≤ p' → 0 ≤ g' → 0 ≤ z' → z' < 2147483647 → (∀ a, a ≠ b → H' a = H a) → H' b = some (.lst [.ref cl, .int p', .int g', .int z', .int c', .int h']) → Q (.int r) H' :=
      fun r p' g' z' c' h' H' r0 r1 q0 q1 q2 q3 ho hb' => k r H' r0 r1 ⟨fun a o e => by
        have n : a ≠ b := fun q => by rw [q, hfb] at e; cases e
        rw [ho a n]; exact hs a o e, hfb, cl, ns, p', g', z', c', h', hcl0, hcb, by rw [ho cl hcb]; exact hcl, hb', q0, q1, q2, q3⟩
    refine ⟨_, (pss_cons (ps_asg (pe_op op_add (pe_ix ix_list (pv 0) pe_int (fun _ _ => rfl)) pe_int) (pg_sub (pv 0) pe_int set_list))
  (Evl.pss_cut (ps_if (PW.pt (pw_and (pt_cmpR op_eq (pe_ix ix_list (pv 0) pe_int (fun _ _ => rfl)) pe_int (nomark _)) (pw_and (pt_cmpR op_eq (pe_ix ix_list (pv 0) pe_int (fun _ _ => rfl)) pe_int (nomark _)) (pw_and1 (pt_cmpR op_lt (pe_ix ix_list (pv 0) pe_int (fun _ _ => rfl)) (pe_callB call_len_seq (by rfl) T.n_len (by decide +kernel) (pa_cons (pe_ix ix_list (pv 0) pe_int (fun _ _ => rfl)) pa_nil)) (nomark _))))))
    (pss_cons (ps_set (i := 2) sc_l_pick.nd rfl (Or.inl rfl) (pe_ix ix_list (pe_ix ix_list (pv 0) pe_int (fun _ _ => rfl)) (pe_ix ix_list (pv 0) pe_int (fun _ _ => rfl)) (fun _ _ => rfl)))
    (pss_cons (ps_asg (pe_op op_add (pe_ix ix_list (pv 0) pe_int (fun _ _ => rfl)) pe_int) (pg_sub (pv 0) pe_int set_list))
    (pss_one (ps_if (pt_cmpR op_ge (pv 2) (pe_op op_pow pe_int pe_int) (nomark _))
      (pss_one (ps_asg (pv 2) (pg_sub (pv 0) pe_int set_list)))
      (pss_cons (ps_asg (pe_op op_modN (pe_callTy call_int1 (by rfl) T.n_int (by decide +kernel) (pa_cons (pe_op op_add (pe_op op_add (pe_op op_mul (pe_ix ix_list (pv 0) pe_int (fun _ _ => rfl)) pe_int) (pv 2)) pe_int) pa_nil)) pe_int) (pg_sub (pv 0) pe_int set_list))
      (pss_one (ps_asg pe_int (pg_sub (pv 0) pe_int set_list))))))))
    pss_nil)
  (pss_cons (ps_if (pt_cmpR op_gt (pe_ix ix_list (pv 0) pe_int (fun _ _ => rfl)) pe_int (nomark _))
    (pss_cons (ps_set (i := 3) sc_l_pick.nd rfl (Or.inl rfl) (pe_op op_modN (pe_callTy call_int1 (by rfl) T.n_int (by decide +kernel) (pa_cons (pe_ix ix_list (pv 0) pe_int (fun _ _ => rfl)) pa_nil)) (pv 1)))
    (pss_cons (ps_asg (pe_op op_fdivN (pe_ix ix_list (pv 0) pe_int (fun _ _ => rfl)) (pv 1)) (pg_sub (pv 0) pe_int set_list))
    (pss_one (ps_ret (pv 3)))))
    pss_nil)
  (pss_cons (ps_asg (pe_callB (call_max2 (by rfl)) (by rfl) T.n_max (by decide +kernel) (pa_cons pe_int (pa_cons (pe_op op_sub (pe_ix ix_list (pv 0) pe_int (fun _ _ => rfl)) pe_int) pa_nil))) (pg_sub (pv 0) pe_int set_list))
  (pss_cons (ps_set (i := 4) sc_l_pick.nd rfl (Or.inl rfl) (pe_op op_modN (pe_callTy call_int1 (by rfl) T.n_int (by decide +kernel) (pa_cons (pe_op op_mul (pe_op op_add (pe_op op_add (pe_ix ix_list (pv 0) pe_int (fun _ _ => rfl)) (pe_op op_mul pe_int (pe_ix ix_list (pv 0) pe_int (fun _ _ => rfl)))) pe_int) pe_int) pa_nil)) pe_int))
  (pss_cons (ps_set (i := 4) sc_l_pick.nd rfl (Or.inl rfl) (pe_op op_modN (pe_callTy call_int1 (by rfl) T.n_int (by decide +kernel) (pa_cons (pe_op op_mul (pv 4) (pe_op op_add (pe_op op_fdivN (pv 4) pe_int) pe_int)) pa_nil)) pe_int))
  (pss_cons (ps_set (i := 4) sc_l_pick.nd rfl (Or.inl rfl) (pe_op op_modN (pe_callTy call_int1 (by rfl) T.n_int (by decide +kernel) (pa_cons (pe_op op_mul (pv 4) (pe_op op_add (pe_op op_fdivN (pv 4) pe_int) pe_int)) pa_nil)) pe_int))
  (pss_one (ps_ret (pe_op op_modN (pe_callTy call_int1 (by rfl) T.n_int (by decide +kernel) (pa_cons (pe_op op_fdivN (pv 4) pe_int) pa_nil)) (pv 1))))))))))), ?_⟩
    have nzM : (2147483647 : Int) ≠ 0 := by decide
    have nzM2 : (2147483399 : Int) ≠ 0 := by decide
    -- one more asked
    refine ⟨_, rfl, b, _, _, _, rfl, rfl, .inl (.inl hb), rfl, _, _, rfl, rfl, _, rfl, b, _, _, _, rfl, rfl, hb, rfl, ?_⟩
    -- a new cell
    refine ⟨fun σ' H' => ∃ (p' g' z' h' : Int) (v : Option V), σ' = [some (.ref b), some (.int m), v, none, none] ∧ 0 ≤ p' ∧ 0 ≤ g' ∧ 0 ≤ z' ∧ z' < 2147483647 ∧ (∀ a, a ≠ b → H' a = H a) ∧
      H' b = some (.lst [.ref cl, .int p', .int g', .int z', .int (c + 1), .int h']), ?_, ?_⟩
    · have stay : ∀ a, a ≠ b → (upd H b (.lst [.ref cl, .int p, .int g, .int z, .int (c + 1), .int hh])) a = H a := fun a n => upd_ne n
      refine ⟨_, rfl, b, _, _, _, rfl, rfl, .inl (.inl upd_same), rfl, rfl, _, rfl, ifd (fun _ => ?_) fun _ => iteF ⟨p, g, z, hh, _, rfl, p0, g0, z0, z1, stay, upd_same⟩⟩
      refine ⟨_, rfl, b, _, _, _, rfl, rfl, .inl (.inl upd_same), rfl, rfl, _, rfl, ifd (fun _ => ?_) fun _ => iteF ⟨p, g, z, hh, _, rfl, p0, g0, z0, z1, stay, upd_same⟩⟩
      refine ⟨_, rfl, b, _, _, _, rfl, rfl, .inl (.inl upd_same), rfl, _, rfl, b, _, _, _, rfl, rfl, .inl (.inl upd_same), rfl, cl, _, rfl, .inl (.inl (.inl (by rw [upd_ne hcb]; exact hcl))), _, _, rfl, rfl, _, rfl, ifd (fun hlt => ?_) fun _ => ⟨p, g, z, hh, _, rfl, p0, g0, z0, z1, stay, upd_same⟩⟩
      rw [List.length_map] at hlt
      obtain ⟨n, rfl⟩ : ∃ n : Nat, p = (n : Int) := ⟨p.toNat, by omega⟩
      obtain ⟨u, hu⟩ : ∃ u, ns[n]? = some u := ⟨_, List.getElem?_eq_getElem (by omega)⟩
      refine ⟨_, rfl, b, _, _, _, rfl, rfl, .inl (.inl upd_same), rfl, _, rfl, b, _, _, _, rfl, rfl, .inl (.inl upd_same), rfl, cl, _, _, _, rfl, rfl, .inl (.inl (by rw [upd_ne hcb]; exact hcl)), atI_nat (by rw [List.getElem?_map, hu]; rfl), ?_⟩
      refine ⟨_, rfl, b, _, _, _, rfl, rfl, .inl (.inl upd_same), rfl, _, _, rfl, rfl, _, rfl, b, _, _, _, rfl, rfl, upd_same, rfl, ?_⟩
      refine ⟨_, rfl, _, _, rfl, rfl, ⟨by decide, by decide, by decide⟩, _, _, rfl, rfl, _, rfl, ifd (fun hge => ?_) fun _ => ?_⟩
      · refine ⟨_, rfl, _, rfl, b, _, _, _, rfl, rfl, upd_same, rfl, ?_⟩
        have hge' : (10 : Int) ^ 18 ≤ u := hge
        exact ⟨(n : Int) + 1, u, z, hh, _, rfl, by omega, by omega, z0, z1, fun a n => by rw [upd_ne n, upd_ne n, upd_ne n], upd_same⟩
      · refine ⟨_, rfl, b, _, _, _, rfl, rfl, .inl (.inl upd_same), rfl, _, _, rfl, rfl, .inl ⟨by omega, by omega⟩, _, rfl, _, _, rfl, rfl, _, _, rfl, rfl, .inl ⟨_, rfl, _, _, rfl, rfl, nzM, _, rfl, b, _, _, _, rfl, rfl, upd_same, rfl, ?_⟩⟩
        refine ⟨_, rfl, b, _, _, _, rfl, rfl, upd_same, rfl, ?_⟩
        exact ⟨(n : Int) + 1, g, _, 6, _, rfl, by omega, g0, fmod_lo (by decide), fmod_hi (by decide), fun a n => by rw [upd_ne n, upd_ne n, upd_ne n, upd_ne n], upd_same⟩
    · rintro σ' H' ⟨p', g', z', h', v, rfl, p0', g0', z0', z1', ho, hb'⟩
      refine ⟨_, rfl, b, _, _, _, rfl, rfl, .inl (.inl hb'), rfl, _, _, rfl, rfl, _, rfl, ifd (fun hg => ?_) fun _ => ?_⟩
      · refine ⟨_, rfl, b, _, _, _, rfl, rfl, .inl (.inl hb'), rfl, .inl ⟨_, rfl, _, rfl, _, _, rfl, rfl, Int.ne_of_gt m0, ?_⟩⟩
        refine ⟨_, rfl, b, _, _, _, rfl, rfl, .inl (.inl hb'), rfl, _, rfl, _, _, rfl, rfl, ⟨Int.ne_of_gt m0, by omega⟩, _, rfl, b, _, _, _, rfl, rfl, hb', rfl, ?_⟩
        refine ⟨_, rfl, ?_⟩
        exact fin _ p' _ z' _ h' _ (fmod_lo m0) (fmod_hi m0) p0' (fdiv_lo g0' m0) z0' z1' (fun a n => by rw [upd_ne n]; exact ho a n) upd_same
      · refine ⟨_, rfl, b, _, _, _, rfl, rfl, .inl (.inl hb'), rfl, _, _, rfl, rfl, _, _, rfl, _, rfl, b, _, _, _, rfl, rfl, hb', rfl, ?_⟩
        refine ⟨_, rfl, b, _, _, _, rfl, rfl, .inl (.inl upd_same), rfl, _, rfl, b, _, _, _, rfl, rfl, .inl (.inl upd_same), rfl, _, _, rfl, rfl, .inl ⟨by decide, by decide⟩, _, _, rfl, rfl, _, _, rfl, rfl, _, _, rfl, rfl, .inr ⟨by decide, by decide⟩, .inl ⟨_, rfl, _, _, rfl, rfl, nzM, ?_⟩⟩
        refine ⟨_, rfl, _, rfl, _, _, rfl, rfl, ⟨by decide, by decide⟩, _, _, rfl, rfl, _, _, rfl, rfl, .inl (fmod64 _ (by decide) (by decide)), .inl ⟨_, rfl, _, _, rfl, rfl, nzM, ?_⟩⟩
        refine ⟨_, rfl, _, rfl, _, _, rfl, rfl, ⟨by decide, by decide⟩, _, _, rfl, rfl, _, _, rfl, rfl, .inl (fmod64 _ (by decide) (by decide)), .inl ⟨_, rfl, _, _, rfl, rfl, nzM2, ?_⟩⟩
        refine ⟨_, rfl, _, _, rfl, rfl, ⟨by decide, by decide⟩, .inl ⟨_, rfl, _, rfl, _, _, rfl, rfl, Int.ne_of_gt m0, ?_⟩⟩
        exact fin _ p' g' z' _ _ _ (fmod_lo m0) (fmod_hi m0) p0' g0' z0' z1' (fun a n => by rw [upd_ne n]; exact ho a n) upd_same
end
end Fm

/-! ## K07B -/
set_option Elab.async false
set_option maxRecDepth 100000
set_option maxHeartbeats 4000000
namespace Fm
open PySem L2
/-- a list or a tuple that stands at a -/
def Sq (K : PySem.W.Frag) (H : Hp) (a : Addr) (xs : List V) : Prop := SqL K H a xs ∨ SqT K H a xs
theorem Sq.same {K : PySem.W.Frag} {H H' : Hp} {a : Addr} {xs : List V} (h : Sq K H a xs) (e : Same H H') : Sq K H' a xs := h.elim (fun h => .inl (e.seq h)) fun h => .inr (same_sqT e h)
theorem seq_ty {K : PySem.W.Frag} {H : Hp} {a : Addr} {xs : List V} (h : Sq K H a xs) : ∃ n, TyX K H (.ref a) (.type n) ∧ PySem.W.kitAny K (.type n) [.type "list", .type "tuple"] = some true ∧ PySem.W.kitOne K (.type n) (.type "str") = some false := by
  have yes : PySem.W.kitAny K (.type "list") [.type "list", .type "tuple"] = some true := kitAny_cons (b := true) (kit_ty (by decide +kernel)) (fun z => nomatch z) fun _ => rfl
  have no : PySem.W.kitAny K (.type "tuple") [.type "list", .type "tuple"] = some true := kitAny_cons (b := false) (kit_ty (by decide +kernel)) (fun _ => kitAny_cons (b := true) (kit_ty (by decide +kernel)) (fun z => nomatch z) fun _ => rfl) fun z => nomatch z
  have k1 : PySem.W.kitOne K (.type "list") (.type "str") = some false := kit_ty (by decide +kernel)
  have k2 : PySem.W.kitOne K (.type "tuple") (.type "str") = some false := kit_ty (by decide +kernel)
  rcases h with ((h | ⟨o, h⟩) | ⟨o, its, n, h, hc, _⟩) | ((h | ⟨o, h⟩) | ⟨o, its, n, h, hc, _⟩)
  · exact ⟨_, .base (.lst h), yes, k1⟩
  · exact ⟨_, .base (.frz h), yes, k1⟩
  · exact ⟨_, .kList h hc, yes, k1⟩
  · exact ⟨_, .base (.tup h), no, k2⟩
  · exact ⟨_, .fTuple h, no, k2⟩
  · exact ⟨_, .kTuple h hc, no, k2⟩
theorem tup_ty {K : PySem.W.Frag} {H : Hp} {a : Addr} {xs : List V} (h : SqT K H a xs) : ∃ n, TyX K H (.ref a) (.type n) ∧ PySem.W.kitOne K (.type n) (.type "tuple") = some true := by
  have k : PySem.W.kitOne K (.type "tuple") (.type "tuple") = some true := kit_ty (by decide +kernel)
  rcases h with (h | ⟨o, h⟩) | ⟨o, its, n, h, hc, _⟩
  · exact ⟨_, .base (.tup h), k⟩
  · exact ⟨_, .fTuple h, k⟩
  · exact ⟨_, .kTuple h hc, k⟩
theorem clsLT : Paired ClsV [V.ty "list", V.ty "tuple"] [Value.type "list", Value.type "tuple"] := .cons (.ty _) (.cons (.ty _) .nil)
section
variable {P : Program} {w : World} {K : PySem.W.Frag} {mg : Str → Option Value} {base : Heap} {CS : Addr}
def spIsName (K : PySem.W.Frag) : Sp := fun vs H Q _ => ∃ (v : V) (r : Bool), vs = [v] ∧ ((∃ s : Str, v = .str s ∧ s.length ≤ 100000 ∧ r = isNm s) ∨ ∃ n, TyX K H v (.type n) ∧ kitB n "str" = some false ∧ r = false) ∧ ∀ H', Same H H' → Q (.bl r) H'
abbrev s_is_name : Stmt := topS 6
abbrev sc_is_nameN : List Str := ["thing", "sign"]
abbrev ps_is_name : List Str := ["thing"]
theorem sc_is_name : FnScope sc_is_nameN ps_is_name (defScope s_is_name) := ⟨rfl, rfl, rfl, by decide +kernel, rfl, by decide +kernel, by decide +kernel⟩
theorem ok_is_name {f : Addr} {fd : FuncData} (F : Fun K "is_name" "is_name" s_is_name f fd) (T : Txt K mg CS) : FnOk P w K mg base CX0 1 f fd ps_is_name (spIsName K) := by
  refine F.ok sc_is_name (fun vs H Q E h => ?_) (fun cdv A outer s H vs Q E hr h => ?_)
  · obtain ⟨_, _, rfl, _⟩ := h
    rfl
  · obtain ⟨v, r, rfl, h, k⟩ := h
    refine ⟨_, (pss_cons (ps_if (PW.pt (pw_or (pt_not (pt_val (pe_callB call_isi (by rfl) T.n_isinstance (by decide +kernel) (pa_cons (pv 0) (pa_cons (pe_bltn (v := .ty "str") (by rfl) T.n_str (by decide +kernel) rfl) pa_nil))))) (pw_or1 (pt_not (pt_chain op_le op_le pe_int (pe_callB call_len_str (by rfl) T.n_len (by decide +kernel) (pa_cons (pv 0) pa_nil)) (pe_gI T.g_LONGEST_NAME))))))
    (pss_one (ps_ret pe_bl))
    pss_nil)
  (pss_one (ps_ret (pe_callB (cr_all (by rfl)) (by rfl) T.n_all (by decide +kernel) (pa_cons (pe_lc (own := [("sign", 1)]) (g := gName 1) (tt := tYes) (by rfl) sc_is_name.nd (pi_str (pv 0)) (blkOk_by (own := [("sign", 1)]) (N := sc_is_nameN) (sc := defScope s_is_name) (by decide +kernel)) (fun _ _ _ _ _ => pg_name (i := 1) sc_is_name.nd rfl (Or.inl rfl)) (fun _ _ _ _ _ => pts_nil) (fun _ _ _ _ _ => (pe_cmpR op_in_sign (pv 1) (pe_gS T.g_LETTERS) (by rfl)))) pa_nil))))), ?_⟩
    rcases h with ⟨z, rfl, hz, rfl⟩ | ⟨n, ty, hk, rfl⟩
    · have hz' : z.length ≤ sizeLine := Nat.le_trans hz (by decide)
      refine ⟨_, rfl, _, _, _, _, _, rfl, .ty _, .base (.str _), kit_ty (b := "str") (r := true) (by decide +kernel), _, rfl, iteF ?_⟩
      have len : z.cps.toList.length ≤ 100000 := by
        have q : z.cps.toList.length = z.length := by simp [Str.length]
        rw [q]
        exact hz
      have short : ∀ H', Same H H' → (1 ≤ z.length ∧ z.length ≤ 8 → False) → Q (.bl false) H' := fun H' e n => by
        have q := k H' e
        have r0 : isNm z = false := by
          unfold isNm
          rw [← Bool.decide_and, decide_eq_false n]
          rfl
        rw [r0] at q
        exact q
      refine ⟨_, rfl, _, rfl, hz', _, _, rfl, rfl, _, rfl, ifd (fun h1 => ?_) fun h1 => ?_⟩
      · refine ⟨_, _, rfl, rfl, _, rfl, ifn (fun h2 => ?_) fun h2 => ?_⟩
        · exact short _ (Same.refl _) fun q => h2 (by omega)
        · refine ⟨_, rfl, _, rfl, fun D hD => ?_⟩
          refine lc_it (walk_str (z := z)) (fun i H' => Same H H' ∧ H' D = some (.lst ((z.cps.toList.take i).map fun c => V.bl (decide (c ∈ letters.cps.toList)))))
            ⟨same_new _ hD, by rw [upd_same]; rfl⟩ (fun _ _ _ _ => trivial) ?_ ?_
          · rintro i x H1 H2 hi ⟨s1, d1⟩ ⟨rfl, c, hc, rfl⟩
            refine ⟨rfl, _, rfl, c, letters, rfl, rfl, _, d1, take_lt _ len, same_put s1 _ hD, ?_⟩
            rw [upd_same, map_take _ (by simpa using hc)]
          · rintro H1 ⟨s1, d1⟩
            have e1 : z.cps.toList.take z.cps.size = z.cps.toList := by
              rw [← Array.length_toList, List.take_length]
            rw [e1, bl_map] at d1
            refine ⟨D, _, rfl, .inl (.inl d1), ?_⟩
            have q := k _ s1
            have r1 : isNm z = (z.cps.toList.map fun c => decide (c ∈ letters.cps.toList)).all id := by
              unfold isNm
              rw [decide_eq_true (show 1 ≤ z.length by omega), decide_eq_true (show z.length ≤ 8 by omega), List.all_map]
              simp only [letters_mem]
              rfl
            rw [r1] at q
            exact q
      · refine ⟨_, rfl, iteT ?_⟩
        exact short _ (Same.refl _) fun q => h1 (by omega)
    · refine ⟨_, rfl, _, _, _, _, _, rfl, .ty _, ty, kit_ty hk, _, rfl, iteT ?_⟩
      exact k _ (Same.refl _)
def spIsRow (K : PySem.W.Frag) : Sp := fun vs H Q _ => ∃ (a : Addr) (xs : List V) (lo hi : Int), vs = [.ref a, .int lo, .int hi] ∧ Sq K H a xs ∧ ∀ H', Same H H' → Q (.bl (decide (lo ≤ (xs.length : Int) ∧ (xs.length : Int) ≤ hi))) H'
abbrev s_is_row : Stmt := topS 7
abbrev sc_is_rowN : List Str := ["thing", "least", "most"]
abbrev ps_is_row : List Str := ["thing", "least", "most"]
theorem sc_is_row : FnScope sc_is_rowN ps_is_row (defScope s_is_row) := ⟨rfl, rfl, rfl, by decide +kernel, rfl, by decide +kernel, by decide +kernel⟩
theorem ok_is_row {f : Addr} {fd : FuncData} (F : Fun K "is_row" "is_row" s_is_row f fd) (T : Txt K mg CS) : FnOk P w K mg base CX0 1 f fd ps_is_row (spIsRow K) := by
  refine F.ok sc_is_row (fun vs H Q E h => ?_) (fun cdv A outer s H vs Q E hr h => ?_)
  · obtain ⟨_, _, _, _, rfl, _⟩ := h
    rfl
  · obtain ⟨a, xs, lo, hi, rfl, hx, k⟩ := h
    refine ⟨_, (pss_one (ps_ret (pe_and (pe_callB call_isiT (by rfl) T.n_isinstance (by decide +kernel) (pa_cons (pv 0) (pa_cons (pe_tup (pa_cons (pe_bltn (v := .ty "list") (by rfl) T.n_list (by decide +kernel) rfl) (pa_cons (pe_bltn (v := .ty "tuple") (by rfl) T.n_tuple (by decide +kernel) rfl) pa_nil))) pa_nil))) (pe_one (pe_chain op_le op_le (pv 1) (pe_callB call_len_seq (by rfl) T.n_len (by decide +kernel) (pa_cons (pv 0) pa_nil)) (pv 2)))))), ?_⟩
    refine ⟨_, rfl, (by show 2 ≤ sizeLine; decide), fun tp htp => ?_⟩
    have s1 : Same H (upd H tp (.tup [.ty "list", .ty "tuple"])) := same_new _ htp
    obtain ⟨t, ty, hk, _⟩ := seq_ty (hx.same s1)
    refine ⟨_, tp, _, _, _, _, rfl, upd_same, clsLT, ty, hk, _, rfl, iteT ?_⟩
    refine ⟨_, rfl, _, rfl, a, xs, rfl, hx.same s1, _, _, rfl, rfl, _, rfl, ifd (fun h1 => ?_) fun h1 => ?_⟩
    · refine ⟨_, rfl, _, _, rfl, rfl, ?_⟩
      have q := k _ s1
      rw [show decide (lo ≤ (xs.length : Int) ∧ (xs.length : Int) ≤ hi) = decide ((xs.length : Int) ≤ hi) from by simp [h1]] at q
      exact q
    · have q := k _ s1
      rw [show decide (lo ≤ (xs.length : Int) ∧ (xs.length : Int) ≤ hi) = false from decide_eq_false fun z => h1 z.1] at q
      exact q
def spIsTuple (K : PySem.W.Frag) : Sp := fun vs H Q _ => ∃ (a : Addr) (xs : List V) (m : Int), vs = [.ref a, .int m] ∧ SqT K H a xs ∧ Q (.bl (decide ((xs.length : Int) = m))) H
abbrev s_is_tuple : Stmt := topS 8
abbrev sc_is_tupleN : List Str := ["thing", "many"]
abbrev ps_is_tuple : List Str := ["thing", "many"]
theorem sc_is_tuple : FnScope sc_is_tupleN ps_is_tuple (defScope s_is_tuple) := ⟨rfl, rfl, rfl, by decide +kernel, rfl, by decide +kernel, by decide +kernel⟩
theorem ok_is_tuple {f : Addr} {fd : FuncData} (F : Fun K "is_tuple" "is_tuple" s_is_tuple f fd) (T : Txt K mg CS) : FnOk P w K mg base CX0 1 f fd ps_is_tuple (spIsTuple K) := by
  refine F.ok sc_is_tuple (fun vs H Q E h => ?_) (fun cdv A outer s H vs Q E hr h => ?_)
  · obtain ⟨_, _, _, rfl, _⟩ := h
    rfl
  · obtain ⟨a, xs, m, rfl, hx, k⟩ := h
    refine ⟨_, (pss_one (ps_ret (pe_and (pe_callB call_isi (by rfl) T.n_isinstance (by decide +kernel) (pa_cons (pv 0) (pa_cons (pe_bltn (v := .ty "tuple") (by rfl) T.n_tuple (by decide +kernel) rfl) pa_nil))) (pe_one (pe_cmpR op_eq (pe_callB call_len_seq (by rfl) T.n_len (by decide +kernel) (pa_cons (pv 0) pa_nil)) (pv 1) (nomark _)))))), ?_⟩
    obtain ⟨n, ty, hk⟩ := tup_ty hx
    refine ⟨_, rfl, _, _, _, _, _, rfl, .ty _, ty, hk, _, rfl, iteT ?_⟩
    refine ⟨_, rfl, a, xs, rfl, .inr hx, _, rfl, rfl, ?_⟩
    have e : decide (V.int (xs.length : Int) = V.int m) = decide ((xs.length : Int) = m) := by
      by_cases h : (xs.length : Int) = m
      · rw [decide_eq_true h, h]
        exact decide_eq_true rfl
      · rw [decide_eq_false h]
        exact decide_eq_false fun z => h (V.int.inj z)
    show Q (V.bl (decide (V.int (xs.length : Int) = V.int m))) H
    rw [e]
    exact k
/-- a row of good names, none twice -/
structure Nms (fs : List Str) : Prop where
  lo : 1 ≤ fs.length
  hi : fs.length ≤ 4
  nm : ∀ f ∈ fs, isNm f = true
  nd : fs.Nodup
theorem isNm_len {s : Str} (h : isNm s = true) : s.length ≤ 100000 := by
  unfold isNm at h
  simp only [Bool.and_eq_true, decide_eq_true_eq] at h
  omega
def spAreNames (K : PySem.W.Frag) : Sp := fun vs H Q _ => ∃ (a : Addr) (fs : List Str), vs = [.ref a, .int 1, .int 4] ∧ Sq K H a (fs.map V.str) ∧ Nms fs ∧ ∀ H', Same H H' → Q (.bl true) H'
abbrev s_are_names : Stmt := topS 9
abbrev sc_are_namesN : List Str := ["thing", "least", "most", "name"]
abbrev ps_are_names : List Str := ["thing", "least", "most"]
theorem sc_are_names : FnScope sc_are_namesN ps_are_names (defScope s_are_names) := ⟨rfl, rfl, rfl, by decide +kernel, rfl, by decide +kernel, by decide +kernel⟩
theorem ok_are_names {f : Addr} {fd : FuncData} (F : Fun K "are_names" "are_names" s_are_names f fd) (T : Txt K mg CS) (D_is_row : Df P w K mg base "is_row" 1 ps_is_row (spIsRow K)) (D_is_name : Df P w K mg base "is_name" 1 ps_is_name (spIsName K)) :
    FnOk P w K mg base CX0 2 f fd ps_are_names (spAreNames K) := by
  refine F.ok sc_are_names (fun vs H Q E h => ?_) (fun cdv A outer s H vs Q E hr h => ?_)
  · obtain ⟨_, _, rfl, _⟩ := h
    rfl
  · obtain ⟨a, fs, rfl, hx, N, k⟩ := h
    refine ⟨_, (pss_cons (ps_if (PW.pt (pw_or (pt_not (pt_val (pe_d D_is_row (hr.mono (by decide)) (pa_cons (pv 0) (pa_cons (pv 1) (pa_cons (pv 2) pa_nil)))))) (pw_or1 (pt_not (pt_val (pe_callB (cr_all (by rfl)) (by rfl) T.n_all (by decide +kernel) (pa_cons (pe_lc (own := [("name", 3)]) (g := gName 3) (tt := tYes) (by rfl) sc_are_names.nd (pi_any (pv 0)) (blkOk_by (own := [("name", 3)]) (N := sc_are_namesN) (sc := defScope s_are_names) (by decide +kernel)) (fun _ _ _ _ _ => pg_name (i := 3) sc_are_names.nd rfl (Or.inl rfl)) (fun _ _ _ _ _ => pts_nil) (fun _ _ _ _ _ => (pe_d D_is_name (hr.mono (by decide)) (pa_cons (pv 3) pa_nil)))) pa_nil)))))))
    (pss_one (ps_ret pe_bl))
    pss_nil)
  (pss_one (ps_ret (pe_cmpR op_eq (pe_lenS (by rfl) T.n_len T.n_set (pv 0)) (pe_callB call_len_seq (by rfl) T.n_len (by decide +kernel) (pa_cons (pv 0) pa_nil)) (nomark _))))), ?_⟩
    refine ⟨_, rfl, _, rfl, _, rfl, a, _, 1, 4, rfl, hx, fun H1 s1 => ⟨_, rfl, ?_⟩⟩
    have e1 : decide ((1 : Int) ≤ ((fs.map V.str).length : Int) ∧ ((fs.map V.str).length : Int) ≤ 4) = true := decide_eq_true (by
      have h1 := N.lo
      have h2 := N.hi
      rw [List.length_map]
      omega)
    rw [e1]
    have hx1 := hx.same s1
    refine iteF ⟨_, rfl, a, fs.map V.str, rfl, any_of (K := K) hx1 (Same.refl _) fun J G gm wk => (fun D hD => ?_)⟩
    refine lc_it wk (fun i H' => Same H1 H' ∧ H' D = some (.lst (((fs.map V.str).take i).map fun _ => V.bl true))) ⟨same_new _ hD, by rw [upd_same]; rfl⟩ (fun i H' _ z => gm H' z.1) ?_ ?_
    · rintro i x H2 H3 hi ⟨s2, d2⟩ ⟨rfl, hxi⟩
      obtain ⟨y, hy, rfl⟩ : ∃ y, y ∈ fs ∧ x = V.str y := by
        rw [List.getElem?_map] at hxi
        obtain ⟨y, q1, q2⟩ := Option.map_eq_some_iff.mp hxi
        exact ⟨y, List.mem_of_getElem? q1, q2.symm⟩
      refine ⟨rfl, _, rfl, _, true, rfl, .inl ⟨y, rfl, isNm_len (N.nm y hy), (N.nm y hy).symm⟩, fun H4 s4 => ?_⟩
      refine ⟨_, s4 _ _ d2, take_lt _ (by rw [List.length_map]; have q := N.hi; omega), same_put (s2.trans s4) _ hD, ?_⟩
      rw [upd_same, map_take _ hxi]
    · rintro H2 ⟨s2, d2⟩
      rw [List.take_length, List.map_map] at d2
      have e2 : fs.map ((fun _ => V.bl true) ∘ V.str) = (fs.map fun _ => true).map V.bl := by
        rw [List.map_map]
        rfl
      rw [e2] at d2
      refine ⟨D, _, rfl, .inl (.inl d2), _, rfl, ?_⟩
      have e3 : (fs.map fun _ => true).all id = true := by
        rw [List.all_map]
        simp
      rw [e3]
      refine iteF ⟨_, rfl, a, fs, rfl, hx1.same s2, by have q := N.hi; omega, _, rfl, a, _, rfl, hx1.same s2, rfl, ?_⟩
      have e4 : decide (V.int (dis fs : Int) = V.int ((fs.map V.str).length : Int)) = true := decide_eq_true (by rw [(dis_full fs).mpr N.nd, List.length_map])
      show Q (V.bl (decide (V.int (dis fs : Int) = V.int ((fs.map V.str).length : Int)))) H2
      rw [e4]
      exact k _ (s1.trans s2)
end
end Fm

/-! ## K07C -/
set_option Elab.async false
set_option maxRecDepth 100000
set_option maxHeartbeats 4000000
namespace Fm
open PySem L2
/-- a def that promises nothing keeps it -/
theorem fn_no {P : Program} {w : World} {K : PySem.W.Frag} {mg : Str → Option Value} {base : Heap} {k : Nat} {f : Addr} {fd : FuncData} {ps : List Str} {sp : Sp} (h : ∀ vs H Q E, sp vs H Q E → False) : FnOk P w K mg base CX0 k f fd ps sp :=
  ⟨fun vs H Q E z => (h vs H Q E z).elim, fun _ _ _ H _ _ vs Q E _ _ _ _ z => (h vs H Q E z).elim⟩
section
variable {P : Program} {w : World} {K : PySem.W.Frag} {mg : Str → Option Value} {base : Heap} {CS : Addr}
/-- a tree stands at v: a row, or a flat thing -/
theorem dp_ty {H : Hp} {d : PyData} {v : V} {n : Nat} (h : Dp K H v d) (hd : Dn (n + 1) d) :
    (∃ a vs ds, v = .ref a ∧ (SqL K H a vs ∨ SqT K H a vs) ∧ DpAll K H vs ds ∧ (∀ c ∈ ds, Dn n c) ∧ ds.length ≤ 100000 ∧ (d = .list ds ∧ SqL K H a vs ∨ d = .tuple ds ∧ SqT K H a vs)) ∨ (flatV v = true ∧ tupd d = d ∧ ∀ H', Dp K H' v d) := by
  cases hd with
  | none => cases h; exact .inr ⟨rfl, rfl, fun _ => .non⟩
  | bool _ b => cases h; exact .inr ⟨rfl, rfl, fun _ => .bl b⟩
  | int _ i => cases h; exact .inr ⟨rfl, rfl, fun _ => .int i⟩
  | str _ s => cases h; exact .inr ⟨rfl, rfl, fun _ => .str s⟩
  | list _ ds h1 h2 =>
    cases h with
    | lst hs ha => exact .inl ⟨_, _, ds, rfl, .inl hs, ha, h1, h2, .inl ⟨rfl, hs⟩⟩
  | tuple _ ds h1 h2 =>
    cases h with
    | tup hs ha => exact .inl ⟨_, _, ds, rfl, .inr hs, ha, h1, h2, .inr ⟨rfl, hs⟩⟩
theorem flat_ty {H : Hp} {v : V} (h : flatV v = true) : ∃ n, TyX K H v (.type n) ∧ PySem.W.kitAny K (.type n) [.type "list", .type "tuple"] = some false := by
  have two : ∀ n, kitB n "list" = some false → kitB n "tuple" = some false → PySem.W.kitAny K (.type n) [.type "list", .type "tuple"] = some false := fun n a b =>
    kitAny_cons (b := false) (kit_ty a) (fun _ => kitAny_cons (b := false) (kit_ty b) (fun _ => rfl) fun z => nomatch z) fun z => nomatch z
  cases v with
  | non => exact ⟨_, .base .non, two _ (by decide +kernel) (by decide +kernel)⟩
  | bl b => exact ⟨_, .base (.bl b), two _ (by decide +kernel) (by decide +kernel)⟩
  | int i => exact ⟨_, .base (.int i), two _ (by decide +kernel) (by decide +kernel)⟩
  | str s => exact ⟨_, .base (.str s), two _ (by decide +kernel) (by decide +kernel)⟩
  | byt b => cases h
  | flt b => cases h
  | ref a => cases h
  | ty n => cases h
/-- as_tuples: the same tree, all its rows as new tuples -/
def spTup (K : PySem.W.Frag) (n : Nat) : Sp := fun vs H Q _ => ∃ (v : V) (d : PyData), vs = [v] ∧ Dp K H v d ∧ Dn n d ∧ ∀ v' H' N, Same H H' → Fresh H H' N → Dp K N v' (tupd d) → Q v' H'
abbrev s_as_tuples : Stmt := topS 10
abbrev sc_as_tuplesN : List Str := ["thing", "part"]
abbrev ps_as_tuples : List Str := ["thing"]
theorem sc_as_tuples : FnScope sc_as_tuplesN ps_as_tuples (defScope s_as_tuples) := ⟨rfl, rfl, rfl, by decide +kernel, rfl, by decide +kernel, by decide +kernel⟩
theorem ok_as_tuples {f : Addr} {fd : FuncData} (F : Fun K "as_tuples" "as_tuples" s_as_tuples f fd) (T : Txt K mg CS) (hm : mg "as_tuples" = some (.ref f)) (hb : Binds K fd ps_as_tuples []) : ∀ n, FnOk P w K mg base CX0 n f fd ps_as_tuples (spTup K n)
  | 0 => fn_no fun vs H Q E h => by
    obtain ⟨_, d, _, _, hd, _⟩ := h
    cases hd
  | n + 1 => by
    have D_as_tuples : Df P w K mg base "as_tuples" n ps_as_tuples (spTup K n) := ⟨f, fd, ok_as_tuples F T hm hb n, hm, F.kp, hb⟩
    refine F.ok sc_as_tuples (fun vs H Q E h => ?_) (fun cdv A outer s H vs Q E hr h => ?_)
    · obtain ⟨_, _, rfl, _⟩ := h
      rfl
    · obtain ⟨v, d, rfl, hv, hd, k⟩ := h
      refine ⟨_, (pss_cons (ps_if (pt_val (pe_callB call_isiT (by rfl) T.n_isinstance (by decide +kernel) (pa_cons (pv 0) (pa_cons (pe_tup (pa_cons (pe_bltn (v := .ty "list") (by rfl) T.n_list (by decide +kernel) rfl) (pa_cons (pe_bltn (v := .ty "tuple") (by rfl) T.n_tuple (by decide +kernel) rfl) pa_nil))) pa_nil))))
    (pss_one (ps_ret (pe_callTy call_tuple_of (by rfl) T.n_tuple (by decide +kernel) (pa_cons (pe_lc (own := [("part", 1)]) (g := gName 1) (tt := tYes) (by rfl) sc_as_tuples.nd (pi_any (pv 0)) (blkOk_by (own := [("part", 1)]) (N := sc_as_tuplesN) (sc := defScope s_as_tuples) (by decide +kernel)) (fun _ _ _ _ _ => pg_name (i := 1) sc_as_tuples.nd rfl (Or.inl rfl)) (fun _ _ _ _ _ => pts_nil) (fun _ _ _ _ _ => (pe_d D_as_tuples hr (pa_cons (pv 1) pa_nil)))) pa_nil))))
    pss_nil)
  (pss_one (ps_ret (pv 0)))), ?_⟩
      refine ⟨_, rfl, (by show 2 ≤ sizeLine; decide), fun tp htp => ?_⟩
      have s1 : Same H (upd H tp (.tup [.ty "list", .ty "tuple"])) := same_new _ htp
      rcases dp_ty (dp_mono s1 d v hv) hd with ⟨a, xs, ds, rfl, hs, ha, hn, hl, hd2⟩ | ⟨hf, e, hv2⟩
      · obtain ⟨t, ty, hk, _⟩ := seq_ty hs
        have td : tupd d = .tuple (tupdL ds) := by
          rcases hd2 with ⟨rfl, _⟩ | ⟨rfl, _⟩ <;> rfl
        have len := dpA_len ha
        refine ⟨_, tp, _, _, _, _, rfl, upd_same, clsLT, ty, hk, _, rfl, iteT ?_⟩
        refine ⟨_, rfl, a, xs, rfl, any_of (K := K) hs (Same.refl _) fun J G gm wk => (fun D hD => ?_)⟩
        generalize upd H tp (.tup [.ty "list", .ty "tuple"]) = H1 at *
        refine lc_it wk (fun i H' => Same H1 H' ∧ ∃ ys N, H' D = some (.lst ys) ∧ ys.length ≤ 100000 ∧ i ≤ xs.length ∧ Fresh H1 H' N ∧ N D = none ∧ DpAll K N ys (tupdL (ds.take i))) ⟨same_new _ hD, [], nil0, upd_same, Nat.zero_le _, Nat.zero_le _, fresh_nil, rfl, .nil⟩ (fun i H' _ z => gm H' z.1) ?_ ?_
        · rintro i x H2 H3 hi ⟨s2, ys, N, d2, yl, il, fr, nD, da⟩ ⟨rfl, hx⟩
          obtain ⟨c, hc, hxc⟩ := dpA_at ha hx
          refine ⟨rfl, _, rfl, _, c, rfl, dp_mono s2 c x hxc, hn c (List.mem_of_getElem? hc), fun v' H4 M s4 fm dm => ?_⟩
          have n4 : M D = none := by
            cases q : M D with
            | none => rfl
            | some o =>
              have z := (fm D o q).1
              rw [d2] at z
              cases z
          have fu := fresh_uni fr fm s2 s4
          have yi : ys.length = i := by
            have q := dpA_len da
            rw [tupdL_map, List.length_map, List.length_take] at q
            omega
          refine ⟨ys, s4 _ _ d2, Nat.lt_of_le_of_lt yl (by decide), same_put (s2.trans s4) _ hD, ys ++ [v'], uni N M, upd_same, ?_, hi, ?_, ?_, ?_⟩
          · rw [List.length_append, List.length_singleton, yi]
            omega
          · intro b o q
            have nb : b ≠ D := fun z => by
              rw [z] at q
              rcases uni_or q with q | ⟨_, q⟩
              · rw [nD] at q; cases q
              · rw [n4] at q; cases q
            rw [upd_ne nb]
            exact fu b o q
          · show uni N M D = none
            unfold uni
            rw [nD]
            exact n4
          · rw [tupdL_map, map_take _ hc, ← tupdL_map]
            exact dpA_snoc (dpA_mono same_uni _ _ da) (dp_mono (same_uni2 fr fm) _ _ dm)
        · rintro H2 ⟨s2, ys, N, d2, yl, il, fr, nD, da⟩
          rw [len, List.take_length] at da
          refine ⟨D, ys, rfl, .inl ⟨.inl (.inl d2), fun l hl2 => ?_⟩⟩
          have f0 := fresh_new fr s2 (.tup ys) hl2
          refine k _ _ (upd N l (.tup ys)) (s1.trans (same_upd1 s2 _ hl2)) (fresh_back s1 f0) ?_
          rw [td]
          exact .tup (.inl (.inl upd_same)) (dpA_mono (same_freshNew fr _ hl2) _ _ da)
      · obtain ⟨t, ty, hk⟩ := flat_ty (K := K) (H := upd H tp (.tup [.ty "list", .ty "tuple"])) hf
        refine ⟨_, tp, _, _, _, _, rfl, upd_same, clsLT, ty, hk, _, rfl, iteF ⟨_, rfl, ?_⟩⟩
        exact k _ _ nil0 s1 fresh_nil (by rw [e]; exact hv2 _)
theorem ifF {c : Bool} {A B : Prop} (hc : c = false) (h : B) : if c = true then A else B := by
  rw [hc]
  exact iteF h
theorem ifT {c : Bool} {A B : Prop} (hc : c = true) (h : A) : if c = true then A else B := by
  rw [hc]
  exact iteT h
/-! ### tables -/
abbrev Tab := Str × List Str
structure TOk (t : Tab) : Prop where
  nm : isNm t.1 = true
  fs : Nms t.2
def tabD (b : Bool) (t : Tab) : PyData := .tuple [.str t.1, if b = true then .list (t.2.map PyData.str) else .tuple (t.2.map PyData.str)]
theorem tabD_tupd (b : Bool) (t : Tab) : tupd (tabD b t) = tabD false t := by
  have e : ∀ xs : List Str, tupdL (xs.map PyData.str) = xs.map PyData.str := fun xs => by
    rw [tupdL_map, List.map_map]
    rfl
  cases b with
  | true => show PyData.tuple [.str t.1, .tuple (tupdL (t.2.map PyData.str))] = .tuple [.str t.1, .tuple (t.2.map PyData.str)]; rw [e]
  | false => show PyData.tuple [.str t.1, .tuple (tupdL (t.2.map PyData.str))] = .tuple [.str t.1, .tuple (t.2.map PyData.str)]; rw [e]
/-- what stands at a table -/
theorem tab_inv {H : Hp} {v : V} {b : Bool} {t : Tab} (h : Dp K H v (tabD b t)) : ∃ p q, v = .ref p ∧ SqT K H p [.str t.1, .ref q] ∧ Sq K H q (t.2.map V.str) ∧ (b = true → SqL K H q (t.2.map V.str)) ∧ (b = false → SqT K H q (t.2.map V.str)) := by
  unfold tabD at h
  cases h with
  | tup hs ha =>
    cases ha with
    | cons h1 h2 =>
      cases h2 with
      | cons h2 h3 =>
        cases h3
        cases h1
        cases b with
        | true =>
          cases h2 with
          | lst hs2 ha2 =>
            rw [dpA_strs_inv ha2] at hs2
            exact ⟨_, _, rfl, hs, .inl hs2, fun _ => hs2, fun z => nomatch z⟩
        | false =>
          cases h2 with
          | tup hs2 ha2 =>
            rw [dpA_strs_inv ha2] at hs2
            exact ⟨_, _, rfl, hs, .inr hs2, (fun z => nomatch z), fun _ => hs2⟩
theorem tab_dn {b : Bool} {t : Tab} (h : TOk t) : Dn 3 (tabD b t) := by
  have l : t.2.length ≤ 100000 := by have q := h.fs.hi; omega
  obtain ⟨q1, q2⟩ := dn_strs (n := 0) l
  refine .tuple 2 _ (fun d m => ?_) (by show 2 ≤ 100000; decide)
  rcases List.mem_cons.mp m with rfl | m
  · exact .str 1 _
  · rcases List.mem_cons.mp m with rfl | m
    · cases b with
      | true => exact .list 1 _ q1 q2
      | false => exact .tuple 1 _ q1 q2
    · cases m
def spIsTable (K : PySem.W.Frag) : Sp := fun vs H Q _ => ∃ (v : V) (b : Bool) (t : Tab), vs = [v] ∧ Dp K H v (tabD b t) ∧ TOk t ∧ ∀ H', Same H H' → Q (.bl true) H'
abbrev s_is_table : Stmt := topS 26
abbrev sc_is_tableN : List Str := ["thing"]
abbrev ps_is_table : List Str := ["thing"]
theorem sc_is_table : FnScope sc_is_tableN ps_is_table (defScope s_is_table) := ⟨rfl, rfl, rfl, by decide +kernel, rfl, by decide +kernel, by decide +kernel⟩
theorem ok_is_table {f : Addr} {fd : FuncData} (F : Fun K "is_table" "is_table" s_is_table f fd) (T : Txt K mg CS) (D_is_tuple : Df P w K mg base "is_tuple" 1 ps_is_tuple (spIsTuple K)) (D_is_name : Df P w K mg base "is_name" 1 ps_is_name (spIsName K))
    (D_are_names : Df P w K mg base "are_names" 2 ps_are_names (spAreNames K)) : FnOk P w K mg base CX0 3 f fd ps_is_table (spIsTable K) := by
  refine F.ok sc_is_table (fun vs H Q E h => ?_) (fun cdv A outer s H vs Q E hr h => ?_)
  · obtain ⟨_, _, _, rfl, _⟩ := h
    rfl
  · obtain ⟨v, b, t, rfl, hv, ok, k⟩ := h
    obtain ⟨p, q, rfl, hp, hq, _⟩ := tab_inv hv
    refine ⟨_, (pss_one (ps_ret (pe_and (pe_d D_is_tuple (hr.mono (by decide)) (pa_cons (pv 0) (pa_cons pe_int pa_nil))) (pe_and (pe_d D_is_name (hr.mono (by decide)) (pa_cons (pe_ix ix_tup (pv 0) pe_int (fun _ _ => rfl)) pa_nil)) (pe_one (pe_d D_are_names (hr.mono (by decide)) (pa_cons (pe_ix ix_tup (pv 0) pe_int (fun _ _ => rfl)) (pa_cons pe_int (pa_cons (pe_gI T.g_MOST_FIELDS) pa_nil))))))))), ?_⟩
    refine ⟨_, rfl, p, _, 2, rfl, hp, _, rfl, iteT ?_⟩
    refine ⟨_, rfl, p, _, 0, _, rfl, rfl, hp, rfl, _, true, rfl, .inl ⟨t.1, rfl, isNm_len ok.nm, ok.nm.symm⟩, fun H1 s1 => ⟨_, rfl, iteT ?_⟩⟩
    refine ⟨_, rfl, p, _, 1, _, rfl, rfl, same_sqT s1 hp, rfl, q, t.2, rfl, hq.same s1, ok.fs, fun H2 s2 => ?_⟩
    exact k _ (s1.trans s2)
/-- the tables of a shape -/
structure TsOk (ts : List Tab) : Prop where
  lo : 1 ≤ ts.length
  hi : ts.length ≤ 5
  ok : ∀ t ∈ ts, TOk t
  nd : (ts.map (·.1)).Nodup
def TabsD (ds : List PyData) (ts : List Tab) : Prop := Paired (fun d t => ∃ b, d = tabD b t) ds ts
theorem TabsD.at : ∀ {ds : List PyData} {ts : List Tab} {i : Nat} {d : PyData}, TabsD ds ts → ds[i]? = some d → ∃ t b, ts[i]? = some t ∧ d = tabD b t
  | _, _, _, _, .nil, e => by simp at e
  | _, _, 0, _, .cons r _, e => by
    simp at e
    subst e
    obtain ⟨b, rfl⟩ := r
    exact ⟨_, b, rfl, rfl⟩
  | _, _, i + 1, d, .cons _ r, e => by
    obtain ⟨t, b, h1, h2⟩ := TabsD.at (i := i) (d := d) r (by simpa using e)
    exact ⟨t, b, by simpa using h1, h2⟩
theorem TabsD.tupd {ds : List PyData} {ts : List Tab} (h : TabsD ds ts) : tupdL ds = ts.map (tabD false) := by
  induction h with
  | nil => rfl
  | cons r _ ih =>
    obtain ⟨b, rfl⟩ := r
    show Fm.tupd (tabD b _) :: tupdL _ = _
    rw [ih, tabD_tupd]
    rfl
theorem TabsD.dn {ds : List PyData} {ts : List Tab} (h : TabsD ds ts) (ok : ∀ t ∈ ts, TOk t) : ∀ d ∈ ds, Dn 3 d := fun d m => by
  obtain ⟨i, _, e⟩ := List.getElem_of_mem m
  obtain ⟨t, b, h1, rfl⟩ := h.at (i := i) (d := d) (by rw [← e]; exact List.getElem?_eq_getElem _)
  exact tab_dn (ok t (List.mem_of_getElem? h1))
def spCheck (K : PySem.W.Frag) : Sp := fun vs H Q _ => ∃ (a : Addr) (xs : List V) (ds : List PyData) (ts : List Tab), vs = [.ref a] ∧ Sq K H a xs ∧ DpAll K H xs ds ∧ TabsD ds ts ∧ TsOk ts ∧ ∀ H', Same H H' → Q .non H'
abbrev s_check_tables : Stmt := topS 25
abbrev sc_check_tablesN : List Str := ["tables", "names", "at", "table"]
abbrev ps_check_tables : List Str := ["tables"]
theorem sc_check_tables : FnScope sc_check_tablesN ps_check_tables (defScope s_check_tables) := ⟨rfl, rfl, rfl, by decide +kernel, rfl, by decide +kernel, by decide +kernel⟩
theorem ok_check_tables {f : Addr} {fd : FuncData} (F : Fun K "check_tables" "check_tables" s_check_tables f fd) (T : Txt K mg CS) (D_is_row : Df P w K mg base "is_row" 1 ps_is_row (spIsRow K)) (D_is_table : Df P w K mg base "is_table" 3 ps_is_table (spIsTable K)) :
    FnOk P w K mg base CX0 4 f fd ps_check_tables (spCheck K) := by
  refine F.ok sc_check_tables (fun vs H Q E h => ?_) (fun cdv A outer s H vs Q E hr h => ?_)
  · obtain ⟨_, _, _, _, rfl, _⟩ := h
    rfl
  · obtain ⟨a, xs, ds, ts, rfl, hs, ha, td, ok, k⟩ := h
    have len : xs.length = ts.length := (dpA_len ha).trans (Paired.length td)
    refine ⟨_, (pss_cons (ps_if (pt_not (pt_val (pe_d D_is_row (hr.mono (by decide)) (pa_cons (pv 0) (pa_cons pe_int (pa_cons (pe_gI T.g_MOST_TABLES) pa_nil))))))
    (pss_one ps_never)
    pss_nil)
  (pss_cons (ps_set (i := 1) sc_check_tables.nd rfl (Or.inl rfl) (pe_lst pa_nil))
  (pss_one (ps_for PassesOwn.never rfl (pi_enumA (by rfl) T.n_enumerate (pa_cons (pv 0) pa_nil)) (pg_tup (by rfl) (pgs_cons (pg_name (i := 2) sc_check_tables.nd rfl (Or.inl rfl)) (pgs_cons (pg_name (i := 3) sc_check_tables.nd rfl (Or.inl rfl)) pgs_nil)))
    (pss_cons (ps_if (PW.pt (pw_or (pt_not (pt_val (pe_d D_is_table (hr.mono (by decide)) (pa_cons (pv 3) pa_nil)))) (pw_or1 (pt_cmpR op_in_seq (pe_ix ix_tup (pv 3) pe_int (fun _ _ => rfl)) (pv 1) (by rfl)))))
      (pss_one ps_never)
      pss_nil)
    (pss_one (ps_expr (pe_bm PySem.F.plainAttrs_list PySem.F.slot_list_append PySem.F.type_list_append mt_append (pv 1) (pa_cons (pe_ix ix_tup (pv 3) pe_int (fun _ _ => rfl)) pa_nil))))))))), ?_⟩
    refine ⟨_, rfl, a, xs, 1, 5, rfl, hs, fun H1 s1 => ⟨_, rfl, ?_⟩⟩
    have e1 : decide ((1 : Int) ≤ (xs.length : Int) ∧ (xs.length : Int) ≤ 5) = true := decide_eq_true (by
      have h1 := ok.lo
      have h2 := ok.hi
      omega)
    rw [e1]
    refine iteF ⟨Nat.zero_le _, fun l hl => ?_⟩
    refine ⟨_, rfl, a, xs, rfl, enum_of (K := K) (hs.same s1) (same_new _ hl) fun J G gm wk => ?_⟩
    refine for_it wk (fun i σ H' => ∃ v2 v3, σ = [some (.ref a), some (.ref l), v2, v3] ∧ Same H1 H' ∧ H' l = some (.lst (((ts.map (·.1)).take i).map V.str)))
      ⟨_, _, rfl, same_new _ hl, by rw [upd_same]; rfl⟩ (fun i σ H' _ z => by obtain ⟨_, _, _, z, _⟩ := z; exact gm H' z) ?_ ?_
    · rintro i x σ H2 H3 hi ⟨v2, v3, rfl, s2, d2⟩ ⟨T, x1, y, rfl, hT, rfl, e1, hy⟩
      obtain rfl : V.int (i : Nat) = x1 := Option.some.inj e1
      obtain ⟨c, hc, hdp⟩ := dpA_at ha hy
      obtain ⟨t, b, ht, rfl⟩ := td.at hc
      have tok := ok.ok t (List.mem_of_getElem? ht)
      have hn : (ts.map (·.1))[i]? = some t.1 := by rw [List.getElem?_map, ht]; rfl
      have s3 : Same H1 (upd H2 T (.tup [V.int (i : Nat), y])) := s2.trans (same_new _ hT)
      have hy3 := dp_mono (s1.trans s3) _ _ hdp
      have nlT : l ≠ T := ne_of_none d2 hT
      obtain ⟨p, q, rfl, hp, _⟩ := tab_inv hy3
      refine ⟨T, _, rfl, .inl (.inl upd_same), rfl, _, _, rfl, _, _, rfl, rfl, ?_⟩
      refine ⟨_, rfl, _, b, t, rfl, hy3, tok, fun H4 s4 => ⟨_, rfl, iteF ?_⟩⟩
      have d4 : H4 l = some (.lst (((ts.map (·.1)).take i).map V.str)) := s4 _ _ (by rw [upd_ne nlT]; exact d2)
      have hp4 := same_sqT s4 hp
      have notin : inV (V.str t.1) (((ts.map (·.1)).take i).map V.str) = false := by
        rw [inV_str]
        exact decide_eq_false (nodup_take ok.nd hn)
      refine ⟨_, rfl, p, _, 0, _, rfl, rfl, hp4, rfl, _, rfl, l, _, rfl, .inl (.inl (.inl d4)), rfl, flat_strs _, _, rfl, ifF notin ?_⟩
      refine ⟨_, rfl, .inl ⟨rfl, _, .inl (.inl d4)⟩, _, rfl, p, _, 0, _, rfl, rfl, hp4, rfl, l, _, _, rfl, rfl, d4, take_lt _ (by rw [List.length_map]; have q := ok.hi; omega), ?_⟩
      refine ⟨_, _, rfl, same_put (s3.trans s4) _ hl, ?_⟩
      rw [upd_same, map_take _ hn]
    · rintro σ H2 ⟨v2, v3, rfl, s2, _⟩
      exact k _ (s1.trans s2)
/-! ### the class -/
def shF (v : V) : List (Str × V) := [("tables", v)]
/-- a new shape -/
def spShInit (K : PySem.W.Frag) (CS : Addr) : Sp := fun vs H Q _ => ∃ (x dx : Addr) (a : Addr) (xs : List V) (d : PyData) (ds : List PyData) (ts : List Tab), vs = [.ref x, .ref a] ∧ H x = some (.ins CS dx []) ∧ (d = .list ds ∧ SqL K H a xs ∨ d = .tuple ds ∧ SqT K H a xs) ∧ DpAll K H xs ds ∧ TabsD ds ts ∧ TsOk ts ∧
  ∀ (v : V) (H' N : Hp), (∀ b o, b ≠ x → H b = some o → H' b = some o) → H' x = some (.ins CS dx (shF v)) → (∀ b o, N b = some o → H b = none ∧ H' b = some o) → Dp K N v (.tuple (ts.map (tabD false))) → Q .non H'
abbrev s_Shape_init : Stmt := inClass (topS 23) 0
abbrev sc_Shape_initN : List Str := ["self", "tables"]
abbrev ps_Shape_init : List Str := ["self", "tables"]
theorem sc_Shape_init : FnScope sc_Shape_initN ps_Shape_init (defScope s_Shape_init) := ⟨rfl, rfl, rfl, by decide +kernel, rfl, by decide +kernel, by decide +kernel⟩
theorem ok_Shape_init {f : Addr} {fd : FuncData} (F : Fun K "__init__" "Shape.__init__" s_Shape_init f fd) (T : Txt K mg CS) (D_check_tables : Df P w K mg base "check_tables" 4 ps_check_tables (spCheck K)) (D_as_tuples : Df P w K mg base "as_tuples" 4 ps_as_tuples (spTup K 4)) :
    FnOk P w K mg base CX0 5 f fd ps_Shape_init (spShInit K CS) := by
  refine F.ok sc_Shape_init (fun vs H Q E h => ?_) (fun cdv A outer s H vs Q E hr h => ?_)
  · obtain ⟨_, _, _, _, _, _, _, rfl, _⟩ := h
    rfl
  · obtain ⟨x, dx, a, xs, d, ds, ts, rfl, hx, hd, ha, td, ok, k⟩ := h
    have hs : Sq K H a xs := hd.elim (fun z => .inl z.2) fun z => .inr z.2
    refine ⟨_, (pss_cons (ps_expr (pe_d D_check_tables (hr.mono (by decide)) (pa_cons (pv 1) pa_nil)))
  (pss_one (ps_fld (pv 0) (pe_d D_as_tuples (hr.mono (by decide)) (pa_cons (pv 1) pa_nil)) rfl))), ?_⟩
    refine ⟨_, rfl, a, xs, ds, ts, rfl, hs, ha, td, ok, fun H1 s1 => ?_⟩
    have hdp : Dp K H1 (.ref a) d := by
      rcases hd with ⟨rfl, h⟩ | ⟨rfl, h⟩
      · exact .lst (s1.seq h) (dpA_mono s1 _ _ ha)
      · exact .tup (same_sqT s1 h) (dpA_mono s1 _ _ ha)
    have hl : ds.length ≤ 100000 := by have q := ok.hi; have z := Paired.length td; omega
    have hdn : Dn 4 d := by
      rcases hd with ⟨rfl, h⟩ | ⟨rfl, h⟩
      · exact .list 3 _ (td.dn ok.ok) hl
      · exact .tuple 3 _ (td.dn ok.ok) hl
    have htd : tupd d = .tuple (ts.map (tabD false)) := by
      rcases hd with ⟨rfl, h⟩ | ⟨rfl, h⟩
      · show PyData.tuple (tupdL ds) = _
        rw [td.tupd]
      · show PyData.tuple (tupdL ds) = _
        rw [td.tupd]
    refine ⟨_, rfl, _, d, rfl, hdp, hdn, fun v H2 N s2 fr dn => ?_⟩
    have hx2 := s2 _ _ (s1 _ _ hx)
    refine ⟨_, rfl, x, CS, dx, [], rfl, hx2, T.cl, T.nT, (by show 0 < 1000; decide), ?_⟩
    have nx : ∀ b o, N b = some o → b ≠ x := fun b o q z => by
      have y := (fr b o q).1
      rw [z, s1 _ _ hx] at y
      cases y
    refine k v _ N (fun b o n q => ?_) ?_ (fun b o q => ?_) (by rw [← htd]; exact dn)
    · rw [upd_ne n]
      exact s2 _ _ (s1 _ _ q)
    · rw [upd_same]
      rfl
    · rw [upd_ne (nx b o q)]
      exact ⟨s1.free (fr b o q).1, (fr b o q).2⟩
end
end Fm

/-! ## FmName -/
set_option Elab.async false
set_option maxRecDepth 100000
set_option maxHeartbeats 4000000
/-! Names that are drawn: letters put together, a letter behind a stem until it is new. -/
namespace Fm
open PySem L2
theorem bag_junk {F H : Hp} {b p : Addr} (B : Bag F H b) (o : HO) (hp : H p = none) : Bag F (upd H p o) b := bag_same B (same_new o hp)
theorem bag_sub {F F1 H : Hp} {b : Addr} (s : Same F F1) (B : Bag F1 H b) : Bag F H b := by
  obtain ⟨h, fb, cl, ns, p, g, z, c, hh, e1, r⟩ := B
  exact ⟨s.trans h, s.free fb, cl, ns, p, g, z, c, hh, s.free e1, r⟩
theorem at_mem {α : Type} {xs : List α} {r : Int} (h0 : 0 ≤ r) (h1 : r < (xs.length : Int)) : ∃ v, atI xs r = some v ∧ v ∈ xs := by
  obtain ⟨n, rfl⟩ : ∃ n : Nat, r = (n : Int) := ⟨r.toNat, by omega⟩
  have h : n < xs.length := by omega
  exact ⟨xs[n], atI_nat (List.getElem?_eq_getElem h), List.getElem_mem h⟩
theorem nodup_le {α : Type} [DecidableEq α] : ∀ {l m : List α}, l.Nodup → (∀ x ∈ l, x ∈ m) → l.length ≤ m.length
  | [], _, _, _ => Nat.zero_le _
  | x :: r, m, hN, hs => by
    have hx := hs x List.mem_cons_self
    have q := List.nodup_cons.mp hN
    have ih := nodup_le (l := r) (m := m.erase x) q.2 fun y hy => by
      have n : y ≠ x := fun z => q.1 (by rw [← z]; exact hy)
      exact (List.mem_erase_of_ne n).mpr (hs y (List.mem_cons_of_mem _ hy))
    rw [List.length_erase_of_mem hx] at ih
    have pos : 0 < m.length := List.length_pos_of_mem hx
    rw [List.length_cons]
    omega
abbrev one (c : Nat) : Str := ⟨#[c]⟩
def ofL (cs : List Nat) : Str := ⟨cs.toArray⟩
theorem isNm_ofL {cs : List Nat} (h1 : 1 ≤ cs.length) (h2 : cs.length ≤ 8) (h3 : ∀ c ∈ cs, 97 ≤ c ∧ c ≤ 122) : isNm (ofL cs) = true := by
  have l : (ofL cs).length = cs.length := by simp [ofL, Str.length]
  unfold isNm
  rw [l, decide_eq_true h1, decide_eq_true h2]
  show (cs.toArray.toList.all fun c => decide (97 ≤ c) && decide (c ≤ 122)) = true
  rw [List.all_eq_true]
  intro c m
  have q := h3 c (by simpa using m)
  simp [q.1, q.2]
theorem isNm_inv {s : Str} (h : isNm s = true) : 1 ≤ s.cps.toList.length ∧ s.cps.toList.length ≤ 8 ∧ ∀ c ∈ s.cps.toList, 97 ≤ c ∧ c ≤ 122 := by
  unfold isNm at h
  simp only [Bool.and_eq_true, List.all_eq_true, decide_eq_true_eq] at h
  have l : s.cps.toList.length = s.length := by simp [Str.length]
  rw [l]
  exact ⟨h.1.1, h.1.2, h.2⟩
theorem str_ext {s t : Str} (h : s.cps.toList = t.cps.toList) : s = t := by
  obtain ⟨a⟩ := s
  obtain ⟨b⟩ := t
  have e : a = b := Array.ext' h
  rw [e]
theorem ofL_of (s : Str) : ofL s.cps.toList = s := str_ext (by simp [ofL])
theorem joinL_nil : ∀ cs : List Nat, TL.joinL [] (cs.map fun c => [c]) = cs
  | [] => rfl
  | [_] => rfl
  | c :: d :: r => by
    show [c] ++ ([] ++ TL.joinL [] ((d :: r).map fun c => [c])) = c :: d :: r
    rw [joinL_nil (d :: r)]
    rfl
theorem join_one (cs : List Nat) : Txt.join "" (cs.map one) = ofL cs := by
  refine str_ext ?_
  have e := TL.tl_join "" (cs.map one)
  rw [List.map_map] at e
  rw [TL.join_eq]
  exact e.trans (joinL_nil cs)
theorem cutS_to (n : Str) (k : Nat) : cutS n none (some (k : Int)) = ofL (n.cps.toList.take k) := by
  have l : n.cps.toList.length = n.length := by simp [Str.length]
  unfold cutS
  rw [HT.sIx_none, HT.sIx_nat, List.drop_zero, Nat.sub_zero]
  show (⟨(n.cps.toList.take (min k n.length)).toArray⟩ : Str) = ⟨(n.cps.toList.take k).toArray⟩
  rw [← l, ← List.take_eq_take_min]
theorem cutV_to (xs : List V) (k : Nat) : cutV xs none (some (k : Int)) = xs.take k := by
  unfold cutV
  rw [HT.sIx_none, HT.sIx_nat, List.drop_zero, Nat.sub_zero, ← List.take_eq_take_min]
theorem add_one {l : List Nat} {c : Nat} : ofL l ++ one c = ofL (l ++ [c]) := by
  refine str_ext ?_
  show (l.toArray ++ #[c]).toList = _
  simp [ofL]
/-- the word of the turn i: first w itself, then its stem with one letter after another -/
def wd (w : Str) (st : List Nat) (i : Nat) : Str := if i = 0 then w else ofL (st ++ [96 + i])
theorem wd_inj {w : Str} {st : List Nat} {i j : Nat} (hi : i ≠ 0) (hj : j ≠ 0) (h : wd w st i = wd w st j) : i = j := by
  unfold wd at h
  rw [if_neg hi, if_neg hj] at h
  have q : (st ++ [96 + i]).toArray = (st ++ [96 + j]).toArray := congrArg Str.cps h
  have q2 : st ++ [96 + i] = st ++ [96 + j] := by simpa using q
  have q3 := List.append_cancel_left q2
  injection q3 with q4 _
  omega
theorem wd_nm {w : Str} (h : isNm w = true) (i : Nat) (hi : i ≤ 26) : isNm (wd w (w.cps.toList.take 7) i) = true := by
  obtain ⟨h1, h2, h3⟩ := isNm_inv h
  unfold wd
  by_cases e : i = 0
  · rw [if_pos e]
    exact h
  · rw [if_neg e]
    refine isNm_ofL (by simp) ?_ fun c m => ?_
    · rw [List.length_append, List.length_take, List.length_singleton]
      omega
    · rcases List.mem_append.mp m with m | m
      · exact h3 c (List.mem_of_mem_take m)
      · rw [List.mem_singleton.mp m]
        omega
theorem wd_few {w : Str} {st : List Nat} {tk : List Str} {n : Nat} (h : ∀ j, j < n → wd w st j ∈ tk) : n ≤ tk.length + 1 := by
  have q := nodup_le (l := (List.range (n - 1)).map fun j => wd w st (j + 1)) (m := tk) ?_ ?_
  · rw [List.length_map, List.length_range] at q
    omega
  · refine List.Pairwise.map _ (R := (· ≠ ·)) (fun a b hab e => hab ?_) List.nodup_range
    have z := wd_inj (Nat.succ_ne_zero a) (Nat.succ_ne_zero b) e
    omega
  · intro x m
    obtain ⟨j, hj, rfl⟩ := List.mem_map.mp m
    have z := List.mem_range.mp hj
    exact h (j + 1) (by omega)
end Fm

/-! ## K07E -/
set_option Elab.async false
set_option maxRecDepth 100000
set_option maxHeartbeats 4000000
namespace Fm
open PySem L2
theorem pss_never {X : Cx} {b : List Stmt} : PSs X b tNever := ⟨fun _ _ _ _ _ _ h => False.elim h⟩
section
variable {P : Program} {w : World} {K : PySem.W.Frag} {mg : Str → Option Value} {base : Heap} {CS : Addr}
def spBag (K : PySem.W.Frag) : Sp := fun vs H Q _ => ∃ (a : Addr) (ns : List Int), vs = [.ref a] ∧ SqL K H a (ns.map V.int) ∧ ns.length ≤ 63 ∧ ∀ b H', Bag nil0 H' b → Q (.ref b) H'
abbrev s_l_bag : Stmt := topS 30
abbrev sc_l_bagN : List Str := ["_law_script"]
abbrev ps_l_bag : List Str := ["_law_script"]
theorem sc_l_bag : FnScope sc_l_bagN ps_l_bag (defScope s_l_bag) := ⟨rfl, rfl, rfl, by decide +kernel, rfl, by decide +kernel, by decide +kernel⟩
theorem ok_l_bag {f : Addr} {fd : FuncData} (F : Fun K "_law_bag" "_law_bag" s_l_bag f fd) (T : Txt K mg CS) : FnOk P w K mg base CX0 1 f fd ps_l_bag (spBag K) := by
  refine F.ok sc_l_bag (fun vs H Q E h => ?_) (fun cdv A outer s H vs Q E hr h => ?_)
  · obtain ⟨_, _, rfl, _⟩ := h
    rfl
  · obtain ⟨a, ns, rfl, hs, hl, k⟩ := h
    refine ⟨_, (pss_one (ps_ret (pe_lst (pa_cons (pe_callTy call_list_of (by rfl) T.n_list (by decide +kernel) (pa_cons (pe_slice sl_list (pv 0) po_none (po_some pe_int)) pa_nil)) (pa_cons pe_int (pa_cons pe_int (pa_cons pe_int (pa_cons pe_int (pa_cons pe_int pa_nil))))))))), ?_⟩
    refine ⟨_, rfl, _, rfl, a, _, rfl, hs, fun p hp => ?_⟩
    refine ⟨p, _, rfl, .inl (.inl (.inl upd_same)), fun c hc => ⟨by show 6 ≤ sizeLine; decide, fun b hb => ?_⟩⟩
    have ncb : c ≠ b := ne_of_none upd_same hb
    have e : cutV (ns.map V.int) none (some 63) = (ns.take 63).map V.int := by
      rw [List.map_take]
      exact cutV_to _ 63
    refine k b _ ⟨fun _ _ z => (by cases z), rfl, c, ns.take 63, 0, 0, 0, 0, 0, rfl, ncb, ?_, upd_same, by omega, by omega, by omega, by omega⟩
    rw [upd_ne ncb, upd_same, e]
def spName : Sp := fun vs H Q _ => ∃ (F : Hp) (b l : Addr) (tk : List Str), vs = [.ref b, .ref l] ∧ Bag F H b ∧ F l = some (.lst (tk.map V.str)) ∧ tk.length ≤ 20 ∧
  ∀ (n : Str) (H' : Hp), isNm n = true → n ∉ tk → Bag (upd F l (.lst ((tk ++ [n]).map V.str))) H' b → Q (.str n) H'
abbrev s_l_name : Stmt := topS 32
abbrev sc_l_nameN : List Str := ["_law_bag_here", "_law_taken", "_law_letters", "_law_word", "_law_k", "_law_stem"]
abbrev ps_l_name : List Str := ["_law_bag_here", "_law_taken"]
theorem sc_l_name : FnScope sc_l_nameN ps_l_name (defScope s_l_name) := ⟨rfl, rfl, rfl, by decide +kernel, rfl, by decide +kernel, by decide +kernel⟩
theorem ok_l_name {f : Addr} {fd : FuncData} (F : Fun K "_law_name" "_law_name" s_l_name f fd) (T : Txt K mg CS) (D_l_pick : Df P w K mg base "_law_pick" 1 ps_l_pick spPick) : FnOk P w K mg base CX0 2 f fd ps_l_name spName := by
  refine F.ok sc_l_name (fun vs H Q E h => ?_) (fun cdv A outer s H vs Q E hr h => ?_)
  · obtain ⟨_, _, _, _, rfl, _⟩ := h
    rfl
  · obtain ⟨F0, b, l, tk, rfl, B, hl, len, k⟩ := h
    refine ⟨_, (pss_cons (ps_set (i := 2) sc_l_name.nd rfl (Or.inr rfl) pe_str)
  (Evl.pss_cut (ps_if (pt_cmpR op_eq (pe_d D_l_pick (hr.mono (by decide)) (pa_cons (pv 0) (pa_cons pe_int pa_nil))) pe_int (nomark _))
    (pss_one (ps_set (i := 3) sc_l_name.nd rfl (Or.inl rfl) (pe_ix ix_list (pe_lst (pa_cons pe_str (pa_cons pe_str (pa_cons pe_str (pa_cons pe_str (pa_cons pe_str (pa_cons pe_str (pa_cons pe_str (pa_cons pe_str pa_nil))))))))) (pe_d D_l_pick (hr.mono (by decide)) (pa_cons (pv 0) (pa_cons pe_int pa_nil))) (fun _ _ => rfl))))
    (pss_one (ps_set (i := 3) sc_l_name.nd rfl (Or.inl rfl) (pe_join pe_str (pe_lc (own := [("_law_k", 4)]) (g := gName 4) (tt := tYes) (by rfl) sc_l_name.nd (pi_range1 (by rfl) T.n_range (pa_cons (pe_op op_add pe_int (pe_d D_l_pick (hr.mono (by decide)) (pa_cons (pv 0) (pa_cons pe_int pa_nil)))) pa_nil)) (blkOk_by (own := [("_law_k", 4)]) (N := sc_l_nameN) (sc := defScope s_l_name) (by decide +kernel)) (fun _ _ _ _ _ => pg_name (i := 4) sc_l_name.nd rfl (Or.inl rfl)) (fun _ _ _ _ _ => pts_nil) (fun _ _ _ _ _ => (pe_ix ix_str (pv 2) (pe_d D_l_pick (hr.mono (by decide)) (pa_cons (pv 0) (pa_cons pe_int pa_nil))) (fun _ _ => rfl))))))))
  (pss_cons (ps_set (i := 5) sc_l_name.nd rfl (Or.inl rfl) (pe_slice sl_str (pv 3) po_none (po_some pe_int)))
  (pss_cons (ps_for PassesOwn.never rfl (pi_range1 (by rfl) T.n_range (pa_cons pe_int pa_nil)) (pg_name (i := 4) sc_l_name.nd rfl (Or.inl rfl))
    (pss_cons (ps_if (pt_cmpR op_notIn_seq (pv 3) (pv 1) (by rfl))
      (pss_one ps_break)
      pss_nil)
    (pss_one (ps_set (i := 3) sc_l_name.nd rfl (Or.inl rfl) (pe_op op_add_str (pv 5) (pe_ix ix_str (pv 2) (pv 4) (fun _ _ => rfl)))))))
  (pss_cons (ps_expr (pe_bm PySem.F.plainAttrs_list PySem.F.slot_list_append PySem.F.type_list_append mt_append (pv 1) (pa_cons (pv 3) pa_nil)))
  (pss_one (ps_ret (pv 3)))))))), ?_⟩
    -- the word
    refine ⟨fun σ H' => ∃ (n : Str) (v : Option V), σ = [some (.ref b), some (.ref l), some (.str letters), some (.str n), v, none] ∧ isNm n = true ∧ Bag F0 H' b, ?_, ?_⟩
    · refine ⟨_, rfl, F0, b, 12, rfl, by decide, by decide, B, fun r H1 r0 r1 B1 => ⟨rfl, _, rfl, ifd (fun _ => ?_) fun _ => ?_⟩⟩
      · refine ⟨by show 8 ≤ sizeLine; decide, fun p hp => ?_⟩
        refine ⟨_, rfl, _, b, 8, rfl, by decide, by decide, B1.new _ hp, fun r H2 r0 r1 B2 => ?_⟩
        obtain ⟨v, hv, hm⟩ := at_mem (xs := (["end", "put", "scan", "none", "of", "same", "table", "block"] : List Str).map V.str) r0 r1
        obtain ⟨n, hn, rfl⟩ := List.mem_map.mp hm
        have good : ∀ n ∈ (["end", "put", "scan", "none", "of", "same", "table", "block"] : List Str), isNm n = true := by decide +kernel
        refine ⟨p, _, _, _, rfl, rfl, .inl (.inl (B2.fh _ _ upd_same)), hv, ?_⟩
        exact ⟨n, _, rfl, good n hn, bag_sub (fun a o e => by rw [upd_ne (ne_of_none (B1.fh _ _ e) hp)]; exact e) B2⟩
      · refine ⟨⟨_, rfl⟩, _, rfl, F0, b, 8, rfl, by decide, by decide, B1, fun r H2 r0 r1 B2 => ⟨_, _, rfl, rfl, _, rfl, by omega, by omega, fun D hD => ?_⟩⟩
        have fD : F0 D = none := B2.fh.free hD
        have nDl : D ≠ l := fun q => by rw [q, hl] at fD; cases fD
        have toF : ∀ o, Same F0 (upd F0 D o) := fun o a u e => by rw [upd_ne (ne_of_none e fD)]; exact e
        refine lc_range (lo := 0) (n := (1 + r).toNat) (fun i H' => ∃ cs : List Nat, cs.length = i ∧ (∀ c ∈ cs, 97 ≤ c ∧ c ≤ 122) ∧ Bag (upd F0 D (.lst ((cs.map one).map V.str))) H' b) ⟨[], rfl, fun _ m => (by cases m), B2.new _ hD⟩ ?_ ?_
        · rintro i H3 hi ⟨cs, rfl, hcs, B3⟩
          refine ⟨rfl, _, rfl, _, rfl, _, b, 26, rfl, by decide, by decide, B3, fun q H4 q0 q1 B4 => ?_⟩
          obtain ⟨c, hc, hm⟩ := at_mem (xs := letters.cps.toList) q0 (by rw [letters_list]; exact q1)
          rw [letters_list] at hm
          have hm2 := List.mem_range'_1.mp hm
          refine ⟨letters, _, c, rfl, rfl, by decide +kernel, hc, _, B4.fh _ _ upd_same, ?_, cs ++ [c], by simp, fun z m => ?_, ?_⟩
          · rw [List.length_map, List.length_map]
            exact Nat.lt_of_lt_of_le (show cs.length < 100 by omega) (by decide)
          · rcases List.mem_append.mp m with m | m
            · exact hcs z m
            · rw [List.mem_singleton.mp m]
              omega
          · have z := B4.put (.lst (((cs ++ [c]).map one).map V.str)) upd_same
            rw [upd_upd] at z
            have e : ((cs ++ [c]).map one).map V.str = (cs.map one).map V.str ++ [V.str (one c)] := by
              rw [List.map_append, List.map_append]
              rfl
            rw [e] at z ⊢
            exact z
        · rintro H3 ⟨cs, hl3, hcs, B3⟩
          refine ⟨_, D, cs.map one, rfl, rfl, .inl (.inl (.inl (B3.fh _ _ upd_same))), ?_, ?_⟩
          · have e : ((cs.map one).map (·.length)).sum = cs.length := by
              rw [List.map_map]
              clear hl3 hcs B3
              induction cs with
              | nil => rfl
              | cons c cs ih => rw [List.map_cons, List.sum_cons, ih, List.length_cons]; show 1 + cs.length = cs.length + 1; omega
            rw [e, List.length_map]
            show cs.length + cs.length * 0 ≤ 16777216
            omega
          · rw [join_one]
            exact ⟨ofL cs, _, rfl, isNm_ofL (by omega) (by omega) hcs, bag_sub (toF _) B3⟩
    · rintro σ H1 ⟨n, v, rfl, gn, B1⟩
      obtain ⟨n1, n2, n3⟩ := isNm_inv gn
      refine ⟨_, rfl, _, rfl, n, rfl, Nat.le_trans (isNm_len gn) (by decide), ?_⟩
      have cut : cutS n none (some 7) = ofL (n.cps.toList.take 7) := cutS_to n 7
      rw [cut]
      have hl1 := B1.fh _ _ hl
      refine ⟨26, rfl, by decide, by decide, for_range (lo := 0) (n := 26) (fun i σ H' => ∃ v, σ = [some (.ref b), some (.ref l), some (.str letters), some (.str (wd n (n.cps.toList.take 7) i)), v, some (.str (ofL (n.cps.toList.take 7)))] ∧ H' = H1 ∧ ∀ j, j < i → wd n (n.cps.toList.take 7) j ∈ tk) ⟨_, rfl, rfl, fun j z => absurd z (Nat.not_lt_zero _)⟩ ?_ ?_⟩
      · rintro i σ H' hi ⟨v, rfl, rfl, all⟩
        refine ⟨_, rfl, _, rfl, l, _, rfl, .inl (.inl (.inl hl1)), rfl, flat_strs _, _, rfl, ?_⟩
        rw [inV_str]
        refine ifn (fun new => ?_) fun old => ?_
        · refine ⟨_, rfl, .inl ⟨rfl, _, .inl (.inl hl1)⟩, _, rfl, l, _, _, rfl, rfl, hl1, by rw [List.length_map]; exact Nat.lt_of_le_of_lt len (by decide), _, rfl, ?_⟩
          refine k _ _ (wd_nm gn i (by omega)) new ?_
          have z := B1.put (.lst ((tk ++ [wd n (n.cps.toList.take 7) i]).map V.str)) hl
          rw [show (tk ++ [wd n (n.cps.toList.take 7) i]).map V.str = tk.map V.str ++ [V.str (wd n (n.cps.toList.take 7) i)] from by rw [List.map_append]; rfl] at z ⊢
          exact z
        · obtain ⟨c, hc, hm⟩ := at_mem (xs := letters.cps.toList) (r := 0 + (i : Int)) (by omega) (by rw [letters_list, List.length_range']; omega)
          have ec : c = 97 + i := by
            rw [letters_list, Int.zero_add] at hc
            have z := atI_nat (xs := List.range' 97 26) (j := i) (v := 97 + i) (by rw [List.getElem?_range' (by omega)]; simp)
            rw [hc] at z
            exact Option.some.inj z
          refine ⟨_, rfl, _, rfl, _, rfl, letters, _, c, rfl, rfl, by decide +kernel, hc, _, _, rfl, rfl, ?_, some (.int (0 + (i : Nat))), ?_, rfl, fun j hj => ?_⟩
          · have l7 : (ofL (n.cps.toList.take 7)).length ≤ 7 := by
              simp [ofL, Str.length]
              omega
            exact Nat.le_trans (Nat.add_le_add l7 (Nat.le_refl 1)) (show 8 ≤ sizeLine by decide)
          · have e : wd n (n.cps.toList.take 7) (i + 1) = ofL (n.cps.toList.take 7 ++ [97 + i]) := by
              unfold wd
              rw [if_neg (Nat.succ_ne_zero i), show 96 + (i + 1) = 97 + i by omega]
            rw [add_one, ec, e]
            rfl
          · rcases Nat.lt_succ_iff_lt_or_eq.mp hj with z | rfl
            · exact all j z
            · exact old
      · rintro σ H' ⟨v, rfl, rfl, all⟩
        exact absurd (wd_few (n := 26) all) (by omega)
end
end Fm

/-! ## K07F -/
set_option Elab.async false
set_option maxRecDepth 100000
set_option maxHeartbeats 4000000
namespace Fm
open PySem L2
theorem upd_none {F : Hp} {a b : Addr} {o : HO} (h : F a = none) (n : a ≠ b) : upd F b o a = none := by rw [upd_ne n]; exact h
theorem upd_comm {F : Hp} {a b : Addr} {x y : HO} (n : a ≠ b) : upd (upd F a x) b y = upd (upd F b y) a x := by
  funext c
  unfold upd
  by_cases h1 : c = b
  · subst h1
    rw [if_pos rfl, if_neg (Ne.symm n), if_pos rfl]
  · rw [if_neg h1]
    by_cases h2 : c = a
    · rw [if_pos h2, if_pos h2]
    · rw [if_neg h2, if_neg h2, if_neg h1]
theorem nodup_snoc {α : Type} {l : List α} {x : α} (h : l.Nodup) (n : x ∉ l) : (l ++ [x]).Nodup := by
  refine List.pairwise_append.mpr ⟨h, .cons (fun _ m => (by cases m)) .nil, fun a ha b hb e => ?_⟩
  rw [List.mem_singleton.mp hb] at e
  exact n (by rw [← e]; exact ha)
/-- a list of tables stands at p -/
def TbAt (K : PySem.W.Frag) (F : Hp) (p : Addr) (ts : List Tab) : Prop := ∃ xs, F p = some (.lst xs) ∧ DpAll K F xs (ts.map (tabD false))
theorem TbAt.same {K : PySem.W.Frag} {F F' : Hp} {p : Addr} {ts : List Tab} (h : TbAt K F p ts) (s : Same F F') : TbAt K F' p ts := by
  obtain ⟨xs, h1, h2⟩ := h
  exact ⟨xs, s _ _ h1, dpA_mono s _ _ h2⟩
section
variable {P : Program} {w : World} {K : PySem.W.Frag} {mg : Str → Option Value} {base : Heap} {CS : Addr}
def spTables (K : PySem.W.Frag) : Sp := fun vs H Q _ => ∃ (F : Hp) (b : Addr), vs = [.ref b] ∧ Bag F H b ∧ ∀ (p : Addr) (F' H' : Hp) (ts : List Tab), Bag F' H' b → Same F F' → TsOk ts → TbAt K F' p ts → Q (.ref p) H'
abbrev s_l_tables : Stmt := topS 34
abbrev sc_l_tablesN : List Str := ["_law_bag_here", "_law_taken", "_law_tables_here", "_law_k", "_law_name_here", "_law_fields", "_law_j"]
abbrev ps_l_tables : List Str := ["_law_bag_here"]
theorem sc_l_tables : FnScope sc_l_tablesN ps_l_tables (defScope s_l_tables) := ⟨rfl, rfl, rfl, by decide +kernel, rfl, by decide +kernel, by decide +kernel⟩
theorem ok_l_tables {f : Addr} {fd : FuncData} (F : Fun K "_law_tables" "_law_tables" s_l_tables f fd) (T : Txt K mg CS) (D_l_pick : Df P w K mg base "_law_pick" 1 ps_l_pick spPick) (D_l_name : Df P w K mg base "_law_name" 2 ps_l_name spName) :
    FnOk P w K mg base CX0 3 f fd ps_l_tables (spTables K) := by
  refine F.ok sc_l_tables (fun vs H Q E h => ?_) (fun cdv A outer s H vs Q E hr h => ?_)
  · obtain ⟨_, _, rfl, _⟩ := h
    rfl
  · obtain ⟨F0, b, rfl, B, k⟩ := h
    refine ⟨_, (pss_cons (ps_set (i := 1) sc_l_tables.nd rfl (Or.inl rfl) (pe_lst pa_nil))
  (pss_cons (ps_set (i := 2) sc_l_tables.nd rfl (Or.inl rfl) (pe_lst pa_nil))
  (pss_cons (ps_for PassesOwn.never rfl (pi_range1 (by rfl) T.n_range (pa_cons (pe_ix ix_list (pe_lst (pa_cons pe_int (pa_cons pe_int (pa_cons pe_int (pa_cons pe_int (pa_cons pe_int pa_nil)))))) (pe_d D_l_pick (hr.mono (by decide)) (pa_cons (pv 0) (pa_cons pe_int pa_nil))) (fun _ _ => rfl)) pa_nil)) (pg_name (i := 3) sc_l_tables.nd rfl (Or.inl rfl))
    (pss_cons (ps_set (i := 4) sc_l_tables.nd rfl (Or.inl rfl) (pe_d D_l_name (hr.mono (by decide)) (pa_cons (pv 0) (pa_cons (pv 1) pa_nil))))
    (pss_cons (ps_set (i := 5) sc_l_tables.nd rfl (Or.inl rfl) (pe_lst pa_nil))
    (pss_cons (ps_for PassesOwn.never rfl (pi_range1 (by rfl) T.n_range (pa_cons (pe_op op_add pe_int (pe_d D_l_pick (hr.mono (by decide)) (pa_cons (pv 0) (pa_cons pe_int pa_nil)))) pa_nil)) (pg_name (i := 6) sc_l_tables.nd rfl (Or.inl rfl))
      (pss_one (ps_expr (pe_d D_l_name (hr.mono (by decide)) (pa_cons (pv 0) (pa_cons (pv 5) pa_nil))))))
    (pss_one (ps_expr (pe_bm PySem.F.plainAttrs_list PySem.F.slot_list_append PySem.F.type_list_append mt_append (pv 2) (pa_cons (pe_tup (pa_cons (pv 4) (pa_cons (pe_callTy call_tuple_of (by rfl) T.n_tuple (by decide +kernel) (pa_cons (pv 5) pa_nil)) pa_nil))) pa_nil))))))))
  (pss_one (ps_ret (pv 2)))))), ?_⟩
    refine ⟨Nat.zero_le _, fun t ht => ⟨Nat.zero_le _, fun p hp => ?_⟩⟩
    have ntp : t ≠ p := ne_of_none upd_same hp
    have fp : F0 p = none := B.fh.free (by rw [upd_ne (Ne.symm ntp)] at hp; exact hp)
    have ft : F0 t = none := B.fh.free ht
    have B2 := (B.new (.lst []) ht).new (.lst []) hp
    refine ⟨(by show 5 ≤ sizeLine; decide), fun m hm => ⟨_, rfl, _, b, 5, rfl, by decide, by decide, B2.new _ hm, fun r H1 r0 r1 B3 => ?_⟩⟩
    obtain ⟨v, hv, hvm⟩ := at_mem (xs := ([2, 1, 2, 3, 5] : List Int).map V.int) r0 r1
    obtain ⟨z, hz, rfl⟩ := List.mem_map.mp hvm
    have z15 : 1 ≤ z ∧ z ≤ 5 := by
      have all : ∀ z ∈ ([2, 1, 2, 3, 5] : List Int), 1 ≤ z ∧ z ≤ 5 := by decide
      exact all z hz
    have B4 := bag_sub (F := upd (upd F0 t (.lst [])) p (.lst [])) (fun a o e => by rw [upd_ne (ne_of_none (B2.fh _ _ e) hm)]; exact e) B3
    refine ⟨m, _, _, _, rfl, rfl, .inl (.inl (B3.fh _ _ upd_same)), hv, z, rfl, by omega, by omega, ?_⟩
    refine for_range (lo := 0) (n := z.toNat) (fun i σ H' => ∃ (G : Hp) (ts : List Tab) (xs : List V) (v3 v4 v5 v6 : Option V), σ = [some (.ref b), some (.ref t), some (.ref p), v3, v4, v5, v6] ∧ Same F0 G ∧ G t = none ∧ G p = none ∧
      Bag (upd (upd G t (.lst ((ts.map (·.1)).map V.str))) p (.lst xs)) H' b ∧ DpAll K G xs (ts.map (tabD false)) ∧ ts.length = i ∧ (∀ u ∈ ts, TOk u) ∧ (ts.map (·.1)).Nodup) ?_ ?_ ?_
    · exact ⟨F0, [], [], _, _, _, _, rfl, Same.refl _, ft, fp, B4, .nil, rfl, fun _ m => (by cases m), .nil⟩
    · rintro i σ H2 hi ⟨G, ts, xs, v3, v4, v5, v6, rfl, sG, gt, gp, B5, dx, len, ok, nd⟩
      have lx : xs.length = i := by rw [dpA_len dx, List.length_map]; exact len
      -- the table's name
      refine ⟨_, rfl, _, rfl, _, b, t, ts.map (·.1), rfl, B5, by rw [upd_ne ntp, upd_same], by rw [List.length_map]; omega, fun n H3 gn nn B6 => ?_⟩
      rw [upd_comm (Ne.symm ntp), upd_upd] at B6
      -- its fields
      refine ⟨Nat.zero_le _, fun q hq => ?_⟩
      have B7 := B6.new (.lst []) hq
      have q0 := B6.fh.free hq
      have nqt : q ≠ t := fun e => by rw [e, upd_ne ntp, upd_same] at q0; cases q0
      have nqp : q ≠ p := fun e => by rw [e, upd_same] at q0; cases q0
      have gq : G q = none := by rw [upd_ne nqp, upd_ne nqt] at q0; exact q0
      refine ⟨_, rfl, _, b, 4, rfl, by decide, by decide, B7, fun r H4 r0 r1 B8 => ⟨_, _, rfl, rfl, _, rfl, by omega, by omega, ?_⟩⟩
      refine for_range (lo := 0) (n := (1 + r).toNat) (fun j σ H' => ∃ (fs : List Str) (v6 : Option V), σ = [some (.ref b), some (.ref t), some (.ref p), some (.int (0 + (i : Nat))), some (.str n), some (.ref q), v6] ∧ fs.length = j ∧ (∀ f ∈ fs, isNm f = true) ∧ fs.Nodup ∧
        Bag (upd (upd (upd G t (.lst ((ts.map (·.1) ++ [n]).map V.str))) p (.lst xs)) q (.lst (fs.map V.str))) H' b) ?_ ?_ ?_
      · exact ⟨[], _, rfl, rfl, fun _ m => (by cases m), .nil, B8⟩
      · rintro j σ H5 hj ⟨fs, v6, rfl, lf, gf, nf, B9⟩
        refine ⟨_, rfl, _, rfl, _, b, q, fs, rfl, B9, upd_same, by omega, fun f H6 gf2 nf2 B10 => ?_⟩
        rw [upd_upd] at B10
        refine ⟨fs ++ [f], _, rfl, by rw [List.length_append, lf]; rfl, fun g m => ?_, ?_, B10⟩
        · rcases List.mem_append.mp m with m | m
          · exact gf g m
          · rw [List.mem_singleton.mp m]
            exact gf2
        · exact nodup_snoc nf nf2
      · rintro σ H5 ⟨fs, v6, rfl, lf, gf, nf, B9⟩
        -- the table
        have hq5 := B9.fh _ _ upd_same
        have hp5 : H5 p = some (.lst xs) := B9.fh _ _ (by rw [upd_ne (Ne.symm nqp), upd_same])
        refine ⟨_, rfl, .inl ⟨rfl, _, .inl (.inl hp5)⟩, _, rfl, _, rfl, q, _, rfl, .inl ⟨.inl (.inl hq5), fun u hu => ⟨(by show 2 ≤ sizeLine; decide), fun e he => ?_⟩⟩⟩
        have B11 := (B9.new (.tup (fs.map V.str)) hu).new (.tup [.str n, .ref u]) he
        have u0 := B9.fh.free hu
        have nup : u ≠ p := fun z => by rw [z] at u0; rw [upd_ne (Ne.symm nqp), upd_same] at u0; cases u0
        have nut : u ≠ t := fun z => by rw [z] at u0; rw [upd_ne (Ne.symm nqt), upd_ne ntp, upd_same] at u0; cases u0
        have nuq : u ≠ q := fun z => by rw [z] at u0; rw [upd_same] at u0; cases u0
        have gu : G u = none := by rw [upd_ne nuq, upd_ne nup, upd_ne nut] at u0; exact u0
        have hu2 : (upd H5 u (.tup (fs.map V.str))) u = some (.tup (fs.map V.str)) := upd_same
        have neu : e ≠ u := fun z => by rw [z, hu2] at he; cases he
        have he5 : H5 e = none := by rw [upd_ne neu] at he; exact he
        have e0 := B9.fh.free he5
        have nep : e ≠ p := fun z => by rw [z] at e0; rw [upd_ne (Ne.symm nqp), upd_same] at e0; cases e0
        have net : e ≠ t := fun z => by rw [z] at e0; rw [upd_ne (Ne.symm nqt), upd_ne ntp, upd_same] at e0; cases e0
        have neq : e ≠ q := fun z => by rw [z] at e0; rw [upd_same] at e0; cases e0
        have ge : G e = none := by rw [upd_ne neq, upd_ne nep, upd_ne net] at e0; exact e0
        refine ⟨p, _, _, rfl, rfl, by rw [upd_ne (Ne.symm nep), upd_ne (Ne.symm nup)]; exact hp5, Nat.lt_of_le_of_lt (show xs.length ≤ 100 by omega) (by decide), ?_⟩
        have B12 := B11.put (.lst (xs ++ [.ref e])) (o := .lst xs) (l := p) (by rw [upd_ne (Ne.symm nep), upd_ne (Ne.symm nup), upd_ne (Ne.symm nqp), upd_same])
        rw [upd_comm nep, upd_comm nup, upd_comm nqp, upd_upd, upd_comm (a := p) (b := q) (Ne.symm nqp), upd_comm (a := p) (b := u) (Ne.symm nup), upd_comm (a := p) (b := e) (Ne.symm nep),
          upd_comm (a := t) (b := q) (Ne.symm nqt), upd_comm (a := t) (b := u) (Ne.symm nut), upd_comm (a := t) (b := e) (Ne.symm net)] at B12
        have sG2 : Same G (upd (upd (upd G q (.lst (fs.map V.str))) u (.tup (fs.map V.str))) e (.tup [.str n, .ref u])) := fun a o z => by
          rw [upd_ne (ne_of_none z ge), upd_ne (ne_of_none z gu), upd_ne (ne_of_none z gq)]
          exact z
        refine ⟨_, ts ++ [(n, fs)], xs ++ [.ref e], _, _, _, _, rfl, sG.trans sG2, upd_none (upd_none (upd_none gt (Ne.symm nqt)) (Ne.symm nut)) (Ne.symm net), upd_none (upd_none (upd_none gp (Ne.symm nqp)) (Ne.symm nup)) (Ne.symm nep), ?_, ?_, ?_, ?_, ?_⟩
        · rw [List.map_append]
          exact B12
        · rw [List.map_append]
          exact dpA_snoc (dpA_mono sG2 _ _ dx) (.tup (.inl (.inl upd_same)) (.cons (.str n) (.cons (.tup (.inl (.inl (by rw [upd_ne (Ne.symm neu), upd_same]))) (dpA_strs fs)) .nil)))
        · rw [List.length_append, len]
          rfl
        · intro w hw
          rcases List.mem_append.mp hw with hw | hw
          · exact ok w hw
          · rw [List.mem_singleton.mp hw]
            exact ⟨gn, (show 1 ≤ fs.length by omega), (show fs.length ≤ 4 by omega), gf, nf⟩
        · rw [List.map_append]
          exact nodup_snoc nd nn
    · rintro σ H2 ⟨G, ts, xs, v3, v4, v5, v6, rfl, sG, gt, gp, B5, dx, len, ok, nd⟩
      refine ⟨_, rfl, ?_⟩
      refine k p _ H2 ts B5 (fun a o e => ?_) ⟨by omega, by omega, ok, nd⟩ ⟨xs, upd_same, dpA_mono (fun a o e => ?_) _ _ dx⟩
      · rw [upd_ne (ne_of_none e fp), upd_ne (ne_of_none e ft)]
        exact sG a o e
      · rw [upd_ne (ne_of_none e gp), upd_ne (ne_of_none e gt)]
        exact e
end
end Fm

/-! ## FmExc -/
set_option Elab.async false
set_option maxRecDepth 100000
set_option maxHeartbeats 4000000
/-! Own errors that hold a field: isinstance of a caught one, its field, raised by keyword, raised without arguments. -/
namespace Fm
open PySem PySem.Spec PySem.Calls PyProof.Rows
section
variable {prog : Program} {w : World} {A : Around} {E : Value → Shared → Prop} {s : Shared} {K : PySem.W.Frag} {x D : Addr} {ox : Obj} {od : Option Obj}
theorem find_data {a g : Value} {nm : Str} (hc : (PySem.W.clsIn K D).isSome = true) (h1 : PySem.W.findIn K (.ref D) nm = some (some a)) (h2 : PySem.W.specialIn K a "__get__" = some (some g)) (h3 : PySem.W.takesIn K a = some true) :
    PySem.W.findObj K D od nm = some (.bind g a) := by
  cases e : PySem.W.clsIn K D with
  | none => rw [e] at hc; cases hc
  | some cd => unfold PySem.W.findObj; simp [e, h1, h2, h3]
/-- e.__class__ of an error, with a dict or without -/
theorem err_class {Q : Option Value → Shared → Prop} (C : L2.ExcC K D) (X : K.In s.heap) (I : PySem.W.InstAt s.heap x ox D od) (h : Q (some (.ref D)) { s with toks := s.toks + 1 }) : wpAny (model prog w) A (getAttr? (.ref x) "__class__") Q E s := by
  have ff : PySem.W.findObj K D od "__class__" = some (.bind (.builtin "getset_descriptor.__get__") (.builtin "object.__class__")) := find_data (by obtain ⟨cd, e, _⟩ := PySem.W.any_some C.hd; rw [e]; rfl) C.ha C.hn C.ht
  obtain ⟨hp, g, d, t, os⟩ := s
  have l0 := I.type (M := model prog w)
  have l1 := PySem.W.looks_findIn (M := model prog w) X C.hg
  have l2 := PySem.W.looks_findIn (M := model prog w) X C.hk
  have l3 := PySem.W.looks_find (M := model prog w) X I ff
  have ln : PySem.W.Looks (model prog w) hp (isInstance (.ref x) (.type "BaseException")) true := l0.andThen (PySem.W.looks_subIn X C.hs)
  have n2 : (Value.builtin "BaseException.__getattribute__" == Value.builtin "object.__getattribute__") = false := by decide +kernel
  have n1 : (onTheHeap (Value.ref D) && (Value.builtin "BaseException.__getattribute__" == Value.builtin "object.__getattribute__")) = false := by rw [n2]; rfl
  have n0 : (false && onTheHeap (Value.builtin "BaseException.__getattribute__")) = false := rfl
  unfold getAttr?; unfold getAttrBy?; unfold getAttrBy
  refine wpAny_bind (wpAny_mkText ?_); refine wpAny_bind (wpAny_attempt (wpAny_holding ?_)); refine wpAny_bind (l0.at ?_); refine wpAny_bind (l1.at ?_)
  show wpAny (model prog w) _ (if (onTheHeap (Value.ref D) && (Value.builtin "BaseException.__getattribute__" == Value.builtin "object.__getattribute__")) = true then _ else _) _ _ _
  rw [n1, if_neg Bool.false_ne_true]; unfold getAttrByItsOwn; unfold hookBefore
  refine wpAny_bind ?_; rw [if_pos (show onTheHeap (Value.ref D) = true from rfl)]; refine l2.at ?_
  refine wpAny_bind (wpAny_attempt (wpAny_holding ?_)); unfold callGetattribute; rw [n0, if_neg Bool.false_ne_true]; unfold boundAndCalled
  rw [PySem.F.excAttr_ValueError.ga.bind (.ref x)]; refine wpAny_bind (wpAny_pure ?_)
  show wpAny (model prog w) _ (call (.builtin "BaseException.__getattribute__") [.ref x, .str "__class__" t]) _ _ _
  refine wpAny_call (codeAny_call_builtin PySem.F.excAttr_ValueError.ga.plain PySem.F.entry_bexc_ga ?_)
  refine @PySem.W.check_slot (model prog w) _ _ ⟨hp, g, d, t + 1, os⟩ "BaseException.__getattribute__" "BaseException" "__getattribute__" (.ref x) [.str "__class__" t] [] _ (by decide +kernel) (by decide +kernel) ln (PySem.F.args_bexc_ga (.ref x) (.str "__class__" t)) ?_
  unfold Builtin.«object.__getattribute__»
  refine wpAny_bind (wpAny_of_eq (a := ((Value.ref x : Value), [Value.str "__class__" t])) (by first | rfl | (simp only [slotArgs]; rfl)) ?_)
  refine wpAny_bind (wpAny_pure ?_); refine wpAny_bind (l0.at ?_); refine wpAny_bind (l3.at ?_)
  show wpAny (model prog w) _ (holding [Value.builtin "object.__class__"] (call (.builtin "getset_descriptor.__get__") [.builtin "object.__class__", .ref x, .ref D]) >>= ret) _ _ _
  refine wpAny_bind (wpAny_holding (wpAny_call (PySem.W.class_get (s := ⟨hp, g, d, t + 1, os⟩) (ox := ox) (od := od) X I C.hm ?_)))
  refine wpAny_pure ?_
  show wpAny (model prog w) _ (handedOut (.ref D)) _ _ _
  rw [PySem.W.handedOut_of (v := .ref D) rfl]
  first | exact wpAny_pure (wpAny_pure h) | exact wpAny_pure h | exact wpAny_pure (wpAny_bind (wpAny_pure (wpAny_pure h)))
theorem err_kit (C : L2.ExcC K D) : PySem.W.KitX K (.ref x) (.ref D) (fun h => ∃ od, PySem.W.InstAt h x ox D od) where
  ty := fun _ _ _ ⟨_, I⟩ => I.type
  it := fun _ _ X _ => by
    obtain ⟨cd, e, _⟩ := PySem.W.any_some C.hd
    unfold PySem.W.clsIn at e
    split at e
    · rename_i o1 o2 o3 o4 ho
      intro A' Q' E' s' k q
      unfold isType; unfold loadHead
      exact wpAny_bind (wpAny_loadPart (k _ _ (X _ _ ho)) (wpAny_pure q))
    · cases e
  ne := fun h tp dd its n sl X htp => by
    obtain ⟨cd, e, _⟩ := PySem.W.any_some C.hd
    refine Bool.eq_false_iff.mpr fun q => ?_
    cases Value.ref.inj (beq_iff_eq.mp q)
    unfold PySem.W.clsIn at e
    split at e
    · rename_i o1 o2 o3 o4 ho
      cases (X _ _ ho).symm.trans htp
    · cases e
  ca := fun X ⟨_, I⟩ k => err_class C X I k
end
section
open L2
variable {X : Cx}
theorem inst_err {H : Hp} {s : Shared} {a D : Addr} {oe : Obj} {d : Option Addr} (hget : s.heap.get? a = some oe) (hok : HOk X.prog X.w H s.heap) (hz : Zc (.ref D) d oe) (hf : ∃ vs, oe.data = .fields vs) (hd : ∀ dd, d = some dd → ∃ fs, H dd = some (.xd fs)) :
    ∃ od, PySem.W.InstAt s.heap a oe D od := by
  obtain ⟨vs, hv⟩ := hf
  have nc : PySem.W.notCls oe = true := by unfold PySem.W.notCls; rw [hv] <;> rfl
  cases d with
  | none => exact ⟨none, hget, hz.1, nc, by rw [hz.2]; trivial⟩
  | some dd =>
    obtain ⟨fs, e⟩ := hd dd rfl
    have z : ObjOk X.prog X.w H s.heap dd (.xd fs) := hok dd _ e
    obtain ⟨mA, hns, _⟩ := z
    obtain ⟨od, ho, _⟩ := lookIn_ns hns
    exact ⟨some od, hget, hz.1, nc, by rw [hz.2]; exact ho⟩
/-- isinstance(e, c), e the error that the suite holds: its class and its dict as they come -/
def rIsF (K : PySem.W.Frag) (a : Addr) (cls : Value) (d : Option Addr) : List V → Hp → VK → Prop := fun xs H Q => ∃ (D : Addr) (c : V) (u : Value) (b : Bool), xs = [.ref a, c] ∧ cls = .ref D ∧ ExcC K D ∧ (∀ dd, d = some dd → ∃ fs, H dd = some (.xd fs)) ∧ ClsV c u ∧ PySem.W.kitOne K (.ref D) u = some b ∧ Q (.bl b) H
theorem call_isF {a : Addr} {cls : Value} {d : Option Addr} {oe : Obj} {pn : List (Addr × Obj)} (hz : Zc cls d oe) (hf : ∃ vs, oe.data = .fields vs) : CallR (X.suite a ((a, oe) :: pn)) (.builtin "isinstance") (rIsF X.K a cls d) := by
  intro pins s σ H xs us Q I r h
  obtain ⟨D, c, u, b, rfl, rfl, C, hd, hc, e, q⟩ := h
  obtain ⟨u1, u2, rfl, r1, r2⟩ := vals2 r
  have e2 := hc.eq r2
  subst e2
  cases (show u1 = Value.ref a from r1)
  obtain ⟨hg, _⟩ := I.pin (a, oe) (List.mem_append_left _ List.mem_cons_self)
  exact PySem.W.kia_one (err_kit C) I.kIn (inst_err hg I.hok hz hf hd) e (fun z => nomatch z) fun tk => ⟨.bl b, H, I.tok tk, rfl, q⟩
/-- e.f, e the error that the suite holds -/
def tXg (K : PySem.W.Frag) (a : Addr) (cls : Value) (d : Option Addr) (f : Str) (te : TE) : TE := fun σ H Q => te σ H fun x H1 => x = .ref a ∧ ∃ (C dd : Addr) (fs : List (Str × V)) (v : V), cls = .ref C ∧ XfC K C ∧ PySem.W.findIn K (.ref C) f = some none ∧ d = some dd ∧ H1 dd = some (.xd fs) ∧ fs.lookup f = some v ∧ Q v H1
theorem pe_xg {a : Addr} {oe : Obj} {cls : Value} {d : Option Addr} {pn : List (Addr × Obj)} {e : Expr} {te : TE} {pos : Pos} {n : Str} (hz : Zc cls d oe) (hf : ∃ vs, oe.data = .fields vs) (he : PE (X.suite a ((a, oe) :: pn)) e te)
    (hb : attributeBase e n X.env (eval e X.env) = eval e X.env := by rfl) : PE (X.suite a ((a, oe) :: pn)) (.Attribute e n pos) (tXg X.K a cls d n te) := by
  refine ⟨fun pins s σ H Q I h => attr_of hb (thn (he.run pins s σ H _ I h) fun u s1 hh => ?_)⟩
  obtain ⟨x, H1, I1, rx, rfl, C, dd, fs, v, rfl, T, hno, rfl, ea, l, q⟩ := hh
  cases (show u = Value.ref a from rx)
  obtain ⟨ha, _⟩ := I1.pin (a, oe) (List.mem_append_left _ List.mem_cons_self)
  obtain ⟨vs, hd⟩ := hf
  have z : ObjOk X.prog X.w H1 s1.heap dd (.xd fs) := I1.hok dd _ ea
  obtain ⟨mA, hns, hr⟩ := z
  obtain ⟨od, ho, hl⟩ := lookIn_ns hns
  obtain ⟨u, hu, ru⟩ := RelO.some_of (v := v) (o := mA n) (by rw [← l]; exact hr n)
  exact HandSPX.exc_get I1.kIn ⟨ha, hz.1, by unfold PySem.W.notCls; rw [hd] <;> rfl, by rw [hz.2]; exact ho⟩ T.ga T.gg T.exC (PySem.W.findObj_own T.hdC hno rfl (by rw [hl, hu])) (handed_of ru) ⟨v, H1, I1.tok _, ru, q⟩
theorem pmk_own0 {C : Addr} {bmB : List Value} {B newId initId : String} {x : Str} {p pos : Pos} (F : ExcBaseFacts B newId initId bmB) (q : PySem.W.excIn X.K C bmB newId = true) (gC : X.mg x = some (.ref C))
    (kC : PySem.W.keepIn X.K (.ref C) = true) (r : Raises X (.ref C)) (hg : Gl X x := by rfl) (hdb : (x == ("__debug__" : Str)) = false := by decide) : PMk X (.Call (.Name x p) [] [] pos) (fun _ H Q => Q (.ref C) none H) := by
  intro pins s σ H Q I h
  refine wpAny_Call_Name_kw (ld_glob I hg gC ?_ hdb)
  refine PySem.W.callWith_K0 I.kIn kC ?_
  obtain ⟨bm, N, nm, qn, bs, hdct, sn, sub, ab, col, dd, k0, k1, k2, k3, k5, mN, hC, hN, hni, T⟩ := exc_obj I.kIn q
  exact wpAny_call_exc_subT F T hC hN hni (fun h' e hm => mk_of I hm r h (I.hok.gone hm.new)) (Nat.zero_le _)
end
section
open PySem.HandSPX
variable {M : Model} {A : Around} {E : Value → Shared → Prop} {h : Heap} {g : Array GenState} {d : Drawn} {t : Nat} {os : OsState}
variable {nm q : Str} {C N : Addr} {bs bm bmB : List Value} {hdct : Bool} {sn : List Str} {sub : List Value} {ab : Bool} {col : Option Bool} {dd : Option Addr} {k0 k1 k2 k3 k5 : Option Value} {B newId initId : String}
theorem check_newK (F : ExcBaseFacts B newId initId bmB) (hT : ∀ X : String, bm.contains (.type X) = bmB.contains (.type X)) {kw : List (Str × Value)} {Q : Unit → Shared → Prop}
    (hC : h.get? C = some (excClassObj nm q C N bs bm hdct sn sub ab col dd k0 k1 k2 k3 k5 newId)) (hq : Q () ⟨h, g, d, t, os⟩) : wpAny M A (checkBuiltinCall newId ⟨[.ref C], kw⟩) Q E ⟨h, g, d, t, os⟩ := by
  have c1 : (Value.ref C :: bm).contains (.type B) = true := by rw [List.contains_cons, hT, F.hasB, Bool.or_true]
  have c2 := F.noStar
  simp only [checkBuiltinCall, F.newKind, F.newSplit, F.newRow]
  repeat (first
    | refine wpAny_loadPart_at hC ?_
    | (refine wpAny_isSubtype_exc hC ?_; rw [c1])
    | refine wpAny_staticBase_exc hC ?_
    | refine wpAny_madeBy_exc hC ?_
    | simp only [bne_self_eq_false, Bool.false_eq_true, if_false]
    | wp_step)
  exact hq
end
section
open PySem.HandSPX
variable {prog : Program} {w : World} {A : Around} {E : Value → Shared → Prop} {R : Result → Shared → Prop} {h : Heap} {g : Array GenState} {d : Drawn} {t : Nat} {os : OsState}
variable {nm q : Str} {C N : Addr} {bs bm bmB : List Value} {hdct : Bool} {sn : List Str} {sub : List Value} {ab : Bool} {col : Option Bool} {dd : Option Addr} {k0 k1 k2 k3 k5 : Option Value} {B newId initId : String}
theorem new_ownK (F : ExcBaseFacts B newId initId bmB) (hT : ∀ X : String, bm.contains (.type X) = bmB.contains (.type X)) {kw : List (Str × Value)}
    (hC : h.get? C = some (excClassObj nm q C N bs bm hdct sn sub ab col dd k0 k1 k2 k3 k5 newId))
    (hq : R (.ok (.ret (.ref (h.objs.size + 1)))) ⟨(h.push (PySem.W.kdv_tup [])).push (excO C h.objs.size), g, d, t, os⟩) : codeAny (model prog w) A (.builtin newId ⟨[.ref C], kw⟩) R ⟨h, g, d, t, os⟩ := by
  have hends := F.ends
  have c1 : (Value.ref C :: bm).contains (.type B) = true := by rw [List.contains_cons, hT, F.hasB, Bool.or_true]
  have c2 : (Value.ref C :: bm).contains (.type "AttributeError") = false := by rw [List.contains_cons, hT, F.noAttr]; rfl
  have c3 : (Value.ref C :: bm).contains (.type "NameError") = false := by rw [List.contains_cons, hT, F.noName]; rfl
  refine codeAny_builtinAt F.entry ?_
  unfold Builtin.«BaseException.__new__»
  refine PySem.wpAt_bind ?_
  show PySem.wpAt _ _ _ (stack >>= _) _ _ _
  refine PySem.wpAt_bind (PySem.wpAt_stack fun p below => PySem.wpAt_of_wpAny ?_)
  wp_walk
  refine PySem.wpAt_of_wpAny ?_
  rw [F.owner]
  repeat (first
    | with_reducible refine wpAny_madeHere_exc F.canon hC ?_
    | with_reducible refine wpAny_loadPart_at hC ?_
    | (with_reducible refine wpAny_isSubtype_exc hC ?_; first | rw [c1] | rw [c2] | rw [c3])
    | wp_step)
  show R _ _
  rw [Heap.size_push]
  exact hq
theorem type_callK (F : ExcBaseFacts B newId initId bmB) (hT : ∀ X : String, bm.contains (.type X) = bmB.contains (.type X)) {kw : List (Str × Value)} {fI : Addr} {Q : Fin → Shared → Prop}
    (hC : h.get? C = some (excClassObj nm q C N bs bm hdct sn sub ab col dd k0 k1 k2 k3 k5 newId))
    (hi : PySem.W.Looks (model prog w) h (typeLookup (.ref C) "__init__") (some (.ref fI))) (hb : ∀ self, PySem.W.Looks (model prog w) h (bindSpecial (.ref fI) self) (.ref fI, [self]))
    (hq : codeAny (model prog w) A (.call (.ref fI) ⟨[.ref (h.objs.size + 1)], kw⟩)
      (fun r s' => match r with | .ok (.ret v) => v = .none ∧ Q (.done (.ret (.ref (h.objs.size + 1)))) s' | .ok _ => False | .error e => E e s') ⟨(h.push (PySem.W.kdv_tup [])).push (excO C h.objs.size), g, d, t, os⟩) :
    wpAny (model prog w) A (Builtin.«type.__call__» ⟨[.ref C], kw⟩) Q E ⟨h, g, d, t, os⟩ := by
  repeat (first
    | with_reducible refine wpAny_loadPart_at hC ?_
    | with_reducible refine wpAny_madeBy_exc hC ?_
    | wp_step)
  refine codeAny_call_builtin_code (Code.quiet_builtin _ F.quiet) (check_newK F hT hC ?_)
  refine new_ownK F hT hC ?_
  show wpAny _ _ _ _ _ _
  have k : ∀ b o, h.get? b = some o → ((h.push (PySem.W.kdv_tup [])).push (excO C h.objs.size)).get? b = some o := fun b o e => Heap.get?_push_of_some _ (Heap.get?_push_of_some _ e)
  have e1 := k _ _ hC
  have e2 : ((h.push (PySem.W.kdv_tup [])).push (excO C h.objs.size)).get? (h.objs.size + 1) = some (excO C h.objs.size) := by heap_get
  have e3 : (Value.ref C :: bm).contains (.ref C) = true := by simp
  have i1 := hi.keeps k
  have b1 := (hb (.ref (h.objs.size + 1))).keeps k
  unfold isInstance
  repeat (first
    | with_reducible refine wpAny_loadPart_at e2 ?_
    | (with_reducible refine wpAny_isSubtype_exc e1 ?_; rw [e3])
    | wp_step)
  show wpAny _ _ (typeLookup (.ref C) _) _ _ _
  refine i1.at ?_
  refine wpAny_holding (wpAny_bind (b1.at ?_))
  refine wpAny_bind (wpAny_call (codeAny_mono hq fun r s' z => ?_))
  rcases r with e | (v | _ | _ | _) <;> first | exact z | exact z.elim | skip
  obtain ⟨rfl, z⟩ := z
  first
    | exact wpAny_pure (wpAny_pure z)
    | (wp_walk; exact z)
theorem call_ownK (F : ExcBaseFacts B newId initId bmB) (hT : ∀ X : String, bm.contains (.type X) = bmB.contains (.type X)) {kw : List (Str × Value)} {fI : Addr}
    (hC : h.get? C = some (excClassObj nm q C N bs bm hdct sn sub ab col dd k0 k1 k2 k3 k5 newId))
    (hi : PySem.W.Looks (model prog w) h (typeLookup (.ref C) "__init__") (some (.ref fI))) (hb : ∀ self, PySem.W.Looks (model prog w) h (bindSpecial (.ref fI) self) (.ref fI, [self]))
    (hq : codeAny (model prog w) (A.under (.builtin "type.__call__" ⟨[.ref C], kw⟩)) (.call (.ref fI) ⟨[.ref (h.objs.size + 1)], kw⟩) (PySem.W.InitBack (h.objs.size + 1) R) ⟨(h.push (PySem.W.kdv_tup [])).push (excO C h.objs.size), g, d, t, os⟩) :
    codeAny (model prog w) A (.call (.ref C) ⟨[], kw⟩) R ⟨h, g, d, t, os⟩ := by
  have f1 := tc_lookup
  have f2 := tc_bind (.ref C)
  have hTy : (⟨h, g, d, t, os⟩ : Shared).TypeIs (.ref C) "type" := ⟨_, hC, rfl⟩
  refine codeAny_of_tree ?_
  show wpAny _ _ (callAny (.ref C) _) _ _ _
  repeat (any_goals (first | assumption | with_reducible refine wpAny_loadPart_at hC ?_ | wp_step))
  refine ⟨rfl, ?_⟩
  refine codeAny_call_builtin_at (Code.quiet_builtin _ (by decide +kernel)) entry_typeCall (wpAny_check_type_call_sub hC (type_callK F hT hC hi hb ?_))
  refine codeAny_mono hq fun r s' z => ?_
  rcases r with e | (v | _ | _ | _) <;> exact z
end
section
open L2
variable {X : Cx} {kws : List Keyword} {tk : TA} {p pos : Pos} {g : List Value → List Value → List Value} {gV : List V → List V → List V} {ks : List Str}
/-- C(k = v, ..) of an own error class: laid bare, then its __init__ -/
def tMkK (C : Addr) (m : Nat) (sp : Sp) (gV : List V → List V → List V) (tk : TA) : L2.St → Hp → XK → Prop := fun σ H Q => tk σ H fun zs H1 => zs.length = m ∧ ∀ a, H1 a = none → sp (gV [.ref a] zs) (upd H1 a (exo a C none))
  (fun v H2 => v = .non ∧ ∃ (d : Addr) (fs : List (Str × V)), H2 a = some (exo a C (some d)) ∧ H2 d = some (exd d fs) ∧ H1 d = none ∧ Q (.ref C) (some d) (upd (del H2 a) d (.xd fs))) (fun _ _ _ => False)
theorem pmk_oexK {CX : CXT} {x : Str} {C fI : Addr} {k : Nat} {fd : FuncData} {ps : List Str} {sp : Sp} (T : OexC X.K C) (iC : PySem.W.findIn X.K (.ref C) "__init__" = some (some (.ref fI))) (tI : PySem.W.typeIn X.K (.ref fI) = some (.type "function"))
    (F1 : FnOk X.prog X.w X.K X.mg X.base CX k fI fd ps sp) (hr : Room (k + 1) X.A) (hb : KBn X.K fd ps 1 ks g gV) (hx : Passes CX X (fun _ _ _ => False)) (hm : X.mg x = some (.ref C)) (hkw : PK X kws tk) (hg : Gl X x := by rfl)
    (hall : (backToKw pos (keywordEach kws X.env)).all (·.1.isSome) = true := by rfl) (hks : (backToKw pos (keywordEach kws X.env)).filterMap (·.1) = ks := by rfl) (hdb : (x == ("__debug__" : Str)) = false := by decide)
    (hpl : ((backTo pos (starEach [] X.env)).any (·.1) || (backToKw pos (keywordEach kws X.env)).any (·.1.isNone)) = false := by rfl) :
    PMk X (.Call (.Name x p) [] kws pos) (tMkK C ks.length sp gV tk) := by
  intro pins s σ H Q I h
  obtain ⟨nm, q, N, bs, bm, sn, sub, ab, col, dd, k0, k1, k2, k3, k5, hC, hbm⟩ := T.cls
  refine wpAny_Call_Name_kw (ld_glob I hg hm ?_ hdb)
  refine PySem.W.callWith_KW0 (h₀ := X.base) I.ok.mod.kin T.kC hall ?_ hpl
  refine thn (hkw.run pos pins s σ H _ I h) fun ws s1 ⟨zs, H1, I1, rz, q1⟩ => ⟨I1.kIn, ?_⟩
  rw [hks]
  show wpAny _ _ (call (.ref C) [] (ks.zip ws)) _ _ _
  obtain ⟨hp, gg, dr, tok, os⟩ := s1
  have z1 : hp.objs.size ≤ hp.objs.size + 1 := Nat.le_succ _
  have hq := q1.2 (hp.objs.size + 1) (I1.hok.fresh z1)
  have kk : ∀ b o, hp.get? b = some o → ((hp.push (PySem.W.kdv_tup [])).push (PySem.HandSPX.excO C hp.objs.size)).get? b = some o := fun b o e => Heap.get?_push_of_some _ (Heap.get?_push_of_some _ e)
  have hget : ((hp.push (PySem.W.kdv_tup [])).push (PySem.HandSPX.excO C hp.objs.size)).get? (hp.objs.size + 1) = some (PySem.HandSPX.excO C hp.objs.size) := by heap_get
  have I2 : Inv X pins σ (upd H1 (hp.objs.size + 1) (exo (hp.objs.size + 1) C none)) ⟨(hp.push (PySem.W.kdv_tup [])).push (PySem.HandSPX.excO C hp.objs.size), gg, dr, tok, os⟩ :=
    I1.laid (t' := tok) (a := hp.objs.size + 1) (o := exo (hp.objs.size + 1) C none) (h' := (hp.push (PySem.W.kdv_tup [])).push (PySem.HandSPX.excO C hp.objs.size)) kk z1 (exo_ok hget)
  have r2 := hb.rel (vs := [V.ref (hp.objs.size + 1)]) (us := [Value.ref (hp.objs.size + 1)]) (.cons rfl .nil) rz
  refine wpAny_call (call_ownK F.excBase_ValueError (fun Y => PySem.HandSPX.refsVE_contains Y bm hbm) (I1.kIn _ _ hC) (PySem.W.looks_findIn I1.kIn iC) (fun self => PySem.W.bind_fn I1.kIn self tI)
    (codeAny_mono (F1.run _ X.stack _ _ ⟨[Value.ref (hp.objs.size + 1)], ks.zip ws⟩ (g [Value.ref (hp.objs.size + 1)] ws) _ _ (fun _ _ _ => False) (hr.make C [] (ks.zip ws)) (I2.env0.make C [] (ks.zip ws))
      (hb.to _ [Value.ref (hp.objs.size + 1)] ws I2.kIn rfl (rz.length.symm.trans q1.1)) r2 hq) fun r s' hq' => ?_))
  cases r with
  | error er => exact hx pins σ _ _ er s' I2 hq'
  | ok fl =>
    cases fl with
    | ret u =>
      obtain ⟨v, H2, os2, bare2, un2, hok2, rv, ev, d, fs, ea, ed, hd1, q2⟩ := hq'
      subst ev
      obtain ⟨h2, g2, d2, t2, os'⟩ := s'
      exact ⟨rv, mk_end (raises_own T.exC T.tyC) I1 z1 kk un2 hok2 os2 bare2 ea ed hd1 q2⟩
    | next => exact False.elim hq'
    | brk => exact False.elim hq'
    | cont => exact False.elim hq'
end
end Fm

/-! ## FmRaise -/
set_option Elab.async false
set_option maxRecDepth 100000
set_option maxHeartbeats 4000000
/-! Raising own errors: by position, by keyword, without arguments; a def that raises, called within a try. -/
namespace Fm
open PySem PySem.Spec PyProof.Rows L2
/-- __init__(self, v) of an own error: self.f = v -/
def spIn (K : PySem.W.Frag) (f : Str) : Sp := fun vs H Q _ => ∃ (a C : Addr) (v : V), vs = [.ref a, v] ∧ OexC K C ∧ H a = some (exo a C none) ∧ PySem.W.findIn K (.ref C) f = some none ∧ ∀ dx, H dx = none → dx ≠ a → Q .non (upd (upd H dx (exd dx [(f, v)])) a (exo a C (some dx)))
structure Xf (P : Program) (w : World) (K : PySem.W.Frag) (mg : Str → Option Value) (base : Heap) (x : Str) (C : Addr) (f : Str) : Prop where
  ex : ∃ (fI : Addr) (fd : FuncData), OexC K C ∧ PySem.W.findIn K (.ref C) "__init__" = some (some (.ref fI)) ∧ PySem.W.typeIn K (.ref fI) = some (.type "function") ∧ FnOk P w K mg base CX0 1 fI fd ["self", f] (spIn K f) ∧ mg x = some (.ref C) ∧ Binds K fd ["self", f] [] ∧
    KBn K fd ["self", f] 1 [f] (fun us ws => us ++ ws) (fun vs zs => vs ++ zs) ∧ PySem.W.findIn K (.ref C) f = some none
structure X0 (K : PySem.W.Frag) (mg : Str → Option Value) (x : Str) (C : Addr) : Prop where
  ex : ∃ (bmB : List Value) (B newId initId : String), ExcBaseFacts B newId initId bmB ∧ PySem.W.excIn K C bmB newId = true ∧ mg x = some (.ref C) ∧ PySem.W.keepIn K (.ref C) = true ∧ PySem.W.subIn K (.ref C) (.type "BaseException") = some true ∧ PySem.W.typeIn K (.ref C) = some (.type "type")
def tRE (C : Addr) (f : Str) (i : Nat) (W : WX) : TS := fun _ σ H => ∃ v, σ[i]? = some (some v) ∧ ∀ d, H d = none → W (.ref C) (some d) σ (upd H d (.xd [(f, v)]))
theorem del_upd {H : Hp} {a d : Addr} {o1 o2 o3 o4 : HO} (ha : H a = none) (ne : d ≠ a) : upd (del (upd (upd (upd H a o1) d o2) a o3) a) d o4 = upd H d o4 := funext fun b => by
  by_cases q : b = d
  · rw [q, upd_same, upd_same]
  · rw [upd_ne q, upd_ne q]
    by_cases z : b = a
    · rw [z, del_same, ha]
    · rw [del_ne z, upd_ne z, upd_ne q, upd_ne z]
section
variable {X : Cx} {W : WX} {x f : Str} {C : Addr} {i : Nat} {e : Expr} {p pos pos' kpos : Pos}
theorem init_read {K : PySem.W.Frag} {H : Hp} {a : Addr} {v : V} {Q : XK} {E : XK} (T : OexC K C) (hno : PySem.W.findIn K (.ref C) f = some none) (ha : H a = none) (k : ∀ d, H d = none → Q (.ref C) (some d) (upd H d (.xd [(f, v)]))) :
    spIn K f [.ref a, v] (upd H a (exo a C none)) (fun z H2 => z = .non ∧ ∃ (d : Addr) (fs : List (Str × V)), H2 a = some (exo a C (some d)) ∧ H2 d = some (exd d fs) ∧ H d = none ∧ Q (.ref C) (some d) (upd (del H2 a) d (.xd fs))) E :=
  ⟨a, C, v, rfl, T, upd_same, hno, fun dx hdx ne => ⟨rfl, dx, [(f, v)], upd_same, by rw [upd_ne ne, upd_same], by rw [upd_ne ne] at hdx; exact hdx, by rw [del_upd ha ne]; exact k dx (by rw [upd_ne ne] at hdx; exact hdx)⟩⟩
theorem ps_rE (B : Xf X.prog X.w X.K X.mg X.base x C f) (hr : Room 2 X.A) (tk : Takes X W) (he : PE X e (tVar i)) (hc : X.calm = true := by rfl) (hg : Gl X x := by rfl) (hdb : (x == ("__debug__" : Str)) = false := by decide)
    (hst : starEach [e] X.env = (false, eval e X.env) :: starEach [] X.env := by rfl) (hpl : (backTo pos (starEach [] X.env)).any (·.1) = false := by rfl) : PS X (.Raise (some (.Call (.Name x p) [e] [] pos)) none pos') (tRE C f i W) := by
  obtain ⟨fI, fd, T, iC, tI, F1, hm, hb, _, hno⟩ := B.ex
  refine ⟨fun pins s σ H D I h => ?_⟩
  obtain ⟨v, hv, k⟩ := h
  exact (ps_raise hc tk (pmk_oex T iC tI F1 hr hb .nil pass0 hg hm (pa_cons he pa_nil (hs := hst)) hdb hst hpl)).run pins s σ H D I ⟨v, hv, (by show 1 ≤ 1000; decide), fun a ha => init_read (v := v) (Q := fun cls d H' => W cls d σ H') T hno ha k⟩
theorem ps_rK (B : Xf X.prog X.w X.K X.mg X.base x C f) (hr : Room 2 X.A) (tk : Takes X W) (he : PE X e (tVar i)) (hc : X.calm = true := by rfl) (hg : Gl X x := by rfl) (hdb : (x == ("__debug__" : Str)) = false := by decide)
    (hall : (backToKw pos (keywordEach [⟨some f, e, kpos⟩] X.env)).all (·.1.isSome) = true := by rfl) (hks : (backToKw pos (keywordEach [⟨some f, e, kpos⟩] X.env)).filterMap (·.1) = [f] := by rfl)
    (hpl : ((backTo pos (starEach [] X.env)).any (·.1) || (backToKw pos (keywordEach [⟨some f, e, kpos⟩] X.env)).any (·.1.isNone)) = false := by rfl) : PS X (.Raise (some (.Call (.Name x p) [] [⟨some f, e, kpos⟩] pos)) none pos') (tRE C f i W) := by
  obtain ⟨fI, fd, T, iC, tI, F1, hm, _, hb, hno⟩ := B.ex
  refine ⟨fun pins s σ H D I h => ?_⟩
  obtain ⟨v, hv, k⟩ := h
  exact (ps_raise hc tk (pmk_oexK T iC tI F1 hr hb pass0 hm (pk_cons he pk_nil) hg hall hks hdb hpl)).run pins s σ H D I ⟨v, hv, rfl, fun a ha => init_read (v := v) (Q := fun cls d H' => W cls d σ H') T hno ha k⟩
theorem ps_r0 (B : X0 X.K X.mg x C) (tk : Takes X W) (hc : X.calm = true := by rfl) (hg : Gl X x := by rfl) (hdb : (x == ("__debug__" : Str)) = false := by decide) : PS X (.Raise (some (.Call (.Name x p) [] [] pos)) none pos') (fun _ σ H => W (.ref C) none σ H) := by
  obtain ⟨bmB, N, newId, initId, F, q, gC, kC, e1, e2⟩ := B.ex
  exact ps_raise hc tk (pmk_own0 F q gC kC (raises_own e1 e2) hg hdb)
/-- a def that may raise -/
structure DfX (P : Program) (w : World) (K : PySem.W.Frag) (mg : Str → Option Value) (base : Heap) (x : Str) (k : Nat) (ps : List Str) (sp : Sp) : Prop where
  ex : ∃ (f : Addr) (fd : FuncData), FnOk P w K mg base (L2.CX P w) k f fd ps sp ∧ mg x = some (.ref f) ∧ PySem.W.keepIn K (.ref f) = true ∧ Binds K fd ps []
theorem pe_dX {pn : List (Addr × Obj)} {xe : Value → Shared → Prop} {es : List Expr} {t : TA} {k : Nat} {ps : List Str} {sp : Sp} (D : DfX X.prog X.w X.K X.mg X.base x k ps sp) (hr : Room k X.A) (tk : Takes (X.tr pn xe) W) (ha : PA (X.tr pn xe) (e :: es) t) (hg : Gl X x := by rfl) (hdb : (x == ("__debug__" : Str)) = false := by decide)
    (he : starEach (e :: es) X.env = (false, eval e X.env) :: starEach es X.env := by rfl) (hpl : (backTo pos (starEach es X.env)).any (·.1) = false := by rfl) : PE (X.tr pn xe) (.Call (.Name x p) (e :: es) [] pos) (tCallS sp (WE W) t) := by
  obtain ⟨f, fd, F, hm, hk, hb⟩ := D.ex
  exact pe_callS F hr hg hm hk hb (fun σ => passAt tk σ) ha hdb he hpl
end
section
variable {X : Cx} {K : PySem.W.Frag}
/-! ### readings that name the part alone -/
theorem peK {e : Expr} {T : String} {r : V → List V → Hp → VK → Prop} {to : TE} {t : TA} (h : PE X e (tBM X.K T r to t)) (hK : X.K = K := by rfl) : PE X e (tBM K T r to t) := by
  subst hK
  exact h
theorem opK_in (hK : X.K = K := by rfl) : OpR X (compareOp .In) (rIn K false) := by
  subst hK
  exact op_in_seq
theorem call_isK {a : Addr} {cls : Value} {d : Option Addr} {oe : Obj} {pn : List (Addr × Obj)} (hz : Zc cls d oe) (hf : ∃ vs, oe.data = .fields vs) (hK : X.K = K := by rfl) : CallR (X.suite a ((a, oe) :: pn)) (.builtin "isinstance") (rIsF K a cls d) := by
  subst hK
  exact call_isF hz hf
theorem pe_xk {a : Addr} {oe : Obj} {cls : Value} {d : Option Addr} {pn : List (Addr × Obj)} {e : Expr} {te : TE} {pos : Pos} {n : Str} (hz : Zc cls d oe) (hf : ∃ vs, oe.data = .fields vs) (he : PE (X.suite a ((a, oe) :: pn)) e te)
    (hb : attributeBase e n X.env (eval e X.env) = eval e X.env := by rfl) (hK : X.K = K := by rfl) : PE (X.suite a ((a, oe) :: pn)) (.Attribute e n pos) (tXg K a cls d n te) := by
  subst hK
  exact pe_xg hz hf he hb
end
end Fm

/-! ## FmCall -/
set_option Elab.async false
set_option maxRecDepth 100000
set_option maxHeartbeats 4000000
/-! Calls of what may raise: a def, a method, a class by its __init__; the way out is told of the slots of the caller. -/
namespace Fm
open PySem PySem.Spec PyProof.Rows L2
structure DmX (P : Program) (w : World) (K : PySem.W.Frag) (mg : Str → Option Value) (base : Heap) (C : Addr) (m : Str) (k : Nat) (ps : List Str) (sp : Sp) : Prop where
  ex : ∃ (f : Addr) (fd : FuncData), FnOk P w K mg base (L2.CX P w) k f fd ps sp ∧ Meth K C m f ∧ Binds K fd ps []
structure DcX (P : Program) (w : World) (K : PySem.W.Frag) (mg : Str → Option Value) (base : Heap) (x : Str) (C : Addr) (k : Nat) (ps : List Str) (sp : Sp) : Prop where
  ex : ∃ (f : Addr) (fd : FuncData), FnOk P w K mg base (L2.CX P w) k f fd ps sp ∧ mg x = some (.ref C) ∧ Mk K C f ∧ Binds K fd ps []
def tMethX (C : Addr) (m : Str) (sp : Sp) (W : WX) (ta : TE) (t : TA) : TE := fun σ H Q => ta σ H fun x H1 => ∃ a dx fs, x = .ref a ∧ H1 a = some (.ins C dx fs) ∧ fs.lookup m = none ∧ t σ H1 fun vs H2 => sp (.ref a :: vs) H2 Q (WE W σ)
def tMakeX (C : Addr) (sp : Sp) (W : WX) (t : TA) : TE := fun σ H Q => t σ H fun vs H1 => ∀ x dx, H1 x = none → H1 dx = none → dx ≠ x → sp (.ref x :: vs) (upd (upd H1 dx (.own x)) x (.ins C dx [])) (fun v H2 => v = .non ∧ Q (.ref x) H2) (WE W σ)
section
variable {X : Cx} {k : Nat} {ps : List Str} {sp : Sp} {x m : Str} {e o : Expr} {es : List Expr} {t : TA} {to : TE} {C f : Addr} {fd : FuncData} {p apos pos : Pos} {W : WX}
theorem pe_dE (D : DfX X.prog X.w X.K X.mg X.base x k ps sp) (hr : Room k X.A) (tk : Takes X W) (ha : PA X (e :: es) t) (hg : Gl X x := by rfl) (hdb : (x == ("__debug__" : Str)) = false := by decide)
    (he : starEach (e :: es) X.env = (false, eval e X.env) :: starEach es X.env := by rfl) (hpl : (backTo pos (starEach es X.env)).any (·.1) = false := by rfl) : PE X (.Call (.Name x p) (e :: es) [] pos) (tCallS sp (WE W) t) := by
  obtain ⟨f, fd, F, hm, hk, hb⟩ := D.ex
  exact pe_callS F hr hg hm hk hb (fun σ => passAt tk σ) ha hdb he hpl
theorem pe_dmE {pl : Sem Bool} (he : PE X o to) (c : Cls X.K C) (D : DmX X.prog X.w X.K X.mg X.base C m k ps sp) (hr : Room k X.A) (tk : Takes X W) (ha : PA X (e :: es) t)
    (hst : starEach (e :: es) X.env = (false, eval e X.env) :: starEach es X.env := by rfl) (hpl : (backTo pos (starEach es X.env)).any (·.1) = false := by rfl)
    (ht : eval (.Call (.Attribute o m apos) (e :: es) [] pos) X.env = (do
      let ov ← eval o X.env
      standAt apos.atName
      let (f, first) ← holding [ov] (getMethod ov m pl)
      callWith pos f first (backTo pos (starEach (e :: es) X.env)) (backToKw pos (keywordEach [] X.env))) := by rfl) : PE X (.Call (.Attribute o m apos) (e :: es) [] pos) (tMethX C m sp W to t) := by
  obtain ⟨f, fd, F, hm, hb⟩ := D.ex
  refine ⟨fun pins s σ H Q I h => ?_⟩
  refine PySem.W.methodCall_KW (pl := pl) (thn (he.run pins s σ H _ I h) fun u s1 ⟨x, H1, I1, rx, a, dx, fs, ex, ea, l, q⟩ => ?_) ht
  subst ex
  cases (show u = Value.ref a from rx)
  refine getmeth_ok I1 ea c hm l (PySem.W.callWith_K (first := [.ref a]) (h₀ := X.base) I.ok.mod.kin hm.kp (thn (ha.run pos pins s1 σ H1 _ I1 q) fun us s2 ⟨vs, H2, I2, r, q2⟩ => ⟨I2.kIn, ?_⟩) hst hpl)
  exact run_fnS (E := WE W) (us := .ref a :: us) (vs := .ref a :: vs) F hr hb (passAt tk σ) I2 (.cons rfl r) q2
theorem pe_dcE (D : DcX X.prog X.w X.K X.mg X.base x C k ps sp) (hr : Room (k + 1) X.A) (tk : Takes X W) (ha : PA X (e :: es) t) (hg : Gl X x := by rfl) (hdb : (x == ("__debug__" : Str)) = false := by decide)
    (he : starEach (e :: es) X.env = (false, eval e X.env) :: starEach es X.env := by rfl) (hpl : (backTo pos (starEach es X.env)).any (·.1) = false := by rfl) : PE X (.Call (.Name x p) (e :: es) [] pos) (tMakeX C sp W t) := by
  obtain ⟨f, fd, F, hm, M, hb⟩ := D.ex
  refine ⟨fun pins s0 σ H0 Q I0 h0 => ?_⟩
  refine wpAny_Call_Name_kw (ld_glob I0 hg hm ?_ hdb)
  refine PySem.W.callWith_K (h₀ := X.base) I0.ok.mod.kin M.kp (thn (ha.run pos pins s0 σ H0 _ I0 h0) fun us s ⟨vs, H, I, r, h⟩ => ⟨I.kIn, ?_⟩) he hpl
  show wpAny _ _ (call (.ref C) us) _ _ _
  have hq := h (s.heap.objs.size + 1) s.heap.objs.size (I.hok.fresh (Nat.le_succ _)) (I.hok.fresh (Nat.le_refl _)) (Nat.ne_of_lt (Nat.lt_succ_self _))
  have I2 := Inv.made (C := C) I
  have r2 : Vals (V.ref (s.heap.objs.size + 1) :: vs) (Value.ref (s.heap.objs.size + 1) :: us) := .cons rfl r
  have hl : (Value.ref (s.heap.objs.size + 1) :: us).length = ps.length := by
    have e := r2.length
    rw [F.len _ _ _ _ hq] at e
    exact e.symm
  have b := hb _ (Value.ref (s.heap.objs.size + 1) :: us) I2.kIn (by rw [List.append_nil]; exact hl)
  rw [List.append_nil] at b
  refine wpAny_call (make_map (f := f) I.kIn M.makes M.init (beq_iff_eq.mp M.fn) (codeAny_mono (F.run _ X.stack _ _ ⟨Value.ref (s.heap.objs.size + 1) :: us, []⟩ (Value.ref (s.heap.objs.size + 1) :: us) _ _ (WE W σ) (hr.make C us []) (I2.env0.make C us []) b r2 hq) fun r s' hq' => ?_))
  cases r with
  | error e => exact passAt tk σ pins _ _ e s' I2 hq'
  | ok fl =>
    cases fl with
    | ret u =>
      obtain ⟨v, H', I3, rv, ev, q3⟩ := I2.after hq'
      subst ev
      exact ⟨rv, ⟨V.ref (s.heap.objs.size + 1), H', I3, rfl, q3⟩⟩
    | next => exact False.elim hq'
    | brk => exact False.elim hq'
    | cont => exact False.elim hq'
end
section
variable {X : Cx} {W : WX} {x f : Str} {C : Addr} {e : Expr} {te : TE} {p pos pos' : Pos}
theorem Xf.oex {P : Program} {w : World} {K : PySem.W.Frag} {mg : Str → Option Value} {base : Heap} (B : Xf P w K mg base x C f) : OexC K C ∧ PySem.W.findIn K (.ref C) f = some none := by
  obtain ⟨_, _, T, _, _, _, _, _, _, hno⟩ := B.ex
  exact ⟨T, hno⟩
/-- raise X(e) -/
theorem ps_rG (B : Xf X.prog X.w X.K X.mg X.base x C f) (hr : Room 2 X.A) (tk : Takes X W) (he : PE X e te) (hc : X.calm = true := by rfl) (hg : Gl X x := by rfl) (hdb : (x == ("__debug__" : Str)) = false := by decide)
    (hst : starEach [e] X.env = (false, eval e X.env) :: starEach [] X.env := by rfl) (hpl : (backTo pos (starEach [] X.env)).any (·.1) = false := by rfl) :
    PS X (.Raise (some (.Call (.Name x p) [e] [] pos)) none pos') (fun _ σ H => tMkO C (spIn X.K f) [] (tCons te tNil) σ H fun cls d H' => W cls d σ H') := by
  obtain ⟨fI, fd, T, iC, tI, F1, hm, hb, _, hno⟩ := B.ex
  exact ps_raise hc tk (pmk_oex T iC tI F1 hr hb .nil pass0 hg hm (pa_cons he pa_nil (hs := hst)) hdb hst hpl)
end
theorem pe_fldK {X : Cx} {K : PySem.W.Frag} {e : Expr} {ta : TE} {f : Str} {pos : Pos} (he : PE X e ta) (hb : attributeBase e f X.env (eval e X.env) = eval e X.env := by rfl) (hK : X.K = K := by rfl) : PE X (.Attribute e f pos) (tFld K ta f) := by
  subst hK
  exact pe_fld he hb
end Fm

/-! ## K07S -/
set_option Elab.async false
set_option maxRecDepth 100000
set_option maxHeartbeats 4000000
namespace Fm
open PySem L2
/-- what the top has left of names, for the stores -/
structure Tx2 (K : PySem.W.Frag) (mg : Str → Option Value) (CT CR CN CM : Addr) : Prop where
  n_sum : mg "sum" = none
  g_LARGEST_VALUE : ∃ t, mg "LARGEST_VALUE" = some (.int 1000000000 t)
  g_MOST_ROWS : ∃ t, mg "MOST_ROWS" = some (.int 300 t)
  g_Store : mg "Store" = some (.ref CT)
  clT : Cls K CT
  nSh : NoAttr K CT "shape"
  nRw : NoAttr K CT "_rows"
/-! ### rows of numbers -/
abbrev Row := List Int
def rowD (r : Row) : PyData := .tuple (r.map PyData.int)
structure RsOk (R : List Row) : Prop where
  len : R.length ≤ 1000
  wid : ∀ r ∈ R, r.length ≤ 10
  val : ∀ r ∈ R, ∀ z ∈ r, -1000000000 ≤ z ∧ z ≤ 1000000000
def rowsD (b : Bool) (R : List Row) : PyData := if b = true then .list (R.map rowD) else .tuple (R.map rowD)
/-- the first row that is not so wide -/
def firstWrong (w : Nat) (R : List Row) : Option Nat := R.findIdx? fun r => !decide (r.length = w)
theorem first_none {w : Nat} {R : List Row} (h : ∀ (j : Nat) (r : Row), R[j]? = some r → r.length = w) : firstWrong w R = none := by
  unfold firstWrong
  rw [List.findIdx?_eq_none_iff]
  intro r m
  obtain ⟨j, hj⟩ := List.getElem?_of_mem m
  rw [decide_eq_true (h j r hj)]
  rfl
theorem first_hit {w : Nat} {R : List Row} {i : Nat} {r : Row} (h : ∀ (j : Nat) (r : Row), j < i → R[j]? = some r → r.length = w) (hi : R[i]? = some r) (n : r.length ≠ w) : firstWrong w R = some i := by
  unfold firstWrong
  obtain ⟨hl, e⟩ := List.getElem?_eq_some_iff.mp hi
  rw [List.findIdx?_eq_some_iff_getElem]
  refine ⟨hl, ?_, fun j hj => ?_⟩
  · rw [e, decide_eq_false n]
    rfl
  · rw [decide_eq_true (h j _ hj (List.getElem?_eq_getElem _))]
    decide
section
variable {K : PySem.W.Frag} {H : Hp}
theorem dpA_ints_inv : ∀ {xs : List Int} {vs : List V}, DpAll K H vs (xs.map PyData.int) → vs = xs.map V.int
  | [], _, h => by
    cases h
    rfl
  | x :: xs, _, h => by
    cases h with
    | cons h1 h2 =>
      cases h1
      rw [dpA_ints_inv h2]
      rfl
theorem rows_seq {v : V} {b : Bool} {R : List Row} (h : Dp K H v (rowsD b R)) : ∃ a xs, v = .ref a ∧ Sq K H a xs ∧ DpAll K H xs (R.map rowD) := by
  unfold rowsD at h
  cases b with
  | true =>
    cases h with
    | lst h1 h2 => exact ⟨_, _, rfl, .inl h1, h2⟩
  | false =>
    cases h with
    | tup h1 h2 => exact ⟨_, _, rfl, .inr h1, h2⟩
theorem row_tup {v : V} {r : Row} (h : Dp K H v (rowD r)) : ∃ a, v = .ref a ∧ SqT K H a (r.map V.int) := by
  cases h with
  | tup h1 h2 =>
    rw [dpA_ints_inv h2] at h1
    exact ⟨_, rfl, h1⟩
end
section
variable {P : Program} {w : World} {K : PySem.W.Frag} {mg : Str → Option Value} {base : Heap} {CS CT CR CN CM : Addr}
def spIsInt : Sp := fun vs H Q _ => ∃ i : Int, vs = [.int i] ∧ Q (.bl true) H
abbrev s_is_integer : Stmt := topS 4
abbrev sc_is_integerN : List Str := ["thing"]
abbrev ps_is_integer : List Str := ["thing"]
theorem sc_is_integer : FnScope sc_is_integerN ps_is_integer (defScope s_is_integer) := ⟨rfl, rfl, rfl, by decide +kernel, rfl, by decide +kernel, by decide +kernel⟩
theorem ok_is_integer {f : Addr} {fd : FuncData} (F : Fun K "is_integer" "is_integer" s_is_integer f fd) (T : Txt K mg CS) : FnOk P w K mg base CX0 1 f fd ps_is_integer spIsInt := by
  refine F.ok sc_is_integer (fun vs H Q E h => ?_) (fun cdv A outer s H vs Q E hr h => ?_)
  · obtain ⟨_, rfl, _⟩ := h
    rfl
  · obtain ⟨i, rfl, k⟩ := h
    refine ⟨_, (pss_one (ps_ret (pe_and (pe_callB call_isi (by rfl) T.n_isinstance (by decide +kernel) (pa_cons (pv 0) (pa_cons (pe_bltn (v := .ty "int") (by rfl) T.n_int (by decide +kernel) rfl) pa_nil))) (pe_one (pe_not (pe_callB call_isi (by rfl) T.n_isinstance (by decide +kernel) (pa_cons (pv 0) (pa_cons (pe_bltn (v := .ty "bool") (by rfl) T.n_bool (by decide +kernel) rfl) pa_nil)))))))), ?_⟩
    exact ⟨_, rfl, _, _, _, _, _, rfl, .ty _, .base (.int i), kit_ty (b := "int") (r := true) (by decide +kernel), _, rfl, iteT ⟨_, rfl, _, _, _, _, _, rfl, .ty _, .base (.int i), kit_ty (b := "bool") (r := false) (by decide +kernel), _, rfl, k⟩⟩
def spIsVal : Sp := fun vs H Q _ => ∃ i : Int, vs = [.int i] ∧ -1000000000 ≤ i ∧ i ≤ 1000000000 ∧ Q (.bl true) H
abbrev s_is_value : Stmt := topS 5
abbrev sc_is_valueN : List Str := ["thing"]
abbrev ps_is_value : List Str := ["thing"]
theorem sc_is_value : FnScope sc_is_valueN ps_is_value (defScope s_is_value) := ⟨rfl, rfl, rfl, by decide +kernel, rfl, by decide +kernel, by decide +kernel⟩
theorem ok_is_value {f : Addr} {fd : FuncData} (F : Fun K "is_value" "is_value" s_is_value f fd) (T2 : Tx2 K mg CT CR CN CM) (D_is_integer : Df P w K mg base "is_integer" 1 ps_is_integer spIsInt) : FnOk P w K mg base CX0 2 f fd ps_is_value spIsVal := by
  refine F.ok sc_is_value (fun vs H Q E h => ?_) (fun cdv A outer s H vs Q E hr h => ?_)
  · obtain ⟨_, rfl, _⟩ := h
    rfl
  · obtain ⟨i, rfl, h1, h2, k⟩ := h
    have T := T2
    refine ⟨_, (pss_one (ps_ret (pe_and (pe_d D_is_integer (hr.mono (by decide)) (pa_cons (pv 0) pa_nil)) (pe_one (pe_chain op_le op_le (pe_un un_neg (pe_gI T.g_LARGEST_VALUE)) (pv 0) (pe_gI T.g_LARGEST_VALUE)))))), ?_⟩
    refine ⟨_, rfl, i, rfl, _, rfl, iteT ?_⟩
    refine ⟨_, rfl, _, rfl, _, _, rfl, rfl, _, rfl, ifd (fun _ => ?_) fun h => absurd h1 h⟩
    refine ⟨_, _, rfl, rfl, ?_⟩
    show Q (V.bl (decide (i ≤ 1000000000))) H
    rw [decide_eq_true h2]
    exact k
def spFirst (K : PySem.W.Frag) : Sp := fun vs H Q _ => ∃ (v : V) (wd : Nat) (b : Bool) (R : List Row), vs = [v, .int wd] ∧ Dp K H v (rowsD b R) ∧ RsOk R ∧ wd ≤ 10 ∧ ∀ H', Same H H' → Q (match firstWrong wd R with | none => V.non | some i => V.int i) H'
abbrev s_first_wrong_row : Stmt := topS 28
abbrev sc_first_wrong_rowN : List Str := ["rows", "width", "at", "row", "value"]
abbrev ps_first_wrong_row : List Str := ["rows", "width"]
theorem sc_first_wrong_row : FnScope sc_first_wrong_rowN ps_first_wrong_row (defScope s_first_wrong_row) := ⟨rfl, rfl, rfl, by decide +kernel, rfl, by decide +kernel, by decide +kernel⟩
theorem ok_first_wrong_row {f : Addr} {fd : FuncData} (F : Fun K "first_wrong_row" "first_wrong_row" s_first_wrong_row f fd) (T : Txt K mg CS) (D_is_row : Df P w K mg base "is_row" 1 ps_is_row (spIsRow K)) (D_is_value : Df P w K mg base "is_value" 2 ps_is_value spIsVal) : FnOk P w K mg base CX0 3 f fd ps_first_wrong_row (spFirst K) := by
  refine F.ok sc_first_wrong_row (fun vs H Q E h => ?_) (fun cdv A outer s H vs Q E hr h => ?_)
  · obtain ⟨_, _, _, _, rfl, _⟩ := h
    rfl
  · obtain ⟨v, wd, b, R, rfl, hv, ok, hw, k⟩ := h
    refine ⟨_, (pss_cons (ps_if (pt_not (pt_val (pe_callB call_isiT (by rfl) T.n_isinstance (by decide +kernel) (pa_cons (pv 0) (pa_cons (pe_tup (pa_cons (pe_bltn (v := .ty "list") (by rfl) T.n_list (by decide +kernel) rfl) (pa_cons (pe_bltn (v := .ty "tuple") (by rfl) T.n_tuple (by decide +kernel) rfl) pa_nil))) pa_nil)))))
    (pss_one (ps_ret (pe_un un_neg pe_int)))
    pss_nil)
  (pss_cons (ps_for PassesOwn.never rfl (pi_enumA (by rfl) T.n_enumerate (pa_cons (pv 0) pa_nil)) (pg_tup (by rfl) (pgs_cons (pg_name (i := 2) sc_first_wrong_row.nd rfl (Or.inl rfl)) (pgs_cons (pg_name (i := 3) sc_first_wrong_row.nd rfl (Or.inl rfl)) pgs_nil)))
    (pss_one (ps_if (PW.pt (pw_or (pt_not (pt_val (pe_d D_is_row (hr.mono (by decide)) (pa_cons (pv 3) (pa_cons (pv 1) (pa_cons (pv 1) pa_nil)))))) (pw_or1 (pt_not (pt_val (pe_callB (cr_all (by rfl)) (by rfl) T.n_all (by decide +kernel) (pa_cons (pe_lc (own := [("value", 4)]) (g := gName 4) (tt := tYes) (by rfl) sc_first_wrong_row.nd (pi_any (pv 3)) (blkOk_by (own := [("value", 4)]) (N := sc_first_wrong_rowN) (sc := defScope s_first_wrong_row) (by decide +kernel)) (fun _ _ _ _ _ => pg_name (i := 4) sc_first_wrong_row.nd rfl (Or.inl rfl)) (fun _ _ _ _ _ => pts_nil) (fun _ _ _ _ _ => (pe_d D_is_value (hr.mono (by decide)) (pa_cons (pv 4) pa_nil)))) pa_nil)))))))
      (pss_one (ps_ret (pv 2)))
      pss_nil)))
  (pss_one (ps_ret pe_non)))), ?_⟩
    refine ⟨_, rfl, (by show 2 ≤ sizeLine; decide), fun tp htp => ?_⟩
    have s1 : Same H (upd H tp (.tup [.ty "list", .ty "tuple"])) := same_new _ htp
    have up : (upd H tp (.tup [.ty "list", .ty "tuple"])) tp = some (.tup [.ty "list", .ty "tuple"]) := upd_same
    have hv1 := dp_mono s1 _ _ hv
    generalize upd H tp (.tup [.ty "list", .ty "tuple"]) = H1 at *
    obtain ⟨a, xs, rfl, hs, hd⟩ := rows_seq hv1
    obtain ⟨tn, ty, kA, _⟩ := seq_ty hs
    refine ⟨_, tp, _, _, _, _, rfl, up, clsLT, ty, kA, _, rfl, iteF ?_⟩
    have lx : xs.length = R.length := by rw [dpA_len hd, List.length_map]
    have lR := ok.len
    refine ⟨_, rfl, a, xs, rfl, enum_of (K := K) hs (Same.refl _) fun J G gm wk => ?_⟩
    refine for_it wk (fun i σ H' => ∃ v2 v3 v4, σ = [some (.ref a), some (.int wd), v2, v3, v4] ∧ Same H1 H' ∧ ∀ (j : Nat) (r : Row), j < i → R[j]? = some r → r.length = wd) ⟨_, _, _, rfl, Same.refl _, fun j r h => by omega⟩ (fun i σ H' _ z => by obtain ⟨_, _, _, _, z, _⟩ := z; exact gm H' z) ?_ ?_
    · rintro i x σ H2 H3 hi ⟨v2, v3, v4, rfl, s2, inv⟩ ⟨U, x1, y, rfl, hU, rfl, e1, hy⟩
      obtain rfl : V.int (i : Nat) = x1 := Option.some.inj e1
      obtain ⟨c, hc, hdp⟩ := dpA_at hd hy
      rw [List.getElem?_map] at hc
      obtain ⟨r, hr', rfl⟩ := Option.map_eq_some_iff.mp hc
      have s3 : Same H1 (upd H2 U (.tup [V.int (i : Nat), y])) := s2.trans (same_new _ hU)
      obtain ⟨q, rfl, hq⟩ := row_tup hdp
      have hq3 := same_sqT s3 hq
      have rm := List.mem_of_getElem? hr'
      have rw' := ok.wid r rm
      refine ⟨U, _, rfl, .inl (.inl upd_same), rfl, _, _, rfl, _, _, rfl, rfl, ?_⟩
      generalize upd H2 U (.tup [V.int (i : Nat), V.ref q]) = H3 at *
      refine ⟨_, rfl, _, rfl, _, rfl, q, _, _, _, rfl, .inr hq3, fun H4 s4 => ⟨_, rfl, ifn (fun n => ?_) fun n => ?_⟩⟩
      · refine iteT ⟨_, rfl, ?_⟩
        have z := k _ (s1.trans (s3.trans s4))
        rw [first_hit inv hr' (fun e => n (by rw [List.length_map, e]; exact ⟨Int.le_refl _, Int.le_refl _⟩))] at z
        exact z
      · have e : r.length = wd := by
          rw [List.length_map] at n
          omega
        have hq4 := same_sqT s4 hq3
        refine ⟨_, rfl, q, _, rfl, any_of (K := K) (.inr hq4) (Same.refl _) fun J G gm wk => (fun D hD => ?_)⟩
        refine lc_it wk (fun m H' => Same H4 H' ∧ H' D = some (.lst ((r.take m).map fun _ => V.bl true))) ⟨same_new _ hD, by rw [upd_same]; rfl⟩ (fun m H' _ z => gm H' z.1) ?_ ?_
        · rintro m x H5 H6 hm ⟨s5, d5⟩ ⟨rfl, hx⟩
          rw [List.getElem?_map] at hx
          obtain ⟨z, hz, rfl⟩ := Option.map_eq_some_iff.mp hx
          have vz := ok.val r rm z (List.mem_of_getElem? hz)
          refine ⟨rfl, _, rfl, z, rfl, vz.1, vz.2, _, d5, take_lt _ (by omega), same_put s5 _ hD, ?_⟩
          rw [upd_same, map_take _ hz]
        · rintro H5 ⟨s5, d5⟩
          rw [List.length_map, List.take_length, bl_map] at d5
          refine ⟨D, _, rfl, .inl (.inl d5), ?_⟩
          have e3 : (r.map fun _ => true).all id = true := by
            rw [List.all_map]
            simp
          rw [e3]
          refine ⟨_, rfl, iteF ⟨_, _, _, rfl, s3.trans (s4.trans s5), fun j r2 hj h2 => ?_⟩⟩
          by_cases z : j = i
          · rw [z, hr'] at h2
            rw [← Option.some.inj h2]
            exact e
          · exact inv j r2 (by omega) h2
    · rintro σ H2 ⟨v2, v3, v4, rfl, s2, inv⟩
      have z := k _ (s1.trans s2)
      rw [first_none fun j r h => inv j r (by rw [lx]; exact (List.getElem?_eq_some_iff.mp h).1) h] at z
      exact z
end
end Fm

/-! ## K07T -/
set_option Elab.async false
set_option maxRecDepth 100000
set_option maxHeartbeats 4000000
namespace Fm
open PySem L2
/-- a shape of the tables ts stands at a -/
def ShAt (K : PySem.W.Frag) (CS : Addr) (H : Hp) (a : Addr) (ts : List Tab) : Prop := ∃ dx v, H a = some (.ins CS dx (shF v)) ∧ Dp K H v (.tuple (ts.map (tabD false)))
theorem ShAt.same {K : PySem.W.Frag} {CS : Addr} {H H' : Hp} {a : Addr} {ts : List Tab} (h : ShAt K CS H a ts) (s : Same H H') : ShAt K CS H' a ts := by
  obtain ⟨dx, v, h1, h2⟩ := h
  exact ⟨dx, v, s _ _ h1, dp_mono s _ _ h2⟩
theorem dp_tup {K : PySem.W.Frag} {H : Hp} {v : V} {ds : List PyData} (h : Dp K H v (.tuple ds)) : ∃ a xs, v = .ref a ∧ SqT K H a xs ∧ DpAll K H xs ds := by
  cases h with
  | tup h1 h2 => exact ⟨_, _, rfl, h1, h2⟩
/-- the first table with a row that is not so wide as the table -/
def firstBad (g : Str → List Row) (ts : List Tab) : Option (Str × Nat) := ts.findSome? fun t => (firstWrong t.2.length (g t.1)).map fun i => (t.1, i)
/-- a dict of rows, by names -/
structure Rd1 (K : PySem.W.Frag) (H : Hp) (rd : Addr) (kvs : List (Key × V)) (g : Str → List Row) : Prop where
  at_ : H rd = some (.dK kvs)
  len : kvs.length ≤ 100
  key : ∀ kv ∈ kvs, ∃ n, kv.1 = Sum.inr n
  ex : ∃ F, Same F H ∧ F rd = none ∧ ∀ n, (valV kvs (Sum.inr n) = none → g n = []) ∧ ∀ v, valV kvs (Sum.inr n) = some v → ∃ b, Dp K F v (rowsD b (g n))
  ok : ∀ n, RsOk (g n)
theorem Rd1.same {K : PySem.W.Frag} {H H' : Hp} {rd : Addr} {kvs : List (Key × V)} {g : Str → List Row} (h : Rd1 K H rd kvs g) (s : Same H H') : Rd1 K H' rd kvs g := by
  obtain ⟨h1, h2, h3, ⟨F, f1, f2, f3⟩, h5⟩ := h
  exact ⟨s _ _ h1, h2, h3, ⟨F, f1.trans s, f2, f3⟩, h5⟩
def nameOf : Key → Str
  | .inr n => n
  | .inl _ => ""
theorem bad_none {g : Str → List Row} {ts : List Tab} {i : Nat} {t : Tab} (h : firstBad g (ts.take i) = none) (ht : ts[i]? = some t) (n : firstWrong t.2.length (g t.1) = none) : firstBad g (ts.take (i + 1)) = none := by
  unfold firstBad at *
  rw [List.take_add_one, ht, List.findSome?_append, h]
  simp [n]
theorem bad_hit {g : Str → List Row} {ts : List Tab} {i j : Nat} {t : Tab} (h : firstBad g (ts.take i) = none) (ht : ts[i]? = some t) (n : firstWrong t.2.length (g t.1) = some j) : firstBad g ts = some (t.1, j) := by
  have e : ts = ts.take i ++ t :: ts.drop (i + 1) := by
    obtain ⟨hl, q⟩ := List.getElem?_eq_some_iff.mp ht
    rw [← q, List.getElem_cons_drop, List.take_append_drop]
  unfold firstBad at *
  rw [e, List.findSome?_append, h]
  simp [n]
/-- an error that holds a pair -/
def ErrPair (H : Hp) (v i : V) (E : Option Addr → Hp → Prop) : Prop := ∀ (d tp : Addr) (H' : Hp), Same H H' → H' d = some (.xd [("value", .ref tp)]) → H' tp = some (.tup [v, i]) → E (some d) H'
section
variable {P : Program} {w : World} {K : PySem.W.Frag} {mg : Str → Option Value} {base : Heap} {CS CT CR CN CM : Addr}
def spCheckR (K : PySem.W.Frag) (CS CR : Addr) : Sp := fun vs H Q E => ∃ (sh rd : Addr) (ts : List Tab) (kvs : List (Key × V)) (g : Str → List Row), vs = [.ref sh, .ref rd] ∧ ShAt K CS H sh ts ∧ TsOk ts ∧ Rd1 K H rd kvs g ∧
  ((∃ kv ∈ kvs, ∃ n, kv.1 = Sum.inr n ∧ n ∉ ts.map (·.1)) → ErrPair H .non (.int (-1)) (E (.ref CR))) ∧
  ((∀ kv ∈ kvs, ∀ n, kv.1 = Sum.inr n → n ∈ ts.map (·.1)) → (∀ t i, firstBad g ts = some (t, i) → ErrPair H (.str t) (.int (i : Nat)) (E (.ref CR))) ∧ (firstBad g ts = none → ∀ H', Same H H' → Q .non H'))
abbrev s_check_rows : Stmt := topS 27
abbrev sc_check_rowsN : List Str := ["shape", "rows", "table", "_", "names", "name", "fields", "at"]
abbrev ps_check_rows : List Str := ["shape", "rows"]
theorem sc_check_rows : FnScope sc_check_rowsN ps_check_rows (defScope s_check_rows) := ⟨rfl, rfl, rfl, by decide +kernel, rfl, by decide +kernel, by decide +kernel⟩
theorem ok_check_rows {f : Addr} {fd : FuncData} (F : Fun K "check_rows" "check_rows" s_check_rows f fd) (T : Txt K mg CS) (X_BadRows : Xf P w K mg base "BadRows" CR "value") (D_first_wrong_row : Df P w K mg base "first_wrong_row" 3 ps_first_wrong_row (spFirst K)) :
    FnOk P w K mg base (L2.CX P w) 4 f fd ps_check_rows (spCheckR K CS CR) := by
  refine F.okX sc_check_rows (fun vs H Q E h => ?_) (fun cdv A outer s H vs Q E hr h => ?_)
  · obtain ⟨_, _, _, _, _, rfl, _⟩ := h
    rfl
  · obtain ⟨sh, rd, ts, kvs, g, rfl, ⟨dx, tv, hsh, dtv⟩, ok, R, kB, kG⟩ := h
    obtain ⟨Tx, hno⟩ := X_BadRows.oex
    refine ⟨_, (pss_cons (ps_set (i := 4) sc_check_rows.nd rfl (Or.inr rfl) (pe_lc (own := [("table", 2), ("_", 3)]) (g := gTup K 2 (gCons (gName 2) (gCons (gName 3) gNil))) (tt := tYes) (by rfl) sc_check_rows.nd (pi_tup (pe_fld (pv 0) rfl)) (blkOk_by (own := [("table", 2), ("_", 3)]) (N := sc_check_rowsN) (sc := defScope s_check_rows) (by decide +kernel)) (fun _ _ _ _ _ => pg_tup (by rfl) (pgs_cons (pg_name (i := 2) sc_check_rows.nd rfl (Or.inl rfl)) (pgs_cons (pg_name (i := 3) sc_check_rows.nd rfl (Or.inl rfl)) pgs_nil))) (fun _ _ _ _ _ => pts_nil) (fun _ _ _ _ _ => (pv 2))))
  (pss_cons (ps_if (PW.pt (pw_or (pt_not (pt_val (pe_callB call_isi (by rfl) T.n_isinstance (by decide +kernel) (pa_cons (pv 1) (pa_cons (pe_bltn (v := .ty "dict") (by rfl) T.n_dict (by decide +kernel) rfl) pa_nil))))) (pw_or1 (pt_not (pt_val (pe_lock (pe_callB (cr_all (by rfl)) (by rfl) T.n_all (by decide +kernel) (pa_cons (pe_lc (own := [("name", 5)]) (g := gName 5) (tt := tYes) (by rfl) sc_check_rows.nd (pi_keys (pv 1)) (blkOk_by (own := [("name", 5)]) (N := sc_check_rowsN) (sc := defScope s_check_rows) (by decide +kernel)) (fun _ _ _ _ _ => pg_name (i := 5) sc_check_rows.nd rfl (Or.inl rfl)) (fun _ _ _ _ _ => pts_nil) (fun _ _ _ _ _ => (pe_cmpR (opK_in (K := K)) (pv 5) (pv 4) (by rfl)))) pa_nil))))))))
    (pss_one (ps_rG X_BadRows (hr.mono (by decide)) (takes_of rfl rfl rfl rfl) (pe_tup (pa_cons pe_non (pa_cons (pe_un un_neg pe_int) pa_nil)))))
    pss_nil)
  (pss_one (ps_for PassesOwn.leaving rfl (pi_tup (pe_fld (pv 0) rfl)) (pg_tup (by rfl) (pgs_cons (pg_name (i := 2) sc_check_rows.nd rfl (Or.inl rfl)) (pgs_cons (pg_name (i := 6) sc_check_rows.nd rfl (Or.inl rfl)) pgs_nil)))
    (pss_cons (ps_set (i := 7) sc_check_rows.nd rfl (Or.inl rfl) (pe_d D_first_wrong_row (hr.mono (by decide)) (pa_cons (pe_dget2 (Nat.lt_of_le_of_lt (Nat.add_le_add_left (by decide) _) hr.units) (pv 1) (pv 2) (pe_tup pa_nil) ⟨rfl, rfl, rfl, rfl⟩) (pa_cons (pe_callB call_len_seq (by rfl) T.n_len (by decide +kernel) (pa_cons (pv 6) pa_nil)) pa_nil))))
    (pss_one (ps_if (pt_cmpR op_notN (pv 7) pe_non (nomark _))
      (pss_one (ps_rG X_BadRows (hr.mono (by decide)) (takes_of rfl rfl rfl rfl) (pe_tup (pa_cons (pv 2) (pa_cons (pv 7) pa_nil)))))
      pss_nil))))))), ?_⟩
    obtain ⟨tpl, txs, rfl, htp, hd⟩ := dp_tup dtv
    refine ⟨_, rfl, sh, CS, dx, _, _, rfl, hsh, T.cl, T.nT, rfl, tpl, rfl, ⟨_, htp⟩, fun D hD => ?_⟩
    have lx : txs.length = ts.length := by rw [dpA_len hd, List.length_map]
    have lo := ok.hi
    refine lc_it walk_tup (fun i H' => Same H H' ∧ H' D = some (.lst (((ts.map (·.1)).take i).map V.str))) ⟨same_new _ hD, by rw [upd_same]; rfl⟩ (fun i H' _ z => same_sqT z.1 htp) ?_ ?_
    · rintro i x H2 H3 hi ⟨s2, d2⟩ ⟨rfl, hx⟩
      obtain ⟨c, hc, hxc⟩ := dpA_at hd hx
      rw [List.getElem?_map] at hc
      obtain ⟨t, ht, rfl⟩ := Option.map_eq_some_iff.mp hc
      obtain ⟨p, q, rfl, hp, _⟩ := tab_inv (dp_mono s2 _ _ hxc)
      have hn : (ts.map (·.1))[i]? = some t.1 := by rw [List.getElem?_map, ht]; rfl
      refine ⟨p, _, rfl, hp, rfl, _, _, rfl, _, _, rfl, rfl, rfl, _, rfl, _, d2, take_lt _ (by rw [List.length_map]; omega), same_put s2 _ hD, ?_⟩
      rw [upd_same, map_take _ hn]
    rintro H2 ⟨s2, d2⟩
    rw [lx, List.take_of_length_le (by rw [List.length_map]; exact Nat.le_refl _)] at d2
    have R2 := R.same s2
    have nDr : D ≠ rd := Ne.symm (ne_of_none R.at_ hD)
    refine ⟨_, rfl, _, _, _, _, _, rfl, .ty _, .base (.dK R2.at_), kit_ty (b := "dict") (r := true) (by decide +kernel), _, rfl, iteF ?_⟩
    refine ⟨rd, .dK kvs, R2.at_, trivial, fun od => ?_⟩
    have hL : (upd H2 rd (.frz od (.dK kvs))) rd = some (.frz od (.dK kvs)) := upd_same
    have dL : (upd H2 rd (.frz od (.dK kvs))) D = some (.lst ((ts.map (·.1)).map V.str)) := by rw [upd_ne nDr]; exact d2
    have back : ∀ H', Same (upd H2 rd (.frz od (.dK kvs))) H' → Same H2 (upd H' rd (.dK kvs)) := fun H' q b o e => by
      by_cases z : b = rd
      · rw [z, upd_same]
        rw [z, R2.at_] at e
        exact e
      · rw [upd_ne z]
        exact q b o (by rw [upd_ne z]; exact e)
    generalize upd H2 rd (.frz od (.dK kvs)) = HL at *
    refine ⟨_, rfl, rd, od, rfl, .inl ⟨kvs, hL, fun D2 hD2 => ?_⟩⟩
    refine lc_it walk_keys (fun i H' => Same HL H' ∧ H' D2 = some (.lst ((kvs.take i).map fun kv => V.bl (decide (nameOf kv.1 ∈ ts.map (·.1)))))) ⟨same_new _ hD2, by rw [upd_same]; rfl⟩ (fun i H' _ z => z.1 _ _ hL) ?_ ?_
    · rintro i x H3 H4 hi ⟨s3, d3⟩ ⟨rfl, kk, v0, hk, rfl⟩
      obtain ⟨n, hn⟩ := R.key _ (List.mem_of_getElem? hk)
      have hn2 : kk = Sum.inr n := hn
      subst hn2
      have ll := R.len
      refine ⟨rfl, _, rfl, _, rfl, D, _, rfl, .inl (.inl (.inl (s3 _ _ dL))), rfl, flat_strs _, _, d3, take_lt _ (by omega), same_put s3 _ hD2, ?_⟩
      rw [upd_same, map_take _ hk]
      show some (HO.lst (_ ++ [V.bl (inV (V.str n) ((ts.map (·.1)).map V.str))])) = some (HO.lst (_ ++ [V.bl (decide (n ∈ ts.map (·.1)))]))
      rw [inV_str]
    rintro H3 ⟨s3, d3⟩
    rw [List.take_length, bl_map] at d3
    refine ⟨D2, _, rfl, .inl (.inl d3), s3 _ _ hL, ?_⟩
    have s4 := s2.trans (back _ s3)
    have d4 : (upd H3 rd (.dK kvs)) D = some (.lst ((ts.map (·.1)).map V.str)) := by rw [upd_ne nDr]; exact s3 _ _ dL
    generalize upd H3 rd (.dK kvs) = H4 at *
    refine ⟨_, rfl, ?_⟩
    show if (!((kvs.map fun kv => decide (nameOf kv.1 ∈ ts.map (·.1))).all id)) = true then _ else _
    cases ea : (kvs.map fun kv => decide (nameOf kv.1 ∈ ts.map (·.1))).all id with
    | false =>
      refine iteT ⟨1, rfl, (by show 2 ≤ sizeLine; decide), fun tp htp => ⟨(by show 1 ≤ 1000; decide), fun a ha => init_read (v := .ref tp) (Q := fun cls d H' => E cls d H') Tx hno ha fun d hd => ?_⟩⟩
      refine kB ?_ d tp _ (s4.trans ((same_new _ htp).trans (same_new _ hd))) upd_same (by rw [upd_ne (ne_of_none upd_same hd), upd_same])
      rw [List.all_map, List.all_eq_false] at ea
      obtain ⟨kv, m, h⟩ := ea
      obtain ⟨n, hn⟩ := R.key kv m
      refine ⟨kv, m, n, hn, fun z => h ?_⟩
      show decide (nameOf kv.1 ∈ _) = true
      rw [hn]
      exact decide_eq_true z
    | true =>
      have all : ∀ kv ∈ kvs, ∀ n, kv.1 = Sum.inr n → n ∈ ts.map (·.1) := fun kv m n hn => by
        rw [List.all_map, List.all_eq_true] at ea
        have z := of_decide_eq_true (ea kv m)
        rw [hn] at z
        exact z
      obtain ⟨kE, kQ⟩ := kG all
      refine iteF ?_
      refine ⟨_, rfl, sh, CS, dx, _, _, rfl, s4 _ _ hsh, T.cl, T.nT, rfl, tpl, rfl, ⟨_, same_sqT s4 htp⟩, for_it walk_tup (fun i σ H' => ∃ v2 v3 v5 v6 v7, σ = [some (.ref sh), some (.ref rd), v2, v3, some (.ref D), v5, v6, v7] ∧ Same H H' ∧ firstBad g (ts.take i) = none)
        ⟨_, _, _, _, _, rfl, s4, rfl⟩ (fun i σ H' _ z => by obtain ⟨_, _, _, _, _, _, z, _⟩ := z; exact same_sqT z htp) ?_ ?_⟩
      · rintro i x σ H5 H6 hi ⟨v2, v3, v5, v6, v7, rfl, s5, inv⟩ ⟨rfl, hx⟩
        obtain ⟨c, hc, hxc⟩ := dpA_at hd hx
        rw [List.getElem?_map] at hc
        obtain ⟨t, ht, rfl⟩ := Option.map_eq_some_iff.mp hc
        obtain ⟨p, q, rfl, hp, _, _, hq⟩ := tab_inv (dp_mono s5 _ _ hxc)
        have hq2 := hq rfl
        have tok := ok.ok t (List.mem_of_getElem? ht)
        have R5 := R.same s5
        refine ⟨p, _, rfl, hp, rfl, _, _, rfl, _, _, rfl, rfl, ?_⟩
        obtain ⟨FD, f1, f2, f3⟩ := R5.ex
        have rr : Rd H6 rd (.dK kvs) := .inl R5.at_
        refine ⟨_, rfl, rd, rfl, .inl ⟨kvs, rr⟩, _, rfl, Nat.zero_le _, fun e he => ⟨valV kvs (Sum.inr t.1), ?_, ?_⟩⟩
        · exact .inl ⟨kvs, Sum.inr t.1, .inl ((same_new _ he) _ _ R5.at_), rfl, rfl⟩
        have s6 : Same H (upd H6 e (.tup [])) := s5.trans (same_new _ he)
        have e6 : (upd H6 e (.tup [])) e = some (.tup []) := upd_same
        have f6 : Same FD (upd H6 e (.tup [])) := f1.trans (same_new _ he)
        have q6 := same_sqT (same_new (.tup []) he) hq2
        generalize upd H6 e (.tup []) = H7 at *
        obtain ⟨b, dv⟩ : ∃ b, Dp K H7 ((valV kvs (Sum.inr t.1)).getD (.ref e)) (rowsD b (g t.1)) := by
          cases ev : valV kvs (Sum.inr t.1) with
          | none =>
            rw [(f3 t.1).1 ev]
            exact ⟨false, .tup (.inl (.inl e6)) .nil⟩
          | some v =>
            obtain ⟨b, z⟩ := (f3 t.1).2 v ev
            exact ⟨b, dp_mono f6 _ _ z⟩
        have wd := tok.fs.hi
        refine ⟨_, rfl, q, _, rfl, .inr q6, _, t.2.length, b, g t.1, (by rw [List.length_map]; rfl), dv, R.ok t.1, by omega, fun H8 s8 => ?_⟩
        refine ⟨_, rfl, rfl, _, rfl, ?_⟩
        cases ef : firstWrong t.2.length (g t.1) with
        | none => exact iteF ⟨_, _, _, _, _, rfl, s6.trans s8, bad_none inv ht ef⟩
        | some j =>
          refine iteT ⟨_, rfl, _, rfl, (by show 2 ≤ sizeLine; decide), fun tp htp => ⟨(by show 1 ≤ 1000; decide), fun a ha => init_read (v := .ref tp) (Q := fun cls d H' => E cls d H') Tx hno ha fun d hd => ?_⟩⟩
          exact kE t.1 j (bad_hit inv ht ef) d tp _ (s6.trans (s8.trans ((same_new _ htp).trans (same_new _ hd)))) upd_same (by rw [upd_ne (ne_of_none upd_same hd), upd_same])
      · rintro σ H5 ⟨v2, v3, v5, v6, v7, rfl, s5, inv⟩
        rw [lx, List.take_length] at inv
        exact kQ inv H5 s5
end
end Fm

/-! ## K07U -/
set_option Elab.async false
set_option maxRecDepth 100000
set_option maxHeartbeats 4000000
namespace Fm
open PySem L2
/-! ### a store is made -/
def stF (sh rd : Addr) : List (Str × V) := [("shape", .ref sh), ("_rows", .ref rd)]
theorem stF_1 (v : V) : putF "shape" v [] = ([("shape", v)] : List (Str × V)) := rfl
theorem stF_2 (v : V) (rd : Addr) : putF "_rows" (.ref rd) ([("shape", v)] : List (Str × V)) = ([("shape", v), ("_rows", .ref rd)] : List (Str × V)) := by
  show (if ("shape" : Str) = "_rows" then [(("shape" : Str), V.ref rd)] else (("shape" : Str), v) :: putF "_rows" (.ref rd) []) = ([("shape", v), ("_rows", .ref rd)] : List (Str × V))
  rw [if_neg (by decide +kernel)]
  rfl
theorem fresh_grow {H H1 H2 N : Hp} (f : Fresh H H1 N) (s : Same H1 H2) : Fresh H H2 N := fun a o e => ⟨(f a o e).1, s _ _ (f a o e).2⟩
section
variable {κ : Type} [DecidableEq κ]
theorem put_new {kvs : List (κ × V)} {k : κ} {z : V} (h : k ∉ kvs.map (·.1)) : putK kvs k z = kvs ++ [(k, z)] := by
  unfold putK
  rw [if_neg]
  intro e
  rw [List.any_eq_true] at e
  obtain ⟨kv, m, q⟩ := e
  exact h (List.mem_map.mpr ⟨kv, m, of_decide_eq_true q⟩)
theorem val_old {kvs : List (κ × V)} {k j : κ} {z v : V} (h : valV kvs j = some v) : valV (kvs ++ [(k, z)]) j = some v := by
  unfold valV at *
  rw [List.find?_append]
  cases q : kvs.find? fun kv => decide (kv.1 = j) with
  | none => rw [q] at h; cases h
  | some u => rw [q] at h; exact h
theorem val_new {kvs : List (κ × V)} {k : κ} {z : V} (h : k ∉ kvs.map (·.1)) : valV (kvs ++ [(k, z)]) k = some z := by
  unfold valV
  rw [List.find?_append]
  have q : kvs.find? (fun kv => decide (kv.1 = k)) = none := by
    rw [List.find?_eq_none]
    intro kv m e
    exact h (List.mem_map.mpr ⟨kv, m, of_decide_eq_true e⟩)
  rw [q]
  simp
end
theorem tupd_rows (b : Bool) (R : List Row) : tupd (rowsD b R) = rowsD false R := by
  have e1 : ∀ r : Row, tupdL (r.map PyData.int) = r.map PyData.int := fun r => by
    rw [tupdL_map, List.map_map]
    rfl
  have e2 : tupdL (R.map rowD) = R.map rowD := by
    rw [tupdL_map, List.map_map]
    refine List.map_congr_left fun r _ => ?_
    show PyData.tuple (tupdL (r.map PyData.int)) = PyData.tuple (r.map PyData.int)
    rw [e1]
  cases b with
  | true => exact congrArg PyData.tuple e2
  | false => exact congrArg PyData.tuple e2
theorem dn_rows {b : Bool} {R : List Row} (h : RsOk R) : Dn 3 (rowsD b R) := by
  have q : ∀ d ∈ R.map rowD, Dn 2 d := fun d m => by
    obtain ⟨r, hr, rfl⟩ := List.mem_map.mp m
    refine .tuple 1 _ (fun c hc => ?_) (by rw [List.length_map]; have z := h.wid r hr; omega)
    obtain ⟨i, _, rfl⟩ := List.mem_map.mp hc
    exact .int 0 i
  have l : (R.map rowD).length ≤ 100000 := by rw [List.length_map]; have z := h.len; omega
  cases b with
  | true => exact .list 2 _ q l
  | false => exact .tuple 2 _ q l
/-- the rows of a store -/
def Rs1 (K : PySem.W.Frag) (H : Hp) (rd : Addr) (ts : List Tab) (g : Str → List Row) : Prop := ∃ kvs : List (Key × V), H rd = some (.dK kvs) ∧ kvs.map (·.1) = ts.map (fun t => (Sum.inr t.1 : Key)) ∧
  ∃ F, Same F H ∧ F rd = none ∧ ∀ t ∈ ts, ∃ v, valV kvs (Sum.inr t.1) = some v ∧ Dp K F v (rowsD false (g t.1))
theorem sum_total {g : Str → List Row} : ∀ ts : List Tab, (ts.map fun t => ((g t.1).length : Int)).sum = (((ts.map fun t => (g t.1).length).sum : Nat) : Int)
  | [] => rfl
  | t :: ts => by
    rw [List.map_cons, List.sum_cons, List.map_cons, List.sum_cons, sum_total ts]
    omega
def total (g : Str → List Row) (ts : List Tab) : Nat := (ts.map fun t => (g t.1).length).sum
section
variable {P : Program} {w : World} {K : PySem.W.Frag} {mg : Str → Option Value} {base : Heap} {CS CT CR CN CM : Addr}
def spStInit (K : PySem.W.Frag) (CS CT CR CM : Addr) : Sp := fun vs H Q E => ∃ (F0 : Hp) (x dx sh rd : Addr) (ts : List Tab) (kvs : List (Key × V)) (g : Str → List Row), vs = [.ref x, .ref sh, .ref rd] ∧ H x = some (.ins CT dx []) ∧ Same F0 H ∧ F0 x = none ∧ ShAt K CS F0 sh ts ∧ TsOk ts ∧ Rd1 K F0 rd kvs g ∧
  ((∃ kv ∈ kvs, ∃ n, kv.1 = Sum.inr n ∧ n ∉ ts.map (·.1)) → ErrPair H .non (.int (-1)) (E (.ref CR))) ∧
  ((∀ kv ∈ kvs, ∀ n, kv.1 = Sum.inr n → n ∈ ts.map (·.1)) → (∀ t i, firstBad g ts = some (t, i) → ErrPair H (.str t) (.int (i : Nat)) (E (.ref CR))) ∧
    (firstBad g ts = none → (300 < total g ts → ∀ H', (∀ b o, b ≠ x → H b = some o → H' b = some o) → E (.ref CM) none H') ∧
      (total g ts ≤ 300 → ∀ (rd' : Addr) (H' N : Hp), (∀ b o, b ≠ x → H b = some o → H' b = some o) → H' x = some (.ins CT dx (stF sh rd')) → Fresh H H' N → Rs1 K N rd' ts g → Q .non H')))
abbrev s_Store_init : Stmt := inClass (topS 24) 0
abbrev sc_Store_initN : List Str := ["self", "shape", "rows", "table", "_"]
abbrev ps_Store_init : List Str := ["self", "shape", "rows"]
theorem sc_Store_init : FnScope sc_Store_initN ps_Store_init (defScope s_Store_init) := ⟨rfl, rfl, rfl, by decide +kernel, rfl, by decide +kernel, by decide +kernel⟩
theorem ok_Store_init {f : Addr} {fd : FuncData} (F : Fun K "__init__" "Store.__init__" s_Store_init f fd) (T : Txt K mg CS) (T2 : Tx2 K mg CT CR CN CM) (X_TooMany : X0 K mg "TooMany" CM) (D_check_rows : DfX P w K mg base "check_rows" 4 ps_check_rows (spCheckR K CS CR)) (D3 : Df P w K mg base "as_tuples" 3 ps_as_tuples (spTup K 3)) :
    FnOk P w K mg base (L2.CX P w) 5 f fd ps_Store_init (spStInit K CS CT CR CM) := by
  refine F.okX sc_Store_init (fun vs H Q E h => ?_) (fun cdv A outer s H vs Q E hr h => ?_)
  · obtain ⟨_, _, _, _, _, _, _, _, rfl, _⟩ := h
    rfl
  · obtain ⟨F0, x, dx, sh, rd, ts, kvs, g, rfl, hx, sF, fx, shA, ok, R, kB, kG⟩ := h
    refine ⟨_, (pss_cons (ps_if (pt_not (pt_val (pe_callB call_isi (by rfl) T.n_isinstance (by decide +kernel) (pa_cons (pv 1) (pa_cons (pe_glob (v := .ref CS) rfl T.g_Shape rfl) pa_nil))))) pss_never pss_nil)
  (pss_cons (ps_expr (pe_dE D_check_rows (hr.mono (by decide)) (takes_of rfl rfl rfl rfl) (pa_cons (pv 1) (pa_cons (pv 2) pa_nil))))
  (pss_cons (ps_fld (pv 0) (pv 1) rfl)
  (pss_cons (ps_fld (pv 0) (L2.pe_dc (own := [("table", 3), ("_", 4)]) (g := gTup K 2 (gCons (gName 3) (gCons (gName 4) gNil))) (tt := tYes) (by rfl) sc_Store_init.nd (pi_tup (pe_fld (pv 1) rfl)) (blkOk_by (own := [("table", 3), ("_", 4)]) (N := sc_Store_initN) (sc := defScope s_Store_init) (by decide +kernel)) (fun _ _ _ _ _ => pg_tup (by rfl) (pgs_cons (pg_name (i := 3) sc_Store_init.nd rfl (Or.inl rfl)) (pgs_cons (pg_name (i := 4) sc_Store_init.nd rfl (Or.inl rfl)) pgs_nil))) (fun _ _ _ _ _ => pts_nil) (fun _ _ _ _ _ => (pv 3)) (fun _ _ _ _ _ => (pe_d D3 (hr.mono (by decide)) (pa_cons (pe_dget2 (Nat.lt_of_le_of_lt (Nat.add_le_add_left (by decide) _) hr.units) (pv 2) (pv 3) (pe_tup pa_nil) ⟨rfl, rfl, rfl, rfl⟩) pa_nil)))) rfl)
  (pss_one (ps_if (pt_cmpR op_gt (pe_lock (pe_callB (cr_sum (by rfl)) (by rfl) T.n_sum (by decide +kernel) (pa_cons (pe_lc (own := [("table", 3)]) (g := gName 3) (tt := tYes) (by rfl) sc_Store_init.nd (pi_keys (pe_fld (pv 0) rfl)) (blkOk_by (own := [("table", 3)]) (N := sc_Store_initN) (sc := defScope s_Store_init) (by decide +kernel)) (fun _ _ _ _ _ => pg_name (i := 3) sc_Store_init.nd rfl (Or.inl rfl)) (fun _ _ _ _ _ => pts_nil) (fun _ _ _ _ _ => (pe_callB (cK_len_seq (K := K)) (by rfl) T.n_len (by decide +kernel) (pa_cons (pe_dget (Nat.lt_of_le_of_lt (Nat.add_le_add_left (by decide) _) hr.units) (pe_fldK (K := K) (pv 0)) (pv 3) (fun _ _ => rfl)) pa_nil)))) pa_nil))) (pe_gI T.g_MOST_ROWS) (nomark _))
    (pss_one (ps_r0 X_TooMany (takes_of rfl rfl rfl rfl)))
    pss_nil)))))), ?_⟩
    obtain ⟨dsh, tv, hsh, dtv⟩ := id shA
    have kk : PySem.W.kitOne K (.ref CS) (.ref CS) = some true := by
      show (if (Value.ref CS == Value.ref CS) = true then some true else _) = some true
      rw [if_pos (beq_self_eq_true _)]
    refine ⟨_, rfl, _, _, _, _, _, rfl, .own _, .base (.ins (sF _ _ hsh) T.cl T.c_cls T.c_get T.c_tak T.c_mro), kk, _, rfl, iteF ?_⟩
    refine ⟨_, rfl, _, rfl, sh, rd, ts, kvs, g, rfl, shA.same sF, ok, R.same sF, kB, fun hall => ⟨(kG hall).1, fun hfb H1 s1 => ?_⟩⟩
    obtain ⟨kM, kQ⟩ := (kG hall).2 hfb
    refine ⟨_, rfl, _, rfl, x, CT, dx, _, rfl, s1 _ _ hx, T2.clT, T2.nSh, (by show 0 < 1000; decide), ?_⟩
    rw [stF_1]
    have s0 : Same F0 (upd H1 x (.ins CT dx ([("shape", .ref sh)] : List (Str × V)))) := same_put (sF.trans s1) _ fx
    have hxs : (upd H1 x (.ins CT dx ([("shape", .ref sh)] : List (Str × V)))) x = some (.ins CT dx ([("shape", .ref sh)] : List (Str × V))) := upd_same
    have toH : ∀ b o, b ≠ x → H b = some o → (upd H1 x (.ins CT dx ([("shape", .ref sh)] : List (Str × V)))) b = some o := fun b o n e => by rw [upd_ne n]; exact s1 b o e
    generalize upd H1 x (.ins CT dx ([("shape", .ref sh)] : List (Str × V))) = Hs at *
    have frH : ∀ b, Hs b = none → H b = none := fun b e => by
      cases q : H b with
      | none => rfl
      | some o =>
        by_cases n : b = x
        · rw [n, hxs] at e
          cases e
        · rw [toH b o n q] at e
          cases e
    obtain ⟨tpl, txs, rfl, htp, hd⟩ := dp_tup dtv
    have lx : txs.length = ts.length := by rw [dpA_len hd, List.length_map]
    have lo := ok.hi
    refine ⟨_, rfl, sh, CS, dsh, _, _, rfl, s0 _ _ hsh, T.cl, T.nT, rfl, tpl, rfl, ⟨_, same_sqT s0 htp⟩, fun D hD => ?_⟩
    refine dc_tup (K := K) (a := tpl) (xs := txs) (fun i H' => Same Hs H' ∧ ∃ (kv2 : List (Key × V)) (N : Hp), H' D = some (.dK kv2) ∧ kv2.map (·.1) = (ts.take i).map (fun t => (Sum.inr t.1 : Key)) ∧ Fresh Hs H' N ∧ N D = none ∧ ∀ t ∈ ts.take i, ∃ v, valV kv2 (Sum.inr t.1) = some v ∧ Dp K N v (rowsD false (g t.1)))
      ⟨same_new _ hD, [], nil0, upd_same, rfl, fresh_nil, rfl, fun t m => by cases m⟩ (fun i H' _ z => same_sqT (s0.trans z.1) htp) ?_ ?_
    · rintro i y H2 hy ⟨s2, kv2, N, d2, ek, fr, nD, val⟩
      obtain ⟨c, hc, hxc⟩ := dpA_at hd hy
      rw [List.getElem?_map] at hc
      obtain ⟨t, ht, rfl⟩ := Option.map_eq_some_iff.mp hc
      obtain ⟨p, q, rfl, hp, _⟩ := tab_inv (dp_mono (s0.trans s2) _ _ hxc)
      have R2 := R.same (s0.trans s2)
      obtain ⟨FD, f1, f2, f3⟩ := R2.ex
      refine ⟨p, _, rfl, hp, rfl, _, _, rfl, _, _, rfl, rfl, rfl, _, rfl, ?_⟩
      refine ⟨_, rfl, rd, rfl, .inl ⟨kvs, .inl R2.at_⟩, _, rfl, Nat.zero_le _, fun e he => ⟨valV kvs (Sum.inr t.1), .inl ⟨kvs, Sum.inr t.1, .inl ((same_new _ he) _ _ R2.at_), rfl, rfl⟩, ?_⟩⟩
      have s3 : Same H2 (upd H2 e (.tup [])) := same_new _ he
      have e6 : (upd H2 e (.tup [])) e = some (.tup []) := upd_same
      generalize upd H2 e (.tup []) = H3 at *
      obtain ⟨b, dv⟩ : ∃ b, Dp K H3 ((valV kvs (Sum.inr t.1)).getD (.ref e)) (rowsD b (g t.1)) := by
        cases ev : valV kvs (Sum.inr t.1) with
        | none =>
          rw [(f3 t.1).1 ev]
          exact ⟨false, .tup (.inl (.inl e6)) .nil⟩
        | some v =>
          obtain ⟨b, z⟩ := (f3 t.1).2 v ev
          exact ⟨b, dp_mono (f1.trans s3) _ _ z⟩
      refine ⟨_, _, rfl, dv, dn_rows (R.ok t.1), fun v' H4 N4 s4 fr4 dp4 => ?_⟩
      rw [tupd_rows] at dp4
      have hn : (ts.map (·.1))[i]? = some t.1 := by rw [List.getElem?_map, ht]; rfl
      have nk : (Sum.inr t.1 : Key) ∉ kv2.map (·.1) := fun m => by
        rw [ek] at m
        obtain ⟨u, mu, e⟩ := List.mem_map.mp m
        have eu : u.1 = t.1 := Sum.inr.inj e
        refine nodup_take ok.nd hn ?_
        rw [← eu, ← List.map_take]
        exact List.mem_map.mpr ⟨u, mu, rfl⟩
      have n4 : N4 D = none := by
        cases q : N4 D with
        | none => rfl
        | some o =>
          have z := (fr4 D o q).1
          rw [s3 _ _ d2] at z
          cases z
      have l2 : kv2.length ≤ 100 := by
        have z := congrArg List.length ek
        rw [List.length_map, List.length_map, List.length_take] at z
        omega
      have fu := fresh_uni (fresh_grow fr s3) fr4 (s2.trans s3) s4
      refine ⟨kv2, Sum.inr t.1, rfl, s4 _ _ (s3 _ _ d2), Nat.lt_of_le_of_lt l2 (by decide), same_put (s2.trans (s3.trans s4)) _ hD, kv2 ++ [(Sum.inr t.1, v')], uni N N4, by rw [upd_same, put_new nk], ?_, ?_, ?_, ?_⟩
      · rw [List.map_append, ek, map_take _ ht]
        rfl
      · intro b o q
        have nb : b ≠ D := fun z => by
          rw [z] at q
          rcases uni_or q with q | ⟨_, q⟩
          · rw [nD] at q; cases q
          · rw [n4] at q; cases q
        rw [upd_ne nb]
        exact fu b o q
      · show uni N N4 D = none
        unfold uni
        rw [nD]
        exact n4
      · intro u mu
        rw [List.take_add_one, ht] at mu
        rcases List.mem_append.mp mu with mu | mu
        · obtain ⟨v, h1, h2⟩ := val u mu
          exact ⟨v, val_old h1, dp_mono same_uni _ _ h2⟩
        · have eu : u = t := by simpa using mu
          subst eu
          exact ⟨v', val_new nk, dp_mono (same_uni2 (fresh_grow fr s3) fr4) _ _ dp4⟩
    rintro H6 ⟨s6, kv2, N, d6, ek, fr, nD, val⟩
    rw [lx, List.take_length] at ek val
    have nDx : D ≠ x := Ne.symm (ne_of_none hxs hD)
    refine ⟨_, rfl, x, CT, dx, _, rfl, s6 _ _ hxs, T2.clT, T2.nRw, (by show 1 < 1000; decide), ?_⟩
    rw [stF_2]
    have hx7 : (upd H6 x (.ins CT dx (stF sh D))) x = some (.ins CT dx (stF sh D)) := upd_same
    have d7 : (upd H6 x (.ins CT dx (stF sh D))) D = some (.dK kv2) := by rw [upd_ne nDx]; exact d6
    have to7 : ∀ b o, b ≠ x → H b = some o → (upd H6 x (.ins CT dx (stF sh D))) b = some o := fun b o n e => by rw [upd_ne n]; exact s6 _ _ (toH b o n e)
    have fr7 : ∀ b o, N b = some o → H b = none ∧ b ≠ D ∧ (upd H6 x (.ins CT dx (stF sh D))) b = some o := fun b o e => by
      obtain ⟨q1, q2⟩ := fr b o e
      refine ⟨frH b q1, fun z => ?_, ?_⟩
      · rw [z, nD] at e
        cases e
      · rw [upd_ne (Ne.symm (ne_of_none hxs q1))]
        exact q2
    have hDH : H D = none := frH D hD
    have e7 : ([("shape", .ref sh), ("_rows", .ref D)] : List (Str × V)) = stF sh D := rfl
    rw [e7]
    generalize upd H6 x (.ins CT dx (stF sh D)) = H7 at *
    refine ⟨D, .dK kv2, d7, trivial, fun od => ?_⟩
    have hL : (upd H7 D (.frz od (.dK kv2))) D = some (.frz od (.dK kv2)) := upd_same
    have hx8 : (upd H7 D (.frz od (.dK kv2))) x = some (.ins CT dx (stF sh D)) := by rw [upd_ne (Ne.symm nDx)]; exact hx7
    have sN : Same N (upd H7 D (.frz od (.dK kv2))) := fun b o e => by
      obtain ⟨_, q2, q3⟩ := fr7 b o e
      rw [upd_ne q2]
      exact q3
    have back : ∀ H', Same (upd H7 D (.frz od (.dK kv2))) H' → Same H7 (upd H' D (.dK kv2)) := fun H' q b o e => by
      by_cases z : b = D
      · rw [z, upd_same]
        rw [z, d7] at e
        exact e
      · rw [upd_ne z]
        exact q b o (by rw [upd_ne z]; exact e)
    generalize upd H7 D (.frz od (.dK kv2)) = HL at *
    have lk : kv2.length = ts.length := by
      have z := congrArg List.length ek
      rw [List.length_map, List.length_map] at z
      exact z
    refine ⟨_, rfl, x, CT, dx, _, _, rfl, hx8, T2.clT, T2.nRw, rfl, D, od, rfl, .inl ⟨kv2, hL, fun L hL2 => ?_⟩⟩
    refine lc_it walk_keys (fun i H' => Same HL H' ∧ H' L = some (.lst ((ts.take i).map fun t => V.int ((g t.1).length : Int)))) ⟨same_new _ hL2, by rw [upd_same]; rfl⟩ (fun i H' _ z => z.1 _ _ hL) ?_ ?_
    · rintro i y H8 H9 hi ⟨s8, d8⟩ ⟨rfl, kk2, v0, hk, rfl⟩
      have hi2 : i < ts.length := by omega
      have ht : ts[i]? = some ts[i] := List.getElem?_eq_getElem hi2
      have ekk : kk2 = Sum.inr (ts[i]).1 := by
        have z : (kv2.map (·.1))[i]? = some kk2 := by rw [List.getElem?_map, hk]; rfl
        rw [ek, List.getElem?_map, ht] at z
        exact (Option.some.inj z).symm
      subst ekk
      obtain ⟨v, hv, dv⟩ := val (ts[i]) (List.getElem_mem hi2)
      obtain ⟨a, xs, rfl, sq, da⟩ := dp_tup (dp_mono (sN.trans s8) _ _ dv)
      have la : xs.length = (g (ts[i]).1).length := by rw [dpA_len da, List.length_map]
      refine ⟨rfl, _, rfl, x, CT, dx, _, _, rfl, s8 _ _ hx8, T2.clT, T2.nRw, rfl, _, rfl, D, _, rfl, .inl ⟨kv2, _, .inr ⟨od, s8 _ _ hL⟩, rfl, hv.symm⟩, a, xs, rfl, .inr sq, _, d8, take_lt _ (by omega), same_put s8 _ hL2, ?_⟩
      rw [upd_same, map_take _ ht, la]
    · rintro H8 ⟨s8, d8⟩
      rw [lk, List.take_length] at d8
      have d9 : H8 L = some (.lst ((ts.map fun t => ((g t.1).length : Int)).map V.int)) := by rw [d8, List.map_map]; rfl
      refine ⟨L, _, rfl, .inl (.inl d9), s8 _ _ hL, _, _, rfl, rfl, _, rfl, ?_⟩
      rw [sum_total]
      have to9 : ∀ b o, b ≠ x → H b = some o → (upd H8 D (.dK kv2)) b = some o := fun b o n e => back _ s8 _ _ (to7 b o n e)
      refine ifd (fun hgt => ?_) fun hle => ?_
      · exact kM (by unfold total; omega) _ to9
      · refine kQ (by unfold total; omega) D _ (upd N D (.dK kv2)) to9 (back _ s8 _ _ hx7) (fun b o e => ?_) ⟨kv2, upd_same, ek, N, fun b o e => ?_, nD, val⟩
        · by_cases z : b = D
          · rw [z, upd_same] at e
            cases e
            rw [z]
            exact ⟨hDH, upd_same⟩
          · rw [upd_ne z] at e
            obtain ⟨q1, _, q3⟩ := fr7 b o e
            exact ⟨q1, back _ s8 _ _ q3⟩
        · rw [upd_ne (ne_of_none e nD)]
          exact e
end
end Fm

/-! ## K07V -/
set_option Elab.async false
set_option maxRecDepth 100000
set_option maxHeartbeats 4000000
namespace Fm
open PySem L2
/-! ### what a store answers -/
/-- a store of the tables ts with the rows g stands at a -/
def StAt (K : PySem.W.Frag) (CS CT : Addr) (H : Hp) (a : Addr) (ts : List Tab) (g : Str → List Row) : Prop := ∃ dx sh rd, H a = some (.ins CT dx (stF sh rd)) ∧ ShAt K CS H sh ts ∧ Rs1 K H rd ts g
theorem Rs1.same {K : PySem.W.Frag} {H H' : Hp} {rd : Addr} {ts : List Tab} {g : Str → List Row} (h : Rs1 K H rd ts g) (s : Same H H') : Rs1 K H' rd ts g := by
  obtain ⟨kvs, h1, h2, F, h3, h4, h5⟩ := h
  exact ⟨kvs, s _ _ h1, h2, F, h3.trans s, h4, h5⟩
theorem StAt.same {K : PySem.W.Frag} {CS CT : Addr} {H H' : Hp} {a : Addr} {ts : List Tab} {g : Str → List Row} (h : StAt K CS CT H a ts g) (s : Same H H') : StAt K CS CT H' a ts g := by
  obtain ⟨dx, sh, rd, h1, h2, h3⟩ := h
  exact ⟨dx, sh, rd, s _ _ h1, h2.same s, h3.same s⟩
section
variable {P : Program} {w : World} {K : PySem.W.Frag} {mg : Str → Option Value} {base : Heap} {CS CT CR CN CM : Addr}
def spFieldsE (K : PySem.W.Frag) (CS CN : Addr) : Sp := fun vs H Q E => ∃ (sh : Addr) (n : Str) (ts : List Tab), vs = [.ref sh, .str n] ∧ ShAt K CS H sh ts ∧ TsOk ts ∧ (n ∈ ts.map (·.1) → ∀ v, Q v H) ∧ (n ∉ ts.map (·.1) → ∀ d, H d = none → E (.ref CN) (some d) (upd H d (.xd [("value", .str n)])))
abbrev s_Shape_fields_of : Stmt := inClass (topS 23) 2
abbrev sc_Shape_fields_ofN : List Str := ["self", "name", "table", "fields"]
abbrev ps_Shape_fields_of : List Str := ["self", "name"]
theorem sc_Shape_fields_of : FnScope sc_Shape_fields_ofN ps_Shape_fields_of (defScope s_Shape_fields_of) := ⟨rfl, rfl, rfl, by decide +kernel, rfl, by decide +kernel, by decide +kernel⟩
theorem ok_Shape_fields_of {f : Addr} {fd : FuncData} (F : Fun K "fields_of" "Shape.fields_of" s_Shape_fields_of f fd) (T : Txt K mg CS) (X_BadName : Xf P w K mg base "BadName" CN "value") : FnOk P w K mg base (L2.CX P w) 3 f fd ps_Shape_fields_of (spFieldsE K CS CN) := by
  refine F.okX sc_Shape_fields_of (fun vs H Q E h => ?_) (fun cdv A outer s H vs Q E hr h => ?_)
  · obtain ⟨_, _, _, rfl, _⟩ := h
    rfl
  · obtain ⟨sh, n, ts, rfl, ⟨dx, tv, hsh, dtv⟩, ok, kQ, kE⟩ := h
    refine ⟨_, (pss_cons (ps_for PassesOwn.leaving rfl (pi_tup (pe_fld (pv 0) rfl)) (pg_tup (by rfl) (pgs_cons (pg_name (i := 2) sc_Shape_fields_of.nd rfl (Or.inl rfl)) (pgs_cons (pg_name (i := 3) sc_Shape_fields_of.nd rfl (Or.inl rfl)) pgs_nil)))
    (pss_one (ps_if (pt_cmpR op_eq (pv 2) (pv 1) (nomark _))
      (pss_one (ps_ret (pv 3)))
      pss_nil)))
  (pss_one (ps_rE X_BadName (hr.mono (by decide)) (takes_of rfl rfl rfl rfl) (pv 1)))), ?_⟩
    obtain ⟨tpl, txs, rfl, htp, hd⟩ := dp_tup dtv
    have lx : txs.length = ts.length := by rw [dpA_len hd, List.length_map]
    refine ⟨_, rfl, sh, CS, dx, _, _, rfl, hsh, T.cl, T.nT, rfl, tpl, rfl, ⟨_, htp⟩, for_it walk_tup (fun i σ H' => ∃ v2 v3, σ = [some (.ref sh), some (.str n), v2, v3] ∧ H = H' ∧ n ∉ (ts.take i).map (·.1))
      ⟨_, _, rfl, rfl, fun m => by cases m⟩ (fun i σ H' _ z => by obtain ⟨_, _, _, rfl, _⟩ := z; exact htp) ?_ ?_⟩
    · rintro i x σ H5 H6 hi ⟨v2, v3, rfl, rfl, inv⟩ ⟨rfl, hx⟩
      obtain ⟨c, hc, hxc⟩ := dpA_at hd hx
      rw [List.getElem?_map] at hc
      obtain ⟨t, ht, rfl⟩ := Option.map_eq_some_iff.mp hc
      obtain ⟨p, q, rfl, hp, _⟩ := tab_inv hxc
      refine ⟨p, _, rfl, hp, rfl, _, _, rfl, _, _, rfl, rfl, ?_⟩
      refine ⟨_, rfl, _, rfl, rfl, _, rfl, ifd (fun e => ?_) fun e => ?_⟩
      · have e2 : t.1 = n := V.str.inj e
        exact ⟨_, rfl, kQ (by rw [← e2]; exact List.mem_map.mpr ⟨t, List.mem_of_getElem? ht, rfl⟩) _⟩
      · refine ⟨_, _, rfl, rfl, fun m => ?_⟩
        rw [List.take_add_one, ht, List.map_append] at m
        rcases List.mem_append.mp m with m | m
        · exact inv m
        · have z : n = t.1 := by simpa using m
          exact e (by rw [z])
    · rintro σ H5 ⟨v2, v3, rfl, rfl, inv⟩
      rw [lx, List.take_length] at inv
      exact ⟨_, rfl, fun d hd => kE inv d hd⟩
def spRowsOf (K : PySem.W.Frag) (CS CT CN : Addr) : Sp := fun vs H Q E => ∃ (a : Addr) (n : Str) (ts : List Tab) (g : Str → List Row), vs = [.ref a, .str n] ∧ StAt K CS CT H a ts g ∧ TsOk ts ∧
  (n ∈ ts.map (·.1) → ∀ (p : Addr) (xs : List V), H p = none → DpAll K H xs ((g n).map rowD) → Q (.ref p) (upd H p (.lst xs))) ∧ (n ∉ ts.map (·.1) → ∀ d, H d = none → E (.ref CN) (some d) (upd H d (.xd [("value", .str n)])))
abbrev s_Store_rows_of : Stmt := inClass (topS 24) 2
abbrev sc_Store_rows_ofN : List Str := ["self", "name"]
abbrev ps_Store_rows_of : List Str := ["self", "name"]
theorem sc_Store_rows_of : FnScope sc_Store_rows_ofN ps_Store_rows_of (defScope s_Store_rows_of) := ⟨rfl, rfl, rfl, by decide +kernel, rfl, by decide +kernel, by decide +kernel⟩
theorem ok_Store_rows_of {f : Addr} {fd : FuncData} (F : Fun K "rows_of" "Store.rows_of" s_Store_rows_of f fd) (T : Txt K mg CS) (T2 : Tx2 K mg CT CR CN CM) (D_fields_of : DmX P w K mg base CS "fields_of" 3 ps_Shape_fields_of (spFieldsE K CS CN)) : FnOk P w K mg base (L2.CX P w) 4 f fd ps_Store_rows_of (spRowsOf K CS CT CN) := by
  refine F.okX sc_Store_rows_of (fun vs H Q E h => ?_) (fun cdv A outer s H vs Q E hr h => ?_)
  · obtain ⟨_, _, _, _, rfl, _⟩ := h
    rfl
  · obtain ⟨a, n, ts, g, rfl, ⟨dx, sh, rd, ha, shA, kvs, hrd, ek, FD, sFD, fD, val⟩, ok, kQ, kE⟩ := h
    refine ⟨_, (pss_cons (ps_expr (pe_dmE (pe_fld (pv 0) rfl) T.cl D_fields_of (hr.mono (by decide)) (takes_of rfl rfl rfl rfl) (pa_cons (pv 1) pa_nil)))
  (pss_one (ps_ret (pe_callTy call_list_of (by rfl) T.n_list (by decide +kernel) (pa_cons (pe_dget (Nat.lt_of_le_of_lt (Nat.add_le_add_left (by decide) _) hr.units) (pe_fld (pv 0) rfl) (pv 1) (fun _ _ => rfl)) pa_nil))))), ?_⟩
    obtain ⟨dsh, tv, hsh, dtv⟩ := id shA
    refine ⟨_, rfl, a, CT, dx, _, _, rfl, ha, T2.clT, T2.nSh, rfl, sh, dsh, _, rfl, hsh, rfl, _, rfl, sh, n, ts, rfl, shA, ok, fun m v => ?_, kE⟩
    obtain ⟨t, mt, et⟩ := List.mem_map.mp m
    obtain ⟨u, hu, du⟩ := val t mt
    rw [et] at hu du
    obtain ⟨c, xs, rfl, sq, da⟩ := dp_tup (dp_mono sFD _ _ du)
    exact ⟨_, rfl, a, CT, dx, _, _, rfl, ha, T2.clT, T2.nRw, rfl, _, rfl, rd, _, rfl, .inl ⟨kvs, _, .inl hrd, rfl, hu.symm⟩, c, xs, rfl, .inr sq, fun l hl => kQ m l xs hl da⟩
end
end Fm

/-! ## K07W -/
set_option Elab.async false
set_option maxRecDepth 100000
set_option maxHeartbeats 4000000
namespace Fm
open PySem L2
section
variable {K : PySem.W.Frag} {H : Hp}
theorem dpA_app : ∀ {ds es : List PyData} {vs us : List V}, DpAll K H vs ds → DpAll K H us es → DpAll K H (vs ++ us) (ds ++ es)
  | [], es, _, us, h, g => by cases h; exact g
  | d :: ds, es, _, us, h, g => by
    cases h with
    | cons h1 h2 => exact .cons h1 (dpA_app h2 g)
theorem dpA_take : ∀ {ds : List PyData} {vs : List V} (n : Nat), DpAll K H vs ds → DpAll K H (vs.take n) (ds.take n)
  | [], _, n, h => by cases h; simp; exact .nil
  | d :: ds, _, 0, h => .nil
  | d :: ds, _, n + 1, h => by
    cases h with
    | cons h1 h2 => exact .cons h1 (dpA_take n h2)
theorem dpA_drop : ∀ {ds : List PyData} {vs : List V} (n : Nat), DpAll K H vs ds → DpAll K H (vs.drop n) (ds.drop n)
  | [], _, n, h => by cases h; simp; exact .nil
  | d :: ds, _, 0, h => h
  | d :: ds, _, n + 1, h => by
    cases h with
    | cons h1 h2 => exact dpA_drop n h2
theorem cutV_from (xs : List V) (k : Nat) (h : k ≤ xs.length) : cutV xs (some (k : Int)) none = xs.drop k := by
  unfold cutV
  rw [HT.sIx_none, HT.sIx_nat, Nat.min_eq_left h, List.take_of_length_le (by rw [List.length_drop]; omega)]
end
theorem ErrPair.sub {H H2 : Hp} {v i : V} {E : Option Addr → Hp → Prop} (h : ErrPair H v i E) (s : Same H H2) : ErrPair H2 v i E := fun d tp H' q => h d tp H' (s.trans q)
/-- a store is made of a shape and a dict of rows -/
theorem store_make {K : PySem.W.Frag} {CS CT CR CM : Addr} {F0 H : Hp} {x dx sh rd : Addr} {ts : List Tab} {kvs : List (Key × V)} {g : Str → List Row} {R : Hp → Prop} {E : XK} (sF : Same F0 H) (shA : ShAt K CS F0 sh ts) (ok : TsOk ts) (rs : Rd1 K H rd kvs g) (nx : H x = none) (nd : H dx = none) (ne : dx ≠ x)
    (kB : (∃ kv ∈ kvs, ∃ n, kv.1 = Sum.inr n ∧ n ∉ ts.map (·.1)) → ErrPair H .non (.int (-1)) (E (.ref CR)))
    (kG : (∀ kv ∈ kvs, ∀ n, kv.1 = Sum.inr n → n ∈ ts.map (·.1)) → (∀ t i, firstBad g ts = some (t, i) → ErrPair H (.str t) (.int (i : Nat)) (E (.ref CR))) ∧
      (firstBad g ts = none → (300 < total g ts → ∀ H', Same H H' → E (.ref CM) none H') ∧ (total g ts ≤ 300 → ∀ H' M, Same H H' → Fresh H H' M → StAt K CS CT (uni F0 M) x ts g → R H'))) :
    spStInit K CS CT CR CM [.ref x, .ref sh, .ref rd] (upd (upd H dx (.own x)) x (.ins CT dx [])) (fun z H' => z = .non ∧ R H') E := by
  have s1 : Same H (upd (upd H dx (.own x)) x (.ins CT dx [])) := fun a o e => by
    rw [upd_ne (ne_of_none e nx), upd_ne (ne_of_none e nd)]
    exact e
  have toS : ∀ H', (∀ b o, b ≠ x → (upd (upd H dx (.own x)) x (.ins CT dx [])) b = some o → H' b = some o) → Same H H' := fun H' q a o e => q a o (ne_of_none e nx) (s1 a o e)
  refine ⟨H, x, dx, sh, rd, ts, kvs, g, rfl, upd_same, s1, nx, shA.same sF, ok, rs, fun z => (kB z).sub s1, fun hall => ⟨fun t i e => ((kG hall).1 t i e).sub s1, fun hfb => ⟨fun hgt H' q => ((kG hall).2 hfb).1 hgt H' (toS H' q), fun hle rd' H' N q hx fr rsN => ⟨rfl, ?_⟩⟩⟩⟩
  have sH := toS H' q
  have back : ∀ a, (upd (upd H dx (.own x)) x (.ins CT dx [])) a = none → H a = none := fun a e => by
    cases z : H a with
    | none => rfl
    | some o =>
      rw [s1 a o z] at e
      cases e
  have nN : N x = none := by
    cases z : N x with
    | none => rfl
    | some o =>
      have y := (fr x o z).1
      rw [upd_same] at y
      cases y
  have frM : Fresh H H' (upd N x (.ins CT dx (stF sh rd'))) := fun a o e => by
    by_cases z : a = x
    · rw [z, upd_same] at e
      cases e
      rw [z]
      exact ⟨nx, hx⟩
    · rw [upd_ne z] at e
      exact ⟨back a (fr a o e).1, (fr a o e).2⟩
  have sM := same_grow sF frM
  refine ((kG hall).2 hfb).2 hle H' _ sH frM ⟨dx, sh, rd', sM _ _ upd_same, shA.same same_uni, (rsN.same fun a o e => ?_).same sM⟩
  rw [upd_ne (ne_of_none e nN)]
  exact e
section
variable {P : Program} {w : World} {K : PySem.W.Frag} {mg : Str → Option Value} {base : Heap} {CS CT CR CN CM : Addr}
def setG (g : Str → List Row) (n : Str) (R : List Row) : Str → List Row := fun m => if m = n then R else g m
/-- with the rows R in the place of those of n -/
def Other (K : PySem.W.Frag) (CS CT CR CM : Addr) (F0 H : Hp) (ts : List Tab) (g : Str → List Row) (Q : VK) (E : XK) : Prop :=
  (∀ t i, firstBad g ts = some (t, i) → ErrPair H (.str t) (.int (i : Nat)) (E (.ref CR))) ∧
  (firstBad g ts = none → (300 < total g ts → ∀ H', Same H H' → E (.ref CM) none H') ∧ (total g ts ≤ 300 → ∀ x H' M, Same H H' → Fresh H H' M → StAt K CS CT (uni F0 M) x ts g → Q (.ref x) H'))
def spWith (K : PySem.W.Frag) (CS CT CR CM : Addr) : Sp := fun vs H Q E => ∃ (F0 : Hp) (a q : Addr) (n : Str) (b : Bool) (ts : List Tab) (g : Str → List Row) (R : List Row), vs = [.ref a, .str n, .ref q] ∧ Same F0 H ∧ StAt K CS CT F0 a ts g ∧ TsOk ts ∧ (∀ m, RsOk (g m)) ∧ RsOk R ∧ n ∈ ts.map (·.1) ∧ Dp K H (.ref q) (rowsD b R) ∧
  (∀ m, m ∉ ts.map (·.1) → g m = []) ∧ Other K CS CT CR CM F0 H ts (setG g n R) Q E
theorem keys_put {kvs : List (Key × V)} {k : Key} {z : V} (h : k ∈ kvs.map (·.1)) : (putK kvs k z).map (·.1) = kvs.map (·.1) := by
  unfold putK
  obtain ⟨kv, m, e⟩ := List.mem_map.mp h
  rw [if_pos (List.any_eq_true.mpr ⟨kv, m, decide_eq_true e⟩), List.map_map]
  refine List.map_congr_left fun u _ => ?_
  show (if u.1 = k then (u.1, z) else u).1 = u.1
  by_cases q : u.1 = k
  · rw [if_pos q]
  · rw [if_neg q]
theorem val_key {kvs : List (Key × V)} {k : Key} (h : valV kvs k = none) : k ∉ kvs.map (·.1) := fun m => by
  unfold valV at h
  rw [Option.map_eq_none_iff, List.find?_eq_none] at h
  obtain ⟨kv, mk, e⟩ := List.mem_map.mp m
  exact h kv mk (decide_eq_true e)
abbrev s_Store__with_rows : Stmt := inClass (topS 24) 5
abbrev sc_Store__with_rowsN : List Str := ["self", "name", "rows", "changed"]
abbrev ps_Store__with_rows : List Str := ["self", "name", "rows"]
theorem sc_Store__with_rows : FnScope sc_Store__with_rowsN ps_Store__with_rows (defScope s_Store__with_rows) := ⟨rfl, rfl, rfl, by decide +kernel, rfl, by decide +kernel, by decide +kernel⟩
theorem ok_Store_with {f : Addr} {fd : FuncData} (F : Fun K "_with_rows" "Store._with_rows" s_Store__with_rows f fd) (T : Txt K mg CS) (T2 : Tx2 K mg CT CR CN CM) (D_Store : DcX P w K mg base "Store" CT 5 ps_Store_init (spStInit K CS CT CR CM)) : FnOk P w K mg base (L2.CX P w) 7 f fd ps_Store__with_rows (spWith K CS CT CR CM) := by
  refine F.okX sc_Store__with_rows (fun vs H Q E h => ?_) (fun cdv A outer s H vs Q E hr h => ?_)
  · obtain ⟨_, _, _, _, _, _, _, _, rfl, _⟩ := h
    rfl
  · obtain ⟨F0, a, q, n, b, ts, g, R, rfl, sF, ⟨dx, sh, rd, ha, shA, kvs, hrd, ek, FD, sFD, fD, val⟩, ok, gok, rok, hn, dq, gno, kO⟩ := h
    refine ⟨_, (pss_cons (ps_set (i := 3) sc_Store__with_rows.nd rfl (Or.inl rfl) (pe_callTy call_dictD (by rfl) T.n_dict (by decide +kernel) (pa_cons (pe_fld (pv 0) rfl) pa_nil)))
  (pss_cons (ps_asg (pv 2) (pg_sub (pv 3) (pv 1) (set_dict (Nat.lt_of_le_of_lt (Nat.add_le_add_left (by decide) _) hr.units))))
  (pss_one (ps_ret (pe_dcE D_Store (hr.mono (by decide)) (takes_of rfl rfl rfl rfl) (pa_cons (pe_fld (pv 0) rfl) (pa_cons (pv 3) pa_nil))))))), ?_⟩
    have ha1 := sF _ _ ha
    refine ⟨_, rfl, a, CT, dx, _, _, rfl, ha1, T2.clT, T2.nRw, rfl, rd, kvs, rfl, .inl (sF _ _ hrd), fun D hD => ?_⟩
    refine ⟨_, rfl, _, rfl, _, rfl, D, _, rfl, .inl ⟨kvs, Sum.inr n, upd_same, rfl, ?_, rfl⟩, ?_⟩
    · have lk : kvs.length = ts.length := by
        have z := congrArg List.length ek
        rw [List.length_map, List.length_map] at z
        exact z
      have z := ok.hi
      exact Nat.lt_of_le_of_lt (show kvs.length ≤ 100 by omega) (by decide)
    have hn2 : (Sum.inr n : Key) ∈ kvs.map (·.1) := by
      rw [ek]
      obtain ⟨t, mt, et⟩ := List.mem_map.mp hn
      exact List.mem_map.mpr ⟨t, mt, by rw [et]⟩
    rw [upd_upd]
    have s1 : Same H (upd H D (.dK (putK kvs (Sum.inr n) (.ref q)))) := same_new _ hD
    have d1 : (upd H D (.dK (putK kvs (Sum.inr n) (.ref q)))) D = some (.dK (putK kvs (Sum.inr n) (.ref q))) := upd_same
    generalize upd H D (.dK (putK kvs (Sum.inr n) (.ref q))) = H1 at *
    refine ⟨_, rfl, a, CT, dx, _, _, rfl, s1 _ _ ha1, T2.clT, T2.nSh, rfl, _, rfl, fun x dx2 nx nd ne => ?_⟩
    have rs : Rd1 K H1 D (putK kvs (Sum.inr n) (.ref q)) (setG g n R) := by
      refine ⟨d1, ?_, fun kv m => ?_, ⟨H, s1, hD, fun m => ⟨fun z => ?_, fun v z => ?_⟩⟩, fun m => ?_⟩
      · have z := congrArg List.length (keys_put (z := V.ref q) hn2)
        rw [ek, List.length_map, List.length_map] at z
        have y := ok.hi
        omega
      · have z : kv.1 ∈ (putK kvs (Sum.inr n) (V.ref q)).map (·.1) := List.mem_map.mpr ⟨kv, m, rfl⟩
        rw [keys_put hn2, ek] at z
        obtain ⟨t, _, e⟩ := List.mem_map.mp z
        exact ⟨t.1, e.symm⟩
      · rw [valV_put] at z
        by_cases e : (Sum.inr m : Key) = Sum.inr n
        · rw [if_pos e] at z
          cases z
        · rw [if_neg e] at z
          have y := val_key z
          rw [ek] at y
          unfold setG
          rw [if_neg fun q => e (by rw [q])]
          refine gno m fun mm => y ?_
          obtain ⟨t, mt, et⟩ := List.mem_map.mp mm
          exact List.mem_map.mpr ⟨t, mt, by rw [et]⟩
      · rw [valV_put] at z
        unfold setG
        by_cases e : (Sum.inr m : Key) = Sum.inr n
        · rw [if_pos e] at z
          cases z
          rw [if_pos (Sum.inr.inj e)]
          exact ⟨b, dq⟩
        · rw [if_neg e] at z
          rw [if_neg fun q => e (by rw [q])]
          have km : (Sum.inr m : Key) ∈ kvs.map (·.1) := by
            unfold valV at z
            obtain ⟨kv, h1, h2⟩ := Option.map_eq_some_iff.mp z
            exact List.mem_map.mpr ⟨kv, List.mem_of_find?_eq_some h1, (by have y := List.find?_some h1; simpa using y)⟩
          rw [ek] at km
          obtain ⟨t, mt, et⟩ := List.mem_map.mp km
          have et2 : t.1 = m := Sum.inr.inj et
          obtain ⟨u, hu, du⟩ := val t mt
          rw [et2, z] at hu
          cases hu
          rw [et2] at du
          exact ⟨false, dp_mono (sFD.trans sF) _ _ du⟩
      · unfold setG
        by_cases e : m = n
        · rw [if_pos e]
          exact rok
        · rw [if_neg e]
          exact gok m
    refine store_make (sF.trans s1) shA ok rs nx nd ne (fun z => ?_) fun _ => ⟨fun t i e => (kO.1 t i e).sub s1, fun hfb => ⟨fun hgt H' s => (kO.2 hfb).1 hgt H' (s1.trans s), fun hle H' M s fr st => (kO.2 hfb).2 hle x H' M (s1.trans s) (fresh_back s1 fr) st⟩⟩
    obtain ⟨kv, m, n2, e, no⟩ := z
    have y : kv.1 ∈ (putK kvs (Sum.inr n) (V.ref q)).map (·.1) := List.mem_map.mpr ⟨kv, m, rfl⟩
    rw [keys_put hn2, ek] at y
    obtain ⟨t, mt, et⟩ := List.mem_map.mp y
    rw [e] at et
    exact absurd (List.mem_map.mpr ⟨t, mt, Sum.inr.inj et⟩) no
def spWithRow (K : PySem.W.Frag) (CS CT CR CN CM : Addr) : Sp := fun vs H Q E => ∃ (F0 : Hp) (a : Addr) (v : V) (n : Str) (ts : List Tab) (g : Str → List Row) (r : Row), vs = [.ref a, .str n, v] ∧ Same F0 H ∧ StAt K CS CT F0 a ts g ∧ TsOk ts ∧ (∀ m, RsOk (g m)) ∧ RsOk (g n ++ [r]) ∧ Dp K H v (rowD r) ∧
  (∀ m, m ∉ ts.map (·.1) → g m = []) ∧ (n ∈ ts.map (·.1) → Other K CS CT CR CM F0 H ts (setG g n (g n ++ [r])) Q E) ∧ (n ∉ ts.map (·.1) → ∀ d, H d = none → E (.ref CN) (some d) (upd H d (.xd [("value", .str n)])))
theorem Other.sub {F0 H H2 : Hp} {ts : List Tab} {g : Str → List Row} {Q : VK} {E : XK} (h : Other K CS CT CR CM F0 H ts g Q E) (s : Same H H2) : Other K CS CT CR CM F0 H2 ts g Q E :=
  ⟨fun t i e => (h.1 t i e).sub s, fun hfb => ⟨fun hgt H' q => (h.2 hfb).1 hgt H' (s.trans q), fun hle x H' M q fr st => (h.2 hfb).2 hle x H' M (s.trans q) (fresh_back s fr) st⟩⟩
abbrev s_Store_with_row : Stmt := inClass (topS 24) 3
abbrev sc_Store_with_rowN : List Str := ["self", "name", "row"]
abbrev ps_Store_with_row : List Str := ["self", "name", "row"]
theorem sc_Store_with_row : FnScope sc_Store_with_rowN ps_Store_with_row (defScope s_Store_with_row) := ⟨rfl, rfl, rfl, by decide +kernel, rfl, by decide +kernel, by decide +kernel⟩
theorem ok_Store_with_row {f : Addr} {fd : FuncData} (F : Fun K "with_row" "Store.with_row" s_Store_with_row f fd) (T : Txt K mg CS) (T2 : Tx2 K mg CT CR CN CM) (D_rows_of : DmX P w K mg base CT "rows_of" 4 ps_Store_rows_of (spRowsOf K CS CT CN)) (D__with_rows : DmX P w K mg base CT "_with_rows" 7 ps_Store__with_rows (spWith K CS CT CR CM)) :
    FnOk P w K mg base (L2.CX P w) 8 f fd ps_Store_with_row (spWithRow K CS CT CR CN CM) := by
  refine F.okX sc_Store_with_row (fun vs H Q E h => ?_) (fun cdv A outer s H vs Q E hr h => ?_)
  · obtain ⟨_, _, _, _, _, _, _, rfl, _⟩ := h
    rfl
  · obtain ⟨F0, a, v, n, ts, g, r, rfl, sF, st, ok, gok, rok, dv, gno, kO, kE⟩ := h
    refine ⟨_, (pss_one (ps_ret (pe_dmE (pv 0) T2.clT D__with_rows (hr.mono (by decide)) (takes_of rfl rfl rfl rfl) (pa_cons (pv 1) (pa_cons (pe_lst (StX.pa_star (pe_dmE (pv 0) T2.clT D_rows_of (hr.mono (by decide)) (takes_of rfl rfl rfl rfl) (pa_cons (pv 1) pa_nil)) (pa_cons (pv 2) pa_nil))) pa_nil))))), ?_⟩
    obtain ⟨dx, sh, rd, ha, _⟩ := id st
    have ha1 := sF _ _ ha
    refine ⟨_, rfl, a, dx, _, rfl, ha1, rfl, _, rfl, _, rfl, a, dx, _, rfl, ha1, rfl, _, rfl, a, n, ts, g, rfl, st.same sF, ok, fun hn p xs hp dxs => ?_, kE⟩
    have lx : xs.length = (g n).length := by rw [dpA_len dxs, List.length_map]
    have lg := (gok n).len
    have s1 : Same H (upd H p (.lst xs)) := same_new _ hp
    have p1 : (upd H p (.lst xs)) p = some (.lst xs) := upd_same
    generalize upd H p (.lst xs) = H1 at *
    refine ⟨p, xs, rfl, .inr (.inl (.inl p1)), _, rfl, (by rw [List.length_append]; exact Nat.le_of_lt (Nat.lt_of_le_of_lt (show xs.length + 1 ≤ 2000 by omega) (by decide))), fun q hq => ?_⟩
    have s2 : Same H1 (upd H1 q (.lst (xs ++ [v]))) := same_new _ hq
    refine ⟨F0, a, q, n, true, ts, g, g n ++ [r], rfl, sF.trans (s1.trans s2), st, ok, gok, rok, hn, .lst (.inl (.inl upd_same)) ?_, gno, (kO hn).sub (s1.trans s2)⟩
    rw [List.map_append]
    exact dpA_snoc (dpA_mono (s1.trans s2) _ _ dxs) (dp_mono (s1.trans s2) _ _ dv)
def spWithout (K : PySem.W.Frag) (CS CT CR CM : Addr) : Sp := fun vs H Q E => ∃ (F0 : Hp) (a : Addr) (i : Nat) (n : Str) (ts : List Tab) (g : Str → List Row), vs = [.ref a, .str n, .int i] ∧ Same F0 H ∧ StAt K CS CT F0 a ts g ∧ TsOk ts ∧ (∀ m, RsOk (g m)) ∧ i < (g n).length ∧ n ∈ ts.map (·.1) ∧
  (∀ m, m ∉ ts.map (·.1) → g m = []) ∧ Other K CS CT CR CM F0 H ts (setG g n ((g n).take i ++ (g n).drop (i + 1))) Q E
abbrev s_Store_without_row : Stmt := inClass (topS 24) 4
abbrev sc_Store_without_rowN : List Str := ["self", "name", "at", "rows"]
abbrev ps_Store_without_row : List Str := ["self", "name", "at"]
theorem sc_Store_without_row : FnScope sc_Store_without_rowN ps_Store_without_row (defScope s_Store_without_row) := ⟨rfl, rfl, rfl, by decide +kernel, rfl, by decide +kernel, by decide +kernel⟩
theorem ok_Store_without_row {f : Addr} {fd : FuncData} (F : Fun K "without_row" "Store.without_row" s_Store_without_row f fd) (T : Txt K mg CS) (T2 : Tx2 K mg CT CR CN CM) (D_is_integer : Df P w K mg base "is_integer" 1 ps_is_integer spIsInt) (D_rows_of : DmX P w K mg base CT "rows_of" 4 ps_Store_rows_of (spRowsOf K CS CT CN)) (D__with_rows : DmX P w K mg base CT "_with_rows" 7 ps_Store__with_rows (spWith K CS CT CR CM)) :
    FnOk P w K mg base (L2.CX P w) 8 f fd ps_Store_without_row (spWithout K CS CT CR CM) := by
  refine F.okX sc_Store_without_row (fun vs H Q E h => ?_) (fun cdv A outer s H vs Q E hr h => ?_)
  · obtain ⟨_, _, _, _, _, _, rfl, _⟩ := h
    rfl
  · obtain ⟨F0, a, i, n, ts, g, rfl, sF, st, ok, gok, hi, hn, gno, kO⟩ := h
    refine ⟨_, (pss_cons (ps_set (i := 3) sc_Store_without_row.nd rfl (Or.inl rfl) (pe_dmE (pv 0) T2.clT D_rows_of (hr.mono (by decide)) (takes_of rfl rfl rfl rfl) (pa_cons (pv 1) pa_nil)))
  (pss_cons (ps_if (PW.pt (pw_or (pt_not (pt_val (pe_d D_is_integer (hr.mono (by decide)) (pa_cons (pv 2) pa_nil)))) (pw_or1 (pt_not (pt_chain op_le op_lt pe_int (pv 2) (pe_callB call_len_seq (by rfl) T.n_len (by decide +kernel) (pa_cons (pv 3) pa_nil))))))) pss_never pss_nil)
  (pss_one (ps_ret (pe_dmE (pv 0) T2.clT D__with_rows (hr.mono (by decide)) (takes_of rfl rfl rfl rfl) (pa_cons (pv 1) (pa_cons (pe_op op_cat (pe_slice sl_list (pv 3) po_none (po_some (pv 2))) (pe_slice sl_list (pv 3) (po_some (pe_op op_add (pv 2) pe_int)) po_none)) pa_nil))))))), ?_⟩
    obtain ⟨dx, sh, rd, ha, _⟩ := id st
    have ha1 := sF _ _ ha
    refine ⟨_, rfl, a, dx, _, rfl, ha1, rfl, _, rfl, a, n, ts, g, rfl, st.same sF, ok, fun hn p xs hp dxs => ?_, fun no => absurd hn no⟩
    have lx : xs.length = (g n).length := by rw [dpA_len dxs, List.length_map]
    have lg := (gok n).len
    have s1 : Same H (upd H p (.lst xs)) := same_new _ hp
    have p1 : (upd H p (.lst xs)) p = some (.lst xs) := upd_same
    generalize upd H p (.lst xs) = H1 at *
    have e0 : (decide ((0 : Int) ≤ ((i : Nat) : Int))) = true := decide_eq_true (by omega)
    have e1 : (decide (((i : Nat) : Int) < ((xs.length : Nat) : Int))) = true := decide_eq_true (by omega)
    refine ⟨_, rfl, i, rfl, _, rfl, iteF ⟨_, rfl, _, _, rfl, rfl, _, rfl, ifT e0 ⟨_, rfl, p, xs, rfl, .inl (.inl (.inl p1)), _, _, rfl, rfl, _, rfl, ifF (by rw [e1]; rfl) ?_⟩⟩⟩
    refine ⟨_, rfl, a, dx, _, rfl, s1 _ _ ha1, rfl, _, rfl, _, rfl, _, rfl, _, rfl, p, xs, rfl, .inl (.inl p1), ?_⟩
    rw [cutV_to]
    intro p0 h0
    have s2 : Same H1 (upd H1 p0 (.lst (xs.take i))) := same_new _ h0
    have q0 : (upd H1 p0 (.lst (xs.take i))) p0 = some (.lst (xs.take i)) := upd_same
    generalize upd H1 p0 (.lst (xs.take i)) = H2 at *
    refine ⟨_, rfl, _, rfl, _, _, rfl, rfl, _, rfl, p, xs, rfl, .inl (.inl (s2 _ _ p1)), ?_⟩
    have e2 : cutV xs (some (((i : Nat) : Int) + 1)) none = xs.drop (i + 1) := cutV_from xs (i + 1) (by omega)
    rw [e2]
    intro p2 h2
    have s3 : Same H2 (upd H2 p2 (.lst (xs.drop (i + 1)))) := same_new _ h2
    have q2 : (upd H2 p2 (.lst (xs.drop (i + 1)))) p2 = some (.lst (xs.drop (i + 1))) := upd_same
    generalize upd H2 p2 (.lst (xs.drop (i + 1))) = H3 at *
    refine ⟨p0, p2, _, _, rfl, rfl, s3 _ _ q0, q2, (by rw [List.length_take, List.length_drop]; exact Nat.le_of_lt (Nat.lt_of_le_of_lt (show min i xs.length + (xs.length - (i + 1)) ≤ 2000 by omega) (by decide))), fun q hq => ?_⟩
    have s4 : Same H3 (upd H3 q (.lst (xs.take i ++ xs.drop (i + 1)))) := same_new _ hq
    have sA := s1.trans (s2.trans (s3.trans s4))
    have gr : RsOk ((g n).take i ++ (g n).drop (i + 1)) := by
      have z := gok n
      refine ⟨by rw [List.length_append, List.length_take, List.length_drop]; have y := z.len; omega, fun r m => z.wid r ?_, fun r m => z.val r ?_⟩ <;>
      · rcases List.mem_append.mp m with m | m
        · exact List.mem_of_mem_take m
        · exact List.mem_of_mem_drop m
    refine ⟨F0, a, q, n, true, ts, g, _, rfl, sF.trans sA, st, ok, gok, gr, hn, .lst (.inl (.inl upd_same)) ?_, gno, kO.sub sA⟩
    rw [List.map_append, List.map_take, List.map_drop]
    exact dpA_mono sA _ _ (dpA_app (dpA_take i dxs) (dpA_drop (i + 1) dxs))
end
end Fm

/-! ## K07G -/
set_option Elab.async false
set_option maxRecDepth 100000
set_option maxHeartbeats 4000000
namespace Fm
open PySem L2
section
variable {K : PySem.W.Frag}
/-- a comprehension that makes new data of each item -/
theorem lc_fresh {J : It} {G : Hp → Prop} {xs : List V} {ds : List PyData} {H : Hp} {D : Addr} {σ : St} {vs : List Nat} {j : Nat} {te : TE} {Qd : Hp → Prop} (f : PyData → PyData) (wk : Walk J xs.length G (YAt xs)) (gm : ∀ H', Same H H' → G H') (hD : H D = none) (ha : DpAll K H xs ds)
    (hl : ds.length ≤ 100000) (hw : ∀ x, wipe ((wipe σ vs).set j (some x)) vs = wipe σ vs)
    (he : ∀ x c H' (Q : VK), c ∈ ds → Dp K H' x c → (∀ v' H2 N, Same H' H2 → Fresh H' H2 N → Dp K N v' (f c) → Q v' H2) → te ((wipe σ vs).set j (some x)) H' Q)
    (hd : ∀ H2 ys N, Same H H2 → H2 D = some (.lst ys) → Fresh H H2 N → N D = none → DpAll K N ys (ds.map f) → Qd H2) :
    ∃ W : Nat → Nat → Hp → Prop, (∃ m, W 0 m (upd H D (.lst []))) ∧ ∀ i m H, W i m H →
      (J.stop i H ∧ Qd H) ∨ (J.go i H ∧ ∃ Nx : Hp → Prop, (∀ H', Nx H' → ∃ m', m' < m ∧ W (i + 1) m' H') ∧ ∀ x H', J.yld i H x H' → (gName j) x (wipe σ vs) H' fun σ2 H2 => wipe σ2 vs = wipe σ vs ∧ tYes σ2 H2 fun b H3 =>
        if b = true then te σ2 H3 fun y H4 => ∃ acc, H4 D = some (.lst acc) ∧ acc.length < sizeLine ∧ Nx (upd H4 D (.lst (acc ++ [y]))) else Nx H3) := by
  have len := dpA_len ha
  refine lc_it wk (fun i H' => Same H H' ∧ ∃ ys N, H' D = some (.lst ys) ∧ ys.length ≤ 100000 ∧ i ≤ xs.length ∧ Fresh H H' N ∧ N D = none ∧ DpAll K N ys ((ds.take i).map f)) ⟨same_new _ hD, [], nil0, upd_same, Nat.zero_le _, Nat.zero_le _, fresh_nil, rfl, .nil⟩ (fun i H' _ z => gm H' z.1) ?_ ?_
  · rintro i x H2 H3 hi ⟨s2, ys, N, d2, yl, il, fr, nD, da⟩ ⟨rfl, hx⟩
    obtain ⟨c, hc, hxc⟩ := dpA_at ha hx
    refine ⟨hw x, ?_⟩
    show te _ _ _
    refine he x c H3 _ (List.mem_of_getElem? hc) (dp_mono s2 c x hxc) fun v' H4 M s4 fm dm => ?_
    have n4 : M D = none := by
      cases q : M D with
      | none => rfl
      | some o =>
        have z := (fm D o q).1
        rw [d2] at z
        cases z
    have fu := fresh_uni fr fm s2 s4
    have yi : ys.length = i := by
      have q := dpA_len da
      rw [List.length_map, List.length_take] at q
      omega
    refine ⟨ys, s4 _ _ d2, Nat.lt_of_le_of_lt yl (by decide), same_put (s2.trans s4) _ hD, ys ++ [v'], uni N M, upd_same, ?_, hi, ?_, ?_, ?_⟩
    · rw [List.length_append, List.length_singleton, yi]
      omega
    · intro b o q
      have nb : b ≠ D := fun z => by
        rw [z] at q
        rcases uni_or q with q | ⟨_, q⟩
        · rw [nD] at q; cases q
        · rw [n4] at q; cases q
      rw [upd_ne nb]
      exact fu b o q
    · show uni N M D = none
      unfold uni
      rw [nD]
      exact n4
    · rw [map_take _ hc]
      exact dpA_snoc (dpA_mono same_uni _ _ da) (dp_mono (same_uni2 fr fm) _ _ dm)
  · rintro H2 ⟨s2, ys, N, d2, yl, il, fr, nD, da⟩
    rw [len, List.take_length] at da
    exact hd H2 ys N s2 d2 fr nD da
theorem lst_ty {H : Hp} {a : Addr} {xs : List V} (h : SqL K H a xs) : TyX K H (.ref a) (.type "list") := by
  rcases h with (h | ⟨o, h⟩) | ⟨o, its, n, h, hc, _⟩
  · exact .base (.lst h)
  · exact .base (.frz h)
  · exact .kList h hc
theorem tuT_ty {H : Hp} {a : Addr} {xs : List V} (h : SqT K H a xs) : TyX K H (.ref a) (.type "tuple") := by
  rcases h with (h | ⟨o, h⟩) | ⟨o, its, n, h, hc, _⟩
  · exact .base (.tup h)
  · exact .fTuple h
  · exact .kTuple h hc
theorem kB {a b : String} {r : Bool} (h : kitB a b = some r) : PySem.W.kitOne K (.type a) (.type b) = some r := kit_ty h
theorem flat_all {v : V} (h : flatV v = true) : ∃ n b, (∀ H : Hp, TyX K H v (.type n)) ∧ PySem.W.kitAny K (.type n) [.type "list", .type "tuple"] = some false ∧ PySem.W.kitOne K (.type n) (.type "list") = some false ∧ PySem.W.kitOne K (.type n) (.type "tuple") = some false ∧
    PySem.W.kitOne K (.type n) (.type "dict") = some false ∧ PySem.W.kitOne K (.type n) (.type "bool") = some b ∧ scal v v = true := by
  have two : ∀ n, kitB n "list" = some false → kitB n "tuple" = some false → PySem.W.kitAny K (.type n) [.type "list", .type "tuple"] = some false := fun n a b =>
    kitAny_cons (b := false) (kit_ty a) (fun _ => kitAny_cons (b := false) (kit_ty b) (fun _ => rfl) fun z => nomatch z) fun z => nomatch z
  cases v with
  | non => exact ⟨_, false, fun _ => .base .non, two _ (by decide +kernel) (by decide +kernel), kB (by decide +kernel), kB (by decide +kernel), kB (by decide +kernel), kB (by decide +kernel), rfl⟩
  | bl b => exact ⟨_, true, fun _ => .base (.bl b), two _ (by decide +kernel) (by decide +kernel), kB (by decide +kernel), kB (by decide +kernel), kB (by decide +kernel), kB (by decide +kernel), rfl⟩
  | int i => exact ⟨_, false, fun _ => .base (.int i), two _ (by decide +kernel) (by decide +kernel), kB (by decide +kernel), kB (by decide +kernel), kB (by decide +kernel), kB (by decide +kernel), rfl⟩
  | str s => exact ⟨_, false, fun _ => .base (.str s), two _ (by decide +kernel) (by decide +kernel), kB (by decide +kernel), kB (by decide +kernel), kB (by decide +kernel), kB (by decide +kernel), rfl⟩
  | byt b => cases h
  | flt b => cases h
  | ref a => cases h
  | ty n => cases h
theorem ix_sq {H : Hp} {a : Addr} {xs : List V} {i : Int} {v : V} {Q : VK} (h : Sq K H a xs) (hv : atI xs i = some v) (q : Q v H) : rIx K (.ref a) (.int i) H Q := by
  rcases h with h | h
  · exact .inl ⟨a, xs, i, v, rfl, rfl, h, hv, q⟩
  · exact .inr (.inl ⟨a, xs, i, v, rfl, rfl, h, hv, q⟩)
theorem dp_flat {H H' : Hp} {d : PyData} {v w : V} (hf : flatV v = true) (h1 : Dp K H v d) (h2 : Dp K H' w d) : w = v := by
  cases h1 <;> first | (cases h2; rfl) | cases hf
end
section
variable {P : Program} {w : World} {K : PySem.W.Frag} {mg : Str → Option Value} {base : Heap} {CS : Addr}
def spAlike (K : PySem.W.Frag) (n : Nat) : Sp := fun vs H Q _ => ∃ (v u : V) (d : PyData), vs = [v, u] ∧ Dp K H v d ∧ Dp K H u d ∧ Dn n d ∧ ∀ H', Same H H' → Q (.bl true) H'
abbrev s_l_alike : Stmt := topS 35
abbrev sc_l_alikeN : List Str := ["_law_one", "_law_other", "_law_k", "_law_key"]
abbrev ps_l_alike : List Str := ["_law_one", "_law_other"]
theorem sc_l_alike : FnScope sc_l_alikeN ps_l_alike (defScope s_l_alike) := ⟨rfl, rfl, rfl, by decide +kernel, rfl, by decide +kernel, by decide +kernel⟩
theorem ok_l_alike {f : Addr} {fd : FuncData} (F : Fun K "_law_alike" "_law_alike" s_l_alike f fd) (T : Txt K mg CS) (hm : mg "_law_alike" = some (.ref f)) (hb : Binds K fd ps_l_alike []) : ∀ n, FnOk P w K mg base CX0 n f fd ps_l_alike (spAlike K n)
  | 0 => fn_no fun vs H Q E h => by
    obtain ⟨_, _, d, _, _, _, hd, _⟩ := h
    cases hd
  | n + 1 => by
    have D_l_alike : Df P w K mg base "_law_alike" n ps_l_alike (spAlike K n) := ⟨f, fd, ok_l_alike F T hm hb n, hm, F.kp, hb⟩
    refine F.ok sc_l_alike (fun vs H Q E h => ?_) (fun cdv A outer s H vs Q E hr h => ?_)
    · obtain ⟨_, _, _, rfl, _⟩ := h
      rfl
    · obtain ⟨v, u, d, rfl, hv, hu, hd, k⟩ := h
      refine ⟨_, (pss_cons (ps_if (pt_val (pe_callB call_isiT (by rfl) T.n_isinstance (by decide +kernel) (pa_cons (pv 0) (pa_cons (pe_tup (pa_cons (pe_bltn (v := .ty "list") (by rfl) T.n_list (by decide +kernel) rfl) (pa_cons (pe_bltn (v := .ty "tuple") (by rfl) T.n_tuple (by decide +kernel) rfl) pa_nil))) pa_nil))))
    (pss_cons (ps_if (PW.pt (pw_or (pt_cmpR op_ne (pe_callB call_isi (by rfl) T.n_isinstance (by decide +kernel) (pa_cons (pv 0) (pa_cons (pe_bltn (v := .ty "list") (by rfl) T.n_list (by decide +kernel) rfl) pa_nil))) (pe_callB call_isi (by rfl) T.n_isinstance (by decide +kernel) (pa_cons (pv 1) (pa_cons (pe_bltn (v := .ty "list") (by rfl) T.n_list (by decide +kernel) rfl) pa_nil))) (nomark _)) (pw_or1 (pt_cmpR op_ne (pe_callB call_isi (by rfl) T.n_isinstance (by decide +kernel) (pa_cons (pv 0) (pa_cons (pe_bltn (v := .ty "tuple") (by rfl) T.n_tuple (by decide +kernel) rfl) pa_nil))) (pe_callB call_isi (by rfl) T.n_isinstance (by decide +kernel) (pa_cons (pv 1) (pa_cons (pe_bltn (v := .ty "tuple") (by rfl) T.n_tuple (by decide +kernel) rfl) pa_nil))) (nomark _)))))
      (pss_one (ps_ret pe_bl))
      pss_nil)
    (pss_cons (ps_if (pt_cmpR op_ne (pe_callB call_len_seq (by rfl) T.n_len (by decide +kernel) (pa_cons (pv 0) pa_nil)) (pe_callB call_len_seq (by rfl) T.n_len (by decide +kernel) (pa_cons (pv 1) pa_nil)) (nomark _))
      (pss_one (ps_ret pe_bl))
      pss_nil)
    (pss_one (ps_ret (pe_callB (cr_all (by rfl)) (by rfl) T.n_all (by decide +kernel) (pa_cons (pe_lc (own := [("_law_k", 2)]) (g := gName 2) (tt := tYes) (by rfl) sc_l_alike.nd (pi_range1 (by rfl) T.n_range (pa_cons (pe_callB call_len_seq (by rfl) T.n_len (by decide +kernel) (pa_cons (pv 0) pa_nil)) pa_nil)) (blkOk_by (own := [("_law_k", 2)]) (N := sc_l_alikeN) (sc := defScope s_l_alike) (by decide +kernel)) (fun _ _ _ _ _ => pg_name (i := 2) sc_l_alike.nd rfl (Or.inl rfl)) (fun _ _ _ _ _ => pts_nil) (fun _ _ _ _ _ => (pe_d D_l_alike hr (pa_cons (pe_ix (ixK_seq (K := K)) (pv 0) (pv 2) (fun _ _ => rfl)) (pa_cons (pe_ix (ixK_seq (K := K)) (pv 1) (pv 2) (fun _ _ => rfl)) pa_nil))))) pa_nil))))))
    pss_nil)
  (pss_cons (ps_if (PW.pt (pw_and (pt_val (pe_callB call_isi (by rfl) T.n_isinstance (by decide +kernel) (pa_cons (pv 0) (pa_cons (pe_bltn (v := .ty "dict") (by rfl) T.n_dict (by decide +kernel) rfl) pa_nil)))) (pw_and1 (pt_val (pe_callB call_isi (by rfl) T.n_isinstance (by decide +kernel) (pa_cons (pv 1) (pa_cons (pe_bltn (v := .ty "dict") (by rfl) T.n_dict (by decide +kernel) rfl) pa_nil))))))) pss_never pss_nil)
  (pss_one (ps_ret (pe_and (pe_cmpR op_eq (pe_callB call_isi (by rfl) T.n_isinstance (by decide +kernel) (pa_cons (pv 0) (pa_cons (pe_bltn (v := .ty "bool") (by rfl) T.n_bool (by decide +kernel) rfl) pa_nil))) (pe_callB call_isi (by rfl) T.n_isinstance (by decide +kernel) (pa_cons (pv 1) (pa_cons (pe_bltn (v := .ty "bool") (by rfl) T.n_bool (by decide +kernel) rfl) pa_nil))) (nomark _)) (pe_one (pe_cmpR op_eq (pv 0) (pv 1) (nomark _)))))))), ?_⟩
      refine ⟨_, rfl, (by show 2 ≤ sizeLine; decide), fun tp htp => ?_⟩
      have s1 : Same H (upd H tp (.tup [.ty "list", .ty "tuple"])) := same_new _ htp
      have hv1 := dp_mono s1 _ _ hv
      have hu1 := dp_mono s1 _ _ hu
      have up : (upd H tp (.tup [.ty "list", .ty "tuple"])) tp = some (.tup [.ty "list", .ty "tuple"]) := upd_same
      generalize upd H tp (.tup [.ty "list", .ty "tuple"]) = H1 at *
      rcases dp_ty hv1 hd with ⟨a, xs, ds, rfl, hs, ha, hn, hl, hd2⟩ | ⟨hf, e, hv2⟩
      · -- two rows of one kind
        obtain ⟨c, ys, tn, bL, bT, rfl, hs2, ha2, ty1, ty2, kA, kL, kT⟩ : ∃ c ys tn bL bT, u = .ref c ∧ Sq K H1 c ys ∧ DpAll K H1 ys ds ∧ TyX K H1 (.ref a) (.type tn) ∧ TyX K H1 (.ref c) (.type tn) ∧ PySem.W.kitAny K (.type tn) [.type "list", .type "tuple"] = some true ∧
            PySem.W.kitOne K (.type tn) (.type "list") = some bL ∧ PySem.W.kitOne K (.type tn) (.type "tuple") = some bT := by
          rcases hd2 with ⟨rfl, hL⟩ | ⟨rfl, hT⟩
          · cases hu1 with
            | lst h1 h2 => exact ⟨_, _, "list", true, false, rfl, .inl h1, h2, lst_ty hL, lst_ty h1, kitAny_cons (b := true) (kB (by decide +kernel)) (fun z => nomatch z) fun _ => rfl, kB (by decide +kernel), kB (by decide +kernel)⟩
          · cases hu1 with
            | tup h1 h2 => exact ⟨_, _, "tuple", false, true, rfl, .inr h1, h2, tuT_ty hT, tuT_ty h1, kitAny_cons (b := false) (kB (by decide +kernel)) (fun _ => kitAny_cons (b := true) (kB (by decide +kernel)) (fun z => nomatch z) fun _ => rfl) (fun z => nomatch z), kB (by decide +kernel), kB (by decide +kernel)⟩
        have l1 := dpA_len ha
        have l2 := dpA_len ha2
        have same : ∀ v : V, (!decide (v = v)) = false := fun v => by simp
        refine ⟨_, tp, _, _, _, _, rfl, up, clsLT, ty1, kA, _, rfl, iteT ?_⟩
        refine ⟨_, rfl, _, _, _, _, _, rfl, .ty _, ty1, kL, _, rfl, _, _, _, _, _, rfl, .ty _, ty2, kL, rfl, _, rfl, ifF (same _) ?_⟩
        refine ⟨_, rfl, _, _, _, _, _, rfl, .ty _, ty1, kT, _, rfl, _, _, _, _, _, rfl, .ty _, ty2, kT, rfl, _, rfl, ifF (same _) ?_⟩
        refine ⟨_, rfl, a, xs, rfl, hs, _, rfl, c, ys, rfl, hs2, rfl, _, rfl, ifF (by rw [l1, l2]; exact same _) ?_⟩
        refine ⟨_, rfl, a, xs, rfl, hs, _, rfl, by omega, by omega, fun D hD => ?_⟩
        refine lc_range (lo := 0) (n := xs.length) (fun i H' => Same H1 H' ∧ H' D = some (.lst ((xs.take i).map fun _ => V.bl true))) ⟨same_new _ hD, by rw [upd_same]; rfl⟩ ?_ ?_
        · rintro i H2 hi ⟨s2, d2⟩
          have hx : xs[i]? = some xs[i] := List.getElem?_eq_getElem hi
          have hy : ys[i]? = some (ys[i]'(by omega)) := List.getElem?_eq_getElem _
          obtain ⟨d1, e1, q1⟩ := dpA_at ha hx
          obtain ⟨d3, e3, q3⟩ := dpA_at ha2 hy
          obtain rfl : d1 = d3 := by rw [e1] at e3; exact Option.some.inj e3
          refine ⟨rfl, _, rfl, _, rfl, ix_sq (Sq.same hs s2) (by rw [Int.zero_add]; exact atI_nat hx) ?_⟩
          refine ⟨_, rfl, _, rfl, ix_sq (hs2.same s2) (by rw [Int.zero_add]; exact atI_nat hy) ?_⟩
          refine ⟨_, _, d1, rfl, dp_mono s2 _ _ q1, dp_mono s2 _ _ q3, hn d1 (List.mem_of_getElem? e1), fun H4 s4 => ?_⟩
          refine ⟨_, s4 _ _ d2, take_lt _ (by omega), same_put (s2.trans s4) _ hD, ?_⟩
          rw [upd_same, map_take _ hx]
        · rintro H2 ⟨s2, d2⟩
          rw [List.take_length, bl_map] at d2
          refine ⟨D, _, rfl, .inl (.inl d2), ?_⟩
          have e3 : (xs.map fun _ => true).all id = true := by
            rw [List.all_map]
            simp
          rw [e3]
          exact k _ (s1.trans s2)
      · obtain rfl := dp_flat hf hv1 hu1
        obtain ⟨tn, b, ty, k0, k1, k2, k3, k4, sc⟩ := flat_all (K := K) hf
        refine ⟨_, tp, _, _, _, _, rfl, up, clsLT, ty _, k0, _, rfl, iteF ?_⟩
        refine ⟨_, rfl, _, _, _, _, _, rfl, .ty _, ty _, k3, _, rfl, iteF (iteF ?_)⟩
        refine ⟨_, rfl, _, _, _, _, _, rfl, .ty _, ty _, k4, _, rfl, _, _, _, _, _, rfl, .ty _, ty _, k4, rfl, _, rfl, ifT (decide_eq_true rfl) ?_⟩
        refine ⟨_, rfl, _, rfl, sc, ?_⟩
        rw [decide_eq_true rfl]
        exact k _ s1
end
end Fm

/-! ## K07H -/
set_option Elab.async false
set_option maxRecDepth 100000
set_option maxHeartbeats 4000000
namespace Fm
open PySem L2
section
variable {P : Program} {w : World} {K : PySem.W.Frag} {mg : Str → Option Value} {base : Heap} {CS CT CR CN CM : Addr}
def spValue : Sp := fun vs H Q _ => ∃ (F : Hp) (b : Addr), vs = [.ref b] ∧ Bag F H b ∧ ∀ (z : Int) (H' : Hp), -1000000000 ≤ z → z ≤ 1000000000 → Bag F H' b → Q (.int z) H'
abbrev s_l_value : Stmt := topS 33
abbrev sc_l_valueN : List Str := ["_law_bag_here", "_law_number"]
abbrev ps_l_value : List Str := ["_law_bag_here"]
theorem sc_l_value : FnScope sc_l_valueN ps_l_value (defScope s_l_value) := ⟨rfl, rfl, rfl, by decide +kernel, rfl, by decide +kernel, by decide +kernel⟩
theorem ok_l_value {f : Addr} {fd : FuncData} (F : Fun K "_law_value" "_law_value" s_l_value f fd) (T : Txt K mg CS) (D_l_pick : Df P w K mg base "_law_pick" 1 ps_l_pick spPick) : FnOk P w K mg base CX0 2 f fd ps_l_value spValue := by
  refine F.ok sc_l_value (fun vs H Q E h => ?_) (fun cdv A outer s H vs Q E hr h => ?_)
  · obtain ⟨_, _, rfl, _⟩ := h
    rfl
  · obtain ⟨F0, b, rfl, B, k⟩ := h
    refine ⟨_, (pss_cons (ps_if (pt_cmpR op_eq (pe_d D_l_pick (hr.mono (by decide)) (pa_cons (pv 0) (pa_cons pe_int pa_nil))) pe_int (nomark _))
    (pss_cons (ps_set (i := 1) sc_l_value.nd rfl (Or.inl rfl) (pe_op op_mul (pe_d D_l_pick (hr.mono (by decide)) (pa_cons (pv 0) (pa_cons pe_int pa_nil))) pe_int))
    (pss_one (ps_ret (pe_op op_sub (pe_op op_modN (pe_callTy call_int1 (by rfl) T.n_int (by decide +kernel) (pa_cons (pe_op op_add (pv 1) (pe_d D_l_pick (hr.mono (by decide)) (pa_cons (pv 0) (pa_cons pe_int pa_nil)))) pa_nil)) (pe_op op_add (pe_op op_mul pe_int (pe_op op_pow pe_int pe_int)) pe_int)) (pe_op op_pow pe_int pe_int)))))
    pss_nil)
  (pss_one (ps_ret (pe_op op_sub (pe_d D_l_pick (hr.mono (by decide)) (pa_cons (pv 0) (pa_cons pe_int pa_nil))) pe_int)))), ?_⟩
    refine ⟨_, rfl, F0, b, 8, rfl, by decide, by decide, B, fun r0 H1 a0 a1 B1 => ⟨rfl, _, rfl, ifd (fun _ => ?_) fun _ => ?_⟩⟩
    · refine ⟨_, rfl, F0, b, 44722, rfl, by decide, by decide, B1, fun r1 H2 b0 b1 B2 => ⟨_, _, rfl, rfl, ?_⟩⟩
      have lo : ∀ m : Int, 0 ≤ m.fmod 2000000001 ∧ m.fmod 2000000001 < 2000000001 := fun m => ⟨fmod_lo (by decide), fmod_hi (by decide)⟩
      refine ⟨.inl ⟨by omega, by omega⟩, ?_⟩
      refine ⟨_, rfl, _, rfl, F0, b, 44722, rfl, by decide, by decide, B2, fun r2 H3 c0 c1 B3 => ⟨_, _, rfl, rfl, .inl ⟨_, rfl, ?_⟩⟩⟩
      refine ⟨_, _, rfl, rfl, ⟨by decide, by decide⟩, _, _, rfl, rfl, .inl ⟨by decide, by decide⟩, _, _, rfl, rfl, _, _, rfl, rfl, (by show (2 : Int) * 10 ^ (9 : Int).toNat + 1 ≠ 0; decide), _, _, rfl, rfl, ⟨by decide, by decide⟩, _, _, rfl, rfl, ?_⟩
      have z := lo (r1 * 44722 + r2)
      have e : ((2 : Int) * 10 ^ (9 : Int).toNat + 1) = 2000000001 := by decide
      show Q (V.int ((r1 * 44722 + r2).fmod (2 * 10 ^ (9 : Int).toNat + 1) - 10 ^ (9 : Int).toNat)) H3
      rw [e, show ((10 : Int) ^ (9 : Int).toNat) = 1000000000 by decide]
      exact k _ _ (by omega) (by omega) B3
    · refine ⟨_, rfl, F0, b, 5, rfl, by decide, by decide, B1, fun r1 H2 b0 b1 B2 => ⟨_, _, rfl, rfl, ?_⟩⟩
      exact k _ _ (by omega) (by omega) B2
end
end Fm

/-! ## K07I -/
set_option Elab.async false
set_option maxRecDepth 100000
set_option maxHeartbeats 4000000
namespace Fm
open PySem L2
section
variable {P : Program} {w : World} {K : PySem.W.Frag} {mg : Str → Option Value} {base : Heap} {CS CT CR CN CM : Addr}
/-- the law's own rows: a list for each table -/
def RwAt (K : PySem.W.Frag) (H : Hp) (rw : Addr) (ts : List Tab) (g : Str → List Row) : Prop := ∃ kvs : List (Key × V), H rw = some (.dK kvs) ∧ ∀ t ∈ ts, ∃ v, valV kvs (Sum.inr t.1) = some v ∧ Dp K H v (rowsD true (g t.1))
def spTells (K : PySem.W.Frag) (CS CT : Addr) : Sp := fun vs H Q _ => ∃ (st tb rw : Addr) (ts : List Tab) (g : Str → List Row) (xs : List V), vs = [.ref st, .ref tb, .ref rw] ∧ StAt K CS CT H st ts g ∧ TsOk ts ∧ (∀ m, RsOk (g m)) ∧ H tb = some (.lst xs) ∧ DpAll K H xs (ts.map (tabD false)) ∧ RwAt K H rw ts g ∧ ∀ H', Same H H' → Q (.bl true) H'
abbrev s_l_tells : Stmt := topS 38
abbrev sc_l_tellsN : List Str := ["_law_store", "_law_tables_here", "_law_rows", "_law_name_here", "_law_fields"]
abbrev ps_l_tells : List Str := ["_law_store", "_law_tables_here", "_law_rows"]
theorem sc_l_tells : FnScope sc_l_tellsN ps_l_tells (defScope s_l_tells) := ⟨rfl, rfl, rfl, by decide +kernel, rfl, by decide +kernel, by decide +kernel⟩
theorem ok_l_tells {f : Addr} {fd : FuncData} (F : Fun K "_law_tells" "_law_tells" s_l_tells f fd) (T2 : Tx2 K mg CT CR CN CM) (D3a : Df P w K mg base "_law_alike" 3 ps_l_alike (spAlike K 3)) (D_rows_of : DmX P w K mg base CT "rows_of" 4 ps_Store_rows_of (spRowsOf K CS CT CN)) :
    FnOk P w K mg base CX0 5 f fd ps_l_tells (spTells K CS CT) := by
  refine F.ok sc_l_tells (fun vs H Q E h => ?_) (fun cdv A outer s H vs Q E hr h => ?_)
  · obtain ⟨_, _, _, _, _, _, rfl, _⟩ := h
    rfl
  · obtain ⟨st, tb, rw, ts, g, xs, rfl, hst, ok, gok, htb, dx, ⟨kvs, hrw, val⟩, k⟩ := h
    refine ⟨_, (pss_cons (ps_for PassesOwn.never rfl (pi_list (pv 1)) (pg_tup (by rfl) (pgs_cons (pg_name (i := 3) sc_l_tells.nd rfl (Or.inl rfl)) (pgs_cons (pg_name (i := 4) sc_l_tells.nd rfl (Or.inl rfl)) pgs_nil)))
    (pss_one (ps_if (pt_not (pt_val (pe_d D3a (hr.mono (by decide)) (pa_cons (pe_dmE (W := fun _ _ _ _ => False) (pv 0) T2.clT D_rows_of (hr.mono (by decide)) takes0 (pa_cons (pv 3) pa_nil)) (pa_cons (pe_dget (Nat.lt_of_le_of_lt (Nat.add_le_add_left (by decide) _) hr.units) (pv 2) (pv 3) (fun _ _ => rfl)) pa_nil)))))
      (pss_one (ps_ret pe_bl))
      pss_nil)))
  (pss_one (ps_ret pe_bl))), ?_⟩
    have lx : xs.length = ts.length := by rw [dpA_len dx, List.length_map]
    refine ⟨_, rfl, tb, rfl, ⟨_, .inl (.inl htb)⟩, for_list (K := K) (a := tb) (xs := xs) (fun i σ H' => ∃ v3 v4, σ = [some (.ref st), some (.ref tb), some (.ref rw), v3, v4] ∧ Same H H') ⟨_, _, rfl, Same.refl _⟩ (fun i σ H' _ z => by obtain ⟨_, _, _, s⟩ := z; exact .inl (.inl (s _ _ htb))) ?_ ?_⟩
    · rintro i x σ H2 hx ⟨v3, v4, rfl, s2⟩
      obtain ⟨c, hc, hxc⟩ := dpA_at dx hx
      rw [List.getElem?_map] at hc
      obtain ⟨t, ht, rfl⟩ := Option.map_eq_some_iff.mp hc
      have mt := List.mem_of_getElem? ht
      obtain ⟨p, q, rfl, hp, _⟩ := tab_inv (dp_mono s2 _ _ hxc)
      obtain ⟨ds, sh, rd, hs, _⟩ := id hst
      obtain ⟨v, hv, dv⟩ := val t mt
      refine ⟨p, _, rfl, hp, rfl, _, _, rfl, _, _, rfl, rfl, ?_⟩
      refine ⟨_, rfl, st, ds, _, rfl, s2 _ _ hs, rfl, _, rfl, st, t.1, ts, g, rfl, hst.same s2, ok, fun _ p2 ys hp2 dys => ?_, fun no => absurd (List.mem_map.mpr ⟨t, mt, rfl⟩) no⟩
      have s3 : Same H2 (upd H2 p2 (.lst ys)) := same_new _ hp2
      refine ⟨_, rfl, _, rfl, rw, v, rfl, .inl ⟨kvs, _, .inl ((s2.trans s3) _ _ hrw), rfl, hv.symm⟩, ?_⟩
      refine ⟨_, _, rowsD true (g t.1), rfl, .lst (.inl (.inl upd_same)) (dpA_mono s3 _ _ dys), dp_mono (s2.trans s3) _ _ dv, dn_rows (gok t.1), fun H4 s4 => ⟨_, rfl, iteF ⟨_, _, rfl, s2.trans (s3.trans s4)⟩⟩⟩
    · rintro σ H2 ⟨v3, v4, rfl, s2⟩
      exact k H2 s2
end
end Fm

/-! ## K07J -/
set_option Elab.async false
set_option maxRecDepth 100000
set_option maxHeartbeats 4000000
namespace Fm
open PySem L2
/-! ### rows are dealt -/
theorem row_move {K : PySem.W.Frag} {F G : Hp} {v : V} {r : Row} (h : Dp K F v (rowD r)) (s : ∀ a o, F a = some o → (∀ kvs, o ≠ .dK kvs) → G a = some o) : Dp K G v (rowD r) := by
  cases h with
  | tup sq da =>
    have e := dpA_ints_inv da
    subst e
    have di : DpAll K G (r.map V.int) (r.map PyData.int) := by
      clear da sq
      induction r with
      | nil => exact .nil
      | cons x xs ih => exact .cons (.int x) ih
    rcases sq with (e | ⟨o, e⟩) | z
    · exact .tup (.inl (.inl (s _ _ e fun _ q => by cases q))) di
    · exact .tup (.inl (.inr ⟨o, s _ _ e fun _ q => by cases q⟩)) di
    · exact .tup (.inr z) di
theorem rows_move {K : PySem.W.Frag} {F G : Hp} (s : ∀ a o, F a = some o → (∀ kvs, o ≠ .dK kvs) → G a = some o) : ∀ {vs : List V} {S : List Row}, DpAll K F vs (S.map rowD) → DpAll K G vs (S.map rowD)
  | _, [], h => by
    cases h
    exact .nil
  | _, r :: S, h => by
    cases h with
    | cons h1 h2 => exact .cons (row_move h1 s) (rows_move s h2)
theorem dpA_rep {K : PySem.W.Frag} {F : Hp} {vs : List V} {ds : List PyData} (h : DpAll K F vs ds) : ∀ c : Nat, DpAll K F (List.replicate c vs).flatten (List.replicate c ds).flatten
  | 0 => .nil
  | c + 1 => by
    rw [List.replicate_succ, List.replicate_succ, List.flatten_cons, List.flatten_cons]
    exact dpA_app h (dpA_rep h c)
theorem dpA_ints {K : PySem.W.Frag} {H : Hp} : ∀ xs : List Int, DpAll K H (xs.map V.int) (xs.map PyData.int)
  | [] => .nil
  | x :: xs => .cons (.int x) (dpA_ints xs)
theorem flat_take {α : Type} {S : List α} (h : 1 ≤ S.length) (c : Nat) : (((List.replicate c S).flatten).take c).length = c := by
  have e : ((List.replicate c S).flatten).length = c * S.length := by simp
  rw [List.length_take, e]
  have z : c * 1 ≤ c * S.length := Nat.mul_le_mul_left c h
  omega
theorem flat_mem {α : Type} {S : List α} {c : Nat} {x : α} (h : x ∈ ((List.replicate c S).flatten).take c) : x ∈ S := by
  have z := List.mem_of_mem_take h
  obtain ⟨l, hl, hx⟩ := List.mem_flatten.mp z
  rw [List.eq_of_mem_replicate hl] at hx
  exact hx
theorem map_flat {α β : Type} (f : α → β) (S : List α) (c : Nat) : ((List.replicate c S).flatten).map f = (List.replicate c (S.map f)).flatten := by
  rw [List.map_flatten, List.map_replicate]
theorem pi_tupK {X : Cx} {K : PySem.W.Frag} {tg l : Expr} {tl : TE} (hl : PE X l tl) (hK : X.K = K := by rfl) : PI X tg l (iTup K tl) := by
  subst hK
  exact pi_tup hl
def scDealt : Scope := { kind := .function, names := [((".0" : Str), .local), (("_law_k" : Str), .local), (("tuple" : Str), .globalImplicit), (("_law_bag_here" : Str), .cell), (("_law_fields" : Str), .cell)], isGenerator := false, isCoroutine := false }
section
variable {P : Program} {w : World} {K : PySem.W.Frag} {mg : Str → Option Value} {base : Heap} {CS CT CR CN CM : Addr}
structure RwOk (ts : List Tab) (g : Str → List Row) : Prop where
  ok : ∀ n, RsOk (g n)
  wid : ∀ t ∈ ts, ∀ r ∈ g t.1, r.length = t.2.length
  no : ∀ n, n ∉ ts.map (·.1) → g n = []
/-- a list of rows -/
def LsAt (K : PySem.W.Frag) (F : Hp) (v : V) (R : List Row) : Prop := ∃ p xs, v = .ref p ∧ F p = some (.lst xs) ∧ DpAll K F xs (R.map rowD)
theorem LsAt.same {F F' : Hp} {v : V} {R : List Row} (h : LsAt K F v R) (s : Same F F') : LsAt K F' v R := by
  obtain ⟨p, xs, e, h1, h2⟩ := h
  exact ⟨p, xs, e, s _ _ h1, dpA_mono s _ _ h2⟩
theorem LsAt.dp {F : Hp} {v : V} {R : List Row} (h : LsAt K F v R) : Dp K F v (rowsD true R) := by
  obtain ⟨p, xs, rfl, h1, h2⟩ := h
  exact .lst (.inl (.inl h1)) h2
/-- the law's own rows: a list for each table, and nothing beside -/
def Rw2 (K : PySem.W.Frag) (H : Hp) (rw : Addr) (ts : List Tab) (g : Str → List Row) : Prop := ∃ (kvs : List (Key × V)) (F : Hp), H rw = some (.dK kvs) ∧ kvs.map (·.1) = ts.map (fun t => (Sum.inr t.1 : Key)) ∧ Same F H ∧ F rw = none ∧ ∀ t ∈ ts, ∃ v, valV kvs (Sum.inr t.1) = some v ∧ LsAt K F v (g t.1)
def spDealt (K : PySem.W.Frag) : Sp := fun vs H Q _ => ∃ (F : Hp) (b p : Addr) (m : Nat) (ts : List Tab), vs = [.ref b, .ref p, .int m] ∧ Bag F H b ∧ TbAt K F p ts ∧ TsOk ts ∧ m ≤ 1000 ∧
  ∀ (rw : Addr) (g : Str → List Row) (F' H' : Hp), Bag F' H' b → Same F F' → F rw = none → Rw2 K F' rw ts g → RwOk ts g → total g ts = m → Q (.ref rw) H'
abbrev s_l_dealt : Stmt := topS 39
abbrev sc_l_dealtN : List Str := ["_law_bag_here", "_law_tables_here", "_law_many", "_law_rows", "_law_left", "_law_name_here", "_law_fields", "_law_count", "_law_k", "_law_field", "_law_some"]
abbrev ps_l_dealt : List Str := ["_law_bag_here", "_law_tables_here", "_law_many"]
theorem sc_l_dealt : FnScope sc_l_dealtN ps_l_dealt (defScope s_l_dealt) := ⟨rfl, rfl, rfl, by decide +kernel, rfl, by decide +kernel, by decide +kernel⟩
theorem ok_l_dealt {f : Addr} {fd : FuncData} (F : Fun K "_law_dealt" "_law_dealt" s_l_dealt f fd) (T : Txt K mg CS) (D_l_pick : Df P w K mg base "_law_pick" 1 ps_l_pick spPick) (D_l_value : Df P w K mg base "_law_value" 2 ps_l_value spValue) : FnOk P w K mg base CX0 3 f fd ps_l_dealt (spDealt K) := by
  refine F.ok sc_l_dealt (fun vs H Q E h => ?_) (fun cdv A outer s H vs Q E hr h => ?_)
  · obtain ⟨_, _, _, _, _, rfl, _⟩ := h
    rfl
  · obtain ⟨F0, b, p, m, ts, rfl, B, ⟨xs, hp, dx⟩, ok, hm, k⟩ := h
    refine ⟨_, (pss_cons (ps_set (i := 3) sc_l_dealt.nd rfl (Or.inl rfl) pe_dnewK)
  (pss_cons (ps_set (i := 4) sc_l_dealt.nd rfl (Or.inl rfl) (pv 2))
  (pss_cons (ps_for PassesOwn.never rfl (pi_list (pv 1)) (pg_tup (by rfl) (pgs_cons (pg_name (i := 5) sc_l_dealt.nd rfl (Or.inl rfl)) (pgs_cons (pg_name (i := 6) sc_l_dealt.nd rfl (Or.inr rfl)) pgs_nil)))
    (pss_cons (ps_set (i := 7) sc_l_dealt.nd rfl (Or.inl rfl) (pv 4))
    (Evl.pss_cut (ps_if (PW.pt (pw_and (pt_cmpR op_ne (pv 5) (pe_ix ix_tup (pe_ix ix_list (pv 1) (pe_un un_neg pe_int) (fun _ _ => rfl)) pe_int (fun _ _ => rfl)) (nomark _)) (pw_and1 (pt_cmpR op_gt (pe_d D_l_pick (hr.mono (by decide)) (pa_cons (pv 0) (pa_cons pe_int pa_nil))) pe_int (nomark _)))))
      (pss_one (ps_set (i := 7) sc_l_dealt.nd rfl (Or.inl rfl) (pe_d D_l_pick (hr.mono (by decide)) (pa_cons (pv 0) (pa_cons (pe_op op_add (pv 4) pe_int) pa_nil)))))
      pss_nil)
    (pss_cons (ps_setLc (i := 10) (own := [("_law_k", 8)]) (g := gName 8) (tt := tYes) (by rfl) sc_l_dealt.nd rfl rfl (sw_true rfl rfl rfl (by decide +kernel)) (pi_range1 (by rfl) T.n_range (pa_cons (pe_op op_add pe_int (pe_d D_l_pick (hr.mono (by decide)) (pa_cons (pv 0) (pa_cons pe_int pa_nil)))) pa_nil)) (blkOk_by (own := [("_law_k", 8)]) (N := sc_l_dealtN) (sc := defScope s_l_dealt) (by decide +kernel)) (fun _ _ _ _ _ => pg_name (i := 8) sc_l_dealt.nd rfl (Or.inl rfl)) (fun _ _ _ _ _ => pts_nil) (fun _ _ _ _ _ => (pe_callTy (cK_tuple_of (K := K)) (by rfl) T.n_tuple (by decide +kernel) (pa_cons (pe_lc (own := [("_law_field", 9)]) (g := gName 9) (tt := tYes) (by rfl) sc_l_dealt.nd (pi_tupK (K := K) (pv 6)) (blkOk_by (own := [("_law_field", 9)]) (N := sc_l_dealtN) (sc := scDealt) (by decide +kernel)) (fun _ _ _ _ _ => pg_name (i := 9) sc_l_dealt.nd rfl (Or.inl rfl)) (fun _ _ _ _ _ => pts_nil) (fun _ _ _ _ _ => (pe_d D_l_value (hr.mono (by decide)) (pa_cons (pv 0) pa_nil)))) pa_nil))))
    (pss_cons (ps_asg (pe_slice sl_list (pe_op op_rep (pv 10) (pv 7)) po_none (po_some (pv 7))) (pg_sub (pv 3) (pv 5) (set_dict (Nat.lt_of_le_of_lt (Nat.add_le_add_left (by decide) _) hr.units))))
    (pss_one (ps_set (i := 4) sc_l_dealt.nd rfl (Or.inl rfl) (pe_op op_sub (pv 4) (pv 7)))))))))
  (pss_one (ps_ret (pv 3)))))), ?_⟩
    have lx : xs.length = ts.length := by rw [dpA_len dx, List.length_map]
    intro rw hrw
    have f0 : F0 rw = none := B.fh.free hrw
    refine ⟨_, rfl, ?_⟩
    refine ⟨_, rfl, p, rfl, ⟨_, .inl (.inl ((B.new (.dK []) hrw).fh _ _ (by rw [upd_ne (ne_of_none hp f0)]; exact hp)))⟩, for_list (K := K) (a := p) (xs := xs) (fun i σ H' => ∃ (F1 : Hp) (kvs : List (Key × V)) (g : Str → List Row) (left : Nat) (v5 v6 v7 v8 v9 v10 : Option V),
      σ = [some (.ref b), some (.ref p), some (.int m), some (.ref rw), some (.int left), v5, v6, v7, v8, v9, v10] ∧ Same F0 F1 ∧ F1 rw = none ∧ Bag (upd F1 rw (.dK kvs)) H' b ∧ kvs.map (·.1) = (ts.take i).map (fun t => (Sum.inr t.1 : Key)) ∧
      (∀ t ∈ ts.take i, ∃ v, valV kvs (Sum.inr t.1) = some v ∧ LsAt K F1 v (g t.1)) ∧ RwOk (ts.take i) g ∧ total g (ts.take i) + left = m ∧ (i = ts.length → left = 0))
      ⟨F0, [], fun _ => [], m, _, _, _, _, _, _, rfl, Same.refl _, f0, B.new _ hrw, rfl, (fun t z => by cases z), ⟨fun _ => ⟨Nat.zero_le _, (fun _ z => by cases z), (fun _ z => by cases z)⟩, (fun _ z => by cases z), fun _ _ => rfl⟩, (by show 0 + m = m; omega), fun z => by have y := ok.lo; omega⟩ ?_ ?_ ?_⟩
    · rintro i σ H' _ ⟨F1, kvs, g, left, _, _, _, _, _, _, rfl, s1, f1, B1, _⟩
      exact .inl (.inl (B1.fh _ _ (by rw [upd_ne (ne_of_none hp f0)]; exact s1 _ _ hp)))
    · rintro i x σ H1 hx ⟨F1, kvs, g, left, v5, v6, v7, v8, v9, v10, rfl, s1, f1, B1, ek, val, ro, tot, lz⟩
      have toH : Same F0 H1 := (same_put s1 _ f0).trans B1.fh
      obtain ⟨c, hc, hxc⟩ := dpA_at dx hx
      rw [List.getElem?_map] at hc
      obtain ⟨t, ht, rfl⟩ := Option.map_eq_some_iff.mp hc
      obtain ⟨p1, q1, rfl, hp1, _, _, hq⟩ := tab_inv hxc
      have hq1 := hq rfl
      obtain ⟨u, tl, hu, du, hlast⟩ : ∃ u tl, atI xs (-1) = some u ∧ Dp K F0 u (tabD false tl) ∧ (i + 1 = ts.length → tl = t) := by
        have ne : xs ≠ [] := fun z => by rw [z] at lx; have y := ok.lo; simp at lx; omega
        have at1 : atI xs (-1) = some (xs.getLast ne) := by
          have z := atI_last xs.dropLast (xs.getLast ne)
          rw [List.dropLast_concat_getLast ne] at z
          exact z
        have g1 : xs[xs.length - 1]? = some (xs.getLast ne) := by rw [List.getLast_eq_getElem]; exact List.getElem?_eq_getElem _
        obtain ⟨c, hc, hxc⟩ := dpA_at dx g1
        rw [List.getElem?_map] at hc
        obtain ⟨tl, htl, rfl⟩ := Option.map_eq_some_iff.mp hc
        refine ⟨_, tl, at1, hxc, fun z => ?_⟩
        have y : xs.length - 1 = i := by omega
        rw [y, ht] at htl
        exact (Option.some.inj htl).symm
      obtain ⟨p2, q2, rfl, hp2, _⟩ := tab_inv du
      refine ⟨p1, _, rfl, same_sqT toH hp1, rfl, _, _, rfl, _, _, rfl, rfl, ?_⟩
      refine ⟨_, rfl, ?_⟩
      refine ⟨fun σ' H' => ∃ cc : Nat, σ' = [some (.ref b), some (.ref p), some (.int m), some (.ref rw), some (.int left), some (.str t.1), some (.ref q1), some (.int cc), v8, v9, v10] ∧ Bag (upd F1 rw (.dK kvs)) H' b ∧ cc ≤ left ∧ (i + 1 = ts.length → cc = left), ?_, ?_⟩
      · refine ⟨_, rfl, _, rfl, 1, rfl, p, xs, -1, _, rfl, rfl, .inl (.inl (toH _ _ hp)), hu, p2, _, 0, _, rfl, rfl, same_sqT toH hp2, rfl, rfl, _, rfl, ?_⟩
        cases ee : (!decide (V.str t.1 = V.str tl.1)) with
        | false => exact iteF (iteF ⟨left, rfl, B1, Nat.le_refl _, fun _ => rfl⟩)
        | true =>
          refine iteT ⟨_, rfl, _, b, 3, rfl, by decide, by decide, B1, fun r H2 r0 r1 B2 => ⟨_, _, rfl, rfl, _, rfl, ifd (fun _ => ?_) fun _ => ⟨left, rfl, B2, Nat.le_refl _, fun _ => rfl⟩⟩⟩
          have ml : left ≤ 1000 := by omega
          refine ⟨_, rfl, _, rfl, _, _, rfl, rfl, _, b, _, rfl, by omega, by omega, B2, fun r2 H3 c0 c1 B3 => ⟨r2.toNat, ?_, B3, by omega, fun z => ?_⟩⟩
          · have y : ((r2.toNat : Nat) : Int) = r2 := Int.toNat_of_nonneg c0
            rw [y]
            rfl
          · rw [hlast z] at ee
            rw [decide_eq_true rfl] at ee
            cases ee
      · rintro σ' H2 ⟨cc, rfl, B2, cl, cz⟩
        have tok := ok.ok t (List.mem_of_getElem? ht)
        have lq := tok.fs.hi
        have sB : Same F0 (upd F1 rw (.dK kvs)) := same_put s1 _ f0
        have hrwB : (upd F1 rw (.dK kvs)) rw = some (.dK kvs) := upd_same
        have f1B : Same F1 (upd F1 rw (.dK kvs)) := fun a o e => by rw [upd_ne (ne_of_none e f1)]; exact e
        refine ⟨_, rfl, _, b, 4, rfl, by decide, by decide, B2, fun r H3 r0 r1 B3 => ⟨_, _, rfl, rfl, _, rfl, by omega, by omega, fun D hD => ?_⟩⟩
        have fD : (upd F1 rw (.dK kvs)) D = none := B3.fh.free hD
        refine lc_range (lo := 0) (n := (1 + r).toNat) (fun j H' => ∃ (S : List Row) (F2 : Hp) (ys : List V), S.length = j ∧ (∀ s ∈ S, s.length = t.2.length) ∧ (∀ s ∈ S, ∀ z ∈ s, -1000000000 ≤ z ∧ z ≤ 1000000000) ∧ Same (upd F1 rw (.dK kvs)) F2 ∧ F2 D = none ∧ Bag (upd F2 D (.lst ys)) H' b ∧ DpAll K F2 ys (S.map rowD))
          ⟨[], _, [], rfl, (fun _ z => by cases z), (fun _ z => by cases z), Same.refl _, fD, B3.new _ hD, .nil⟩ ?_ ?_
        · rintro j H4 hj ⟨S, F2, ys, lS, wS, vS, s2, d2, B4, da⟩
          have toB : Same F0 H4 := (same_put (sB.trans s2) _ (by cases z : F0 D with | none => rfl | some o => (rw [(sB.trans s2) _ _ z] at d2; cases d2))).trans B4.fh
          refine ⟨rfl, _, rfl, q1, rfl, ⟨_, same_sqT toB hq1⟩, fun D3 hD3 => ?_⟩
          have n3 : D ≠ D3 := ne_of_none (B4.fh _ _ upd_same) hD3
          have dF0 : F0 D = none := by
            cases z : F0 D with
            | none => rfl
            | some o =>
              rw [(sB.trans s2) _ _ z] at d2
              cases d2
          have toD3 : F0 D3 = none := by
            cases z : F0 D3 with
            | none => rfl
            | some o =>
              rw [toB _ _ z] at hD3
              cases hD3
          refine lc_it (walk_tup (xs := t.2.map V.str)) (fun e H' => ∃ zs : List Int, zs.length = e ∧ (∀ z ∈ zs, -1000000000 ≤ z ∧ z ≤ 1000000000) ∧ Bag (upd (upd F2 D (.lst ys)) D3 (.lst (zs.map V.int))) H' b) ⟨[], rfl, (fun _ z => by cases z), B4.new _ hD3⟩ (fun e H' _ z => ?_) ?_ ?_
          · obtain ⟨zs, _, _, B5⟩ := z
            exact same_sqT ((same_put (same_put (sB.trans s2) _ dF0) _ toD3).trans B5.fh) hq1
          · rintro e x H5 H6 he ⟨zs, lz2, vz, B5⟩ ⟨rfl, hx2⟩
            rw [List.length_map] at he
            refine ⟨rfl, _, rfl, _, b, rfl, B5, fun z H7 z1 z2 B7 => ⟨_, B7.fh _ _ upd_same, by rw [List.length_map]; exact Nat.lt_of_le_of_lt (show zs.length ≤ 100 by omega) (by decide), zs ++ [z], by rw [List.length_append, lz2]; rfl, fun y my => ?_, ?_⟩⟩
            · rcases List.mem_append.mp my with my | my
              · exact vz y my
              · rw [List.mem_singleton.mp my]
                exact ⟨z1, z2⟩
            · have y := B7.put (.lst ((zs ++ [z]).map V.int)) upd_same
              rw [upd_upd, List.map_append] at y
              rw [List.map_append]
              exact y
          · rintro H5 ⟨zs, lz2, vz, B5⟩
            rw [List.length_map] at lz2
            refine ⟨D3, _, rfl, .inl ⟨.inl (.inl (B5.fh _ _ upd_same)), fun l hl => ?_⟩⟩
            have B6 := B5.new (.tup (zs.map V.int)) hl
            have nDl : D ≠ l := ne_of_none (B5.fh _ _ (by rw [upd_ne n3, upd_same])) hl
            have n3l : D3 ≠ l := ne_of_none (B5.fh _ _ upd_same) hl
            have B7 := B6.put (.lst (ys ++ [.ref l])) (show (upd (upd (upd F2 D (.lst ys)) D3 (.lst (zs.map V.int))) l (.tup (zs.map V.int))) D = some (.lst ys) by rw [upd_ne nDl, upd_ne n3, upd_same])
            have hl2 : F2 l = none := by
              cases z : F2 l with
              | none => rfl
              | some o =>
                have y : H5 l = some o := B5.fh _ _ (by rw [upd_ne (Ne.symm n3l), upd_ne (Ne.symm nDl)]; exact z)
                rw [hl] at y
                cases y
            have s6 : Same F2 (upd F2 l (.tup (zs.map V.int))) := same_new _ hl2
            refine ⟨ys, B6.fh D _ (by rw [upd_ne nDl, upd_ne n3, upd_same]), ?_, S ++ [zs], upd F2 l (.tup (zs.map V.int)), ys ++ [.ref l], by rw [List.length_append, lS]; rfl, fun s ms => ?_, fun s ms => ?_, s2.trans s6, by rw [upd_ne nDl]; exact d2, bag_sub (fun a o e => ?_) B7, ?_⟩
            · rw [dpA_len da, List.length_map, lS]
              exact Nat.lt_of_lt_of_le (show j < 100 by omega) (by decide)
            · rcases List.mem_append.mp ms with ms | ms
              · exact wS s ms
              · rw [List.mem_singleton.mp ms]
                exact lz2
            · rcases List.mem_append.mp ms with ms | ms
              · exact vS s ms
              · rw [List.mem_singleton.mp ms]
                exact vz
            · by_cases q1 : a = D
              · rw [q1, upd_same] at e ⊢
                exact e
              · rw [upd_ne q1] at e ⊢
                by_cases q2 : a = l
                · rw [q2, upd_same] at e ⊢
                  exact e
                · rw [upd_ne q2] at e ⊢
                  have q3 : a ≠ D3 := fun z => by
                    rw [z] at e
                    have y : H4 D3 = some o := B4.fh _ _ (by rw [upd_ne (Ne.symm n3)]; exact e)
                    rw [hD3] at y
                    cases y
                  rw [upd_ne q3, upd_ne q1]
                  exact e
            · rw [List.map_append]
              refine dpA_snoc (dpA_mono s6 _ _ da) (.tup (.inl (.inl upd_same)) (dpA_ints _))
        · rintro H4 ⟨S, F2, ys, lS, wS, vS, s2, d2, B4, da⟩
          have ly : ys.length = S.length := by rw [dpA_len da, List.length_map]
          have lS1 : 1 ≤ S.length := by omega
          have lS4 : S.length ≤ 4 := by omega
          have cm : cc ≤ 1000 := by omega
          have mul : ys.length * cc ≤ 4 * 1000 := Nat.mul_le_mul (by omega) cm
          refine ⟨_, rfl, _, rfl, D, cc, ys, rfl, rfl, B4.fh _ _ upd_same, by omega, by omega, Nat.le_of_lt (Nat.lt_of_le_of_lt mul (by decide)), fun p3 h3 => ?_⟩
          have tn : ((cc : Nat) : Int).toNat = cc := Int.toNat_natCast cc
          rw [tn]
          have B5 := B4.new (.lst (List.replicate cc ys).flatten) h3
          have u3 : (upd H4 p3 (.lst (List.replicate cc ys).flatten)) p3 = some (.lst (List.replicate cc ys).flatten) := upd_same
          refine ⟨_, rfl, _, rfl, p3, _, rfl, .inl (.inl u3), ?_⟩
          rw [cutV_to]
          intro p4 h4
          have B6 := B5.new (.lst ((List.replicate cc ys).flatten.take cc)) h4
          have rwF : F2 rw = some (.dK kvs) := s2 _ _ hrwB
          have nDrw : rw ≠ D := ne_of_none rwF d2
          have n3rw : rw ≠ p3 := ne_of_none (B4.fh _ _ (by rw [upd_ne nDrw]; exact rwF)) h3
          have n4rw : rw ≠ p4 := ne_of_none (B5.fh _ _ (by rw [upd_ne n3rw, upd_ne nDrw]; exact rwF)) h4
          have fr3 : F2 p3 = none := by
            by_cases z : p3 = D
            · rw [z]; exact d2
            · cases y : F2 p3 with
              | none => rfl
              | some o =>
                have q := B4.fh _ _ (by rw [upd_ne z]; exact y)
                rw [h3] at q
                cases q
          have fr4 : F2 p4 = none := by
            by_cases z : p4 = D
            · rw [z]; exact d2
            · by_cases z3 : p4 = p3
              · rw [z3]; exact fr3
              · cases y : F2 p4 with
                | none => rfl
                | some o =>
                  have q := B5.fh _ _ (by rw [upd_ne z3, upd_ne z]; exact y)
                  rw [h4] at q
                  cases q
          have n4D : p4 ≠ D := Ne.symm (ne_of_none (B5.fh D (.lst ys) (by rw [upd_ne (ne_of_none (B4.fh D _ upd_same) h3), upd_same])) h4)
          have n43 : p4 ≠ p3 := Ne.symm (ne_of_none u3 h4)
          have rwB6 : (upd (upd (upd F2 D (.lst ys)) p3 (.lst (List.replicate cc ys).flatten)) p4 (.lst ((List.replicate cc ys).flatten.take cc))) rw = some (.dK kvs) := by rw [upd_ne n4rw, upd_ne n3rw, upd_ne nDrw]; exact rwF
          have B7 := B6.put (.dK (putK kvs (Sum.inr t.1) (.ref p4))) rwB6
          have lk : kvs.length ≤ 5 := by
            have z := congrArg List.length ek
            rw [List.length_map, List.length_map, List.length_take] at z
            have y := ok.hi
            omega
          have hn : (ts.map (·.1))[i]? = some t.1 := by rw [List.getElem?_map, ht]; rfl
          have nt := nodup_take ok.nd hn
          rw [← List.map_take] at nt
          have nk : (Sum.inr t.1 : Key) ∉ kvs.map (·.1) := fun m => by
            rw [ek] at m
            obtain ⟨u, mu, e⟩ := List.mem_map.mp m
            exact nt (List.mem_map.mpr ⟨u, mu, Sum.inr.inj e⟩)
          have lR : (((List.replicate cc S).flatten).take cc).length = cc := flat_take lS1 cc
          refine ⟨_, rfl, _, rfl, rw, _, rfl, .inl ⟨kvs, Sum.inr t.1, B6.fh _ _ rwB6, rfl, Nat.lt_of_le_of_lt lk (by decide), rfl⟩, ?_⟩
          have move : ∀ a o, F2 a = some o → (∀ kvs, o ≠ .dK kvs) → (upd (fun a => if a = rw then none else F2 a) p4 (.lst ((List.replicate cc ys).flatten.take cc))) a = some o := fun a o e no => by
            rw [upd_ne (ne_of_none e fr4), if_neg fun z => by rw [z, rwF] at e; exact no kvs (Option.some.inj e).symm]
            exact e
          have fromF1 : Same F1 (upd (fun a => if a = rw then none else F2 a) p4 (.lst ((List.replicate cc ys).flatten.take cc))) := fun a o e => by
            have y := s2 _ _ (f1B _ _ e)
            rw [upd_ne (ne_of_none y fr4), if_neg (ne_of_none e f1)]
            exact y
          have left2 : ((left : Int) - (cc : Int)) = ((left - cc : Nat) : Int) := by omega
          refine ⟨_, rfl, _, rfl, _, _, rfl, rfl, upd (fun a => if a = rw then none else F2 a) p4 (.lst ((List.replicate cc ys).flatten.take cc)), putK kvs (Sum.inr t.1) (.ref p4), fun n => if n = t.1 then ((List.replicate cc S).flatten).take cc else g n, left - cc, _, _, _, _, _, _, by rw [← left2]; rfl, s1.trans fromF1, ?_, ?_, ?_, ?_, ?_, ?_, ?_⟩
          · rw [upd_ne n4rw, if_pos rfl]
          · refine bag_sub (fun a o e => ?_) B7
            by_cases z : a = rw
            · rw [z, upd_same] at e ⊢
              exact e
            · rw [upd_ne z] at e ⊢
              by_cases z4 : a = p4
              · rw [z4, upd_same] at e ⊢
                exact e
              · rw [upd_ne z4, if_neg z] at e
                rw [upd_ne z4, upd_ne (ne_of_none e fr3), upd_ne (ne_of_none e d2)]
                exact e
          · rw [put_new nk, List.map_append, ek, map_take _ ht]
            rfl
          · intro u mu
            rw [List.take_add_one, ht] at mu
            rcases List.mem_append.mp mu with mu | mu
            · obtain ⟨v, h1, h2⟩ := val u mu
              have n1 : u.1 ≠ t.1 := fun e => nt (List.mem_map.mpr ⟨u, mu, e⟩)
              refine ⟨v, by rw [valV_put, if_neg fun e => n1 (Sum.inr.inj e)]; exact h1, ?_⟩
              show LsAt K _ v (if u.1 = t.1 then _ else g u.1)
              rw [if_neg n1]
              exact h2.same fromF1
            · have eu : u = t := by simpa using mu
              subst eu
              refine ⟨.ref p4, by rw [valV_put, if_pos rfl], ?_⟩
              show LsAt K _ _ (if u.1 = u.1 then _ else g u.1)
              rw [if_pos rfl]
              refine ⟨_, _, rfl, upd_same, ?_⟩
              rw [List.map_take, map_flat]
              exact dpA_take cc (dpA_rep (rows_move move da) cc)
          · refine ⟨fun n => ?_, fun u mu r2 mr => ?_, fun n no => ?_⟩
            · show RsOk (if n = t.1 then _ else g n)
              by_cases e : n = t.1
              · rw [if_pos e]
                exact ⟨by rw [lR]; exact cm, fun r2 mr => by rw [wS r2 (flat_mem mr)]; omega, fun r2 mr => vS r2 (flat_mem mr)⟩
              · rw [if_neg e]
                exact ro.ok n
            · rw [List.take_add_one, ht] at mu
              rcases List.mem_append.mp mu with mu | mu
              · have n1 : u.1 ≠ t.1 := fun e => nt (List.mem_map.mpr ⟨u, mu, e⟩)
                replace mr : r2 ∈ (if u.1 = t.1 then _ else g u.1) := mr
                rw [if_neg n1] at mr
                exact ro.wid u mu r2 mr
              · have eu : u = t := by simpa using mu
                subst eu
                replace mr : r2 ∈ (if u.1 = u.1 then _ else g u.1) := mr
                rw [if_pos rfl] at mr
                exact wS r2 (flat_mem mr)
            · have mt : t ∈ ts.take (i + 1) := by
                rw [List.take_add_one, ht]
                simp
              have n1 : n ≠ t.1 := fun e => no (List.mem_map.mpr ⟨t, mt, e.symm⟩)
              show (if n = t.1 then _ else g n) = []
              rw [if_neg n1]
              refine ro.no n fun m => no ?_
              obtain ⟨u, mu, e⟩ := List.mem_map.mp m
              refine List.mem_map.mpr ⟨u, ?_, e⟩
              rw [List.take_add_one]
              exact List.mem_append_left _ mu
          · have eq : total (fun n => if n = t.1 then ((List.replicate cc S).flatten).take cc else g n) (ts.take (i + 1)) = total g (ts.take i) + cc := by
              unfold total
              rw [List.take_add_one, ht, List.map_append, List.sum_append]
              have e1 : (ts.take i).map (fun u => ((fun n => if n = t.1 then ((List.replicate cc S).flatten).take cc else g n) u.1).length) = (ts.take i).map (fun u => (g u.1).length) := List.map_congr_left fun u mu => by
                have n1 : u.1 ≠ t.1 := fun e => nt (List.mem_map.mpr ⟨u, mu, e⟩)
                show (if u.1 = t.1 then _ else g u.1).length = _
                rw [if_neg n1]
              rw [e1]
              show _ + (((if t.1 = t.1 then ((List.replicate cc S).flatten).take cc else g t.1).length) + 0) = _
              rw [if_pos rfl, lR]
              rfl
            rw [eq]
            omega
          · intro z
            have y := cz z
            omega
    · rintro σ H' ⟨F1, kvs, g, left, v5, v6, v7, v8, v9, v10, rfl, s1, f1, B1, ek, val, ro, tot, lz⟩
      rw [lx] at ek val ro tot lz
      rw [List.take_length] at ek val ro tot
      have z := lz rfl
      refine ⟨_, rfl, k rw g _ _ B1 (same_put s1 _ f0) f0 ⟨kvs, F1, upd_same, ek, same_put (Same.refl _) _ f1, f1, val⟩ ro (by omega)⟩
end
end Fm

/-! ## FmTry -/
set_option Elab.async false
set_option maxRecDepth 100000
set_option maxHeartbeats 4000000
/-! A try whose clauses are of both kinds, 'except A' and 'except B as e'. -/
namespace Fm
open PySem PySem.Spec PyProof.Rows L2
/-- an error that has been caught and waits for its clause -/
structure Caught (X : Cx) (pins : List (Addr × Obj)) (σ : L2.St) (H : Hp) (a : Addr) (B : Heap) (cls : Value) (d : Option Addr) (sI s : Shared) : Prop where
  inv : Inv X pins σ H sI
  nb : ∀ b o, sI.heap.get? b = some o → b ∉ frs X.stack → B.get? b = some o
  up : sI.heap.UpToSlots s.heap
  fl : HandSPX.FlyingZ B (X.env :: X.outer) a (Zc cls d) s.heap
  na : H a = none
  os : s.os = sI.os
  ag : AllBare s.gens
/-- what a clause does, told of the slots ahead of it and behind it -/
def tAs (i : Nat) (ts : Addr → Value → Option Addr → TS) : Addr → Value → Option Addr → TS := fun a cls d D σ H =>
  ts a cls d ⟨fun σ' => D.nx (σ'.set i none), D.rt, fun σ' => D.bk (σ'.set i none), fun σ' => D.ct (σ'.set i none)⟩ (σ.set i (some (.ref a))) H
inductive Clauses (X : Cx) : List ExceptHandler → List (Value × (Addr → Value → Option Addr → TS)) → Prop
  | nil : Clauses X [] []
  | bare {x : Str} {c : Value} {ts : Addr → Value → Option Addr → TS} {b₀ : Stmt} {bs : List Stmt} {np p : Pos} {hs : List ExceptHandler} {l : List (Value × (Addr → Value → Option Addr → TS))} (hc : Names X x c)
      (su : ∀ (a : Addr) (oe : Obj) (cls : Value) (d : Option Addr) (pn : List (Addr × Obj)), Zc cls d oe → (∃ vs, oe.data = .fields vs) → PSs (X.suite a ((a, oe) :: pn)) (b₀ :: bs) (ts a cls d)) (r : Clauses X hs l) :
      Clauses X (.ExceptHandler (some (.Name x np)) none (b₀ :: bs) p :: hs) ((c, ts) :: l)
  | named {x n : Str} {i : Nat} {c : Value} {ts : Addr → Value → Option Addr → TS} {b₀ : Stmt} {bs : List Stmt} {np p : Pos} {hs : List ExceptHandler} {l : List (Value × (Addr → Value → Option Addr → TS))} (hN : X.N.Nodup) (hi : X.N[i]? = some n) (hk : X.env.kindOf n = some .local) (hc : Names X x c)
      (su : ∀ (a : Addr) (oe : Obj) (cls : Value) (d : Option Addr) (pn : List (Addr × Obj)), Zc cls d oe → (∃ vs, oe.data = .fields vs) → PSs (X.suite a ((a, oe) :: pn)) (b₀ :: bs) (ts a cls d)) (r : Clauses X hs l) :
      Clauses X (.ExceptHandler (some (.Name x np)) (some n) (b₀ :: bs) p :: hs) ((c, tAs i ts) :: l)
section
variable {X : Cx} {pins : List (Addr × Obj)} {σ : L2.St} {H : Hp} {a : Addr} {B : Heap} {cls c : Value} {d : Option Addr} {sI s : Shared} {x n : Str} {np : Pos} {W : WX} {D : Ends}
theorem Caught.now (C : Caught X pins σ H a B cls d sI s) : Inv X pins σ H s := C.inv.landed C.nb C.fl.1 C.up C.os C.ag
theorem Caught.free (C : Caught X pins σ H a B cls d sI s) {o : Obj} {vs : Array Value} (e : s.heap.get? a = some o) (hd : o.data = .fields vs) : a ∉ frs (X.env :: X.outer) := fun hm => by
  obtain ⟨_, o2, e2, no⟩ := C.fl.2.2.1.mem hm
  rw [e] at e2
  cases e2
  exact no _ hd
theorem Caught.suite (C : Caught X pins σ H a B cls d sI s) (hf : X.env.frame = some X.env.locals) : ∃ oe, Zc cls d oe ∧ (∃ vs, oe.data = .fields vs) ∧ s.heap.get? a = some oe ∧ Inv (X.suite a ((a, oe) :: (X.pn ++ pins))) [] σ H s := by
  obtain ⟨oe, vs, e, z, hd⟩ := C.fl.there
  have no := C.free e hd
  refine ⟨oe, z, ⟨vs, hd⟩, e, C.now.suite e hd C.na (fun q => no ?_) fun q => ?_⟩
  · exact List.mem_filterMap.mpr ⟨X.env, List.mem_cons_self, by rw [hf, q]⟩
  · obtain ⟨v, hv, e2⟩ := List.mem_filterMap.mp q
    exact no (List.mem_filterMap.mpr ⟨v, List.mem_cons_of_mem _ hv, e2⟩)
/-- the clause's class is looked at -/
theorem Caught.asks (C : Caught X pins σ H a B cls d sI s) (hf : X.env.frame = some X.env.locals) (hc : Names X x c) {b : Bool} (hb : PySem.W.exmOne X.K cls c = some b) {Q : Bool → Shared → Prop} {E E' : Value → Shared → Prop} (q : Q b s) :
    wpAny (model X.prog X.w) (X.A.mark (some (.ref a))) (eval (.Name x np) X.env) (fun u s1 => wpAny (model X.prog X.w) (X.A.mark (some (.ref a))) (excMatches (.ref a) u) Q E' s1) E s := by
  obtain ⟨oe, z, _, e, S⟩ := C.suite hf
  have ty : PySem.W.Looks (model X.prog X.w) s.heap (typeOf (.ref a)) cls := fun A' Q' E2 s2 k h => wpAny_typeOf_ref (k _ _ e) (by rw [z.1]; exact h)
  have m := PySem.W.exm_one (M := model X.prog X.w) C.now.kIn ty hb
  obtain ⟨g, nd, h | ⟨h1, h2, h3⟩⟩ := hc
  · exact ld_glob (X := X.suite a ((a, oe) :: (X.pn ++ pins))) S g h (m.here q) nd
  · exact ld_blt (X := X.suite a ((a, oe) :: (X.pn ++ pins))) S g h1 h2 (m.here q) h3 nd
/-- the error lands in its suite -/
theorem Caught.lands (C : Caught X pins σ H a B cls d sI s) {M : Model} {A : Around} {E : Value → Shared → Prop} {Q : Unit → Shared → Prop} (h : ∀ s', Caught X pins σ H a B cls d sI s' → Q () s') : wpAny M A (setFlight (.ref a) none) Q E s :=
  HandSPX.lands_againZ C.fl fun h' f u => h _ ⟨C.inv, C.nb, C.up.trans u, f, C.na, C.os, C.ag⟩
/-- no clause takes it: it goes on -/
theorem Caught.goes (C : Caught X pins σ H a B cls d sI s) (hst : X.stack = X.env :: X.outer) (hf : X.env.frame = some X.env.locals) (tk : Takes X W) (w : W cls d σ H) : wpAny (model X.prog X.w) X.A (handleBy (.ref a) X.env []) (SP X pins D) X.xe s := by
  obtain ⟨_, _, _, oe, vs, t, _, _, e, _, hd, h1, _⟩ := id C.fl
  refine wpAny_handleBy_nil ?_
  unfold PySem.passOn
  refine wpAny_bind (wpAny_field e hd h1 ?_)
  rw [if_neg (show (Value.ref t == Value.none) ≠ true from by simp), hf]
  have last : wpAny (model X.prog X.w) X.A (setFlight (.ref a) (some X.env.locals)) (fun _ s2 => wpAny (model X.prog X.w) X.A (throw (.ref a) : Sem Flow) (SP X pins D) X.xe s2) X.xe s :=
    HandSPX.setFlight_upZ C.fl fun h' f u => wpAny_throw (tk _ _ ⟨a, B, sI, pins, σ, H, cls, d, rfl, C.inv, C.nb, C.up.trans u, .inr (.inr (by rw [hst]; exact f)), C.na, C.os, C.ag, w⟩)
  first
    | exact wpAny_bind (wpAny_pure (wpAny_bind last))
    | exact wpAny_bind last
/-- behind a suite the rest stands as it would without it -/
theorem leave {a : Addr} {q : Addr × Obj} {f : Flow} {s : Shared} (ok : X.Ok) (h : SP (X.suite a (q :: (X.pn ++ pins))) [] D f s) : SP X pins D f s := by
  cases f with
  | next => exact let ⟨_, _, I, z⟩ := h; ⟨_, _, I.unsuite ok, z⟩
  | brk => exact let ⟨_, _, I, z⟩ := h; ⟨_, _, I.unsuite ok, z⟩
  | cont => exact let ⟨_, _, I, z⟩ := h; ⟨_, _, I.unsuite ok, z⟩
  | ret u => exact let ⟨_, _, _, I, r, z⟩ := h; ⟨_, _, _, I.unsuite ok, r, z⟩
theorem Caught.handled {hs : List ExceptHandler} {l : List (Value × (Addr → Value → Option Addr → TS))} (k : Clauses X hs l) (hst : X.stack = X.env :: X.outer) (hf : X.env.frame = some X.env.locals) (tk : Takes X W) :
    ∀ {s : Shared}, Caught X pins σ H a B cls d sI s → wMany X.K W D l cls d σ H → wpAny (model X.prog X.w) X.A (handleBy (.ref a) X.env hs) (SP X pins D) X.xe s := by
  induction k with
  | nil => exact fun C w => C.goes hst hf tk w
  | bare hc su r ih =>
    intro s C ⟨b, hb, yes, no⟩
    refine wpAny_handleBy_cons (codeAny_handlers_test (C.asks hf hc hb ?_)) (fun z => nomatch z)
    cases b with
    | false => exact ih C (no rfl)
    | true =>
      refine codeAny_handlers_suite (C.lands fun s2 C2 => ?_)
      obtain ⟨oe, z, f, _, S⟩ := C2.suite hf
      exact wpAny_mono ((su a oe cls d (X.pn ++ pins) z f).run [] _ _ H _ S (yes rfl a C.na)) (fun g s3 h => by
        have q := leave C.inv.ok h
        cases g <;> exact q) fun _ _ z => z.elim
  | @named x n i c ts b₀ bs np p hs l hN hi hk hc su r ih =>
    intro s C ⟨b, hb, yes, no⟩
    refine wpAny_handleBy_cons (codeAny_handlers_test (C.asks hf hc hb ?_)) (fun z => nomatch z)
    cases b with
    | false => exact ih C (no rfl)
    | true =>
      refine codeAny_handlers_suite_as (C.lands fun s2 C2 => ?_)
      obtain ⟨oe, z, f, _, S⟩ := C2.suite hf
      refine store_ok (X := X.suite a ((a, oe) :: (X.pn ++ pins))) (v := .ref a) S hN hi (.inl hk) rfl (fun s3 S3 => ?_) (.inr hk)
      refine wpAny_mono ((su a oe cls d (X.pn ++ pins) z f).run [] s3 _ H _ S3 (yes rfl a C.na)) (fun g s4 h => ?_) fun _ _ z => z.elim
      have q := leave C.inv.ok h
      cases g with
      | next => exact let ⟨_, _, I, z⟩ := q; gone_ok I hN hi hk fun s5 J => ⟨_, _, J, z⟩
      | brk => exact let ⟨_, _, I, z⟩ := q; gone_ok I hN hi hk fun s5 J => ⟨_, _, J, z⟩
      | cont => exact let ⟨_, _, I, z⟩ := q; gone_ok I hN hi hk fun s5 J => ⟨_, _, J, z⟩
      | ret u => exact let ⟨_, _, _, I, r, z⟩ := q; gone_ok I hN hi hk fun s5 J => ⟨_, _, _, J, r, z⟩
end
section
variable {X : Cx} {body : List Stmt} {h₀ : ExceptHandler} {hs : List ExceptHandler} {l : List (Value × (Addr → Value → Option Addr → TS))} {pos : Pos} {tb : WX → TS} {W : WX}
/-- try with clauses of both kinds, no else, no finally -/
theorem ps_tryM (hst : X.stack = X.env :: X.outer) (hf : X.env.frame = some X.env.locals) (tk : Takes X W)
    (hb : ∀ (W : WX) (pn : List (Addr × Obj)) (xe : Value → Shared → Prop), Takes (X.tr pn xe) W → PassesOwn (model X.prog X.w) X.A X.env xe → PSs (X.tr pn xe) body (tb W))
    (k : Clauses X (h₀ :: hs) l) : PS X (.Try body (h₀ :: hs) [] [] pos) (fun D σ H => tb (wMany X.K W D l) D σ H) := by
  refine ⟨fun pins s σ H D I h => wpAny_Try_except (wpAny_mono ((hb (wMany X.K W D l) (X.pn ++ pins) _ (fun u s' y => ?_) PassesOwn.looking).run [] s σ H D (I.toTry _) h) (fun f s1 q => ?_) (fun e s1 z => z))⟩
  · obtain ⟨a, B, sI, pins', σ', H', cls, d, rfl, J, nb, up, sky, na, os, ag, w⟩ := y
    have fr : X.A.frames = some (X.env :: X.outer) := by rw [I.ok.frames, hst]
    refine Sky.land Zc.steady fr hf (by rw [← hst]; exact sky) fun h3 fl u => ?_
    exact Caught.handled k hst hf tk (s := { s' with heap := h3 }) ⟨J.ofTry I.ok, nb, up.trans u, fl, na, os, ag⟩ w
  · cases f with
    | next => exact let ⟨_, _, J, z⟩ := q; wpAny_execs_nil ⟨_, _, J.ofTry I.ok, z⟩
    | brk => exact let ⟨_, _, J, z⟩ := q; ⟨_, _, J.ofTry I.ok, z⟩
    | cont => exact let ⟨_, _, J, z⟩ := q; ⟨_, _, J.ofTry I.ok, z⟩
    | ret u => exact let ⟨_, _, _, J, r, z⟩ := q; ⟨_, _, _, J.ofTry I.ok, r, z⟩
end
end Fm

/-! ## K07K -/
set_option Elab.async false
set_option maxRecDepth 100000
set_option maxHeartbeats 4000000
namespace Fm
open PySem L2
theorem X0.glob {K : PySem.W.Frag} {mg : Str → Option Value} {x : Str} {C : Addr} (B : X0 K mg x C) : mg x = some (.ref C) := by
  obtain ⟨_, _, _, _, _, _, h, _⟩ := B.ex
  exact h
theorem Xf.glob {P : Program} {w : World} {K : PySem.W.Frag} {mg : Str → Option Value} {base : Heap} {x f : Str} {C : Addr} (B : Xf P w K mg base x C f) : mg x = some (.ref C) := by
  obtain ⟨_, _, _, _, _, _, h, _⟩ := B.ex
  exact h
/-- the three errors that the law catches, one from another -/
structure Er (K : PySem.W.Frag) (CM CR CN : Addr) : Prop where
  mm : PySem.W.exmOne K (.ref CM) (.ref CM) = some true
  rm : PySem.W.exmOne K (.ref CR) (.ref CM) = some false
  rr : PySem.W.exmOne K (.ref CR) (.ref CR) = some true
  nm : PySem.W.exmOne K (.ref CN) (.ref CM) = some false
  nr : PySem.W.exmOne K (.ref CN) (.ref CR) = some false
  nn : PySem.W.exmOne K (.ref CN) (.ref CN) = some true
  xR : XfC K CR
  fR : PySem.W.findIn K (.ref CR) "value" = some none
  xN : XfC K CN
  fN : PySem.W.findIn K (.ref CN) "value" = some none
def Told (K : PySem.W.Frag) (H : Hp) (d : PyData) (Q : VK) : Prop := ∀ v H', Same H H' → Dp K H' v d → Q v H'
def manyD : PyData := .tuple [.str "many"]
def rowsE (a b : PyData) : PyData := .tuple [.str "rows", .tuple [a, b]]
section
variable {P : Program} {w : World} {K : PySem.W.Frag} {mg : Str → Option Value} {base : Heap} {CS CT CR CN CM : Addr}
/-- what is made of it -/
def Made (K : PySem.W.Frag) (CS CT : Addr) (F0 H : Hp) (ts : List Tab) (g : Str → List Row) (Q : VK) : Prop :=
  (∀ t i, firstBad g ts = some (t, i) → Told K H (rowsE (.str t) (.int (i : Nat))) Q) ∧
  (firstBad g ts = none → (300 < total g ts → Told K H manyD Q) ∧ (total g ts ≤ 300 → ∀ x tp H' M, Same H H' → Fresh H H' M → StAt K CS CT (uni F0 M) x ts g → H tp = none → M tp = none → H' tp = some (.tup [.str "made", .ref x]) → Q (.ref tp) H'))
def spMade (K : PySem.W.Frag) (CS CT : Addr) : Sp := fun vs H Q _ => ∃ (F0 : Hp) (sh rd : Addr) (ts : List Tab) (kvs : List (Key × V)) (g : Str → List Row), vs = [.ref sh, .ref rd] ∧ Same F0 H ∧ ShAt K CS F0 sh ts ∧ TsOk ts ∧ Rd1 K H rd kvs g ∧
  ((∃ kv ∈ kvs, ∃ n, kv.1 = Sum.inr n ∧ n ∉ ts.map (·.1)) → Told K H (rowsE .none (.int (-1))) Q) ∧
  ((∀ kv ∈ kvs, ∀ n, kv.1 = Sum.inr n → n ∈ ts.map (·.1)) → Made K CS CT F0 H ts g Q)
theorem fresh_at {H H' M : Hp} (f : Fresh H H' M) {tp : Addr} (h : H' tp = none) : M tp = none := by
  cases z : M tp with
  | none => rfl
  | some o =>
    have y := (f tp o z).2
    rw [h] at y
    cases y
theorem fresh_put {H H' M : Hp} (f : Fresh H H' M) {tp : Addr} {o : HO} (h : H' tp = none) : Fresh H (upd H' tp o) M := fun a o e => ⟨(f a o e).1, by
  rw [upd_ne (fun z => by rw [z, fresh_at f h] at e; cases e)]
  exact (f a o e).2⟩
abbrev s_l_made : Stmt := topS 36
abbrev sc_l_madeN : List Str := ["_law_shape", "_law_rows", "_law_found", "_law_store", "e"]
abbrev ps_l_made : List Str := ["_law_shape", "_law_rows"]
theorem sc_l_made : FnScope sc_l_madeN ps_l_made (defScope s_l_made) := ⟨rfl, rfl, rfl, by decide +kernel, rfl, by decide +kernel, by decide +kernel⟩
theorem ok_l_made {f : Addr} {fd : FuncData} (F : Fun K "_law_made" "_law_made" s_l_made f fd) (R : Er K CM CR CN) (D_Store : DcX P w K mg base "Store" CT 5 ps_Store_init (spStInit K CS CT CR CM)) (X_TooMany : X0 K mg "TooMany" CM) (X_BadRows : Xf P w K mg base "BadRows" CR "value") :
    FnOk P w K mg base CX0 7 f fd ps_l_made (spMade K CS CT) := by
  refine F.ok sc_l_made (fun vs H Q E h => ?_) (fun cdv A outer s H vs Q E hr h => ?_)
  · obtain ⟨_, _, _, _, _, _, rfl, _⟩ := h
    rfl
  · obtain ⟨F0, sh, rd, ts, kvs, g, rfl, sF, shA, ok, rs, kB, kG⟩ := h
    refine ⟨_, (pss_cons (ps_set (i := 2) sc_l_made.nd rfl (Or.inl rfl) pe_non)
  (pss_cons (ps_set (i := 3) sc_l_made.nd rfl (Or.inl rfl) pe_non)
  (Evl.pss_cut (ps_tryM (W := fun _ _ _ _ => False) rfl rfl takes0
    (fun W pn xe tk _ => by exact (pss_one (ps_set (i := 3) sc_l_made.nd rfl (Or.inl rfl) (pe_dcE D_Store (hr.mono (by decide)) tk (pa_cons (pv 0) (pa_cons (pv 1) pa_nil))))))
    (Clauses.bare ⟨rfl, by decide, Or.inl X_TooMany.glob⟩ (fun a oe cls d pn hz hf => by exact (pss_one (ps_set (i := 2) sc_l_made.nd rfl (Or.inl rfl) (pe_tup (pa_cons pe_str pa_nil)))))
    (Clauses.named (i := 4) sc_l_made.nd rfl rfl ⟨rfl, by decide, Or.inl X_BadRows.glob⟩ (fun a oe cls d pn hz hf => by exact (pss_one (ps_set (i := 2) sc_l_made.nd rfl (Or.inl rfl) (pe_tup (pa_cons pe_str (pa_cons (pe_xk (K := K) hz hf (pv 4)) pa_nil))))))
    Clauses.nil)))
  (pss_cons (ps_if (pt_cmpR op_notN (pv 2) pe_non (nomark _))
    (pss_one (ps_ret (pv 2)))
    pss_nil)
  (pss_one (ps_ret (pe_tup (pa_cons pe_str (pa_cons (pv 3) pa_nil))))))))), ?_⟩
    have rows : ∀ {v i : V} {a b : PyData}, (∀ H', Dp K H' v a) → (∀ H', Dp K H' i b) → Told K H (rowsE a b) Q → ∀ {tp t : Addr} {H1 : Hp}, Same H H1 → H1 tp = some (.tup [v, i]) → H1 t = none → Q (.ref t) (upd H1 t (.tup [.str "rows", .ref tp])) := fun dv di k tp t H1 s htp ht =>
      k _ _ (s.trans (same_new _ ht)) (.tup (.inl (.inl upd_same)) (.cons (.str _) (.cons (.tup (.inl (.inl (same_new _ ht _ _ htp))) (.cons (dv _) (.cons (di _) .nil))) .nil)))
    refine ⟨fun σ' H' => (∃ t sx, σ' = [some (.ref sh), some (.ref rd), some (.ref t), sx, none] ∧ Q (.ref t) H') ∨
      ∃ x, σ' = [some (.ref sh), some (.ref rd), some .non, some (.ref x), none] ∧ ∀ tp, H' tp = none → Q (.ref tp) (upd H' tp (.tup [.str "made", .ref x])), ?_, ?_⟩
    · refine ⟨_, rfl, _, rfl, fun x dx nx nd ne => store_make sF shA ok rs nx nd ne (fun z => fun d tp H1 s1 hd htp => ⟨false, R.rm, (fun q => nomatch q), fun _ => ⟨true, R.rr, fun _ a na => ⟨_, rfl, rfl, CR, d, _, _, rfl, R.xR, R.fR, rfl, hd, rfl, (by show 2 ≤ sizeLine; decide), fun t ht => .inl ⟨t, _, rfl, rows (fun _ => .non) (fun _ => .int _) (kB z) s1 htp ht⟩⟩, fun q => nomatch q⟩⟩) fun hall => ⟨fun t i e => fun d tp H1 s1 hd htp => ⟨false, R.rm, (fun q => nomatch q), fun _ => ⟨true, R.rr, fun _ a na => ⟨_, rfl, rfl, CR, d, _, _, rfl, R.xR, R.fR, rfl, hd, rfl, (by show 2 ≤ sizeLine; decide), fun t1 ht => .inl ⟨t1, _, rfl, rows (fun _ => .str _) (fun _ => .int _) ((kG hall).1 t i e) s1 htp ht⟩⟩, fun q => nomatch q⟩⟩, fun hfb => ⟨fun hgt H1 s1 => ?_, fun hle H1 M s1 fr st => ?_⟩⟩⟩
      · exact ⟨true, R.mm, fun _ a na => ⟨(by show 1 ≤ sizeLine; decide), fun t ht => .inl ⟨t, _, rfl, ((kG hall).2 hfb).1 hgt _ _ (s1.trans (same_new _ ht)) (.tup (.inl (.inl upd_same)) (.cons (.str _) .nil))⟩⟩, fun q => nomatch q⟩
      · refine .inr ⟨x, rfl, fun tp htp => ((kG hall).2 hfb).2 hle x tp _ M (s1.trans (same_new _ htp)) (fresh_put fr htp) st ?_ (fresh_at fr htp) upd_same⟩
        exact s1.free htp
    · rintro σ' H' (⟨t, sx, rfl, q⟩ | ⟨x, rfl, q⟩)
      · exact ⟨_, rfl, rfl, _, rfl, iteT ⟨_, rfl, q⟩⟩
      · exact ⟨_, rfl, rfl, _, rfl, iteF ⟨_, rfl, (by show 2 ≤ sizeLine; decide), q⟩⟩
/-- what is put, by the name -/
def spPut (K : PySem.W.Frag) (CS CT : Addr) : Sp := fun vs H Q _ => ∃ (F0 : Hp) (a : Addr) (v : V) (n : Str) (ts : List Tab) (g : Str → List Row) (r : Row), vs = [.ref a, .str n, v] ∧ Same F0 H ∧ StAt K CS CT F0 a ts g ∧ TsOk ts ∧ (∀ m, RsOk (g m)) ∧ RsOk (g n ++ [r]) ∧ Dp K H v (rowD r) ∧
  (∀ m, m ∉ ts.map (·.1) → g m = []) ∧ (n ∈ ts.map (·.1) → Made K CS CT F0 H ts (setG g n (g n ++ [r])) Q) ∧ (n ∉ ts.map (·.1) → Told K H (.tuple [.str "name", .str n]) Q)
abbrev s_l_put : Stmt := topS 37
abbrev sc_l_putN : List Str := ["_law_store", "_law_name_here", "_law_row", "_law_found", "_law_made_here", "e"]
abbrev ps_l_put : List Str := ["_law_store", "_law_name_here", "_law_row"]
theorem sc_l_put : FnScope sc_l_putN ps_l_put (defScope s_l_put) := ⟨rfl, rfl, rfl, by decide +kernel, rfl, by decide +kernel, by decide +kernel⟩
theorem ok_l_put {f : Addr} {fd : FuncData} (F : Fun K "_law_put" "_law_put" s_l_put f fd) (R : Er K CM CR CN) (T2 : Tx2 K mg CT CR CN CM) (D_with_row : DmX P w K mg base CT "with_row" 8 ps_Store_with_row (spWithRow K CS CT CR CN CM)) (X_TooMany : X0 K mg "TooMany" CM) (X_BadRows : Xf P w K mg base "BadRows" CR "value") (X_BadName : Xf P w K mg base "BadName" CN "value") :
    FnOk P w K mg base CX0 9 f fd ps_l_put (spPut K CS CT) := by
  refine F.ok sc_l_put (fun vs H Q E h => ?_) (fun cdv A outer s H vs Q E hr h => ?_)
  · obtain ⟨_, _, _, _, _, _, _, rfl, _⟩ := h
    rfl
  · obtain ⟨F0, a, v, n, ts, g, r, rfl, sF, st, ok, gok, rok, dv, gno, kG, kN⟩ := h
    refine ⟨_, (pss_cons (ps_set (i := 3) sc_l_put.nd rfl (Or.inl rfl) pe_non)
  (pss_cons (ps_set (i := 4) sc_l_put.nd rfl (Or.inl rfl) pe_non)
  (Evl.pss_cut (ps_tryM (W := fun _ _ _ _ => False) rfl rfl takes0
    (fun W pn xe tk _ => by exact (pss_one (ps_set (i := 4) sc_l_put.nd rfl (Or.inl rfl) (pe_dmE (pv 0) T2.clT D_with_row (hr.mono (by decide)) tk (pa_cons (pv 1) (pa_cons (pv 2) pa_nil))))))
    (Clauses.bare ⟨rfl, by decide, Or.inl X_TooMany.glob⟩ (fun a oe cls d pn hz hf => by exact (pss_one (ps_set (i := 3) sc_l_put.nd rfl (Or.inl rfl) (pe_tup (pa_cons pe_str pa_nil)))))
    (Clauses.named (i := 5) sc_l_put.nd rfl rfl ⟨rfl, by decide, Or.inl X_BadRows.glob⟩ (fun a oe cls d pn hz hf => by exact (pss_one (ps_set (i := 3) sc_l_put.nd rfl (Or.inl rfl) (pe_tup (pa_cons pe_str (pa_cons (pe_xk (K := K) hz hf (pv 5)) pa_nil))))))
    (Clauses.named (i := 5) sc_l_put.nd rfl rfl ⟨rfl, by decide, Or.inl X_BadName.glob⟩ (fun a oe cls d pn hz hf => by exact (pss_one (ps_set (i := 3) sc_l_put.nd rfl (Or.inl rfl) (pe_tup (pa_cons pe_str (pa_cons (pe_xk (K := K) hz hf (pv 5)) pa_nil))))))
    Clauses.nil))))
  (pss_cons (ps_if (pt_cmpR op_notN (pv 3) pe_non (nomark _))
    (pss_one (ps_ret (pv 3)))
    pss_nil)
  (pss_one (ps_ret (pe_tup (pa_cons pe_str (pa_cons (pv 4) pa_nil))))))))), ?_⟩
    have rows : ∀ {v i : V} {a b : PyData}, (∀ H', Dp K H' v a) → (∀ H', Dp K H' i b) → Told K H (rowsE a b) Q → ∀ {tp t : Addr} {H1 : Hp}, Same H H1 → H1 tp = some (.tup [v, i]) → H1 t = none → Q (.ref t) (upd H1 t (.tup [.str "rows", .ref tp])) := fun dv di k tp t H1 s htp ht =>
      k _ _ (s.trans (same_new _ ht)) (.tup (.inl (.inl upd_same)) (.cons (.str _) (.cons (.tup (.inl (.inl (same_new _ ht _ _ htp))) (.cons (dv _) (.cons (di _) .nil))) .nil)))
    refine ⟨fun σ' H' => (∃ t sx, σ' = [some (.ref a), some (.str n), some v, some (.ref t), sx, none] ∧ Q (.ref t) H') ∨
      ∃ x, σ' = [some (.ref a), some (.str n), some v, some .non, some (.ref x), none] ∧ ∀ tp, H' tp = none → Q (.ref tp) (upd H' tp (.tup [.str "made", .ref x])), ?_, ?_⟩
    · obtain ⟨dx, sh, rd, ha, _⟩ := id st
      refine ⟨_, rfl, a, dx, _, rfl, sF _ _ ha, rfl, _, rfl, _, rfl, F0, a, v, n, ts, g, r, rfl, sF, st, ok, gok, rok, dv, gno, fun hn => ⟨fun t i e => fun d tp H1 s1 hd htp => ⟨false, R.rm, (fun q => nomatch q), fun _ => ⟨true, R.rr, fun _ a na => ⟨_, rfl, rfl, CR, d, _, _, rfl, R.xR, R.fR, rfl, hd, rfl, (by show 2 ≤ sizeLine; decide), fun t1 ht => .inl ⟨t1, _, rfl, rows (fun _ => .str _) (fun _ => .int _) ((kG hn).1 t i e) s1 htp ht⟩⟩, fun q => nomatch q⟩⟩, fun hfb => ⟨fun hgt H1 s1 => ?_, fun hle x H1 M s1 fr st1 => ?_⟩⟩, fun hn d hd => ?_⟩
      · exact ⟨true, R.mm, fun _ a na => ⟨(by show 1 ≤ sizeLine; decide), fun t ht => .inl ⟨t, _, rfl, ((kG hn).2 hfb).1 hgt _ _ (s1.trans (same_new _ ht)) (.tup (.inl (.inl upd_same)) (.cons (.str _) .nil))⟩⟩, fun q => nomatch q⟩
      · refine .inr ⟨x, rfl, fun tp htp => ((kG hn).2 hfb).2 hle x tp _ M (s1.trans (same_new _ htp)) (fresh_put fr htp) st1 (s1.free htp) (fresh_at fr htp) upd_same⟩
      · refine ⟨false, R.nm, (fun q => nomatch q), fun _ => ⟨false, R.nr, (fun q => nomatch q), fun _ => ⟨true, R.nn, fun _ a na => ⟨_, rfl, rfl, CN, d, _, _, rfl, R.xN, R.fN, rfl, upd_same, rfl, (by show 2 ≤ sizeLine; decide), fun t ht => .inl ⟨t, _, rfl, ?_⟩⟩, fun q => nomatch q⟩⟩⟩
        exact kN hn _ _ ((same_new _ hd).trans (same_new _ ht)) (.tup (.inl (.inl upd_same)) (.cons (.str _) (.cons (.str _) .nil)))
    · rintro σ' H' (⟨t, sx, rfl, q⟩ | ⟨x, rfl, q⟩)
      · exact ⟨_, rfl, rfl, _, rfl, iteT ⟨_, rfl, q⟩⟩
      · exact ⟨_, rfl, rfl, _, rfl, iteF ⟨_, rfl, (by show 2 ≤ sizeLine; decide), q⟩⟩
end
end Fm

/-! ## K07L -/
set_option Elab.async false
set_option maxRecDepth 100000
set_option maxHeartbeats 4000000
namespace Fm
open PySem L2
/-! ### what the law's turns ask of its rows -/
theorem set_at {g : Str → List Row} {n : Str} {R : List Row} : setG g n R n = R := if_pos rfl
theorem set_off {g : Str → List Row} {n m : Str} {R : List Row} (h : m ≠ n) : setG g n R m = g m := if_neg h
theorem find_skip {α β : Type} {f : α → Option β} : ∀ {xs : List α}, (∀ x ∈ xs, f x = none) → xs.findSome? f = none
  | [], _ => rfl
  | x :: xs, h => by
    rw [List.findSome?_cons, h x List.mem_cons_self]
    exact find_skip fun y m => h y (List.mem_cons_of_mem _ m)
/-- all rows are as wide as their tables -/
theorem bad_no {g : Str → List Row} {ts : List Tab} (h : ∀ t ∈ ts, ∀ r ∈ g t.1, r.length = t.2.length) : firstBad g ts = none :=
  find_skip fun t m => by
    rw [first_none fun j r e => h t m r (List.mem_of_getElem? e)]
    rfl
/-- the rows of one table alone have a wrong one -/
theorem bad_one {g : Str → List Row} {n : Str} {R : List Row} {i : Nat} : ∀ {ts : List Tab} {t : Tab}, (ts.map (·.1)).Nodup → t ∈ ts → t.1 = n → firstWrong t.2.length R = some i → (∀ u ∈ ts, ∀ r ∈ g u.1, r.length = u.2.length) → firstBad (setG g n R) ts = some (n, i)
  | [], _, _, m, _, _, _ => by cases m
  | u :: ts, t, nd, m, e, hf, ok => by
    unfold firstBad
    rw [List.findSome?_cons]
    rw [List.map_cons, List.nodup_cons] at nd
    by_cases q : u.1 = n
    · have ut : u = t := by
        rcases List.mem_cons.mp m with m | m
        · exact m.symm
        · exact absurd (List.mem_map.mpr ⟨t, m, e.trans q.symm⟩) nd.1
      subst ut
      rw [q, set_at, hf]
      rfl
    · rw [set_off q, first_none fun j r e => ok u List.mem_cons_self r (List.mem_of_getElem? e)]
      have m2 : t ∈ ts := (List.mem_cons.mp m).elim (fun z => absurd (z ▸ e) q) id
      exact bad_one nd.2 m2 e hf fun v mv => ok v (List.mem_cons_of_mem _ mv)
theorem total_off {g : Str → List Row} {n : Str} {R : List Row} : ∀ {ts : List Tab}, n ∉ ts.map (·.1) → total (setG g n R) ts = total g ts
  | [], _ => rfl
  | u :: ts, h => by
    have z : total (setG g n R) ts = total g ts := total_off fun m => h (List.mem_cons_of_mem _ m)
    have y : setG g n R u.1 = g u.1 := set_off fun e => h (e ▸ List.mem_cons_self)
    show (setG g n R u.1).length + total (setG g n R) ts = (g u.1).length + total g ts
    rw [y, z]
theorem total_set {g : Str → List Row} {n : Str} {R : List Row} : ∀ {ts : List Tab}, (ts.map (·.1)).Nodup → n ∈ ts.map (·.1) → total (setG g n R) ts + (g n).length = total g ts + R.length
  | [], _, m => by cases m
  | u :: ts, nd, m => by
    rw [List.map_cons, List.nodup_cons] at nd
    show (setG g n R u.1).length + total (setG g n R) ts + (g n).length = (g u.1).length + total g ts + R.length
    by_cases q : u.1 = n
    · rw [q, set_at, total_off (q ▸ nd.1)]
      omega
    · have m2 : n ∈ ts.map (·.1) := (List.mem_cons.mp m).elim (fun z => absurd z.symm q) id
      have z := total_set (g := g) (R := R) nd.2 m2
      rw [set_off q]
      omega
theorem total_le {g : Str → List Row} {n : Str} : ∀ {ts : List Tab}, n ∈ ts.map (·.1) → (g n).length ≤ total g ts
  | [], m => by cases m
  | u :: ts, m => by
    show (g n).length ≤ (g u.1).length + total g ts
    rcases List.mem_cons.mp m with e | m
    · have e2 : n = u.1 := e
      rw [e2]
      omega
    · have z := total_le (g := g) m
      omega
/-- rows that are set keep what is asked of them -/
theorem RwOk.set {ts : List Tab} {g : Str → List Row} {t : Tab} {R : List Row} (ok : RwOk ts g) (nd : (ts.map (·.1)).Nodup) (m : t ∈ ts) (h1 : RsOk R) (h2 : ∀ r ∈ R, r.length = t.2.length) : RwOk ts (setG g t.1 R) := by
  refine ⟨fun n => ?_, fun u mu r hr => ?_, fun n hn => ?_⟩
  · by_cases q : n = t.1
    · rw [q, set_at]
      exact h1
    · rw [set_off q]
      exact ok.ok n
  · by_cases q : u.1 = t.1
    · rw [q, set_at] at hr
      obtain ⟨i, hi⟩ := List.getElem?_of_mem mu
      obtain ⟨j, hj⟩ := List.getElem?_of_mem m
      have e : i = j := by
        have li : i < (ts.map (·.1)).length := by rw [List.length_map]; exact (List.getElem?_eq_some_iff.mp hi).1
        refine (List.getElem?_inj li nd).mp ?_
        rw [List.getElem?_map, List.getElem?_map, hi, hj]
        exact congrArg some q
      rw [e, hj] at hi
      rw [← Option.some.inj hi]
      exact h2 r hr
    · rw [set_off q] at hr
      exact ok.wid u mu r hr
  · have q : n ≠ t.1 := fun q => hn (by rw [q]; exact List.mem_map.mpr ⟨t, m, rfl⟩)
    rw [set_off q]
    exact ok.no n hn
theorem RsOk.sub {R S : List Row} (h : RsOk R) (l : S.length ≤ R.length) (s : ∀ r ∈ S, r ∈ R) : RsOk S := ⟨Nat.le_trans l h.len, fun r m => h.wid r (s r m), fun r m => h.val r (s r m)⟩
theorem RsOk.snoc {R : List Row} {r : Row} (h : RsOk R) (l : R.length + 1 ≤ 1000) (w : r.length ≤ 10) (v : ∀ z ∈ r, -1000000000 ≤ z ∧ z ≤ 1000000000) : RsOk (R ++ [r]) := by
  refine ⟨by rw [List.length_append]; exact l, fun s m => ?_, fun s m => ?_⟩
  · rcases List.mem_append.mp m with m | m
    · exact h.wid s m
    · rw [List.mem_singleton.mp m]
      exact w
  · rcases List.mem_append.mp m with m | m
    · exact h.val s m
    · rw [List.mem_singleton.mp m]
      exact v
theorem rep_one {n : Nat} : (List.replicate n (1 : Int)).length = n ∧ ∀ z ∈ List.replicate n (1 : Int), -1000000000 ≤ z ∧ z ≤ 1000000000 :=
  ⟨List.length_replicate, fun z m => by rw [List.eq_of_mem_replicate m]; decide⟩
/-! ### a place of the heap that is left open -/
def cut (F : Hp) (r : Addr) : Hp := fun a => if a = r then none else F a
section
variable {F G H H' M : Hp} {r : Addr} {o : HO}
theorem cut_at : cut F r r = none := if_pos rfl
theorem cut_upd (h : F r = some o) : upd (cut F r) r o = F := funext fun a => by
  by_cases q : a = r
  · rw [q, upd_same, h]
  · rw [upd_ne q]
    exact if_neg q
theorem same_cut (s : Same G F) (h : G r = none) : Same G (cut F r) := fun a u e => by
  show (if a = r then none else F a) = some u
  rw [if_neg fun q => by rw [q, h] at e; cases e]
  exact s a u e
theorem uni_cut (h : M r = none) : upd (uni F M) r o = uni (upd F r o) M := funext fun a => by
  unfold uni
  by_cases q : a = r
  · rw [q, upd_same, upd_same]
  · rw [upd_ne q, upd_ne q]
theorem uni_at (h1 : F r = none) (h2 : M r = none) : uni F M r = none := by
  unfold uni
  rw [h1]
  exact h2
theorem fresh_no {u : HO} (f : Fresh H H' M) (h : H r = some u) : M r = none := by
  cases z : M r with
  | none => rfl
  | some w =>
    rw [(f r w z).1] at h
    cases h
end
section
variable {K : PySem.W.Frag} {H H' : Hp} {D : Addr} {kvs : List (Key × V)} {g : Str → List Row}
theorem put_len {κ : Type} [DecidableEq κ] {kvs : List (κ × V)} {k : κ} {v : V} : (putK kvs k v).length ≤ kvs.length + 1 := by
  unfold putK
  split
  · rw [List.length_map]
    exact Nat.le_succ _
  · rw [List.length_append]
    exact Nat.le_refl _
theorem put_key {κ : Type} [DecidableEq κ] {kvs : List (κ × V)} {k : κ} {v : V} {kv : κ × V} (h : kv ∈ putK kvs k v) : kv.1 = k ∨ ∃ u ∈ kvs, u.1 = kv.1 := by
  unfold putK at h
  split at h
  · obtain ⟨u, m, e⟩ := List.mem_map.mp h
    by_cases q : u.1 = k
    · rw [if_pos q] at e
      rw [← e]
      exact .inl q
    · rw [if_neg q] at e
      exact .inr ⟨u, m, by rw [e]⟩
  · rcases List.mem_append.mp h with m | m
    · exact .inr ⟨kv, m, rfl⟩
    · rw [List.mem_singleton.mp m]
      exact .inl rfl
theorem put_in {κ : Type} [DecidableEq κ] {kvs : List (κ × V)} {k : κ} {v : V} : ∃ kv ∈ putK kvs k v, kv.1 = k := by
  unfold putK
  split
  next h =>
    obtain ⟨u, m, e⟩ := List.any_eq_true.mp h
    refine ⟨_, List.mem_map.mpr ⟨u, m, rfl⟩, ?_⟩
    rw [if_pos (of_decide_eq_true e)]
    exact of_decide_eq_true e
  next => exact ⟨(k, v), List.mem_append_right _ (List.mem_singleton.mpr rfl), rfl⟩
/-- one table's rows are set in a dict -/
theorem Rd1.put {n : Str} {q : Addr} {b : Bool} {R : List Row} (r : Rd1 K H D kvs g) (l : kvs.length ≤ 90) (h' : H' D = some (.dK (putK kvs (Sum.inr n) (.ref q)))) (s : ∀ a o, a ≠ D → H a = some o → H' a = some o) (dv : Dp K (cut H' D) (.ref q) (rowsD b R)) (rok : RsOk R) :
    Rd1 K H' D (putK kvs (Sum.inr n) (.ref q)) (setG g n R) := by
  obtain ⟨_, _, hk, ⟨F, sF, fD, hF⟩, hok⟩ := r
  have sc : Same F (cut H' D) := fun a o e => by
    have na : a ≠ D := ne_of_none e fD
    show (if a = D then none else H' a) = some o
    rw [if_neg na]
    exact s a o na (sF a o e)
  refine ⟨h', by have z := put_len (kvs := kvs) (k := (Sum.inr n : Key)) (v := .ref q); omega, fun kv m => ?_, ⟨cut H' D, fun a o e => ?_, cut_at, fun m => ⟨fun z => ?_, fun v z => ?_⟩⟩, fun m => ?_⟩
  · rcases put_key m with e | ⟨u, mu, e⟩
    · exact ⟨n, e⟩
    · obtain ⟨x, hx⟩ := hk u mu
      exact ⟨x, e ▸ hx⟩
  · by_cases y : a = D
    · rw [y, cut_at] at e
      cases e
    · have z : (if a = D then none else H' a) = some o := e
      rw [if_neg y] at z
      exact z
  · rw [valV_put] at z
    by_cases e : (Sum.inr m : Key) = Sum.inr n
    · rw [if_pos e] at z
      cases z
    · rw [if_neg e] at z
      rw [set_off fun y => e (by rw [y])]
      exact (hF m).1 z
  · rw [valV_put] at z
    by_cases e : (Sum.inr m : Key) = Sum.inr n
    · rw [if_pos e] at z
      cases z
      rw [Sum.inr.inj e, set_at]
      exact ⟨b, dv⟩
    · rw [if_neg e] at z
      rw [set_off fun y => e (by rw [y])]
      obtain ⟨c, dc⟩ := (hF m).2 v z
      exact ⟨c, dp_mono sc _ _ dc⟩
  · by_cases e : m = n
    · rw [e, set_at]
      exact rok
    · rw [set_off e]
      exact hok m
end
/-- what the law keeps while it puts and takes -/
structure Kp (K : PySem.W.Frag) (FS H : Hp) (b rw : Addr) (kvs : List (Key × V)) (ts : List Tab) (g : Str → List Row) : Prop where
  no : FS rw = none
  bag : Bag (upd FS rw (.dK kvs)) H b
  keys : kvs.map (·.1) = ts.map (fun t => (Sum.inr t.1 : Key))
  val : ∀ t ∈ ts, ∃ v, valV kvs (Sum.inr t.1) = some v ∧ LsAt K FS v (g t.1)
  ok : RwOk ts g
section
variable {K : PySem.W.Frag} {FS H H' : Hp} {b rw : Addr} {kvs : List (Key × V)} {ts : List Tab} {g : Str → List Row}
theorem Kp.same (k : Kp K FS H b rw kvs ts g) : Same FS H := (same_put (Same.refl _) _ k.no).trans k.bag.fh
theorem Kp.here (k : Kp K FS H b rw kvs ts g) : H rw = some (.dK kvs) := k.bag.fh _ _ upd_same
theorem Kp.go (k : Kp K FS H b rw kvs ts g) (s : Same H H') : Kp K FS H' b rw kvs ts g := ⟨k.no, bag_same k.bag s, k.keys, k.val, k.ok⟩
theorem Kp.bagged (k : Kp K FS H b rw kvs ts g) (B : Bag (upd FS rw (.dK kvs)) H' b) : Kp K FS H' b rw kvs ts g := ⟨k.no, B, k.keys, k.val, k.ok⟩
theorem Kp.short (k : Kp K FS H b rw kvs ts g) (ok : TsOk ts) : kvs.length ≤ 5 := by
  have z := congrArg List.length k.keys
  rw [List.length_map, List.length_map] at z
  have y := ok.hi
  omega
theorem Kp.key (k : Kp K FS H b rw kvs ts g) : ∀ kv ∈ kvs, ∃ n, kv.1 = Sum.inr n ∧ n ∈ ts.map (·.1) := fun kv m => by
  have z : kv.1 ∈ kvs.map (·.1) := List.mem_map.mpr ⟨kv, m, rfl⟩
  rw [k.keys] at z
  obtain ⟨t, mt, e⟩ := List.mem_map.mp z
  exact ⟨t.1, e.symm, List.mem_map.mpr ⟨t, mt, rfl⟩⟩
/-- the dict of the law, as what a store is made of -/
theorem Kp.rd (k : Kp K FS H b rw kvs ts g) (ok : TsOk ts) : Rd1 K H rw kvs g := by
  refine ⟨k.here, by have z := k.short ok; omega, fun kv m => (k.key kv m).imp fun _ h => h.1, ⟨FS, k.same, k.no, fun n => ⟨fun z => k.ok.no n fun m => ?_, fun v z => ?_⟩⟩, k.ok.ok⟩
  · obtain ⟨t, mt, e⟩ := List.mem_map.mp m
    obtain ⟨v, hv, _⟩ := k.val t mt
    rw [e, z] at hv
    cases hv
  · have m : (Sum.inr n : Key) ∈ kvs.map (·.1) := by
      unfold valV at z
      obtain ⟨kv, h1, _⟩ := Option.map_eq_some_iff.mp z
      exact List.mem_map.mpr ⟨kv, List.mem_of_find?_eq_some h1, by have y := List.find?_some h1; simpa using y⟩
    rw [k.keys] at m
    obtain ⟨t, mt, e⟩ := List.mem_map.mp m
    obtain ⟨v2, hv, dv⟩ := k.val t mt
    have en : t.1 = n := Sum.inr.inj e
    rw [en] at hv dv
    rw [hv] at z
    cases z
    exact ⟨true, dv.dp⟩
theorem Kp.rwat (k : Kp K FS H b rw kvs ts g) : RwAt K H rw ts g := ⟨kvs, k.here, fun t m => by
  obtain ⟨v, h1, h2⟩ := k.val t m
  exact ⟨v, h1, dp_mono k.same _ _ h2.dp⟩⟩
/-- a copy of the dict, as what a store is made of -/
theorem Kp.copy (k : Kp K FS H b rw kvs ts g) (ok : TsOk ts) {D : Addr} (hD : H D = none) : Rd1 K (upd H D (.dK kvs)) D kvs g := by
  obtain ⟨_, h1, h2, ⟨F, s, f, h3⟩, h4⟩ := k.rd ok
  exact ⟨upd_same, h1, h2, ⟨F, s.trans (same_new _ hD), s.free hD, h3⟩, h4⟩
/-- something is made beside -/
theorem Kp.grow {M : Hp} (k : Kp K FS H b rw kvs ts g) (s : Same H H') (f : Fresh H H' M) : Kp K (uni FS M) H' b rw kvs ts g := by
  have m0 := fresh_no f k.here
  refine ⟨uni_at k.no m0, ?_, k.keys, fun t m => ?_, k.ok⟩
  · rw [uni_cut m0]
    exact k.bag.grow (grow_fresh k.bag.fh s f)
  · obtain ⟨v, h1, h2⟩ := k.val t m
    exact ⟨v, h1, h2.same same_uni⟩
/-- the law's rows of a table are set -/
theorem Kp.put {p : Addr} {xs : List V} {t : Tab} {R : List Row} (k : Kp K FS H b rw kvs ts g) (ok : TsOk ts) (m : t ∈ ts) (hp : H p = none) (dx : DpAll K FS xs (R.map rowD)) (h1 : RsOk R) (h2 : ∀ r ∈ R, r.length = t.2.length) :
    Kp K (upd FS p (.lst xs)) (upd (upd H p (.lst xs)) rw (.dK (putK kvs (Sum.inr t.1) (.ref p)))) b rw (putK kvs (Sum.inr t.1) (.ref p)) ts (setG g t.1 R) := by
  have nr : rw ≠ p := ne_of_none k.here hp
  have fp : FS p = none := k.same.free hp
  have s : Same FS (upd FS p (.lst xs)) := same_new _ fp
  have km : (Sum.inr t.1 : Key) ∈ kvs.map (·.1) := by
    rw [k.keys]
    exact List.mem_map.mpr ⟨t, m, rfl⟩
  refine ⟨by rw [upd_ne nr]; exact k.no, ?_, (keys_put km).trans k.keys, fun u mu => ?_, k.ok.set ok.nd m h1 h2⟩
  · have B := (k.bag.new (.lst xs) hp).put (.dK (putK kvs (Sum.inr t.1) (.ref p))) (show (upd (upd FS rw (.dK kvs)) p (.lst xs)) rw = some (.dK kvs) by rw [upd_ne nr, upd_same])
    have e : upd (upd (upd FS rw (.dK kvs)) p (.lst xs)) rw (.dK (putK kvs (Sum.inr t.1) (.ref p))) = upd (upd FS p (.lst xs)) rw (.dK (putK kvs (Sum.inr t.1) (.ref p))) := funext fun a => by
      by_cases q : a = rw
      · rw [q, upd_same, upd_same]
      · rw [upd_ne q, upd_ne q]
        by_cases z : a = p
        · rw [z, upd_same, upd_same]
        · rw [upd_ne z, upd_ne z, upd_ne q]
    rw [e] at B
    exact B
  · rw [valV_put]
    by_cases q : u.1 = t.1
    · rw [if_pos (show (Sum.inr u.1 : Key) = Sum.inr t.1 by rw [q]), q, set_at]
      exact ⟨_, rfl, _, _, rfl, upd_same, dpA_mono s _ _ dx⟩
    · rw [if_neg (fun e => q (Sum.inr.inj e)), set_off q]
      obtain ⟨v, hv, dv⟩ := k.val u mu
      exact ⟨v, hv, dv.same s⟩
/-- what stands ahead of a turn -/
def Turn (K : PySem.W.Frag) (CS CT a b p x rw q1 l : Addr) (ts : List Tab) (t : Tab) (zs : List Int) (σ : L2.St) (H : Hp) : Prop :=
  ∃ (F2 : Hp) (kv : List (Key × V)) (g2 : Str → List Row) (m2 : Nat) (y2 : Addr) (v8 v9 v10 v14 : Option V),
      σ = [some (.ref a), some (.ref b), some (.ref p), some (.ref x), some (.int m2), some (.ref rw), some (.str t.1), some (.ref q1), v8, v9, v10, some (.ref y2), none, some (.ref l), v14] ∧ Kp K F2 H b rw kv ts g2 ∧ total g2 ts = m2 ∧ m2 ≤ 300 ∧ StAt K CS CT F2 y2 ts g2 ∧ ShAt K CS F2 x ts ∧ TbAt K F2 p ts ∧ F2 l = some (.tup (zs.map V.int))
/-- a row more is too wide -/
theorem bad_last {t : Tab} {r : Row} (h : RwOk ts g) (nd : (ts.map (·.1)).Nodup) (m : t ∈ ts) (n : r.length ≠ t.2.length) : firstBad (setG g t.1 (g t.1 ++ [r])) ts = some (t.1, (g t.1).length) := by
  refine bad_one nd m rfl (first_hit (i := (g t.1).length) (r := r) (fun j s hj e => ?_) ?_ n) h.wid
  · rw [List.getElem?_append_left hj] at e
    exact h.wid t m s (List.mem_of_getElem? e)
  · rw [List.getElem?_append_right (Nat.le_refl _), Nat.sub_self]
    rfl
end
end Fm

/-! ## K07O -/
set_option Elab.async false
set_option maxRecDepth 100000
set_option maxHeartbeats 8000000
namespace Fm
open PySem L2
section
variable {K : PySem.W.Frag} {CS : Addr}
/-- what a made shape adds -/
theorem shape_new {H1 H' N : Hp} {x dx : Addr} {v : V} {ts : List Tab} (nx : H1 x = none) (nd : H1 dx = none) (ne : dx ≠ x)
    (h1 : ∀ c o, c ≠ x → (upd (upd H1 dx (.own x)) x (.ins CS dx [])) c = some o → H' c = some o) (h2 : H' x = some (.ins CS dx (shF v)))
    (h3 : ∀ c o, N c = some o → (upd (upd H1 dx (.own x)) x (.ins CS dx [])) c = none ∧ H' c = some o) (h4 : Dp K N v (.tuple (ts.map (tabD false)))) :
    ∃ M, Fresh H1 H' M ∧ Same H1 H' ∧ ShAt K CS M x ts := by
  have nN : N x = none := by
    cases q : N x with
    | none => rfl
    | some o =>
      have z := (h3 x o q).1
      rw [upd_same] at z
      cases z
  refine ⟨upd N x (.ins CS dx (shF v)), fun a o e => ?_, fun a o e => ?_, dx, v, upd_same, dp_mono (fun a o e => ?_) _ _ h4⟩
  · by_cases z : a = x
    · subst z
      rw [upd_same] at e
      cases e
      exact ⟨nx, h2⟩
    · rw [upd_ne z] at e
      obtain ⟨q1, q2⟩ := h3 a o e
      rw [upd_ne z] at q1
      by_cases y : a = dx
      · rw [y, upd_same] at q1
        cases q1
      · rw [upd_ne y] at q1
        exact ⟨q1, q2⟩
  · have n1 : a ≠ x := ne_of_none e nx
    refine h1 a o n1 ?_
    rw [upd_ne n1, upd_ne (ne_of_none e nd)]
    exact e
  · rw [upd_ne (ne_of_none e nN)]
    exact e
theorem same_make {H1 : Hp} {x dx : Addr} (nx : H1 x = none) (nd : H1 dx = none) : Same H1 (upd (upd H1 dx (.own x)) x (.ins CS dx [])) := fun a o e => by
  rw [upd_ne (ne_of_none e nx), upd_ne (ne_of_none e nd)]
  exact e
theorem tabs_all : ∀ ts : List Tab, TabsD (ts.map (tabD false)) ts
  | [] => .nil
  | t :: ts => .cons ⟨false, rfl⟩ (tabs_all ts)
theorem dpA_at' {H : Hp} : ∀ {ds : List PyData} {vs : List V} {i : Nat} {d : PyData}, DpAll K H vs ds → ds[i]? = some d → ∃ v, vs[i]? = some v ∧ Dp K H v d
  | [], _, _, _, _, e => by simp at e
  | _ :: _, _, 0, _, h, e => by
    cases h with
    | cons h1 h2 =>
      cases e
      exact ⟨_, rfl, h1⟩
  | _ :: _, _, i + 1, _, h, e => by
    cases h with
    | cons h1 h2 =>
      rw [List.getElem?_cons_succ] at e
      obtain ⟨v, h3, h4⟩ := dpA_at' h2 e
      exact ⟨v, by rw [List.getElem?_cons_succ]; exact h3, h4⟩
theorem dn_pair {a b : PyData} {s : Str} (ha : Dn 2 a) (hb : Dn 2 b) : Dn 4 (.tuple [.str s, .tuple [a, b]]) := by
  refine .tuple 3 _ (fun c m => ?_) (by show 2 ≤ 100000; decide)
  rcases List.mem_cons.mp m with rfl | m
  · exact .str 2 _
  · rw [List.mem_singleton.mp m]
    refine .tuple 2 _ (fun c m => ?_) (by show 2 ≤ 100000; decide)
    rcases List.mem_cons.mp m with rfl | m
    · exact ha
    · rw [List.mem_singleton.mp m]
      exact hb
theorem dn_name {s z : Str} : Dn 4 (.tuple [.str s, .str z]) := by
  refine .tuple 3 _ (fun c m => ?_) (by show 2 ≤ 100000; decide)
  rcases List.mem_cons.mp m with rfl | m
  · exact .str 2 _
  · rw [List.mem_singleton.mp m]
    exact .str 2 _
theorem no_z {ts : List Tab} (ok : TsOk ts) {n : Str} (h : isNm n = false) : n ∉ ts.map (·.1) := fun m => by
  obtain ⟨t, mt, e⟩ := List.mem_map.mp m
  have z := (ok.ok t mt).nm
  rw [e, h] at z
  cases z
end
section
variable {P : Program} {w : World} {K : PySem.W.Frag} {mg : Str → Option Value} {base : Heap} {CS CT CR CN CM : Addr}
def spLaw (K : PySem.W.Frag) : Sp := fun vs H Q _ => ∃ (a : Addr) (ns : List Int), vs = [.ref a] ∧ SqL K H a (ns.map V.int) ∧ ns.length ≤ 63 ∧ ∀ H', Q (.bl true) H'
abbrev s_law : Stmt := topS 40
abbrev sc_lawN : List Str := ["_law_script", "_law_bag_here", "_law_tables_here", "_law_shape", "_law_many", "_law_rows", "_law_name_here", "_law_fields", "_law_at", "_law_wrong", "_law_found", "_law_store", "_law_field", "_law_row", "_law_k"]
abbrev ps_law : List Str := ["_law_script"]
theorem sc_law : FnScope sc_lawN ps_law (defScope s_law) := ⟨rfl, rfl, rfl, by decide +kernel, rfl, by decide +kernel, by decide +kernel⟩
theorem ok_law {f : Addr} {fd : FuncData} (F : Fun K "law" "law" s_law f fd) (T : Txt K mg CS) (T2 : Tx2 K mg CT CR CN CM) (D_l_bag : Df P w K mg base "_law_bag" 1 ps_l_bag (spBag K)) (D_l_pick : Df P w K mg base "_law_pick" 1 ps_l_pick spPick) (D_l_tables : Df P w K mg base "_law_tables" 3 ps_l_tables (spTables K))
    (D_Shape : Dc P w K mg base "Shape" CS 5 ps_Shape_init (spShInit K CS)) (D_l_value : Df P w K mg base "_law_value" 2 ps_l_value spValue) (D_l_dealt : Df P w K mg base "_law_dealt" 3 ps_l_dealt (spDealt K)) (D_l_made : Df P w K mg base "_law_made" 7 ps_l_made (spMade K CS CT))
    (D_l_put : Df P w K mg base "_law_put" 9 ps_l_put (spPut K CS CT)) (D4 : Df P w K mg base "_law_alike" 4 ps_l_alike (spAlike K 4)) (D_l_tells : Df P w K mg base "_law_tells" 5 ps_l_tells (spTells K CS CT)) (D_without_row : DmX P w K mg base CT "without_row" 8 ps_Store_without_row (spWithout K CS CT CR CM)) :
    FnOk P w K mg base CX0 10 f fd ps_law (spLaw K) := by
  refine F.ok sc_law (fun vs H Q E h => ?_) (fun cdv A outer s H vs Q E hr h => ?_)
  · obtain ⟨_, _, rfl, _⟩ := h
    rfl
  · obtain ⟨a, ns, rfl, hs, len, k⟩ := h
    refine ⟨_, (pss_cons (ps_set (i := 1) sc_law.nd rfl (Or.inr rfl) (pe_d D_l_bag (hr.mono (by decide)) (pa_cons (pv 0) pa_nil)))
  (pss_cons (ps_set (i := 2) sc_law.nd rfl (Or.inl rfl) (pe_d D_l_tables (hr.mono (by decide)) (pa_cons (pv 1) pa_nil)))
  (pss_cons (ps_set (i := 3) sc_law.nd rfl (Or.inl rfl) (pe_dc D_Shape (hr.mono (by decide)) (pa_cons (pv 2) pa_nil)))
  (pss_cons (ps_set (i := 4) sc_law.nd rfl (Or.inl rfl) (pe_op op_add pe_int (pe_d D_l_pick (hr.mono (by decide)) (pa_cons (pv 1) (pa_cons pe_int pa_nil)))))
  (pss_cons (ps_set (i := 5) sc_law.nd rfl (Or.inl rfl) (pe_d D_l_dealt (hr.mono (by decide)) (pa_cons (pv 1) (pa_cons (pv 2) (pa_cons (pv 4) pa_nil)))))
  (pss_cons (ps_asg (pe_ix ix_list (pv 2) (pe_d D_l_pick (hr.mono (by decide)) (pa_cons (pv 1) (pa_cons (pe_callB call_len_seq (by rfl) T.n_len (by decide +kernel) (pa_cons (pv 2) pa_nil)) pa_nil))) (fun _ _ => rfl)) (pg_tup (by rfl) (pgs_cons (pg_name (i := 6) sc_law.nd rfl (Or.inl rfl)) (pgs_cons (pg_name (i := 7) sc_law.nd rfl (Or.inl rfl)) pgs_nil))))
  (Evl.pss_cut (ps_if (PW.pt (pw_and (pt_cmpR op_eq (pe_d D_l_pick (hr.mono (by decide)) (pa_cons (pv 1) (pa_cons pe_int pa_nil))) pe_int (nomark _)) (pw_and1 (pt_cmpR op_gt (pe_callB call_len_seq (by rfl) T.n_len (by decide +kernel) (pa_cons (pe_dget (Nat.lt_of_le_of_lt (Nat.add_le_add_left (by decide) _) hr.units) (pv 5) (pv 6) (fun _ _ => rfl)) pa_nil)) pe_int (nomark _)))))
    (pss_cons (ps_set (i := 8) sc_law.nd rfl (Or.inl rfl) (pe_d D_l_pick (hr.mono (by decide)) (pa_cons (pv 1) (pa_cons (pe_callB call_len_seq (by rfl) T.n_len (by decide +kernel) (pa_cons (pe_dget (Nat.lt_of_le_of_lt (Nat.add_le_add_left (by decide) _) hr.units) (pv 5) (pv 6) (fun _ _ => rfl)) pa_nil)) pa_nil))))
    (pss_cons (ps_set (i := 9) sc_law.nd rfl (Or.inl rfl) (pe_callTy call_dictD (by rfl) T.n_dict (by decide +kernel) (pa_cons (pv 5) pa_nil)))
    (pss_cons (ps_asg (pe_op op_cat (pe_op op_cat (pe_slice sl_list (pe_dget (Nat.lt_of_le_of_lt (Nat.add_le_add_left (by decide) _) hr.units) (pv 5) (pv 6) (fun _ _ => rfl)) po_none (po_some (pv 8))) (pe_lst (pa_cons (pe_op op_repT (pe_tup (pa_cons pe_int pa_nil)) (pe_op op_add (pe_callB call_len_seq (by rfl) T.n_len (by decide +kernel) (pa_cons (pv 7) pa_nil)) pe_int)) pa_nil))) (pe_slice sl_list (pe_dget (Nat.lt_of_le_of_lt (Nat.add_le_add_left (by decide) _) hr.units) (pv 5) (pv 6) (fun _ _ => rfl)) (po_some (pe_op op_add (pv 8) pe_int)) po_none)) (pg_sub (pv 9) (pv 6) (set_dict (Nat.lt_of_le_of_lt (Nat.add_le_add_left (by decide) _) hr.units))))
    (pss_cons (ps_if (pt_not (pt_val (pe_d D4 (hr.mono (by decide)) (pa_cons (pe_d D_l_made (hr.mono (by decide)) (pa_cons (pv 3) (pa_cons (pv 9) pa_nil))) (pa_cons (pe_tup (pa_cons pe_str (pa_cons (pe_tup (pa_cons (pv 6) (pa_cons (pv 8) pa_nil))) pa_nil))) pa_nil)))))
      (pss_one (ps_ret pe_bl))
      pss_nil)
    (pss_cons (ps_asg (pe_lst pa_nil) (pg_sub (pv 9) pe_str (set_dict (Nat.lt_of_le_of_lt (Nat.add_le_add_left (by decide) _) hr.units))))
    (pss_one (ps_if (pt_not (pt_val (pe_d D4 (hr.mono (by decide)) (pa_cons (pe_d D_l_made (hr.mono (by decide)) (pa_cons (pv 3) (pa_cons (pv 9) pa_nil))) (pa_cons (pe_tup (pa_cons pe_str (pa_cons (pe_tup (pa_cons pe_non (pa_cons (pe_un un_neg pe_int) pa_nil))) pa_nil))) pa_nil)))))
      (pss_one (ps_ret pe_bl))
      pss_nil)))))))
    pss_nil)
  (pss_cons (ps_set (i := 10) sc_law.nd rfl (Or.inl rfl) (pe_d D_l_made (hr.mono (by decide)) (pa_cons (pv 3) (pa_cons (pv 5) pa_nil))))
  (pss_cons (ps_if (pt_cmpR op_gt (pv 4) pe_int (nomark _))
    (pss_one (ps_ret (pe_cmpR (op_eqD hr.units) (pv 10) (pe_tup (pa_cons pe_str pa_nil)) (nomark _))))
    pss_nil)
  (pss_cons (ps_if (PW.pt (pw_or (pt_cmpR op_ne (pe_ix ix_tup (pv 10) pe_int (fun _ _ => rfl)) pe_str (nomark _)) (pw_or1 (pt_not (pt_val (pe_d D_l_tells (hr.mono (by decide)) (pa_cons (pe_ix ix_tup (pv 10) pe_int (fun _ _ => rfl)) (pa_cons (pv 2) (pa_cons (pv 5) pa_nil)))))))))
    (pss_one (ps_ret pe_bl))
    pss_nil)
  (pss_cons (ps_set (i := 11) sc_law.nd rfl (Or.inl rfl) (pe_ix ix_tup (pv 10) pe_int (fun _ _ => rfl)))
  (pss_cons (ps_set (i := 13) sc_law.nd rfl (Or.inl rfl) (pe_callTy call_tuple_of (by rfl) T.n_tuple (by decide +kernel) (pa_cons (pe_lc (own := [("_law_field", 12)]) (g := gName 12) (tt := tYes) (by rfl) sc_law.nd (pi_tup (pv 7)) (blkOk_by (own := [("_law_field", 12)]) (N := sc_lawN) (sc := defScope s_law) (by decide +kernel)) (fun _ _ _ _ _ => pg_name (i := 12) sc_law.nd rfl (Or.inl rfl)) (fun _ _ _ _ _ => pts_nil) (fun _ _ _ _ _ => (pe_d D_l_value (hr.mono (by decide)) (pa_cons (pv 1) pa_nil)))) pa_nil)))
  (pss_cons (ps_for PassesOwn.never rfl (pi_range1 (by rfl) T.n_range (pa_cons pe_int pa_nil)) (pg_name (i := 14) sc_law.nd rfl (Or.inl rfl))
    (pss_cons (ps_if (pt_not (pt_val (pe_d D4 (hr.mono (by decide)) (pa_cons (pe_d D_l_put (hr.mono (by decide)) (pa_cons (pv 11) (pa_cons (pv 6) (pa_cons (pe_op op_catT (pv 13) (pe_tup (pa_cons pe_int pa_nil))) pa_nil)))) (pa_cons (pe_tup (pa_cons pe_str (pa_cons (pe_tup (pa_cons (pv 6) (pa_cons (pe_callB call_len_seq (by rfl) T.n_len (by decide +kernel) (pa_cons (pe_dget (Nat.lt_of_le_of_lt (Nat.add_le_add_left (by decide) _) hr.units) (pv 5) (pv 6) (fun _ _ => rfl)) pa_nil)) pa_nil))) pa_nil))) pa_nil)))))
      (pss_one (ps_ret pe_bl))
      pss_nil)
    (pss_cons (ps_if (pt_not (pt_val (pe_d D4 (hr.mono (by decide)) (pa_cons (pe_d D_l_put (hr.mono (by decide)) (pa_cons (pv 11) (pa_cons pe_str (pa_cons (pv 13) pa_nil)))) (pa_cons (pe_tup (pa_cons pe_str (pa_cons pe_str pa_nil))) pa_nil)))))
      (pss_one (ps_ret pe_bl))
      pss_nil)
    (pss_cons (ps_set (i := 10) sc_law.nd rfl (Or.inl rfl) (pe_d D_l_put (hr.mono (by decide)) (pa_cons (pv 11) (pa_cons (pv 6) (pa_cons (pv 13) pa_nil)))))
    (Evl.pss_cut (ps_if (pt_cmpR op_eq (pv 4) pe_int (nomark _))
      (pss_cons (ps_if (PW.pt (pw_or (pt_cmpR (op_neD hr.units) (pv 10) (pe_tup (pa_cons pe_str pa_nil)) (nomark _)) (pw_or1 (pt_not (pt_val (pe_d D_l_tells (hr.mono (by decide)) (pa_cons (pv 11) (pa_cons (pv 2) (pa_cons (pv 5) pa_nil)))))))))
        (pss_one (ps_ret pe_bl))
        pss_nil)
      (pss_cons (ps_if (pt_cmpR op_eq (pe_callB call_len_seq (by rfl) T.n_len (by decide +kernel) (pa_cons (pe_dget (Nat.lt_of_le_of_lt (Nat.add_le_add_left (by decide) _) hr.units) (pv 5) (pv 6) (fun _ _ => rfl)) pa_nil)) pe_int (nomark _))
        (pss_one (ps_ret pe_bl))
        pss_nil)
      (pss_cons (ps_set (i := 8) sc_law.nd rfl (Or.inl rfl) (pe_d D_l_pick (hr.mono (by decide)) (pa_cons (pv 1) (pa_cons (pe_callB call_len_seq (by rfl) T.n_len (by decide +kernel) (pa_cons (pe_dget (Nat.lt_of_le_of_lt (Nat.add_le_add_left (by decide) _) hr.units) (pv 5) (pv 6) (fun _ _ => rfl)) pa_nil)) pa_nil))))
      (pss_cons (ps_set (i := 11) sc_law.nd rfl (Or.inl rfl) (pe_dmE (W := fun _ _ _ _ => False) (pv 11) T2.clT D_without_row (hr.mono (by decide)) takes0 (pa_cons (pv 6) (pa_cons (pv 8) pa_nil))))
      (pss_cons (ps_asg (pe_op op_cat (pe_slice sl_list (pe_dget (Nat.lt_of_le_of_lt (Nat.add_le_add_left (by decide) _) hr.units) (pv 5) (pv 6) (fun _ _ => rfl)) po_none (po_some (pv 8))) (pe_slice sl_list (pe_dget (Nat.lt_of_le_of_lt (Nat.add_le_add_left (by decide) _) hr.units) (pv 5) (pv 6) (fun _ _ => rfl)) (po_some (pe_op op_add (pv 8) pe_int)) po_none)) (pg_sub (pv 5) (pv 6) (set_dict (Nat.lt_of_le_of_lt (Nat.add_le_add_left (by decide) _) hr.units))))
      (pss_one (ps_set (i := 4) sc_law.nd rfl (Or.inl rfl) pe_int)))))))
      (pss_cons (ps_if (pt_cmpR op_ne (pe_ix ix_tup (pv 10) pe_int (fun _ _ => rfl)) pe_str (nomark _))
        (pss_one (ps_ret pe_bl))
        pss_nil)
      (pss_cons (ps_set (i := 11) sc_law.nd rfl (Or.inl rfl) (pe_ix ix_tup (pv 10) pe_int (fun _ _ => rfl)))
      (pss_cons (ps_asg (pe_op op_cat (pe_dget (Nat.lt_of_le_of_lt (Nat.add_le_add_left (by decide) _) hr.units) (pv 5) (pv 6) (fun _ _ => rfl)) (pe_lst (pa_cons (pv 13) pa_nil))) (pg_sub (pv 5) (pv 6) (set_dict (Nat.lt_of_le_of_lt (Nat.add_le_add_left (by decide) _) hr.units))))
      (pss_one (ps_set (i := 4) sc_law.nd rfl (Or.inl rfl) (pe_op op_add (pv 4) pe_int)))))))
    (pss_one (ps_if (pt_not (pt_val (pe_d D_l_tells (hr.mono (by decide)) (pa_cons (pv 11) (pa_cons (pv 2) (pa_cons (pv 5) pa_nil))))))
      (pss_one (ps_ret pe_bl))
      pss_nil)))))))
  (pss_one (ps_ret pe_bl))))))))))))))), ?_⟩
    refine ⟨_, rfl, a, ns, rfl, hs, len, fun b H1 B1 => ?_⟩
    refine ⟨_, rfl, nil0, b, rfl, B1, fun p F1 H2 ts B2 _ ok tb => ?_⟩
    obtain ⟨xs, hp, dxs⟩ := id tb
    have lx : xs.length = ts.length := by rw [dpA_len dxs, List.length_map]
    have lo := ok.lo
    have hi := ok.hi
    refine ⟨_, rfl, fun x dx nx nd ne => ?_⟩
    have sm : Same F1 (upd (upd H2 dx (.own x)) x (.ins CS dx [])) := B2.fh.trans (same_make nx nd)
    refine ⟨x, dx, p, xs, .list (ts.map (tabD false)), _, ts, rfl, upd_same, .inl ⟨rfl, sm.seq (.inl (.inl hp))⟩, dpA_mono sm _ _ dxs, tabs_all ts, ok, fun v H5 N h1 h2 h3 h4 => ⟨rfl, ?_⟩⟩
    obtain ⟨M, frM, s5, shM⟩ := shape_new nx nd ne h1 h2 h3 h4
    have B5 := B2.grow (grow_fresh B2.fh s5 frM)
    have shA : ShAt K CS (uni F1 M) x ts := shM.same (same_grow B2.fh frM)
    have tbA := tb.same (same_uni (M := M))
    generalize uni F1 M = FA at *
    refine ⟨_, rfl, FA, b, 7, rfl, by decide, by decide, B5, fun r0 H6 q0 q1 B6 => ⟨_, _, rfl, rfl, ?_⟩⟩
    obtain ⟨m, em, m0, m1⟩ : ∃ m : Nat, (297 : Int) + r0 = (m : Int) ∧ 297 ≤ m ∧ m ≤ 303 := ⟨(297 + r0).toNat, by omega, by omega, by omega⟩
    show gName 4 (V.int (297 + r0)) _ _ _
    rw [em]
    refine ⟨_, rfl, _, rfl, _, rfl, FA, b, p, m, ts, rfl, B6, tbA, ok, by omega, fun rw g F' H7 B7 s7 f0 ⟨kvs, FV, hrw, ek, sFV, fV, val⟩ ro tot => ?_⟩
    have kp : Kp K (cut F' rw) H7 b rw kvs ts g := ⟨cut_at, by rw [cut_upd hrw]; exact B7, ek, fun t mt => by obtain ⟨v, h1, h2⟩ := val t mt; exact ⟨v, h1, h2.same (same_cut sFV fV)⟩, ro⟩
    have shC := shA.same (same_cut s7 f0)
    have tbC := tbA.same (same_cut s7 f0)
    generalize cut F' rw = FS at *
    clear hrw sFV fV B7 f0 h1 h2 h3 h4 s5 frM shM hp dxs ek val
    obtain ⟨xs, hp, dxs⟩ := id tbC
    have lx : xs.length = ts.length := by rw [dpA_len dxs, List.length_map]
    -- a table
    refine ⟨_, rfl, _, rfl, _, rfl, p, xs, rfl, .inl (.inl (.inl (kp.same _ _ hp))), _, b, (xs.length : Int), rfl, by omega, by omega, kp.bag, fun r1 H8 r10 r11 B8 => ?_⟩
    have kp := kp.bagged B8
    obtain ⟨j, rfl⟩ : ∃ j : Nat, r1 = (j : Int) := ⟨r1.toNat, by omega⟩
    obtain ⟨t, ht⟩ : ∃ t, ts[j]? = some t := ⟨_, List.getElem?_eq_getElem (by omega)⟩
    obtain ⟨u, hu, du⟩ := dpA_at' dxs (show (ts.map (tabD false))[j]? = some (tabD false t) by rw [List.getElem?_map, ht]; rfl)
    obtain ⟨p1, q1, rfl, hp1, _, _, hq⟩ := tab_inv du
    have hq1 := hq rfl
    have mt := List.mem_of_getElem? ht
    have mn : t.1 ∈ ts.map (·.1) := List.mem_map.mpr ⟨t, mt, rfl⟩
    refine ⟨p, xs, j, _, rfl, rfl, .inl (.inl (kp.same _ _ hp)), atI_nat hu, p1, _, rfl, same_sqT kp.same hp1, rfl, _, _, rfl, _, _, rfl, rfl, ?_⟩
    -- a wrong row
    refine ⟨fun σ' H' => ∃ v8 v9, σ' = [some (.ref a), some (.ref b), some (.ref p), some (.ref x), some (.int m), some (.ref rw), some (.str t.1), some (.ref q1), v8, v9, none, none, none, none, none] ∧ Kp K FS H' b rw kvs ts g, ?_, ?_⟩
    · obtain ⟨v0, hv0, pl, rs, rfl, hl, dl⟩ := kp.val t mt
      have short := kp.short ok
      have gl : (g t.1).length ≤ 303 := by have z := total_le (g := g) mn; omega
      have lr : rs.length = (g t.1).length := by rw [dpA_len dl, List.length_map]
      have lf := (ok.ok t mt).fs.hi
      have dg : ∀ {G : Hp}, G rw = some (.dK kvs) → DGet G rw (.str t.1) (some (.ref pl)) := fun e => .inl ⟨kvs, Sum.inr t.1, .inl e, rfl, hv0.symm⟩
      refine ⟨_, rfl, _, b, 3, rfl, by decide, by decide, kp.bag, fun r2 H9 r20 r21 B9 => ⟨rfl, _, rfl, ifd (fun _ => ?_) fun _ => iteF ⟨none, none, rfl, kp.bagged B9⟩⟩⟩
      have kp := kp.bagged B9
      refine ⟨_, rfl, _, rfl, rw, _, rfl, dg kp.here, pl, rs, rfl, .inl (.inl (.inl (kp.same _ _ hl))), _, _, rfl, rfl, _, rfl, ifd (fun hpos => ?_) fun _ => ⟨none, none, rfl, kp⟩⟩
      refine ⟨_, rfl, _, rfl, _, rfl, rw, _, rfl, dg kp.here, pl, rs, rfl, .inl (.inl (.inl (kp.same _ _ hl))), _, b, (rs.length : Int), rfl, by omega, by omega, kp.bag, fun r3 H10 r30 r31 B10 => ?_⟩
      have kp := kp.bagged B10
      obtain ⟨i, rfl⟩ : ∃ i : Nat, r3 = (i : Int) := ⟨r3.toNat, by omega⟩
      have hi2 : i < rs.length := by omega
      refine ⟨_, rfl, rw, kvs, rfl, .inl kp.here, fun D hD => ?_⟩
      have rd := kp.copy ok hD
      have kA := kp.go (same_new (.dK kvs) hD)
      have s10 := same_new (.dK kvs) hD
      have fD : FS D = none := kp.same.free hD
      have hDa : (upd H10 D (.dK kvs)) D = some (.dK kvs) := upd_same
      generalize upd H10 D (.dK kvs) = Ha at *
      -- the rows ahead of it
      refine ⟨_, rfl, _, rfl, rw, _, rfl, dg kA.here, _, rfl, _, rfl, pl, rs, rfl, .inl (.inl (kA.same _ _ hl)), ?_⟩
      rw [cutV_to]
      intro a1 ha1
      have kB := kA.go (same_new (.lst (rs.take i)) ha1)
      have sB : ∀ {c o}, Ha c = some o → (upd Ha a1 (.lst (rs.take i))) c = some o := fun e => same_new _ ha1 _ _ e
      have h1 : (upd Ha a1 (.lst (rs.take i))) a1 = some (.lst (rs.take i)) := upd_same
      have sBB := same_new (.lst (rs.take i)) ha1
      generalize upd Ha a1 (.lst (rs.take i)) = Hb at *
      -- the wrong one
      refine ⟨(by show 1 ≤ sizeLine; decide), fun a2 ha2 => ?_⟩
      have sC := same_new (.tup [.int 1]) ha2
      have h2 : (upd Hb a2 (.tup [.int 1])) a2 = some (.tup [.int 1]) := upd_same
      generalize upd Hb a2 (.tup [.int 1]) = Hc at *
      refine ⟨_, rfl, q1, _, rfl, .inr (same_sqT (kB.same.trans sC) hq1), _, _, rfl, rfl, a2, _, [.int 1], rfl, rfl, .inl (.inl h2), (fun z => by cases z), ?_, ?_, (by show 1 ≤ 1000; decide), fun a3 ha3 => ?_⟩
      · rw [List.length_map]
        have z := (ok.ok t mt).fs.lo
        omega
      · rw [List.length_map]
        omega
      have e3 : (List.replicate (((t.2.map V.str).length : Int) + 1).toNat [V.int 1]).flatten = (List.replicate (t.2.length + 1) (1 : Int)).map V.int := by
        rw [List.length_map, show ((t.2.length : Int) + 1).toNat = t.2.length + 1 by omega, List.map_replicate]
        generalize t.2.length + 1 = c
        induction c with
        | zero => rfl
        | succ c ih => rw [List.replicate_succ, List.flatten_cons, ih, List.replicate_succ]; rfl
      rw [e3]
      obtain ⟨one, eo, lo1, vo⟩ : ∃ one : Row, one = List.replicate (t.2.length + 1) (1 : Int) ∧ one.length = t.2.length + 1 ∧ ∀ z ∈ one, -1000000000 ≤ z ∧ z ≤ 1000000000 := ⟨_, rfl, rep_one.1, rep_one.2⟩
      rw [← eo]
      have sD := same_new (.tup (one.map V.int)) ha3
      have h3 : (upd Hc a3 (.tup (one.map V.int))) a3 = some (.tup (one.map V.int)) := upd_same
      generalize upd Hc a3 (.tup (one.map V.int)) = Hd at *
      refine ⟨(by show 1 ≤ sizeLine; decide), fun a4 ha4 => ?_⟩
      have sE := same_new (.lst [.ref a3]) ha4
      have h4 : (upd Hd a4 (.lst [.ref a3])) a4 = some (.lst [.ref a3]) := upd_same
      generalize upd Hd a4 (.lst [.ref a3]) = He at *
      have sz : ∀ n : Nat, n ≤ 1000 → n ≤ sizeLine := fun n z => Nat.le_of_lt (Nat.lt_of_le_of_lt z (by decide))
      refine ⟨a1, a4, _, _, rfl, rfl, sE _ _ (sD _ _ (sC _ _ h1)), h4, sz _ (by rw [List.length_take]; show min i rs.length + 1 ≤ 1000; omega), fun a5 ha5 => ?_⟩
      have sF := same_new (.lst (rs.take i ++ [.ref a3])) ha5
      have h5 : (upd He a5 (.lst (rs.take i ++ [.ref a3]))) a5 = some (.lst (rs.take i ++ [.ref a3])) := upd_same
      generalize upd He a5 (.lst (rs.take i ++ [.ref a3])) = Hf at *
      have sBF : Same Hb Hf := sC.trans (sD.trans (sE.trans sF))
      have kF := kB.go sBF
      -- the rows behind it
      refine ⟨_, rfl, _, rfl, rw, _, rfl, dg kF.here, _, rfl, _, _, rfl, rfl, _, rfl, pl, rs, rfl, .inl (.inl (kF.same _ _ hl)), ?_⟩
      have e6 : cutV rs (some ((i : Int) + 1)) none = rs.drop (i + 1) := cutV_from rs (i + 1) (by omega)
      rw [e6]
      intro a6 ha6
      have sG := same_new (.lst (rs.drop (i + 1))) ha6
      have h6 : (upd Hf a6 (.lst (rs.drop (i + 1)))) a6 = some (.lst (rs.drop (i + 1))) := upd_same
      generalize upd Hf a6 (.lst (rs.drop (i + 1))) = Hg at *
      refine ⟨a5, a6, _, _, rfl, rfl, sG _ _ h5, h6, sz _ (by rw [List.length_append, List.length_take, List.length_drop]; show min i rs.length + 1 + (rs.length - (i + 1)) ≤ 1000; omega), fun a7 ha7 => ?_⟩
      have sH := same_new (.lst (rs.take i ++ [.ref a3] ++ rs.drop (i + 1))) ha7
      have h7 : (upd Hg a7 (.lst (rs.take i ++ [.ref a3] ++ rs.drop (i + 1)))) a7 = some (.lst (rs.take i ++ [.ref a3] ++ rs.drop (i + 1))) := upd_same
      generalize upd Hg a7 (.lst (rs.take i ++ [.ref a3] ++ rs.drop (i + 1))) = Hh at *
      have sFH : Same Hf Hh := sG.trans sH
      have sAH : Same Ha Hh := sBB.trans (sBF.trans sFH)
      refine ⟨_, rfl, _, rfl, D, _, rfl, .inl ⟨kvs, Sum.inr t.1, sAH _ _ hDa, rfl, Nat.lt_of_le_of_lt short (by decide), rfl⟩, ?_⟩
      have nD7 : a7 ≠ D := Ne.symm (ne_of_none ((sBB.trans (sBF.trans sG)) _ _ hDa) ha7)
      have nD3 : a3 ≠ D := fun z => by
        have y := (sBB.trans sC) _ _ hDa
        rw [← z, ha3] at y
        cases y
      have kH := kA.go sAH
      have h3H : Hh a3 = some (.tup (one.map V.int)) := sFH _ _ (sF _ _ (sE _ _ h3))
      obtain ⟨R, eR⟩ : ∃ R : List Row, R = (g t.1).take i ++ [one] ++ (g t.1).drop (i + 1) := ⟨_, rfl⟩
      have lR : R.length = rs.length := by
        rw [eR, List.length_append, List.length_append, List.length_take, List.length_drop]
        show min i (g t.1).length + 1 + ((g t.1).length - (i + 1)) = rs.length
        omega
      have gok := kp.ok.ok t.1
      have rok : RsOk R := by
        have mem : ∀ r ∈ R, r ∈ g t.1 ∨ r = one := fun r m => by
          rw [eR] at m
          rcases List.mem_append.mp m with m | m
          · rcases List.mem_append.mp m with m | m
            · exact .inl (List.mem_of_mem_take m)
            · exact .inr (List.mem_singleton.mp m)
          · exact .inl (List.mem_of_mem_drop m)
        refine ⟨by omega, fun r m => ?_, fun r m => ?_⟩
        · rcases mem r m with m | rfl
          · exact gok.wid r m
          · omega
        · rcases mem r m with m | rfl
          · exact gok.val r m
          · exact vo
      have bad : firstBad (setG g t.1 R) ts = some (t.1, i) := by
        refine bad_one ok.nd mt rfl (first_hit (i := i) (r := one) (fun j r hj e => ?_) ?_ (by omega)) kp.ok.wid
        · rw [eR, List.append_assoc, List.getElem?_append_left (by rw [List.length_take]; omega), List.getElem?_take_of_lt hj] at e
          exact kp.ok.wid t mt r (List.mem_of_getElem? e)
        · rw [eR, List.append_assoc, List.getElem?_append_right (by rw [List.length_take]; omega), List.length_take, Nat.min_eq_left (by omega), Nat.sub_self]
          rfl
      have toC : Same FS (cut (upd Hh D (.dK (putK kvs (Sum.inr t.1) (.ref a7)))) D) := same_cut (same_put kH.same _ fD) fD
      have dR : Dp K (cut (upd Hh D (.dK (putK kvs (Sum.inr t.1) (.ref a7)))) D) (.ref a7) (rowsD true R) := by
        refine .lst (.inl (.inl (show (if a7 = D then none else upd Hh D _ a7) = some (.lst (rs.take i ++ [.ref a3] ++ rs.drop (i + 1))) by rw [if_neg nD7, upd_ne nD7]; exact h7))) ?_
        rw [eR, List.map_append, List.map_append, List.map_take, List.map_drop]
        refine dpA_app (dpA_app (dpA_mono toC _ _ (dpA_take i dl)) (.cons (.tup (.inl (.inl (show (if a3 = D then none else upd Hh D _ a3) = some (.tup (one.map V.int)) by rw [if_neg nD3, upd_ne nD3]; exact h3H))) (dpA_ints _)) .nil)) (dpA_mono toC _ _ (dpA_drop (i + 1) dl))
      have rd2 := (rd.same sAH).put (n := t.1) (R := R) (by omega) (upd_same (H := Hh) (a := D) (o := .dK (putK kvs (Sum.inr t.1) (.ref a7)))) (fun a o n e => by rw [upd_ne n]; exact e) dR rok
      have kI : Kp K FS (upd Hh D (.dK (putK kvs (Sum.inr t.1) (.ref a7)))) b rw kvs ts g := kp.go (same_put (s10.trans sAH) _ hD)
      have sHD : H10 D = none := hD
      have hDi : (upd Hh D (.dK (putK kvs (Sum.inr t.1) (.ref a7)))) D = some (.dK (putK kvs (Sum.inr t.1) (.ref a7))) := upd_same
      have s10i : Same H10 (upd Hh D (.dK (putK kvs (Sum.inr t.1) (.ref a7)))) := same_put (s10.trans sAH) _ hD
      clear dR toC
      generalize upd Hh D (.dK (putK kvs (Sum.inr t.1) (.ref a7))) = Hi at *
      have l2 := put_len (kvs := kvs) (k := (Sum.inr t.1 : Key)) (v := .ref a7)
      have hk2 : ∀ kv ∈ putK kvs (Sum.inr t.1 : Key) (.ref a7), ∃ n, kv.1 = Sum.inr n ∧ n ∈ ts.map (·.1) := fun kv m => by
        rcases put_key m with e | ⟨u, mu, e⟩
        · exact ⟨t.1, e, mn⟩
        · rw [← e]
          exact kp.key u mu
      generalize putK kvs (Sum.inr t.1) (.ref a7) = kv2 at *
      refine ⟨_, rfl, _, rfl, FS, x, D, ts, kv2, setG g t.1 R, rfl, kI.same, shC, ok, rd2, fun z => ?_, fun _ => ⟨fun t' i' e => ?_, fun e => by rw [bad] at e; cases e⟩⟩
      · obtain ⟨kv, mk, n, en, no⟩ := z
        obtain ⟨n2, en2, yes⟩ := hk2 kv mk
        rw [en] at en2
        cases en2
        exact absurd yes no
      rw [bad] at e
      cases e
      intro v1 Hj sj dv1
      refine ⟨_, rfl, _, rfl, (by show 2 ≤ sizeLine; decide), fun c1 hc1 => ⟨(by show 2 ≤ sizeLine; decide), fun c2 hc2 => ?_⟩⟩
      have hc1' : (upd Hj c1 (.tup [.str t.1, .int (i : Nat)])) c1 = some (.tup [.str t.1, .int (i : Nat)]) := upd_same
      refine ⟨_, .ref c2, _, rfl, dp_mono ((same_new _ hc1).trans (same_new _ hc2)) _ _ dv1, .tup (.inl (.inl upd_same)) (.cons (.str _) (.cons (.tup (.inl (.inl (same_new _ hc2 _ _ hc1'))) (.cons (.str _) (.cons (.int _) .nil))) .nil)), ?_, fun Hk sk => ⟨_, rfl, iteF ?_⟩⟩
      · exact dn_pair (.str 1 _) (.int 1 _)
      have sik : Same Hi Hk := sj.trans ((same_new _ hc1).trans ((same_new _ hc2).trans sk))
      -- a table that is none
      refine ⟨(by show 0 ≤ sizeLine; decide), fun c3 hc3 => ⟨_, rfl, D, _, rfl, .inl ⟨kv2, Sum.inr "zzzzzzzzz", same_new _ hc3 _ _ (sik _ _ hDi), rfl, Nat.lt_of_le_of_lt (show kv2.length ≤ 10 by omega) (by decide), rfl⟩, ?_⟩⟩
      have nD3 : c3 ≠ D := Ne.symm (ne_of_none (sik _ _ hDi) hc3)
      have sl : Same Hi (upd Hk c3 (.lst [])) := sik.trans (same_new _ hc3)
      have hc3' : (upd Hk c3 (.lst [])) c3 = some (.lst []) := upd_same
      generalize upd Hk c3 (.lst []) = Hl at *
      have rd3 := (rd2.same sl).put (n := "zzzzzzzzz") (q := c3) (b := true) (R := []) (by omega) (upd_same (H := Hl) (a := D) (o := .dK (putK kv2 (Sum.inr "zzzzzzzzz") (.ref c3)))) (fun a o n e => by rw [upd_ne n]; exact e)
        (.lst (.inl (.inl (show (if c3 = D then none else upd Hl D _ c3) = some (.lst []) by rw [if_neg nD3, upd_ne nD3]; exact hc3'))) .nil) ⟨Nat.zero_le _, (fun _ z => by cases z), fun _ z => by cases z⟩
      have kJ : Kp K FS (upd Hl D (.dK (putK kv2 (Sum.inr "zzzzzzzzz") (.ref c3)))) b rw kvs ts g := kp.go (same_put (s10i.trans sl) _ sHD)
      obtain ⟨kz, mz, ez⟩ := put_in (kvs := kv2) (k := (Sum.inr "zzzzzzzzz" : Key)) (v := .ref c3)
      refine ⟨_, rfl, _, rfl, FS, x, D, ts, _, _, rfl, kJ.same, shC, ok, rd3, fun _ => ?_, fun hall => absurd (hall kz mz _ ez) (no_z ok (by decide +kernel))⟩
      intro v2 Hm sm2 dv2
      refine ⟨1, rfl, (by show 2 ≤ sizeLine; decide), fun c4 hc4 => ⟨(by show 2 ≤ sizeLine; decide), fun c5 hc5 => ?_⟩⟩
      have hc4' : (upd Hm c4 (.tup [.non, .int (-1)])) c4 = some (.tup [.non, .int (-1)]) := upd_same
      exact ⟨_, .ref c5, _, rfl, dp_mono ((same_new _ hc4).trans (same_new _ hc5)) _ _ dv2, .tup (.inl (.inl upd_same)) (.cons (.str _) (.cons (.tup (.inl (.inl (same_new _ hc5 _ _ hc4'))) (.cons .non (.cons (.int _) .nil))) .nil)), dn_pair (.none 1) (.int 1 _), fun Hk sk => ⟨_, rfl, iteF ⟨_, _, rfl, kJ.go (sm2.trans ((same_new _ hc4).trans ((same_new _ hc5).trans sk)))⟩⟩⟩
    rintro σ' H9 ⟨v8, v9, rfl, kq⟩
    clear kp B8
    have kp := kq
    clear kq
    -- a store
    refine ⟨_, rfl, _, rfl, FS, x, rw, ts, kvs, g, rfl, kp.same, shC, ok, kp.rd ok, fun z => ?_, fun _ => ⟨fun t' i' e => ?_, fun _ => ⟨fun hgt v1 Hj sj dv1 => ?_, fun hle y tp Hj M sj fr st tp0 tpM htp => ?_⟩⟩⟩
    · obtain ⟨kv, mk, n, en, no⟩ := z
      obtain ⟨n2, en2, yes⟩ := kp.key kv mk
      rw [en] at en2
      cases en2
      exact absurd yes no
    · rw [bad_no kp.ok.wid] at e
      cases e
    · refine ⟨_, rfl, _, _, rfl, rfl, _, rfl, ifd (fun _ => ?_) fun h => absurd (show (300 : Int) < (m : Int) by omega) h⟩
      refine ⟨_, rfl, (by show 1 ≤ sizeLine; decide), fun c hc => ⟨manyD, manyD, dp_mono (same_new _ hc) _ _ dv1, .tup (.inl (.inl upd_same)) (.cons (.str _) .nil), by decide +kernel, by decide +kernel, ?_⟩⟩
      rw [show PyData.eqv manyD manyD = true by decide +kernel]
      exact k _
    refine ⟨_, rfl, _, _, rfl, rfl, _, rfl, ifd (fun h => absurd (show (300 : Int) < (m : Int) from h) (by omega)) fun _ => ?_⟩
    have kG := kp.grow sj fr
    have shD := shC.same (same_uni (M := M))
    have tbD := tbC.same (same_uni (M := M))
    have hqD := same_sqT (same_uni (M := M)) hq1
    generalize uni FS M = FG at *
    obtain ⟨xs2, hp2, dxs2⟩ := id tbD
    have sqF : SqT K Hj tp [.str "made", .ref y] := .inl (.inl htp)
    refine ⟨_, rfl, tp, _, 0, _, rfl, rfl, sqF, rfl, rfl, _, rfl, ifF (by simp) ?_⟩
    refine ⟨_, rfl, tp, _, 1, .ref y, rfl, rfl, sqF, rfl, _, rfl, _, rfl, ?_⟩
    refine ⟨y, p, rw, ts, g, xs2, rfl, st.same kG.same, ok, kG.ok.ok, kG.same _ _ hp2, dpA_mono kG.same _ _ dxs2, kG.rwat, fun H11 s11 => ⟨_, rfl, iteF ?_⟩⟩
    have kG := kG.go s11
    have sqF := same_sqT s11 sqF
    refine ⟨_, rfl, tp, _, 1, .ref y, rfl, rfl, sqF, rfl, ?_⟩
    -- a row
    refine ⟨_, rfl, q1, rfl, ⟨_, same_sqT kG.same hqD⟩, fun D hD => ?_⟩
    refine lc_it (walk_tup (xs := t.2.map V.str)) (fun e H' => ∃ zs : List Int, zs.length = e ∧ (∀ z ∈ zs, -1000000000 ≤ z ∧ z ≤ 1000000000) ∧ Bag (upd (upd FG rw (.dK kvs)) D (.lst (zs.map V.int))) H' b) ⟨[], rfl, (fun _ z => by cases z), kG.bag.new _ hD⟩ (fun e H' _ z => ?_) ?_ ?_
    · obtain ⟨zs, _, _, B5⟩ := z
      exact same_sqT ((same_put (same_put (Same.refl _) _ kG.no) _ (kG.same.free hD)).trans B5.fh) hqD
    · rintro e z0 H5 H6 he ⟨zs, lz2, vz, B5⟩ ⟨rfl, hx2⟩
      rw [List.length_map] at he
      have lf := (ok.ok t mt).fs.hi
      refine ⟨rfl, _, rfl, _, b, rfl, B5, fun z H7 z1 z2 B7 => ⟨_, B7.fh _ _ upd_same, by rw [List.length_map]; exact Nat.lt_of_le_of_lt (show zs.length ≤ 100 by omega) (by decide), zs ++ [z], by rw [List.length_append, lz2]; rfl, fun y my => ?_, ?_⟩⟩
      · rcases List.mem_append.mp my with my | my
        · exact vz y my
        · rw [List.mem_singleton.mp my]
          exact ⟨z1, z2⟩
      · have y := B7.put (.lst ((zs ++ [z]).map V.int)) upd_same
        rw [upd_upd, List.map_append] at y
        rw [List.map_append]
        exact y
    rintro H5 ⟨zs, lz, vz, B5⟩
    rw [List.length_map] at lz
    have lf := (ok.ok t mt).fs.hi
    refine ⟨D, _, rfl, .inl ⟨.inl (.inl (B5.fh _ _ upd_same)), fun l hl => ?_⟩⟩
    have hDG : FG D = none := kG.same.free hD
    have nDrw : rw ≠ D := ne_of_none kG.here hD
    have hlG : FG l = none := by
      cases z : FG l with
      | none => rfl
      | some o =>
        have n1 : l ≠ D := ne_of_none z hDG
        have n2 : l ≠ rw := ne_of_none z kG.no
        have y : H5 l = some o := B5.fh _ _ (by rw [upd_ne n1, upd_ne n2]; exact z)
        rw [hl] at y
        cases y
    have sl : Same FG (upd FG l (.tup (zs.map V.int))) := same_new _ hlG
    have nrl : rw ≠ l := ne_of_none (B5.fh rw _ (by rw [upd_ne nDrw, upd_same])) hl
    have kL : Kp K (upd FG l (.tup (zs.map V.int))) (upd H5 l (.tup (zs.map V.int))) b rw kvs ts g := by
      refine ⟨by rw [upd_ne nrl]; exact kG.no, bag_sub (fun a o e => ?_) (B5.new (.tup (zs.map V.int)) hl), kG.keys, fun u mu => ?_, kG.ok⟩
      · by_cases q1 : a = rw
        · rw [q1, upd_same] at e
          rw [q1, upd_ne nrl, upd_ne nDrw, upd_same]
          exact e
        · rw [upd_ne q1] at e
          by_cases q2 : a = l
          · rw [q2, upd_same] at e ⊢
            exact e
          · rw [upd_ne q2] at e ⊢
            rw [upd_ne (ne_of_none e hDG), upd_ne q1]
            exact e
      · obtain ⟨v, h1, h2⟩ := kG.val u mu
        exact ⟨v, h1, h2.same sl⟩
    have hlL : (upd FG l (.tup (zs.map V.int))) l = some (.tup (zs.map V.int)) := upd_same
    have shL := shD.same sl
    have tbL := tbD.same sl
    have stL := st.same sl
    have B0 := kL.bag.fb
    generalize upd FG l (.tup (zs.map V.int)) = FL at *
    generalize upd H5 l (.tup (zs.map V.int)) = HL at *
    clear B5 hDG hlG sl kG sqF s11
    -- five turns
    refine ⟨5, rfl, by decide, by decide, for_range (n := 5) (fun _ => Turn K CS CT a b p x rw q1 l ts t zs)
      ⟨FL, kvs, g, m, y, _, _, _, _, rfl, kL, tot, by omega, stL, shL, tbL, hlL⟩ ?_ ?_⟩
    · rintro i σ H2 hi ⟨F2, kv, g2, m2, y2, v8, v9, v10, v14, rfl, kt, tot2, le2, st2, sh2, tb2, hl2⟩
      obtain ⟨vr, hvr, pl, rs, rfl, hpl, dl⟩ := kt.val t mt
      have lr : rs.length = (g2 t.1).length := by rw [dpA_len dl, List.length_map]
      have gl : (g2 t.1).length ≤ 300 := by have z := total_le (g := g2) mn; omega
      have dg : ∀ {G : Hp}, G rw = some (.dK kv) → DGet G rw (.str t.1) (some (.ref pl)) := fun e => .inl ⟨kv, Sum.inr t.1, .inl e, rfl, hvr.symm⟩
      have gok := kt.ok.ok t.1
      have short := kt.short ok
      have lo1 := (ok.ok t mt).fs.lo
      have rowd : ∀ {G : Hp}, Same F2 G → Dp K G (.ref l) (rowD zs) := fun s => .tup (.inl (.inl (s _ _ hl2))) (dpA_ints zs)
      obtain ⟨ys, hys, dys⟩ := id tb2
      -- a row too wide
      refine ⟨_, rfl, _, rfl, _, rfl, (by show 1 ≤ sizeLine; decide), fun c hc => ?_⟩
      have s1 := same_new (.tup [.int 1]) hc
      have hc' : (upd H2 c (.tup [.int 1])) c = some (.tup [.int 1]) := upd_same
      generalize upd H2 c (.tup [.int 1]) = H3 at *
      refine ⟨l, c, _, [.int 1], rfl, rfl, .inl (.inl ((kt.same.trans s1) _ _ hl2)), .inl (.inl hc'), (fun z => by have y := congrArg List.length z; rw [List.length_map] at y; have w : ([] : List V).length = 0 := rfl; omega), ?_, (fun z => by cases z), fun _ c2 hc2 => ?_⟩
      · rw [List.length_map]
        exact Nat.le_of_lt (Nat.lt_of_le_of_lt (show zs.length + 1 ≤ 100 by omega) (by decide))
      have s2 := s1.trans (same_new (.tup (zs.map V.int ++ [.int 1])) hc2)
      have hc2' : (upd H3 c2 (.tup (zs.map V.int ++ [.int 1]))) c2 = some (.tup ((zs ++ [1]).map V.int)) := by rw [upd_same, List.map_append]; rfl
      generalize upd H3 c2 (.tup (zs.map V.int ++ [.int 1])) = H4 at *
      have lz1 : (zs ++ [1]).length = t.2.length + 1 := by rw [List.length_append, lz]; rfl
      have bad := bad_last (r := zs ++ [1]) kt.ok ok.nd mt (by omega)
      refine ⟨F2, y2, .ref c2, t.1, ts, g2, zs ++ [1], rfl, kt.same.trans s2, st2, ok, kt.ok.ok, gok.snoc (by omega) (by omega) (fun z m => ?_), .tup (.inl (.inl hc2')) (dpA_ints _), kt.ok.no, fun _ => ⟨fun t' i' e => ?_, fun e => by rw [bad] at e; cases e⟩, fun no => absurd mn no⟩
      · rcases List.mem_append.mp m with m | m
        · exact vz z m
        · rw [List.mem_singleton.mp m]
          decide
      rw [bad] at e
      cases e
      intro v1 H5 s5 dv1
      have k5 := kt.go (s2.trans s5)
      refine ⟨_, rfl, _, rfl, _, rfl, rw, _, rfl, dg k5.here, pl, rs, rfl, .inl (.inl (.inl (k5.same _ _ hpl))), (by show 2 ≤ sizeLine; decide), fun c3 hc3 => ⟨(by show 2 ≤ sizeLine; decide), fun c4 hc4 => ?_⟩⟩
      rw [lr] at hc4 ⊢
      have hc3' : (upd H5 c3 (.tup [.str t.1, .int ((g2 t.1).length : Nat)])) c3 = some (.tup [.str t.1, .int ((g2 t.1).length : Nat)]) := upd_same
      refine ⟨_, .ref c4, _, rfl, dp_mono ((same_new _ hc3).trans (same_new _ hc4)) _ _ dv1, .tup (.inl (.inl upd_same)) (.cons (.str _) (.cons (.tup (.inl (.inl (same_new _ hc4 _ _ hc3'))) (.cons (.str _) (.cons (.int _) .nil))) .nil)), dn_pair (.str 1 _) (.int 1 _), fun H6 s6 => ⟨_, rfl, iteF ?_⟩⟩
      have k6 := k5.go ((same_new _ hc3).trans ((same_new _ hc4).trans s6))
      -- no table
      refine ⟨_, rfl, _, rfl, F2, y2, .ref l, "Z", ts, g2, zs, rfl, k6.same, st2, ok, k6.ok.ok, ?_, rowd k6.same, k6.ok.no, fun yes => absurd yes (no_z ok (by decide +kernel)), fun _ v2 H7 s7 dv2 => ?_⟩
      · rw [k6.ok.no "Z" (no_z ok (by decide +kernel))]
        exact ⟨by show 1 ≤ 1000; decide, fun r m => by rw [List.mem_singleton.mp m]; omega, fun r m => by rw [List.mem_singleton.mp m]; exact vz⟩
      refine ⟨(by show 2 ≤ sizeLine; decide), fun c5 hc5 => ⟨_, .ref c5, _, rfl, dp_mono (same_new _ hc5) _ _ dv2, .tup (.inl (.inl upd_same)) (.cons (.str _) (.cons (.str _) .nil)), dn_name, fun H8 s8 => ⟨_, rfl, iteF ?_⟩⟩⟩
      have k8 := k6.go (s7.trans ((same_new _ hc5).trans s8))
      -- the row
      have wid3 : ∀ r ∈ g2 t.1 ++ [zs], r.length = t.2.length := fun r m => by
        rcases List.mem_append.mp m with m | m
        · exact k8.ok.wid t mt r m
        · rw [List.mem_singleton.mp m]
          exact lz
      have rok3 := gok.snoc (r := zs) (by omega) (by omega) vz
      have ok3 := k8.ok.set ok.nd mt rok3 wid3
      have tot3 := total_set (g := g2) (R := g2 t.1 ++ [zs]) ok.nd mn
      rw [List.length_append] at tot3
      have e1 : ([zs] : List Row).length = 1 := rfl
      refine ⟨_, rfl, _, rfl, _, rfl, F2, y2, .ref l, t.1, ts, g2, zs, rfl, k8.same, st2, ok, k8.ok.ok, rok3, rowd k8.same, k8.ok.no, fun _ => ⟨fun t' i' e => (by rw [bad_no ok3.wid] at e; cases e), fun _ => ⟨fun hgt v3 H9 s9 dv3 => ?_, fun hle y3 tp H9 M s9 fr st3 tp0 tpM htp => ?_⟩⟩, fun no => absurd mn no⟩
      · refine ⟨Turn K CS CT a b p x rw q1 l ts t zs, ?_, ?_⟩
        · have e300 : m2 = 300 := by omega
          refine ⟨_, rfl, rfl, _, rfl, ifd (fun _ => ?_) fun h => absurd (by rw [e300]; rfl) h⟩
          have k9 := k8.go s9
          refine ⟨_, rfl, (by show 1 ≤ sizeLine; decide), fun c6 hc6 => ⟨manyD, manyD, dp_mono (same_new _ hc6) _ _ dv3, .tup (.inl (.inl upd_same)) (.cons (.str _) .nil), by decide +kernel, by decide +kernel, _, rfl, ifF (by rw [show PyData.eqv manyD manyD = true by decide +kernel]; rfl) ?_⟩⟩
          have k10 := k9.go (same_new (.tup [.str "many"]) hc6)
          refine ⟨_, rfl, _, rfl, _, rfl, y2, p, rw, ts, g2, ys, rfl, st2.same k10.same, ok, k10.ok.ok, k10.same _ _ hys, dpA_mono k10.same _ _ dys, k10.rwat, fun H10 s10 => ⟨_, rfl, iteF ?_⟩⟩
          have k11 := k10.go s10
          refine ⟨_, rfl, _, rfl, rw, _, rfl, dg k11.here, pl, rs, rfl, .inl (.inl (.inl (k11.same _ _ hpl))), rfl, _, rfl, ifd (fun _ => k _) fun hne => ?_⟩
          have hpos : 0 < rs.length := by
            rcases Nat.eq_zero_or_pos rs.length with z | z
            · exact absurd (by rw [z]; rfl) hne
            · exact z
          refine ⟨_, rfl, _, rfl, _, rfl, rw, _, rfl, dg k11.here, pl, rs, rfl, .inl (.inl (.inl (k11.same _ _ hpl))), _, b, (rs.length : Int), rfl, by omega, by omega, k11.bag, fun r4 H11 r40 r41 B11 => ?_⟩
          have k12 := k11.bagged B11
          obtain ⟨j2, rfl⟩ : ∃ j : Nat, r4 = (j : Int) := ⟨r4.toNat, by omega⟩
          have hj2 : j2 < rs.length := by omega
          obtain ⟨dy, sh', rd', hy2, _⟩ := id st2
          have wid4 : ∀ r ∈ (g2 t.1).take j2 ++ (g2 t.1).drop (j2 + 1), r ∈ g2 t.1 := fun r m => by
            rcases List.mem_append.mp m with m | m
            · exact List.mem_of_mem_take m
            · exact List.mem_of_mem_drop m
          have len4 : ((g2 t.1).take j2 ++ (g2 t.1).drop (j2 + 1)).length + 1 = (g2 t.1).length := by
            rw [List.length_append, List.length_take, List.length_drop]
            omega
          have rok4 : RsOk ((g2 t.1).take j2 ++ (g2 t.1).drop (j2 + 1)) := gok.sub (by omega) wid4
          have widt : ∀ r ∈ (g2 t.1).take j2 ++ (g2 t.1).drop (j2 + 1), r.length = t.2.length := fun r m => k8.ok.wid t mt r (wid4 r m)
          have ok4 := k8.ok.set ok.nd mt rok4 widt
          have tot4 := total_set (g := g2) (R := (g2 t.1).take j2 ++ (g2 t.1).drop (j2 + 1)) ok.nd mn
          refine ⟨_, rfl, y2, dy, _, rfl, k12.same _ _ hy2, rfl, _, rfl, _, rfl, F2, y2, j2, t.1, ts, g2, rfl, k12.same, st2, ok, k12.ok.ok, by omega, mn, k12.ok.no, ⟨fun t' i' e => (by rw [bad_no ok4.wid] at e; cases e), fun _ => ⟨fun hgt2 => absurd hgt2 (by omega), fun _ y4 H12 M s12 fr st4 => ?_⟩⟩⟩
          have k13 := k12.grow s12 fr
          have sU : Same F2 (uni F2 M) := same_uni
          have sh4 := sh2.same sU
          have tb4 := tb2.same sU
          have hl4 := sU _ _ hl2
          have hpl4 := sU _ _ hpl
          have dl4 := dpA_mono sU _ _ dl
          generalize uni F2 M = F4 at *
          refine ⟨_, rfl, _, rfl, rw, _, rfl, dg k13.here, _, rfl, _, rfl, pl, rs, rfl, .inl (.inl (k13.same _ _ hpl4)), ?_⟩
          rw [cutV_to]
          intro d1 hd1
          have k14 := k13.go (same_new (.lst (rs.take j2)) hd1)
          have hd1' : (upd H12 d1 (.lst (rs.take j2))) d1 = some (.lst (rs.take j2)) := upd_same
          generalize upd H12 d1 (.lst (rs.take j2)) = H13 at *
          refine ⟨_, rfl, _, rfl, rw, _, rfl, dg k14.here, _, rfl, _, _, rfl, rfl, _, rfl, pl, rs, rfl, .inl (.inl (k14.same _ _ hpl4)), ?_⟩
          have e6 : cutV rs (some ((j2 : Int) + 1)) none = rs.drop (j2 + 1) := cutV_from rs (j2 + 1) (by omega)
          rw [e6]
          intro d2 hd2
          have k15 := k14.go (same_new (.lst (rs.drop (j2 + 1))) hd2)
          have hd2' : (upd H13 d2 (.lst (rs.drop (j2 + 1)))) d2 = some (.lst (rs.drop (j2 + 1))) := upd_same
          have hd1'' := same_new (.lst (rs.drop (j2 + 1))) hd2 _ _ hd1'
          generalize upd H13 d2 (.lst (rs.drop (j2 + 1))) = H14 at *
          refine ⟨d1, d2, _, _, rfl, rfl, hd1'', hd2', (by rw [List.length_take, List.length_drop]; exact Nat.le_of_lt (Nat.lt_of_le_of_lt (show min j2 rs.length + (rs.length - (j2 + 1)) ≤ 1000 by omega) (by decide))), fun d3 hd3 => ?_⟩
          have kP := k15.put (R := (g2 t.1).take j2 ++ (g2 t.1).drop (j2 + 1)) ok mt hd3 (by rw [List.map_append, List.map_take, List.map_drop]; exact dpA_app (dpA_take j2 dl4) (dpA_drop (j2 + 1) dl4)) rok4 widt
          have sP : Same F4 (upd F4 d3 (.lst (rs.take j2 ++ rs.drop (j2 + 1)))) := same_new _ (k15.same.free hd3)
          refine ⟨_, rfl, _, rfl, rw, _, rfl, .inl ⟨kv, Sum.inr t.1, same_new _ hd3 _ _ k15.here, rfl, Nat.lt_of_le_of_lt short (by decide), rfl⟩, ?_⟩
          exact ⟨_, _, _, 299, y4, _, _, _, _, rfl, kP, by omega, by omega, st4.same sP, sh4.same sP, tb4.same sP, sP _ _ hl4⟩
        · rintro σ' H' ⟨F3, kv3, g3, m3, y3, w8, w9, w10, w14, rfl, k3, t3, l3, st3, sh3, tb3, hl3⟩
          obtain ⟨zs3, hz3, dz3⟩ := id tb3
          exact ⟨_, rfl, _, rfl, _, rfl, y3, p, rw, ts, g3, zs3, rfl, st3.same k3.same, ok, k3.ok.ok, k3.same _ _ hz3, dpA_mono k3.same _ _ dz3, k3.rwat, fun H'' s'' => ⟨_, rfl, iteF ⟨F3, kv3, g3, m3, y3, _, _, _, _, rfl, k3.go s'', t3, l3, st3, sh3, tb3, hl3⟩⟩⟩
      · refine ⟨Turn K CS CT a b p x rw q1 l ts t zs, ?_, ?_⟩
        · have ne300 : m2 ≠ 300 := by omega
          refine ⟨_, rfl, rfl, _, rfl, ifd (fun h => absurd (show (m2 : Int) = 300 from V.int.inj h) (by omega)) fun _ => ?_⟩
          have sq : SqT K H9 tp [.str "made", .ref y3] := .inl (.inl htp)
          refine ⟨_, rfl, tp, _, 0, .str "made", rfl, rfl, sq, rfl, rfl, _, rfl, ifF (by simp) ?_⟩
          refine ⟨_, rfl, tp, _, 1, .ref y3, rfl, rfl, sq, rfl, ?_⟩
          have k9 := k8.grow s9 fr
          have sU : Same F2 (uni F2 M) := same_uni
          have sh4 := sh2.same sU
          have tb4 := tb2.same sU
          have hl4 := sU _ _ hl2
          have hpl4 := sU _ _ hpl
          have dl4 := dpA_mono sU _ _ dl
          have row4 := dp_mono sU _ _ (rowd (Same.refl _))
          generalize uni F2 M = F4 at *
          refine ⟨_, rfl, _, rfl, rw, _, rfl, dg k9.here, _, rfl, (by show 1 ≤ sizeLine; decide), fun d1 hd1 => ?_⟩
          have k10 := k9.go (same_new (.lst [.ref l]) hd1)
          have hd1' : (upd H9 d1 (.lst [.ref l])) d1 = some (.lst [.ref l]) := upd_same
          generalize upd H9 d1 (.lst [.ref l]) = H10 at *
          refine ⟨pl, d1, _, _, rfl, rfl, k10.same _ _ hpl4, hd1', Nat.le_of_lt (Nat.lt_of_le_of_lt (show rs.length + 1 ≤ 1000 by omega) (by decide)), fun d2 hd2 => ?_⟩
          have kP := k10.put (R := g2 t.1 ++ [zs]) ok mt hd2 (by rw [List.map_append]; exact dpA_app dl4 (.cons row4 .nil)) rok3 wid3
          have sP : Same F4 (upd F4 d2 (.lst (rs ++ [.ref l]))) := same_new _ (k10.same.free hd2)
          refine ⟨_, rfl, _, rfl, rw, _, rfl, .inl ⟨kv, Sum.inr t.1, same_new _ hd2 _ _ k10.here, rfl, Nat.lt_of_le_of_lt short (by decide), rfl⟩, ?_⟩
          refine ⟨_, rfl, _, _, rfl, rfl, ?_⟩
          exact ⟨_, _, _, m2 + 1, y3, _, _, _, _, rfl, kP, by omega, by omega, st3.same sP, sh4.same sP, tb4.same sP, sP _ _ hl4⟩
        · rintro σ' H' ⟨F3, kv3, g3, m3, y3, w8, w9, w10, w14, rfl, k3, t3, l3, st3, sh3, tb3, hl3⟩
          obtain ⟨zs3, hz3, dz3⟩ := id tb3
          exact ⟨_, rfl, _, rfl, _, rfl, y3, p, rw, ts, g3, zs3, rfl, st3.same k3.same, ok, k3.ok.ok, k3.same _ _ hz3, dpA_mono k3.same _ _ dz3, k3.rwat, fun H'' s'' => ⟨_, rfl, iteF ⟨F3, kv3, g3, m3, y3, _, _, _, _, rfl, k3.go s'', t3, l3, st3, sh3, tb3, hl3⟩⟩⟩
    · rintro σ H2 ⟨F2, kv, g2, m2, y2, v8, v9, v10, v14, rfl, _⟩
      exact k _
end
end Fm

/-! ## K07D -/
set_option Elab.async false
set_option maxRecDepth 100000
set_option maxHeartbeats 4000000
namespace Fm
open PySem L2
section
variable {P : Program} {w : World} {K : PySem.W.Frag} {mg : Str → Option Value} {base : Heap}
abbrev s_BadName_init : Stmt := inClass (topS 14) 0
abbrev sc_BadName_initN : List Str := ["self", "value"]
abbrev ps_BadName_init : List Str := ["self", "value"]
theorem sc_BadName_init : FnScope sc_BadName_initN ps_BadName_init (defScope s_BadName_init) := ⟨rfl, rfl, rfl, by decide +kernel, rfl, by decide +kernel, by decide +kernel⟩
theorem ok_BadName {f : Addr} {fd : FuncData} (F : Fun K "__init__" "BadName.__init__" s_BadName_init f fd) : FnOk P w K mg base CX0 1 f fd ps_BadName_init (spIn K "value") := by
  refine F.ok sc_BadName_init (fun vs H Q E h => ?_) (fun cdv A outer s H vs Q E hr h => ?_)
  · obtain ⟨_, _, _, rfl, _⟩ := h
    rfl
  · obtain ⟨a, C, v, rfl, T, ha, hno, k⟩ := h
    exact ⟨_, pss_one (ps_ost (pv 0) (pv 1)), _, rfl, _, rfl, a, C, rfl, T, hno, .inl ⟨ha, fun dx h1 h2 => k dx h1 h2⟩⟩
abbrev s_BadRows_init : Stmt := inClass (topS 16) 0
abbrev sc_BadRows_initN : List Str := ["self", "value"]
abbrev ps_BadRows_init : List Str := ["self", "value"]
theorem sc_BadRows_init : FnScope sc_BadRows_initN ps_BadRows_init (defScope s_BadRows_init) := ⟨rfl, rfl, rfl, by decide +kernel, rfl, by decide +kernel, by decide +kernel⟩
theorem ok_BadRows {f : Addr} {fd : FuncData} (F : Fun K "__init__" "BadRows.__init__" s_BadRows_init f fd) : FnOk P w K mg base CX0 1 f fd ps_BadRows_init (spIn K "value") := by
  refine F.ok sc_BadRows_init (fun vs H Q E h => ?_) (fun cdv A outer s H vs Q E hr h => ?_)
  · obtain ⟨_, _, _, rfl, _⟩ := h
    rfl
  · obtain ⟨a, C, v, rfl, T, ha, hno, k⟩ := h
    exact ⟨_, pss_one (ps_ost (pv 0) (pv 1)), _, rfl, _, rfl, a, C, rfl, T, hno, .inl ⟨ha, fun dx h1 h2 => k dx h1 h2⟩⟩
end
end Fm

/-! ## FmErr -/
set_option Elab.async false
set_option maxRecDepth 100000
set_option maxHeartbeats 4000000
/-! What the classes of the own errors say of themselves, for the end of a law. -/
namespace Fm
open PySem L2
def veC : List Value := [.type "ValueError", .type "Exception", .type "BaseException", .type "object"]
/-- what an error's class says of itself -/
def exB (K : PySem.W.Frag) (C : Addr) : Bool :=
  decide (PySem.W.findIn K (.ref C) "__getattribute__" = some (some (.builtin "BaseException.__getattribute__"))) && decide (PySem.W.findIn K (.ref C) "__getattr__" = some none) && decide (PySem.W.subIn K (.ref C) (.type "BaseException") = some true) && PySem.W.hasDictIn K C &&
  decide (PySem.W.findIn K (.ref C) "__class__" = some (some (.builtin "object.__class__"))) && decide (PySem.W.mroIn K C (.type "object") = some true) && decide (PySem.W.typeIn K (.ref C) = some (.type "type")) && PySem.W.keepIn K (.ref C) &&
  decide (PySem.W.findIn K (.ref C) "__setattr__" = some (some (.builtin "object.__setattr__")))
structure ExF (K : PySem.W.Frag) (C : Addr) : Prop where
  ga : PySem.W.findIn K (.ref C) "__getattribute__" = some (some (.builtin "BaseException.__getattribute__"))
  gg : PySem.W.findIn K (.ref C) "__getattr__" = some none
  sb : PySem.W.subIn K (.ref C) (.type "BaseException") = some true
  hd : PySem.W.hasDictIn K C = true
  cc : PySem.W.findIn K (.ref C) "__class__" = some (some (.builtin "object.__class__"))
  mo : PySem.W.mroIn K C (.type "object") = some true
  ty : PySem.W.typeIn K (.ref C) = some (.type "type")
  kp : PySem.W.keepIn K (.ref C) = true
  sa : PySem.W.findIn K (.ref C) "__setattr__" = some (some (.builtin "object.__setattr__"))
theorem exB_ok {K : PySem.W.Frag} {C : Addr} (h : exB K C = true) : ExF K C := by
  simp only [exB, Bool.and_eq_true, decide_eq_true_eq] at h
  obtain ⟨⟨⟨⟨⟨⟨⟨⟨h1, h2⟩, h3⟩, h4⟩, h5⟩, h6⟩, h7⟩, h8⟩, h9⟩ := h
  exact ⟨h1, h2, h3, h4, h5, h6, h7, h8, h9⟩
theorem kbn_one {K : PySem.W.Frag} {fd : FuncData} {f : Str} (h : ∀ u w : Value, bindArgs fd ⟨[u], [(f, w)]⟩ = pure [(("self" : Str), u), (f, w)]) : KBn K fd ["self", f] 1 [f] (fun us ws => us ++ ws) (fun vs zs => vs ++ zs) :=
  ⟨fun s us ws _ l1 l2 => match us, ws, l1, l2 with | [u], [w], _, _ => .of_eq (h u w), fun r1 r2 => r1.append r2⟩
/-- a list of errors: those with a field (and its name), those without; cs: the classes, in this order -/
def errsB (K : PySem.W.Frag) (fs : List (Addr × Str)) (zs : List Addr) : Bool :=
  (fs.all fun p => exB K p.1 && decide (PySem.W.findIn K (.ref p.1) p.2 = some none)) && (zs.all fun c => exB K c && PySem.W.excIn K c veC "ValueError.__new__") &&
  ((List.range (fs.length + zs.length)).all fun i => (List.range (fs.length + zs.length)).all fun j => decide (PySem.W.subIn K (.ref ((fs.map (·.1) ++ zs).getD i 0)) (.ref ((fs.map (·.1) ++ zs).getD j 0)) = some (decide (i = j))))
theorem errs_f {K : PySem.W.Frag} {fs : List (Addr × Str)} {zs : List Addr} (h : errsB K fs zs = true) : ∀ p ∈ fs, ExF K p.1 ∧ PySem.W.findIn K (.ref p.1) p.2 = some none := fun p m => by
  simp only [errsB, Bool.and_eq_true, List.all_eq_true, decide_eq_true_eq] at h
  exact ⟨exB_ok (h.1.1 p m).1, (h.1.1 p m).2⟩
theorem errs_z {K : PySem.W.Frag} {fs : List (Addr × Str)} {zs : List Addr} (h : errsB K fs zs = true) : ∀ c ∈ zs, ExF K c ∧ PySem.W.excIn K c veC "ValueError.__new__" = true := fun p m => by
  simp only [errsB, Bool.and_eq_true, List.all_eq_true, decide_eq_true_eq] at h
  exact ⟨exB_ok (h.1.2 p m).1, (h.1.2 p m).2⟩
theorem errs_s {K : PySem.W.Frag} {fs : List (Addr × Str)} {zs : List Addr} (h : errsB K fs zs = true) (i j : Nat) (hi : i < fs.length + zs.length) (hj : j < fs.length + zs.length) : PySem.W.subIn K (.ref ((fs.map (·.1) ++ zs).getD i 0)) (.ref ((fs.map (·.1) ++ zs).getD j 0)) = some (decide (i = j)) := by
  simp only [errsB, Bool.and_eq_true, List.all_eq_true, decide_eq_true_eq, List.mem_range] at h
  exact h.2 i hi j hj
end Fm

/-! ## K07M -/
set_option Elab.async false
set_option maxRecDepth 100000
set_option maxHeartbeats 16000000
namespace Fm
open PySem L2
/-! ### what the top has written, the head -/
theorem all_mk {l : PySem.W.OpenLaw} {w : World} {K : PySem.W.Frag} {h : Heap} {mg : Str → Option Value} {fa CE CS CT CN CR CM f0 f1 f2 f3 f4 f5 f6 f7 f8 f9 f10 f11 f12 f13 f14 f15 f16 f17 f18 f19 f20 f21 f22 f23 f24 f25 f26 f27 f28 f29 f30 : Addr} (X : K.In h) (G : h.Ns mainGlobals mg) (hfa : mg "law" = some (.ref fa))
    {od0 an0 od1 an1 od2 an2 od3 an3 od4 an4 od5 an5 od6 an6 od7 an7 od8 an8 od9 an9 od10 an10 od11 an11 od12 an12 od13 an13 od14 an14 od15 an15 od16 an16 od17 an17 od18 an18 od19 an19 od20 an20 od21 an21 od22 an22 od23 an23 od24 an24 od25 an25 od26 an26 od27 an27 od28 an28 od29 an29 od30 an30 : Option Addr}
    {sl0 sl1 sl2 sl3 sl4 sl5 sl6 sl7 sl8 sl9 sl10 sl11 sl12 sl13 sl14 sl15 sl16 sl17 sl18 sl19 sl20 sl21 sl22 sl23 sl24 sl25 sl26 sl27 sl28 sl29 sl30 : Array (Option Value)}
    {oc0 kV0 dc0 pm0 cd0 ct0 oc1 kV1 dc1 pm1 cd1 ct1 oc2 kV2 dc2 pm2 cd2 ct2 oc3 kV3 dc3 pm3 cd3 ct3 oc4 kV4 dc4 pm4 cd4 ct4 oc5 kV5 dc5 pm5 cd5 ct5 oc6 kV6 dc6 pm6 cd6 ct6 oc7 kV7 dc7 pm7 cd7 ct7 oc8 kV8 dc8 pm8 cd8 ct8 oc9 kV9 dc9 pm9 cd9 ct9 oc10 kV10 dc10 pm10 cd10 ct10 oc11 kV11 dc11 pm11 cd11 ct11 oc12 kV12 dc12 pm12 cd12 ct12 oc13 kV13 dc13 pm13 cd13 ct13 oc14 kV14 dc14 pm14 cd14 ct14 oc15 kV15 dc15 pm15 cd15 ct15 oc16 kV16 dc16 pm16 cd16 ct16 oc17 kV17 dc17 pm17 cd17 ct17 oc18 kV18 dc18 pm18 cd18 ct18 oc19 kV19 dc19 pm19 cd19 ct19 oc20 kV20 dc20 pm20 cd20 ct20 oc21 kV21 dc21 pm21 cd21 ct21 oc22 kV22 dc22 pm22 cd22 ct22 oc23 kV23 dc23 pm23 cd23 ct23 oc24 kV24 dc24 pm24 cd24 ct24 oc25 kV25 dc25 pm25 cd25 ct25 oc26 kV26 dc26 pm26 cd26 ct26 oc27 kV27 dc27 pm27 cd27 ct27 oc28 kV28 dc28 pm28 cd28 ct28 oc29 kV29 dc29 pm29 cd29 ct29 oc30 kV30 dc30 pm30 cd30 ct30 : Value}
    {nm0 qn0 : Str} {N0 : Addr} {bs0 : List Value} {sn0 : List Str} {sub0 : List Value} {ab0 : Bool} {col0 : Option Bool} {dd0 : Option Addr} {m00_ m10_ m20_ m30_ m50_ : Option Value}
    {nm1 qn1 : Str} {N1 : Addr} {bs1 : List Value} {sn1 : List Str} {sub1 : List Value} {ab1 : Bool} {col1 : Option Bool} {dd1 : Option Addr} {m01_ m11_ m21_ m31_ m51_ : Option Value}
    (aC_Shape : PySem.W.nsIn K mainGlobals "Shape" = some (some (.ref CS)))
    (aC_Store : PySem.W.nsIn K mainGlobals "Store" = some (some (.ref CT)))
    (aC_BadName : PySem.W.nsIn K mainGlobals "BadName" = some (some (.ref CN)))
    (aC_BadRows : PySem.W.nsIn K mainGlobals "BadRows" = some (some (.ref CR)))
    (aC_TooMany : PySem.W.nsIn K mainGlobals "TooMany" = some (some (.ref CM)))
    (xL0 : K.lookup CN = some (excClassObj nm0 qn0 CN N0 bs0 [.ref CE, .type "ValueError", .type "Exception", .type "BaseException", .type "object"] true sn0 sub0 ab0 col0 dd0 m00_ m10_ m20_ m30_ m50_ "ValueError.__new__"))
    (xL1 : K.lookup CR = some (excClassObj nm1 qn1 CR N1 bs1 [.ref CE, .type "ValueError", .type "Exception", .type "BaseException", .type "object"] true sn1 sub1 ab1 col1 dd1 m01_ m11_ m21_ m31_ m51_ "ValueError.__new__"))
    (a0 : PySem.W.nsIn K mainGlobals "_law_pick" = some (some (.ref f0)))
    (l0 : K.lookup f0 = some ⟨oc0, od0, .func (PySem.W.fnOf "_law_pick" "_law_pick" (defArgs s_l_pick) (defBody s_l_pick) (defScope s_l_pick) .none kV0 dc0 pm0 an0 cd0 ct0), sl0⟩)
    (c0 : PySem.W.codeIn K cd0 "_law_pick" = true)
    (k0 : PySem.W.keepIn K (.ref f0) = true)
    (a1 : PySem.W.nsIn K mainGlobals "is_name" = some (some (.ref f1)))
    (l1 : K.lookup f1 = some ⟨oc1, od1, .func (PySem.W.fnOf "is_name" "is_name" (defArgs s_is_name) (defBody s_is_name) (defScope s_is_name) .none kV1 dc1 pm1 an1 cd1 ct1), sl1⟩)
    (c1 : PySem.W.codeIn K cd1 "is_name" = true)
    (k1 : PySem.W.keepIn K (.ref f1) = true)
    (a2 : PySem.W.nsIn K mainGlobals "is_row" = some (some (.ref f2)))
    (l2 : K.lookup f2 = some ⟨oc2, od2, .func (PySem.W.fnOf "is_row" "is_row" (defArgs s_is_row) (defBody s_is_row) (defScope s_is_row) .none kV2 dc2 pm2 an2 cd2 ct2), sl2⟩)
    (c2 : PySem.W.codeIn K cd2 "is_row" = true)
    (k2 : PySem.W.keepIn K (.ref f2) = true)
    (a3 : PySem.W.nsIn K mainGlobals "is_tuple" = some (some (.ref f3)))
    (l3 : K.lookup f3 = some ⟨oc3, od3, .func (PySem.W.fnOf "is_tuple" "is_tuple" (defArgs s_is_tuple) (defBody s_is_tuple) (defScope s_is_tuple) .none kV3 dc3 pm3 an3 cd3 ct3), sl3⟩)
    (c3 : PySem.W.codeIn K cd3 "is_tuple" = true)
    (k3 : PySem.W.keepIn K (.ref f3) = true)
    (a4 : PySem.W.nsIn K mainGlobals "are_names" = some (some (.ref f4)))
    (l4 : K.lookup f4 = some ⟨oc4, od4, .func (PySem.W.fnOf "are_names" "are_names" (defArgs s_are_names) (defBody s_are_names) (defScope s_are_names) .none kV4 dc4 pm4 an4 cd4 ct4), sl4⟩)
    (c4 : PySem.W.codeIn K cd4 "are_names" = true)
    (k4 : PySem.W.keepIn K (.ref f4) = true)
    (a5 : PySem.W.nsIn K mainGlobals "as_tuples" = some (some (.ref f5)))
    (l5 : K.lookup f5 = some ⟨oc5, od5, .func (PySem.W.fnOf "as_tuples" "as_tuples" (defArgs s_as_tuples) (defBody s_as_tuples) (defScope s_as_tuples) .none kV5 dc5 pm5 an5 cd5 ct5), sl5⟩)
    (c5 : PySem.W.codeIn K cd5 "as_tuples" = true)
    (k5 : PySem.W.keepIn K (.ref f5) = true)
    (a6 : PySem.W.nsIn K mainGlobals "is_table" = some (some (.ref f6)))
    (l6 : K.lookup f6 = some ⟨oc6, od6, .func (PySem.W.fnOf "is_table" "is_table" (defArgs s_is_table) (defBody s_is_table) (defScope s_is_table) .none kV6 dc6 pm6 an6 cd6 ct6), sl6⟩)
    (c6 : PySem.W.codeIn K cd6 "is_table" = true)
    (k6 : PySem.W.keepIn K (.ref f6) = true)
    (a7 : PySem.W.nsIn K mainGlobals "check_tables" = some (some (.ref f7)))
    (l7 : K.lookup f7 = some ⟨oc7, od7, .func (PySem.W.fnOf "check_tables" "check_tables" (defArgs s_check_tables) (defBody s_check_tables) (defScope s_check_tables) .none kV7 dc7 pm7 an7 cd7 ct7), sl7⟩)
    (c7 : PySem.W.codeIn K cd7 "check_tables" = true)
    (k7 : PySem.W.keepIn K (.ref f7) = true)
    (a8 : PySem.W.findIn K (.ref CS) "__init__" = some (some (.ref f8)))
    (i8 : PySem.W.isFn K (.ref f8) = true)
    (l8 : K.lookup f8 = some ⟨oc8, od8, .func (PySem.W.fnOf "__init__" "Shape.__init__" (defArgs s_Shape_init) (defBody s_Shape_init) (defScope s_Shape_init) .none kV8 dc8 pm8 an8 cd8 ct8), sl8⟩)
    (c8 : PySem.W.codeIn K cd8 "Shape.__init__" = true)
    (k8 : PySem.W.keepIn K (.ref f8) = true)
    (a9 : PySem.W.nsIn K mainGlobals "_law_bag" = some (some (.ref f9)))
    (l9 : K.lookup f9 = some ⟨oc9, od9, .func (PySem.W.fnOf "_law_bag" "_law_bag" (defArgs s_l_bag) (defBody s_l_bag) (defScope s_l_bag) .none kV9 dc9 pm9 an9 cd9 ct9), sl9⟩)
    (c9 : PySem.W.codeIn K cd9 "_law_bag" = true)
    (k9 : PySem.W.keepIn K (.ref f9) = true)
    (a10 : PySem.W.nsIn K mainGlobals "_law_name" = some (some (.ref f10)))
    (l10 : K.lookup f10 = some ⟨oc10, od10, .func (PySem.W.fnOf "_law_name" "_law_name" (defArgs s_l_name) (defBody s_l_name) (defScope s_l_name) .none kV10 dc10 pm10 an10 cd10 ct10), sl10⟩)
    (c10 : PySem.W.codeIn K cd10 "_law_name" = true)
    (k10 : PySem.W.keepIn K (.ref f10) = true)
    (a11 : PySem.W.nsIn K mainGlobals "_law_tables" = some (some (.ref f11)))
    (l11 : K.lookup f11 = some ⟨oc11, od11, .func (PySem.W.fnOf "_law_tables" "_law_tables" (defArgs s_l_tables) (defBody s_l_tables) (defScope s_l_tables) .none kV11 dc11 pm11 an11 cd11 ct11), sl11⟩)
    (c11 : PySem.W.codeIn K cd11 "_law_tables" = true)
    (k11 : PySem.W.keepIn K (.ref f11) = true)
    (a12 : PySem.W.nsIn K mainGlobals "is_integer" = some (some (.ref f12)))
    (l12 : K.lookup f12 = some ⟨oc12, od12, .func (PySem.W.fnOf "is_integer" "is_integer" (defArgs s_is_integer) (defBody s_is_integer) (defScope s_is_integer) .none kV12 dc12 pm12 an12 cd12 ct12), sl12⟩)
    (c12 : PySem.W.codeIn K cd12 "is_integer" = true)
    (k12 : PySem.W.keepIn K (.ref f12) = true)
    (a13 : PySem.W.nsIn K mainGlobals "is_value" = some (some (.ref f13)))
    (l13 : K.lookup f13 = some ⟨oc13, od13, .func (PySem.W.fnOf "is_value" "is_value" (defArgs s_is_value) (defBody s_is_value) (defScope s_is_value) .none kV13 dc13 pm13 an13 cd13 ct13), sl13⟩)
    (c13 : PySem.W.codeIn K cd13 "is_value" = true)
    (k13 : PySem.W.keepIn K (.ref f13) = true)
    (a14 : PySem.W.nsIn K mainGlobals "first_wrong_row" = some (some (.ref f14)))
    (l14 : K.lookup f14 = some ⟨oc14, od14, .func (PySem.W.fnOf "first_wrong_row" "first_wrong_row" (defArgs s_first_wrong_row) (defBody s_first_wrong_row) (defScope s_first_wrong_row) .none kV14 dc14 pm14 an14 cd14 ct14), sl14⟩)
    (c14 : PySem.W.codeIn K cd14 "first_wrong_row" = true)
    (k14 : PySem.W.keepIn K (.ref f14) = true)
    (a15 : PySem.W.nsIn K mainGlobals "check_rows" = some (some (.ref f15)))
    (l15 : K.lookup f15 = some ⟨oc15, od15, .func (PySem.W.fnOf "check_rows" "check_rows" (defArgs s_check_rows) (defBody s_check_rows) (defScope s_check_rows) .none kV15 dc15 pm15 an15 cd15 ct15), sl15⟩)
    (c15 : PySem.W.codeIn K cd15 "check_rows" = true)
    (k15 : PySem.W.keepIn K (.ref f15) = true)
    (a16 : PySem.W.findIn K (.ref CT) "__init__" = some (some (.ref f16)))
    (i16 : PySem.W.isFn K (.ref f16) = true)
    (l16 : K.lookup f16 = some ⟨oc16, od16, .func (PySem.W.fnOf "__init__" "Store.__init__" (defArgs s_Store_init) (defBody s_Store_init) (defScope s_Store_init) .none kV16 dc16 pm16 an16 cd16 ct16), sl16⟩)
    (c16 : PySem.W.codeIn K cd16 "Store.__init__" = true)
    (k16 : PySem.W.keepIn K (.ref f16) = true)
    (a17 : PySem.W.findIn K (.ref CS) "fields_of" = some (some (.ref f17)))
    (i17 : PySem.W.isFn K (.ref f17) = true)
    (l17 : K.lookup f17 = some ⟨oc17, od17, .func (PySem.W.fnOf "fields_of" "Shape.fields_of" (defArgs s_Shape_fields_of) (defBody s_Shape_fields_of) (defScope s_Shape_fields_of) .none kV17 dc17 pm17 an17 cd17 ct17), sl17⟩)
    (c17 : PySem.W.codeIn K cd17 "Shape.fields_of" = true)
    (k17 : PySem.W.keepIn K (.ref f17) = true)
    (a18 : PySem.W.findIn K (.ref CT) "rows_of" = some (some (.ref f18)))
    (i18 : PySem.W.isFn K (.ref f18) = true)
    (l18 : K.lookup f18 = some ⟨oc18, od18, .func (PySem.W.fnOf "rows_of" "Store.rows_of" (defArgs s_Store_rows_of) (defBody s_Store_rows_of) (defScope s_Store_rows_of) .none kV18 dc18 pm18 an18 cd18 ct18), sl18⟩)
    (c18 : PySem.W.codeIn K cd18 "Store.rows_of" = true)
    (k18 : PySem.W.keepIn K (.ref f18) = true)
    (a19 : PySem.W.findIn K (.ref CT) "_with_rows" = some (some (.ref f19)))
    (i19 : PySem.W.isFn K (.ref f19) = true)
    (l19 : K.lookup f19 = some ⟨oc19, od19, .func (PySem.W.fnOf "_with_rows" "Store._with_rows" (defArgs s_Store__with_rows) (defBody s_Store__with_rows) (defScope s_Store__with_rows) .none kV19 dc19 pm19 an19 cd19 ct19), sl19⟩)
    (c19 : PySem.W.codeIn K cd19 "Store._with_rows" = true)
    (k19 : PySem.W.keepIn K (.ref f19) = true)
    (a20 : PySem.W.findIn K (.ref CT) "with_row" = some (some (.ref f20)))
    (i20 : PySem.W.isFn K (.ref f20) = true)
    (l20 : K.lookup f20 = some ⟨oc20, od20, .func (PySem.W.fnOf "with_row" "Store.with_row" (defArgs s_Store_with_row) (defBody s_Store_with_row) (defScope s_Store_with_row) .none kV20 dc20 pm20 an20 cd20 ct20), sl20⟩)
    (c20 : PySem.W.codeIn K cd20 "Store.with_row" = true)
    (k20 : PySem.W.keepIn K (.ref f20) = true)
    (a21 : PySem.W.findIn K (.ref CT) "without_row" = some (some (.ref f21)))
    (i21 : PySem.W.isFn K (.ref f21) = true)
    (l21 : K.lookup f21 = some ⟨oc21, od21, .func (PySem.W.fnOf "without_row" "Store.without_row" (defArgs s_Store_without_row) (defBody s_Store_without_row) (defScope s_Store_without_row) .none kV21 dc21 pm21 an21 cd21 ct21), sl21⟩)
    (c21 : PySem.W.codeIn K cd21 "Store.without_row" = true)
    (k21 : PySem.W.keepIn K (.ref f21) = true)
    (a22 : PySem.W.nsIn K mainGlobals "_law_alike" = some (some (.ref f22)))
    (l22 : K.lookup f22 = some ⟨oc22, od22, .func (PySem.W.fnOf "_law_alike" "_law_alike" (defArgs s_l_alike) (defBody s_l_alike) (defScope s_l_alike) .none kV22 dc22 pm22 an22 cd22 ct22), sl22⟩)
    (c22 : PySem.W.codeIn K cd22 "_law_alike" = true)
    (k22 : PySem.W.keepIn K (.ref f22) = true)
    (a23 : PySem.W.nsIn K mainGlobals "_law_value" = some (some (.ref f23)))
    (l23 : K.lookup f23 = some ⟨oc23, od23, .func (PySem.W.fnOf "_law_value" "_law_value" (defArgs s_l_value) (defBody s_l_value) (defScope s_l_value) .none kV23 dc23 pm23 an23 cd23 ct23), sl23⟩)
    (c23 : PySem.W.codeIn K cd23 "_law_value" = true)
    (k23 : PySem.W.keepIn K (.ref f23) = true)
    (a24 : PySem.W.nsIn K mainGlobals "_law_tells" = some (some (.ref f24)))
    (l24 : K.lookup f24 = some ⟨oc24, od24, .func (PySem.W.fnOf "_law_tells" "_law_tells" (defArgs s_l_tells) (defBody s_l_tells) (defScope s_l_tells) .none kV24 dc24 pm24 an24 cd24 ct24), sl24⟩)
    (c24 : PySem.W.codeIn K cd24 "_law_tells" = true)
    (k24 : PySem.W.keepIn K (.ref f24) = true)
    (a25 : PySem.W.nsIn K mainGlobals "_law_dealt" = some (some (.ref f25)))
    (l25 : K.lookup f25 = some ⟨oc25, od25, .func (PySem.W.fnOf "_law_dealt" "_law_dealt" (defArgs s_l_dealt) (defBody s_l_dealt) (defScope s_l_dealt) .none kV25 dc25 pm25 an25 cd25 ct25), sl25⟩)
    (c25 : PySem.W.codeIn K cd25 "_law_dealt" = true)
    (k25 : PySem.W.keepIn K (.ref f25) = true)
    (a26 : PySem.W.nsIn K mainGlobals "_law_made" = some (some (.ref f26)))
    (l26 : K.lookup f26 = some ⟨oc26, od26, .func (PySem.W.fnOf "_law_made" "_law_made" (defArgs s_l_made) (defBody s_l_made) (defScope s_l_made) .none kV26 dc26 pm26 an26 cd26 ct26), sl26⟩)
    (c26 : PySem.W.codeIn K cd26 "_law_made" = true)
    (k26 : PySem.W.keepIn K (.ref f26) = true)
    (a27 : PySem.W.nsIn K mainGlobals "_law_put" = some (some (.ref f27)))
    (l27 : K.lookup f27 = some ⟨oc27, od27, .func (PySem.W.fnOf "_law_put" "_law_put" (defArgs s_l_put) (defBody s_l_put) (defScope s_l_put) .none kV27 dc27 pm27 an27 cd27 ct27), sl27⟩)
    (c27 : PySem.W.codeIn K cd27 "_law_put" = true)
    (k27 : PySem.W.keepIn K (.ref f27) = true)
    (a28 : PySem.W.findIn K (.ref CN) "__init__" = some (some (.ref f28)))
    (t28 : PySem.W.typeIn K (.ref f28) = some (.type "function"))
    (l28 : K.lookup f28 = some ⟨oc28, od28, .func (PySem.W.fnOf "__init__" "BadName.__init__" (defArgs s_BadName_init) (defBody s_BadName_init) (defScope s_BadName_init) .none kV28 dc28 pm28 an28 cd28 ct28), sl28⟩)
    (c28 : PySem.W.codeIn K cd28 "BadName.__init__" = true)
    (k28 : PySem.W.keepIn K (.ref f28) = true)
    (a29 : PySem.W.findIn K (.ref CR) "__init__" = some (some (.ref f29)))
    (t29 : PySem.W.typeIn K (.ref f29) = some (.type "function"))
    (l29 : K.lookup f29 = some ⟨oc29, od29, .func (PySem.W.fnOf "__init__" "BadRows.__init__" (defArgs s_BadRows_init) (defBody s_BadRows_init) (defScope s_BadRows_init) .none kV29 dc29 pm29 an29 cd29 ct29), sl29⟩)
    (c29 : PySem.W.codeIn K cd29 "BadRows.__init__" = true)
    (k29 : PySem.W.keepIn K (.ref f29) = true)
    (a30 : PySem.W.nsIn K mainGlobals "law" = some (some (.ref f30)))
    (l30 : K.lookup f30 = some ⟨oc30, od30, .func (PySem.W.fnOf "law" "law" (defArgs s_law) (defBody s_law) (defScope s_law) .none kV30 dc30 pm30 an30 cd30 ct30), sl30⟩)
    (c30 : PySem.W.codeIn K cd30 "law" = true)
    (k30 : PySem.W.keepIn K (.ref f30) = true)
    (pg_Shape : PySem.W.plainGet K CS Str.empty = true)
    (hd_Shape : PySem.W.hasDictIn K CS = true)
    (po_Shape : PySem.W.plainOver K CS = true)
    (sa_Shape : PySem.W.findIn K (.ref CS) "__setattr__" = some (some (.builtin "object.__setattr__")))
    (mk_Shape : PySem.W.makesIn K CS = true)
    (kc_Shape : PySem.W.keepIn K (.ref CS) = true)
    (n_Shape_tables : PySem.W.findIn K (.ref CS) "tables" = some none)
    (pg_Store : PySem.W.plainGet K CT Str.empty = true)
    (hd_Store : PySem.W.hasDictIn K CT = true)
    (po_Store : PySem.W.plainOver K CT = true)
    (sa_Store : PySem.W.findIn K (.ref CT) "__setattr__" = some (some (.builtin "object.__setattr__")))
    (mk_Store : PySem.W.makesIn K CT = true)
    (kc_Store : PySem.W.keepIn K (.ref CT) = true)
    (n_Store_shape : PySem.W.findIn K (.ref CT) "shape" = some none)
    (n_Store__rows : PySem.W.findIn K (.ref CT) "_rows" = some none)
    (z_len : PySem.W.nsIn K mainGlobals "len" = some none)
    (z_list : PySem.W.nsIn K mainGlobals "list" = some none)
    (z_tuple : PySem.W.nsIn K mainGlobals "tuple" = some none)
    (z_isinstance : PySem.W.nsIn K mainGlobals "isinstance" = some none)
    (z_str : PySem.W.nsIn K mainGlobals "str" = some none)
    (z_dict : PySem.W.nsIn K mainGlobals "dict" = some none)
    (z_bool : PySem.W.nsIn K mainGlobals "bool" = some none)
    (z_int : PySem.W.nsIn K mainGlobals "int" = some none)
    (z_max : PySem.W.nsIn K mainGlobals "max" = some none)
    (z_all : PySem.W.nsIn K mainGlobals "all" = some none)
    (z_set : PySem.W.nsIn K mainGlobals "set" = some none)
    (z_range : PySem.W.nsIn K mainGlobals "range" = some none)
    (z_enumerate : PySem.W.nsIn K mainGlobals "enumerate" = some none)
    (z_sum : PySem.W.nsIn K mainGlobals "sum" = some none)
    (g_LETTERS : PySem.W.nsIn K mainGlobals "LETTERS" = some (some (.str "abcdefghijklmnopqrstuvwxyz" tg0)))
    (g_LONGEST_NAME : PySem.W.nsIn K mainGlobals "LONGEST_NAME" = some (some (.int 8 tg1)))
    (g_MOST_TABLES : PySem.W.nsIn K mainGlobals "MOST_TABLES" = some (some (.int 5 tg2)))
    (g_MOST_FIELDS : PySem.W.nsIn K mainGlobals "MOST_FIELDS" = some (some (.int 4 tg3)))
    (g_LARGEST_VALUE : PySem.W.nsIn K mainGlobals "LARGEST_VALUE" = some (some (.int 1000000000 tg4)))
    (g_MOST_ROWS : PySem.W.nsIn K mainGlobals "MOST_ROWS" = some (some (.int 300 tg5)))
    (ccls : PySem.W.findIn K (.ref CS) "__class__" = some (some (.builtin "object.__class__")))
    (cget : PySem.W.specialIn K (.builtin "object.__class__") "__get__" = some (some (.builtin "getset_descriptor.__get__")))
    (ctak : PySem.W.takesIn K (.builtin "object.__class__") = some true)
    (cmro : PySem.W.mroIn K CS (.type "object") = some true)
    (cne : PySem.W.findIn K (.ref CS) "__ne__" = some (some (.builtin "object.__ne__")))
    (ki_NoneType : PySem.W.kitOne K (.type "NoneType") (.ref CS) = some false)
    (ki_bool : PySem.W.kitOne K (.type "bool") (.ref CS) = some false)
    (ki_int : PySem.W.kitOne K (.type "int") (.ref CS) = some false)
    (ki_str : PySem.W.kitOne K (.type "str") (.ref CS) = some false)
    (ki_list : PySem.W.kitOne K (.type "list") (.ref CS) = some false)
    (ki_tuple : PySem.W.kitOne K (.type "tuple") (.ref CS) = some false)
    (ki_dict : PySem.W.kitOne K (.type "dict") (.ref CS) = some false)
    (nf_NoneType : PySem.W.notFirst K CS (.type "NoneType") = true)
    (nf_bool : PySem.W.notFirst K CS (.type "bool") = true)
    (nf_int : PySem.W.notFirst K CS (.type "int") = true)
    (nf_str : PySem.W.notFirst K CS (.type "str") = true)
    (nf_list : PySem.W.notFirst K CS (.type "list") = true)
    (nf_tuple : PySem.W.notFirst K CS (.type "tuple") = true)
    (nf_dict : PySem.W.notFirst K CS (.type "dict") = true)
    (errs : errsB K [(CN, "value"), (CR, "value")] [CM] = true) :
    ∃ fd : FuncData, (∀ (s : Shared) (v : Value), BindsTo s fd ⟨[v], []⟩ [("_law_script", v)]) ∧ ∀ base : Heap, K.In base → base.Ns mainGlobals mg → FnOk l.prog w K mg base CX0 10 fa fd ["_law_script"] (spLaw K) := by
  have e := hfa.symm.trans (PySem.W.mg_of X G a30)
  cases e
  have F0 := fun_mk (st := s_l_pick) l0 c0 k0
  have b0 := F0.binds (ps := ps_l_pick) fun _ _ _ _ _ _ us hl => match us, hl with | [_, _], _ => rfl
  have F1 := fun_mk (st := s_is_name) l1 c1 k1
  have b1 := F1.binds (ps := ps_is_name) fun _ _ _ _ _ _ us hl => match us, hl with | [_], _ => rfl
  have F2 := fun_mk (st := s_is_row) l2 c2 k2
  have b2 := F2.binds (ps := ps_is_row) fun _ _ _ _ _ _ us hl => match us, hl with | [_, _, _], _ => rfl
  have F3 := fun_mk (st := s_is_tuple) l3 c3 k3
  have b3 := F3.binds (ps := ps_is_tuple) fun _ _ _ _ _ _ us hl => match us, hl with | [_, _], _ => rfl
  have F4 := fun_mk (st := s_are_names) l4 c4 k4
  have b4 := F4.binds (ps := ps_are_names) fun _ _ _ _ _ _ us hl => match us, hl with | [_, _, _], _ => rfl
  have F5 := fun_mk (st := s_as_tuples) l5 c5 k5
  have b5 := F5.binds (ps := ps_as_tuples) fun _ _ _ _ _ _ us hl => match us, hl with | [_], _ => rfl
  have F6 := fun_mk (st := s_is_table) l6 c6 k6
  have b6 := F6.binds (ps := ps_is_table) fun _ _ _ _ _ _ us hl => match us, hl with | [_], _ => rfl
  have F7 := fun_mk (st := s_check_tables) l7 c7 k7
  have b7 := F7.binds (ps := ps_check_tables) fun _ _ _ _ _ _ us hl => match us, hl with | [_], _ => rfl
  have F8 := fun_mk (st := s_Shape_init) l8 c8 k8
  have b8 := F8.binds (ps := ps_Shape_init) fun _ _ _ _ _ _ us hl => match us, hl with | [_, _], _ => rfl
  have F9 := fun_mk (st := s_l_bag) l9 c9 k9
  have b9 := F9.binds (ps := ps_l_bag) fun _ _ _ _ _ _ us hl => match us, hl with | [_], _ => rfl
  have F10 := fun_mk (st := s_l_name) l10 c10 k10
  have b10 := F10.binds (ps := ps_l_name) fun _ _ _ _ _ _ us hl => match us, hl with | [_, _], _ => rfl
  have F11 := fun_mk (st := s_l_tables) l11 c11 k11
  have b11 := F11.binds (ps := ps_l_tables) fun _ _ _ _ _ _ us hl => match us, hl with | [_], _ => rfl
  have F12 := fun_mk (st := s_is_integer) l12 c12 k12
  have b12 := F12.binds (ps := ps_is_integer) fun _ _ _ _ _ _ us hl => match us, hl with | [_], _ => rfl
  have F13 := fun_mk (st := s_is_value) l13 c13 k13
  have b13 := F13.binds (ps := ps_is_value) fun _ _ _ _ _ _ us hl => match us, hl with | [_], _ => rfl
  have F14 := fun_mk (st := s_first_wrong_row) l14 c14 k14
  have b14 := F14.binds (ps := ps_first_wrong_row) fun _ _ _ _ _ _ us hl => match us, hl with | [_, _], _ => rfl
  have F15 := fun_mk (st := s_check_rows) l15 c15 k15
  have b15 := F15.binds (ps := ps_check_rows) fun _ _ _ _ _ _ us hl => match us, hl with | [_, _], _ => rfl
  have F16 := fun_mk (st := s_Store_init) l16 c16 k16
  have b16 := F16.binds (ps := ps_Store_init) fun _ _ _ _ _ _ us hl => match us, hl with | [_, _, _], _ => rfl
  have F17 := fun_mk (st := s_Shape_fields_of) l17 c17 k17
  have b17 := F17.binds (ps := ps_Shape_fields_of) fun _ _ _ _ _ _ us hl => match us, hl with | [_, _], _ => rfl
  have F18 := fun_mk (st := s_Store_rows_of) l18 c18 k18
  have b18 := F18.binds (ps := ps_Store_rows_of) fun _ _ _ _ _ _ us hl => match us, hl with | [_, _], _ => rfl
  have F19 := fun_mk (st := s_Store__with_rows) l19 c19 k19
  have b19 := F19.binds (ps := ps_Store__with_rows) fun _ _ _ _ _ _ us hl => match us, hl with | [_, _, _], _ => rfl
  have F20 := fun_mk (st := s_Store_with_row) l20 c20 k20
  have b20 := F20.binds (ps := ps_Store_with_row) fun _ _ _ _ _ _ us hl => match us, hl with | [_, _, _], _ => rfl
  have F21 := fun_mk (st := s_Store_without_row) l21 c21 k21
  have b21 := F21.binds (ps := ps_Store_without_row) fun _ _ _ _ _ _ us hl => match us, hl with | [_, _, _], _ => rfl
  have F22 := fun_mk (st := s_l_alike) l22 c22 k22
  have b22 := F22.binds (ps := ps_l_alike) fun _ _ _ _ _ _ us hl => match us, hl with | [_, _], _ => rfl
  have F23 := fun_mk (st := s_l_value) l23 c23 k23
  have b23 := F23.binds (ps := ps_l_value) fun _ _ _ _ _ _ us hl => match us, hl with | [_], _ => rfl
  have F24 := fun_mk (st := s_l_tells) l24 c24 k24
  have b24 := F24.binds (ps := ps_l_tells) fun _ _ _ _ _ _ us hl => match us, hl with | [_, _, _], _ => rfl
  have F25 := fun_mk (st := s_l_dealt) l25 c25 k25
  have b25 := F25.binds (ps := ps_l_dealt) fun _ _ _ _ _ _ us hl => match us, hl with | [_, _, _], _ => rfl
  have F26 := fun_mk (st := s_l_made) l26 c26 k26
  have b26 := F26.binds (ps := ps_l_made) fun _ _ _ _ _ _ us hl => match us, hl with | [_, _], _ => rfl
  have F27 := fun_mk (st := s_l_put) l27 c27 k27
  have b27 := F27.binds (ps := ps_l_put) fun _ _ _ _ _ _ us hl => match us, hl with | [_, _, _], _ => rfl
  have F28 := fun_mk (st := s_BadName_init) l28 c28 k28
  have b28 := F28.binds (ps := ps_BadName_init) fun _ _ _ _ _ _ us hl => match us, hl with | [_, _], _ => rfl
  have F29 := fun_mk (st := s_BadRows_init) l29 c29 k29
  have b29 := F29.binds (ps := ps_BadRows_init) fun _ _ _ _ _ _ us hl => match us, hl with | [_, _], _ => rfl
  have F30 := fun_mk (st := s_law) l30 c30 k30
  have b30 := F30.binds (ps := ps_law) fun _ _ _ _ _ _ us hl => match us, hl with | [_], _ => rfl
  refine ⟨PySem.W.fnOf "law" "law" (defArgs s_law) (defBody s_law) (defScope s_law) .none kV30 dc30 pm30 an30 cd30 ct30, fun s v => .of_eq rfl, fun base _ _ => ?_⟩
  obtain ⟨E_BadName, nf_BadName⟩ := errs_f errs (CN, "value") (by simp)
  obtain ⟨E_BadRows, nf_BadRows⟩ := errs_f errs (CR, "value") (by simp)
  obtain ⟨E_TooMany, xx_TooMany⟩ := errs_z errs CM (by simp)
  have X_BadName : Xf l.prog w K mg base "BadName" CN "value" := ⟨f28, _, ⟨⟨_, _, _, _, _, _, _, _, _, _, _, _, _, _, _, xL0, rfl⟩, E_BadName.sa, E_BadName.sb, E_BadName.ty, E_BadName.kp⟩, a28, t28, ok_BadName F28, PySem.W.mg_of X G aC_BadName, b28, kbn_one fun _ _ => rfl, nf_BadName⟩
  have X_BadRows : Xf l.prog w K mg base "BadRows" CR "value" := ⟨f29, _, ⟨⟨_, _, _, _, _, _, _, _, _, _, _, _, _, _, _, xL1, rfl⟩, E_BadRows.sa, E_BadRows.sb, E_BadRows.ty, E_BadRows.kp⟩, a29, t29, ok_BadRows F29, PySem.W.mg_of X G aC_BadRows, b29, kbn_one fun _ _ => rfl, nf_BadRows⟩
  have X_TooMany : X0 K mg "TooMany" CM := ⟨_, _, _, _, PySem.F.excBase_ValueError, xx_TooMany, PySem.W.mg_of X G aC_TooMany, E_TooMany.kp, E_TooMany.sb, E_TooMany.ty⟩
  have T : Txt K mg CS := ⟨PySem.W.mg_none_of X G z_len, PySem.W.mg_none_of X G z_list, PySem.W.mg_none_of X G z_tuple, PySem.W.mg_none_of X G z_isinstance, PySem.W.mg_none_of X G z_str, PySem.W.mg_none_of X G z_dict, PySem.W.mg_none_of X G z_bool, PySem.W.mg_none_of X G z_int, PySem.W.mg_none_of X G z_max, PySem.W.mg_none_of X G z_all, PySem.W.mg_none_of X G z_set, PySem.W.mg_none_of X G z_range, PySem.W.mg_none_of X G z_enumerate, PySem.W.mg_none_of X G z_sum,
    ⟨_, PySem.W.mg_of X G g_LETTERS⟩, ⟨_, PySem.W.mg_of X G g_LONGEST_NAME⟩, ⟨_, PySem.W.mg_of X G g_MOST_TABLES⟩, ⟨_, PySem.W.mg_of X G g_MOST_FIELDS⟩, ⟨_, PySem.W.mg_of X G g_LARGEST_VALUE⟩, ⟨_, PySem.W.mg_of X G g_MOST_ROWS⟩,
    PySem.W.mg_of X G aC_Shape, ⟨pg_Shape, hd_Shape, po_Shape, sa_Shape⟩, n_Shape_tables, ccls, cget, ctak, cmro, cne,
    fun n hn => by
      simp only [List.mem_cons, List.mem_nil_iff, or_false] at hn
      rcases hn with rfl | rfl | rfl | rfl | rfl | rfl | rfl
      · exact ki_NoneType
      · exact ki_bool
      · exact ki_int
      · exact ki_str
      · exact ki_list
      · exact ki_tuple
      · exact ki_dict
    , fun n hn => by
      simp only [List.mem_cons, List.mem_nil_iff, or_false] at hn
      rcases hn with rfl | rfl | rfl | rfl | rfl | rfl | rfl
      · exact nf_NoneType
      · exact nf_bool
      · exact nf_int
      · exact nf_str
      · exact nf_list
      · exact nf_tuple
      · exact nf_dict
    ⟩
  have T2 : Tx2 K mg CT CR CN CM := ⟨PySem.W.mg_none_of X G z_sum, ⟨_, PySem.W.mg_of X G g_LARGEST_VALUE⟩, ⟨_, PySem.W.mg_of X G g_MOST_ROWS⟩, PySem.W.mg_of X G aC_Store, ⟨pg_Store, hd_Store, po_Store, sa_Store⟩, n_Store_shape, n_Store__rows⟩
  have R : Er K CM CR CN := ⟨PySem.W.exm_ref E_TooMany.sb E_TooMany.hd E_TooMany.ty (errs_s errs 2 2 (by show 2 < 3; decide) (by show 2 < 3; decide)), PySem.W.exm_ref E_TooMany.sb E_TooMany.hd E_TooMany.ty (errs_s errs 1 2 (by show 1 < 3; decide) (by show 2 < 3; decide)), PySem.W.exm_ref E_BadRows.sb E_BadRows.hd E_BadRows.ty (errs_s errs 1 1 (by show 1 < 3; decide) (by show 1 < 3; decide)),
    PySem.W.exm_ref E_TooMany.sb E_TooMany.hd E_TooMany.ty (errs_s errs 0 2 (by show 0 < 3; decide) (by show 2 < 3; decide)), PySem.W.exm_ref E_BadRows.sb E_BadRows.hd E_BadRows.ty (errs_s errs 0 1 (by show 0 < 3; decide) (by show 1 < 3; decide)), PySem.W.exm_ref E_BadName.sb E_BadName.hd E_BadName.ty (errs_s errs 0 0 (by show 0 < 3; decide) (by show 0 < 3; decide)),
    ⟨E_BadRows.ga, E_BadRows.gg, E_BadRows.sb, E_BadRows.hd⟩, nf_BadRows, ⟨E_BadName.ga, E_BadName.gg, E_BadName.sb, E_BadName.hd⟩, nf_BadName⟩
  have U1 : Df l.prog w K mg base "_law_bag" 1 ps_l_bag (spBag K) := ⟨f9, _, ok_l_bag F9 T, PySem.W.mg_of X G a9, k9, b9⟩
  have U2 : Df l.prog w K mg base "_law_pick" 1 ps_l_pick spPick := ⟨f0, _, ok_l_pick F0 T, PySem.W.mg_of X G a0, k0, b0⟩
  have U3 : Df l.prog w K mg base "_law_name" 2 ps_l_name spName := ⟨f10, _, ok_l_name F10 T U2, PySem.W.mg_of X G a10, k10, b10⟩
  have U4 : Df l.prog w K mg base "_law_tables" 3 ps_l_tables (spTables K) := ⟨f11, _, ok_l_tables F11 T U2 U3, PySem.W.mg_of X G a11, k11, b11⟩
  have U5 : Df l.prog w K mg base "is_row" 1 ps_is_row (spIsRow K) := ⟨f2, _, ok_is_row F2 T, PySem.W.mg_of X G a2, k2, b2⟩
  have U6 : Df l.prog w K mg base "is_tuple" 1 ps_is_tuple (spIsTuple K) := ⟨f3, _, ok_is_tuple F3 T, PySem.W.mg_of X G a3, k3, b3⟩
  have U7 : Df l.prog w K mg base "is_name" 1 ps_is_name (spIsName K) := ⟨f1, _, ok_is_name F1 T, PySem.W.mg_of X G a1, k1, b1⟩
  have U8 : Df l.prog w K mg base "are_names" 2 ps_are_names (spAreNames K) := ⟨f4, _, ok_are_names F4 T U5 U7, PySem.W.mg_of X G a4, k4, b4⟩
  have U9 : Df l.prog w K mg base "is_table" 3 ps_is_table (spIsTable K) := ⟨f6, _, ok_is_table F6 T U6 U7 U8, PySem.W.mg_of X G a6, k6, b6⟩
  have U10 : Df l.prog w K mg base "check_tables" 4 ps_check_tables (spCheck K) := ⟨f7, _, ok_check_tables F7 T U5 U9, PySem.W.mg_of X G a7, k7, b7⟩
  have U11 : Df l.prog w K mg base "as_tuples" 4 ps_as_tuples (spTup K 4) := ⟨f5, _, ok_as_tuples F5 T (PySem.W.mg_of X G a5) b5 4, PySem.W.mg_of X G a5, k5, b5⟩
  have U12 : Dc l.prog w K mg base "Shape" CS 5 ps_Shape_init (spShInit K CS) := ⟨f8, _, ok_Shape_init F8 T U10 U11, PySem.W.mg_of X G aC_Shape, ⟨mk_Shape, a8, i8, kc_Shape⟩, b8⟩
  have U13 : Df l.prog w K mg base "_law_value" 2 ps_l_value spValue := ⟨f23, _, ok_l_value F23 T U2, PySem.W.mg_of X G a23, k23, b23⟩
  have U14 : Df l.prog w K mg base "_law_dealt" 3 ps_l_dealt (spDealt K) := ⟨f25, _, ok_l_dealt F25 T U2 U13, PySem.W.mg_of X G a25, k25, b25⟩
  have U15 : Df l.prog w K mg base "is_integer" 1 ps_is_integer spIsInt := ⟨f12, _, ok_is_integer F12 T, PySem.W.mg_of X G a12, k12, b12⟩
  have U16 : Df l.prog w K mg base "is_value" 2 ps_is_value spIsVal := ⟨f13, _, ok_is_value F13 T2 U15, PySem.W.mg_of X G a13, k13, b13⟩
  have U17 : Df l.prog w K mg base "first_wrong_row" 3 ps_first_wrong_row (spFirst K) := ⟨f14, _, ok_first_wrong_row F14 T U5 U16, PySem.W.mg_of X G a14, k14, b14⟩
  have U18 : DfX l.prog w K mg base "check_rows" 4 ps_check_rows (spCheckR K CS CR) := ⟨f15, _, ok_check_rows F15 T X_BadRows U17, PySem.W.mg_of X G a15, k15, b15⟩
  have U19 : Df l.prog w K mg base "as_tuples" 3 ps_as_tuples (spTup K 3) := ⟨f5, _, ok_as_tuples F5 T (PySem.W.mg_of X G a5) b5 3, PySem.W.mg_of X G a5, k5, b5⟩
  have U20 : DcX l.prog w K mg base "Store" CT 5 ps_Store_init (spStInit K CS CT CR CM) := ⟨f16, _, ok_Store_init F16 T T2 X_TooMany U18 U19, PySem.W.mg_of X G aC_Store, ⟨mk_Store, a16, i16, kc_Store⟩, b16⟩
  have U21 : Df l.prog w K mg base "_law_made" 7 ps_l_made (spMade K CS CT) := ⟨f26, _, ok_l_made F26 R U20 X_TooMany X_BadRows, PySem.W.mg_of X G a26, k26, b26⟩
  have U22 : DmX l.prog w K mg base CS "fields_of" 3 ps_Shape_fields_of (spFieldsE K CS CN) := ⟨f17, _, ok_Shape_fields_of F17 T X_BadName, ⟨a17, i17, k17⟩, b17⟩
  have U23 : DmX l.prog w K mg base CT "rows_of" 4 ps_Store_rows_of (spRowsOf K CS CT CN) := ⟨f18, _, ok_Store_rows_of F18 T T2 U22, ⟨a18, i18, k18⟩, b18⟩
  have U24 : DmX l.prog w K mg base CT "_with_rows" 7 ps_Store__with_rows (spWith K CS CT CR CM) := ⟨f19, _, ok_Store_with F19 T T2 U20, ⟨a19, i19, k19⟩, b19⟩
  have U25 : DmX l.prog w K mg base CT "with_row" 8 ps_Store_with_row (spWithRow K CS CT CR CN CM) := ⟨f20, _, ok_Store_with_row F20 T T2 U23 U24, ⟨a20, i20, k20⟩, b20⟩
  have U26 : Df l.prog w K mg base "_law_put" 9 ps_l_put (spPut K CS CT) := ⟨f27, _, ok_l_put F27 R T2 U25 X_TooMany X_BadRows X_BadName, PySem.W.mg_of X G a27, k27, b27⟩
  have U27 : Df l.prog w K mg base "_law_alike" 4 ps_l_alike (spAlike K 4) := ⟨f22, _, ok_l_alike F22 T (PySem.W.mg_of X G a22) b22 4, PySem.W.mg_of X G a22, k22, b22⟩
  have U28 : Df l.prog w K mg base "_law_alike" 3 ps_l_alike (spAlike K 3) := ⟨f22, _, ok_l_alike F22 T (PySem.W.mg_of X G a22) b22 3, PySem.W.mg_of X G a22, k22, b22⟩
  have U29 : Df l.prog w K mg base "_law_tells" 5 ps_l_tells (spTells K CS CT) := ⟨f24, _, ok_l_tells F24 T2 U28 U23, PySem.W.mg_of X G a24, k24, b24⟩
  have U30 : DmX l.prog w K mg base CT "without_row" 8 ps_Store_without_row (spWithout K CS CT CR CM) := ⟨f21, _, ok_Store_without_row F21 T T2 U15 U23 U24, ⟨a21, i21, k21⟩, b21⟩
  exact ok_law F30 T T2 U1 U2 U4 U12 U13 U14 U21 U26 U27 U29 U30
theorem walk {l : PySem.W.OpenLaw} {q : Program} {loose : List Str} {XP : (Str → Option Value) → Heap → Prop} {YP : World → Heap → Prop} {d : DefRec} {K : Params → PySem.W.Frag} (hn : l.most = some 63) (hdf : d.params.defaults = [])
    (hY : ∀ (w : World) (h : Heap), YP w h → (K w.params).In h)
    (F : ∀ (w : World) (mg : Str → Option Value) (fa : Addr) (h : Heap), (K w.params).In h → h.Ns mainGlobals mg → mg d.name = some (.ref fa) →
      ∃ fd : FuncData, (∀ (s : Shared) (u : Value), BindsTo s fd ⟨[u], []⟩ [("_law_script", u)]) ∧ ∀ base : Heap, (K w.params).In base → base.Ns mainGlobals mg → FnOk l.prog w (K w.params) mg base CX0 10 fa fd ["_law_script"] (spLaw (K w.params))) :
    PySem.W.WalkO q loose XP YP l.row.toRowW d [] (fun f vs => PySem.call f vs) :=
  L2.walk_of (n := 63) (k := 10) (x := "_law_script") (CX := fun _ => CX0) (sp := fun w => spLaw (K w.params)) hn (by decide) hdf ⟨rfl, by decide, by decide⟩ hY F (fun _ _ a ns hl _ hS => ⟨a, ns, rfl, hS, hl, fun _ => rfl⟩) fun _ _ _ _ _ z => z
end Fm

/-! ## K07N -/
set_option Elab.async false
set_option maxRecDepth 100000
open PySem PySem.W PyProof.Rows in
set_option maxRecDepth 100000 in
set_option maxHeartbeats 0 in
theorem PySem.Challenge.cw_firstmet_k07_three_hundred_rows_holds : PySem.Challenge.rw_firstmet_k07_three_hundred_rows.Holds := by
  w_on; o_law; k_head; (case hw => w_witness2)
  k_fill
  refine Fm.walk (l := PySem.Challenge.rw_firstmet_k07_three_hundred_rows) rfl rfl (fun w h Y => PySem.W.kIn_of Y) ?F
  case F =>
    intro w mg fa h KX G hmg
    refine' Fm.all_mk KX G hmg ?aC_Shape ?aC_Store ?aC_BadName ?aC_BadRows ?aC_TooMany ?xL0 ?xL1 ?a0 ?l0 ?c0 ?k0 ?a1 ?l1 ?c1 ?k1 ?a2 ?l2 ?c2 ?k2 ?a3 ?l3 ?c3 ?k3 ?a4 ?l4 ?c4 ?k4 ?a5 ?l5 ?c5 ?k5 ?a6 ?l6 ?c6 ?k6 ?a7 ?l7 ?c7 ?k7 ?a8 ?i8 ?l8 ?c8 ?k8 ?a9 ?l9 ?c9 ?k9 ?a10 ?l10 ?c10 ?k10 ?a11 ?l11 ?c11 ?k11 ?a12 ?l12 ?c12 ?k12 ?a13 ?l13 ?c13 ?k13 ?a14 ?l14 ?c14 ?k14 ?a15 ?l15 ?c15 ?k15 ?a16 ?i16 ?l16 ?c16 ?k16 ?a17 ?i17 ?l17 ?c17 ?k17 ?a18 ?i18 ?l18 ?c18 ?k18 ?a19 ?i19 ?l19 ?c19 ?k19 ?a20 ?i20 ?l20 ?c20 ?k20 ?a21 ?i21 ?l21 ?c21 ?k21 ?a22 ?l22 ?c22 ?k22 ?a23 ?l23 ?c23 ?k23 ?a24 ?l24 ?c24 ?k24 ?a25 ?l25 ?c25 ?k25 ?a26 ?l26 ?c26 ?k26 ?a27 ?l27 ?c27 ?k27 ?a28 ?t28 ?l28 ?c28 ?k28 ?a29 ?t29 ?l29 ?c29 ?k29 ?a30 ?l30 ?c30 ?k30 ?pg_Shape ?hd_Shape ?po_Shape ?sa_Shape ?mk_Shape ?kc_Shape ?n_Shape_tables ?pg_Store ?hd_Store ?po_Store ?sa_Store ?mk_Store ?kc_Store ?n_Store_shape ?n_Store__rows ?z_len ?z_list ?z_tuple ?z_isinstance ?z_str ?z_dict ?z_bool ?z_int ?z_max ?z_all ?z_set ?z_range ?z_enumerate ?z_sum ?g_LETTERS ?g_LONGEST_NAME ?g_MOST_TABLES ?g_MOST_FIELDS ?g_LARGEST_VALUE ?g_MOST_ROWS ?ccls ?cget ?ctak ?cmro ?cne ?ki_NoneType ?ki_bool ?ki_int ?ki_str ?ki_list ?ki_tuple ?ki_dict ?nf_NoneType ?nf_bool ?nf_int ?nf_str ?nf_list ?nf_tuple ?nf_dict ?errs
    (case aC_Shape => k_is)
    (case aC_Store => k_is)
    (case aC_BadName => k_is)
    (case aC_BadRows => k_is)
    (case aC_TooMany => k_is)
    (case xL0 => k_is)
    (case xL1 => k_is)
    (case a0 => k_is)
    (case l0 => k_is)
    (case c0 => k_is)
    (case k0 => k_is)
    (case a1 => k_is)
    (case l1 => k_is)
    (case c1 => k_is)
    (case k1 => k_is)
    (case a2 => k_is)
    (case l2 => k_is)
    (case c2 => k_is)
    (case k2 => k_is)
    (case a3 => k_is)
    (case l3 => k_is)
    (case c3 => k_is)
    (case k3 => k_is)
    (case a4 => k_is)
    (case l4 => k_is)
    (case c4 => k_is)
    (case k4 => k_is)
    (case a5 => k_is)
    (case l5 => k_is)
    (case c5 => k_is)
    (case k5 => k_is)
    (case a6 => k_is)
    (case l6 => k_is)
    (case c6 => k_is)
    (case k6 => k_is)
    (case a7 => k_is)
    (case l7 => k_is)
    (case c7 => k_is)
    (case k7 => k_is)
    (case a8 => k_is)
    (case i8 => k_is)
    (case l8 => k_is)
    (case c8 => k_is)
    (case k8 => k_is)
    (case a9 => k_is)
    (case l9 => k_is)
    (case c9 => k_is)
    (case k9 => k_is)
    (case a10 => k_is)
    (case l10 => k_is)
    (case c10 => k_is)
    (case k10 => k_is)
    (case a11 => k_is)
    (case l11 => k_is)
    (case c11 => k_is)
    (case k11 => k_is)
    (case a12 => k_is)
    (case l12 => k_is)
    (case c12 => k_is)
    (case k12 => k_is)
    (case a13 => k_is)
    (case l13 => k_is)
    (case c13 => k_is)
    (case k13 => k_is)
    (case a14 => k_is)
    (case l14 => k_is)
    (case c14 => k_is)
    (case k14 => k_is)
    (case a15 => k_is)
    (case l15 => k_is)
    (case c15 => k_is)
    (case k15 => k_is)
    (case a16 => k_is)
    (case i16 => k_is)
    (case l16 => k_is)
    (case c16 => k_is)
    (case k16 => k_is)
    (case a17 => k_is)
    (case i17 => k_is)
    (case l17 => k_is)
    (case c17 => k_is)
    (case k17 => k_is)
    (case a18 => k_is)
    (case i18 => k_is)
    (case l18 => k_is)
    (case c18 => k_is)
    (case k18 => k_is)
    (case a19 => k_is)
    (case i19 => k_is)
    (case l19 => k_is)
    (case c19 => k_is)
    (case k19 => k_is)
    (case a20 => k_is)
    (case i20 => k_is)
    (case l20 => k_is)
    (case c20 => k_is)
    (case k20 => k_is)
    (case a21 => k_is)
    (case i21 => k_is)
    (case l21 => k_is)
    (case c21 => k_is)
    (case k21 => k_is)
    (case a22 => k_is)
    (case l22 => k_is)
    (case c22 => k_is)
    (case k22 => k_is)
    (case a23 => k_is)
    (case l23 => k_is)
    (case c23 => k_is)
    (case k23 => k_is)
    (case a24 => k_is)
    (case l24 => k_is)
    (case c24 => k_is)
    (case k24 => k_is)
    (case a25 => k_is)
    (case l25 => k_is)
    (case c25 => k_is)
    (case k25 => k_is)
    (case a26 => k_is)
    (case l26 => k_is)
    (case c26 => k_is)
    (case k26 => k_is)
    (case a27 => k_is)
    (case l27 => k_is)
    (case c27 => k_is)
    (case k27 => k_is)
    (case a28 => k_is)
    (case t28 => k_is)
    (case l28 => k_is)
    (case c28 => k_is)
    (case k28 => k_is)
    (case a29 => k_is)
    (case t29 => k_is)
    (case l29 => k_is)
    (case c29 => k_is)
    (case k29 => k_is)
    (case a30 => k_is)
    (case l30 => k_is)
    (case c30 => k_is)
    (case k30 => k_is)
    (case pg_Shape => k_is)
    (case hd_Shape => k_is)
    (case po_Shape => k_is)
    (case sa_Shape => k_is)
    (case mk_Shape => k_is)
    (case kc_Shape => k_is)
    (case n_Shape_tables => k_is)
    (case pg_Store => k_is)
    (case hd_Store => k_is)
    (case po_Store => k_is)
    (case sa_Store => k_is)
    (case mk_Store => k_is)
    (case kc_Store => k_is)
    (case n_Store_shape => k_is)
    (case n_Store__rows => k_is)
    (case z_len => k_is)
    (case z_list => k_is)
    (case z_tuple => k_is)
    (case z_isinstance => k_is)
    (case z_str => k_is)
    (case z_dict => k_is)
    (case z_bool => k_is)
    (case z_int => k_is)
    (case z_max => k_is)
    (case z_all => k_is)
    (case z_set => k_is)
    (case z_range => k_is)
    (case z_enumerate => k_is)
    (case z_sum => k_is)
    (case g_LETTERS => k_is)
    (case g_LONGEST_NAME => k_is)
    (case g_MOST_TABLES => k_is)
    (case g_MOST_FIELDS => k_is)
    (case g_LARGEST_VALUE => k_is)
    (case g_MOST_ROWS => k_is)
    (case ccls => k_is)
    (case cget => k_is)
    (case ctak => k_is)
    (case cmro => k_is)
    (case cne => k_is)
    (case ki_NoneType => kit_is)
    (case ki_bool => kit_is)
    (case ki_int => kit_is)
    (case ki_str => kit_is)
    (case ki_list => kit_is)
    (case ki_tuple => kit_is)
    (case ki_dict => kit_is)
    (case nf_NoneType => k_is)
    (case nf_bool => k_is)
    (case nf_int => k_is)
    (case nf_str => k_is)
    (case nf_list => k_is)
    (case nf_tuple => k_is)
    (case nf_dict => k_is)
    (case errs => kernel_rfl)
