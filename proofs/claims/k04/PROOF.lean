import PyProof.Rows.All
import Wide.All
import OpenK.AllK
import Wide.FinOn
import HandS.ForMost
import HandS.IsInst
import HandS.TupAny
import HandS.Strs
import HandS.OwnEq
import HandS.Flow
import HandS.Evl
import HandS.Zip0
import HandS.Walk
import PyProof.Draws
import PyProof.EnumMake
import PyProof.InstNe
import HandS.TupMul
import HandS.Exc
import HandS.ExcIs
import HandS.ExcField
import HandS.ExcInit
import HandS.Small
import HandS.Defaults
import HandS.MakeKwOnly
import HandS.ExcOwn
import HandS.WordsExc
import HandS.DictComp
import HandS.DictEq
import HandS.More
import HandS.Star
import KE.KEqDict
import PySem.Challenge.RW_firstmet_k04_stores_kept
/-! ## FmBase -/
set_option Elab.async false
set_option maxRecDepth 100000
/-! What all of our laws share: how a def of the text is called, heaps that grow, the bag of the drawn numbers. -/
namespace Fm
open PySem L2
/-! ### calls -/
/-- the module's name x is a def that keeps the promise sp -/
structure Df (P : Program) (w : World) (K : PySem.W.Frag) (mg : Str → Option Value) (base : Heap) (x : Str) (k : Nat) (ps : List Str) (sp : Sp) : Prop where
  ex : ∃ (f : Addr) (fd : FuncData), FnOk P w K mg base CX0 k f fd ps sp ∧ mg x = some (.ref f) ∧ PySem.W.keepIn K (.ref f) = true ∧ Binds K fd ps []
/-- the method m of the class at C -/
structure Dm (P : Program) (w : World) (K : PySem.W.Frag) (mg : Str → Option Value) (base : Heap) (C : Addr) (m : Str) (k : Nat) (ps : List Str) (sp : Sp) : Prop where
  ex : ∃ (f : Addr) (fd : FuncData), FnOk P w K mg base CX0 k f fd ps sp ∧ Meth K C m f ∧ Binds K fd ps []
/-- the class at C, by its __init__ -/
structure Dc (P : Program) (w : World) (K : PySem.W.Frag) (mg : Str → Option Value) (base : Heap) (x : Str) (C : Addr) (k : Nat) (ps : List Str) (sp : Sp) : Prop where
  ex : ∃ (f : Addr) (fd : FuncData), FnOk P w K mg base CX0 k f fd ps sp ∧ mg x = some (.ref C) ∧ Mk K C f ∧ Binds K fd ps []
section
variable {X : Cx} {k : Nat} {ps : List Str} {sp : Sp} {x m : Str} {e o : Expr} {es : List Expr} {t : TA} {to : TE} {C : Addr} {p apos pos : Pos}
theorem pe_d (D : Df X.prog X.w X.K X.mg X.base x k ps sp) (hr : Room k X.A) (ha : PA X (e :: es) t) (hg : Gl X x := by rfl) (hdb : (x == ("__debug__" : Str)) = false := by decide)
    (he : starEach (e :: es) X.env = (false, eval e X.env) :: starEach es X.env := by rfl) (hpl : (backTo pos (starEach es X.env)).any (·.1) = false := by rfl) : PE X (.Call (.Name x p) (e :: es) [] pos) (tCall sp [] E0 t) := by
  obtain ⟨f, fd, F, hm, hk, hb⟩ := D.ex
  exact pe_call F hr hg hm hk hb .nil pass0 ha hdb he hpl
theorem pe_dc (D : Dc X.prog X.w X.K X.mg X.base x C k ps sp) (hr : Room (k + 1) X.A) (ha : PA X (e :: es) t) (hg : Gl X x := by rfl) (hdb : (x == ("__debug__" : Str)) = false := by decide)
    (he : starEach (e :: es) X.env = (false, eval e X.env) :: starEach es X.env := by rfl) (hpl : (backTo pos (starEach es X.env)).any (·.1) = false := by rfl) : PE X (.Call (.Name x p) (e :: es) [] pos) (tMake C sp [] E0 t) := by
  obtain ⟨f, fd, F, hm, M, hb⟩ := D.ex
  exact pe_make M F hr hg hm hb .nil pass0 ha hdb he hpl
theorem pe_dm {pl : Sem Bool} (he : PE X o to) (c : Cls X.K C) (D : Dm X.prog X.w X.K X.mg X.base C m k ps sp) (hr : Room k X.A) (ha : PA X (e :: es) t)
    (hst : starEach (e :: es) X.env = (false, eval e X.env) :: starEach es X.env := by rfl) (hpl : (backTo pos (starEach es X.env)).any (·.1) = false := by rfl)
    (ht : eval (.Call (.Attribute o m apos) (e :: es) [] pos) X.env = (do
      let ov ← eval o X.env
      standAt apos.atName
      let (f, first) ← holding [ov] (getMethod ov m pl)
      callWith pos f first (backTo pos (starEach (e :: es) X.env)) (backToKw pos (keywordEach [] X.env))) := by rfl) : PE X (.Call (.Attribute o m apos) (e :: es) [] pos) (tMeth C m sp [] E0 to t) := by
  obtain ⟨f, fd, F, hm, hb⟩ := D.ex
  exact pe_meth he c hm F hr hb .nil pass0 ha hst hpl ht
end
section
variable {X : Cx} {x : Str} {pos : Pos}
theorem pe_gI {n : Int} (h : ∃ t, X.mg x = some (.int n t)) (hg : Gl X x := by rfl) (hd : (x == ("__debug__" : Str)) = false := by decide) : PE X (.Name x pos) (tC (.int n)) := by
  obtain ⟨t, e⟩ := h
  exact pe_glob hg e ⟨t, rfl⟩ hd
theorem pe_gS {z : Str} (h : ∃ t, X.mg x = some (.str z t)) (hg : Gl X x := by rfl) (hd : (x == ("__debug__" : Str)) = false := by decide) : PE X (.Name x pos) (tC (.str z)) := by
  obtain ⟨t, e⟩ := h
  exact pe_glob hg e ⟨t, rfl⟩ hd
end
/-! ### tests -/
theorem ifd {p A B : Prop} [Decidable p] (h1 : p → A) (h2 : ¬ p → B) : if decide p = true then A else B := by
  by_cases h : p
  · rw [if_pos (decide_eq_true h)]
    exact h1 h
  · rw [if_neg (by rw [decide_eq_false h]; exact Bool.false_ne_true)]
    exact h2 h
theorem ifn {p A B : Prop} [Decidable p] (h1 : ¬ p → A) (h2 : p → B) : if (!decide p) = true then A else B := by
  by_cases h : p
  · rw [if_neg (by rw [decide_eq_true h]; exact Bool.false_ne_true)]
    exact h2 h
  · rw [if_pos (by rw [decide_eq_false h]; rfl)]
    exact h1 h
theorem intV {i j : Int} (h : V.int i = V.int j) : i = j := V.int.inj h
/-! ### heaps that grow: F is the part that is spoken of, the rest of H stays -/
structure Grow (F H F' H' : Hp) : Prop where
  ff : Same F F'
  fh : Same F' H'
  hh : ∀ a o, F a = none → H a = some o → F' a = none ∧ H' a = some o
theorem Grow.refl {F H : Hp} (s : Same F H) : Grow F H F H := ⟨Same.refl _, s, fun _ _ a b => ⟨a, b⟩⟩
theorem Grow.same {F H F' H' : Hp} (s : Same F H) (g : Grow F H F' H') : Same H H' := fun a o e => by
  cases q : F a with
  | none => exact (g.hh a o q e).2
  | some u =>
    have z := s a u q
    rw [e] at z
    cases z
    exact g.fh _ _ (g.ff _ _ q)
theorem Grow.trans {F H F1 H1 F2 H2 : Hp} (a : Grow F H F1 H1) (b : Grow F1 H1 F2 H2) : Grow F H F2 H2 :=
  ⟨a.ff.trans b.ff, b.fh, fun c o h1 h2 => let ⟨z1, z2⟩ := a.hh c o h1 h2; b.hh c o z1 z2⟩
theorem same_upd {F H : Hp} (s : Same F H) (p : Addr) (o : HO) : Same (upd F p o) (upd H p o) := fun a u e => by
  by_cases h : a = p
  · subst h
    rw [upd_same] at e ⊢
    exact e
  · rw [upd_ne h] at e ⊢
    exact s a u e
theorem Grow.new {F H : Hp} (s : Same F H) {p : Addr} (o : HO) (hp : H p = none) : Grow F H (upd F p o) (upd H p o) :=
  ⟨fun a u e => by rw [upd_ne (ne_of_none e (s.free hp))]; exact e, same_upd s p o, fun a u e1 e2 => by
    have n := ne_of_none e2 hp
    rw [upd_ne n, upd_ne n]
    exact ⟨e1, e2⟩⟩
theorem same_upd1 {F H : Hp} (s : Same F H) {p : Addr} (o : HO) (hp : H p = none) : Same F (L2.upd H p o) := fun a u e => by
  rw [upd_ne (ne_of_none (s a u e) hp)]
  exact s a u e
theorem same_new {H : Hp} {p : Addr} (o : HO) (hp : H p = none) : Same H (upd H p o) := same_upd1 (Same.refl H) o hp
theorem same_put {H H' : Hp} (s : Same H H') {D : Addr} (o : HO) (hD : H D = none) : Same H (upd H' D o) := fun a u e => by
  have n : a ≠ D := ne_of_none e hD
  rw [upd_ne n]
  exact s a u e
theorem map_take {α β : Type} {xs : List α} {i : Nat} {c : α} (f : α → β) (h : xs[i]? = some c) : (xs.take (i + 1)).map f = (xs.take i).map f ++ [f c] := by
  rw [List.take_add_one, h, List.map_append]
  rfl
theorem take_lt {α β : Type} {xs : List α} {i : Nat} (f : α → β) (h : xs.length ≤ 100000) : ((xs.take i).map f).length < sizeLine := by
  rw [List.length_map, List.length_take]
  exact Nat.lt_of_le_of_lt (Nat.le_trans (Nat.min_le_right _ _) h) (by decide)
/-! ### the bag -/
structure Bag (F H : Hp) (b : Addr) : Prop where
  fh : Same F H
  fb : F b = none
  ex : ∃ (cl : Addr) (ns : List Int) (p g s c h : Int), F cl = none ∧ cl ≠ b ∧ H cl = some (.lst (ns.map V.int)) ∧ H b = some (.lst [.ref cl, .int p, .int g, .int s, .int c, .int h]) ∧ 0 ≤ p ∧ 0 ≤ g ∧ 0 ≤ s ∧ s < 2147483647
theorem Bag.grow {F H F' H' : Hp} {b : Addr} (B : Bag F H b) (g : Grow F H F' H') : Bag F' H' b := by
  obtain ⟨s, fb, cl, ns, p, gg, z, c, h, e1, e2, e3, e4, r⟩ := B
  obtain ⟨z1, z2⟩ := g.hh _ _ e1 e3
  obtain ⟨y1, y2⟩ := g.hh _ _ fb e4
  exact ⟨g.fh, y1, cl, ns, p, gg, z, c, h, z1, e2, z2, y2, r⟩
theorem Bag.new {F H : Hp} {b p : Addr} (B : Bag F H b) (o : HO) (hp : H p = none) : Bag (upd F p o) (upd H p o) b := B.grow (Grow.new B.fh o hp)
theorem Bag.put {F H : Hp} {b l : Addr} {o : HO} (B : Bag F H b) (o' : HO) (hl : F l = some o) : Bag (upd F l o') (upd H l o') b := by
  obtain ⟨s, fb, cl, ns, p, g, z, c, h, e1, e2, e3, e4, r⟩ := B
  have n1 : b ≠ l := fun q => by rw [q, hl] at fb; cases fb
  have n2 : cl ≠ l := fun q => by rw [q, hl] at e1; cases e1
  exact ⟨same_upd s l o', by rw [upd_ne n1]; exact fb, cl, ns, p, g, z, c, h, by rw [upd_ne n2]; exact e1, e2, by rw [upd_ne n2]; exact e3, by rw [upd_ne n1]; exact e4, r⟩
theorem Bag.ne {F H : Hp} {b l : Addr} {o : HO} (B : Bag F H b) (hl : F l = some o) : l ≠ b := fun q => by
  have z := B.fb
  rw [← q, hl] at z
  cases z
/-- what _law_pick(bag, many) gives: some number below many -/
def spPick : Sp := fun vs H Q _ => ∃ (F : Hp) (b : Addr) (m : Int), vs = [.ref b, .int m] ∧ 0 < m ∧ m < 1073741824 ∧ Bag F H b ∧ ∀ (r : Int) (H' : Hp), 0 ≤ r → r < m → Bag F H' b → Q (.int r) H'
theorem fmod_lo {a m : Int} (h : 0 < m) : 0 ≤ a.fmod m := Int.fmod_nonneg_of_pos a h
theorem fmod_hi {a m : Int} (h : 0 < m) : a.fmod m < m := Int.fmod_lt_of_pos a h
theorem fmod64 (x : Int) {m : Int} (h : 0 < m) (h2 : m < 4294967296) : -(2 ^ 64) < x.fmod m ∧ x.fmod m < 2 ^ 64 := by
  have a := fmod_lo (a := x) h
  have b := fmod_hi (a := x) h
  omega
theorem fdiv_lo {a m : Int} (ha : 0 ≤ a) (h : 0 < m) : 0 ≤ a.fdiv m := by
  rw [Int.fdiv_eq_ediv_of_nonneg _ (Int.le_of_lt h)]
  exact Int.ediv_nonneg ha (Int.le_of_lt h)
theorem fdiv_hi {a m : Int} (ha : 0 ≤ a) (h : 0 < m) : a.fdiv m ≤ a := by
  rw [Int.fdiv_eq_ediv_of_nonneg _ (Int.le_of_lt h)]
  exact Int.ediv_le_self _ ha
end Fm

/-! ## FmSet -/
set_option Elab.async false
set_option maxRecDepth 100000
set_option maxHeartbeats 8000000
/-! The size of a set that is made of a row of texts, whatever texts they are. -/
namespace Fm
open PySem L2 PyProof.Rows PySem.Spec
/-- how many unlike texts, the last one first -/
def disR : List Str → Nat
  | [] => 0
  | x :: r => if x ∈ r then disR r else disR r + 1
def dis (xs : List Str) : Nat := disR xs.reverse
theorem disR_le : ∀ r : List Str, disR r ≤ r.length
  | [] => Nat.le_refl _
  | x :: r => by
    have ih := disR_le r
    unfold disR
    split
    · exact Nat.le_succ_of_le ih
    · exact Nat.succ_le_succ ih
theorem disR_full : ∀ r : List Str, disR r = r.length ↔ r.Nodup
  | [] => ⟨fun _ => .nil, fun _ => rfl⟩
  | x :: r => by
    have ih := disR_full r
    have le := disR_le r
    unfold disR
    rw [List.nodup_cons]
    split
    · rename_i h
      constructor
      · intro e
        rw [List.length_cons] at e
        omega
      · intro e
        exact absurd h e.1
    · rename_i h
      rw [List.length_cons]
      constructor
      · intro e
        exact ⟨h, ih.mp (by omega)⟩
      · intro e
        rw [ih.mpr e.2]
theorem dis_le (xs : List Str) : dis xs ≤ xs.length := by
  have h := disR_le xs.reverse
  rw [List.length_reverse] at h
  exact h
theorem dis_full (xs : List Str) : dis xs = xs.length ↔ xs.Nodup := by
  have h := disR_full xs.reverse
  rw [List.length_reverse] at h
  refine h.trans ?_
  show List.Pairwise (· ≠ ·) xs.reverse ↔ List.Pairwise (· ≠ ·) xs
  rw [List.pairwise_reverse]
  exact ⟨fun z => z.imp Ne.symm, fun z => z.imp Ne.symm⟩
theorem dis_take {xs : List Str} {i : Nat} {x : Str} (h : xs[i]? = some x) : dis (xs.take (i + 1)) = if x ∈ xs.take i then dis (xs.take i) else dis (xs.take i) + 1 := by
  have e : xs.take (i + 1) = xs.take i ++ [x] := by
    rw [List.take_add_one, h]
    rfl
  unfold dis
  rw [e, List.reverse_append]
  show (if x ∈ (xs.take i).reverse then _ else _) = _
  by_cases m : x ∈ xs.take i
  · rw [if_pos m, if_pos (List.mem_reverse.mpr m)]
    rfl
  · rw [if_neg m, if_neg fun z => m (List.mem_reverse.mp z)]
    rfl
abbrev among (l : List Str) : Str → Bool := fun k => l.any (· == k)
theorem among_mem {l : List Str} {x : Str} : among l x = true ↔ x ∈ l := by
  show l.any (· == x) = true ↔ x ∈ l
  rw [List.any_eq_true]
  constructor
  · rintro ⟨y, hy, e⟩
    rw [← eq_of_beq e]
    exact hy
  · intro h
    exact ⟨x, h, beq_self_eq_true x⟩
theorem among_take {xs : List Str} {i : Nat} {x : Str} (h : xs[i]? = some x) (k : Str) : (among (xs.take i) k || decide (k = x)) = among (xs.take (i + 1)) k := by
  have e : xs.take (i + 1) = xs.take i ++ [x] := by
    rw [List.take_add_one, h]
    rfl
  show _ = (xs.take (i + 1)).any (· == k)
  rw [e, List.any_append]
  by_cases q : k = x
  · subst q
    simp
  · have q' : (x == k) = false := by simpa using fun z : x = k => q z.symm
    simp [q, q']
section
variable {prog : Program} {w : World} {A : Around} {R : Result → Shared → Prop} {I : Addr} {fp wr : List Addr} {G : Array GenState → Array GenState → Prop} {n : Nat} {Pz : Nat → Value → Prop} {St : Nat → Shared → Prop}
/-- the loop that fills a set: behind i items it holds those items -/
theorem fill_strs (W : WalksS prog w A.in1 I fp wr G n Pz St) (S : Addr) (hS : S ∉ fp) (xs : List Str) (hn : xs.length = n) (hb : n + 1 < scanBound) (hv : ∀ i v, Pz i v → ∃ t x, v = .str x t ∧ xs[i]? = some x) :
    ∀ (k i : Nat) (s : Shared), n - i = k → i ≤ n → St i s → s.heap.SetOf (PySem.strKind prog w) S (among (xs.take i)) (dis (xs.take i)) →
      (∀ s', Moved (S :: wr) G s s' → s'.heap.SetOf (PySem.strKind prog w) S (among xs) (dis xs) → R (.ok (.ret .none)) s') →
      codeAny (model prog w) A (.builtin "set.update.loop" ⟨[.ref S, .ref I], []⟩) R s := by
  have out : S ∉ wr := fun z => hS (W.sub _ z)
  have more : ∀ b ∈ wr, b ∈ S :: wr := fun b z => List.mem_cons_of_mem _ z
  intro k
  induction k with
  | zero =>
    intro i s e0 le st set fin
    obtain rfl : i = n := by omega
    refine codeAny_builtin F.entry_set_update_loop ?_
    rw [Around.under_plainId F.plain_set_update_loop _]
    show wpAny _ A.in1 (pyNext (.ref I) >>= _) _ _ s
    refine wpAny_bind (W.done s _ _ st fun s' mv => ?_)
    show wpAny _ A.in1 (ret Value.none) _ _ s'
    refine wpAny_pure (fin s' (mv.mono more) ?_)
    obtain ⟨o, es, ep, t, ho, rest⟩ := set
    rw [← hn, List.take_length] at rest
    exact ⟨o, es, ep, t, mv.heap S _ out ho, rest⟩
  | succ k ih =>
    intro i s e0 le st set fin
    have lt : i < n := by omega
    refine codeAny_builtin F.entry_set_update_loop ?_
    rw [Around.under_plainId F.plain_set_update_loop _]
    show wpAny _ A.in1 (pyNext (.ref I) >>= _) _ _ s
    refine wpAny_bind (W.item i s _ _ lt st fun v s' pv st' mv => ?_)
    obtain ⟨t, x, rfl, hx⟩ := hv i v pv
    have set' : s'.heap.SetOf (PySem.strKind prog w) S (among (xs.take i)) (dis (xs.take i)) := by
      obtain ⟨o, es, ep, tb, ho, rest⟩ := set
      exact ⟨o, es, ep, tb, mv.heap S _ out ho, rest⟩
    show wpAny _ A.in1 (holding [Value.str x t] (setAdd S (.str x t)) >>= _) _ _ s'
    refine wpAny_bind (wpAny_holding ?_)
    unfold setAdd
    refine wpAny_holding ?_
    refine wpAny_bind ((PySem.strKind prog w).pyHash (k := x) (strKind_is _ _ _ _) ?_)
    have small : dis (xs.take i) + 1 < scanBound := by
      have z := dis_le (xs.take i)
      rw [List.length_take] at z
      omega
    refine wpAny_setAddHashed_of (knd := PySem.strKind prog w) (s := { s' with toks := s'.toks + 1 }) (strKind_is _ _ _ _) rfl set' small fun h' sb set2 => ?_
    have set3 : h'.SetOf (PySem.strKind prog w) S (among (xs.take (i + 1))) (dis (xs.take (i + 1))) := by
      refine SetOf_congr set2 (fun k' => among_take hx k') ?_
      rw [dis_take hx]
      by_cases m : x ∈ xs.take i
      · rw [if_pos m, if_pos (among_mem.mpr m)]
      · rw [if_neg m, if_neg fun z => m (among_mem.mp z)]
    refine wpAny_pure ⟨plainId_quiet F.plain_set_update_loop _, ih (i + 1) _ (by omega) lt (W.frame _ s' _ _ st' (Nat.le_succ _) fun b hb o e => ?_) set3 fun s3 mv3 done => ?_⟩
    · rw [sb.2 b fun z : b = S => hS (by rw [← z]; exact hb)]
      exact e
    · refine fin s3 (Moved.trans W.gtrans ((mv.mono more).then_heap (Nat.le_succ _) fun b o hb e => ?_) mv3) done
      rw [sb.2 b fun z : b = S => hb (by rw [z]; exact List.mem_cons_self)]
      exact e
end
def newSet (led : Bool) : Obj := { cls := .type "set", dict := none, data := .set #[] 0 (.fresh 0 0 led) }
section
variable {prog : Program} {w : World} {A : Around} {E : Value → Shared → Prop} {s : Shared}
set_option maxHeartbeats 16000000 in
/-- set(xs), xs a list of texts -/
theorem set_of_list {l : Addr} {items : Array Value} {xs : List Str} {Q : Value → Shared → Prop} (hh : A.handled = none) (hl : s.heap.IsList l items) (hi : StrsAre items.toList xs) (hn : xs.length + 1 < scanBound)
    (k : ∀ (h' : Heap) (tk : Nat), h'.SetOf (PySem.strKind prog w) s.heap.objs.size (among xs) (dis xs) → (∀ b o, b < s.heap.objs.size → s.heap.get? b = some o → h'.get? b = some o) → Q (.ref s.heap.objs.size) { s with heap := h', toks := tk }) :
    wpAny (model prog w) A (call (.type "set") [.ref l]) Q E s := by
  obtain ⟨cc, tl, mro⟩ := PySem.F.called_set.mro
  have made := PySem.F.called_set.made
  have isub := PySem.F.called_set.sub
  refine wpAny_call (codeAny_of_tree ?_)
  show wpAny _ _ (callAny (.type "set") _) _ _ _
  refine wpAny_pure ⟨Code.quiet_builtin _ (by decide +kernel), codeAny_builtin PySem.F.entry_type_call ?_⟩
  rw [Around.under_plain (weight_type_call_type "set" [.ref l] []) rfl]
  have f1 := PySem.F.called_set.notType
  have f2 := PySem.F.called_set.canCreate
  have f3 := PySem.F.typeCall_set_1 (.ref l)
  repeat (any_goals (first | assumption | wp_step))
  refine codeAny_mono (code_set_new_1 (.ref l) (E := E) (Q₁ := fun ob s1 => ∃ led : Bool, ob = .ref s.heap.objs.size ∧ s1 = { s with heap := s.heap.push (newSet led) }) fun led => ⟨led, rfl, rfl⟩) fun r s1 hr => ?_
  cases r with
  | error e => exact hr
  | ok fl =>
    cases fl with
    | next => exact hr.elim
    | brk => exact hr.elim
    | cont => exact hr.elim
    | ret ob =>
      obtain ⟨led, rfl, rfl⟩ := hr
      have atS : (s.heap.push (newSet led)).get? s.heap.objs.size = some (newSet led) := Heap.get?_push_size _ rfl
      have ty : Shared.TypeIs { s with heap := s.heap.push (newSet led) } (.ref s.heap.objs.size) "set" := ⟨_, atS, rfl⟩
      have i1 := PySem.F.called_set.init.lookup
      have i2 := PySem.F.called_set.init.bind (.ref s.heap.objs.size)
      repeat (any_goals (first | assumption | wp_step))
      refine codeAny_mono (codeAny_call_builtin (R := wants (fun r s2 => r = .none ∧ ∃ h' tk, s2 = { s with heap := h', toks := tk } ∧ h'.SetOf (PySem.strKind prog w) s.heap.objs.size (among xs) (dis xs) ∧ (∀ b o, b < s.heap.objs.size → s.heap.get? b = some o → h'.get? b = some o)) E) PySem.F.called_set.init.plain PySem.F.entry_set_init (check_set_init_1 ty ?_)) fun r2 s2 hr2 => ?_
      · obtain ⟨ol, hol, hcl, nl, hdl⟩ := hl
        obtain ⟨oc, od, oda, osl⟩ := ol
        simp only at hcl hdl
        subst hcl hdl
        have hol' : (s.heap.push (newSet led)).get? l = some { cls := .type "list", dict := od, data := .seq items nl, slots := osl } := Heap.get?_push_of_some _ hol
        have g1 := PySem.F.sub_list_set
        have g2 := PySem.F.sub_list_frozenset
        have g3 : (Value.type "list" == Value.type "dict") = false := by decide
        have hl1 : (s.heap.push (newSet led)).IsList l items := ⟨_, hol', rfl, nl, rfl⟩
        unfold newSet at hol' hl1 ty atS ⊢
        unfold Builtin.«set.__init__» noKeywords Builtin.Frozenset.updateFrom
        generalize hPI : pyIter = PI
        wp_walk
        subst hPI
        refine wpAny_pyIter_list hl1 ?_
        refine wpAny_bind (wpAny_runValue ?_)
        have ls : l < s.heap.objs.size := Heap.lt_size hol
        have hh3 : A.in1.in1.in1.handled = none := by simp [hh]
        have sz : (s.heap.push (newSet led)).objs.size = s.heap.objs.size + 1 := Heap.size_push _ _
        unfold newSet at sz
        have n1 : l ≠ (s.heap.push { cls := .type "set", dict := none, data := .set #[] 0 (.fresh 0 0 led) }).objs.size := by
          rw [sz]
          exact Nat.ne_of_lt (Nat.lt_succ_of_lt ls)
        have n2 : s.heap.objs.size ∉ [(s.heap.push { cls := .type "set", dict := none, data := .set #[] 0 (.fresh 0 0 led) }).objs.size, l] := by
          rw [sz]
          intro z
          rcases List.mem_cons.mp z with z | z
          · exact absurd z (Nat.ne_of_lt (Nat.lt_succ_self _))
          · exact absurd (List.mem_singleton.mp z) (Nat.ne_of_gt ls)
        have hsz : xs.length = items.size := by rw [← StrsAre.len_eq hi, Array.length_toList]
        have hval : ∀ (i : Nat) (v : Value), items[i]? = some v → ∃ t x, v = .str x t ∧ xs[i]? = some x := fun i v hv => by
          obtain ⟨t, e⟩ := SS.strs_at hi i v (by rw [Array.getElem?_toList]; exact hv)
          have hlt : i < xs.length := by
            rw [hsz]
            exact (Array.getElem?_eq_some_iff.mp hv).1
          exact ⟨t, xs[i], by
            rw [e, List.getD_eq_getElem?_getD, List.getElem?_eq_getElem hlt]
            rfl, List.getElem?_eq_getElem hlt⟩
        refine fill_strs ((Walks.list hh3 _ l n1 items).toS) s.heap.objs.size n2 xs hsz (by rw [← hsz]; exact hn) hval (items.size - 0) 0 _ (by omega) (Nat.zero_le _)
          ⟨⟨_, Heap.get?_push_size _ rfl, rfl, rfl⟩, (hl1.push _)⟩ ?hS0 ?hR
        case hS0 =>
          exact SetOf_congr ((setObjOf_fresh (knd := PySem.strKind prog w) led).setOf (Heap.get?_push_of_some _ atS) (by unfold scanBound; omega)) (fun _ => rfl) rfl
        case hR =>
          intro s' mv set'
          obtain ⟨h', g', d', tk', os'⟩ := s'
          obtain rfl : g' = s.gens := mv.gens
          obtain rfl : d' = s.drawn := mv.drawn
          obtain rfl : os' = s.os := mv.os
          show wpAny _ _ _ _ _ _
          refine wpAny_pure ?_
          show wpAny _ _ (ret Value.none) _ _ _
          refine wpAny_pure ⟨rfl, h', tk', rfl, set', fun b o hb e => ?_⟩
          refine mv.heap b o ?_ (Heap.get?_push_of_some _ (Heap.get?_push_of_some _ e))
          rw [sz]
          intro z
          rcases List.mem_cons.mp z with z | z
          · exact absurd z (Nat.ne_of_lt hb)
          · exact absurd (List.mem_singleton.mp z) (Nat.ne_of_lt (Nat.lt_succ_of_lt hb))
      · cases r2 with
        | error e => exact hr2
        | ok fl2 =>
          cases fl2 with
          | next => exact hr2.elim
          | brk => exact hr2.elim
          | cont => exact hr2.elim
          | ret r =>
            obtain ⟨rfl, h', tk, rfl, set', old⟩ := hr2
            repeat (any_goals (first | assumption | wp_step))
            exact k _ _ set' old

set_option maxHeartbeats 16000000 in
/-- set(xs), xs a tuple of texts -/
theorem set_of_tuple {l : Addr} {items : Array Value} {xs : List Str} {Q : Value → Shared → Prop} (hh : A.handled = none) (hl : s.heap.IsTuple l items) (hi : StrsAre items.toList xs) (hn : xs.length + 1 < scanBound)
    (k : ∀ (h' : Heap) (tk : Nat), h'.SetOf (PySem.strKind prog w) s.heap.objs.size (among xs) (dis xs) → (∀ b o, b < s.heap.objs.size → s.heap.get? b = some o → h'.get? b = some o) → Q (.ref s.heap.objs.size) { s with heap := h', toks := tk }) :
    wpAny (model prog w) A (call (.type "set") [.ref l]) Q E s := by
  obtain ⟨cc, tl, mro⟩ := PySem.F.called_set.mro
  have made := PySem.F.called_set.made
  have isub := PySem.F.called_set.sub
  refine wpAny_call (codeAny_of_tree ?_)
  show wpAny _ _ (callAny (.type "set") _) _ _ _
  refine wpAny_pure ⟨Code.quiet_builtin _ (by decide +kernel), codeAny_builtin PySem.F.entry_type_call ?_⟩
  rw [Around.under_plain (weight_type_call_type "set" [.ref l] []) rfl]
  have f1 := PySem.F.called_set.notType
  have f2 := PySem.F.called_set.canCreate
  have f3 := PySem.F.typeCall_set_1 (.ref l)
  repeat (any_goals (first | assumption | wp_step))
  refine codeAny_mono (code_set_new_1 (.ref l) (E := E) (Q₁ := fun ob s1 => ∃ led : Bool, ob = .ref s.heap.objs.size ∧ s1 = { s with heap := s.heap.push (newSet led) }) fun led => ⟨led, rfl, rfl⟩) fun r s1 hr => ?_
  cases r with
  | error e => exact hr
  | ok fl =>
    cases fl with
    | next => exact hr.elim
    | brk => exact hr.elim
    | cont => exact hr.elim
    | ret ob =>
      obtain ⟨led, rfl, rfl⟩ := hr
      have atS : (s.heap.push (newSet led)).get? s.heap.objs.size = some (newSet led) := Heap.get?_push_size _ rfl
      have ty : Shared.TypeIs { s with heap := s.heap.push (newSet led) } (.ref s.heap.objs.size) "set" := ⟨_, atS, rfl⟩
      have i1 := PySem.F.called_set.init.lookup
      have i2 := PySem.F.called_set.init.bind (.ref s.heap.objs.size)
      repeat (any_goals (first | assumption | wp_step))
      refine codeAny_mono (codeAny_call_builtin (R := wants (fun r s2 => r = .none ∧ ∃ h' tk, s2 = { s with heap := h', toks := tk } ∧ h'.SetOf (PySem.strKind prog w) s.heap.objs.size (among xs) (dis xs) ∧ (∀ b o, b < s.heap.objs.size → s.heap.get? b = some o → h'.get? b = some o)) E) PySem.F.called_set.init.plain PySem.F.entry_set_init (check_set_init_1 ty ?_)) fun r2 s2 hr2 => ?_
      · obtain ⟨ol, hol, hcl, nl, hdl⟩ := hl
        obtain ⟨oc, od, oda, osl⟩ := ol
        simp only at hcl hdl
        subst hcl hdl
        have hol' : (s.heap.push (newSet led)).get? l = some { cls := .type "tuple", dict := od, data := .seq items nl, slots := osl } := Heap.get?_push_of_some _ hol
        have g1 := PySem.F.sub_tuple_set
        have g2 := PySem.F.sub_tuple_frozenset
        have g3 : (Value.type "tuple" == Value.type "dict") = false := by decide
        have hl1 : (s.heap.push (newSet led)).IsTuple l items := ⟨_, hol', rfl, nl, rfl⟩
        unfold newSet at hol' hl1 ty atS ⊢
        unfold Builtin.«set.__init__» noKeywords Builtin.Frozenset.updateFrom
        generalize hPI : pyIter = PI
        wp_walk
        subst hPI
        refine wpAny_pyIter_tuple hl1 ?_
        refine wpAny_bind (wpAny_runValue ?_)
        have ls : l < s.heap.objs.size := Heap.lt_size hol
        have hh3 : A.in1.in1.in1.handled = none := by simp [hh]
        have sz : (s.heap.push (newSet led)).objs.size = s.heap.objs.size + 1 := Heap.size_push _ _
        unfold newSet at sz
        have n1 : l ≠ (s.heap.push { cls := .type "set", dict := none, data := .set #[] 0 (.fresh 0 0 led) }).objs.size := by
          rw [sz]
          exact Nat.ne_of_lt (Nat.lt_succ_of_lt ls)
        have n2 : s.heap.objs.size ∉ [(s.heap.push { cls := .type "set", dict := none, data := .set #[] 0 (.fresh 0 0 led) }).objs.size, l] := by
          rw [sz]
          intro z
          rcases List.mem_cons.mp z with z | z
          · exact absurd z (Nat.ne_of_lt (Nat.lt_succ_self _))
          · exact absurd (List.mem_singleton.mp z) (Nat.ne_of_gt ls)
        have hsz : xs.length = items.size := by rw [← StrsAre.len_eq hi, Array.length_toList]
        have hval : ∀ (i : Nat) (v : Value), items[i]? = some v → ∃ t x, v = .str x t ∧ xs[i]? = some x := fun i v hv => by
          obtain ⟨t, e⟩ := SS.strs_at hi i v (by rw [Array.getElem?_toList]; exact hv)
          have hlt : i < xs.length := by
            rw [hsz]
            exact (Array.getElem?_eq_some_iff.mp hv).1
          exact ⟨t, xs[i], by
            rw [e, List.getD_eq_getElem?_getD, List.getElem?_eq_getElem hlt]
            rfl, List.getElem?_eq_getElem hlt⟩
        refine fill_strs ((Walks.tuple hh3 _ l n1 items).toS) s.heap.objs.size n2 xs hsz (by rw [← hsz]; exact hn) hval (items.size - 0) 0 _ (by omega) (Nat.zero_le _)
          ⟨⟨_, Heap.get?_push_size _ rfl, rfl, rfl⟩, (hl1.push _)⟩ ?hS0 ?hR
        case hS0 =>
          exact SetOf_congr ((setObjOf_fresh (knd := PySem.strKind prog w) led).setOf (Heap.get?_push_of_some _ atS) (by unfold scanBound; omega)) (fun _ => rfl) rfl
        case hR =>
          intro s' mv set'
          obtain ⟨h', g', d', tk', os'⟩ := s'
          obtain rfl : g' = s.gens := mv.gens
          obtain rfl : d' = s.drawn := mv.drawn
          obtain rfl : os' = s.os := mv.os
          show wpAny _ _ _ _ _ _
          refine wpAny_pure ?_
          show wpAny _ _ (ret Value.none) _ _ _
          refine wpAny_pure ⟨rfl, h', tk', rfl, set', fun b o hb e => ?_⟩
          refine mv.heap b o ?_ (Heap.get?_push_of_some _ (Heap.get?_push_of_some _ e))
          rw [sz]
          intro z
          rcases List.mem_cons.mp z with z | z
          · exact absurd z (Nat.ne_of_lt hb)
          · exact absurd (List.mem_singleton.mp z) (Nat.ne_of_lt (Nat.lt_succ_of_lt hb))
      · cases r2 with
        | error e => exact hr2
        | ok fl2 =>
          cases fl2 with
          | next => exact hr2.elim
          | brk => exact hr2.elim
          | cont => exact hr2.elim
          | ret r =>
            obtain ⟨rfl, h', tk, rfl, set', old⟩ := hr2
            repeat (any_goals (first | assumption | wp_step))
            exact k _ _ set' old
end
section
variable {X : Cx}
/-- len(set(xs)) -/
def tLenS (K : PySem.W.Frag) (ta : TE) : TE := fun σ H Q => ta σ H fun x H1 => ∃ (l : Addr) (xs : List Str), x = .ref l ∧ (SqL K H1 l (xs.map V.str) ∨ SqT K H1 l (xs.map V.str)) ∧ xs.length ≤ 100 ∧ Q (.int (dis xs)) H1
theorem small100 {n : Nat} (h : n ≤ 100) : n + 1 < scanBound := by
  unfold scanBound
  omega
theorem pe_lenS {a : Expr} {ta : TE} {p p2 q pos : Pos} (hc : X.calm = true) (hm : X.mg "len" = none) (hm2 : X.mg "set" = none) (ha : PE X a ta) (hg : Gl X "len" := by rfl) (hg2 : Gl X "set" := by rfl)
    (na : starEach [a] X.env = (false, eval a X.env) :: starEach [] X.env := by rfl) : PE X (.Call (.Name "len" p) [.Call (.Name "set" p2) [a] [] q] [] pos) (tLenS X.K ta) := by
  refine ⟨fun pins s σ H Q I h => ?_⟩
  refine Call_ (ld_blt I hg hm boot_len ?_)
  refine callWith_builtin1 (args_cons ?_ rfl) rfl rfl
  refine Call_ (ld_blt I hg2 hm2 boot_set ?_)
  refine callWith_type1 (args_cons (thn (ha.run pins s σ H _ I h) fun v s1 ⟨x, H1, I1, r1, q1⟩ => args_nil ?_) na) na rfl
  obtain ⟨l, xs, rfl, hq, h1, q1⟩ := q1
  cases r1
  have fin : ∀ (h' : Heap) (tk : Nat), h'.SetOf (PySem.strKind X.prog X.w) s1.heap.objs.size (among xs) (dis xs) → (∀ b o, b < s1.heap.objs.size → s1.heap.get? b = some o → h'.get? b = some o) →
      wpAny (model X.prog X.w) X.A (spliced (backTo pos (starEach [] X.env))) (fun vs s2 => wpAny (model X.prog X.w) X.A (call (.builtin "len") (Value.ref s1.heap.objs.size :: vs)) (EP X pins σ Q) X.xe s2) X.xe { s1 with heap := h', toks := tk } := fun h' tk hS hk => by
    refine args_nil ?_
    obtain ⟨o, es, ep, t, ho, hex, hd, _, _, _, hf, hn⟩ := hS
    have I2 : Inv X pins σ H1 { s1 with heap := h', toks := tk } := I1.kept fun b o e => hk b o (Heap.lt_size e) e
    have le := dis_le xs
    refine call_len_set ho hex hd hf (by rw [hn]; omega) ⟨.int (dis xs), H1, I2.tok _, ⟨_, by rw [hn]⟩, q1⟩
  rcases hq with hq | hq
  · obtain ⟨its, r, pl, hz⟩ := I1.list hq
    exact set_of_list (I1.ok.hd hc) pl.isList (by simpa using strsAre_of r) (small100 h1) fin
  · obtain ⟨its, r, pl, hz⟩ := I1.tuple hq
    exact set_of_tuple (I1.ok.hd hc) pl (by simpa using strsAre_of r) (small100 h1) fin
end
end Fm

/-! ## FmIter -/
set_option Elab.async false
set_option maxRecDepth 100000
set_option maxHeartbeats 4000000
/-! Walks over what may be a list or a tuple; enumerate of a tuple. -/
namespace Fm
open PySem L2 PySem.Spec PyProof.Rows
open PySem.SeqAt
open MeetsSeq MeetsSeq2 MeetsSeq3 SeqRoads2
theorem draws_tuple {prog : Program} {w : World} {A : Around} (hh : A.handled = none) (it l : Addr) (hne : l ≠ it) (items : Array Value) :
    Draws prog w A it [it, l] items.size (fun i v => items[i]? = some v) (fun i h => h.IsTupleIter it l i ∧ h.IsTuple l items) where
  live := fun _ _ z => let ⟨o, ho, _⟩ := z.1; ⟨o, ho⟩
  frame := fun _ _ _ z k => ⟨z.1.at fun o e => k it (by simp) o e, let ⟨o, ho, r⟩ := z.2; ⟨o, k l (by simp) o ho, r⟩⟩
  item := fun i s Q E hi z q => RZ.nextOf_tuple_item z.1 z.2 (x := items[i]) (by simp [hi]) fun h' it' sb => q _ h' s.toks (by simp [hi]) ⟨it', let ⟨o, ho, r⟩ := z.2; ⟨o, (sb.2 l hne).trans ho, r⟩⟩ sb
  done := fun s Q E z q => RZ.nextOf_tuple_end hh z.1 z.2 (by simp) q
theorem meets_enum_tuple (l : Addr) (items : Array Value) (n : Nat) (dct : Option Addr) (sl : Array (Option Value)) :
    Meets (Builtin.«enumerate.__new__» ⟨[.type "enumerate", .ref l], []⟩) (fun _ R s => s.heap.get? l = some { cls := .type "tuple", dict := dct, data := .seq items n, slots := sl } ∧
      R (.ok (.ret (.ref (s.heap.push { cls := .type "tuple_iterator", data := .fields #[.ref l, .int 0 0] }).objs.size)))
        { s with heap := (s.heap.push { cls := .type "tuple_iterator", data := .fields #[.ref l, .int 0 0] }).push { cls := .type "enumerate", data := .fields #[.none, .bool false, .ref s.heap.objs.size, rawInt 0, .none, .none] } }) :=
  .of_wp fun prog w A R s h => by
    obtain ⟨hp, g, d, tk, os⟩ := s
    obtain ⟨hl, h⟩ := h
    have sub := sub_enumerate
    have tup : Heap.IsTuple (Shared.heap ⟨hp, g, d, tk, os⟩) l items := ⟨_, hl, rfl, n, rfl⟩
    wp_walk using AutoSeq1.wpAny_loadPart' hl
    refine wpAny_stack_any fun st => wpAny_pure ?_
    split
    · rename_i c _ _ _ _ _
      cases (c == Value.type "enumerate") <;>
        (wp_walk using AutoSeq1.wpAny_loadPart' hl, wpAny_pyIter_tuple tup; exact ⟨_, rfl, h⟩)
    · wp_walk using AutoSeq1.wpAny_loadPart' hl, wpAny_pyIter_tuple tup
      exact ⟨_, rfl, h⟩
section
variable {prog : Program} {w : World} {A : Around} {E : Value → Shared → Prop} {s : Shared}
theorem call_enum_tuple {l : Addr} {items : Array Value} {Q : Value → Shared → Prop} (ht : s.heap.IsTuple l items)
    (k : ∀ h', IsEnum h' (s.heap.objs.size + 1) s.heap.objs.size 0 .none → h'.IsTupleIter s.heap.objs.size l 0 → (∀ b o, s.heap.get? b = some o → h'.get? b = some o) → Q (.ref (s.heap.objs.size + 1)) { s with heap := h' }) :
    wpAny (model prog w) A (call (.type "enumerate") [.ref l]) Q E s := by
  obtain ⟨⟨c, dct, dt, sl⟩, hl, hc, n, hd⟩ := ht
  simp only at hc hd
  subst hc hd
  refine callType_new F.called_enumerate (by decide) (F.typeCall_enumerate_1 _) (F.newCall_enumerate_1 _) (fun ob => F.args_object_init_2 ob _) F.entry_enumerate_new (meets_enum_tuple l items n dct sl) ⟨hl, ?_⟩
  have sz : (s.heap.push { cls := .type "tuple_iterator", data := .fields #[.ref l, .int 0 0] }).objs.size = s.heap.objs.size + 1 := Heap.size_push ..
  show _ ∧ _
  have he := Heap.get?_push_size (s.heap.push { cls := .type "tuple_iterator", data := .fields #[.ref l, .int 0 0] }) (o := { cls := .type "enumerate", data := .fields #[.none, .bool false, .ref s.heap.objs.size, rawInt 0, .none, .none] }) rfl
  rw [sz] at he ⊢
  exact ⟨⟨_, he, rfl⟩, k _ he ⟨_, Heap.get?_push_of_some _ (Heap.get?_push_size _ rfl), rfl, rfl⟩ fun b o x => Heap.get?_push_of_some _ (Heap.get?_push_of_some _ x)⟩
end
/-- the tuple at a, its items in new pairs with their numbers -/
def Iet (K : PySem.W.Frag) (a : Addr) : It :=
  ⟨fun i H => ∃ xs x, SqT K H a xs ∧ xs[i]? = some x, fun i H v H' => ∃ T x, v = .ref T ∧ H T = none ∧ H' = upd H T (.tup [.int (i : Nat), x]) ∧ ∀ xs, SqT K H a xs → xs[i]? = some x, fun i H => ∃ xs, SqT K H a xs ∧ xs.length ≤ i⟩
theorem turn_et {P : Program} {w : World} {K : PySem.W.Frag} {elts : List Expr} {kk : Nat} {tpos : Pos} (a e it : Addr) (hai : a ≠ it) (hae : e ≠ a) :
    Turn P w K (.Tuple elts kk tpos) (Iet K a) [e, it] e (fun i h => (∃ old, IsEnum h e it ((i : Nat) : Int) old) ∧ h.IsTupleIter it a i ∧ e ≠ it) where
  mem := List.mem_cons_self
  obj := fun i h st b hb => by
    obtain ⟨⟨old, he⟩, ⟨o, ho, hc, hd⟩, _⟩ := st
    rcases List.mem_cons.mp hb with z | z
    · rw [z]
      exact ⟨_, he, fun v q => nomatch q⟩
    · rw [List.mem_singleton.mp z]
      exact ⟨o, ho, fun v q => by rw [hd] at q; cases q⟩
  keep := fun i h h' st k => by
    obtain ⟨⟨old, he⟩, hi, hne⟩ := st
    exact ⟨⟨old, k e (by simp) _ he⟩, hi.at fun o q => k it (by simp) o q, hne⟩
  item := by
    intro X hP hw hK hc i pins s σ H E I hf st hg
    subst hP hw hK
    obtain ⟨⟨old, he⟩, hit, hne⟩ := st
    obtain ⟨xs, x, hq, hx⟩ := hg
    obtain ⟨its, rv, tp, hz⟩ := I.tuple hq
    obtain ⟨u, hu, ru⟩ := rv.get hx
    have el : e < s.heap.objs.size := Heap.lt_size he
    have il : it < s.heap.objs.size := by
      obtain ⟨_, q, _⟩ := hit
      exact Heap.lt_size q
    have lt : i < its.toArray.size := by
      rw [List.size_toArray]
      exact (List.getElem?_eq_some_iff.mp hu).1
    have out : e ∉ [it, a] := by
      intro z
      rcases List.mem_cons.mp z with z | z
      · exact hne z
      · exact hae (List.mem_singleton.mp z)
    refine wpAny_pyNext_enum_itemD (draws_tuple (by show X.A.in1.handled = none; simpa using I.ok.hd hc) it a hai its.toArray) he ⟨hit, tp⟩ lt hne out fun y h' tk py ho hst' hT hsz hk => ?_
    obtain rfl : u = y := by
      have z : its.toArray[i]? = some u := by simpa using hu
      rw [z] at py
      exact Option.some.inj py
    refine ⟨_, rfl, wpAny_letOwnedTupleGo_enum (s := { s with heap := h', toks := tk + 1 }) ho fun h2 he2 sb => ?_⟩
    have hT2 : h2.get? s.heap.objs.size = some { cls := .type "tuple", data := .seq #[.int i tk, u] } := (sb.2 _ (Nat.ne_of_gt el)).trans hT
    have new : ObjOk X.prog X.w (upd H s.heap.objs.size (.tup [.int (i : Nat), x])) h2 s.heap.objs.size (.tup [.int (i : Nat), x]) :=
      ⟨by show 2 ≤ sizeLine; decide, [.int i tk, u], .cons ⟨_, rfl⟩ (.cons ru .nil), ⟨_, hT2, rfl, _, rfl⟩⟩
    have I1 : Inv X pins σ (upd H s.heap.objs.size (.tup [.int (i : Nat), x])) { s with heap := h2, toks := tk + 1 } :=
      I.turnedNew (ch := [e, it]) (fun b ob hb q => (sb.2 b (fun z => hb (by simp [z]))).trans (hk b ob (fun z => hb (by simp [z])) (fun z => hb (by simp [z])) q)) hf (Nat.le_refl _) new
    refine ⟨.ref s.heap.objs.size, _, I1, rfl, ⟨_, x, rfl, I.hok.fresh (Nat.le_refl _), rfl, fun ys hy => by rw [I.tuple_inj hy hq]; exact hx⟩, ⟨⟨u, ?_⟩, hst'.1.at fun o q => (sb.2 it (Ne.symm hne)).trans q, hne⟩, fun b hb => ?_⟩
    · rw [show ((i + 1 : Nat) : Int) = (i : Int) + 1 from rfl]
      exact he2
    · have lt' : b < s.heap.objs.size := by
        rcases List.mem_cons.mp hb with z | z
        · rw [z]; exact el
        · rw [List.mem_singleton.mp z]; exact il
      rw [upd_ne (Nat.ne_of_lt lt')]
      exact (hf b hb).1
  done := by
    intro X hP hw hK hc i pins s σ H E I hf st hg
    subst hP hw hK
    obtain ⟨⟨old, he⟩, hit, hne⟩ := st
    obtain ⟨xs, hq, hx⟩ := hg
    obtain ⟨its, rv, tp, hz⟩ := I.tuple hq
    obtain ⟨f0, f1, f2, f3, f4, f5⟩ := hf it (by simp)
    have len := rv.length
    have hh : X.A.in1.handled = none := by simpa using I.ok.hd hc
    have hT : s.TypeIs (.ref e) "enumerate" := ⟨_, he, rfl⟩
    unfold pyNext
    refine wpAny_bind (wpAny_attempt (wpAny_callSpecial?_slot (name := Str.ofString "__next__") hT F.slot_enumerate_next (wpAny_call_entry F.slot_enumerate_next hT F.entry_enumerate_next ?_ (F.args_enumerate_next_1 _))))
    show wpAny _ _ (field (.ref e) 2 >>= _) _ _ _
    refine wpAny_bind (wpAny_field he rfl (x := .ref it) rfl ?_)
    refine wpAny_bind (RZ.nextOf_tuple_end hh hit tp (by simp; omega) fun h' x he' hx' => ?_)
    obtain ⟨o, ho, hc'⟩ := hx'
    refine wpAny_bind (wpAny_isInstance (T := "StopIteration") (b := true) ⟨o, ho, hc'⟩ isSubtype_stop ?_)
    exact wpAny_pure ⟨rfl, I.turned (t' := s.toks) (fun b o hb q => he' b o hb q) f0 f1 f3 f4 f5⟩
  self := fun A i s Q E st h => let ⟨⟨_, he⟩, _⟩ := st; wpAny_pyIter_enum he h
theorem walk_et {K : PySem.W.Frag} {a : Addr} {xs : List V} : Walk (Iet K a) xs.length (fun H => SqT K H a xs) (YPair (fun i => some (.int (i : Nat))) (fun i => xs[i]?)) := by
  refine ⟨fun i _ hi q => ⟨xs, xs[i], q, by simp [hi]⟩, fun _ q => ⟨xs, q, Nat.le_refl _⟩, fun i H v H' _ q y => ?_⟩
  obtain ⟨T, x, h1, h2, h3, h4⟩ := y
  exact ⟨T, .int (i : Nat), x, h1, h2, h3, rfl, h4 xs q⟩
section
variable {X : Cx} {tg l : Expr} {tl : TE}
/-- the walk of a list or of a tuple, whichever it is -/
def SeqGo (K : PySem.W.Frag) (H : Hp) (a : Addr) (xs : List V) (R : It → Hp → Prop) : Prop := (SqL K H a xs ∧ R (Itl K a) H) ∨ (SqT K H a xs ∧ R (Itt K a) H)
def EnumGo (K : PySem.W.Frag) (H : Hp) (a : Addr) (xs : List V) (R : It → Hp → Prop) : Prop := (SqL K H a xs ∧ R (Ite K a) H) ∨ (SqT K H a xs ∧ R (Iet K a) H)
/-- over a list or a tuple -/
def iAny (K : PySem.W.Frag) (tl : TE) : TI := fun σ H R => tl σ H fun x H1 => ∃ (a : Addr) (xs : List V), x = .ref a ∧ SeqGo K H1 a xs R
theorem pi_any (hl : PE X l tl) : PI X tg l (iAny X.K tl) := by
  refine ⟨fun pins s σ H R I h => thn (hl.run pins s σ H _ I h) fun v s1 ⟨x, H1, I1, r1, a, xs, ex, q⟩ => ?_⟩
  subst ex
  cases r1
  have free : ∀ b ∈ [s1.heap.objs.size], b = s1.heap.objs.size := fun b hb => List.mem_singleton.mp hb
  rcases q with ⟨hq, q⟩ | ⟨hq, q⟩
  · obtain ⟨its, rv, lp, hz⟩ := I1.list hq
    refine wpAny_pyIter_list lp.isList ⟨s1.heap.objs.size, [s1.heap.objs.size], _, _, H1, rfl, I1.kept (t' := s1.toks) fun b o e => Heap.get?_push_of_some _ e, turn_list a _, ⟨_, Heap.get?_push_size _ rfl, rfl, rfl⟩, fun b hb => ?_, q⟩
    rw [free b hb]
    exact I1.fpOk (Nat.le_refl _) (I1.hok.fresh (Nat.le_refl _))
  · obtain ⟨its, rv, tp, hz⟩ := I1.tuple hq
    refine wpAny_pyIter_tuple (show s1.heap.IsTuple a its.toArray from tp) ⟨s1.heap.objs.size, [s1.heap.objs.size], _, _, H1, rfl, I1.kept (t' := s1.toks) fun b o e => Heap.get?_push_of_some _ e, turn_tuple a _, ⟨_, Heap.get?_push_size _ rfl, rfl, rfl⟩, fun b hb => ?_, q⟩
    rw [free b hb]
    exact I1.fpOk (Nat.le_refl _) (I1.hok.fresh (Nat.le_refl _))
theorem any_of {K : PySem.W.Frag} {H0 H : Hp} {a : Addr} {xs : List V} {R : It → Hp → Prop} (h : SqL K H0 a xs ∨ SqT K H0 a xs) (s : Same H0 H)
    (go : ∀ (J : It) (G : Hp → Prop), (∀ H', Same H0 H' → G H') → Walk J xs.length G (YAt xs) → R J H) : SeqGo K H a xs R := by
  rcases h with h | h
  · exact .inl ⟨s.seq h, go _ _ (fun H' s => s.seq h) walk_list⟩
  · exact .inr ⟨SqT.ext h s, go _ _ (fun H' s => SqT.ext h s) walk_tup⟩
theorem enum_of {K : PySem.W.Frag} {H0 H : Hp} {a : Addr} {xs : List V} {R : It → Hp → Prop} (h : SqL K H0 a xs ∨ SqT K H0 a xs) (s : Same H0 H)
    (go : ∀ (J : It) (G : Hp → Prop), (∀ H', Same H0 H' → G H') → Walk J xs.length G (YPair (fun i => some (.int (i : Nat))) (fun i => xs[i]?)) → R J H) : EnumGo K H a xs R := by
  rcases h with h | h
  · exact .inl ⟨s.seq h, go _ _ (fun H' s => s.seq h) walk_enum⟩
  · exact .inr ⟨SqT.ext h s, go _ _ (fun H' s => SqT.ext h s) walk_et⟩
/-- enumerate of a list or a tuple -/
def iEnumA (K : PySem.W.Frag) (ta : TA) : TI := fun σ H R => ta σ H fun vs H1 => ∃ (a : Addr) (xs : List V), vs = [.ref a] ∧ EnumGo K H1 a xs R
theorem pi_enumA {e : Expr} {ta : TA} {p pos tpos : Pos} {elts : List Expr} {kk : Nat} (hg : Gl X "enumerate") (hm : X.mg "enumerate" = none) (ha : PA X [e] ta) (hs : starEach [e] X.env = [(false, eval e X.env)] := by rfl) :
    PI X (.Tuple elts kk tpos) (.Call (.Name "enumerate" p) [e] [] pos) (iEnumA X.K ta) := by
  refine ⟨fun pins s σ H R I h => ?_⟩
  refine Call_ (ld_blt I hg hm boot_enumerate (PyProof.Rows.callWith_type1 (thn (ha.run pos pins s σ H _ I h) fun us s1 ⟨vs, H1, I1, r1, a, xs, ex, q⟩ => ?_) hs rfl))
  subst ex
  cases r1 with
  | cons r rr =>
    cases rr
    cases r
    have old : ∀ b ∈ [s1.heap.objs.size + 1, s1.heap.objs.size], s1.heap.objs.size ≤ b := fun b hb => by
      rcases List.mem_cons.mp hb with z | z
      · rw [z]; exact Nat.le_add_right _ _
      · rw [List.mem_singleton.mp z]; exact Nat.le_refl _
    rcases q with ⟨hq, q⟩ | ⟨hq, q⟩
    · obtain ⟨its, rv, lp, hz⟩ := I1.list hq
      refine call_enumerate_list lp.isList fun h' he hit hsz hk => wpAny_pyIter_enum he ?_
      exact ⟨s1.heap.objs.size + 1, [s1.heap.objs.size + 1, s1.heap.objs.size], _, _, H1, rfl, I1.kept (t' := s1.toks) hk, turn_enum a (s1.heap.objs.size + 1) s1.heap.objs.size, ⟨⟨.none, he⟩, hit, Nat.succ_ne_self _⟩, fun b hb => I1.fpOk (old b hb) (I1.hok.fresh (old b hb)), q⟩
    · obtain ⟨its, rv, tp, hz⟩ := I1.tuple hq
      have al : a < s1.heap.objs.size := by
        obtain ⟨o, ho, _⟩ := tp
        exact Heap.lt_size ho
      refine call_enum_tuple tp fun h' he hit hk => wpAny_pyIter_enum he ?_
      exact ⟨s1.heap.objs.size + 1, [s1.heap.objs.size + 1, s1.heap.objs.size], _, _, H1, rfl, I1.kept (t' := s1.toks) hk, turn_et a (s1.heap.objs.size + 1) s1.heap.objs.size (Nat.ne_of_lt al) (Nat.ne_of_gt (Nat.lt_succ_of_lt al)), ⟨⟨.none, he⟩, hit, Nat.succ_ne_self _⟩, fun b hb => I1.fpOk (old b hb) (I1.hok.fresh (old b hb)), q⟩
end
end Fm

/-! ## FmEq -/
set_option Elab.async false
set_option maxRecDepth 100000
set_option maxHeartbeats 4000000
/-! == by a class's own __eq__, beside anything; != of two of its objects. -/
namespace Fm
open PySem L2 PySem.Spec PyProof.Rows
section
variable {X : Cx} {k : Nat} {f C : Addr} {fd : FuncData} {ps : List Str} {sp : Sp}
/-- a call of the class's __eq__ answers as it promises -/
theorem run_eq {pins : List (Addr × Obj)} {σ : L2.St} {H : Hp} {s : Shared} {A : Around} {x y : V} {a : Addr} {v : Value} {R : Bool → Hp → Prop} (F : FnOk X.prog X.w X.K X.mg X.base CX0 k f fd ps sp) (hb : Binds X.K fd ps []) (hr : Room k A) (hf : A.frames = X.A.frames)
    (I : Inv X pins σ H s) (ex : x = .ref a) (ry : RelV y v) (h : sp [x, y] H (fun z H' => ∃ b, z = .bl b ∧ R b H') E0) :
    wpAny (model X.prog X.w) A (call (.ref f) [.ref a, v]) (fun r s' => ∃ b H', r = .bool b ∧ Inv X pins σ H' s' ∧ R b H') X.xe s := by
  subst ex
  have e := I.env0
  have e0 : Env0 X.prog X.w X.K X.mg X.base A X.stack s H := ⟨by rw [hf]; exact e.frames, e.mod, e.bs, e.bsz, e.funs, e.frf, e.hok, e.bare⟩
  have r2 : Vals [V.ref a, y] [Value.ref a, v] := .cons rfl (.cons ry .nil)
  have hl := F.len _ _ _ _ h
  have bt := hb s [.ref a, v] I.kIn (by simpa using hl)
  refine wpAny_call (codeAny_mono (F.run A X.stack s H ⟨[.ref a, v], []⟩ [.ref a, v] [.ref a, y] _ E0 hr e0 (by simpa using bt) r2 h) fun r s' hq => ?_)
  cases r with
  | error er => exact absurd hq (by intro z; exact z)
  | ok fl =>
    cases fl with
    | next => exact False.elim hq
    | brk => exact False.elim hq
    | cont => exact False.elim hq
    | ret u =>
      obtain ⟨z, H', I', rz, b, ez, q⟩ := I.after hq
      subst ez
      cases rz
      exact ⟨b, H', rfl, I', q⟩
/-- x == y, x of the class at C -/
def rEqI (K : PySem.W.Frag) (C : Addr) (sp : Sp) : R2 := fun x y H Q => ∃ (a dx : Addr) (fs : List (Str × V)) (t : Value), x = .ref a ∧ H a = some (.ins C dx fs) ∧ TyX K H y t ∧ PySem.W.notFirst K C t = true ∧ sp [x, y] H (fun z H' => ∃ b, z = .bl b ∧ Q (.bl b) H') E0
theorem op_eqI' (F : FnOk X.prog X.w X.K X.mg X.base CX0 k f fd ps sp) (hs : PySem.W.findIn X.K (.ref C) "__eq__" = some (some (.ref f))) (hf : PySem.W.isFn X.K (.ref f) = true) (hb : Binds X.K fd ps []) (hr : Room k X.A) :
    OpR X (compareOp .Eq) (rEqI X.K C sp) := by
  intro pins s σ H x y v u Q I rx ry h
  obtain ⟨a, dx, fs, t, ex, ha, ty, hn, hsp⟩ := h
  have ex' := ex
  subst ex
  cases rx
  obtain ⟨mA, J, _⟩ := ins_get I.hok ha
  obtain ⟨od, J, _⟩ := J.look
  obtain ⟨m, hF⟩ := I.fr
  obtain ⟨Pz, Z, pz, _⟩ := kit_of I ry ty
  show wpAny (model X.prog X.w) X.A (richCompare .Eq (.ref a) u) (EP X pins σ Q) X.xe s
  refine PySem.W.cmp_K (op := .Eq) (tb := t) hr.units0 hF I.ok.mod.kin J (Z.ty _ _ I.kIn pz) hn hs hf ?_
  refine wpAny_mono (run_eq (R := fun b H' => Q (.bl b) H') F hb hr rfl I ex' ry hsp) (fun r s' z => ?_) fun _ _ z => z
  obtain ⟨b, H', er, I', q⟩ := z
  subst er
  exact ⟨.bl b, H', I', rfl, q⟩
theorem if_builtin {M : Model} {A : Around} {E : Value → Shared → Prop} {s : Shared} {K : PySem.W.Frag} {x : Addr} {ox : Obj} {od : Option Obj} {name : Str} {T id : String} {args : List Value} {Q : Option Value → Shared → Prop}
    (X : K.In s.heap) (I : PySem.W.InstAt s.heap x ox C od) (hs : PySem.W.findIn K (.ref C) name = some (some (.builtin id))) (sl : Slot T name id) (h : wpAny M A (call (.builtin id) (.ref x :: args)) (fun v => Q (some v)) E s) :
    wpAny M A (callSpecialIfBound? (.ref x) name args) Q E s := by
  simp only [callSpecialIfBound?, bindSpecialIfBound?]
  refine wpAny_holding (wpAny_bind (wpAny_bind (wpAny_bind (I.type.here ((PySem.W.looks_findIn X hs).here ?_)))))
  refine wpAny_bind (wpAny_askSetting (wpAny_ite ?_))
  have fin : wpAny M A (call (.builtin id) ([.ref x] ++ args) >>= fun v => pure (some v)) Q E s := wpAny_bind (wpAny_mono h (fun v s' z => wpAny_pure z) fun _ _ z => z)
  rw [sl.bind (.ref x)]
  split
  · exact wpAny_bind (wpAny_pure (wpAny_pure (by exact fin)))
  · exact wpAny_tryCatch (wpAny_bind (wpAny_pure (wpAny_pure (by exact fin))))
/-- x != y, both of the class at C, which has no __ne__ of its own -/
def rNeI (C : Addr) (sp : Sp) : R2 := fun x y H Q => ∃ (a b dx dy : Addr) (fs gs : List (Str × V)), x = .ref a ∧ y = .ref b ∧ H a = some (.ins C dx fs) ∧ H b = some (.ins C dy gs) ∧ sp [x, y] H (fun z H' => ∃ c, z = .bl c ∧ Q (.bl (!c)) H') E0
theorem op_neI' (F : FnOk X.prog X.w X.K X.mg X.base CX0 k f fd ps sp) (hs : PySem.W.findIn X.K (.ref C) "__eq__" = some (some (.ref f))) (hf : PySem.W.isFn X.K (.ref f) = true) (hb : Binds X.K fd ps []) (hr : Room (k + 1) X.A)
    (hn : PySem.W.findIn X.K (.ref C) "__ne__" = some (some (.builtin "object.__ne__"))) (hm : PySem.W.mroIn X.K C (.type "object") = some true) :
    OpR X (compareOp .NotEq) (rNeI C sp) := by
  intro pins s σ H x y v u Q I rx ry h
  obtain ⟨a, b, dx, dy, fs, gs, ex, ey, ha, hb', hsp⟩ := h
  have ex' := ex
  have ey' := ey
  subst ex ey
  cases rx
  cases ry
  obtain ⟨mA, J, _⟩ := ins_get I.hok ha
  obtain ⟨od, J, _⟩ := J.look
  obtain ⟨mB, J2, _⟩ := ins_get I.hok hb'
  obtain ⟨od2, J2, _⟩ := J2.look
  have hr1 : Room k X.A.in1 := hr.in1
  have run := run_eq (A := X.A.in1) (R := fun c H' => Q (.bl (!c)) H') F hb hr1 rfl I ex' (y := .ref b) (v := .ref b) rfl hsp
  have units : X.A.in1.units < cLine := hr1.units0
  have body : wpAny (model X.prog X.w) X.A.in1 (Builtin.«object.__ne__» ⟨[.ref a, .ref b], []⟩) (fun fin s' => ∃ r, fin = .done (.ret r) ∧ EP X pins σ Q r s' ∧ r ≠ .notImplemented) X.xe s := by
    unfold Builtin.«object.__ne__»
    refine wpAny_bind (wpAny_of_eq (a := ((Value.ref a : Value), [Value.ref b])) (by first | rfl | (simp only [Builtin.slotArgs]; rfl)) ?_)
    refine wpAny_bind (wpAny_cRoomFor units ?_)
    refine wpAny_bind (PySem.W.ifBound_K I.kIn J hs hf (wpAny_mono run (fun r s' z => ?_) fun _ _ z => z))
    obtain ⟨c, H', er, I', q⟩ := z
    subst er
    refine wpAny_bind (wpAny_truthy_bool ?_)
    exact wpAny_pure ⟨_, rfl, ⟨.bl (!c), H', I', rfl, q⟩, fun z => nomatch z⟩
  have isub : PySem.W.Looks (model X.prog X.w) s.heap (isInstance (.ref a) (.type "object")) true := J.type.andThen (PySem.W.looks_mroIn I.kIn hm)
  have SF := PySem.F.cmp_object
  show wpAny (model X.prog X.w) X.A (richCompare .NotEq (.ref a) (.ref b)) (EP X pins σ Q) X.xe s
  unfold richCompare
  simp only [oneThing_ref]
  refine wpAny_holding (wpAny_bind (wpAny_cRoomFor hr.units0 ?_))
  rw [cmpInfo_NotEq]
  dsimp only
  refine wpAny_bind (J.type.here (wpAny_bind (J2.type.here ?_)))
  rw [show (Value.ref C != Value.ref C) = false from by simp]
  simp only [Bool.false_eq_true, if_false]
  refine wpAny_bind (wpAny_pure ?_)
  simp only [Bool.false_eq_true, if_false]
  unfold tryCompare
  refine wpAny_bind (wpAny_bind (if_builtin I.kIn J hn SF.ne (wpAny_call (codeAny_call_builtin SF.ne.plain PySem.F.cmpEntry_ne ?_))))
  refine PySem.W.check_slot PySem.F.cmpKind_ne PySem.F.cmpSplit_ne isub (PySem.F.cmpArgs_ne _ _) ?_
  refine wpAny_mono body (fun fin s' z => ?_) fun _ _ z => z
  obtain ⟨r, er, q, hr'⟩ := z
  subst er
  cases r
  case notImplemented => exact absurd rfl hr'
  all_goals exact wpAny_pure (wpAny_pure q)
/-- the class at C compares by a def of its own -/
structure Deq (P : Program) (w : World) (K : PySem.W.Frag) (mg : Str → Option Value) (base : Heap) (C : Addr) (k : Nat) (ps : List Str) (sp : Sp) : Prop where
  ex : ∃ (f : Addr) (fd : FuncData), FnOk P w K mg base CX0 k f fd ps sp ∧ PySem.W.findIn K (.ref C) "__eq__" = some (some (.ref f)) ∧ PySem.W.isFn K (.ref f) = true ∧ Binds K fd ps []
theorem op_eqO (D : Deq X.prog X.w X.K X.mg X.base C k ps sp) (hr : Room k X.A) : OpR X (compareOp .Eq) (rEqI X.K C sp) := by
  obtain ⟨f, fd, F, hs, hf, hb⟩ := D.ex
  exact op_eqI' F hs hf hb hr
theorem op_neO (D : Deq X.prog X.w X.K X.mg X.base C k ps sp) (hr : Room (k + 1) X.A) (hn : PySem.W.findIn X.K (.ref C) "__ne__" = some (some (.builtin "object.__ne__"))) (hm : PySem.W.mroIn X.K C (.type "object") = some true) :
    OpR X (compareOp .NotEq) (rNeI C sp) := by
  obtain ⟨f, fd, F, hs, hf, hb⟩ := D.ex
  exact op_neI' F hs hf hb hr hn hm
end
end Fm

/-! ## FmData -/
set_option Elab.async false
set_option maxRecDepth 100000
set_option maxHeartbeats 4000000
/-! Data as trees over heaps; names; what as_tuples makes of data. -/
namespace Fm
open PySem L2
section
variable {K : PySem.W.Frag} {H H' H1 H2 N M : Hp}
theorem same_sqT {a : Addr} {xs : List V} (e : Same H H') (h : SqT K H a xs) : SqT K H' a xs := by
  rcases h with (h | ⟨o, h⟩) | h
  · exact .inl (.inl (e _ _ h))
  · exact .inl (.inr ⟨o, e _ _ h⟩)
  · exact .inr h
mutual
theorem dp_mono (e : Same H H') : ∀ (d : PyData) (v : V), Dp K H v d → Dp K H' v d
  | .none, _, h => by cases h; exact .non
  | .bool b, _, h => by cases h; exact .bl b
  | .int i, _, h => by cases h; exact .int i
  | .str x, _, h => by cases h; exact .str x
  | .list ds, _, h => by
    cases h with
    | lst hs ha => exact .lst (e.seq hs) (dpA_mono e ds _ ha)
  | .tuple ds, _, h => by
    cases h with
    | tup hs ha => exact .tup (same_sqT e hs) (dpA_mono e ds _ ha)
  | .dict _, _, h => by cases h
theorem dpA_mono (e : Same H H') : ∀ (ds : List PyData) (vs : List V), DpAll K H vs ds → DpAll K H' vs ds
  | [], _, h => by cases h; exact .nil
  | d :: ds, _, h => by
    cases h with
    | cons h1 h2 => exact .cons (dp_mono e d _ h1) (dpA_mono e ds _ h2)
end
theorem dpA_len : ∀ {ds : List PyData} {vs : List V}, DpAll K H vs ds → vs.length = ds.length
  | [], _, h => by cases h; rfl
  | d :: ds, _, h => by
    cases h with
    | cons h1 h2 => rw [List.length_cons, List.length_cons, dpA_len h2]
theorem dpA_at : ∀ {ds : List PyData} {vs : List V} {i : Nat} {v : V}, DpAll K H vs ds → vs[i]? = some v → ∃ d, ds[i]? = some d ∧ Dp K H v d
  | [], _, i, v, h, e => by cases h; simp at e
  | d :: ds, _, 0, v, h, e => by
    cases h with
    | cons h1 h2 =>
      simp at e
      subst e
      exact ⟨d, rfl, h1⟩
  | d :: ds, _, i + 1, v, h, e => by
    cases h with
    | cons h1 h2 =>
      simp at e
      obtain ⟨z, q1, q2⟩ := dpA_at h2 e
      exact ⟨z, by simpa using q1, q2⟩
theorem dpA_snoc : ∀ {ds : List PyData} {vs : List V} {d : PyData} {v : V}, DpAll K H vs ds → Dp K H v d → DpAll K H (vs ++ [v]) (ds ++ [d])
  | [], _, d, v, h, q => by cases h; exact .cons q .nil
  | c :: ds, _, d, v, h, q => by
    cases h with
    | cons h1 h2 => exact .cons h1 (dpA_snoc h2 q)
theorem dpA_strs : ∀ (xs : List Str), DpAll K H (xs.map V.str) (xs.map PyData.str)
  | [] => .nil
  | x :: xs => .cons (.str x) (dpA_strs xs)
theorem dpA_strs_inv : ∀ {xs : List Str} {vs : List V}, DpAll K H vs (xs.map PyData.str) → vs = xs.map V.str
  | [], _, h => by cases h; rfl
  | x :: xs, _, h => by
    cases h with
    | cons h1 h2 =>
      cases h1
      rw [dpA_strs_inv h2]
      rfl
/-! ### what is new -/
/-- N holds things that are new behind H, as they stand in H' -/
def Fresh (H H' N : Hp) : Prop := ∀ a o, N a = some o → H a = none ∧ H' a = some o
def uni (N M : Hp) : Hp := fun a => match N a with
  | some o => some o
  | none => M a
def nil0 : Hp := fun _ => none
theorem fresh_nil : Fresh H H' nil0 := fun _ _ h => by cases h
theorem same_uni : Same N (uni N M) := fun a o h => by
  unfold uni
  rw [h]
theorem uni_or {a : Addr} {o : HO} (h : uni N M a = some o) : N a = some o ∨ (N a = none ∧ M a = some o) := by
  unfold uni at h
  cases q : N a with
  | some u =>
    rw [q] at h
    exact .inl h
  | none =>
    rw [q] at h
    exact .inr ⟨rfl, h⟩
theorem fresh_uni (f : Fresh H H1 N) (g : Fresh H1 H2 M) (s : Same H H1) (t : Same H1 H2) : Fresh H H2 (uni N M) := fun a o h => by
  rcases uni_or h with h | ⟨_, h⟩
  · exact ⟨(f a o h).1, t _ _ (f a o h).2⟩
  · exact ⟨s.free (g a o h).1, (g a o h).2⟩
theorem same_uni2 (f : Fresh H H1 N) (g : Fresh H1 H2 M) : Same M (uni N M) := fun a o h => by
  unfold uni
  cases q : N a with
  | none => exact h
  | some u =>
    have z := (f a u q).2
    rw [(g a o h).1] at z
    cases z
theorem fresh_back (s : Same H H1) (f : Fresh H1 H2 N) : Fresh H H2 N := fun a o h => ⟨s.free (f a o h).1, (f a o h).2⟩
theorem fresh_new (f : Fresh H H1 N) (s : Same H H1) {p : Addr} (o : HO) (hp : H1 p = none) : Fresh H (upd H1 p o) (upd N p o) := fun a u h => by
  by_cases e : a = p
  · subst e
    rw [upd_same] at h ⊢
    exact ⟨s.free hp, h⟩
  · rw [upd_ne e] at h ⊢
    exact f a u h
theorem same_freshNew (f : Fresh H H1 N) {p : Addr} (o : HO) (hp : H1 p = none) : Same N (upd N p o) := fun a u h => by
  have e : a ≠ p := fun z => by
    have q := (f a u h).2
    rw [z, hp] at q
    cases q
  rw [upd_ne e]
  exact h
/-- what is spoken of, and what is new, as one part of the heap -/
theorem grow_fresh {F : Hp} (s : Same F H) (t : Same H H') (f : Fresh H H' N) : Grow F H (uni F N) H' := by
  refine ⟨same_uni, fun a o h => ?_, fun a o h1 h2 => ⟨?_, t _ _ h2⟩⟩
  · rcases uni_or h with h | ⟨_, h⟩
    · exact t _ _ (s _ _ h)
    · exact (f a o h).2
  · unfold uni
    rw [h1]
    cases q : N a with
    | none => rfl
    | some u =>
      have z := (f a u q).1
      rw [h2] at z
      cases z
theorem same_grow {F : Hp} (s : Same F H) (f : Fresh H H' N) : Same N (uni F N) := fun a o h => by
  unfold uni
  cases q : F a with
  | none => exact h
  | some u =>
    have z := s a u q
    rw [(f a o h).1] at z
    cases z
theorem bag_same {F : Hp} {b : Addr} (B : Bag F H b) (t : Same H H') : Bag F H' b := by
  obtain ⟨s, fb, cl, ns, p, g, z, c, h, e1, e2, e3, e4, r⟩ := B
  exact ⟨s.trans t, fb, cl, ns, p, g, z, c, h, e1, e2, t _ _ e3, t _ _ e4, r⟩
end
/-! ### rows as tuples -/
mutual
def tupd : PyData → PyData
  | .list xs => .tuple (tupdL xs)
  | .tuple xs => .tuple (tupdL xs)
  | .none => .none
  | .bool b => .bool b
  | .int i => .int i
  | .str s => .str s
  | .dict kvs => .dict kvs
def tupdL : List PyData → List PyData
  | [] => []
  | d :: ds => tupd d :: tupdL ds
end
theorem tupdL_map : ∀ ds : List PyData, tupdL ds = ds.map tupd
  | [] => rfl
  | d :: ds => by
    show tupd d :: tupdL ds = tupd d :: ds.map tupd
    rw [tupdL_map ds]
/-- data of at most so many rows one in the other, none of them long -/
inductive Dn : Nat → PyData → Prop
  | none (n : Nat) : Dn (n + 1) .none
  | bool (n : Nat) (b : Bool) : Dn (n + 1) (.bool b)
  | int (n : Nat) (i : Int) : Dn (n + 1) (.int i)
  | str (n : Nat) (s : Str) : Dn (n + 1) (.str s)
  | list (n : Nat) (ds : List PyData) : (∀ d ∈ ds, Dn n d) → ds.length ≤ 100000 → Dn (n + 1) (.list ds)
  | tuple (n : Nat) (ds : List PyData) : (∀ d ∈ ds, Dn n d) → ds.length ≤ 100000 → Dn (n + 1) (.tuple ds)
theorem dn_strs {n : Nat} {xs : List Str} (h : xs.length ≤ 100000) : (∀ d ∈ xs.map PyData.str, Dn (n + 1) d) ∧ (xs.map PyData.str).length ≤ 100000 := by
  refine ⟨fun d m => ?_, by rw [List.length_map]; exact h⟩
  obtain ⟨x, _, rfl⟩ := List.mem_map.mp m
  exact .str n x
theorem bl_map {α : Type} (f : α → Bool) (xs : List α) : (xs.map fun c => V.bl (f c)) = (xs.map f).map V.bl := by
  rw [List.map_map]
  rfl
theorem flat_strs (xs : List Str) : (xs.map V.str).all flatV = true := by
  rw [List.all_map]
  exact List.all_eq_true.mpr fun _ _ => rfl
theorem inV_str (n : Str) (xs : List Str) : inV (.str n) (xs.map V.str) = decide (n ∈ xs) := by
  unfold inV
  rw [List.any_map]
  by_cases h : n ∈ xs
  · rw [decide_eq_true h]
    exact List.any_eq_true.mpr ⟨n, h, beq_self_eq_true n⟩
  · rw [decide_eq_false h]
    refine List.any_eq_false.mpr fun y m => ?_
    show ¬ (y == n) = true
    intro e
    rw [eq_of_beq e] at m
    exact h m
theorem nodup_take {α : Type} {l : List α} (hN : l.Nodup) {i : Nat} {x : α} (h : l[i]? = some x) : x ∉ l.take i := fun m => by
  obtain ⟨j, hj, e⟩ := List.getElem_of_mem m
  have q : l[j]? = some x := by
    rw [List.length_take] at hj
    rw [List.getElem_take] at e
    rw [← e]
    exact List.getElem?_eq_getElem _
  have z := nd_ix hN q h
  rw [List.length_take] at hj
  omega
/-! ### rules whose K is told, for the inside of a comprehension -/
section
variable {X : Cx} {K : PySem.W.Frag}
theorem ixK_seq (h : X.K = K := by rfl) : IxR X (rIx K) := by subst h; exact ix_seq
theorem ixK_list (h : X.K = K := by rfl) : IxR X (rIxL K) := by subst h; exact ix_list
theorem ixK_tup (h : X.K = K := by rfl) : IxR X (rIxT K) := by subst h; exact ix_tup
theorem cK_len_seq (h : X.K = K := by rfl) : CallR X (.builtin "len") (fun xs H Q => ∃ p ys, xs = [.ref p] ∧ (SqL K H p ys ∨ SqT K H p ys) ∧ Q (.int ys.length) H) := by subst h; exact call_len_seq
theorem cK_isi (h : X.K = K := by rfl) : CallR X (.builtin "isinstance") (rIsi K) := by subst h; exact call_isi
theorem cK_isiT (h : X.K = K := by rfl) : CallR X (.builtin "isinstance") (rIsiT K) := by subst h; exact call_isiT
theorem cK_list_of (h : X.K = K := by rfl) : CallR X (.type "list") (fun xs H Q => ∃ p ys, xs = [.ref p] ∧ (SqL K H p ys ∨ SqT K H p ys) ∧ ∀ l, H l = none → Q (.ref l) (upd H l (.lst ys))) := by subst h; exact call_list_of
theorem cK_tuple_of (h : X.K = K := by rfl) : CallR X (.type "tuple") (fun xs H Q => ∃ p ys, xs = [.ref p] ∧ ((SqL K H p ys ∧ ∀ l, H l = none → Q (.ref l) (upd H l (.tup ys))) ∨ (SqT K H p ys ∧ Q (.ref p) H))) := by subst h; exact call_tuple_of
end
/-! ### names -/
def isNm (s : Str) : Bool := decide (1 ≤ s.length) && decide (s.length ≤ 8) && s.cps.toList.all fun c => decide (97 ≤ c) && decide (c ≤ 122)
def letters : Str := "abcdefghijklmnopqrstuvwxyz"
theorem letters_list : letters.cps.toList = List.range' 97 26 := by decide +kernel
theorem letters_mem (c : Nat) : decide (c ∈ letters.cps.toList) = (decide (97 ≤ c) && decide (c ≤ 122)) := by
  rw [letters_list]
  by_cases h : c ∈ List.range' 97 26
  · rw [decide_eq_true h]
    have q := List.mem_range'_1.mp h
    simp
    omega
  · rw [decide_eq_false h]
    have q : ¬ (97 ≤ c ∧ c < 97 + 26) := fun z => h (List.mem_range'_1.mpr z)
    symm
    rw [← Bool.decide_and]
    exact decide_eq_false (by omega)
end Fm

/-! ## FmTree2 -/
set_option Elab.async false
set_option maxRecDepth 100000
set_option maxHeartbeats 4000000
/-! Any tree of lists and tuples, with the two small dicts that a law's odd things have. -/
namespace Fm
open PySem L2
def dictD (b : Bool) : PyData := .dict (if b = true then [(.str "a", .list [.int 1])] else [])
/-- the two dicts -/
def Dl (H : Hp) (a : Addr) (b : Bool) : Prop := if b = true then ∃ l, H a = some (.dK [(Sum.inr "a", .ref l)]) ∧ H l = some (.lst [.int 1]) else H a = some (.dK [])
/-- a key as data -/
def kD : Key → PyData
  | .inl i => .int i
  | .inr s => .str s
theorem kD_inj {a b : Key} (h : kD a = kD b) : a = b := by
  cases a <;> cases b <;> first | (cases h; rfl) | cases h
mutual
/-- at v stands the tree d, its rows as they are -/
inductive Tp (H : Hp) : V → PyData → Prop
  | non : Tp H .non .none
  | bl (b : Bool) : Tp H (.bl b) (.bool b)
  | int (i : Int) : Tp H (.int i) (.int i)
  | str (x : Str) : Tp H (.str x) (.str x)
  | lst {a : Addr} {xs : List V} {ds : List PyData} : H a = some (.lst xs) → TpAll H xs ds → Tp H (.ref a) (.list ds)
  | tup {a : Addr} {xs : List V} {ds : List PyData} : H a = some (.tup xs) → TpAll H xs ds → Tp H (.ref a) (.tuple ds)
  | dct {a : Addr} {kvs : List (Key × V)} {es : List (PyData × PyData)} : H a = some (.dK kvs) → TpKV H kvs es → (kvs.map (·.1)).Nodup → Tp H (.ref a) (.dict es)
inductive TpAll (H : Hp) : List V → List PyData → Prop
  | nil : TpAll H [] []
  | cons {v : V} {vs : List V} {d : PyData} {ds : List PyData} : Tp H v d → TpAll H vs ds → TpAll H (v :: vs) (d :: ds)
inductive TpKV (H : Hp) : List (Key × V) → List (PyData × PyData) → Prop
  | nil : TpKV H [] []
  | cons {k : Key} {v : V} {kvs : List (Key × V)} {d : PyData} {es : List (PyData × PyData)} : Tp H v d → TpKV H kvs es → TpKV H ((k, v) :: kvs) ((kD k, d) :: es)
end
section
variable {K : PySem.W.Frag} {H H' : Hp}
mutual
theorem Tp.same (e : Same H H') : ∀ {d : PyData} {v : V}, Tp H v d → Tp H' v d
  | .none, _, h => by cases h; exact .non
  | .bool b, _, h => by cases h; exact .bl b
  | .int i, _, h => by cases h; exact .int i
  | .str x, _, h => by cases h; exact .str x
  | .list ds, _, h => by
    cases h with
    | lst hs ha => exact .lst (e _ _ hs) (TpAll.same e ha)
  | .tuple ds, _, h => by
    cases h with
    | tup hs ha => exact .tup (e _ _ hs) (TpAll.same e ha)
  | .dict es, _, h => by
    cases h with
    | dct hb ha hn => exact .dct (e _ _ hb) (TpKV.same e ha) hn
theorem TpAll.same (e : Same H H') : ∀ {ds : List PyData} {vs : List V}, TpAll H vs ds → TpAll H' vs ds
  | [], _, h => by cases h; exact .nil
  | d :: ds, _, h => by
    cases h with
    | cons h1 h2 => exact .cons (Tp.same e h1) (TpAll.same e h2)
theorem TpKV.same (e : Same H H') : ∀ {es : List (PyData × PyData)} {kvs : List (Key × V)}, TpKV H kvs es → TpKV H' kvs es
  | [], _, h => by cases h; exact .nil
  | (k, d) :: es, _, h => by
    cases h with
    | cons h1 h2 => exact .cons (Tp.same e h1) (TpKV.same e h2)
end
theorem TpKV.len : ∀ {es : List (PyData × PyData)} {kvs : List (Key × V)}, TpKV H kvs es → kvs.length = es.length
  | [], _, h => by cases h; rfl
  | _ :: _, _, h => by
    cases h with
    | cons h1 h2 => rw [List.length_cons, List.length_cons, h2.len]
theorem TpKV.at : ∀ {es : List (PyData × PyData)} {kvs : List (Key × V)} {i : Nat} {k : Key} {v : V}, TpKV H kvs es → kvs[i]? = some (k, v) → ∃ d, es[i]? = some (kD k, d) ∧ Tp H v d
  | [], _, i, _, v, h, e => by cases h; simp at e
  | _ :: es, _, 0, _, v, h, e => by
    cases h with
    | cons h1 h2 =>
      cases e
      exact ⟨_, rfl, h1⟩
  | _ :: es, _, i + 1, _, v, h, e => by
    cases h with
    | cons h1 h2 =>
      rw [List.getElem?_cons_succ] at e
      obtain ⟨d, q1, q2⟩ := h2.at e
      exact ⟨d, by rw [List.getElem?_cons_succ]; exact q1, q2⟩
theorem TpKV.both {G : Hp} {k : Key} : ∀ {es : List (PyData × PyData)} {kvs lvs : List (Key × V)}, TpKV H kvs es → TpKV G lvs es → k ∈ kvs.map (·.1) → ∃ v u d, valV kvs k = some v ∧ valV lvs k = some u ∧ (kD k, d) ∈ es ∧ Tp H v d ∧ Tp G u d
  | [], _, _, h, _, m => by cases h; cases m
  | (c, d) :: es, _, _, h, g, m => by
    generalize ek : (c, d) = kd at h g
    cases h with
    | @cons k1 v1 kvs1 d1 es1 h1 h2 =>
      cases ek
      generalize ek2 : kD k1 = kk at g
      cases g with
      | @cons k2 v2 lvs1 d2 es2 g1 g2 =>
        cases kD_inj ek2
        unfold valV
        by_cases q : k1 = k
        · rw [List.find?_cons_of_pos (by simp [q]), List.find?_cons_of_pos (by simp [q])]
          exact ⟨v1, v2, d, rfl, rfl, by rw [q]; exact List.mem_cons_self, h1, g1⟩
        · rw [List.find?_cons_of_neg (by simp [q]), List.find?_cons_of_neg (by simp [q])]
          have m2 : k ∈ kvs1.map (·.1) := by
            rw [List.map_cons] at m
            rcases List.mem_cons.mp m with m | m
            · exact absurd m.symm q
            · exact m
          obtain ⟨v, u, e, z1, z2, z3, z4, z5⟩ := TpKV.both h2 g2 m2
          exact ⟨v, u, e, z1, z2, List.mem_cons_of_mem _ z3, z4, z5⟩
theorem valV_at : ∀ {kvs : List (Key × V)} {i : Nat} {k : Key} {v : V}, (kvs.map (·.1)).Nodup → kvs[i]? = some (k, v) → valV kvs k = some v
  | [], i, _, _, _, e => by simp at e
  | (k1, v1) :: kvs, 0, k, v, _, e => by
    cases e
    unfold valV
    rw [List.find?_cons_of_pos (by simp)]
    rfl
  | (k1, v1) :: kvs, i + 1, k, v, n, e => by
    rw [List.getElem?_cons_succ] at e
    rw [List.map_cons, List.nodup_cons] at n
    have ne : ¬ k1 = k := fun q => n.1 (by rw [q]; exact List.mem_map.mpr ⟨(k, v), List.mem_of_getElem? e, rfl⟩)
    unfold valV
    rw [List.find?_cons_of_neg (by simp [ne])]
    exact valV_at n.2 e
theorem TpKV.snoc : ∀ {es : List (PyData × PyData)} {kvs : List (Key × V)} {k : Key} {v : V} {d : PyData}, TpKV H kvs es → Tp H v d → TpKV H (kvs ++ [(k, v)]) (es ++ [(kD k, d)])
  | [], _, _, _, _, h, g => by cases h; exact .cons g .nil
  | _ :: _, _, _, _, _, h, g => by
    cases h with
    | cons h1 h2 => exact .cons h1 (h2.snoc g)
theorem TpKV.take : ∀ {es : List (PyData × PyData)} {kvs : List (Key × V)} (n : Nat), TpKV H kvs es → TpKV H (kvs.take n) (es.take n)
  | [], _, n, h => by cases h; simp; exact .nil
  | _ :: _, _, 0, h => .nil
  | _ :: _, _, n + 1, h => by
    cases h with
    | cons h1 h2 => exact .cons h1 (h2.take n)
/-- two dicts with the same data have the same keys -/
theorem TpKV.keys {G : Hp} : ∀ {es : List (PyData × PyData)} {kvs lvs : List (Key × V)}, TpKV H kvs es → TpKV G lvs es → kvs.map (·.1) = lvs.map (·.1)
  | [], _, _, h, g => by cases h; cases g; rfl
  | (k, d) :: es, _, _, h, g => by
    generalize ek : (k, d) = kd at h g
    cases h with
    | @cons k1 v1 kvs1 d1 es1 h1 h2 =>
      cases ek
      generalize ek2 : kD k1 = kk at g
      cases g with
      | @cons k2 v2 lvs1 d2 es2 g1 g2 =>
        rw [List.map_cons, List.map_cons, h2.keys g2, kD_inj ek2]
theorem TpAll.len : ∀ {ds : List PyData} {vs : List V}, TpAll H vs ds → vs.length = ds.length
  | [], _, h => by cases h; rfl
  | d :: ds, _, h => by
    cases h with
    | cons h1 h2 => rw [List.length_cons, List.length_cons, h2.len]
theorem TpAll.at : ∀ {ds : List PyData} {vs : List V} {i : Nat} {v : V}, TpAll H vs ds → vs[i]? = some v → ∃ d, ds[i]? = some d ∧ Tp H v d
  | [], _, i, v, h, e => by cases h; simp at e
  | d :: ds, _, 0, v, h, e => by
    cases h with
    | cons h1 h2 =>
      simp at e
      subst e
      exact ⟨d, rfl, h1⟩
  | d :: ds, _, i + 1, v, h, e => by
    cases h with
    | cons h1 h2 =>
      simp at e
      obtain ⟨z, q1, q2⟩ := h2.at e
      exact ⟨z, by simpa using q1, q2⟩
theorem TpAll.to : ∀ {ds : List PyData} {vs : List V} {i : Nat} {d : PyData}, TpAll H vs ds → ds[i]? = some d → ∃ v, vs[i]? = some v ∧ Tp H v d
  | [], _, _, _, _, e => by simp at e
  | _ :: _, _, 0, _, h, e => by
    cases h with
    | cons h1 h2 =>
      cases e
      exact ⟨_, rfl, h1⟩
  | _ :: _, _, i + 1, _, h, e => by
    cases h with
    | cons h1 h2 =>
      rw [List.getElem?_cons_succ] at e
      obtain ⟨v, h3, h4⟩ := h2.to e
      exact ⟨v, by rw [List.getElem?_cons_succ]; exact h3, h4⟩
theorem TpAll.app : ∀ {ds es : List PyData} {vs us : List V}, TpAll H vs ds → TpAll H us es → TpAll H (vs ++ us) (ds ++ es)
  | [], es, _, us, h, g => by cases h; exact g
  | d :: ds, es, _, us, h, g => by
    cases h with
    | cons h1 h2 => exact .cons h1 (h2.app g)
theorem TpAll.take : ∀ {ds : List PyData} {vs : List V} (n : Nat), TpAll H vs ds → TpAll H (vs.take n) (ds.take n)
  | [], _, n, h => by cases h; simp; exact .nil
  | d :: ds, _, 0, h => .nil
  | d :: ds, _, n + 1, h => by
    cases h with
    | cons h1 h2 => exact .cons h1 (h2.take n)
theorem TpAll.drop : ∀ {ds : List PyData} {vs : List V} (n : Nat), TpAll H vs ds → TpAll H (vs.drop n) (ds.drop n)
  | [], _, n, h => by cases h; simp; exact .nil
  | d :: ds, _, 0, h => h
  | d :: ds, _, n + 1, h => by
    cases h with
    | cons h1 h2 => exact h2.drop n
theorem TpAll.rep {vs : List V} {ds : List PyData} (h : TpAll H vs ds) : ∀ c : Nat, TpAll H (List.replicate c vs).flatten (List.replicate c ds).flatten
  | 0 => .nil
  | c + 1 => by
    rw [List.replicate_succ, List.replicate_succ, List.flatten_cons, List.flatten_cons]
    exact h.app (h.rep c)
theorem TpAll.set : ∀ {ds : List PyData} {vs : List V} (i : Nat) {v : V} {d : PyData}, TpAll H vs ds → Tp H v d → TpAll H (vs.set i v) (ds.set i d)
  | [], _, i, v, d, h, _ => by cases h; exact .nil
  | _ :: _, _, 0, v, d, h, g => by
    cases h with
    | cons h1 h2 => exact .cons g h2
  | _ :: _, _, i + 1, v, d, h, g => by
    cases h with
    | cons h1 h2 => exact .cons h1 (h2.set i g)
theorem TpAll.strs : ∀ (xs : List Str), TpAll H (xs.map V.str) (xs.map PyData.str)
  | [] => .nil
  | x :: xs => .cons (.str x) (TpAll.strs xs)
theorem TpAll.ints : ∀ (xs : List Int), TpAll H (xs.map V.int) (xs.map PyData.int)
  | [] => .nil
  | x :: xs => .cons (.int x) (TpAll.ints xs)
/-! ### what a tree is: its type, its parts -/
def tyD : PyData → String
  | .none => "NoneType"
  | .bool _ => "bool"
  | .int _ => "int"
  | .str _ => "str"
  | .list _ => "list"
  | .tuple _ => "tuple"
  | .dict _ => "dict"
theorem Tp.ty {v : V} {d : PyData} (h : Tp H v d) : TyX K H v (.type (tyD d)) := by
  cases h with
  | non => exact .base .non
  | bl b => exact .base (.bl b)
  | int i => exact .base (.int i)
  | str s => exact .base (.str s)
  | lst h _ => exact .base (.lst h)
  | tup h _ => exact .base (.tup h)
  | dct h _ _ => exact .base (.dK h)
/-- isinstance(thing, T) by the type's name -/
def isD (n : String) (d : PyData) : Bool := (kitB (tyD d) n).getD false
theorem kit_d {d : PyData} {n : String} (hn : n ∈ ["str", "int", "bool", "list", "tuple", "dict"]) : kitB (tyD d) n = some (isD n d) := by
  unfold isD
  simp only [List.mem_cons, List.mem_nil_iff, or_false] at hn
  cases d <;> (rcases hn with rfl | rfl | rfl | rfl | rfl | rfl <;> (unfold tyD; rfl))
def isRowD : PyData → Bool
  | .list _ => true
  | .tuple _ => true
  | _ => false
theorem kitAny_row {d : PyData} : PySem.W.kitAny K (.type (tyD d)) [.type "list", .type "tuple"] = some (isRowD d) := by
  have go : ∀ n b1 b2, kitB n "list" = some b1 → kitB n "tuple" = some b2 → PySem.W.kitAny K (.type n) [.type "list", .type "tuple"] = some (b1 || b2) := fun n b1 b2 h1 h2 => by
    refine kitAny_cons (b := b1) (kit_ty h1) (fun z => ?_) fun z => by rw [z]; rfl
    rw [z, Bool.false_or]
    exact kitAny_cons (b := b2) (kit_ty h2) (fun y => by rw [y]; rfl) fun y => by rw [y]
  cases d with
  | none => exact go "NoneType" false false (by decide +kernel) (by decide +kernel)
  | bool _ => exact go "bool" false false (by decide +kernel) (by decide +kernel)
  | int _ => exact go "int" false false (by decide +kernel) (by decide +kernel)
  | str _ => exact go "str" false false (by decide +kernel) (by decide +kernel)
  | list _ => exact go "list" true false (by decide +kernel) (by decide +kernel)
  | tuple _ => exact go "tuple" false true (by decide +kernel) (by decide +kernel)
  | dict _ => exact go "dict" false false (by decide +kernel) (by decide +kernel)
/-- the parts of a row -/
def partsD : PyData → List PyData
  | .list ds => ds
  | .tuple ds => ds
  | _ => []
/-- a row's object -/
def Rw (H : Hp) (a : Addr) (xs : List V) : Prop := H a = some (.lst xs) ∨ H a = some (.tup xs)
theorem Rw.same {a : Addr} {xs : List V} (h : Rw H a xs) (s : Same H H') : Rw H' a xs := h.imp (s _ _) (s _ _)
theorem Tp.row {v : V} {d : PyData} (h : Tp H v d) (hr : isRowD d = true) : ∃ a xs, v = .ref a ∧ Rw H a xs ∧ TpAll H xs (partsD d) := by
  cases h with
  | lst h1 h2 => exact ⟨_, _, rfl, .inl h1, h2⟩
  | tup h1 h2 => exact ⟨_, _, rfl, .inr h1, h2⟩
  | dct _ _ _ => cases hr
  | _ => cases hr
theorem Tp.tuple {v : V} {ds : List PyData} (h : Tp H v (.tuple ds)) : ∃ a xs, v = .ref a ∧ H a = some (.tup xs) ∧ TpAll H xs ds := by
  cases h with
  | tup h1 h2 => exact ⟨_, _, rfl, h1, h2⟩
theorem Tp.list {v : V} {ds : List PyData} (h : Tp H v (.list ds)) : ∃ a xs, v = .ref a ∧ H a = some (.lst xs) ∧ TpAll H xs ds := by
  cases h with
  | lst h1 h2 => exact ⟨_, _, rfl, h1, h2⟩
theorem Tp.strI {v : V} {s : Str} (h : Tp H v (.str s)) : v = .str s := by cases h; rfl
theorem Tp.intI {v : V} {s : Int} (h : Tp H v (.int s)) : v = .int s := by cases h; rfl
theorem Tp.blI {v : V} {s : Bool} (h : Tp H v (.bool s)) : v = .bl s := by cases h; rfl
/-! ### a place of the heap that is left open -/
def cut (F : Hp) (r : Addr) : Hp := fun a => if a = r then none else F a
section
variable {F G M : Hp} {r : Addr} {o : HO}
theorem cut_at : cut F r r = none := if_pos rfl
theorem cut_ne {a : Addr} (n : a ≠ r) : cut F r a = F a := if_neg n
theorem cut_upd (h : F r = some o) : upd (cut F r) r o = F := funext fun a => by
  by_cases q : a = r
  · rw [q, upd_same, h]
  · rw [upd_ne q]
    exact if_neg q
theorem same_cut (s : Same G F) (h : G r = none) : Same G (cut F r) := fun a u e => by
  show (if a = r then none else F a) = some u
  rw [if_neg fun q => by rw [q, h] at e; cases e]
  exact s a u e
theorem cut_sub : Same (cut F r) F := fun a u e => by
  by_cases q : a = r
  · rw [q, cut_at] at e
    cases e
  · rw [cut_ne q] at e
    exact e
end
/-! ### a list that is filled beside -/
theorem Grow.junk {F H F' H' : Hp} {D : Addr} (g : Grow F H F' H') (f : F' D = none) (h : H D = none) (o : HO) : Grow F H F' (upd H' D o) :=
  ⟨g.ff, same_put g.fh o f, fun a u e1 e2 => by
    obtain ⟨z1, z2⟩ := g.hh a u e1 e2
    have n := ne_of_none e2 h
    rw [upd_ne n]
    exact ⟨z1, z2⟩⟩
/-- D is filled with ys while F grows to F' -/
structure Acc (F H : Hp) (D : Addr) (F' H' : Hp) (ys : List V) : Prop where
  g : Grow F H F' H'
  no : F' D = none
  at_ : H' D = some (.lst ys)
  new : H D = none
theorem Acc.start {F : Hp} (s : Same F H) {D : Addr} (h : H D = none) : Acc F H D F (upd H D (.lst [])) [] := ⟨(Grow.refl s).junk (s.free h) h _, s.free h, upd_same, h⟩
theorem Acc.then {F F1 H1 F2 H2 : Hp} {D : Addr} {ys : List V} (a : Acc F H D F1 H1 ys) (g : Grow F1 H1 F2 H2) : Acc F H D F2 H2 ys := by
  obtain ⟨z1, z2⟩ := g.hh D _ a.no a.at_
  exact ⟨a.g.trans g, z1, z2, a.new⟩
theorem Acc.add {F F1 H1 : Hp} {D : Addr} {ys : List V} (a : Acc F H D F1 H1 ys) (y : List V) : Acc F H D F1 (upd H1 D (.lst y)) y := ⟨a.g.junk a.no a.new _, a.no, upd_same, a.new⟩
theorem TpAll.snoc {ds : List PyData} {vs : List V} {d : PyData} {v : V} (h : TpAll H vs ds) (q : Tp H v d) : TpAll H (vs ++ [v]) (ds ++ [d]) := h.app (.cons q .nil)
/-- what is filled becomes a part of what is spoken of -/
theorem Acc.keep {F F1 H1 : Hp} {D : Addr} {ys : List V} (a : Acc F H D F1 H1 ys) : Grow F H (upd F1 D (.lst ys)) H1 := by
  refine ⟨a.g.ff.trans (same_new _ a.no), fun b o e => ?_, fun b o e1 e2 => ?_⟩
  · by_cases q : b = D
    · rw [q, upd_same] at e
      rw [q, a.at_]
      exact e
    · rw [upd_ne q] at e
      exact a.g.fh _ _ e
  · obtain ⟨z1, z2⟩ := a.g.hh b o e1 e2
    rw [upd_ne (ne_of_none e2 a.new)]
    exact ⟨z1, z2⟩
theorem Tp.dict {v : V} {es : List (PyData × PyData)} (h : Tp H v (.dict es)) : ∃ a kvs, v = .ref a ∧ H a = some (.dK kvs) ∧ TpKV H kvs es ∧ (kvs.map (·.1)).Nodup := by
  cases h with
  | dct h1 h2 h3 => exact ⟨_, _, rfl, h1, h2, h3⟩
/-- the two small dicts -/
theorem Tp.odd {a : Addr} (b : Bool) (h : Dl H a b) : Tp H (.ref a) (dictD b) := by
  cases b with
  | true =>
    obtain ⟨l, h1, h2⟩ := (show ∃ l, H a = some (.dK [(Sum.inr "a", .ref l)]) ∧ H l = some (.lst [.int 1]) from h)
    exact .dct h1 (.cons (k := Sum.inr "a") (.lst h2 (.cons (.int 1) .nil)) .nil) (List.pairwise_singleton _ _)
  | false => exact .dct (show H a = some (.dK []) from h) .nil .nil
/-! ### how large a tree is -/
mutual
def dep : PyData → Nat
  | .list ds => 1 + depL ds
  | .tuple ds => 1 + depL ds
  | .dict es => 1 + depE es
  | _ => 0
def depL : List PyData → Nat
  | [] => 0
  | d :: ds => max (dep d) (depL ds)
def depE : List (PyData × PyData) → Nat
  | [] => 0
  | (_, d) :: es => max (dep d) (depE es)
end
mutual
def siz : PyData → Nat
  | .list ds => 1 + sizL ds
  | .tuple ds => 1 + sizL ds
  | .dict es => 1 + sizE es
  | _ => 1
def sizL : List PyData → Nat
  | [] => 0
  | d :: ds => siz d + sizL ds
def sizE : List (PyData × PyData) → Nat
  | [] => 0
  | (_, d) :: es => siz d + sizE es
end
mutual
def mst : PyData → Nat
  | .list ds => mstL ds
  | .tuple ds => mstL ds
  | .str s => s.length
  | .dict es => mstE es
  | _ => 0
def mstL : List PyData → Nat
  | [] => 0
  | d :: ds => max (mst d) (mstL ds)
def mstE : List (PyData × PyData) → Nat
  | [] => 0
  | (_, d) :: es => max (mst d) (mstE es)
end
theorem dep_mem : ∀ {ds : List PyData} {d : PyData}, d ∈ ds → dep d ≤ depL ds
  | [], _, h => by cases h
  | c :: ds, d, h => by
    rcases List.mem_cons.mp h with rfl | h
    · exact Nat.le_max_left _ _
    · exact Nat.le_trans (dep_mem h) (Nat.le_max_right _ _)
theorem mst_mem : ∀ {ds : List PyData} {d : PyData}, d ∈ ds → mst d ≤ mstL ds
  | [], _, h => by cases h
  | c :: ds, d, h => by
    rcases List.mem_cons.mp h with rfl | h
    · exact Nat.le_max_left _ _
    · exact Nat.le_trans (mst_mem h) (Nat.le_max_right _ _)
theorem siz_mem : ∀ {ds : List PyData} {d : PyData}, d ∈ ds → siz d ≤ sizL ds
  | [], _, h => by cases h
  | c :: ds, d, h => by
    show siz d ≤ siz c + sizL ds
    rcases List.mem_cons.mp h with rfl | h
    · omega
    · have z := siz_mem h
      omega
theorem siz_pos : ∀ d : PyData, 1 ≤ siz d
  | .none => Nat.le_refl _
  | .bool _ => Nat.le_refl _
  | .int _ => Nat.le_refl _
  | .str _ => Nat.le_refl _
  | .dict es => by show 1 ≤ 1 + sizE es; omega
  | .list ds => by show 1 ≤ 1 + sizL ds; omega
  | .tuple ds => by show 1 ≤ 1 + sizL ds; omega
theorem siz_len : ∀ ds : List PyData, ds.length ≤ sizL ds
  | [] => Nat.le_refl _
  | d :: ds => by
    show ds.length + 1 ≤ siz d + sizL ds
    have z := siz_len ds
    have y := siz_pos d
    omega
theorem depE_mem : ∀ {es : List (PyData × PyData)} {k d : PyData}, (k, d) ∈ es → dep d ≤ depE es
  | [], _, _, h => by cases h
  | (k, c) :: es, _, d, h => by
    show dep d ≤ max (dep c) (depE es)
    rcases List.mem_cons.mp h with h | h
    · cases h
      exact Nat.le_max_left _ _
    · exact Nat.le_trans (depE_mem h) (Nat.le_max_right _ _)
theorem sizE_mem : ∀ {es : List (PyData × PyData)} {k d : PyData}, (k, d) ∈ es → siz d ≤ sizE es
  | [], _, _, h => by cases h
  | (k, c) :: es, _, d, h => by
    show siz d ≤ siz c + sizE es
    rcases List.mem_cons.mp h with h | h
    · cases h
      omega
    · have z := sizE_mem h
      omega
theorem sizE_len : ∀ es : List (PyData × PyData), es.length ≤ sizE es
  | [] => Nat.le_refl _
  | (k, d) :: es => by
    show es.length + 1 ≤ siz d + sizE es
    have z := sizE_len es
    have y := siz_pos d
    omega
/-- a tree that is not too large -/
structure Bd (n s l : Nat) (d : PyData) : Prop where
  dp : dep d ≤ n
  sz : siz d ≤ s
  ms : mst d ≤ l
theorem dep_row {d : PyData} (h : isRowD d = true) : dep d = 1 + depL (partsD d) := by
  cases d <;> first | rfl | cases h
theorem siz_row {d : PyData} (h : isRowD d = true) : siz d = 1 + sizL (partsD d) := by
  cases d <;> first | rfl | cases h
theorem mst_row {d : PyData} (h : isRowD d = true) : mst d = mstL (partsD d) := by
  cases d <;> first | rfl | cases h
theorem Bd.part {n s l : Nat} {d c : PyData} (b : Bd (n + 1) s l d) (h : isRowD d = true) (m : c ∈ partsD d) : Bd n s l c := by
  have z1 := b.dp
  have z2 := b.sz
  have z3 := b.ms
  rw [dep_row h] at z1
  rw [siz_row h] at z2
  rw [mst_row h] at z3
  have y1 := dep_mem m
  have y2 := siz_mem m
  have y3 := mst_mem m
  exact ⟨by omega, by omega, by omega⟩
theorem Bd.len {n s l : Nat} {d : PyData} (b : Bd n s l d) (h : isRowD d = true) : (partsD d).length < s := by
  have z2 := b.sz
  rw [siz_row h] at z2
  have y := siz_len (partsD d)
  omega
theorem Bd.up {n s l n' s' l' : Nat} {d : PyData} (b : Bd n s l d) (h1 : n ≤ n') (h2 : s ≤ s') (h3 : l ≤ l') : Bd n' s' l' d := ⟨Nat.le_trans b.dp h1, Nat.le_trans b.sz h2, Nat.le_trans b.ms h3⟩
theorem Bd.row0 {s l : Nat} {d : PyData} (b : Bd 0 s l d) : isRowD d = false := by
  have z := b.dp
  cases e : isRowD d with
  | false => rfl
  | true =>
    rw [dep_row e] at z
    omega
end
/-! ### what stands at a place is one tree; a tree without a place that is above it -/
mutual
theorem Tp.one {H : Hp} : ∀ {d e : PyData} {v : V}, Tp H v d → Tp H v e → d = e
  | .none, e, _, h, g => by cases h; cases g; rfl
  | .bool _, e, _, h, g => by cases h; cases g; rfl
  | .int _, e, _, h, g => by cases h; cases g; rfl
  | .str _, e, _, h, g => by cases h; cases g; rfl
  | .list ds, e, _, h, g => by
    cases h with
    | lst h1 h2 =>
      cases g with
      | lst g1 g2 =>
        rw [h1] at g1
        cases g1
        rw [TpAll.one h2 g2]
      | tup g1 _ => rw [h1] at g1; cases g1
      | dct g1 _ _ => rw [h1] at g1; cases g1
  | .tuple ds, e, _, h, g => by
    cases h with
    | tup h1 h2 =>
      cases g with
      | tup g1 g2 =>
        rw [h1] at g1
        cases g1
        rw [TpAll.one h2 g2]
      | lst g1 _ => rw [h1] at g1; cases g1
      | dct g1 _ _ => rw [h1] at g1; cases g1
  | .dict es, e, _, h, g => by
    cases h with
    | dct h1 h2 _ =>
      cases g with
      | dct g1 g2 _ =>
        rw [h1] at g1
        cases g1
        rw [TpKV.one h2 g2]
      | lst g1 _ => rw [h1] at g1; cases g1
      | tup g1 _ => rw [h1] at g1; cases g1
theorem TpAll.one {H : Hp} : ∀ {ds es : List PyData} {vs : List V}, TpAll H vs ds → TpAll H vs es → ds = es
  | [], _, _, h, g => by cases h; cases g; rfl
  | d :: ds, _, _, h, g => by
    cases h with
    | cons h1 h2 =>
      cases g with
      | cons g1 g2 => rw [Tp.one h1 g1, TpAll.one h2 g2]
theorem TpKV.one {H : Hp} : ∀ {ds es : List (PyData × PyData)} {vs : List (Key × V)}, TpKV H vs ds → TpKV H vs es → ds = es
  | [], _, _, h, g => by cases h; cases g; rfl
  | (k, d) :: ds, _, _, h, g => by
    cases h with
    | cons h1 h2 =>
      cases g with
      | cons g1 g2 => rw [Tp.one h1 g1, TpKV.one h2 g2]
end
mutual
theorem Tp.beneath {H : Hp} {a : Addr} {c : PyData} (hc : Tp H (.ref a) c) : ∀ {d : PyData} {v : V}, Tp H v d → siz d < siz c → Tp (cut H a) v d
  | .none, _, h, _ => by cases h; exact .non
  | .bool _, _, h, _ => by cases h; exact .bl _
  | .int _, _, h, _ => by cases h; exact .int _
  | .str _, _, h, _ => by cases h; exact .str _
  | .list ds, _, h, l => by
    have hh := h
    cases h with
    | @lst b _ _ h1 h2 =>
      have n : b ≠ a := fun e => by
        rw [e] at hh
        rw [Tp.one hh hc] at l
        omega
      refine .lst (by rw [cut_ne n]; exact h1) (TpAll.beneath hc h2 ?_)
      have z : siz (.list ds) = 1 + sizL ds := rfl
      omega
  | .tuple ds, _, h, l => by
    have hh := h
    cases h with
    | @tup b _ _ h1 h2 =>
      have n : b ≠ a := fun e => by
        rw [e] at hh
        rw [Tp.one hh hc] at l
        omega
      refine .tup (by rw [cut_ne n]; exact h1) (TpAll.beneath hc h2 ?_)
      have z : siz (.tuple ds) = 1 + sizL ds := rfl
      omega
  | .dict es, _, h, l => by
    have hh := h
    cases h with
    | @dct b _ _ h1 h2 h3 =>
      have n : b ≠ a := fun e => by
        rw [e] at hh
        rw [Tp.one hh hc] at l
        omega
      refine .dct (by rw [cut_ne n]; exact h1) (TpKV.beneath hc h2 ?_) h3
      have z : siz (.dict es) = 1 + sizE es := rfl
      omega
theorem TpAll.beneath {H : Hp} {a : Addr} {c : PyData} (hc : Tp H (.ref a) c) : ∀ {ds : List PyData} {vs : List V}, TpAll H vs ds → sizL ds < siz c → TpAll (cut H a) vs ds
  | [], _, h, _ => by cases h; exact .nil
  | d :: ds, _, h, l => by
    have z : sizL (d :: ds) = siz d + sizL ds := rfl
    cases h with
    | cons h1 h2 => exact .cons (Tp.beneath hc h1 (by omega)) (TpAll.beneath hc h2 (by omega))
theorem TpKV.beneath {H : Hp} {a : Addr} {c : PyData} (hc : Tp H (.ref a) c) : ∀ {es : List (PyData × PyData)} {vs : List (Key × V)}, TpKV H vs es → sizE es < siz c → TpKV (cut H a) vs es
  | [], _, h, _ => by cases h; exact .nil
  | (k, d) :: es, _, h, l => by
    have z : sizE ((k, d) :: es) = siz d + sizE es := rfl
    cases h with
    | cons h1 h2 => exact .cons (Tp.beneath hc h1 (by omega)) (TpKV.beneath hc h2 (by omega))
end
end Fm

/-! ## FmExc -/
set_option Elab.async false
set_option maxRecDepth 100000
set_option maxHeartbeats 4000000
/-! Own errors that hold a field: isinstance of a caught one, its field, raised by keyword, raised without arguments. -/
namespace Fm
open PySem PySem.Spec PySem.Calls PyProof.Rows
section
variable {prog : Program} {w : World} {A : Around} {E : Value → Shared → Prop} {s : Shared} {K : PySem.W.Frag} {x D : Addr} {ox : Obj} {od : Option Obj}
theorem find_data {a g : Value} {nm : Str} (hc : (PySem.W.clsIn K D).isSome = true) (h1 : PySem.W.findIn K (.ref D) nm = some (some a)) (h2 : PySem.W.specialIn K a "__get__" = some (some g)) (h3 : PySem.W.takesIn K a = some true) :
    PySem.W.findObj K D od nm = some (.bind g a) := by
  cases e : PySem.W.clsIn K D with
  | none => rw [e] at hc; cases hc
  | some cd => unfold PySem.W.findObj; simp [e, h1, h2, h3]
/-- e.__class__ of an error, with a dict or without -/
theorem err_class {Q : Option Value → Shared → Prop} (C : L2.ExcC K D) (X : K.In s.heap) (I : PySem.W.InstAt s.heap x ox D od) (h : Q (some (.ref D)) { s with toks := s.toks + 1 }) : wpAny (model prog w) A (getAttr? (.ref x) "__class__") Q E s := by
  have ff : PySem.W.findObj K D od "__class__" = some (.bind (.builtin "getset_descriptor.__get__") (.builtin "object.__class__")) := find_data (by obtain ⟨cd, e, _⟩ := PySem.W.any_some C.hd; rw [e]; rfl) C.ha C.hn C.ht
  obtain ⟨hp, g, d, t, os⟩ := s
  have l0 := I.type (M := model prog w)
  have l1 := PySem.W.looks_findIn (M := model prog w) X C.hg
  have l2 := PySem.W.looks_findIn (M := model prog w) X C.hk
  have l3 := PySem.W.looks_find (M := model prog w) X I ff
  have ln : PySem.W.Looks (model prog w) hp (isInstance (.ref x) (.type "BaseException")) true := l0.andThen (PySem.W.looks_subIn X C.hs)
  have n2 : (Value.builtin "BaseException.__getattribute__" == Value.builtin "object.__getattribute__") = false := by decide +kernel
  have n1 : (onTheHeap (Value.ref D) && (Value.builtin "BaseException.__getattribute__" == Value.builtin "object.__getattribute__")) = false := by rw [n2]; rfl
  have n0 : (false && onTheHeap (Value.builtin "BaseException.__getattribute__")) = false := rfl
  unfold getAttr?; unfold getAttrBy?; unfold getAttrBy
  refine wpAny_bind (wpAny_mkText ?_); refine wpAny_bind (wpAny_attempt (wpAny_holding ?_)); refine wpAny_bind (l0.at ?_); refine wpAny_bind (l1.at ?_)
  show wpAny (model prog w) _ (if (onTheHeap (Value.ref D) && (Value.builtin "BaseException.__getattribute__" == Value.builtin "object.__getattribute__")) = true then _ else _) _ _ _
  rw [n1, if_neg Bool.false_ne_true]; unfold getAttrByItsOwn; unfold hookBefore
  refine wpAny_bind ?_; rw [if_pos (show onTheHeap (Value.ref D) = true from rfl)]; refine l2.at ?_
  refine wpAny_bind (wpAny_attempt (wpAny_holding ?_)); unfold callGetattribute; rw [n0, if_neg Bool.false_ne_true]; unfold boundAndCalled
  rw [PySem.F.excAttr_ValueError.ga.bind (.ref x)]; refine wpAny_bind (wpAny_pure ?_)
  show wpAny (model prog w) _ (call (.builtin "BaseException.__getattribute__") [.ref x, .str "__class__" t]) _ _ _
  refine wpAny_call (codeAny_call_builtin PySem.F.excAttr_ValueError.ga.plain PySem.F.entry_bexc_ga ?_)
  refine @PySem.W.check_slot (model prog w) _ _ ⟨hp, g, d, t + 1, os⟩ "BaseException.__getattribute__" "BaseException" "__getattribute__" (.ref x) [.str "__class__" t] [] _ (by decide +kernel) (by decide +kernel) ln (PySem.F.args_bexc_ga (.ref x) (.str "__class__" t)) ?_
  unfold Builtin.«object.__getattribute__»
  refine wpAny_bind (wpAny_of_eq (a := ((Value.ref x : Value), [Value.str "__class__" t])) (by first | rfl | (simp only [slotArgs]; rfl)) ?_)
  refine wpAny_bind (wpAny_pure ?_); refine wpAny_bind (l0.at ?_); refine wpAny_bind (l3.at ?_)
  show wpAny (model prog w) _ (holding [Value.builtin "object.__class__"] (call (.builtin "getset_descriptor.__get__") [.builtin "object.__class__", .ref x, .ref D]) >>= ret) _ _ _
  refine wpAny_bind (wpAny_holding (wpAny_call (PySem.W.class_get (s := ⟨hp, g, d, t + 1, os⟩) (ox := ox) (od := od) X I C.hm ?_)))
  refine wpAny_pure ?_
  show wpAny (model prog w) _ (handedOut (.ref D)) _ _ _
  rw [PySem.W.handedOut_of (v := .ref D) rfl]
  first | exact wpAny_pure (wpAny_pure h) | exact wpAny_pure h | exact wpAny_pure (wpAny_bind (wpAny_pure (wpAny_pure h)))
theorem err_kit (C : L2.ExcC K D) : PySem.W.KitX K (.ref x) (.ref D) (fun h => ∃ od, PySem.W.InstAt h x ox D od) where
  ty := fun _ _ _ ⟨_, I⟩ => I.type
  it := fun _ _ X _ => by
    obtain ⟨cd, e, _⟩ := PySem.W.any_some C.hd
    unfold PySem.W.clsIn at e
    split at e
    · rename_i o1 o2 o3 o4 ho
      intro A' Q' E' s' k q
      unfold isType; unfold loadHead
      exact wpAny_bind (wpAny_loadPart (k _ _ (X _ _ ho)) (wpAny_pure q))
    · cases e
  ne := fun h tp dd its n sl X htp => by
    obtain ⟨cd, e, _⟩ := PySem.W.any_some C.hd
    refine Bool.eq_false_iff.mpr fun q => ?_
    cases Value.ref.inj (beq_iff_eq.mp q)
    unfold PySem.W.clsIn at e
    split at e
    · rename_i o1 o2 o3 o4 ho
      cases (X _ _ ho).symm.trans htp
    · cases e
  ca := fun X ⟨_, I⟩ k => err_class C X I k
end
section
open L2
variable {X : Cx}
theorem inst_err {H : Hp} {s : Shared} {a D : Addr} {oe : Obj} {d : Option Addr} (hget : s.heap.get? a = some oe) (hok : HOk X.prog X.w H s.heap) (hz : Zc (.ref D) d oe) (hf : ∃ vs, oe.data = .fields vs) (hd : ∀ dd, d = some dd → ∃ fs, H dd = some (.xd fs)) :
    ∃ od, PySem.W.InstAt s.heap a oe D od := by
  obtain ⟨vs, hv⟩ := hf
  have nc : PySem.W.notCls oe = true := by unfold PySem.W.notCls; rw [hv] <;> rfl
  cases d with
  | none => exact ⟨none, hget, hz.1, nc, by rw [hz.2]; trivial⟩
  | some dd =>
    obtain ⟨fs, e⟩ := hd dd rfl
    have z : ObjOk X.prog X.w H s.heap dd (.xd fs) := hok dd _ e
    obtain ⟨mA, hns, _⟩ := z
    obtain ⟨od, ho, _⟩ := lookIn_ns hns
    exact ⟨some od, hget, hz.1, nc, by rw [hz.2]; exact ho⟩
/-- isinstance(e, c), e the error that the suite holds: its class and its dict as they come -/
def rIsF (K : PySem.W.Frag) (a : Addr) (cls : Value) (d : Option Addr) : List V → Hp → VK → Prop := fun xs H Q => ∃ (D : Addr) (c : V) (u : Value) (b : Bool), xs = [.ref a, c] ∧ cls = .ref D ∧ ExcC K D ∧ (∀ dd, d = some dd → ∃ fs, H dd = some (.xd fs)) ∧ ClsV c u ∧ PySem.W.kitOne K (.ref D) u = some b ∧ Q (.bl b) H
theorem call_isF {a : Addr} {cls : Value} {d : Option Addr} {oe : Obj} {pn : List (Addr × Obj)} (hz : Zc cls d oe) (hf : ∃ vs, oe.data = .fields vs) : CallR (X.suite a ((a, oe) :: pn)) (.builtin "isinstance") (rIsF X.K a cls d) := by
  intro pins s σ H xs us Q I r h
  obtain ⟨D, c, u, b, rfl, rfl, C, hd, hc, e, q⟩ := h
  obtain ⟨u1, u2, rfl, r1, r2⟩ := vals2 r
  have e2 := hc.eq r2
  subst e2
  cases (show u1 = Value.ref a from r1)
  obtain ⟨hg, _⟩ := I.pin (a, oe) (List.mem_append_left _ List.mem_cons_self)
  exact PySem.W.kia_one (err_kit C) I.kIn (inst_err hg I.hok hz hf hd) e (fun z => nomatch z) fun tk => ⟨.bl b, H, I.tok tk, rfl, q⟩
/-- e.f, e the error that the suite holds -/
def tXg (K : PySem.W.Frag) (a : Addr) (cls : Value) (d : Option Addr) (f : Str) (te : TE) : TE := fun σ H Q => te σ H fun x H1 => x = .ref a ∧ ∃ (C dd : Addr) (fs : List (Str × V)) (v : V), cls = .ref C ∧ XfC K C ∧ PySem.W.findIn K (.ref C) f = some none ∧ d = some dd ∧ H1 dd = some (.xd fs) ∧ fs.lookup f = some v ∧ Q v H1
theorem pe_xg {a : Addr} {oe : Obj} {cls : Value} {d : Option Addr} {pn : List (Addr × Obj)} {e : Expr} {te : TE} {pos : Pos} {n : Str} (hz : Zc cls d oe) (hf : ∃ vs, oe.data = .fields vs) (he : PE (X.suite a ((a, oe) :: pn)) e te)
    (hb : attributeBase e n X.env (eval e X.env) = eval e X.env := by rfl) : PE (X.suite a ((a, oe) :: pn)) (.Attribute e n pos) (tXg X.K a cls d n te) := by
  refine ⟨fun pins s σ H Q I h => attr_of hb (thn (he.run pins s σ H _ I h) fun u s1 hh => ?_)⟩
  obtain ⟨x, H1, I1, rx, rfl, C, dd, fs, v, rfl, T, hno, rfl, ea, l, q⟩ := hh
  cases (show u = Value.ref a from rx)
  obtain ⟨ha, _⟩ := I1.pin (a, oe) (List.mem_append_left _ List.mem_cons_self)
  obtain ⟨vs, hd⟩ := hf
  have z : ObjOk X.prog X.w H1 s1.heap dd (.xd fs) := I1.hok dd _ ea
  obtain ⟨mA, hns, hr⟩ := z
  obtain ⟨od, ho, hl⟩ := lookIn_ns hns
  obtain ⟨u, hu, ru⟩ := RelO.some_of (v := v) (o := mA n) (by rw [← l]; exact hr n)
  exact HandSPX.exc_get I1.kIn ⟨ha, hz.1, by unfold PySem.W.notCls; rw [hd] <;> rfl, by rw [hz.2]; exact ho⟩ T.ga T.gg T.exC (PySem.W.findObj_own T.hdC hno rfl (by rw [hl, hu])) (handed_of ru) ⟨v, H1, I1.tok _, ru, q⟩
theorem pmk_own0 {C : Addr} {bmB : List Value} {B newId initId : String} {x : Str} {p pos : Pos} (F : ExcBaseFacts B newId initId bmB) (q : PySem.W.excIn X.K C bmB newId = true) (gC : X.mg x = some (.ref C))
    (kC : PySem.W.keepIn X.K (.ref C) = true) (r : Raises X (.ref C)) (hg : Gl X x := by rfl) (hdb : (x == ("__debug__" : Str)) = false := by decide) : PMk X (.Call (.Name x p) [] [] pos) (fun _ H Q => Q (.ref C) none H) := by
  intro pins s σ H Q I h
  refine wpAny_Call_Name_kw (ld_glob I hg gC ?_ hdb)
  refine PySem.W.callWith_K0 I.kIn kC ?_
  obtain ⟨bm, N, nm, qn, bs, hdct, sn, sub, ab, col, dd, k0, k1, k2, k3, k5, mN, hC, hN, hni, T⟩ := exc_obj I.kIn q
  exact wpAny_call_exc_subT F T hC hN hni (fun h' e hm => mk_of I hm r h (I.hok.gone hm.new)) (Nat.zero_le _)
end
section
open PySem.HandSPX
variable {M : Model} {A : Around} {E : Value → Shared → Prop} {h : Heap} {g : Array GenState} {d : Drawn} {t : Nat} {os : OsState}
variable {nm q : Str} {C N : Addr} {bs bm bmB : List Value} {hdct : Bool} {sn : List Str} {sub : List Value} {ab : Bool} {col : Option Bool} {dd : Option Addr} {k0 k1 k2 k3 k5 : Option Value} {B newId initId : String}
theorem check_newK (F : ExcBaseFacts B newId initId bmB) (hT : ∀ X : String, bm.contains (.type X) = bmB.contains (.type X)) {kw : List (Str × Value)} {Q : Unit → Shared → Prop}
    (hC : h.get? C = some (excClassObj nm q C N bs bm hdct sn sub ab col dd k0 k1 k2 k3 k5 newId)) (hq : Q () ⟨h, g, d, t, os⟩) : wpAny M A (checkBuiltinCall newId ⟨[.ref C], kw⟩) Q E ⟨h, g, d, t, os⟩ := by
  have c1 : (Value.ref C :: bm).contains (.type B) = true := by rw [List.contains_cons, hT, F.hasB, Bool.or_true]
  have c2 := F.noStar
  simp only [checkBuiltinCall, F.newKind, F.newSplit, F.newRow]
  repeat (first
    | refine wpAny_loadPart_at hC ?_
    | (refine wpAny_isSubtype_exc hC ?_; rw [c1])
    | refine wpAny_staticBase_exc hC ?_
    | refine wpAny_madeBy_exc hC ?_
    | simp only [bne_self_eq_false, Bool.false_eq_true, if_false]
    | wp_step)
  exact hq
end
section
open PySem.HandSPX
variable {prog : Program} {w : World} {A : Around} {E : Value → Shared → Prop} {R : Result → Shared → Prop} {h : Heap} {g : Array GenState} {d : Drawn} {t : Nat} {os : OsState}
variable {nm q : Str} {C N : Addr} {bs bm bmB : List Value} {hdct : Bool} {sn : List Str} {sub : List Value} {ab : Bool} {col : Option Bool} {dd : Option Addr} {k0 k1 k2 k3 k5 : Option Value} {B newId initId : String}
theorem new_ownK (F : ExcBaseFacts B newId initId bmB) (hT : ∀ X : String, bm.contains (.type X) = bmB.contains (.type X)) {kw : List (Str × Value)}
    (hC : h.get? C = some (excClassObj nm q C N bs bm hdct sn sub ab col dd k0 k1 k2 k3 k5 newId))
    (hq : R (.ok (.ret (.ref (h.objs.size + 1)))) ⟨(h.push (PySem.W.kdv_tup [])).push (excO C h.objs.size), g, d, t, os⟩) : codeAny (model prog w) A (.builtin newId ⟨[.ref C], kw⟩) R ⟨h, g, d, t, os⟩ := by
  have hends := F.ends
  have c1 : (Value.ref C :: bm).contains (.type B) = true := by rw [List.contains_cons, hT, F.hasB, Bool.or_true]
  have c2 : (Value.ref C :: bm).contains (.type "AttributeError") = false := by rw [List.contains_cons, hT, F.noAttr]; rfl
  have c3 : (Value.ref C :: bm).contains (.type "NameError") = false := by rw [List.contains_cons, hT, F.noName]; rfl
  refine codeAny_builtinAt F.entry ?_
  unfold Builtin.«BaseException.__new__»
  refine PySem.wpAt_bind ?_
  show PySem.wpAt _ _ _ (stack >>= _) _ _ _
  refine PySem.wpAt_bind (PySem.wpAt_stack fun p below => PySem.wpAt_of_wpAny ?_)
  wp_walk
  refine PySem.wpAt_of_wpAny ?_
  rw [F.owner]
  repeat (first
    | with_reducible refine wpAny_madeHere_exc F.canon hC ?_
    | with_reducible refine wpAny_loadPart_at hC ?_
    | (with_reducible refine wpAny_isSubtype_exc hC ?_; first | rw [c1] | rw [c2] | rw [c3])
    | wp_step)
  show R _ _
  rw [Heap.size_push]
  exact hq
theorem type_callK (F : ExcBaseFacts B newId initId bmB) (hT : ∀ X : String, bm.contains (.type X) = bmB.contains (.type X)) {kw : List (Str × Value)} {fI : Addr} {Q : Fin → Shared → Prop}
    (hC : h.get? C = some (excClassObj nm q C N bs bm hdct sn sub ab col dd k0 k1 k2 k3 k5 newId))
    (hi : PySem.W.Looks (model prog w) h (typeLookup (.ref C) "__init__") (some (.ref fI))) (hb : ∀ self, PySem.W.Looks (model prog w) h (bindSpecial (.ref fI) self) (.ref fI, [self]))
    (hq : codeAny (model prog w) A (.call (.ref fI) ⟨[.ref (h.objs.size + 1)], kw⟩)
      (fun r s' => match r with | .ok (.ret v) => v = .none ∧ Q (.done (.ret (.ref (h.objs.size + 1)))) s' | .ok _ => False | .error e => E e s') ⟨(h.push (PySem.W.kdv_tup [])).push (excO C h.objs.size), g, d, t, os⟩) :
    wpAny (model prog w) A (Builtin.«type.__call__» ⟨[.ref C], kw⟩) Q E ⟨h, g, d, t, os⟩ := by
  repeat (first
    | with_reducible refine wpAny_loadPart_at hC ?_
    | with_reducible refine wpAny_madeBy_exc hC ?_
    | wp_step)
  refine codeAny_call_builtin_code (Code.quiet_builtin _ F.quiet) (check_newK F hT hC ?_)
  refine new_ownK F hT hC ?_
  show wpAny _ _ _ _ _ _
  have k : ∀ b o, h.get? b = some o → ((h.push (PySem.W.kdv_tup [])).push (excO C h.objs.size)).get? b = some o := fun b o e => Heap.get?_push_of_some _ (Heap.get?_push_of_some _ e)
  have e1 := k _ _ hC
  have e2 : ((h.push (PySem.W.kdv_tup [])).push (excO C h.objs.size)).get? (h.objs.size + 1) = some (excO C h.objs.size) := by heap_get
  have e3 : (Value.ref C :: bm).contains (.ref C) = true := by simp
  have i1 := hi.keeps k
  have b1 := (hb (.ref (h.objs.size + 1))).keeps k
  unfold isInstance
  repeat (first
    | with_reducible refine wpAny_loadPart_at e2 ?_
    | (with_reducible refine wpAny_isSubtype_exc e1 ?_; rw [e3])
    | wp_step)
  show wpAny _ _ (typeLookup (.ref C) _) _ _ _
  refine i1.at ?_
  refine wpAny_holding (wpAny_bind (b1.at ?_))
  refine wpAny_bind (wpAny_call (codeAny_mono hq fun r s' z => ?_))
  rcases r with e | (v | _ | _ | _) <;> first | exact z | exact z.elim | skip
  obtain ⟨rfl, z⟩ := z
  first
    | exact wpAny_pure (wpAny_pure z)
    | (wp_walk; exact z)
theorem call_ownK (F : ExcBaseFacts B newId initId bmB) (hT : ∀ X : String, bm.contains (.type X) = bmB.contains (.type X)) {kw : List (Str × Value)} {fI : Addr}
    (hC : h.get? C = some (excClassObj nm q C N bs bm hdct sn sub ab col dd k0 k1 k2 k3 k5 newId))
    (hi : PySem.W.Looks (model prog w) h (typeLookup (.ref C) "__init__") (some (.ref fI))) (hb : ∀ self, PySem.W.Looks (model prog w) h (bindSpecial (.ref fI) self) (.ref fI, [self]))
    (hq : codeAny (model prog w) (A.under (.builtin "type.__call__" ⟨[.ref C], kw⟩)) (.call (.ref fI) ⟨[.ref (h.objs.size + 1)], kw⟩) (PySem.W.InitBack (h.objs.size + 1) R) ⟨(h.push (PySem.W.kdv_tup [])).push (excO C h.objs.size), g, d, t, os⟩) :
    codeAny (model prog w) A (.call (.ref C) ⟨[], kw⟩) R ⟨h, g, d, t, os⟩ := by
  have f1 := tc_lookup
  have f2 := tc_bind (.ref C)
  have hTy : (⟨h, g, d, t, os⟩ : Shared).TypeIs (.ref C) "type" := ⟨_, hC, rfl⟩
  refine codeAny_of_tree ?_
  show wpAny _ _ (callAny (.ref C) _) _ _ _
  repeat (any_goals (first | assumption | with_reducible refine wpAny_loadPart_at hC ?_ | wp_step))
  refine ⟨rfl, ?_⟩
  refine codeAny_call_builtin_at (Code.quiet_builtin _ (by decide +kernel)) entry_typeCall (wpAny_check_type_call_sub hC (type_callK F hT hC hi hb ?_))
  refine codeAny_mono hq fun r s' z => ?_
  rcases r with e | (v | _ | _ | _) <;> exact z
end
section
open L2
variable {X : Cx} {kws : List Keyword} {tk : TA} {p pos : Pos} {g : List Value → List Value → List Value} {gV : List V → List V → List V} {ks : List Str}
/-- C(k = v, ..) of an own error class: laid bare, then its __init__ -/
def tMkK (C : Addr) (m : Nat) (sp : Sp) (gV : List V → List V → List V) (tk : TA) : L2.St → Hp → XK → Prop := fun σ H Q => tk σ H fun zs H1 => zs.length = m ∧ ∀ a, H1 a = none → sp (gV [.ref a] zs) (upd H1 a (exo a C none))
  (fun v H2 => v = .non ∧ ∃ (d : Addr) (fs : List (Str × V)), H2 a = some (exo a C (some d)) ∧ H2 d = some (exd d fs) ∧ H1 d = none ∧ Q (.ref C) (some d) (upd (del H2 a) d (.xd fs))) (fun _ _ _ => False)
theorem pmk_oexK {CX : CXT} {x : Str} {C fI : Addr} {k : Nat} {fd : FuncData} {ps : List Str} {sp : Sp} (T : OexC X.K C) (iC : PySem.W.findIn X.K (.ref C) "__init__" = some (some (.ref fI))) (tI : PySem.W.typeIn X.K (.ref fI) = some (.type "function"))
    (F1 : FnOk X.prog X.w X.K X.mg X.base CX k fI fd ps sp) (hr : Room (k + 1) X.A) (hb : KBn X.K fd ps 1 ks g gV) (hx : Passes CX X (fun _ _ _ => False)) (hm : X.mg x = some (.ref C)) (hkw : PK X kws tk) (hg : Gl X x := by rfl)
    (hall : (backToKw pos (keywordEach kws X.env)).all (·.1.isSome) = true := by rfl) (hks : (backToKw pos (keywordEach kws X.env)).filterMap (·.1) = ks := by rfl) (hdb : (x == ("__debug__" : Str)) = false := by decide)
    (hpl : ((backTo pos (starEach [] X.env)).any (·.1) || (backToKw pos (keywordEach kws X.env)).any (·.1.isNone)) = false := by rfl) :
    PMk X (.Call (.Name x p) [] kws pos) (tMkK C ks.length sp gV tk) := by
  intro pins s σ H Q I h
  obtain ⟨nm, q, N, bs, bm, sn, sub, ab, col, dd, k0, k1, k2, k3, k5, hC, hbm⟩ := T.cls
  refine wpAny_Call_Name_kw (ld_glob I hg hm ?_ hdb)
  refine PySem.W.callWith_KW0 (h₀ := X.base) I.ok.mod.kin T.kC hall ?_ hpl
  refine thn (hkw.run pos pins s σ H _ I h) fun ws s1 ⟨zs, H1, I1, rz, q1⟩ => ⟨I1.kIn, ?_⟩
  rw [hks]
  show wpAny _ _ (call (.ref C) [] (ks.zip ws)) _ _ _
  obtain ⟨hp, gg, dr, tok, os⟩ := s1
  have z1 : hp.objs.size ≤ hp.objs.size + 1 := Nat.le_succ _
  have hq := q1.2 (hp.objs.size + 1) (I1.hok.fresh z1)
  have kk : ∀ b o, hp.get? b = some o → ((hp.push (PySem.W.kdv_tup [])).push (PySem.HandSPX.excO C hp.objs.size)).get? b = some o := fun b o e => Heap.get?_push_of_some _ (Heap.get?_push_of_some _ e)
  have hget : ((hp.push (PySem.W.kdv_tup [])).push (PySem.HandSPX.excO C hp.objs.size)).get? (hp.objs.size + 1) = some (PySem.HandSPX.excO C hp.objs.size) := by heap_get
  have I2 : Inv X pins σ (upd H1 (hp.objs.size + 1) (exo (hp.objs.size + 1) C none)) ⟨(hp.push (PySem.W.kdv_tup [])).push (PySem.HandSPX.excO C hp.objs.size), gg, dr, tok, os⟩ :=
    I1.laid (t' := tok) (a := hp.objs.size + 1) (o := exo (hp.objs.size + 1) C none) (h' := (hp.push (PySem.W.kdv_tup [])).push (PySem.HandSPX.excO C hp.objs.size)) kk z1 (exo_ok hget)
  have r2 := hb.rel (vs := [V.ref (hp.objs.size + 1)]) (us := [Value.ref (hp.objs.size + 1)]) (.cons rfl .nil) rz
  refine wpAny_call (call_ownK F.excBase_ValueError (fun Y => PySem.HandSPX.refsVE_contains Y bm hbm) (I1.kIn _ _ hC) (PySem.W.looks_findIn I1.kIn iC) (fun self => PySem.W.bind_fn I1.kIn self tI)
    (codeAny_mono (F1.run _ X.stack _ _ ⟨[Value.ref (hp.objs.size + 1)], ks.zip ws⟩ (g [Value.ref (hp.objs.size + 1)] ws) _ _ (fun _ _ _ => False) (hr.make C [] (ks.zip ws)) (I2.env0.make C [] (ks.zip ws))
      (hb.to _ [Value.ref (hp.objs.size + 1)] ws I2.kIn rfl (rz.length.symm.trans q1.1)) r2 hq) fun r s' hq' => ?_))
  cases r with
  | error er => exact hx pins σ _ _ er s' I2 hq'
  | ok fl =>
    cases fl with
    | ret u =>
      obtain ⟨v, H2, os2, bare2, un2, hok2, rv, ev, d, fs, ea, ed, hd1, q2⟩ := hq'
      subst ev
      obtain ⟨h2, g2, d2, t2, os'⟩ := s'
      exact ⟨rv, mk_end (raises_own T.exC T.tyC) I1 z1 kk un2 hok2 os2 bare2 ea ed hd1 q2⟩
    | next => exact False.elim hq'
    | brk => exact False.elim hq'
    | cont => exact False.elim hq'
end
end Fm

/-! ## FmRaise -/
set_option Elab.async false
set_option maxRecDepth 100000
set_option maxHeartbeats 4000000
/-! Raising own errors: by position, by keyword, without arguments; a def that raises, called within a try. -/
namespace Fm
open PySem PySem.Spec PyProof.Rows L2
/-- __init__(self, v) of an own error: self.f = v -/
def spIn (K : PySem.W.Frag) (f : Str) : Sp := fun vs H Q _ => ∃ (a C : Addr) (v : V), vs = [.ref a, v] ∧ OexC K C ∧ H a = some (exo a C none) ∧ PySem.W.findIn K (.ref C) f = some none ∧ ∀ dx, H dx = none → dx ≠ a → Q .non (upd (upd H dx (exd dx [(f, v)])) a (exo a C (some dx)))
structure Xf (P : Program) (w : World) (K : PySem.W.Frag) (mg : Str → Option Value) (base : Heap) (x : Str) (C : Addr) (f : Str) : Prop where
  ex : ∃ (fI : Addr) (fd : FuncData), OexC K C ∧ PySem.W.findIn K (.ref C) "__init__" = some (some (.ref fI)) ∧ PySem.W.typeIn K (.ref fI) = some (.type "function") ∧ FnOk P w K mg base CX0 1 fI fd ["self", f] (spIn K f) ∧ mg x = some (.ref C) ∧ Binds K fd ["self", f] [] ∧
    KBn K fd ["self", f] 1 [f] (fun us ws => us ++ ws) (fun vs zs => vs ++ zs) ∧ PySem.W.findIn K (.ref C) f = some none
structure X0 (K : PySem.W.Frag) (mg : Str → Option Value) (x : Str) (C : Addr) : Prop where
  ex : ∃ (bmB : List Value) (B newId initId : String), ExcBaseFacts B newId initId bmB ∧ PySem.W.excIn K C bmB newId = true ∧ mg x = some (.ref C) ∧ PySem.W.keepIn K (.ref C) = true ∧ PySem.W.subIn K (.ref C) (.type "BaseException") = some true ∧ PySem.W.typeIn K (.ref C) = some (.type "type")
def tRE (C : Addr) (f : Str) (i : Nat) (W : WX) : TS := fun _ σ H => ∃ v, σ[i]? = some (some v) ∧ ∀ d, H d = none → W (.ref C) (some d) σ (upd H d (.xd [(f, v)]))
theorem del_upd {H : Hp} {a d : Addr} {o1 o2 o3 o4 : HO} (ha : H a = none) (ne : d ≠ a) : upd (del (upd (upd (upd H a o1) d o2) a o3) a) d o4 = upd H d o4 := funext fun b => by
  by_cases q : b = d
  · rw [q, upd_same, upd_same]
  · rw [upd_ne q, upd_ne q]
    by_cases z : b = a
    · rw [z, del_same, ha]
    · rw [del_ne z, upd_ne z, upd_ne q, upd_ne z]
section
variable {X : Cx} {W : WX} {x f : Str} {C : Addr} {i : Nat} {e : Expr} {p pos pos' kpos : Pos}
theorem init_read {K : PySem.W.Frag} {H : Hp} {a : Addr} {v : V} {Q : XK} {E : XK} (T : OexC K C) (hno : PySem.W.findIn K (.ref C) f = some none) (ha : H a = none) (k : ∀ d, H d = none → Q (.ref C) (some d) (upd H d (.xd [(f, v)]))) :
    spIn K f [.ref a, v] (upd H a (exo a C none)) (fun z H2 => z = .non ∧ ∃ (d : Addr) (fs : List (Str × V)), H2 a = some (exo a C (some d)) ∧ H2 d = some (exd d fs) ∧ H d = none ∧ Q (.ref C) (some d) (upd (del H2 a) d (.xd fs))) E :=
  ⟨a, C, v, rfl, T, upd_same, hno, fun dx hdx ne => ⟨rfl, dx, [(f, v)], upd_same, by rw [upd_ne ne, upd_same], by rw [upd_ne ne] at hdx; exact hdx, by rw [del_upd ha ne]; exact k dx (by rw [upd_ne ne] at hdx; exact hdx)⟩⟩
theorem ps_rE (B : Xf X.prog X.w X.K X.mg X.base x C f) (hr : Room 2 X.A) (tk : Takes X W) (he : PE X e (tVar i)) (hc : X.calm = true := by rfl) (hg : Gl X x := by rfl) (hdb : (x == ("__debug__" : Str)) = false := by decide)
    (hst : starEach [e] X.env = (false, eval e X.env) :: starEach [] X.env := by rfl) (hpl : (backTo pos (starEach [] X.env)).any (·.1) = false := by rfl) : PS X (.Raise (some (.Call (.Name x p) [e] [] pos)) none pos') (tRE C f i W) := by
  obtain ⟨fI, fd, T, iC, tI, F1, hm, hb, _, hno⟩ := B.ex
  refine ⟨fun pins s σ H D I h => ?_⟩
  obtain ⟨v, hv, k⟩ := h
  exact (ps_raise hc tk (pmk_oex T iC tI F1 hr hb .nil pass0 hg hm (pa_cons he pa_nil (hs := hst)) hdb hst hpl)).run pins s σ H D I ⟨v, hv, (by show 1 ≤ 1000; decide), fun a ha => init_read (v := v) (Q := fun cls d H' => W cls d σ H') T hno ha k⟩
theorem ps_rK (B : Xf X.prog X.w X.K X.mg X.base x C f) (hr : Room 2 X.A) (tk : Takes X W) (he : PE X e (tVar i)) (hc : X.calm = true := by rfl) (hg : Gl X x := by rfl) (hdb : (x == ("__debug__" : Str)) = false := by decide)
    (hall : (backToKw pos (keywordEach [⟨some f, e, kpos⟩] X.env)).all (·.1.isSome) = true := by rfl) (hks : (backToKw pos (keywordEach [⟨some f, e, kpos⟩] X.env)).filterMap (·.1) = [f] := by rfl)
    (hpl : ((backTo pos (starEach [] X.env)).any (·.1) || (backToKw pos (keywordEach [⟨some f, e, kpos⟩] X.env)).any (·.1.isNone)) = false := by rfl) : PS X (.Raise (some (.Call (.Name x p) [] [⟨some f, e, kpos⟩] pos)) none pos') (tRE C f i W) := by
  obtain ⟨fI, fd, T, iC, tI, F1, hm, _, hb, hno⟩ := B.ex
  refine ⟨fun pins s σ H D I h => ?_⟩
  obtain ⟨v, hv, k⟩ := h
  exact (ps_raise hc tk (pmk_oexK T iC tI F1 hr hb pass0 hm (pk_cons he pk_nil) hg hall hks hdb hpl)).run pins s σ H D I ⟨v, hv, rfl, fun a ha => init_read (v := v) (Q := fun cls d H' => W cls d σ H') T hno ha k⟩
theorem ps_r0 (B : X0 X.K X.mg x C) (tk : Takes X W) (hc : X.calm = true := by rfl) (hg : Gl X x := by rfl) (hdb : (x == ("__debug__" : Str)) = false := by decide) : PS X (.Raise (some (.Call (.Name x p) [] [] pos)) none pos') (fun _ σ H => W (.ref C) none σ H) := by
  obtain ⟨bmB, N, newId, initId, F, q, gC, kC, e1, e2⟩ := B.ex
  exact ps_raise hc tk (pmk_own0 F q gC kC (raises_own e1 e2) hg hdb)
/-- a def that may raise -/
structure DfX (P : Program) (w : World) (K : PySem.W.Frag) (mg : Str → Option Value) (base : Heap) (x : Str) (k : Nat) (ps : List Str) (sp : Sp) : Prop where
  ex : ∃ (f : Addr) (fd : FuncData), FnOk P w K mg base (L2.CX P w) k f fd ps sp ∧ mg x = some (.ref f) ∧ PySem.W.keepIn K (.ref f) = true ∧ Binds K fd ps []
theorem pe_dX {pn : List (Addr × Obj)} {xe : Value → Shared → Prop} {es : List Expr} {t : TA} {k : Nat} {ps : List Str} {sp : Sp} (D : DfX X.prog X.w X.K X.mg X.base x k ps sp) (hr : Room k X.A) (tk : Takes (X.tr pn xe) W) (ha : PA (X.tr pn xe) (e :: es) t) (hg : Gl X x := by rfl) (hdb : (x == ("__debug__" : Str)) = false := by decide)
    (he : starEach (e :: es) X.env = (false, eval e X.env) :: starEach es X.env := by rfl) (hpl : (backTo pos (starEach es X.env)).any (·.1) = false := by rfl) : PE (X.tr pn xe) (.Call (.Name x p) (e :: es) [] pos) (tCallS sp (WE W) t) := by
  obtain ⟨f, fd, F, hm, hk, hb⟩ := D.ex
  exact pe_callS F hr hg hm hk hb (fun σ => passAt tk σ) ha hdb he hpl
end
section
variable {X : Cx} {K : PySem.W.Frag}
/-! ### readings that name the part alone -/
theorem peK {e : Expr} {T : String} {r : V → List V → Hp → VK → Prop} {to : TE} {t : TA} (h : PE X e (tBM X.K T r to t)) (hK : X.K = K := by rfl) : PE X e (tBM K T r to t) := by
  subst hK
  exact h
theorem opK_in (hK : X.K = K := by rfl) : OpR X (compareOp .In) (rIn K false) := by
  subst hK
  exact op_in_seq
theorem call_isK {a : Addr} {cls : Value} {d : Option Addr} {oe : Obj} {pn : List (Addr × Obj)} (hz : Zc cls d oe) (hf : ∃ vs, oe.data = .fields vs) (hK : X.K = K := by rfl) : CallR (X.suite a ((a, oe) :: pn)) (.builtin "isinstance") (rIsF K a cls d) := by
  subst hK
  exact call_isF hz hf
theorem pe_xk {a : Addr} {oe : Obj} {cls : Value} {d : Option Addr} {pn : List (Addr × Obj)} {e : Expr} {te : TE} {pos : Pos} {n : Str} (hz : Zc cls d oe) (hf : ∃ vs, oe.data = .fields vs) (he : PE (X.suite a ((a, oe) :: pn)) e te)
    (hb : attributeBase e n X.env (eval e X.env) = eval e X.env := by rfl) (hK : X.K = K := by rfl) : PE (X.suite a ((a, oe) :: pn)) (.Attribute e n pos) (tXg K a cls d n te) := by
  subst hK
  exact pe_xg hz hf he hb
end
end Fm

/-! ## FmCall -/
set_option Elab.async false
set_option maxRecDepth 100000
set_option maxHeartbeats 4000000
/-! Calls of what may raise: a def, a method, a class by its __init__; the way out is told of the slots of the caller. -/
namespace Fm
open PySem PySem.Spec PyProof.Rows L2
structure DmX (P : Program) (w : World) (K : PySem.W.Frag) (mg : Str → Option Value) (base : Heap) (C : Addr) (m : Str) (k : Nat) (ps : List Str) (sp : Sp) : Prop where
  ex : ∃ (f : Addr) (fd : FuncData), FnOk P w K mg base (L2.CX P w) k f fd ps sp ∧ Meth K C m f ∧ Binds K fd ps []
structure DcX (P : Program) (w : World) (K : PySem.W.Frag) (mg : Str → Option Value) (base : Heap) (x : Str) (C : Addr) (k : Nat) (ps : List Str) (sp : Sp) : Prop where
  ex : ∃ (f : Addr) (fd : FuncData), FnOk P w K mg base (L2.CX P w) k f fd ps sp ∧ mg x = some (.ref C) ∧ Mk K C f ∧ Binds K fd ps []
def tMethX (C : Addr) (m : Str) (sp : Sp) (W : WX) (ta : TE) (t : TA) : TE := fun σ H Q => ta σ H fun x H1 => ∃ a dx fs, x = .ref a ∧ H1 a = some (.ins C dx fs) ∧ fs.lookup m = none ∧ t σ H1 fun vs H2 => sp (.ref a :: vs) H2 Q (WE W σ)
def tMakeX (C : Addr) (sp : Sp) (W : WX) (t : TA) : TE := fun σ H Q => t σ H fun vs H1 => ∀ x dx, H1 x = none → H1 dx = none → dx ≠ x → sp (.ref x :: vs) (upd (upd H1 dx (.own x)) x (.ins C dx [])) (fun v H2 => v = .non ∧ Q (.ref x) H2) (WE W σ)
section
variable {X : Cx} {k : Nat} {ps : List Str} {sp : Sp} {x m : Str} {e o : Expr} {es : List Expr} {t : TA} {to : TE} {C f : Addr} {fd : FuncData} {p apos pos : Pos} {W : WX}
theorem pe_dE (D : DfX X.prog X.w X.K X.mg X.base x k ps sp) (hr : Room k X.A) (tk : Takes X W) (ha : PA X (e :: es) t) (hg : Gl X x := by rfl) (hdb : (x == ("__debug__" : Str)) = false := by decide)
    (he : starEach (e :: es) X.env = (false, eval e X.env) :: starEach es X.env := by rfl) (hpl : (backTo pos (starEach es X.env)).any (·.1) = false := by rfl) : PE X (.Call (.Name x p) (e :: es) [] pos) (tCallS sp (WE W) t) := by
  obtain ⟨f, fd, F, hm, hk, hb⟩ := D.ex
  exact pe_callS F hr hg hm hk hb (fun σ => passAt tk σ) ha hdb he hpl
theorem pe_dmE {pl : Sem Bool} (he : PE X o to) (c : Cls X.K C) (D : DmX X.prog X.w X.K X.mg X.base C m k ps sp) (hr : Room k X.A) (tk : Takes X W) (ha : PA X (e :: es) t)
    (hst : starEach (e :: es) X.env = (false, eval e X.env) :: starEach es X.env := by rfl) (hpl : (backTo pos (starEach es X.env)).any (·.1) = false := by rfl)
    (ht : eval (.Call (.Attribute o m apos) (e :: es) [] pos) X.env = (do
      let ov ← eval o X.env
      standAt apos.atName
      let (f, first) ← holding [ov] (getMethod ov m pl)
      callWith pos f first (backTo pos (starEach (e :: es) X.env)) (backToKw pos (keywordEach [] X.env))) := by rfl) : PE X (.Call (.Attribute o m apos) (e :: es) [] pos) (tMethX C m sp W to t) := by
  obtain ⟨f, fd, F, hm, hb⟩ := D.ex
  refine ⟨fun pins s σ H Q I h => ?_⟩
  refine PySem.W.methodCall_KW (pl := pl) (thn (he.run pins s σ H _ I h) fun u s1 ⟨x, H1, I1, rx, a, dx, fs, ex, ea, l, q⟩ => ?_) ht
  subst ex
  cases (show u = Value.ref a from rx)
  refine getmeth_ok I1 ea c hm l (PySem.W.callWith_K (first := [.ref a]) (h₀ := X.base) I.ok.mod.kin hm.kp (thn (ha.run pos pins s1 σ H1 _ I1 q) fun us s2 ⟨vs, H2, I2, r, q2⟩ => ⟨I2.kIn, ?_⟩) hst hpl)
  exact run_fnS (E := WE W) (us := .ref a :: us) (vs := .ref a :: vs) F hr hb (passAt tk σ) I2 (.cons rfl r) q2
theorem pe_dcE (D : DcX X.prog X.w X.K X.mg X.base x C k ps sp) (hr : Room (k + 1) X.A) (tk : Takes X W) (ha : PA X (e :: es) t) (hg : Gl X x := by rfl) (hdb : (x == ("__debug__" : Str)) = false := by decide)
    (he : starEach (e :: es) X.env = (false, eval e X.env) :: starEach es X.env := by rfl) (hpl : (backTo pos (starEach es X.env)).any (·.1) = false := by rfl) : PE X (.Call (.Name x p) (e :: es) [] pos) (tMakeX C sp W t) := by
  obtain ⟨f, fd, F, hm, M, hb⟩ := D.ex
  refine ⟨fun pins s0 σ H0 Q I0 h0 => ?_⟩
  refine wpAny_Call_Name_kw (ld_glob I0 hg hm ?_ hdb)
  refine PySem.W.callWith_K (h₀ := X.base) I0.ok.mod.kin M.kp (thn (ha.run pos pins s0 σ H0 _ I0 h0) fun us s ⟨vs, H, I, r, h⟩ => ⟨I.kIn, ?_⟩) he hpl
  show wpAny _ _ (call (.ref C) us) _ _ _
  have hq := h (s.heap.objs.size + 1) s.heap.objs.size (I.hok.fresh (Nat.le_succ _)) (I.hok.fresh (Nat.le_refl _)) (Nat.ne_of_lt (Nat.lt_succ_self _))
  have I2 := Inv.made (C := C) I
  have r2 : Vals (V.ref (s.heap.objs.size + 1) :: vs) (Value.ref (s.heap.objs.size + 1) :: us) := .cons rfl r
  have hl : (Value.ref (s.heap.objs.size + 1) :: us).length = ps.length := by
    have e := r2.length
    rw [F.len _ _ _ _ hq] at e
    exact e.symm
  have b := hb _ (Value.ref (s.heap.objs.size + 1) :: us) I2.kIn (by rw [List.append_nil]; exact hl)
  rw [List.append_nil] at b
  refine wpAny_call (make_map (f := f) I.kIn M.makes M.init (beq_iff_eq.mp M.fn) (codeAny_mono (F.run _ X.stack _ _ ⟨Value.ref (s.heap.objs.size + 1) :: us, []⟩ (Value.ref (s.heap.objs.size + 1) :: us) _ _ (WE W σ) (hr.make C us []) (I2.env0.make C us []) b r2 hq) fun r s' hq' => ?_))
  cases r with
  | error e => exact passAt tk σ pins _ _ e s' I2 hq'
  | ok fl =>
    cases fl with
    | ret u =>
      obtain ⟨v, H', I3, rv, ev, q3⟩ := I2.after hq'
      subst ev
      exact ⟨rv, ⟨V.ref (s.heap.objs.size + 1), H', I3, rfl, q3⟩⟩
    | next => exact False.elim hq'
    | brk => exact False.elim hq'
    | cont => exact False.elim hq'
end
section
variable {X : Cx} {W : WX} {x f : Str} {C : Addr} {e : Expr} {te : TE} {p pos pos' : Pos}
theorem Xf.oex {P : Program} {w : World} {K : PySem.W.Frag} {mg : Str → Option Value} {base : Heap} (B : Xf P w K mg base x C f) : OexC K C ∧ PySem.W.findIn K (.ref C) f = some none := by
  obtain ⟨_, _, T, _, _, _, _, _, _, hno⟩ := B.ex
  exact ⟨T, hno⟩
/-- raise X(e) -/
theorem ps_rG (B : Xf X.prog X.w X.K X.mg X.base x C f) (hr : Room 2 X.A) (tk : Takes X W) (he : PE X e te) (hc : X.calm = true := by rfl) (hg : Gl X x := by rfl) (hdb : (x == ("__debug__" : Str)) = false := by decide)
    (hst : starEach [e] X.env = (false, eval e X.env) :: starEach [] X.env := by rfl) (hpl : (backTo pos (starEach [] X.env)).any (·.1) = false := by rfl) :
    PS X (.Raise (some (.Call (.Name x p) [e] [] pos)) none pos') (fun _ σ H => tMkO C (spIn X.K f) [] (tCons te tNil) σ H fun cls d H' => W cls d σ H') := by
  obtain ⟨fI, fd, T, iC, tI, F1, hm, hb, _, hno⟩ := B.ex
  exact ps_raise hc tk (pmk_oex T iC tI F1 hr hb .nil pass0 hg hm (pa_cons he pa_nil (hs := hst)) hdb hst hpl)
end
theorem pe_fldK {X : Cx} {K : PySem.W.Frag} {e : Expr} {ta : TE} {f : Str} {pos : Pos} (he : PE X e ta) (hb : attributeBase e f X.env (eval e X.env) = eval e X.env := by rfl) (hK : X.K = K := by rfl) : PE X (.Attribute e f pos) (tFld K ta f) := by
  subst hK
  exact pe_fld he hb
end Fm

/-! ## K04A -/
set_option Elab.async false
set_option maxRecDepth 100000
set_option maxHeartbeats 4000000
namespace Fm
open PySem L2
def topS (i : Nat) : Stmt := PySem.Challenge.pw_firstmet_k04_stores_kept.main.body.getD i (.Pass ⟨0, 0, 0, 0⟩)
/-- what the top has left of names -/
structure Txt (K : PySem.W.Frag) (mg : Str → Option Value) (CS : Addr) : Prop where
  n_len : mg "len" = none
  n_list : mg "list" = none
  n_tuple : mg "tuple" = none
  n_isinstance : mg "isinstance" = none
  n_str : mg "str" = none
  n_dict : mg "dict" = none
  n_bool : mg "bool" = none
  n_int : mg "int" = none
  n_max : mg "max" = none
  n_all : mg "all" = none
  n_set : mg "set" = none
  n_range : mg "range" = none
  n_enumerate : mg "enumerate" = none
  n_min : mg "min" = none
  n_sum : mg "sum" = none
  g_LETTERS : ∃ t, mg "LETTERS" = some (.str "abcdefghijklmnopqrstuvwxyz" t)
  g_LONGEST_NAME : ∃ t, mg "LONGEST_NAME" = some (.int 8 t)
  g_MOST_TABLES : ∃ t, mg "MOST_TABLES" = some (.int 5 t)
  g_MOST_FIELDS : ∃ t, mg "MOST_FIELDS" = some (.int 4 t)
  g_LARGEST_VALUE : ∃ t, mg "LARGEST_VALUE" = some (.int 1000000000 t)
  g_MOST_ROWS : ∃ t, mg "MOST_ROWS" = some (.int 300 t)
  g_Shape : mg "Shape" = some (.ref CS)
  cl : Cls K CS
  nT : NoAttr K CS "tables"
  c_cls : PySem.W.findIn K (.ref CS) "__class__" = some (some (.builtin "object.__class__"))
  c_get : PySem.W.specialIn K (.builtin "object.__class__") "__get__" = some (some (.builtin "getset_descriptor.__get__"))
  c_tak : PySem.W.takesIn K (.builtin "object.__class__") = some true
  c_mro : PySem.W.mroIn K CS (.type "object") = some true
  c_ne : PySem.W.findIn K (.ref CS) "__ne__" = some (some (.builtin "object.__ne__"))
  c_isi : ∀ n ∈ ["NoneType", "bool", "int", "str", "list", "tuple", "dict"], PySem.W.kitOne K (.type n) (.ref CS) = some false
  c_nf : ∀ n ∈ ["NoneType", "bool", "int", "str", "list", "tuple", "dict"], PySem.W.notFirst K CS (.type n) = true
section
variable {P : Program} {w : World} {K : PySem.W.Frag} {mg : Str → Option Value} {base : Heap} {CS : Addr}
abbrev s_l_pick : Stmt := topS 31
abbrev sc_l_pickN : List Str := ["_law_bag_here", "_law_many", "_law_cell", "_law_found", "_law_one"]
abbrev ps_l_pick : List Str := ["_law_bag_here", "_law_many"]
theorem sc_l_pick : FnScope sc_l_pickN ps_l_pick (defScope s_l_pick) := ⟨rfl, rfl, rfl, by decide +kernel, rfl, by decide +kernel, by decide +kernel⟩
theorem ok_l_pick {f : Addr} {fd : FuncData} (F : Fun K "_law_pick" "_law_pick" s_l_pick f fd) (T : Txt K mg CS) : FnOk P w K mg base CX0 1 f fd ps_l_pick spPick := by
  refine F.ok sc_l_pick (fun vs H Q E h => ?_) (fun cdv A outer s H vs Q E hr h => ?_)
  · obtain ⟨_, _, _, rfl, _⟩ := h
    rfl
  · obtain ⟨F0, b, m, rfl, m0, m1, ⟨hs, hfb, cl, ns, p, g, z, c, hh, hcl0, hcb, hcl, hb, p0, g0, z0, z1⟩, k⟩ := h
    have fin : ∀ (r p' g' z' c' h' : Int) (H' : Hp), 0 ≤ r → r < m → 0 ≤ p' → 0 ≤ g' → 0 ≤ z' → z' < 2147483647 → (∀ a, a ≠ b → H' a = H a) → H' b = some (.lst [.ref cl, .int p', .int g', .int z', .int c', .int h']) → Q (.int r) H' :=
      fun r p' g' z' c' h' H' r0 r1 q0 q1 q2 q3 ho hb' => k r H' r0 r1 ⟨fun a o e => by
        have n : a ≠ b := fun q => by rw [q, hfb] at e; cases e
        rw [ho a n]; exact hs a o e, hfb, cl, ns, p', g', z', c', h', hcl0, hcb, by rw [ho cl hcb]; exact hcl, hb', q0, q1, q2, q3⟩
    refine ⟨_, (pss_cons (ps_asg (pe_op op_add (pe_ix ix_list (pv 0) pe_int (fun _ _ => rfl)) pe_int) (pg_sub (pv 0) pe_int set_list))
  (Evl.pss_cut (ps_if (PW.pt (pw_and (pt_cmpR op_eq (pe_ix ix_list (pv 0) pe_int (fun _ _ => rfl)) pe_int (nomark _)) (pw_and (pt_cmpR op_eq (pe_ix ix_list (pv 0) pe_int (fun _ _ => rfl)) pe_int (nomark _)) (pw_and1 (pt_cmpR op_lt (pe_ix ix_list (pv 0) pe_int (fun _ _ => rfl)) (pe_callB call_len_seq (by rfl) T.n_len (by decide +kernel) (pa_cons (pe_ix ix_list (pv 0) pe_int (fun _ _ => rfl)) pa_nil)) (nomark _))))))
    (pss_cons (ps_set (i := 2) sc_l_pick.nd rfl (Or.inl rfl) (pe_ix ix_list (pe_ix ix_list (pv 0) pe_int (fun _ _ => rfl)) (pe_ix ix_list (pv 0) pe_int (fun _ _ => rfl)) (fun _ _ => rfl)))
    (pss_cons (ps_asg (pe_op op_add (pe_ix ix_list (pv 0) pe_int (fun _ _ => rfl)) pe_int) (pg_sub (pv 0) pe_int set_list))
    (pss_one (ps_if (pt_cmpR op_ge (pv 2) (pe_op op_pow pe_int pe_int) (nomark _))
      (pss_one (ps_asg (pv 2) (pg_sub (pv 0) pe_int set_list)))
      (pss_cons (ps_asg (pe_op op_modN (pe_callTy call_int1 (by rfl) T.n_int (by decide +kernel) (pa_cons (pe_op op_add (pe_op op_add (pe_op op_mul (pe_ix ix_list (pv 0) pe_int (fun _ _ => rfl)) pe_int) (pv 2)) pe_int) pa_nil)) pe_int) (pg_sub (pv 0) pe_int set_list))
      (pss_one (ps_asg pe_int (pg_sub (pv 0) pe_int set_list))))))))
    pss_nil)
  (pss_cons (ps_if (pt_cmpR op_gt (pe_ix ix_list (pv 0) pe_int (fun _ _ => rfl)) pe_int (nomark _))
    (pss_cons (ps_set (i := 3) sc_l_pick.nd rfl (Or.inl rfl) (pe_op op_modN (pe_callTy call_int1 (by rfl) T.n_int (by decide +kernel) (pa_cons (pe_ix ix_list (pv 0) pe_int (fun _ _ => rfl)) pa_nil)) (pv 1)))
    (pss_cons (ps_asg (pe_op op_fdivN (pe_ix ix_list (pv 0) pe_int (fun _ _ => rfl)) (pv 1)) (pg_sub (pv 0) pe_int set_list))
    (pss_one (ps_ret (pv 3)))))
    pss_nil)
  (pss_cons (ps_asg (pe_callB (call_max2 (by rfl)) (by rfl) T.n_max (by decide +kernel) (pa_cons pe_int (pa_cons (pe_op op_sub (pe_ix ix_list (pv 0) pe_int (fun _ _ => rfl)) pe_int) pa_nil))) (pg_sub (pv 0) pe_int set_list))
  (pss_cons (ps_set (i := 4) sc_l_pick.nd rfl (Or.inl rfl) (pe_op op_modN (pe_callTy call_int1 (by rfl) T.n_int (by decide +kernel) (pa_cons (pe_op op_mul (pe_op op_add (pe_op op_add (pe_ix ix_list (pv 0) pe_int (fun _ _ => rfl)) (pe_op op_mul pe_int (pe_ix ix_list (pv 0) pe_int (fun _ _ => rfl)))) pe_int) pe_int) pa_nil)) pe_int))
  (pss_cons (ps_set (i := 4) sc_l_pick.nd rfl (Or.inl rfl) (pe_op op_modN (pe_callTy call_int1 (by rfl) T.n_int (by decide +kernel) (pa_cons (pe_op op_mul (pv 4) (pe_op op_add (pe_op op_fdivN (pv 4) pe_int) pe_int)) pa_nil)) pe_int))
  (pss_cons (ps_set (i := 4) sc_l_pick.nd rfl (Or.inl rfl) (pe_op op_modN (pe_callTy call_int1 (by rfl) T.n_int (by decide +kernel) (pa_cons (pe_op op_mul (pv 4) (pe_op op_add (pe_op op_fdivN (pv 4) pe_int) pe_int)) pa_nil)) pe_int))
  (pss_one (ps_ret (pe_op op_modN (pe_callTy call_int1 (by rfl) T.n_int (by decide +kernel) (pa_cons (pe_op op_fdivN (pv 4) pe_int) pa_nil)) (pv 1))))))))))), ?_⟩
    have nzM : (2147483647 : Int) ≠ 0 := by decide
    have nzM2 : (2147483399 : Int) ≠ 0 := by decide
    -- one more asked
    refine ⟨_, rfl, b, _, _, _, rfl, rfl, .inl (.inl hb), rfl, _, _, rfl, rfl, _, rfl, b, _, _, _, rfl, rfl, hb, rfl, ?_⟩
    -- a new cell
    refine ⟨fun σ' H' => ∃ (p' g' z' h' : Int) (v : Option V), σ' = [some (.ref b), some (.int m), v, none, none] ∧ 0 ≤ p' ∧ 0 ≤ g' ∧ 0 ≤ z' ∧ z' < 2147483647 ∧ (∀ a, a ≠ b → H' a = H a) ∧
      H' b = some (.lst [.ref cl, .int p', .int g', .int z', .int (c + 1), .int h']), ?_, ?_⟩
    · have stay : ∀ a, a ≠ b → (upd H b (.lst [.ref cl, .int p, .int g, .int z, .int (c + 1), .int hh])) a = H a := fun a n => upd_ne n
      refine ⟨_, rfl, b, _, _, _, rfl, rfl, .inl (.inl upd_same), rfl, rfl, _, rfl, ifd (fun _ => ?_) fun _ => iteF ⟨p, g, z, hh, _, rfl, p0, g0, z0, z1, stay, upd_same⟩⟩
      refine ⟨_, rfl, b, _, _, _, rfl, rfl, .inl (.inl upd_same), rfl, rfl, _, rfl, ifd (fun _ => ?_) fun _ => iteF ⟨p, g, z, hh, _, rfl, p0, g0, z0, z1, stay, upd_same⟩⟩
      refine ⟨_, rfl, b, _, _, _, rfl, rfl, .inl (.inl upd_same), rfl, _, rfl, b, _, _, _, rfl, rfl, .inl (.inl upd_same), rfl, cl, _, rfl, .inl (.inl (.inl (by rw [upd_ne hcb]; exact hcl))), _, _, rfl, rfl, _, rfl, ifd (fun hlt => ?_) fun _ => ⟨p, g, z, hh, _, rfl, p0, g0, z0, z1, stay, upd_same⟩⟩
      rw [List.length_map] at hlt
      obtain ⟨n, rfl⟩ : ∃ n : Nat, p = (n : Int) := ⟨p.toNat, by omega⟩
      obtain ⟨u, hu⟩ : ∃ u, ns[n]? = some u := ⟨_, List.getElem?_eq_getElem (by omega)⟩
      refine ⟨_, rfl, b, _, _, _, rfl, rfl, .inl (.inl upd_same), rfl, _, rfl, b, _, _, _, rfl, rfl, .inl (.inl upd_same), rfl, cl, _, _, _, rfl, rfl, .inl (.inl (by rw [upd_ne hcb]; exact hcl)), atI_nat (by rw [List.getElem?_map, hu]; rfl), ?_⟩
      refine ⟨_, rfl, b, _, _, _, rfl, rfl, .inl (.inl upd_same), rfl, _, _, rfl, rfl, _, rfl, b, _, _, _, rfl, rfl, upd_same, rfl, ?_⟩
      refine ⟨_, rfl, _, _, rfl, rfl, ⟨by decide, by decide, by decide⟩, _, _, rfl, rfl, _, rfl, ifd (fun hge => ?_) fun _ => ?_⟩
      · refine ⟨_, rfl, _, rfl, b, _, _, _, rfl, rfl, upd_same, rfl, ?_⟩
        have hge' : (10 : Int) ^ 18 ≤ u := hge
        exact ⟨(n : Int) + 1, u, z, hh, _, rfl, by omega, by omega, z0, z1, fun a n => by rw [upd_ne n, upd_ne n, upd_ne n], upd_same⟩
      · refine ⟨_, rfl, b, _, _, _, rfl, rfl, .inl (.inl upd_same), rfl, _, _, rfl, rfl, .inl ⟨by omega, by omega⟩, _, rfl, _, _, rfl, rfl, _, _, rfl, rfl, .inl ⟨_, rfl, _, _, rfl, rfl, nzM, _, rfl, b, _, _, _, rfl, rfl, upd_same, rfl, ?_⟩⟩
        refine ⟨_, rfl, b, _, _, _, rfl, rfl, upd_same, rfl, ?_⟩
        exact ⟨(n : Int) + 1, g, _, 6, _, rfl, by omega, g0, fmod_lo (by decide), fmod_hi (by decide), fun a n => by rw [upd_ne n, upd_ne n, upd_ne n, upd_ne n], upd_same⟩
    · rintro σ' H' ⟨p', g', z', h', v, rfl, p0', g0', z0', z1', ho, hb'⟩
      refine ⟨_, rfl, b, _, _, _, rfl, rfl, .inl (.inl hb'), rfl, _, _, rfl, rfl, _, rfl, ifd (fun hg => ?_) fun _ => ?_⟩
      · refine ⟨_, rfl, b, _, _, _, rfl, rfl, .inl (.inl hb'), rfl, .inl ⟨_, rfl, _, rfl, _, _, rfl, rfl, Int.ne_of_gt m0, ?_⟩⟩
        refine ⟨_, rfl, b, _, _, _, rfl, rfl, .inl (.inl hb'), rfl, _, rfl, _, _, rfl, rfl, ⟨Int.ne_of_gt m0, by omega⟩, _, rfl, b, _, _, _, rfl, rfl, hb', rfl, ?_⟩
        refine ⟨_, rfl, ?_⟩
        exact fin _ p' _ z' _ h' _ (fmod_lo m0) (fmod_hi m0) p0' (fdiv_lo g0' m0) z0' z1' (fun a n => by rw [upd_ne n]; exact ho a n) upd_same
      · refine ⟨_, rfl, b, _, _, _, rfl, rfl, .inl (.inl hb'), rfl, _, _, rfl, rfl, _, _, rfl, _, rfl, b, _, _, _, rfl, rfl, hb', rfl, ?_⟩
        refine ⟨_, rfl, b, _, _, _, rfl, rfl, .inl (.inl upd_same), rfl, _, rfl, b, _, _, _, rfl, rfl, .inl (.inl upd_same), rfl, _, _, rfl, rfl, .inl ⟨by decide, by decide⟩, _, _, rfl, rfl, _, _, rfl, rfl, _, _, rfl, rfl, .inr ⟨by decide, by decide⟩, .inl ⟨_, rfl, _, _, rfl, rfl, nzM, ?_⟩⟩
        refine ⟨_, rfl, _, rfl, _, _, rfl, rfl, ⟨by decide, by decide⟩, _, _, rfl, rfl, _, _, rfl, rfl, .inl (fmod64 _ (by decide) (by decide)), .inl ⟨_, rfl, _, _, rfl, rfl, nzM, ?_⟩⟩
        refine ⟨_, rfl, _, rfl, _, _, rfl, rfl, ⟨by decide, by decide⟩, _, _, rfl, rfl, _, _, rfl, rfl, .inl (fmod64 _ (by decide) (by decide)), .inl ⟨_, rfl, _, _, rfl, rfl, nzM2, ?_⟩⟩
        refine ⟨_, rfl, _, _, rfl, rfl, ⟨by decide, by decide⟩, .inl ⟨_, rfl, _, rfl, _, _, rfl, rfl, Int.ne_of_gt m0, ?_⟩⟩
        exact fin _ p' g' z' _ _ _ (fmod_lo m0) (fmod_hi m0) p0' g0' z0' z1' (fun a n => by rw [upd_ne n]; exact ho a n) upd_same
end
end Fm

/-! ## K04B -/
set_option Elab.async false
set_option maxRecDepth 100000
set_option maxHeartbeats 4000000
namespace Fm
open PySem L2
/-- a list or a tuple that stands at a -/
def Sq (K : PySem.W.Frag) (H : Hp) (a : Addr) (xs : List V) : Prop := SqL K H a xs ∨ SqT K H a xs
theorem Sq.same {K : PySem.W.Frag} {H H' : Hp} {a : Addr} {xs : List V} (h : Sq K H a xs) (e : Same H H') : Sq K H' a xs := h.elim (fun h => .inl (e.seq h)) fun h => .inr (same_sqT e h)
theorem seq_ty {K : PySem.W.Frag} {H : Hp} {a : Addr} {xs : List V} (h : Sq K H a xs) : ∃ n, TyX K H (.ref a) (.type n) ∧ PySem.W.kitAny K (.type n) [.type "list", .type "tuple"] = some true ∧ PySem.W.kitOne K (.type n) (.type "str") = some false := by
  have yes : PySem.W.kitAny K (.type "list") [.type "list", .type "tuple"] = some true := kitAny_cons (b := true) (kit_ty (by decide +kernel)) (fun z => nomatch z) fun _ => rfl
  have no : PySem.W.kitAny K (.type "tuple") [.type "list", .type "tuple"] = some true := kitAny_cons (b := false) (kit_ty (by decide +kernel)) (fun _ => kitAny_cons (b := true) (kit_ty (by decide +kernel)) (fun z => nomatch z) fun _ => rfl) fun z => nomatch z
  have k1 : PySem.W.kitOne K (.type "list") (.type "str") = some false := kit_ty (by decide +kernel)
  have k2 : PySem.W.kitOne K (.type "tuple") (.type "str") = some false := kit_ty (by decide +kernel)
  rcases h with ((h | ⟨o, h⟩) | ⟨o, its, n, h, hc, _⟩) | ((h | ⟨o, h⟩) | ⟨o, its, n, h, hc, _⟩)
  · exact ⟨_, .base (.lst h), yes, k1⟩
  · exact ⟨_, .base (.frz h), yes, k1⟩
  · exact ⟨_, .kList h hc, yes, k1⟩
  · exact ⟨_, .base (.tup h), no, k2⟩
  · exact ⟨_, .fTuple h, no, k2⟩
  · exact ⟨_, .kTuple h hc, no, k2⟩
theorem tup_ty {K : PySem.W.Frag} {H : Hp} {a : Addr} {xs : List V} (h : SqT K H a xs) : ∃ n, TyX K H (.ref a) (.type n) ∧ PySem.W.kitOne K (.type n) (.type "tuple") = some true := by
  have k : PySem.W.kitOne K (.type "tuple") (.type "tuple") = some true := kit_ty (by decide +kernel)
  rcases h with (h | ⟨o, h⟩) | ⟨o, its, n, h, hc, _⟩
  · exact ⟨_, .base (.tup h), k⟩
  · exact ⟨_, .fTuple h, k⟩
  · exact ⟨_, .kTuple h hc, k⟩
theorem clsLT : Paired ClsV [V.ty "list", V.ty "tuple"] [Value.type "list", Value.type "tuple"] := .cons (.ty _) (.cons (.ty _) .nil)
section
variable {P : Program} {w : World} {K : PySem.W.Frag} {mg : Str → Option Value} {base : Heap} {CS : Addr}
def spIsName (K : PySem.W.Frag) : Sp := fun vs H Q _ => ∃ (v : V) (r : Bool), vs = [v] ∧ ((∃ s : Str, v = .str s ∧ s.length ≤ 100000 ∧ r = isNm s) ∨ ∃ n, TyX K H v (.type n) ∧ kitB n "str" = some false ∧ r = false) ∧ ∀ H', Same H H' → Q (.bl r) H'
abbrev s_is_name : Stmt := topS 6
abbrev sc_is_nameN : List Str := ["thing", "sign"]
abbrev ps_is_name : List Str := ["thing"]
theorem sc_is_name : FnScope sc_is_nameN ps_is_name (defScope s_is_name) := ⟨rfl, rfl, rfl, by decide +kernel, rfl, by decide +kernel, by decide +kernel⟩
theorem ok_is_name {f : Addr} {fd : FuncData} (F : Fun K "is_name" "is_name" s_is_name f fd) (T : Txt K mg CS) : FnOk P w K mg base CX0 1 f fd ps_is_name (spIsName K) := by
  refine F.ok sc_is_name (fun vs H Q E h => ?_) (fun cdv A outer s H vs Q E hr h => ?_)
  · obtain ⟨_, _, rfl, _⟩ := h
    rfl
  · obtain ⟨v, r, rfl, h, k⟩ := h
    refine ⟨_, (pss_cons (ps_if (PW.pt (pw_or (pt_not (pt_val (pe_callB call_isi (by rfl) T.n_isinstance (by decide +kernel) (pa_cons (pv 0) (pa_cons (pe_bltn (v := .ty "str") (by rfl) T.n_str (by decide +kernel) rfl) pa_nil))))) (pw_or1 (pt_not (pt_chain op_le op_le pe_int (pe_callB call_len_str (by rfl) T.n_len (by decide +kernel) (pa_cons (pv 0) pa_nil)) (pe_gI T.g_LONGEST_NAME))))))
    (pss_one (ps_ret pe_bl))
    pss_nil)
  (pss_one (ps_ret (pe_callB (cr_all (by rfl)) (by rfl) T.n_all (by decide +kernel) (pa_cons (pe_lc (own := [("sign", 1)]) (g := gName 1) (tt := tYes) (by rfl) sc_is_name.nd (pi_str (pv 0)) (blkOk_by (own := [("sign", 1)]) (N := sc_is_nameN) (sc := defScope s_is_name) (by decide +kernel)) (fun _ _ _ _ _ => pg_name (i := 1) sc_is_name.nd rfl (Or.inl rfl)) (fun _ _ _ _ _ => pts_nil) (fun _ _ _ _ _ => (pe_cmpR op_in_sign (pv 1) (pe_gS T.g_LETTERS) (by rfl)))) pa_nil))))), ?_⟩
    rcases h with ⟨z, rfl, hz, rfl⟩ | ⟨n, ty, hk, rfl⟩
    · have hz' : z.length ≤ sizeLine := Nat.le_trans hz (by decide)
      refine ⟨_, rfl, _, _, _, _, _, rfl, .ty _, .base (.str _), kit_ty (b := "str") (r := true) (by decide +kernel), _, rfl, iteF ?_⟩
      have len : z.cps.toList.length ≤ 100000 := by
        have q : z.cps.toList.length = z.length := by simp [Str.length]
        rw [q]
        exact hz
      have short : ∀ H', Same H H' → (1 ≤ z.length ∧ z.length ≤ 8 → False) → Q (.bl false) H' := fun H' e n => by
        have q := k H' e
        have r0 : isNm z = false := by
          unfold isNm
          rw [← Bool.decide_and, decide_eq_false n]
          rfl
        rw [r0] at q
        exact q
      refine ⟨_, rfl, _, rfl, hz', _, _, rfl, rfl, _, rfl, ifd (fun h1 => ?_) fun h1 => ?_⟩
      · refine ⟨_, _, rfl, rfl, _, rfl, ifn (fun h2 => ?_) fun h2 => ?_⟩
        · exact short _ (Same.refl _) fun q => h2 (by omega)
        · refine ⟨_, rfl, _, rfl, fun D hD => ?_⟩
          refine lc_it (walk_str (z := z)) (fun i H' => Same H H' ∧ H' D = some (.lst ((z.cps.toList.take i).map fun c => V.bl (decide (c ∈ letters.cps.toList)))))
            ⟨same_new _ hD, by rw [upd_same]; rfl⟩ (fun _ _ _ _ => trivial) ?_ ?_
          · rintro i x H1 H2 hi ⟨s1, d1⟩ ⟨rfl, c, hc, rfl⟩
            refine ⟨rfl, _, rfl, c, letters, rfl, rfl, _, d1, take_lt _ len, same_put s1 _ hD, ?_⟩
            rw [upd_same, map_take _ (by simpa using hc)]
          · rintro H1 ⟨s1, d1⟩
            have e1 : z.cps.toList.take z.cps.size = z.cps.toList := by
              rw [← Array.length_toList, List.take_length]
            rw [e1, bl_map] at d1
            refine ⟨D, _, rfl, .inl (.inl d1), ?_⟩
            have q := k _ s1
            have r1 : isNm z = (z.cps.toList.map fun c => decide (c ∈ letters.cps.toList)).all id := by
              unfold isNm
              rw [decide_eq_true (show 1 ≤ z.length by omega), decide_eq_true (show z.length ≤ 8 by omega), List.all_map]
              simp only [letters_mem]
              rfl
            rw [r1] at q
            exact q
      · refine ⟨_, rfl, iteT ?_⟩
        exact short _ (Same.refl _) fun q => h1 (by omega)
    · refine ⟨_, rfl, _, _, _, _, _, rfl, .ty _, ty, kit_ty hk, _, rfl, iteT ?_⟩
      exact k _ (Same.refl _)
def isNmD : PyData → Bool
  | .str s => isNm s
  | _ => false
theorem rw_sq {H : Hp} {a : Addr} {xs : List V} (h : Rw H a xs) : Sq K H a xs := h.elim (fun h => .inl (.inl (.inl h))) fun h => .inr (.inl (.inl h))
theorem nm_case {H : Hp} {v : V} {d : PyData} (hv : Tp H v d) (hm : mst d ≤ 100000) : (∃ s : Str, v = .str s ∧ s.length ≤ 100000 ∧ isNmD d = isNm s) ∨ ∃ n, TyX K H v (.type n) ∧ kitB n "str" = some false ∧ isNmD d = false := by
  cases d with
  | str s => exact .inl ⟨s, hv.strI, hm, rfl⟩
  | none => exact .inr ⟨_, hv.ty, rfl, rfl⟩
  | bool _ => exact .inr ⟨_, hv.ty, rfl, rfl⟩
  | int _ => exact .inr ⟨_, hv.ty, rfl, rfl⟩
  | list _ => exact .inr ⟨_, hv.ty, rfl, rfl⟩
  | tuple _ => exact .inr ⟨_, hv.ty, rfl, rfl⟩
  | dict _ => exact .inr ⟨_, hv.ty, rfl, rfl⟩
/-- a list or a tuple of so many -/
def rowD3 (lo hi : Int) (d : PyData) : Bool := isRowD d && decide (lo ≤ ((partsD d).length : Int)) && decide (((partsD d).length : Int) ≤ hi)
def spIsRow (K : PySem.W.Frag) : Sp := fun vs H Q _ => ∃ (v : V) (d : PyData) (lo hi : Int), vs = [v, .int lo, .int hi] ∧ Tp H v d ∧ ∀ H', Same H H' → Q (.bl (rowD3 lo hi d)) H'
abbrev s_is_row : Stmt := topS 7
abbrev sc_is_rowN : List Str := ["thing", "least", "most"]
abbrev ps_is_row : List Str := ["thing", "least", "most"]
theorem sc_is_row : FnScope sc_is_rowN ps_is_row (defScope s_is_row) := ⟨rfl, rfl, rfl, by decide +kernel, rfl, by decide +kernel, by decide +kernel⟩
theorem ok_is_row {f : Addr} {fd : FuncData} (F : Fun K "is_row" "is_row" s_is_row f fd) (T : Txt K mg CS) : FnOk P w K mg base CX0 1 f fd ps_is_row (spIsRow K) := by
  refine F.ok sc_is_row (fun vs H Q E h => ?_) (fun cdv A outer s H vs Q E hr h => ?_)
  · obtain ⟨_, _, _, _, rfl, _⟩ := h
    rfl
  · obtain ⟨v, d, lo, hi, rfl, hv, k⟩ := h
    refine ⟨_, (pss_one (ps_ret (pe_and (pe_callB call_isiT (by rfl) T.n_isinstance (by decide +kernel) (pa_cons (pv 0) (pa_cons (pe_tup (pa_cons (pe_bltn (v := .ty "list") (by rfl) T.n_list (by decide +kernel) rfl) (pa_cons (pe_bltn (v := .ty "tuple") (by rfl) T.n_tuple (by decide +kernel) rfl) pa_nil))) pa_nil))) (pe_one (pe_chain op_le op_le (pv 1) (pe_callB call_len_seq (by rfl) T.n_len (by decide +kernel) (pa_cons (pv 0) pa_nil)) (pv 2)))))), ?_⟩
    refine ⟨_, rfl, (by show 2 ≤ sizeLine; decide), fun tp htp => ?_⟩
    have s1 : Same H (upd H tp (.tup [.ty "list", .ty "tuple"])) := same_new _ htp
    refine ⟨_, tp, _, _, _, _, rfl, upd_same, clsLT, (hv.same s1).ty, kitAny_row, _, rfl, ?_⟩
    have q := k _ s1
    unfold rowD3 at q
    cases e : isRowD d with
    | false =>
      rw [e] at q
      exact iteF q
    | true =>
      rw [e] at q
      obtain ⟨a, xs, rfl, hx, ha⟩ := (hv.same s1).row e
      rw [← ha.len] at q
      refine iteT ⟨_, rfl, _, rfl, a, xs, rfl, rw_sq hx, _, _, rfl, rfl, _, rfl, ifd (fun h1 => ?_) fun h1 => ?_⟩
      · refine ⟨_, rfl, _, _, rfl, rfl, ?_⟩
        rw [decide_eq_true h1] at q
        exact q
      · rw [decide_eq_false h1] at q
        exact q
/-- a tuple of just so many -/
def tupD (m : Nat) : PyData → Bool
  | .tuple ds => decide (ds.length = m)
  | _ => false
def spIsTuple (K : PySem.W.Frag) : Sp := fun vs H Q _ => ∃ (v : V) (d : PyData) (m : Nat), vs = [v, .int m] ∧ Tp H v d ∧ Q (.bl (tupD m d)) H
abbrev s_is_tuple : Stmt := topS 8
abbrev sc_is_tupleN : List Str := ["thing", "many"]
abbrev ps_is_tuple : List Str := ["thing", "many"]
theorem sc_is_tuple : FnScope sc_is_tupleN ps_is_tuple (defScope s_is_tuple) := ⟨rfl, rfl, rfl, by decide +kernel, rfl, by decide +kernel, by decide +kernel⟩
theorem ok_is_tuple {f : Addr} {fd : FuncData} (F : Fun K "is_tuple" "is_tuple" s_is_tuple f fd) (T : Txt K mg CS) : FnOk P w K mg base CX0 1 f fd ps_is_tuple (spIsTuple K) := by
  refine F.ok sc_is_tuple (fun vs H Q E h => ?_) (fun cdv A outer s H vs Q E hr h => ?_)
  · obtain ⟨_, _, _, rfl, _⟩ := h
    rfl
  · obtain ⟨v, d, m, rfl, hv, k⟩ := h
    refine ⟨_, (pss_one (ps_ret (pe_and (pe_callB call_isi (by rfl) T.n_isinstance (by decide +kernel) (pa_cons (pv 0) (pa_cons (pe_bltn (v := .ty "tuple") (by rfl) T.n_tuple (by decide +kernel) rfl) pa_nil))) (pe_one (pe_cmpR op_eq (pe_callB call_len_seq (by rfl) T.n_len (by decide +kernel) (pa_cons (pv 0) pa_nil)) (pv 1) (nomark _)))))), ?_⟩
    refine ⟨_, rfl, _, _, _, _, _, rfl, .ty _, hv.ty, kit_ty (kit_d (by simp)), _, rfl, ?_⟩
    cases d with
    | tuple ds =>
      obtain ⟨a, xs, rfl, hx, ha⟩ := hv.tuple
      refine iteT ⟨_, rfl, a, xs, rfl, .inr (.inl (.inl hx)), _, rfl, rfl, ?_⟩
      rw [ha.len]
      have e : decide (V.int (ds.length : Int) = V.int (m : Int)) = decide (ds.length = m) := by
        by_cases h : ds.length = m
        · rw [decide_eq_true h, h]
          exact decide_eq_true rfl
        · rw [decide_eq_false h]
          exact decide_eq_false fun z => h (Int.ofNat.inj (V.int.inj z))
      show Q (V.bl (decide (V.int (ds.length : Int) = V.int (m : Int)))) H
      rw [e]
      exact k
    | none => exact iteF k
    | bool _ => exact iteF k
    | int _ => exact iteF k
    | str _ => exact iteF k
    | list _ => exact iteF k
    | dict _ => exact iteF k
/-- the texts among the parts -/
def strsD : List PyData → List Str
  | [] => []
  | .str s :: ds => s :: strsD ds
  | _ :: ds => strsD ds
theorem strs_all : ∀ {ds : List PyData}, ds.all isNmD = true → ds = (strsD ds).map PyData.str ∧ (strsD ds).all isNm = true
  | [], _ => ⟨rfl, rfl⟩
  | d :: ds, h => by
    rw [List.all_cons, Bool.and_eq_true] at h
    obtain ⟨z1, z2⟩ := strs_all h.2
    cases d with
    | str s =>
      refine ⟨?_, ?_⟩
      · show PyData.str s :: ds = PyData.str s :: (strsD ds).map PyData.str
        rw [← z1]
      · show (s :: strsD ds).all isNm = true
        rw [List.all_cons, z2, Bool.and_true]
        exact h.1
    | _ => cases h.1
/-- so many names, none twice -/
def nmsD (lo hi : Int) (d : PyData) : Bool := rowD3 lo hi d && (partsD d).all isNmD && decide (strsD (partsD d)).Nodup
theorem isNm_len {s : Str} (h : isNm s = true) : s.length ≤ 100000 := by
  unfold isNm at h
  simp only [Bool.and_eq_true, decide_eq_true_eq] at h
  omega
def spAreNames (K : PySem.W.Frag) : Sp := fun vs H Q _ => ∃ (v : V) (d : PyData) (lo hi : Int), vs = [v, .int lo, .int hi] ∧ Tp H v d ∧ siz d ≤ 100000 ∧ mst d ≤ 100000 ∧ hi ≤ 100 ∧ ∀ H', Same H H' → Q (.bl (nmsD lo hi d)) H'
abbrev s_are_names : Stmt := topS 9
abbrev sc_are_namesN : List Str := ["thing", "least", "most", "name"]
abbrev ps_are_names : List Str := ["thing", "least", "most"]
theorem sc_are_names : FnScope sc_are_namesN ps_are_names (defScope s_are_names) := ⟨rfl, rfl, rfl, by decide +kernel, rfl, by decide +kernel, by decide +kernel⟩
theorem ok_are_names {f : Addr} {fd : FuncData} (F : Fun K "are_names" "are_names" s_are_names f fd) (T : Txt K mg CS) (D_is_row : Df P w K mg base "is_row" 1 ps_is_row (spIsRow K)) (D_is_name : Df P w K mg base "is_name" 1 ps_is_name (spIsName K)) :
    FnOk P w K mg base CX0 2 f fd ps_are_names (spAreNames K) := by
  refine F.ok sc_are_names (fun vs H Q E h => ?_) (fun cdv A outer s H vs Q E hr h => ?_)
  · obtain ⟨_, _, _, _, rfl, _⟩ := h
    rfl
  · obtain ⟨v, d, lo, hi, rfl, hv, hs, hm, hi100, k⟩ := h
    refine ⟨_, (pss_cons (ps_if (PW.pt (pw_or (pt_not (pt_val (pe_d D_is_row (hr.mono (by decide)) (pa_cons (pv 0) (pa_cons (pv 1) (pa_cons (pv 2) pa_nil)))))) (pw_or1 (pt_not (pt_val (pe_callB (cr_all (by rfl)) (by rfl) T.n_all (by decide +kernel) (pa_cons (pe_lc (own := [("name", 3)]) (g := gName 3) (tt := tYes) (by rfl) sc_are_names.nd (pi_any (pv 0)) (blkOk_by (own := [("name", 3)]) (N := sc_are_namesN) (sc := defScope s_are_names) (by decide +kernel)) (fun _ _ _ _ _ => pg_name (i := 3) sc_are_names.nd rfl (Or.inl rfl)) (fun _ _ _ _ _ => pts_nil) (fun _ _ _ _ _ => (pe_d D_is_name (hr.mono (by decide)) (pa_cons (pv 3) pa_nil)))) pa_nil)))))))
    (pss_one (ps_ret pe_bl))
    pss_nil)
  (pss_one (ps_ret (pe_cmpR op_eq (pe_lenS (by rfl) T.n_len T.n_set (pv 0)) (pe_callB call_len_seq (by rfl) T.n_len (by decide +kernel) (pa_cons (pv 0) pa_nil)) (nomark _))))), ?_⟩
    refine ⟨_, rfl, _, rfl, _, rfl, v, d, lo, hi, rfl, hv, fun H1 s1 => ⟨_, rfl, ?_⟩⟩
    unfold nmsD at k
    cases er : rowD3 lo hi d with
    | false =>
      rw [er] at k
      exact iteT (iteT (k _ s1))
    | true =>
      rw [er] at k
      have e : isRowD d = true := by
        unfold rowD3 at er
        simp only [Bool.and_eq_true] at er
        exact er.1.1
      obtain ⟨a, xs, rfl, hx, ha⟩ := (hv.same s1).row e
      have ls2 : ((partsD d).length : Int) ≤ hi := by
        unfold rowD3 at er
        simp only [Bool.and_eq_true, decide_eq_true_eq] at er
        exact er.2
      have ls : (partsD d).length ≤ 100000 := by
        have z := siz_len (partsD d)
        rw [siz_row e] at hs
        omega
      refine iteF ⟨_, rfl, a, xs, rfl, any_of (K := K) (rw_sq hx) (Same.refl _) fun J G gm wk => (fun D hD => ?_)⟩
      refine lc_it wk (fun i H' => Same H1 H' ∧ H' D = some (.lst (((partsD d).take i).map fun c => V.bl (isNmD c)))) ⟨same_new _ hD, by rw [upd_same]; rfl⟩ (fun i H' _ z => gm H' z.1) ?_ ?_
      · rintro i x H2 H3 hi2 ⟨s2, d2⟩ ⟨rfl, hxi⟩
        obtain ⟨c, hc, hcv⟩ := ha.at hxi
        have mc : mst c ≤ 100000 := by
          have z := mst_mem (List.mem_of_getElem? hc)
          rw [mst_row e] at hm
          omega
        refine ⟨rfl, _, rfl, x, isNmD c, rfl, nm_case (hcv.same s2) mc, fun H4 s4 => ?_⟩
        refine ⟨_, s4 _ _ d2, take_lt _ ls, same_put (s2.trans s4) _ hD, ?_⟩
        rw [upd_same, map_take _ hc]
      · rintro H2 ⟨s2, d2⟩
        rw [ha.len, List.take_length] at d2
        have e2 : (partsD d).map (fun c => V.bl (isNmD c)) = ((partsD d).map isNmD).map V.bl := by
          rw [List.map_map]
          rfl
        rw [e2] at d2
        refine ⟨D, _, rfl, .inl (.inl d2), _, rfl, ?_⟩
        have e3 : ((partsD d).map isNmD).all id = (partsD d).all isNmD := by
          rw [List.all_map]
          rfl
        rw [e3]
        cases ea : (partsD d).all isNmD with
        | false =>
          rw [ea] at k
          exact iteT (k _ (s1.trans s2))
        | true =>
          rw [ea] at k
          obtain ⟨z1, z2⟩ := strs_all ea
          generalize strsD (partsD d) = fs at *
          have ex : xs = fs.map V.str := by
            have y := ha
            rw [z1] at y
            clear ha k z1 z2 e2 e3 ea d2 hx s2 gm wk ls ls2
            induction fs generalizing xs with
            | nil => cases y; rfl
            | cons f fs ih =>
              cases y with
              | cons y1 y2 =>
                rw [y1.strI, ih _ y2]
                rfl
          rw [ex] at hx
          have lf : fs.length ≤ 100 := by
            rw [z1, List.length_map] at ls2
            omega
          refine iteF ⟨_, rfl, a, fs, rfl, rw_sq (hx.same s2), lf, _, rfl, a, _, rfl, rw_sq (hx.same s2), rfl, ?_⟩
          have e4 : decide (V.int (dis fs : Int) = V.int ((fs.map V.str).length : Int)) = decide fs.Nodup := by
            rw [List.length_map]
            by_cases n : fs.Nodup
            · rw [decide_eq_true n]
              exact decide_eq_true (by rw [(dis_full fs).mpr n])
            · rw [decide_eq_false n]
              exact decide_eq_false fun z => n ((dis_full fs).mp (Int.ofNat.inj (V.int.inj z)))
          show Q (V.bl (decide (V.int (dis fs : Int) = V.int ((fs.map V.str).length : Int)))) H2
          rw [e4]
          exact k _ (s1.trans s2)
end
end Fm

/-! ## K04C -/
set_option Elab.async false
set_option maxRecDepth 100000
set_option maxHeartbeats 4000000
namespace Fm
open PySem L2
/-- a def that promises nothing keeps it -/
theorem fn_no {P : Program} {w : World} {K : PySem.W.Frag} {mg : Str → Option Value} {base : Heap} {k : Nat} {f : Addr} {fd : FuncData} {ps : List Str} {sp : Sp} (h : ∀ vs H Q E, sp vs H Q E → False) : FnOk P w K mg base CX0 k f fd ps sp :=
  ⟨fun vs H Q E z => (h vs H Q E z).elim, fun _ _ _ H _ _ vs Q E _ _ _ _ z => (h vs H Q E z).elim⟩
theorem tupd_parts {d : PyData} (h : isRowD d = true) : tupd d = .tuple ((partsD d).map tupd) := by
  cases d with
  | list ds => exact congrArg PyData.tuple (tupdL_map ds)
  | tuple ds => exact congrArg PyData.tuple (tupdL_map ds)
  | _ => cases h
theorem tupd_flat {d : PyData} (h : isRowD d = false) : tupd d = d := by
  cases d <;> first | rfl | cases h
section
variable {P : Program} {w : World} {K : PySem.W.Frag} {mg : Str → Option Value} {base : Heap} {CS CB : Addr}
/-- as_tuples: the same tree, all its rows as new tuples -/
def spTup (n : Nat) : Sp := fun vs H Q _ => ∃ (F : Hp) (v : V) (d : PyData), vs = [v] ∧ Same F H ∧ Tp F v d ∧ dep d < n ∧ siz d ≤ 100000 ∧ ∀ v' F' H', Grow F H F' H' → Tp F' v' (tupd d) → Q v' H'
abbrev s_as_tuples : Stmt := topS 10
abbrev sc_as_tuplesN : List Str := ["thing", "part"]
abbrev ps_as_tuples : List Str := ["thing"]
theorem sc_as_tuples : FnScope sc_as_tuplesN ps_as_tuples (defScope s_as_tuples) := ⟨rfl, rfl, rfl, by decide +kernel, rfl, by decide +kernel, by decide +kernel⟩
theorem ok_as_tuples {f : Addr} {fd : FuncData} (F : Fun K "as_tuples" "as_tuples" s_as_tuples f fd) (T : Txt K mg CS) (hm : mg "as_tuples" = some (.ref f)) (hb : Binds K fd ps_as_tuples []) : ∀ n, FnOk P w K mg base CX0 n f fd ps_as_tuples (spTup n)
  | 0 => fn_no fun vs H Q E h => by
    obtain ⟨_, _, d, _, _, _, hd, _⟩ := h
    exact absurd hd (Nat.not_lt_zero _)
  | n + 1 => by
    have D_as_tuples : Df P w K mg base "as_tuples" n ps_as_tuples (spTup n) := ⟨f, fd, ok_as_tuples F T hm hb n, hm, F.kp, hb⟩
    refine F.ok sc_as_tuples (fun vs H Q E h => ?_) (fun cdv A outer s H vs Q E hr h => ?_)
    · obtain ⟨_, _, _, rfl, _⟩ := h
      rfl
    · obtain ⟨F0, v, d, rfl, sF, hv, hd, hz, k⟩ := h
      refine ⟨_, (pss_cons (ps_if (pt_val (pe_callB call_isiT (by rfl) T.n_isinstance (by decide +kernel) (pa_cons (pv 0) (pa_cons (pe_tup (pa_cons (pe_bltn (v := .ty "list") (by rfl) T.n_list (by decide +kernel) rfl) (pa_cons (pe_bltn (v := .ty "tuple") (by rfl) T.n_tuple (by decide +kernel) rfl) pa_nil))) pa_nil))))
    (pss_one (ps_ret (pe_callTy call_tuple_of (by rfl) T.n_tuple (by decide +kernel) (pa_cons (pe_lc (own := [("part", 1)]) (g := gName 1) (tt := tYes) (by rfl) sc_as_tuples.nd (pi_any (pv 0)) (blkOk_by (own := [("part", 1)]) (N := sc_as_tuplesN) (sc := defScope s_as_tuples) (by decide +kernel)) (fun _ _ _ _ _ => pg_name (i := 1) sc_as_tuples.nd rfl (Or.inl rfl)) (fun _ _ _ _ _ => pts_nil) (fun _ _ _ _ _ => (pe_d D_as_tuples hr (pa_cons (pv 1) pa_nil)))) pa_nil))))
    pss_nil)
  (pss_one (ps_ret (pv 0)))), ?_⟩
      refine ⟨_, rfl, (by show 2 ≤ sizeLine; decide), fun tp htp => ?_⟩
      have s1 : Same H (upd H tp (.tup [.ty "list", .ty "tuple"])) := same_new _ htp
      have sF1 := sF.trans s1
      have g1 : Grow F0 H F0 (upd H tp (.tup [.ty "list", .ty "tuple"])) := (Grow.refl sF).junk (sF.free htp) htp _
      refine ⟨_, tp, _, _, _, _, rfl, upd_same, clsLT, (hv.same sF1).ty, kitAny_row, _, rfl, ?_⟩
      cases e : isRowD d with
      | false =>
        rw [tupd_flat e] at k
        exact iteF ⟨_, rfl, k _ F0 _ g1 hv⟩
      | true =>
        obtain ⟨a, xs, rfl, hx, ha⟩ := hv.row e
        rw [dep_row e] at hd
        rw [siz_row e] at hz
        have ls := siz_len (partsD d)
        generalize upd H tp (.tup [.ty "list", .ty "tuple"]) = H1 at *
        refine iteT ⟨_, rfl, a, xs, rfl, any_of (K := K) (rw_sq hx) sF1 fun J G gm wk => (fun D hD => ?_)⟩
        refine lc_it wk (fun i H' => ∃ F' ys, Acc F0 H1 D F' H' ys ∧ TpAll F' ys (((partsD d).take i).map tupd)) ⟨F0, [], Acc.start sF1 hD, .nil⟩ (fun i H' _ z => by obtain ⟨F', ys, ac, _⟩ := z; exact gm H' (ac.g.ff.trans ac.g.fh)) ?_ ?_
        · rintro i x H2 H3 hi ⟨F2, ys, ac, ta⟩ ⟨rfl, hxi⟩
          obtain ⟨c, hc, hcv⟩ := ha.at hxi
          have mc := List.mem_of_getElem? hc
          have y1 := dep_mem mc
          have y2 := siz_mem mc
          refine ⟨rfl, _, rfl, F2, x, c, rfl, ac.g.fh, hcv.same ac.g.ff, by omega, by omega, fun y F3 H4 g ty => ?_⟩
          have ac2 := ac.then g
          refine ⟨ys, ac2.at_, ?_, F3, ys ++ [y], ac2.add _, ?_⟩
          · rw [ta.len, List.length_map, List.length_take]
            exact Nat.lt_of_le_of_lt (show min i (partsD d).length ≤ 100000 by omega) (by decide)
          · rw [map_take _ hc]
            exact (ta.same g.ff).snoc ty
        · rintro H2 ⟨F2, ys, ac, ta⟩
          rw [ha.len, List.take_length] at ta
          rw [tupd_parts e] at k
          refine ⟨D, ys, rfl, .inl ⟨.inl (.inl ac.at_), fun l hl => ?_⟩⟩
          exact k _ _ _ (g1.trans (ac.g.trans (Grow.new ac.g.fh _ hl))) (.tup upd_same (ta.same (same_new _ (ac.g.fh.free hl))))
def tableD : PyData → Bool
  | .tuple [a, b] => isNmD a && nmsD 1 4 b
  | _ => false
def nameT : PyData → Str
  | .tuple (.str s :: _) => s
  | _ => ""
def spIsTable : Sp := fun vs H Q _ => ∃ (v : V) (d : PyData), vs = [v] ∧ Tp H v d ∧ siz d ≤ 100000 ∧ mst d ≤ 100000 ∧ ∀ H', Same H H' → Q (.bl (tableD d)) H'
abbrev s_is_table : Stmt := topS 26
abbrev sc_is_tableN : List Str := ["thing"]
abbrev ps_is_table : List Str := ["thing"]
theorem sc_is_table : FnScope sc_is_tableN ps_is_table (defScope s_is_table) := ⟨rfl, rfl, rfl, by decide +kernel, rfl, by decide +kernel, by decide +kernel⟩
theorem ok_is_table {f : Addr} {fd : FuncData} (F : Fun K "is_table" "is_table" s_is_table f fd) (T : Txt K mg CS) (D_is_tuple : Df P w K mg base "is_tuple" 1 ps_is_tuple (spIsTuple K)) (D_is_name : Df P w K mg base "is_name" 1 ps_is_name (spIsName K)) (D_are_names : Df P w K mg base "are_names" 2 ps_are_names (spAreNames K)) :
    FnOk P w K mg base CX0 3 f fd ps_is_table spIsTable := by
  refine F.ok sc_is_table (fun vs H Q E h => ?_) (fun cdv A outer s H vs Q E hr h => ?_)
  · obtain ⟨_, _, rfl, _⟩ := h
    rfl
  · obtain ⟨v, d, rfl, hv, hz, hm, k⟩ := h
    refine ⟨_, (pss_one (ps_ret (pe_and (pe_d D_is_tuple (hr.mono (by decide)) (pa_cons (pv 0) (pa_cons pe_int pa_nil))) (pe_and (pe_d D_is_name (hr.mono (by decide)) (pa_cons (pe_ix ix_tup (pv 0) pe_int (fun _ _ => rfl)) pa_nil)) (pe_one (pe_d D_are_names (hr.mono (by decide)) (pa_cons (pe_ix ix_tup (pv 0) pe_int (fun _ _ => rfl)) (pa_cons pe_int (pa_cons (pe_gI T.g_MOST_FIELDS) pa_nil))))))))), ?_⟩
    refine ⟨_, rfl, v, d, 2, rfl, hv, _, rfl, ?_⟩
    cases e : tupD 2 d with
    | false =>
      have z : tableD d = false := by
        cases d with
        | tuple ds => match ds, e with
          | [], _ => rfl
          | [_], _ => rfl
          | [_, _], e => cases e
          | _ :: _ :: _ :: _, _ => rfl
        | _ => rfl
      rw [z] at k
      exact iteF (k _ (Same.refl _))
    | true =>
      obtain ⟨a, b, rfl⟩ : ∃ a b, d = .tuple [a, b] := by
        cases d with
        | tuple ds => match ds, e with
          | [], e => cases e
          | [_], e => cases e
          | [a, b], _ => exact ⟨a, b, rfl⟩
          | _ :: _ :: _ :: _, e => cases e
        | _ => cases e
      obtain ⟨p, xs, rfl, hp, ha⟩ := hv.tuple
      obtain ⟨x, hx, tx⟩ := ha.to (i := 0) rfl
      obtain ⟨y, hy, ty⟩ := ha.to (i := 1) rfl
      have ma := mst_mem (ds := [a, b]) (d := a) (by simp)
      have mb := mst_mem (ds := [a, b]) (d := b) (by simp)
      have zb := siz_mem (ds := [a, b]) (d := b) (by simp)
      have hm2 : mstL [a, b] ≤ 100000 := hm
      have hz2 : 1 + sizL [a, b] ≤ 100000 := hz
      refine iteT ⟨_, rfl, p, xs, 0, x, rfl, rfl, .inl (.inl hp), atI_nat hx, x, isNmD a, rfl, nm_case tx (by omega), fun H1 s1 => ⟨_, rfl, ?_⟩⟩
      have k2 : ∀ H', Same H H' → Q (.bl (isNmD a && nmsD 1 4 b)) H' := k
      cases ea : isNmD a with
      | false =>
        rw [ea] at k2
        exact iteF (k2 _ s1)
      | true =>
        rw [ea] at k2
        exact iteT ⟨_, rfl, p, xs, 1, y, rfl, rfl, .inl (.inl (s1 _ _ hp)), atI_nat hy, y, b, 1, 4, rfl, ty.same s1, by omega, by omega, by decide, fun H2 s2 => k2 _ (s1.trans s2)⟩
def firstBadT (names : List Str) : List PyData → Option Nat
  | [] => none
  | d :: ds => if tableD d = true ∧ nameT d ∉ names then (firstBadT (names ++ [nameT d]) ds).map (· + 1) else some 0
def shapeBad (d : PyData) : Option Int := if rowD3 1 5 d = true then (firstBadT [] (partsD d)).map Int.ofNat else some (-1)
def ErrAt (H : Hp) (i : Int) (E : Option Addr → Hp → Prop) : Prop := ∀ (d : Addr) (H' : Hp), Same H H' → H d = none → H' d = some (.xd [("at", .int i)]) → E (some d) H'
def spCheck (CB : Addr) : Sp := fun vs H Q E => ∃ (v : V) (d : PyData), vs = [v] ∧ Tp H v d ∧ siz d ≤ 100000 ∧ mst d ≤ 100000 ∧ (shapeBad d = none → ∀ H', Same H H' → Q .non H') ∧ ∀ i, shapeBad d = some i → ErrAt H i (E (.ref CB))
theorem first_ok {names : List Str} {d : PyData} {ds : List PyData} (h : tableD d = true) (n : nameT d ∉ names) : firstBadT names (d :: ds) = (firstBadT (names ++ [nameT d]) ds).map (· + 1) := by
  show (if _ then _ else _) = _
  rw [if_pos ⟨h, n⟩]
theorem first_bad {names : List Str} {d : PyData} {ds : List PyData} (h : ¬ (tableD d = true ∧ nameT d ∉ names)) : firstBadT names (d :: ds) = some 0 := by
  show (if _ then _ else _) = _
  rw [if_neg h]
theorem table_str {H : Hp} {v : V} {d : PyData} (hv : Tp H v d) (h : tableD d = true) : ∃ p r e, v = .ref p ∧ H p = some (.tup [.str (nameT d), r]) ∧ d = .tuple [.str (nameT d), e] ∧ Tp H r e := by
  cases d with
  | tuple ds =>
    match ds, h with
    | [], h => cases h
    | [_], h => cases h
    | _ :: _ :: _ :: _, h => cases h
    | [c, e], h =>
      have h2 : (isNmD c && nmsD 1 4 e) = true := h
      rw [Bool.and_eq_true] at h2
      obtain ⟨p, xs, rfl, hp, ha⟩ := hv.tuple
      cases c with
      | str s =>
        cases ha with
        | cons h1 h2 =>
          cases h2 with
          | cons h3 h4 =>
            cases h4
            rw [h1.strI] at hp
            exact ⟨p, _, e, rfl, hp, rfl, h3⟩
      | _ => cases h2.1
  | _ => cases h
abbrev s_check_tables : Stmt := topS 25
abbrev sc_check_tablesN : List Str := ["tables", "names", "at", "table"]
abbrev ps_check_tables : List Str := ["tables"]
theorem sc_check_tables : FnScope sc_check_tablesN ps_check_tables (defScope s_check_tables) := ⟨rfl, rfl, rfl, by decide +kernel, rfl, by decide +kernel, by decide +kernel⟩
theorem ok_check_tables {f : Addr} {fd : FuncData} (F : Fun K "check_tables" "check_tables" s_check_tables f fd) (T : Txt K mg CS) (X_BadShape : Xf P w K mg base "BadShape" CB "at") (D_is_row : Df P w K mg base "is_row" 1 ps_is_row (spIsRow K)) (D_is_table : Df P w K mg base "is_table" 3 ps_is_table spIsTable) :
    FnOk P w K mg base (L2.CX P w) 4 f fd ps_check_tables (spCheck CB) := by
  refine F.okX sc_check_tables (fun vs H Q E h => ?_) (fun cdv A outer s H vs Q E hr h => ?_)
  · obtain ⟨_, _, rfl, _⟩ := h
    rfl
  · obtain ⟨v, d, rfl, hv, hz, hm, kQ, kE⟩ := h
    obtain ⟨Tx, hno⟩ := X_BadShape.oex
    refine ⟨_, (pss_cons (ps_if (pt_not (pt_val (pe_d D_is_row (hr.mono (by decide)) (pa_cons (pv 0) (pa_cons pe_int (pa_cons (pe_gI T.g_MOST_TABLES) pa_nil))))))
    (pss_one (ps_rG X_BadShape (hr.mono (by decide)) (takes_of rfl rfl rfl rfl) (pe_un un_neg pe_int)))
    pss_nil)
  (pss_cons (ps_set (i := 1) sc_check_tables.nd rfl (Or.inl rfl) (pe_lst pa_nil))
  (pss_one (ps_for PassesOwn.leaving rfl (pi_enumA (by rfl) T.n_enumerate (pa_cons (pv 0) pa_nil)) (pg_tup (by rfl) (pgs_cons (pg_name (i := 2) sc_check_tables.nd rfl (Or.inl rfl)) (pgs_cons (pg_name (i := 3) sc_check_tables.nd rfl (Or.inl rfl)) pgs_nil)))
    (pss_cons (ps_if (PW.pt (pw_or (pt_not (pt_val (pe_d D_is_table (hr.mono (by decide)) (pa_cons (pv 3) pa_nil)))) (pw_or1 (pt_cmpR op_in_seq (pe_ix ix_tup (pv 3) pe_int (fun _ _ => rfl)) (pv 1) (by rfl)))))
      (pss_one (ps_rE X_BadShape (hr.mono (by decide)) (takes_of rfl rfl rfl rfl) (pv 2)))
      pss_nil)
    (pss_one (ps_expr (pe_bm PySem.F.plainAttrs_list PySem.F.slot_list_append PySem.F.type_list_append mt_append (pv 1) (pa_cons (pe_ix ix_tup (pv 3) pe_int (fun _ _ => rfl)) pa_nil))))))))), ?_⟩
    refine ⟨_, rfl, v, d, 1, 5, rfl, hv, fun H1 s1 => ⟨_, rfl, ?_⟩⟩
    cases er : rowD3 1 5 d with
    | false =>
      have z : shapeBad d = some (-1) := by
        unfold shapeBad
        rw [er]
        rfl
      refine iteT ⟨1, rfl, (by show 1 ≤ 1000; decide), fun a ha => init_read (v := .int (-1)) (Q := fun cls d H' => E cls d H') Tx hno ha fun dd hd => ?_⟩
      exact kE _ z dd _ (s1.trans (same_new _ hd)) (s1.free hd) upd_same
    | true =>
      have z : shapeBad d = (firstBadT [] (partsD d)).map Int.ofNat := by
        unfold shapeBad
        rw [er]
        rfl
      have e : isRowD d = true := by
        unfold rowD3 at er
        simp only [Bool.and_eq_true] at er
        exact er.1.1
      have l5 : (partsD d).length ≤ 5 := by
        unfold rowD3 at er
        simp only [Bool.and_eq_true, decide_eq_true_eq] at er
        have y := er.2
        omega
      obtain ⟨a, xs, rfl, hx, ha⟩ := (hv.same s1).row e
      rw [siz_row e] at hz
      rw [mst_row e] at hm
      rw [z] at kQ kE
      refine iteF ⟨Nat.zero_le _, fun l hl => ?_⟩
      refine ⟨_, rfl, a, xs, rfl, enum_of (K := K) (rw_sq hx) (same_new _ hl) fun J G gm wk => ?_⟩
      refine for_it wk (fun i σ H' => ∃ v2 v3, σ = [some (.ref a), some (.ref l), v2, v3] ∧ Same H1 H' ∧ H' l = some (.lst (((partsD d).take i).map fun c => V.str (nameT c))) ∧ firstBadT [] (partsD d) = (firstBadT (((partsD d).take i).map nameT) ((partsD d).drop i)).map (· + i))
        ⟨_, _, rfl, same_new _ hl, by rw [upd_same]; rfl, by simp⟩ (fun i σ H' _ z => by obtain ⟨_, _, _, z, _⟩ := z; exact gm H' z) ?_ ?_
      · rintro i x σ H2 H3 hi ⟨v2, v3, rfl, s2, d2, inv⟩ ⟨T0, x1, y, rfl, hT, rfl, e1, hy⟩
        obtain rfl : V.int (i : Nat) = x1 := Option.some.inj e1
        obtain ⟨c, hc, hcv⟩ := ha.at hy
        have mc := List.mem_of_getElem? hc
        have yz := siz_mem mc
        have ym := mst_mem mc
        have dr : (partsD d).drop i = c :: (partsD d).drop (i + 1) := by
          obtain ⟨hl, q⟩ := List.getElem?_eq_some_iff.mp hc
          rw [← q]
          exact List.drop_eq_getElem_cons hl
        rw [dr] at inv
        have s3 : Same H1 (upd H2 T0 (.tup [V.int (i : Nat), y])) := s2.trans (same_new _ hT)
        have nlT : l ≠ T0 := ne_of_none d2 hT
        have hT' : (upd H2 T0 (.tup [V.int (i : Nat), y])) T0 = some (.tup [V.int (i : Nat), y]) := upd_same
        have d3 : (upd H2 T0 (.tup [V.int (i : Nat), y])) l = some (.lst (((partsD d).take i).map fun c => V.str (nameT c))) := by rw [upd_ne nlT]; exact d2
        generalize upd H2 T0 (.tup [V.int (i : Nat), y]) = H4 at *
        refine ⟨T0, _, rfl, .inl (.inl hT'), rfl, _, _, rfl, _, _, rfl, rfl, ?_⟩
        have raise : ∀ {G : Hp}, Same H1 G → firstBadT [] (partsD d) = some i → ∀ dd, G dd = none → E (.ref CB) (some dd) (upd G dd (.xd [("at", .int (i : Nat))])) := fun sG q dd hd =>
          kE (i : Nat) (by rw [q]; rfl) dd _ (s1.trans (sG.trans (same_new _ hd))) (s1.free (sG.free hd)) upd_same
        refine ⟨_, rfl, y, c, rfl, hcv.same s3, by omega, by omega, fun H5 s5 => ⟨_, rfl, ?_⟩⟩
        cases et : tableD c with
        | false =>
          have q : firstBadT [] (partsD d) = some i := by
            rw [inv, first_bad (fun z => by rw [et] at z; cases z.1)]
            show some (0 + i) = some i
            rw [Nat.zero_add]
          exact iteT (iteT ⟨_, rfl, fun dd hd => raise (s3.trans s5) q dd hd⟩)
        | true =>
          obtain ⟨p, r, e2, rfl, hp, ec, hr2⟩ := table_str (hcv.same (s3.trans s5)) et
          have d5 := s5 _ _ d3
          refine iteF ⟨_, rfl, p, _, 0, .str (nameT c), rfl, rfl, .inl (.inl hp), rfl, _, rfl, l, _, rfl, .inl (.inl (.inl d5)), rfl, ?_, _, rfl, ?_⟩
          · rw [List.all_map]
            simp [flatV]
          · have ei : inV (V.str (nameT c)) (((partsD d).take i).map fun c => V.str (nameT c)) = decide (nameT c ∈ ((partsD d).take i).map nameT) := by
              have z := inV_str (nameT c) (((partsD d).take i).map nameT)
              rw [List.map_map] at z
              exact z
            show (if inV (V.str (nameT c)) (((partsD d).take i).map fun c => V.str (nameT c)) = true then _ else _)
            rw [ei]
            refine ifd (fun yes => ?_) fun no => ?_
            · have q : firstBadT [] (partsD d) = some i := by
                rw [inv, first_bad (fun z => z.2 yes)]
                show some (0 + i) = some i
                rw [Nat.zero_add]
              exact ⟨_, rfl, fun dd hd => raise (s3.trans s5) q dd hd⟩
            · refine ⟨_, rfl, .inl ⟨rfl, _, .inl (.inl d5)⟩, _, rfl, p, _, 0, .str (nameT c), rfl, rfl, .inl (.inl hp), rfl, l, _, _, rfl, rfl, d5, take_lt _ (by omega), ?_⟩
              refine ⟨_, _, rfl, same_put (s3.trans s5) _ hl, ?_, ?_⟩
              · rw [upd_same, map_take _ hc]
              · rw [inv, first_ok et no, map_take _ hc]
                cases firstBadT (((partsD d).take i).map nameT ++ [nameT c]) ((partsD d).drop (i + 1)) with
                | none => rfl
                | some j =>
                  show some (j + 1 + i) = some (j + (i + 1))
                  rw [Nat.add_assoc, Nat.add_comm 1 i]
      · rintro σ H2 ⟨v2, v3, rfl, s2, d2, inv⟩
        rw [ha.len, List.drop_length] at inv
        exact kQ (by rw [inv]; rfl) _ (s1.trans s2)
end
end Fm

/-! ## K04D -/
set_option Elab.async false
set_option maxRecDepth 100000
set_option maxHeartbeats 4000000
namespace Fm
open PySem L2
/-! ### a shape is made of anything -/
def shF (v : V) : List (Str × V) := [("tables", v)]
/-- a shape stands at x, with this tree of tables -/
def ShT (CS : Addr) (F : Hp) (x : Addr) (d : PyData) : Prop := ∃ dx v, F x = some (.ins CS dx (shF v)) ∧ Tp F v d
theorem ShT.same {CS : Addr} {F F' : Hp} {x : Addr} {d : PyData} (h : ShT CS F x d) (s : Same F F') : ShT CS F' x d := by
  obtain ⟨dx, v, h1, h2⟩ := h
  exact ⟨dx, v, s _ _ h1, h2.same s⟩
section
variable {P : Program} {w : World} {K : PySem.W.Frag} {mg : Str → Option Value} {base : Heap} {CS CB : Addr}
def spShInit (CS CB : Addr) : Sp := fun vs H Q E => ∃ (F : Hp) (x dx : Addr) (v : V) (d : PyData), vs = [.ref x, v] ∧ H x = some (.ins CS dx []) ∧ Same F H ∧ F x = none ∧ Tp F v d ∧ dep d < 40 ∧ siz d ≤ 100000 ∧ mst d ≤ 100000 ∧
  (∀ i, shapeBad d = some i → ErrAt H i (E (.ref CB))) ∧ (shapeBad d = none → ∀ tv F' H', Grow F H F' H' → Tp F' tv (tupd d) → Q .non (upd H' x (.ins CS dx (shF tv))))
abbrev s_Shape_init : Stmt := inClass (topS 23) 0
abbrev sc_Shape_initN : List Str := ["self", "tables"]
abbrev ps_Shape_init : List Str := ["self", "tables"]
theorem sc_Shape_init : FnScope sc_Shape_initN ps_Shape_init (defScope s_Shape_init) := ⟨rfl, rfl, rfl, by decide +kernel, rfl, by decide +kernel, by decide +kernel⟩
theorem ok_Shape_init {f : Addr} {fd : FuncData} (F : Fun K "__init__" "Shape.__init__" s_Shape_init f fd) (T : Txt K mg CS) (D_check_tables : DfX P w K mg base "check_tables" 4 ps_check_tables (spCheck CB)) (D_as_tuples : Df P w K mg base "as_tuples" 40 ps_as_tuples (spTup 40)) :
    FnOk P w K mg base (L2.CX P w) 41 f fd ps_Shape_init (spShInit CS CB) := by
  refine F.okX sc_Shape_init (fun vs H Q E h => ?_) (fun cdv A outer s H vs Q E hr h => ?_)
  · obtain ⟨_, _, _, _, _, rfl, _⟩ := h
    rfl
  · obtain ⟨F0, x, dx, v, d, rfl, hx, sF, fx, hv, hd, hz, hm, kE, kQ⟩ := h
    refine ⟨_, (pss_cons (ps_expr (pe_dE D_check_tables (hr.mono (by decide)) (takes_of rfl rfl rfl rfl) (pa_cons (pv 1) pa_nil)))
  (pss_one (ps_fld (pv 0) (pe_d D_as_tuples (hr.mono (by decide)) (pa_cons (pv 1) pa_nil)) rfl))), ?_⟩
    refine ⟨_, rfl, v, d, rfl, hv.same sF, hz, hm, fun e H1 s1 => ?_, fun i e => kE i e⟩
    refine ⟨_, rfl, F0, v, d, rfl, sF.trans s1, hv, hd, hz, fun tv F' H' g ht => ?_⟩
    have g2 : Grow F0 H F' H' := ⟨g.ff, g.fh, fun a o e1 e2 => g.hh a o e1 (s1 _ _ e2)⟩
    have hx2 := g2.same sF _ _ hx
    exact ⟨_, rfl, x, CS, dx, [], rfl, hx2, T.cl, T.nT, (by show 0 < 1000; decide), kQ e tv F' H' g2 ht⟩
/-- what a caller of Shape has to say -/
theorem shape_made {F0 H : Hp} {x dx : Addr} {v : V} {d : PyData} {R : Hp → Prop} {E : XK} (sF : Same F0 H) (hv : Tp F0 v d) (hd : dep d < 40) (hz : siz d ≤ 100000) (hm : mst d ≤ 100000) (nx : H x = none) (nd : H dx = none) (ne : dx ≠ x)
    (kE : ∀ i, shapeBad d = some i → ErrAt H i (E (.ref CB))) (kQ : shapeBad d = none → ∀ F' H', Grow F0 H F' H' → ShT CS F' x (tupd d) → R H') :
    spShInit CS CB [.ref x, v] (upd (upd H dx (.own x)) x (.ins CS dx [])) (fun z H' => z = .non ∧ R H') E := by
  have s1 : Same H (upd (upd H dx (.own x)) x (.ins CS dx [])) := fun a o e => by
    rw [upd_ne (ne_of_none e nx), upd_ne (ne_of_none e nd)]
    exact e
  have fx := sF.free nx
  refine ⟨F0, x, dx, v, d, rfl, upd_same, sF.trans s1, fx, hv, hd, hz, hm, fun i e dd H' s hn h => kE i e dd H' (s1.trans s) (s1.free hn) h, fun e tv F' H' g ht => ⟨rfl, ?_⟩⟩
  have xF' : F' x = none := (g.hh x _ fx upd_same).1
  have sX : Same F' (upd F' x (.ins CS dx (shF tv))) := same_new _ xF'
  refine kQ e _ _ ⟨g.ff.trans sX, same_upd g.fh x _, fun a o e1 e2 => ?_⟩ ⟨dx, tv, upd_same, ht.same sX⟩
  obtain ⟨z1, z2⟩ := g.hh a o e1 (s1 _ _ e2)
  have n := ne_of_none e2 nx
  rw [upd_ne n, upd_ne n]
  exact ⟨z1, z2⟩
end
end Fm

/-! ## FmName -/
set_option Elab.async false
set_option maxRecDepth 100000
set_option maxHeartbeats 4000000
/-! Names that are drawn: letters put together, a letter behind a stem until it is new. -/
namespace Fm
open PySem L2
theorem bag_junk {F H : Hp} {b p : Addr} (B : Bag F H b) (o : HO) (hp : H p = none) : Bag F (upd H p o) b := bag_same B (same_new o hp)
theorem bag_sub {F F1 H : Hp} {b : Addr} (s : Same F F1) (B : Bag F1 H b) : Bag F H b := by
  obtain ⟨h, fb, cl, ns, p, g, z, c, hh, e1, r⟩ := B
  exact ⟨s.trans h, s.free fb, cl, ns, p, g, z, c, hh, s.free e1, r⟩
theorem at_mem {α : Type} {xs : List α} {r : Int} (h0 : 0 ≤ r) (h1 : r < (xs.length : Int)) : ∃ v, atI xs r = some v ∧ v ∈ xs := by
  obtain ⟨n, rfl⟩ : ∃ n : Nat, r = (n : Int) := ⟨r.toNat, by omega⟩
  have h : n < xs.length := by omega
  exact ⟨xs[n], atI_nat (List.getElem?_eq_getElem h), List.getElem_mem h⟩
theorem nodup_le {α : Type} [DecidableEq α] : ∀ {l m : List α}, l.Nodup → (∀ x ∈ l, x ∈ m) → l.length ≤ m.length
  | [], _, _, _ => Nat.zero_le _
  | x :: r, m, hN, hs => by
    have hx := hs x List.mem_cons_self
    have q := List.nodup_cons.mp hN
    have ih := nodup_le (l := r) (m := m.erase x) q.2 fun y hy => by
      have n : y ≠ x := fun z => q.1 (by rw [← z]; exact hy)
      exact (List.mem_erase_of_ne n).mpr (hs y (List.mem_cons_of_mem _ hy))
    rw [List.length_erase_of_mem hx] at ih
    have pos : 0 < m.length := List.length_pos_of_mem hx
    rw [List.length_cons]
    omega
abbrev one (c : Nat) : Str := ⟨#[c]⟩
def ofL (cs : List Nat) : Str := ⟨cs.toArray⟩
theorem isNm_ofL {cs : List Nat} (h1 : 1 ≤ cs.length) (h2 : cs.length ≤ 8) (h3 : ∀ c ∈ cs, 97 ≤ c ∧ c ≤ 122) : isNm (ofL cs) = true := by
  have l : (ofL cs).length = cs.length := by simp [ofL, Str.length]
  unfold isNm
  rw [l, decide_eq_true h1, decide_eq_true h2]
  show (cs.toArray.toList.all fun c => decide (97 ≤ c) && decide (c ≤ 122)) = true
  rw [List.all_eq_true]
  intro c m
  have q := h3 c (by simpa using m)
  simp [q.1, q.2]
theorem isNm_inv {s : Str} (h : isNm s = true) : 1 ≤ s.cps.toList.length ∧ s.cps.toList.length ≤ 8 ∧ ∀ c ∈ s.cps.toList, 97 ≤ c ∧ c ≤ 122 := by
  unfold isNm at h
  simp only [Bool.and_eq_true, List.all_eq_true, decide_eq_true_eq] at h
  have l : s.cps.toList.length = s.length := by simp [Str.length]
  rw [l]
  exact ⟨h.1.1, h.1.2, h.2⟩
theorem str_ext {s t : Str} (h : s.cps.toList = t.cps.toList) : s = t := by
  obtain ⟨a⟩ := s
  obtain ⟨b⟩ := t
  have e : a = b := Array.ext' h
  rw [e]
theorem ofL_of (s : Str) : ofL s.cps.toList = s := str_ext (by simp [ofL])
theorem joinL_nil : ∀ cs : List Nat, TL.joinL [] (cs.map fun c => [c]) = cs
  | [] => rfl
  | [_] => rfl
  | c :: d :: r => by
    show [c] ++ ([] ++ TL.joinL [] ((d :: r).map fun c => [c])) = c :: d :: r
    rw [joinL_nil (d :: r)]
    rfl
theorem join_one (cs : List Nat) : Txt.join "" (cs.map one) = ofL cs := by
  refine str_ext ?_
  have e := TL.tl_join "" (cs.map one)
  rw [List.map_map] at e
  rw [TL.join_eq]
  exact e.trans (joinL_nil cs)
theorem cutS_to (n : Str) (k : Nat) : cutS n none (some (k : Int)) = ofL (n.cps.toList.take k) := by
  have l : n.cps.toList.length = n.length := by simp [Str.length]
  unfold cutS
  rw [HT.sIx_none, HT.sIx_nat, List.drop_zero, Nat.sub_zero]
  show (⟨(n.cps.toList.take (min k n.length)).toArray⟩ : Str) = ⟨(n.cps.toList.take k).toArray⟩
  rw [← l, ← List.take_eq_take_min]
theorem cutV_to (xs : List V) (k : Nat) : cutV xs none (some (k : Int)) = xs.take k := by
  unfold cutV
  rw [HT.sIx_none, HT.sIx_nat, List.drop_zero, Nat.sub_zero, ← List.take_eq_take_min]
theorem add_one {l : List Nat} {c : Nat} : ofL l ++ one c = ofL (l ++ [c]) := by
  refine str_ext ?_
  show (l.toArray ++ #[c]).toList = _
  simp [ofL]
/-- the word of the turn i: first w itself, then its stem with one letter after another -/
def wd (w : Str) (st : List Nat) (i : Nat) : Str := if i = 0 then w else ofL (st ++ [96 + i])
theorem wd_inj {w : Str} {st : List Nat} {i j : Nat} (hi : i ≠ 0) (hj : j ≠ 0) (h : wd w st i = wd w st j) : i = j := by
  unfold wd at h
  rw [if_neg hi, if_neg hj] at h
  have q : (st ++ [96 + i]).toArray = (st ++ [96 + j]).toArray := congrArg Str.cps h
  have q2 : st ++ [96 + i] = st ++ [96 + j] := by simpa using q
  have q3 := List.append_cancel_left q2
  injection q3 with q4 _
  omega
theorem wd_nm {w : Str} (h : isNm w = true) (i : Nat) (hi : i ≤ 26) : isNm (wd w (w.cps.toList.take 7) i) = true := by
  obtain ⟨h1, h2, h3⟩ := isNm_inv h
  unfold wd
  by_cases e : i = 0
  · rw [if_pos e]
    exact h
  · rw [if_neg e]
    refine isNm_ofL (by simp) ?_ fun c m => ?_
    · rw [List.length_append, List.length_take, List.length_singleton]
      omega
    · rcases List.mem_append.mp m with m | m
      · exact h3 c (List.mem_of_mem_take m)
      · rw [List.mem_singleton.mp m]
        omega
theorem wd_few {w : Str} {st : List Nat} {tk : List Str} {n : Nat} (h : ∀ j, j < n → wd w st j ∈ tk) : n ≤ tk.length + 1 := by
  have q := nodup_le (l := (List.range (n - 1)).map fun j => wd w st (j + 1)) (m := tk) ?_ ?_
  · rw [List.length_map, List.length_range] at q
    omega
  · refine List.Pairwise.map _ (R := (· ≠ ·)) (fun a b hab e => hab ?_) List.nodup_range
    have z := wd_inj (Nat.succ_ne_zero a) (Nat.succ_ne_zero b) e
    omega
  · intro x m
    obtain ⟨j, hj, rfl⟩ := List.mem_map.mp m
    have z := List.mem_range.mp hj
    exact h (j + 1) (by omega)
end Fm

/-! ## K04E -/
set_option Elab.async false
set_option maxRecDepth 100000
set_option maxHeartbeats 4000000
namespace Fm
open PySem L2
theorem pss_never {X : Cx} {b : List Stmt} : PSs X b tNever := ⟨fun _ _ _ _ _ _ h => False.elim h⟩
section
variable {P : Program} {w : World} {K : PySem.W.Frag} {mg : Str → Option Value} {base : Heap} {CS : Addr}
def spBag (K : PySem.W.Frag) : Sp := fun vs H Q _ => ∃ (a : Addr) (ns : List Int), vs = [.ref a] ∧ SqL K H a (ns.map V.int) ∧ ns.length ≤ 63 ∧ ∀ b H', Bag nil0 H' b → Q (.ref b) H'
abbrev s_l_bag : Stmt := topS 30
abbrev sc_l_bagN : List Str := ["_law_script"]
abbrev ps_l_bag : List Str := ["_law_script"]
theorem sc_l_bag : FnScope sc_l_bagN ps_l_bag (defScope s_l_bag) := ⟨rfl, rfl, rfl, by decide +kernel, rfl, by decide +kernel, by decide +kernel⟩
theorem ok_l_bag {f : Addr} {fd : FuncData} (F : Fun K "_law_bag" "_law_bag" s_l_bag f fd) (T : Txt K mg CS) : FnOk P w K mg base CX0 1 f fd ps_l_bag (spBag K) := by
  refine F.ok sc_l_bag (fun vs H Q E h => ?_) (fun cdv A outer s H vs Q E hr h => ?_)
  · obtain ⟨_, _, rfl, _⟩ := h
    rfl
  · obtain ⟨a, ns, rfl, hs, hl, k⟩ := h
    refine ⟨_, (pss_one (ps_ret (pe_lst (pa_cons (pe_callTy call_list_of (by rfl) T.n_list (by decide +kernel) (pa_cons (pe_slice sl_list (pv 0) po_none (po_some pe_int)) pa_nil)) (pa_cons pe_int (pa_cons pe_int (pa_cons pe_int (pa_cons pe_int (pa_cons pe_int pa_nil))))))))), ?_⟩
    refine ⟨_, rfl, _, rfl, a, _, rfl, hs, fun p hp => ?_⟩
    refine ⟨p, _, rfl, .inl (.inl (.inl upd_same)), fun c hc => ⟨by show 6 ≤ sizeLine; decide, fun b hb => ?_⟩⟩
    have ncb : c ≠ b := ne_of_none upd_same hb
    have e : cutV (ns.map V.int) none (some 63) = (ns.take 63).map V.int := by
      rw [List.map_take]
      exact cutV_to _ 63
    refine k b _ ⟨fun _ _ z => (by cases z), rfl, c, ns.take 63, 0, 0, 0, 0, 0, rfl, ncb, ?_, upd_same, by omega, by omega, by omega, by omega⟩
    rw [upd_ne ncb, upd_same, e]
def spName : Sp := fun vs H Q _ => ∃ (F : Hp) (b l : Addr) (tk : List Str), vs = [.ref b, .ref l] ∧ Bag F H b ∧ F l = some (.lst (tk.map V.str)) ∧ tk.length ≤ 20 ∧
  ∀ (n : Str) (H' : Hp), isNm n = true → n ∉ tk → Bag (upd F l (.lst ((tk ++ [n]).map V.str))) H' b → Q (.str n) H'
abbrev s_l_name : Stmt := topS 32
abbrev sc_l_nameN : List Str := ["_law_bag_here", "_law_taken", "_law_letters", "_law_word", "_law_k", "_law_stem"]
abbrev ps_l_name : List Str := ["_law_bag_here", "_law_taken"]
theorem sc_l_name : FnScope sc_l_nameN ps_l_name (defScope s_l_name) := ⟨rfl, rfl, rfl, by decide +kernel, rfl, by decide +kernel, by decide +kernel⟩
theorem ok_l_name {f : Addr} {fd : FuncData} (F : Fun K "_law_name" "_law_name" s_l_name f fd) (T : Txt K mg CS) (D_l_pick : Df P w K mg base "_law_pick" 1 ps_l_pick spPick) : FnOk P w K mg base CX0 2 f fd ps_l_name spName := by
  refine F.ok sc_l_name (fun vs H Q E h => ?_) (fun cdv A outer s H vs Q E hr h => ?_)
  · obtain ⟨_, _, _, _, rfl, _⟩ := h
    rfl
  · obtain ⟨F0, b, l, tk, rfl, B, hl, len, k⟩ := h
    refine ⟨_, (pss_cons (ps_set (i := 2) sc_l_name.nd rfl (Or.inr rfl) pe_str)
  (Evl.pss_cut (ps_if (pt_cmpR op_eq (pe_d D_l_pick (hr.mono (by decide)) (pa_cons (pv 0) (pa_cons pe_int pa_nil))) pe_int (nomark _))
    (pss_one (ps_set (i := 3) sc_l_name.nd rfl (Or.inl rfl) (pe_ix ix_list (pe_lst (pa_cons pe_str (pa_cons pe_str (pa_cons pe_str (pa_cons pe_str (pa_cons pe_str (pa_cons pe_str (pa_cons pe_str (pa_cons pe_str pa_nil))))))))) (pe_d D_l_pick (hr.mono (by decide)) (pa_cons (pv 0) (pa_cons pe_int pa_nil))) (fun _ _ => rfl))))
    (pss_one (ps_set (i := 3) sc_l_name.nd rfl (Or.inl rfl) (pe_join pe_str (pe_lc (own := [("_law_k", 4)]) (g := gName 4) (tt := tYes) (by rfl) sc_l_name.nd (pi_range1 (by rfl) T.n_range (pa_cons (pe_op op_add pe_int (pe_d D_l_pick (hr.mono (by decide)) (pa_cons (pv 0) (pa_cons pe_int pa_nil)))) pa_nil)) (blkOk_by (own := [("_law_k", 4)]) (N := sc_l_nameN) (sc := defScope s_l_name) (by decide +kernel)) (fun _ _ _ _ _ => pg_name (i := 4) sc_l_name.nd rfl (Or.inl rfl)) (fun _ _ _ _ _ => pts_nil) (fun _ _ _ _ _ => (pe_ix ix_str (pv 2) (pe_d D_l_pick (hr.mono (by decide)) (pa_cons (pv 0) (pa_cons pe_int pa_nil))) (fun _ _ => rfl))))))))
  (pss_cons (ps_set (i := 5) sc_l_name.nd rfl (Or.inl rfl) (pe_slice sl_str (pv 3) po_none (po_some pe_int)))
  (pss_cons (ps_for PassesOwn.never rfl (pi_range1 (by rfl) T.n_range (pa_cons pe_int pa_nil)) (pg_name (i := 4) sc_l_name.nd rfl (Or.inl rfl))
    (pss_cons (ps_if (pt_cmpR op_notIn_seq (pv 3) (pv 1) (by rfl))
      (pss_one ps_break)
      pss_nil)
    (pss_one (ps_set (i := 3) sc_l_name.nd rfl (Or.inl rfl) (pe_op op_add_str (pv 5) (pe_ix ix_str (pv 2) (pv 4) (fun _ _ => rfl)))))))
  (pss_cons (ps_expr (pe_bm PySem.F.plainAttrs_list PySem.F.slot_list_append PySem.F.type_list_append mt_append (pv 1) (pa_cons (pv 3) pa_nil)))
  (pss_one (ps_ret (pv 3)))))))), ?_⟩
    -- the word
    refine ⟨fun σ H' => ∃ (n : Str) (v : Option V), σ = [some (.ref b), some (.ref l), some (.str letters), some (.str n), v, none] ∧ isNm n = true ∧ Bag F0 H' b, ?_, ?_⟩
    · refine ⟨_, rfl, F0, b, 12, rfl, by decide, by decide, B, fun r H1 r0 r1 B1 => ⟨rfl, _, rfl, ifd (fun _ => ?_) fun _ => ?_⟩⟩
      · refine ⟨by show 8 ≤ sizeLine; decide, fun p hp => ?_⟩
        refine ⟨_, rfl, _, b, 8, rfl, by decide, by decide, B1.new _ hp, fun r H2 r0 r1 B2 => ?_⟩
        obtain ⟨v, hv, hm⟩ := at_mem (xs := (["end", "put", "scan", "none", "of", "same", "table", "block"] : List Str).map V.str) r0 r1
        obtain ⟨n, hn, rfl⟩ := List.mem_map.mp hm
        have good : ∀ n ∈ (["end", "put", "scan", "none", "of", "same", "table", "block"] : List Str), isNm n = true := by decide +kernel
        refine ⟨p, _, _, _, rfl, rfl, .inl (.inl (B2.fh _ _ upd_same)), hv, ?_⟩
        exact ⟨n, _, rfl, good n hn, bag_sub (fun a o e => by rw [upd_ne (ne_of_none (B1.fh _ _ e) hp)]; exact e) B2⟩
      · refine ⟨⟨_, rfl⟩, _, rfl, F0, b, 8, rfl, by decide, by decide, B1, fun r H2 r0 r1 B2 => ⟨_, _, rfl, rfl, _, rfl, by omega, by omega, fun D hD => ?_⟩⟩
        have fD : F0 D = none := B2.fh.free hD
        have nDl : D ≠ l := fun q => by rw [q, hl] at fD; cases fD
        have toF : ∀ o, Same F0 (upd F0 D o) := fun o a u e => by rw [upd_ne (ne_of_none e fD)]; exact e
        refine lc_range (lo := 0) (n := (1 + r).toNat) (fun i H' => ∃ cs : List Nat, cs.length = i ∧ (∀ c ∈ cs, 97 ≤ c ∧ c ≤ 122) ∧ Bag (upd F0 D (.lst ((cs.map one).map V.str))) H' b) ⟨[], rfl, fun _ m => (by cases m), B2.new _ hD⟩ ?_ ?_
        · rintro i H3 hi ⟨cs, rfl, hcs, B3⟩
          refine ⟨rfl, _, rfl, _, rfl, _, b, 26, rfl, by decide, by decide, B3, fun q H4 q0 q1 B4 => ?_⟩
          obtain ⟨c, hc, hm⟩ := at_mem (xs := letters.cps.toList) q0 (by rw [letters_list]; exact q1)
          rw [letters_list] at hm
          have hm2 := List.mem_range'_1.mp hm
          refine ⟨letters, _, c, rfl, rfl, by decide +kernel, hc, _, B4.fh _ _ upd_same, ?_, cs ++ [c], by simp, fun z m => ?_, ?_⟩
          · rw [List.length_map, List.length_map]
            exact Nat.lt_of_lt_of_le (show cs.length < 100 by omega) (by decide)
          · rcases List.mem_append.mp m with m | m
            · exact hcs z m
            · rw [List.mem_singleton.mp m]
              omega
          · have z := B4.put (.lst (((cs ++ [c]).map one).map V.str)) upd_same
            rw [upd_upd] at z
            have e : ((cs ++ [c]).map one).map V.str = (cs.map one).map V.str ++ [V.str (one c)] := by
              rw [List.map_append, List.map_append]
              rfl
            rw [e] at z ⊢
            exact z
        · rintro H3 ⟨cs, hl3, hcs, B3⟩
          refine ⟨_, D, cs.map one, rfl, rfl, .inl (.inl (.inl (B3.fh _ _ upd_same))), ?_, ?_⟩
          · have e : ((cs.map one).map (·.length)).sum = cs.length := by
              rw [List.map_map]
              clear hl3 hcs B3
              induction cs with
              | nil => rfl
              | cons c cs ih => rw [List.map_cons, List.sum_cons, ih, List.length_cons]; show 1 + cs.length = cs.length + 1; omega
            rw [e, List.length_map]
            show cs.length + cs.length * 0 ≤ 16777216
            omega
          · rw [join_one]
            exact ⟨ofL cs, _, rfl, isNm_ofL (by omega) (by omega) hcs, bag_sub (toF _) B3⟩
    · rintro σ H1 ⟨n, v, rfl, gn, B1⟩
      obtain ⟨n1, n2, n3⟩ := isNm_inv gn
      refine ⟨_, rfl, _, rfl, n, rfl, Nat.le_trans (isNm_len gn) (by decide), ?_⟩
      have cut : cutS n none (some 7) = ofL (n.cps.toList.take 7) := cutS_to n 7
      rw [cut]
      have hl1 := B1.fh _ _ hl
      refine ⟨26, rfl, by decide, by decide, for_range (lo := 0) (n := 26) (fun i σ H' => ∃ v, σ = [some (.ref b), some (.ref l), some (.str letters), some (.str (wd n (n.cps.toList.take 7) i)), v, some (.str (ofL (n.cps.toList.take 7)))] ∧ H' = H1 ∧ ∀ j, j < i → wd n (n.cps.toList.take 7) j ∈ tk) ⟨_, rfl, rfl, fun j z => absurd z (Nat.not_lt_zero _)⟩ ?_ ?_⟩
      · rintro i σ H' hi ⟨v, rfl, rfl, all⟩
        refine ⟨_, rfl, _, rfl, l, _, rfl, .inl (.inl (.inl hl1)), rfl, flat_strs _, _, rfl, ?_⟩
        rw [inV_str]
        refine ifn (fun new => ?_) fun old => ?_
        · refine ⟨_, rfl, .inl ⟨rfl, _, .inl (.inl hl1)⟩, _, rfl, l, _, _, rfl, rfl, hl1, by rw [List.length_map]; exact Nat.lt_of_le_of_lt len (by decide), _, rfl, ?_⟩
          refine k _ _ (wd_nm gn i (by omega)) new ?_
          have z := B1.put (.lst ((tk ++ [wd n (n.cps.toList.take 7) i]).map V.str)) hl
          rw [show (tk ++ [wd n (n.cps.toList.take 7) i]).map V.str = tk.map V.str ++ [V.str (wd n (n.cps.toList.take 7) i)] from by rw [List.map_append]; rfl] at z ⊢
          exact z
        · obtain ⟨c, hc, hm⟩ := at_mem (xs := letters.cps.toList) (r := 0 + (i : Int)) (by omega) (by rw [letters_list, List.length_range']; omega)
          have ec : c = 97 + i := by
            rw [letters_list, Int.zero_add] at hc
            have z := atI_nat (xs := List.range' 97 26) (j := i) (v := 97 + i) (by rw [List.getElem?_range' (by omega)]; simp)
            rw [hc] at z
            exact Option.some.inj z
          refine ⟨_, rfl, _, rfl, _, rfl, letters, _, c, rfl, rfl, by decide +kernel, hc, _, _, rfl, rfl, ?_, some (.int (0 + (i : Nat))), ?_, rfl, fun j hj => ?_⟩
          · have l7 : (ofL (n.cps.toList.take 7)).length ≤ 7 := by
              simp [ofL, Str.length]
              omega
            exact Nat.le_trans (Nat.add_le_add l7 (Nat.le_refl 1)) (show 8 ≤ sizeLine by decide)
          · have e : wd n (n.cps.toList.take 7) (i + 1) = ofL (n.cps.toList.take 7 ++ [97 + i]) := by
              unfold wd
              rw [if_neg (Nat.succ_ne_zero i), show 96 + (i + 1) = 97 + i by omega]
            rw [add_one, ec, e]
            rfl
          · rcases Nat.lt_succ_iff_lt_or_eq.mp hj with z | rfl
            · exact all j z
            · exact old
      · rintro σ H' ⟨v, rfl, rfl, all⟩
        exact absurd (wd_few (n := 26) all) (by omega)
end
end Fm

/-! ## K04F -/
set_option Elab.async false
set_option maxRecDepth 100000
set_option maxHeartbeats 4000000
namespace Fm
open PySem L2
theorem upd_none {F : Hp} {a b : Addr} {o : HO} (h : F a = none) (n : a ≠ b) : upd F b o a = none := by rw [upd_ne n]; exact h
theorem upd_comm {F : Hp} {a b : Addr} {x y : HO} (n : a ≠ b) : upd (upd F a x) b y = upd (upd F b y) a x := by
  funext c
  unfold upd
  by_cases h1 : c = b
  · subst h1
    rw [if_pos rfl, if_neg (Ne.symm n), if_pos rfl]
  · rw [if_neg h1]
    by_cases h2 : c = a
    · rw [if_pos h2, if_pos h2]
    · rw [if_neg h2, if_neg h2, if_neg h1]
theorem nodup_snoc {α : Type} {l : List α} {x : α} (h : l.Nodup) (n : x ∉ l) : (l ++ [x]).Nodup := by
  refine List.pairwise_append.mpr ⟨h, .cons (fun _ m => (by cases m)) .nil, fun a ha b hb e => ?_⟩
  rw [List.mem_singleton.mp hb] at e
  exact n (by rw [← e]; exact ha)
/-- a row of good names, none twice -/
structure Nms (fs : List Str) : Prop where
  lo : 1 ≤ fs.length
  hi : fs.length ≤ 4
  nm : ∀ f ∈ fs, isNm f = true
  nd : fs.Nodup
abbrev Tab := Str × List Str
structure TOk (t : Tab) : Prop where
  nm : isNm t.1 = true
  fs : Nms t.2
def tabD (b : Bool) (t : Tab) : PyData := .tuple [.str t.1, if b = true then .list (t.2.map PyData.str) else .tuple (t.2.map PyData.str)]
structure TsOk (ts : List Tab) : Prop where
  lo : 1 ≤ ts.length
  hi : ts.length ≤ 5
  ok : ∀ t ∈ ts, TOk t
  nd : (ts.map (·.1)).Nodup
/-- a list of tables stands at p -/
def TbAt (F : Hp) (p : Addr) (ts : List Tab) : Prop := ∃ xs, F p = some (.lst xs) ∧ TpAll F xs (ts.map (tabD false))
theorem TbAt.same {F F' : Hp} {p : Addr} {ts : List Tab} (h : TbAt F p ts) (s : Same F F') : TbAt F' p ts := by
  obtain ⟨xs, h1, h2⟩ := h
  exact ⟨xs, s _ _ h1, h2.same s⟩
section
variable {P : Program} {w : World} {K : PySem.W.Frag} {mg : Str → Option Value} {base : Heap} {CS : Addr}
def spTables : Sp := fun vs H Q _ => ∃ (F : Hp) (b : Addr), vs = [.ref b] ∧ Bag F H b ∧ ∀ (p : Addr) (F' H' : Hp) (ts : List Tab), Bag F' H' b → Same F F' → TsOk ts → TbAt F' p ts → Q (.ref p) H'
abbrev s_l_tables : Stmt := topS 34
abbrev sc_l_tablesN : List Str := ["_law_bag_here", "_law_taken", "_law_tables_here", "_law_k", "_law_name_here", "_law_fields", "_law_j"]
abbrev ps_l_tables : List Str := ["_law_bag_here"]
theorem sc_l_tables : FnScope sc_l_tablesN ps_l_tables (defScope s_l_tables) := ⟨rfl, rfl, rfl, by decide +kernel, rfl, by decide +kernel, by decide +kernel⟩
theorem ok_l_tables {f : Addr} {fd : FuncData} (F : Fun K "_law_tables" "_law_tables" s_l_tables f fd) (T : Txt K mg CS) (D_l_pick : Df P w K mg base "_law_pick" 1 ps_l_pick spPick) (D_l_name : Df P w K mg base "_law_name" 2 ps_l_name spName) :
    FnOk P w K mg base CX0 3 f fd ps_l_tables spTables := by
  refine F.ok sc_l_tables (fun vs H Q E h => ?_) (fun cdv A outer s H vs Q E hr h => ?_)
  · obtain ⟨_, _, rfl, _⟩ := h
    rfl
  · obtain ⟨F0, b, rfl, B, k⟩ := h
    refine ⟨_, (pss_cons (ps_set (i := 1) sc_l_tables.nd rfl (Or.inl rfl) (pe_lst pa_nil))
  (pss_cons (ps_set (i := 2) sc_l_tables.nd rfl (Or.inl rfl) (pe_lst pa_nil))
  (pss_cons (ps_for PassesOwn.never rfl (pi_range1 (by rfl) T.n_range (pa_cons (pe_ix ix_list (pe_lst (pa_cons pe_int (pa_cons pe_int (pa_cons pe_int (pa_cons pe_int (pa_cons pe_int pa_nil)))))) (pe_d D_l_pick (hr.mono (by decide)) (pa_cons (pv 0) (pa_cons pe_int pa_nil))) (fun _ _ => rfl)) pa_nil)) (pg_name (i := 3) sc_l_tables.nd rfl (Or.inl rfl))
    (pss_cons (ps_set (i := 4) sc_l_tables.nd rfl (Or.inl rfl) (pe_d D_l_name (hr.mono (by decide)) (pa_cons (pv 0) (pa_cons (pv 1) pa_nil))))
    (pss_cons (ps_set (i := 5) sc_l_tables.nd rfl (Or.inl rfl) (pe_lst pa_nil))
    (pss_cons (ps_for PassesOwn.never rfl (pi_range1 (by rfl) T.n_range (pa_cons (pe_op op_add pe_int (pe_d D_l_pick (hr.mono (by decide)) (pa_cons (pv 0) (pa_cons pe_int pa_nil)))) pa_nil)) (pg_name (i := 6) sc_l_tables.nd rfl (Or.inl rfl))
      (pss_one (ps_expr (pe_d D_l_name (hr.mono (by decide)) (pa_cons (pv 0) (pa_cons (pv 5) pa_nil))))))
    (pss_one (ps_expr (pe_bm PySem.F.plainAttrs_list PySem.F.slot_list_append PySem.F.type_list_append mt_append (pv 2) (pa_cons (pe_tup (pa_cons (pv 4) (pa_cons (pe_callTy call_tuple_of (by rfl) T.n_tuple (by decide +kernel) (pa_cons (pv 5) pa_nil)) pa_nil))) pa_nil))))))))
  (pss_one (ps_ret (pv 2)))))), ?_⟩
    refine ⟨Nat.zero_le _, fun t ht => ⟨Nat.zero_le _, fun p hp => ?_⟩⟩
    have ntp : t ≠ p := ne_of_none upd_same hp
    have fp : F0 p = none := B.fh.free (by rw [upd_ne (Ne.symm ntp)] at hp; exact hp)
    have ft : F0 t = none := B.fh.free ht
    have B2 := (B.new (.lst []) ht).new (.lst []) hp
    refine ⟨(by show 5 ≤ sizeLine; decide), fun m hm => ⟨_, rfl, _, b, 5, rfl, by decide, by decide, B2.new _ hm, fun r H1 r0 r1 B3 => ?_⟩⟩
    obtain ⟨v, hv, hvm⟩ := at_mem (xs := ([2, 1, 2, 3, 5] : List Int).map V.int) r0 r1
    obtain ⟨z, hz, rfl⟩ := List.mem_map.mp hvm
    have z15 : 1 ≤ z ∧ z ≤ 5 := by
      have all : ∀ z ∈ ([2, 1, 2, 3, 5] : List Int), 1 ≤ z ∧ z ≤ 5 := by decide
      exact all z hz
    have B4 := bag_sub (F := upd (upd F0 t (.lst [])) p (.lst [])) (fun a o e => by rw [upd_ne (ne_of_none (B2.fh _ _ e) hm)]; exact e) B3
    refine ⟨m, _, _, _, rfl, rfl, .inl (.inl (B3.fh _ _ upd_same)), hv, z, rfl, by omega, by omega, ?_⟩
    refine for_range (lo := 0) (n := z.toNat) (fun i σ H' => ∃ (G : Hp) (ts : List Tab) (xs : List V) (v3 v4 v5 v6 : Option V), σ = [some (.ref b), some (.ref t), some (.ref p), v3, v4, v5, v6] ∧ Same F0 G ∧ G t = none ∧ G p = none ∧
      Bag (upd (upd G t (.lst ((ts.map (·.1)).map V.str))) p (.lst xs)) H' b ∧ TpAll G xs (ts.map (tabD false)) ∧ ts.length = i ∧ (∀ u ∈ ts, TOk u) ∧ (ts.map (·.1)).Nodup) ?_ ?_ ?_
    · exact ⟨F0, [], [], _, _, _, _, rfl, Same.refl _, ft, fp, B4, .nil, rfl, fun _ m => (by cases m), .nil⟩
    · rintro i σ H2 hi ⟨G, ts, xs, v3, v4, v5, v6, rfl, sG, gt, gp, B5, dx, len, ok, nd⟩
      have lx : xs.length = i := by rw [dx.len, List.length_map]; exact len
      -- the table's name
      refine ⟨_, rfl, _, rfl, _, b, t, ts.map (·.1), rfl, B5, by rw [upd_ne ntp, upd_same], by rw [List.length_map]; omega, fun n H3 gn nn B6 => ?_⟩
      rw [upd_comm (Ne.symm ntp), upd_upd] at B6
      -- its fields
      refine ⟨Nat.zero_le _, fun q hq => ?_⟩
      have B7 := B6.new (.lst []) hq
      have q0 := B6.fh.free hq
      have nqt : q ≠ t := fun e => by rw [e, upd_ne ntp, upd_same] at q0; cases q0
      have nqp : q ≠ p := fun e => by rw [e, upd_same] at q0; cases q0
      have gq : G q = none := by rw [upd_ne nqp, upd_ne nqt] at q0; exact q0
      refine ⟨_, rfl, _, b, 4, rfl, by decide, by decide, B7, fun r H4 r0 r1 B8 => ⟨_, _, rfl, rfl, _, rfl, by omega, by omega, ?_⟩⟩
      refine for_range (lo := 0) (n := (1 + r).toNat) (fun j σ H' => ∃ (fs : List Str) (v6 : Option V), σ = [some (.ref b), some (.ref t), some (.ref p), some (.int (0 + (i : Nat))), some (.str n), some (.ref q), v6] ∧ fs.length = j ∧ (∀ f ∈ fs, isNm f = true) ∧ fs.Nodup ∧
        Bag (upd (upd (upd G t (.lst ((ts.map (·.1) ++ [n]).map V.str))) p (.lst xs)) q (.lst (fs.map V.str))) H' b) ?_ ?_ ?_
      · exact ⟨[], _, rfl, rfl, fun _ m => (by cases m), .nil, B8⟩
      · rintro j σ H5 hj ⟨fs, v6, rfl, lf, gf, nf, B9⟩
        refine ⟨_, rfl, _, rfl, _, b, q, fs, rfl, B9, upd_same, by omega, fun f H6 gf2 nf2 B10 => ?_⟩
        rw [upd_upd] at B10
        refine ⟨fs ++ [f], _, rfl, by rw [List.length_append, lf]; rfl, fun g m => ?_, ?_, B10⟩
        · rcases List.mem_append.mp m with m | m
          · exact gf g m
          · rw [List.mem_singleton.mp m]
            exact gf2
        · exact nodup_snoc nf nf2
      · rintro σ H5 ⟨fs, v6, rfl, lf, gf, nf, B9⟩
        -- the table
        have hq5 := B9.fh _ _ upd_same
        have hp5 : H5 p = some (.lst xs) := B9.fh _ _ (by rw [upd_ne (Ne.symm nqp), upd_same])
        refine ⟨_, rfl, .inl ⟨rfl, _, .inl (.inl hp5)⟩, _, rfl, _, rfl, q, _, rfl, .inl ⟨.inl (.inl hq5), fun u hu => ⟨(by show 2 ≤ sizeLine; decide), fun e he => ?_⟩⟩⟩
        have B11 := (B9.new (.tup (fs.map V.str)) hu).new (.tup [.str n, .ref u]) he
        have u0 := B9.fh.free hu
        have nup : u ≠ p := fun z => by rw [z] at u0; rw [upd_ne (Ne.symm nqp), upd_same] at u0; cases u0
        have nut : u ≠ t := fun z => by rw [z] at u0; rw [upd_ne (Ne.symm nqt), upd_ne ntp, upd_same] at u0; cases u0
        have nuq : u ≠ q := fun z => by rw [z] at u0; rw [upd_same] at u0; cases u0
        have gu : G u = none := by rw [upd_ne nuq, upd_ne nup, upd_ne nut] at u0; exact u0
        have hu2 : (upd H5 u (.tup (fs.map V.str))) u = some (.tup (fs.map V.str)) := upd_same
        have neu : e ≠ u := fun z => by rw [z, hu2] at he; cases he
        have he5 : H5 e = none := by rw [upd_ne neu] at he; exact he
        have e0 := B9.fh.free he5
        have nep : e ≠ p := fun z => by rw [z] at e0; rw [upd_ne (Ne.symm nqp), upd_same] at e0; cases e0
        have net : e ≠ t := fun z => by rw [z] at e0; rw [upd_ne (Ne.symm nqt), upd_ne ntp, upd_same] at e0; cases e0
        have neq : e ≠ q := fun z => by rw [z] at e0; rw [upd_same] at e0; cases e0
        have ge : G e = none := by rw [upd_ne neq, upd_ne nep, upd_ne net] at e0; exact e0
        refine ⟨p, _, _, rfl, rfl, by rw [upd_ne (Ne.symm nep), upd_ne (Ne.symm nup)]; exact hp5, Nat.lt_of_le_of_lt (show xs.length ≤ 100 by omega) (by decide), ?_⟩
        have B12 := B11.put (.lst (xs ++ [.ref e])) (o := .lst xs) (l := p) (by rw [upd_ne (Ne.symm nep), upd_ne (Ne.symm nup), upd_ne (Ne.symm nqp), upd_same])
        rw [upd_comm nep, upd_comm nup, upd_comm nqp, upd_upd, upd_comm (a := p) (b := q) (Ne.symm nqp), upd_comm (a := p) (b := u) (Ne.symm nup), upd_comm (a := p) (b := e) (Ne.symm nep),
          upd_comm (a := t) (b := q) (Ne.symm nqt), upd_comm (a := t) (b := u) (Ne.symm nut), upd_comm (a := t) (b := e) (Ne.symm net)] at B12
        have sG2 : Same G (upd (upd (upd G q (.lst (fs.map V.str))) u (.tup (fs.map V.str))) e (.tup [.str n, .ref u])) := fun a o z => by
          rw [upd_ne (ne_of_none z ge), upd_ne (ne_of_none z gu), upd_ne (ne_of_none z gq)]
          exact z
        refine ⟨_, ts ++ [(n, fs)], xs ++ [.ref e], _, _, _, _, rfl, sG.trans sG2, upd_none (upd_none (upd_none gt (Ne.symm nqt)) (Ne.symm nut)) (Ne.symm net), upd_none (upd_none (upd_none gp (Ne.symm nqp)) (Ne.symm nup)) (Ne.symm nep), ?_, ?_, ?_, ?_, ?_⟩
        · rw [List.map_append]
          exact B12
        · rw [List.map_append]
          exact (dx.same sG2).snoc (.tup upd_same (.cons (.str n) (.cons (.tup (by rw [upd_ne (Ne.symm neu), upd_same]) (TpAll.strs fs)) .nil)))
        · rw [List.length_append, len]
          rfl
        · intro w hw
          rcases List.mem_append.mp hw with hw | hw
          · exact ok w hw
          · rw [List.mem_singleton.mp hw]
            exact ⟨gn, (show 1 ≤ fs.length by omega), (show fs.length ≤ 4 by omega), gf, nf⟩
        · rw [List.map_append]
          exact nodup_snoc nd nn
    · rintro σ H2 ⟨G, ts, xs, v3, v4, v5, v6, rfl, sG, gt, gp, B5, dx, len, ok, nd⟩
      refine ⟨_, rfl, ?_⟩
      refine k p _ H2 ts B5 (fun a o e => ?_) ⟨by omega, by omega, ok, nd⟩ ⟨xs, upd_same, dx.same (fun a o e => ?_)⟩
      · rw [upd_ne (ne_of_none e fp), upd_ne (ne_of_none e ft)]
        exact sG a o e
      · rw [upd_ne (ne_of_none e gp), upd_ne (ne_of_none e gt)]
        exact e
end
end Fm

/-! ## K04H -/
set_option Elab.async false
set_option maxRecDepth 100000
set_option maxHeartbeats 4000000
namespace Fm
open PySem L2
theorem ifF {c : Bool} {A B : Prop} (hc : c = false) (h : B) : if c = true then A else B := by
  rw [hc]
  exact iteF h
theorem ifT {c : Bool} {A B : Prop} (hc : c = true) (h : A) : if c = true then A else B := by
  rw [hc]
  exact iteT h
theorem ix_sq {K : PySem.W.Frag} {H : Hp} {a : Addr} {xs : List V} {i : Int} {v : V} {Q : VK} (h : Sq K H a xs) (hv : atI xs i = some v) (q : Q v H) : rIx K (.ref a) (.int i) H Q := by
  rcases h with h | h
  · exact .inl ⟨a, xs, i, v, rfl, rfl, h, hv, q⟩
  · exact .inr (.inl ⟨a, xs, i, v, rfl, rfl, h, hv, q⟩)
theorem putNew {kvs : List (Key × V)} {k : Key} {z : V} (h : k ∉ kvs.map (·.1)) : putK kvs k z = kvs ++ [(k, z)] := by
  unfold putK
  rw [if_neg]
  intro e
  rw [List.any_eq_true] at e
  obtain ⟨kv, m, q⟩ := e
  exact h (List.mem_map.mpr ⟨kv, m, of_decide_eq_true q⟩)
section
variable {P : Program} {w : World} {K : PySem.W.Frag} {mg : Str → Option Value} {base : Heap} {CS CB : Addr}
/-- a new tree like the one that is given -/
def spCopied (n : Nat) : Sp := fun vs H Q _ => ∃ (F : Hp) (v : V) (d : PyData), vs = [v] ∧ Same F H ∧ Tp F v d ∧ dep d < n ∧ siz d ≤ 100000 ∧ ∀ v' F' H', Grow F H F' H' → Tp F' v' d → Q v' H'
abbrev s_l_copied : Stmt := topS 36
abbrev sc_l_copiedN : List Str := ["_law_thing", "_law_part", "_law_found", "_law_key"]
abbrev ps_l_copied : List Str := ["_law_thing"]
theorem sc_l_copied : FnScope sc_l_copiedN ps_l_copied (defScope s_l_copied) := ⟨rfl, rfl, rfl, by decide +kernel, rfl, by decide +kernel, by decide +kernel⟩
theorem ok_l_copied {f : Addr} {fd : FuncData} (F : Fun K "_law_copied" "_law_copied" s_l_copied f fd) (T : Txt K mg CS) (hm : mg "_law_copied" = some (.ref f)) (hb : Binds K fd ps_l_copied []) : ∀ n, FnOk P w K mg base CX0 n f fd ps_l_copied (spCopied n)
  | 0 => fn_no fun vs H Q E h => by
    obtain ⟨_, _, d, _, _, _, hd, _⟩ := h
    exact absurd hd (Nat.not_lt_zero _)
  | n + 1 => by
    have D_l_copied : Df P w K mg base "_law_copied" n ps_l_copied (spCopied n) := ⟨f, fd, ok_l_copied F T hm hb n, hm, F.kp, hb⟩
    refine F.ok sc_l_copied (fun vs H Q E h => ?_) (fun cdv A outer s H vs Q E hr h => ?_)
    · obtain ⟨_, _, _, rfl, _⟩ := h
      rfl
    · obtain ⟨F0, v, d, rfl, sF, hv, hd, hz, k⟩ := h
      refine ⟨_, (pss_cons (ps_if (pt_val (pe_callB call_isi (by rfl) T.n_isinstance (by decide +kernel) (pa_cons (pv 0) (pa_cons (pe_bltn (v := .ty "tuple") (by rfl) T.n_tuple (by decide +kernel) rfl) pa_nil))))
    (pss_one (ps_ret (pe_callTy call_tuple_of (by rfl) T.n_tuple (by decide +kernel) (pa_cons (pe_lc (own := [("_law_part", 1)]) (g := gName 1) (tt := tYes) (by rfl) sc_l_copied.nd (pi_any (pv 0)) (blkOk_by (own := [("_law_part", 1)]) (N := sc_l_copiedN) (sc := defScope s_l_copied) (by decide +kernel)) (fun _ _ _ _ _ => pg_name (i := 1) sc_l_copied.nd rfl (Or.inl rfl)) (fun _ _ _ _ _ => pts_nil) (fun _ _ _ _ _ => (pe_d D_l_copied hr (pa_cons (pv 1) pa_nil)))) pa_nil))))
    pss_nil)
  (pss_cons (ps_if (pt_val (pe_callB call_isi (by rfl) T.n_isinstance (by decide +kernel) (pa_cons (pv 0) (pa_cons (pe_bltn (v := .ty "list") (by rfl) T.n_list (by decide +kernel) rfl) pa_nil))))
    (pss_one (ps_ret (pe_lc (own := [("_law_part", 1)]) (g := gName 1) (tt := tYes) (by rfl) sc_l_copied.nd (pi_any (pv 0)) (blkOk_by (own := [("_law_part", 1)]) (N := sc_l_copiedN) (sc := defScope s_l_copied) (by decide +kernel)) (fun _ _ _ _ _ => pg_name (i := 1) sc_l_copied.nd rfl (Or.inl rfl)) (fun _ _ _ _ _ => pts_nil) (fun _ _ _ _ _ => (pe_d D_l_copied hr (pa_cons (pv 1) pa_nil))))))
    pss_nil)
  (pss_cons (ps_if (pt_val (pe_callB call_isi (by rfl) T.n_isinstance (by decide +kernel) (pa_cons (pv 0) (pa_cons (pe_bltn (v := .ty "dict") (by rfl) T.n_dict (by decide +kernel) rfl) pa_nil))))
    (pss_cons (ps_set (i := 2) sc_l_copied.nd rfl (Or.inl rfl) pe_dnewK)
    (pss_cons (ps_lock (ps_for PassesOwn.never rfl (pi_keys (pv 0)) (pg_name (i := 3) sc_l_copied.nd rfl (Or.inl rfl))
      (pss_one (ps_asg (pe_d D_l_copied hr (pa_cons (pe_dget (Nat.lt_of_le_of_lt (Nat.add_le_add_left (by decide) _) hr.units) (pv 0) (pv 3) (fun _ _ => rfl)) pa_nil)) (pg_sub (pv 2) (pv 3) (set_dict (Nat.lt_of_le_of_lt (Nat.add_le_add_left (by decide) _) hr.units)))))))
    (pss_one (ps_ret (pv 2)))))
    pss_nil)
  (pss_one (ps_ret (pv 0)))))), ?_⟩
      have kt : ∀ {n : String}, n ∈ ["str", "int", "bool", "list", "tuple", "dict"] → PySem.W.kitOne K (.type (tyD d)) (.type n) = some (isD n d) := fun m => kit_ty (kit_d m)
      have ty := (hv.same sF).ty (K := K)
      refine ⟨_, rfl, _, _, _, _, _, rfl, .ty _, ty, kt (by simp), _, rfl, ?_⟩
      cases d with
      | none => exact iteF ⟨_, rfl, _, _, _, _, _, rfl, .ty _, ty, kt (by simp), _, rfl, iteF ⟨_, rfl, _, _, _, _, _, rfl, .ty _, ty, kt (by simp), _, rfl, iteF ⟨_, rfl, k _ _ _ (Grow.refl sF) hv⟩⟩⟩
      | bool _ => exact iteF ⟨_, rfl, _, _, _, _, _, rfl, .ty _, ty, kt (by simp), _, rfl, iteF ⟨_, rfl, _, _, _, _, _, rfl, .ty _, ty, kt (by simp), _, rfl, iteF ⟨_, rfl, k _ _ _ (Grow.refl sF) hv⟩⟩⟩
      | int _ => exact iteF ⟨_, rfl, _, _, _, _, _, rfl, .ty _, ty, kt (by simp), _, rfl, iteF ⟨_, rfl, _, _, _, _, _, rfl, .ty _, ty, kt (by simp), _, rfl, iteF ⟨_, rfl, k _ _ _ (Grow.refl sF) hv⟩⟩⟩
      | str _ => exact iteF ⟨_, rfl, _, _, _, _, _, rfl, .ty _, ty, kt (by simp), _, rfl, iteF ⟨_, rfl, _, _, _, _, _, rfl, .ty _, ty, kt (by simp), _, rfl, iteF ⟨_, rfl, k _ _ _ (Grow.refl sF) hv⟩⟩⟩
      | tuple ds =>
        obtain ⟨a, xs, rfl, hx, ha⟩ := hv.tuple
        have hd2 : 1 + depL ds < n + 1 := hd
        have hz2 : 1 + sizL ds ≤ 100000 := hz
        have ls := siz_len ds
        refine iteT ⟨_, rfl, a, xs, rfl, any_of (K := K) (rw_sq (.inr hx)) sF fun J G gm wk => (fun D hD => ?_)⟩
        refine lc_it wk (fun i H' => ∃ F' ys, Acc F0 H D F' H' ys ∧ TpAll F' ys (ds.take i)) ⟨F0, [], Acc.start sF hD, .nil⟩ (fun i H' _ z => by obtain ⟨F', ys, ac, _⟩ := z; exact gm H' (ac.g.ff.trans ac.g.fh)) ?_ ?_
        · rintro i x H2 H3 hi ⟨F2, ys, ac, ta⟩ ⟨rfl, hxi⟩
          obtain ⟨c, hc, hcv⟩ := ha.at hxi
          have mc := List.mem_of_getElem? hc
          have y1 := dep_mem mc
          have y2 := siz_mem mc
          refine ⟨rfl, _, rfl, F2, x, c, rfl, ac.g.fh, hcv.same ac.g.ff, by omega, by omega, fun y F3 H4 g ty => ?_⟩
          have ac2 := ac.then g
          refine ⟨ys, ac2.at_, ?_, F3, ys ++ [y], ac2.add _, ?_⟩
          · rw [ta.len, List.length_take]
            exact Nat.lt_of_le_of_lt (show min i ds.length ≤ 100000 by omega) (by decide)
          · rw [List.take_add_one, hc]
            exact (ta.same g.ff).snoc ty
        · rintro H2 ⟨F2, ys, ac, ta⟩
          rw [ha.len, List.take_length] at ta
          refine ⟨D, ys, rfl, .inl ⟨.inl (.inl ac.at_), fun l hl => ?_⟩⟩
          exact k _ _ _ (ac.g.trans (Grow.new ac.g.fh _ hl)) (.tup upd_same (ta.same (same_new _ (ac.g.fh.free hl))))
      | list ds =>
        obtain ⟨a, xs, rfl, hx, ha⟩ := hv.list
        have hd2 : 1 + depL ds < n + 1 := hd
        have hz2 : 1 + sizL ds ≤ 100000 := hz
        have ls := siz_len ds
        refine iteF ⟨_, rfl, _, _, _, _, _, rfl, .ty _, ty, kt (by simp), _, rfl, iteT ⟨_, rfl, a, xs, rfl, any_of (K := K) (rw_sq (.inl hx)) sF fun J G gm wk => (fun D hD => ?_)⟩⟩
        refine lc_it wk (fun i H' => ∃ F' ys, Acc F0 H D F' H' ys ∧ TpAll F' ys (ds.take i)) ⟨F0, [], Acc.start sF hD, .nil⟩ (fun i H' _ z => by obtain ⟨F', ys, ac, _⟩ := z; exact gm H' (ac.g.ff.trans ac.g.fh)) ?_ ?_
        · rintro i x H2 H3 hi ⟨F2, ys, ac, ta⟩ ⟨rfl, hxi⟩
          obtain ⟨c, hc, hcv⟩ := ha.at hxi
          have mc := List.mem_of_getElem? hc
          have y1 := dep_mem mc
          have y2 := siz_mem mc
          refine ⟨rfl, _, rfl, F2, x, c, rfl, ac.g.fh, hcv.same ac.g.ff, by omega, by omega, fun y F3 H4 g ty => ?_⟩
          have ac2 := ac.then g
          refine ⟨ys, ac2.at_, ?_, F3, ys ++ [y], ac2.add _, ?_⟩
          · rw [ta.len, List.length_take]
            exact Nat.lt_of_le_of_lt (show min i ds.length ≤ 100000 by omega) (by decide)
          · rw [List.take_add_one, hc]
            exact (ta.same g.ff).snoc ty
        · rintro H2 ⟨F2, ys, ac, ta⟩
          rw [ha.len, List.take_length] at ta
          exact k _ _ _ ac.keep (.lst upd_same (ta.same (same_new _ ac.no)))
      | dict es =>
        obtain ⟨a, kvs, rfl, ha, ta, na⟩ := hv.dict
        have ty2 : TyX K H (.ref a) (.type "dict") := .base (.dK (sF _ _ ha))
        have hvc : Tp F0 (.ref a) (.dict es) := .dct ha ta na
        have y3 : dep (.dict es) = 1 + depE es := rfl
        have y4 : siz (.dict es) = 1 + sizE es := rfl
        have lk : kvs.length ≤ 100000 := by
          have z := sizE_len es
          rw [ta.len]
          omega
        refine iteF ⟨_, rfl, _, _, _, _, _, rfl, .ty _, ty, kt (by simp), _, rfl, iteF ⟨_, rfl, _, _, _, _, _, rfl, .ty _, ty, kt (by simp), _, rfl, iteT ?_⟩⟩
        intro q hq
        have nqa : q ≠ a := Ne.symm (ne_of_none (sF _ _ ha) hq)
        have Fq := sF.free hq
        have hqa : (upd H q (.dK [])) a = some (.dK kvs) := by rw [upd_ne (Ne.symm nqa)]; exact sF _ _ ha
        refine ⟨a, _, hqa, trivial, fun od => ?_⟩
        have hL : (upd (upd H q (.dK [])) a (.frz od (.dK kvs))) a = some (.frz od (.dK kvs)) := upd_same
        have hLq : (upd (upd H q (.dK [])) a (.frz od (.dK kvs))) q = some (.dK []) := by rw [upd_ne nqa, upd_same]
        have toL : ∀ c o, c ≠ a → H c = some o → (upd (upd H q (.dK [])) a (.frz od (.dK kvs))) c = some o := fun c o n e => by
          rw [upd_ne n, upd_ne (ne_of_none e hq)]
          exact e
        have s1 : Same (cut F0 a) (upd (upd H q (.dK [])) a (.frz od (.dK kvs))) := fun c o e => by
          have n : c ≠ a := ne_of_none e cut_at
          rw [cut_ne n] at e
          exact toL c o n (sF _ _ e)
        generalize upd (upd H q (.dK [])) a (.frz od (.dK kvs)) = HL at *
        refine ⟨_, rfl, a, od, rfl, .inl ⟨_, hL, ?_⟩⟩
        refine for_it walk_keys (fun i σ H' => ∃ (v3 : Option V) (F2 : Hp) (ys : List (Key × V)), σ = [some (.ref a), none, some (.ref q), v3] ∧ F2 q = none ∧ H' q = some (.dK ys) ∧ ys.map (·.1) = (kvs.take i).map (·.1) ∧ TpKV F2 ys (es.take i) ∧ Same (cut F0 a) F2 ∧ F2 a = none ∧ H' a = some (.frz od (.dK kvs)) ∧ Same F2 H' ∧
            (∀ c o, cut F0 a c = none → HL c = some o → c ≠ q → F2 c = none ∧ H' c = some o))
          ⟨_, cut F0 a, [], rfl, by rw [cut_ne nqa]; exact Fq, hLq, rfl, .nil, Same.refl _, cut_at, hL, s1, fun c o e1 e2 _ => ⟨e1, e2⟩⟩ (fun i σ H' _ z => by obtain ⟨_, _, _, _, _, _, _, _, _, _, z, _⟩ := z; exact z) ?_ ?_
        · rintro i x σ H2 H3 hi ⟨v3, F2, ys, rfl, f2q, h2q, eys, tys, s12, f2a, h2a, s2, keep⟩ ⟨rfl, kk, v0, hk, rfl⟩
          obtain ⟨d, hd1, td⟩ := ta.at hk
          have md := List.mem_of_getElem? hd1
          have y1 := depE_mem md
          have y2 := sizE_mem md
          have tl : Tp F2 v0 d := (Tp.beneath hvc td (by omega)).same s12
          have vk := valV_at na hk
          refine ⟨_, rfl, _, rfl, a, _, rfl, .inl ⟨kvs, kk, .inr ⟨od, h2a⟩, rfl, vk.symm⟩, F2, v0, d, rfl, s2, tl, by omega, by omega, fun v' F3 H4 g ht => ?_⟩
          obtain ⟨f3q, h4q⟩ := g.hh q _ f2q h2q
          obtain ⟨f3a, h4a⟩ := g.hh a _ f2a h2a
          have lys : ys.length ≤ 100000 := by
            have z := congrArg List.length eys
            rw [List.length_map, List.length_map, List.length_take] at z
            omega
          have nk : kk ∉ ys.map (·.1) := by
            rw [eys, List.map_take]
            exact nodup_take na (by rw [List.getElem?_map, hk]; rfl)
          refine ⟨_, rfl, _, rfl, q, _, rfl, .inl ⟨ys, kk, h4q, rfl, Nat.lt_of_le_of_lt lys (by decide), rfl⟩, ?_⟩
          refine ⟨_, F3, ys ++ [(kk, v')], rfl, f3q, by rw [upd_same, putNew nk], ?_, ?_, s12.trans g.ff, f3a, by rw [upd_ne (Ne.symm nqa)]; exact h4a, same_put g.fh _ f3q, fun c o e1 e2 n => ?_⟩
          · rw [List.map_append, eys, map_take _ hk]
            rfl
          · rw [List.take_add_one, hd1]
            exact (tys.same g.ff).snoc ht
          · obtain ⟨z1, z2⟩ := keep c o e1 e2 n
            obtain ⟨z3, z4⟩ := g.hh c o z1 z2
            exact ⟨z3, by rw [upd_ne n]; exact z4⟩
        · rintro σ H2 ⟨v3, F2, ys, rfl, f2q, h2q, eys, tys, s12, f2a, h2a, s2, keep⟩
          rw [ta.len, List.take_length] at tys
          rw [List.take_length] at eys
          refine ⟨h2a, _, rfl, ?_⟩
          have fq2 : (upd F2 a (.dK kvs)) q = none := by rw [upd_ne nqa]; exact f2q
          have s3 : Same F2 (upd (upd F2 a (.dK kvs)) q (.dK ys)) := (same_new _ f2a).trans (same_new _ fq2)
          refine k (.ref q) (upd (upd F2 a (.dK kvs)) q (.dK ys)) _ ⟨fun c o e => ?_, fun c o e => ?_, fun c o e1 e2 => ?_⟩ (.dct upd_same (tys.same s3) (by rw [eys]; exact na))
          · have nq : c ≠ q := ne_of_none e Fq
            rw [upd_ne nq]
            by_cases z : c = a
            · rw [z, upd_same, ← ha, ← e, z]
            · rw [upd_ne z]
              exact s12 _ _ (by rw [cut_ne z]; exact e)
          · by_cases nq : c = q
            · rw [nq, upd_same] at e
              rw [nq, upd_ne nqa, h2q]
              exact e
            · rw [upd_ne nq] at e
              by_cases z : c = a
              · rw [z, upd_same] at e ⊢
                exact e
              · rw [upd_ne z] at e ⊢
                exact s2 _ _ e
          · have nq : c ≠ q := ne_of_none e2 hq
            have z : c ≠ a := fun z => by rw [z, ha] at e1; cases e1
            obtain ⟨z1, z2⟩ := keep c o (by rw [cut_ne z]; exact e1) (toL c o z e2) nq
            rw [upd_ne nq, upd_ne z, upd_ne z]
            exact ⟨z1, z2⟩
/-- two trees that are the same -/
def spAlike (n : Nat) : Sp := fun vs H Q _ => ∃ (v u : V) (d : PyData), vs = [v, u] ∧ Tp H v d ∧ Tp H u d ∧ dep d < n ∧ siz d ≤ 100000 ∧ ∀ H', Same H H' → Q (.bl true) H'
abbrev s_l_alike : Stmt := topS 37
abbrev sc_l_alikeN : List Str := ["_law_one", "_law_other", "_law_k", "_law_key"]
abbrev ps_l_alike : List Str := ["_law_one", "_law_other"]
theorem sc_l_alike : FnScope sc_l_alikeN ps_l_alike (defScope s_l_alike) := ⟨rfl, rfl, rfl, by decide +kernel, rfl, by decide +kernel, by decide +kernel⟩
theorem ok_l_alike {f : Addr} {fd : FuncData} (F : Fun K "_law_alike" "_law_alike" s_l_alike f fd) (T : Txt K mg CS) (hm : mg "_law_alike" = some (.ref f)) (hb : Binds K fd ps_l_alike []) : ∀ n, FnOk P w K mg base CX0 n f fd ps_l_alike (spAlike n)
  | 0 => fn_no fun vs H Q E h => by
    obtain ⟨_, _, d, _, _, _, hd, _⟩ := h
    exact absurd hd (Nat.not_lt_zero _)
  | n + 1 => by
    have D_l_alike : Df P w K mg base "_law_alike" n ps_l_alike (spAlike n) := ⟨f, fd, ok_l_alike F T hm hb n, hm, F.kp, hb⟩
    refine F.ok sc_l_alike (fun vs H Q E h => ?_) (fun cdv A outer s H vs Q E hr h => ?_)
    · obtain ⟨_, _, _, rfl, _⟩ := h
      rfl
    · obtain ⟨v, u, d, rfl, hv, hu, hd, hz, k⟩ := h
      refine ⟨_, (pss_cons (ps_if (pt_val (pe_callB call_isiT (by rfl) T.n_isinstance (by decide +kernel) (pa_cons (pv 0) (pa_cons (pe_tup (pa_cons (pe_bltn (v := .ty "list") (by rfl) T.n_list (by decide +kernel) rfl) (pa_cons (pe_bltn (v := .ty "tuple") (by rfl) T.n_tuple (by decide +kernel) rfl) pa_nil))) pa_nil))))
    (pss_cons (ps_if (PW.pt (pw_or (pt_cmpR op_ne (pe_callB call_isi (by rfl) T.n_isinstance (by decide +kernel) (pa_cons (pv 0) (pa_cons (pe_bltn (v := .ty "list") (by rfl) T.n_list (by decide +kernel) rfl) pa_nil))) (pe_callB call_isi (by rfl) T.n_isinstance (by decide +kernel) (pa_cons (pv 1) (pa_cons (pe_bltn (v := .ty "list") (by rfl) T.n_list (by decide +kernel) rfl) pa_nil))) (nomark _)) (pw_or1 (pt_cmpR op_ne (pe_callB call_isi (by rfl) T.n_isinstance (by decide +kernel) (pa_cons (pv 0) (pa_cons (pe_bltn (v := .ty "tuple") (by rfl) T.n_tuple (by decide +kernel) rfl) pa_nil))) (pe_callB call_isi (by rfl) T.n_isinstance (by decide +kernel) (pa_cons (pv 1) (pa_cons (pe_bltn (v := .ty "tuple") (by rfl) T.n_tuple (by decide +kernel) rfl) pa_nil))) (nomark _)))))
      (pss_one (ps_ret pe_bl))
      pss_nil)
    (pss_cons (ps_if (pt_cmpR op_ne (pe_callB call_len_seq (by rfl) T.n_len (by decide +kernel) (pa_cons (pv 0) pa_nil)) (pe_callB call_len_seq (by rfl) T.n_len (by decide +kernel) (pa_cons (pv 1) pa_nil)) (nomark _))
      (pss_one (ps_ret pe_bl))
      pss_nil)
    (pss_one (ps_ret (pe_callB (cr_all (by rfl)) (by rfl) T.n_all (by decide +kernel) (pa_cons (pe_lc (own := [("_law_k", 2)]) (g := gName 2) (tt := tYes) (by rfl) sc_l_alike.nd (pi_range1 (by rfl) T.n_range (pa_cons (pe_callB call_len_seq (by rfl) T.n_len (by decide +kernel) (pa_cons (pv 0) pa_nil)) pa_nil)) (blkOk_by (own := [("_law_k", 2)]) (N := sc_l_alikeN) (sc := defScope s_l_alike) (by decide +kernel)) (fun _ _ _ _ _ => pg_name (i := 2) sc_l_alike.nd rfl (Or.inl rfl)) (fun _ _ _ _ _ => pts_nil) (fun _ _ _ _ _ => (pe_d D_l_alike hr (pa_cons (pe_ix (ixK_seq (K := K)) (pv 0) (pv 2) (fun _ _ => rfl)) (pa_cons (pe_ix (ixK_seq (K := K)) (pv 1) (pv 2) (fun _ _ => rfl)) pa_nil))))) pa_nil))))))
    pss_nil)
  (pss_cons (ps_if (PW.pt (pw_and (pt_val (pe_callB call_isi (by rfl) T.n_isinstance (by decide +kernel) (pa_cons (pv 0) (pa_cons (pe_bltn (v := .ty "dict") (by rfl) T.n_dict (by decide +kernel) rfl) pa_nil)))) (pw_and1 (pt_val (pe_callB call_isi (by rfl) T.n_isinstance (by decide +kernel) (pa_cons (pv 1) (pa_cons (pe_bltn (v := .ty "dict") (by rfl) T.n_dict (by decide +kernel) rfl) pa_nil)))))))
    (pss_cons (ps_if (pt_cmpR op_ne (pe_callB call_lenD (by rfl) T.n_len (by decide +kernel) (pa_cons (pv 0) pa_nil)) (pe_callB call_lenD (by rfl) T.n_len (by decide +kernel) (pa_cons (pv 1) pa_nil)) (nomark _))
      (pss_one (ps_ret pe_bl))
      pss_nil)
    (pss_one (ps_ret (pe_lock (pe_callB (cr_all (by rfl)) (by rfl) T.n_all (by decide +kernel) (pa_cons (pe_lc (own := [("_law_key", 3)]) (g := gName 3) (tt := tYes) (by rfl) sc_l_alike.nd (pi_keys (pv 0)) (blkOk_by (own := [("_law_key", 3)]) (N := sc_l_alikeN) (sc := defScope s_l_alike) (by decide +kernel)) (fun _ _ _ _ _ => pg_name (i := 3) sc_l_alike.nd rfl (Or.inl rfl)) (fun _ _ _ _ _ => pts_nil) (fun _ _ _ _ _ => (pe_and (pe_cmp (pc_din (Nat.lt_of_le_of_lt (Nat.add_le_add_left (by decide) _) hr.units) (pv 3) (pv 1)) (by rfl)) (pe_one (pe_d D_l_alike hr (pa_cons (pe_dget (Nat.lt_of_le_of_lt (Nat.add_le_add_left (by decide) _) hr.units) (pv 0) (pv 3) (fun _ _ => rfl)) (pa_cons (pe_dget1 (Nat.lt_of_le_of_lt (Nat.add_le_add_left (by decide) _) hr.units) (pv 1) (pv 3) ⟨rfl, rfl, rfl, rfl⟩) pa_nil))))))) pa_nil))))))
    pss_nil)
  (pss_one (ps_ret (pe_and (pe_cmpR op_eq (pe_callB call_isi (by rfl) T.n_isinstance (by decide +kernel) (pa_cons (pv 0) (pa_cons (pe_bltn (v := .ty "bool") (by rfl) T.n_bool (by decide +kernel) rfl) pa_nil))) (pe_callB call_isi (by rfl) T.n_isinstance (by decide +kernel) (pa_cons (pv 1) (pa_cons (pe_bltn (v := .ty "bool") (by rfl) T.n_bool (by decide +kernel) rfl) pa_nil))) (nomark _)) (pe_one (pe_cmpR op_eq (pv 0) (pv 1) (nomark _)))))))), ?_⟩
      refine ⟨_, rfl, (by show 2 ≤ sizeLine; decide), fun tp htp => ?_⟩
      have s1 : Same H (upd H tp (.tup [.ty "list", .ty "tuple"])) := same_new _ htp
      have hv1 := hv.same s1
      have hu1 := hu.same s1
      have up : (upd H tp (.tup [.ty "list", .ty "tuple"])) tp = some (.tup [.ty "list", .ty "tuple"]) := upd_same
      generalize upd H tp (.tup [.ty "list", .ty "tuple"]) = H1 at *
      have ty1 := hv1.ty (K := K)
      have ty2 := hu1.ty (K := K)
      have kt : ∀ {n : String}, n ∈ ["str", "int", "bool", "list", "tuple", "dict"] → PySem.W.kitOne K (.type (tyD d)) (.type n) = some (isD n d) := fun m => kit_ty (kit_d m)
      have same : ∀ v : V, (!decide (v = v)) = false := fun v => by simp
      refine ⟨_, tp, _, _, _, _, rfl, up, clsLT, ty1, kitAny_row, _, rfl, ?_⟩
      cases er : isRowD d with
      | true =>
        obtain ⟨a, xs, rfl, hx, ha⟩ := hv1.row er
        obtain ⟨c, ys, rfl, hy, hc⟩ := hu1.row er
        have l1 := ha.len
        have l2 := hc.len
        rw [dep_row er] at hd
        rw [siz_row er] at hz
        have ls := siz_len (partsD d)
        refine iteT ?_
        refine ⟨_, rfl, _, _, _, _, _, rfl, .ty _, ty1, kt (by simp), _, rfl, _, _, _, _, _, rfl, .ty _, ty2, kt (by simp), rfl, _, rfl, ifF (same _) ?_⟩
        refine ⟨_, rfl, _, _, _, _, _, rfl, .ty _, ty1, kt (by simp), _, rfl, _, _, _, _, _, rfl, .ty _, ty2, kt (by simp), rfl, _, rfl, ifF (same _) ?_⟩
        refine ⟨_, rfl, a, xs, rfl, rw_sq hx, _, rfl, c, ys, rfl, rw_sq hy, rfl, _, rfl, ifF (by rw [l1, l2]; exact same _) ?_⟩
        refine ⟨_, rfl, a, xs, rfl, rw_sq hx, _, rfl, by omega, by omega, fun D hD => ?_⟩
        refine lc_range (lo := 0) (n := xs.length) (fun i H' => Same H1 H' ∧ H' D = some (.lst ((xs.take i).map fun _ => V.bl true))) ⟨same_new _ hD, by rw [upd_same]; rfl⟩ ?_ ?_
        · rintro i H2 hi ⟨s2, d2⟩
          have hx1 : xs[i]? = some xs[i] := List.getElem?_eq_getElem hi
          have hy1 : ys[i]? = some (ys[i]'(by omega)) := List.getElem?_eq_getElem _
          obtain ⟨d1, e1, q1⟩ := ha.at hx1
          obtain ⟨d3, e3, q3⟩ := hc.at hy1
          obtain rfl : d1 = d3 := by rw [e1] at e3; exact Option.some.inj e3
          have md := List.mem_of_getElem? e1
          have y1 := dep_mem md
          have y2 := siz_mem md
          refine ⟨rfl, _, rfl, _, rfl, ix_sq (rw_sq (hx.same s2)) (by rw [Int.zero_add]; exact atI_nat hx1) ?_⟩
          refine ⟨_, rfl, _, rfl, ix_sq (rw_sq (hy.same s2)) (by rw [Int.zero_add]; exact atI_nat hy1) ?_⟩
          refine ⟨_, _, d1, rfl, q1.same s2, q3.same s2, by omega, by omega, fun H4 s4 => ?_⟩
          refine ⟨_, s4 _ _ d2, take_lt _ (by omega), same_put (s2.trans s4) _ hD, ?_⟩
          rw [upd_same, map_take _ hx1]
        · rintro H2 ⟨s2, d2⟩
          rw [List.take_length, bl_map] at d2
          refine ⟨D, _, rfl, .inl (.inl d2), ?_⟩
          have e3 : (xs.map fun _ => true).all id = true := by
            rw [List.all_map]
            simp
          rw [e3]
          exact k _ (s1.trans s2)
      | false =>
        refine iteF ⟨_, rfl, _, _, _, _, _, rfl, .ty _, ty1, kt (by simp), _, rfl, ?_⟩
        cases d with
        | list _ => cases er
        | tuple _ => cases er
        | dict es =>
          obtain ⟨a, kvs, rfl, ha, ta, na⟩ := hv1.dict
          obtain ⟨c, lvs, rfl, hc, tc, nc⟩ := hu1.dict
          have ek := ta.keys tc
          have le : kvs.length = lvs.length := by rw [ta.len, tc.len]
          have lk : kvs.length ≤ 100000 := by
            have z := sizE_len es
            have y : siz (.dict es) = 1 + sizE es := rfl
            rw [ta.len]
            omega
          refine iteT ⟨_, rfl, _, _, _, _, _, rfl, .ty _, ty2, kt (by simp), _, rfl, iteT ?_⟩
          refine ⟨_, rfl, a, _, rfl, ha, _, rfl, c, _, rfl, hc, rfl, _, rfl, ifF (by rw [le]; exact same _) ?_⟩
          refine ⟨a, _, ha, trivial, fun od => ?_⟩
          have hL : (upd H1 a (.frz od (.dK kvs))) a = some (.frz od (.dK kvs)) := upd_same
          have back : ∀ H', Same (upd H1 a (.frz od (.dK kvs))) H' → Same H (upd H' a (.dK kvs)) := fun H' q b' o e => by
            by_cases z : b' = a
            · rw [z, upd_same]
              rw [← ha, ← s1 _ _ e, z]
            · rw [upd_ne z]
              exact q b' o (by rw [upd_ne z]; exact s1 b' o e)
          have rdc : Rd (upd H1 a (.frz od (.dK kvs))) c (.dK lvs) := by
            by_cases z : c = a
            · rw [z, ha] at hc
              rw [z, ← HO.dK.inj (Option.some.inj hc)]
              exact .inr ⟨od, upd_same⟩
            · exact .inl (by rw [upd_ne z]; exact hc)
          have sL : Same (Fm.cut H1 a) (upd H1 a (.frz od (.dK kvs))) := fun b o e => by
            have n : b ≠ a := ne_of_none e cut_at
            rw [upd_ne n]
            rw [cut_ne n] at e
            exact e
          have hvc : Tp H1 (.ref a) (.dict es) := .dct ha ta na
          generalize upd H1 a (.frz od (.dK kvs)) = HL at *
          refine ⟨_, rfl, a, od, rfl, .inl ⟨_, hL, fun D hD => ?_⟩⟩
          have rd2 : ∀ {G : Hp}, Same HL G → Rd G c (.dK lvs) := fun s => rdc.imp (fun e => s _ _ e) fun ⟨o, e⟩ => ⟨o, s _ _ e⟩
          refine lc_it walk_keys (fun i H' => Same HL H' ∧ H' D = some (.lst ((kvs.take i).map fun _ => V.bl true))) ⟨same_new _ hD, by rw [upd_same]; rfl⟩ (fun i H' _ z => z.1 _ _ hL) ?_ ?_
          · rintro i x H2 H3 hi ⟨s2, d2⟩ ⟨rfl, kk, v0, hk, rfl⟩
            obtain ⟨v, u, d, z1, z2, z3, z4, z5⟩ := ta.both tc (List.mem_map.mpr ⟨(kk, v0), List.mem_of_getElem? hk, rfl⟩)
            have y1 := depE_mem z3
            have y2 := sizE_mem z3
            have y3 : dep (.dict es) = 1 + depE es := rfl
            have y4 : siz (.dict es) = 1 + sizE es := rfl
            have t4 := ((Tp.beneath hvc z4 (by omega)).same sL).same s2
            have t5 := ((Tp.beneath hvc z5 (by omega)).same sL).same s2
            have rd : Rd H3 a (.dK kvs) := .inr ⟨od, s2 _ _ hL⟩
            have dg : DGet H3 a (kV kk) (some v) := .inl ⟨_, _, rd, rfl, z1.symm⟩
            have dgc : DGet H3 c (kV kk) (some u) := .inl ⟨_, _, rd2 s2, rfl, z2.symm⟩
            refine ⟨rfl, _, rfl, _, rfl, c, _, rfl, dgc, _, rfl, iteT ?_⟩
            refine ⟨_, rfl, _, rfl, a, _, rfl, dg, _, rfl, c, rfl, .inl ⟨_, rd2 s2⟩, _, rfl, some u, dgc, v, u, d, rfl, t4, t5, by omega, by omega, fun H4 s4 => ?_⟩
            refine ⟨_, s4 _ _ d2, take_lt _ lk, same_put (s2.trans s4) _ hD, ?_⟩
            rw [upd_same, map_take _ hk]
          · rintro H2 ⟨s2, d2⟩
            rw [List.take_length, bl_map] at d2
            refine ⟨D, _, rfl, .inl (.inl d2), s2 _ _ hL, ?_⟩
            have e3 : (kvs.map fun _ => true).all id = true := by
              rw [List.all_map]
              simp
            rw [e3]
            exact k _ (back _ s2)
        | none =>
          cases hv1
          cases hu1
          refine iteF (iteF ⟨_, rfl, _, _, _, _, _, rfl, .ty _, ty1, kt (by simp), _, rfl, _, _, _, _, _, rfl, .ty _, ty2, kt (by simp), rfl, _, rfl, ifT (decide_eq_true rfl) ⟨_, rfl, _, rfl, rfl, ?_⟩⟩)
          rw [decide_eq_true rfl]
          exact k _ s1
        | bool b =>
          cases hv1
          cases hu1
          refine iteF (iteF ⟨_, rfl, _, _, _, _, _, rfl, .ty _, ty1, kt (by simp), _, rfl, _, _, _, _, _, rfl, .ty _, ty2, kt (by simp), rfl, _, rfl, ifT (decide_eq_true rfl) ⟨_, rfl, _, rfl, rfl, ?_⟩⟩)
          rw [decide_eq_true rfl]
          exact k _ s1
        | int b =>
          cases hv1
          cases hu1
          refine iteF (iteF ⟨_, rfl, _, _, _, _, _, rfl, .ty _, ty1, kt (by simp), _, rfl, _, _, _, _, _, rfl, .ty _, ty2, kt (by simp), rfl, _, rfl, ifT (decide_eq_true rfl) ⟨_, rfl, _, rfl, rfl, ?_⟩⟩)
          rw [decide_eq_true rfl]
          exact k _ s1
        | str b =>
          cases hv1
          cases hu1
          refine iteF (iteF ⟨_, rfl, _, _, _, _, _, rfl, .ty _, ty1, kt (by simp), _, rfl, _, _, _, _, _, rfl, .ty _, ty2, kt (by simp), rfl, _, rfl, ifT (decide_eq_true rfl) ⟨_, rfl, _, rfl, rfl, ?_⟩⟩)
          rw [decide_eq_true rfl]
          exact k _ s1
end
end Fm

/-! ## K04P -/
set_option Elab.async false
set_option maxRecDepth 100000
set_option maxHeartbeats 4000000
namespace Fm
open PySem L2
theorem cutV_from (xs : List V) (k : Nat) (h : k ≤ xs.length) : cutV xs (some (k : Int)) none = xs.drop k := by
  unfold cutV
  rw [HT.sIx_none, HT.sIx_nat, Nat.min_eq_left h, List.take_of_length_le (by rw [List.length_drop]; omega)]
theorem sizL_app : ∀ ds es : List PyData, sizL (ds ++ es) = sizL ds + sizL es
  | [], es => by show sizL es = 0 + sizL es; rw [Nat.zero_add]
  | d :: ds, es => by
    show siz d + sizL (ds ++ es) = siz d + sizL ds + sizL es
    rw [sizL_app ds es, Nat.add_assoc]
theorem depL_sub : ∀ {es ds : List PyData}, (∀ c ∈ es, c ∈ ds) → depL es ≤ depL ds
  | [], _, _ => Nat.zero_le _
  | e :: es, ds, h => Nat.max_le.mpr ⟨dep_mem (h e List.mem_cons_self), depL_sub fun c m => h c (List.mem_cons_of_mem _ m)⟩
theorem sizL_drop (ds : List PyData) (n : Nat) : sizL (ds.drop n) ≤ sizL ds := by
  have z := sizL_app (ds.take n) (ds.drop n)
  rw [List.take_append_drop] at z
  omega
theorem sizL_take (ds : List PyData) (n : Nat) : sizL (ds.take n) ≤ sizL ds := by
  have z := sizL_app (ds.take n) (ds.drop n)
  rw [List.take_append_drop] at z
  omega
def isIntD : PyData → Bool
  | .int _ => true
  | _ => false
end Fm

/-! ## K04S -/
set_option Elab.async false
set_option maxRecDepth 100000
set_option maxHeartbeats 4000000
namespace Fm
open PySem L2
/-- what the top has left of names, for the stores -/
structure Tx2 (K : PySem.W.Frag) (mg : Str → Option Value) (CT : Addr) : Prop where
  g_Store : mg "Store" = some (.ref CT)
  clT : Cls K CT
  nSh : NoAttr K CT "shape"
  nRw : NoAttr K CT "_rows"
/-! ### rows of values -/
def isValD : PyData → Bool
  | .int i => decide (-1000000000 ≤ i) && decide (i ≤ 1000000000)
  | _ => false
/-- a row of w values -/
def okRow (w : Nat) (d : PyData) : Bool := rowD3 w w d && (partsD d).all isValD
/-- the first row that is not one of w values -/
def firstWrong (w : Nat) (R : List PyData) : Option Nat := R.findIdx? fun d => !okRow w d
theorem first_none {w : Nat} {R : List PyData} (h : ∀ (j : Nat) (r : PyData), R[j]? = some r → okRow w r = true) : firstWrong w R = none := by
  unfold firstWrong
  rw [List.findIdx?_eq_none_iff]
  intro r m
  obtain ⟨j, hj⟩ := List.getElem?_of_mem m
  rw [h j r hj]
  rfl
theorem first_hit {w : Nat} {R : List PyData} {i : Nat} {r : PyData} (h : ∀ (j : Nat) (r : PyData), j < i → R[j]? = some r → okRow w r = true) (hi : R[i]? = some r) (n : okRow w r = false) : firstWrong w R = some i := by
  unfold firstWrong
  obtain ⟨hl, e⟩ := List.getElem?_eq_some_iff.mp hi
  rw [List.findIdx?_eq_some_iff_getElem]
  refine ⟨hl, ?_, fun j hj => ?_⟩
  · rw [e, n]
    rfl
  · rw [h j _ hj (List.getElem?_eq_getElem _)]
    decide
/-- the index of the first wrong row of what stands in the place of the rows -/
def firstD (w : Nat) (d : PyData) : Option Int := if isRowD d = true then (firstWrong w (partsD d)).map Int.ofNat else some (-1)
def optV : Option Int → V
  | none => .non
  | some i => .int i
section
variable {P : Program} {w : World} {K : PySem.W.Frag} {mg : Str → Option Value} {base : Heap} {CS CT : Addr}
def spIsInt : Sp := fun vs H Q _ => ∃ (v : V) (d : PyData), vs = [v] ∧ Tp H v d ∧ Q (.bl (isIntD d)) H
abbrev s_is_integer : Stmt := topS 4
abbrev sc_is_integerN : List Str := ["thing"]
abbrev ps_is_integer : List Str := ["thing"]
theorem sc_is_integer : FnScope sc_is_integerN ps_is_integer (defScope s_is_integer) := ⟨rfl, rfl, rfl, by decide +kernel, rfl, by decide +kernel, by decide +kernel⟩
theorem ok_is_integer {f : Addr} {fd : FuncData} (F : Fun K "is_integer" "is_integer" s_is_integer f fd) (T : Txt K mg CS) : FnOk P w K mg base CX0 1 f fd ps_is_integer spIsInt := by
  refine F.ok sc_is_integer (fun vs H Q E h => ?_) (fun cdv A outer s H vs Q E hr h => ?_)
  · obtain ⟨_, _, rfl, _⟩ := h
    rfl
  · obtain ⟨v, d, rfl, hv, k⟩ := h
    refine ⟨_, (pss_one (ps_ret (pe_and (pe_callB call_isi (by rfl) T.n_isinstance (by decide +kernel) (pa_cons (pv 0) (pa_cons (pe_bltn (v := .ty "int") (by rfl) T.n_int (by decide +kernel) rfl) pa_nil))) (pe_one (pe_not (pe_callB call_isi (by rfl) T.n_isinstance (by decide +kernel) (pa_cons (pv 0) (pa_cons (pe_bltn (v := .ty "bool") (by rfl) T.n_bool (by decide +kernel) rfl) pa_nil)))))))), ?_⟩
    have ty := hv.ty (K := K)
    refine ⟨_, rfl, _, _, _, _, _, rfl, .ty _, ty, kit_ty (kit_d (by simp)), _, rfl, ?_⟩
    cases d with
    | int i => exact iteT ⟨_, rfl, _, _, _, _, _, rfl, .ty _, ty, kit_ty (kit_d (by simp)), _, rfl, k⟩
    | bool b => exact iteT ⟨_, rfl, _, _, _, _, _, rfl, .ty _, ty, kit_ty (kit_d (by simp)), _, rfl, k⟩
    | none => exact iteF k
    | str _ => exact iteF k
    | list _ => exact iteF k
    | tuple _ => exact iteF k
    | dict _ => exact iteF k
def spIsVal : Sp := fun vs H Q _ => ∃ (v : V) (d : PyData), vs = [v] ∧ Tp H v d ∧ Q (.bl (isValD d)) H
abbrev s_is_value : Stmt := topS 5
abbrev sc_is_valueN : List Str := ["thing"]
abbrev ps_is_value : List Str := ["thing"]
theorem sc_is_value : FnScope sc_is_valueN ps_is_value (defScope s_is_value) := ⟨rfl, rfl, rfl, by decide +kernel, rfl, by decide +kernel, by decide +kernel⟩
theorem ok_is_value {f : Addr} {fd : FuncData} (F : Fun K "is_value" "is_value" s_is_value f fd) (T : Txt K mg CS) (D_is_integer : Df P w K mg base "is_integer" 1 ps_is_integer spIsInt) : FnOk P w K mg base CX0 2 f fd ps_is_value spIsVal := by
  refine F.ok sc_is_value (fun vs H Q E h => ?_) (fun cdv A outer s H vs Q E hr h => ?_)
  · obtain ⟨_, _, rfl, _⟩ := h
    rfl
  · obtain ⟨v, d, rfl, hv, k⟩ := h
    refine ⟨_, (pss_one (ps_ret (pe_and (pe_d D_is_integer (hr.mono (by decide)) (pa_cons (pv 0) pa_nil)) (pe_one (pe_chain op_le op_le (pe_un un_neg (pe_gI T.g_LARGEST_VALUE)) (pv 0) (pe_gI T.g_LARGEST_VALUE)))))), ?_⟩
    refine ⟨_, rfl, v, d, rfl, hv, _, rfl, ?_⟩
    cases d with
    | int i =>
      rw [hv.intI] at *
      refine iteT ?_
      refine ⟨_, rfl, _, rfl, _, _, rfl, rfl, _, rfl, ifd (fun h1 => ?_) fun h1 => ?_⟩
      · refine ⟨_, _, rfl, rfl, ?_⟩
        have z : isValD (.int i) = decide (i ≤ 1000000000) := by
          show (decide (-1000000000 ≤ i) && decide (i ≤ 1000000000)) = _
          rw [decide_eq_true h1]
          rfl
        rw [z] at k
        exact k
      · have z : isValD (.int i) = false := by
          show (decide (-1000000000 ≤ i) && decide (i ≤ 1000000000)) = _
          rw [decide_eq_false h1]
          rfl
        rw [z] at k
        exact k
    | _ => exact iteF k
def spFirst : Sp := fun vs H Q _ => ∃ (v : V) (d : PyData) (wd : Nat), vs = [v, .int wd] ∧ Tp H v d ∧ siz d ≤ 100000 ∧ ∀ H', Same H H' → Q (optV (firstD wd d)) H'
abbrev s_first_wrong_row : Stmt := topS 28
abbrev sc_first_wrong_rowN : List Str := ["rows", "width", "at", "row", "value"]
abbrev ps_first_wrong_row : List Str := ["rows", "width"]
theorem sc_first_wrong_row : FnScope sc_first_wrong_rowN ps_first_wrong_row (defScope s_first_wrong_row) := ⟨rfl, rfl, rfl, by decide +kernel, rfl, by decide +kernel, by decide +kernel⟩
theorem ok_first_wrong_row {f : Addr} {fd : FuncData} (F : Fun K "first_wrong_row" "first_wrong_row" s_first_wrong_row f fd) (T : Txt K mg CS) (D_is_row : Df P w K mg base "is_row" 1 ps_is_row (spIsRow K)) (D_is_value : Df P w K mg base "is_value" 2 ps_is_value spIsVal) : FnOk P w K mg base CX0 3 f fd ps_first_wrong_row spFirst := by
  refine F.ok sc_first_wrong_row (fun vs H Q E h => ?_) (fun cdv A outer s H vs Q E hr h => ?_)
  · obtain ⟨_, _, _, rfl, _⟩ := h
    rfl
  · obtain ⟨v, d, wd, rfl, hv, hz, k⟩ := h
    refine ⟨_, (pss_cons (ps_if (pt_not (pt_val (pe_callB call_isiT (by rfl) T.n_isinstance (by decide +kernel) (pa_cons (pv 0) (pa_cons (pe_tup (pa_cons (pe_bltn (v := .ty "list") (by rfl) T.n_list (by decide +kernel) rfl) (pa_cons (pe_bltn (v := .ty "tuple") (by rfl) T.n_tuple (by decide +kernel) rfl) pa_nil))) pa_nil)))))
    (pss_one (ps_ret (pe_un un_neg pe_int)))
    pss_nil)
  (pss_cons (ps_for PassesOwn.never rfl (pi_enumA (by rfl) T.n_enumerate (pa_cons (pv 0) pa_nil)) (pg_tup (by rfl) (pgs_cons (pg_name (i := 2) sc_first_wrong_row.nd rfl (Or.inl rfl)) (pgs_cons (pg_name (i := 3) sc_first_wrong_row.nd rfl (Or.inl rfl)) pgs_nil)))
    (pss_one (ps_if (PW.pt (pw_or (pt_not (pt_val (pe_d D_is_row (hr.mono (by decide)) (pa_cons (pv 3) (pa_cons (pv 1) (pa_cons (pv 1) pa_nil)))))) (pw_or1 (pt_not (pt_val (pe_callB (cr_all (by rfl)) (by rfl) T.n_all (by decide +kernel) (pa_cons (pe_lc (own := [("value", 4)]) (g := gName 4) (tt := tYes) (by rfl) sc_first_wrong_row.nd (pi_any (pv 3)) (blkOk_by (own := [("value", 4)]) (N := sc_first_wrong_rowN) (sc := defScope s_first_wrong_row) (by decide +kernel)) (fun _ _ _ _ _ => pg_name (i := 4) sc_first_wrong_row.nd rfl (Or.inl rfl)) (fun _ _ _ _ _ => pts_nil) (fun _ _ _ _ _ => (pe_d D_is_value (hr.mono (by decide)) (pa_cons (pv 4) pa_nil)))) pa_nil)))))))
      (pss_one (ps_ret (pv 2)))
      pss_nil)))
  (pss_one (ps_ret pe_non)))), ?_⟩
    refine ⟨_, rfl, (by show 2 ≤ sizeLine; decide), fun tp htp => ?_⟩
    have s1 : Same H (upd H tp (.tup [.ty "list", .ty "tuple"])) := same_new _ htp
    have up : (upd H tp (.tup [.ty "list", .ty "tuple"])) tp = some (.tup [.ty "list", .ty "tuple"]) := upd_same
    have hv1 := hv.same s1
    generalize upd H tp (.tup [.ty "list", .ty "tuple"]) = H1 at *
    refine ⟨_, tp, _, _, _, _, rfl, up, clsLT, hv1.ty, kitAny_row, _, rfl, ?_⟩
    cases er : isRowD d with
    | false =>
      have z := k _ s1
      unfold firstD at z
      rw [er] at z
      exact iteT ⟨1, rfl, z⟩
    | true =>
      obtain ⟨a, xs, rfl, hx, ha⟩ := hv1.row er
      have lx := ha.len
      rw [siz_row er] at hz
      have lz := siz_len (partsD d)
      refine iteF ⟨_, rfl, a, xs, rfl, enum_of (K := K) (rw_sq hx) (Same.refl _) fun J G gm wk => ?_⟩
      refine for_it wk (fun i σ H' => ∃ v2 v3 v4, σ = [some (.ref a), some (.int wd), v2, v3, v4] ∧ Same H1 H' ∧ ∀ (j : Nat) (r : PyData), j < i → (partsD d)[j]? = some r → okRow wd r = true) ⟨_, _, _, rfl, Same.refl _, fun j r h => by omega⟩ (fun i σ H' _ z => by obtain ⟨_, _, _, _, z, _⟩ := z; exact gm H' z) ?_ ?_
      · rintro i x σ H2 H3 hi ⟨v2, v3, v4, rfl, s2, inv⟩ ⟨U, x1, y, rfl, hU, rfl, e1, hy⟩
        obtain rfl : V.int (i : Nat) = x1 := Option.some.inj e1
        obtain ⟨r, hr', hdp⟩ := ha.at hy
        have s3 : Same H1 (upd H2 U (.tup [V.int (i : Nat), y])) := s2.trans (same_new _ hU)
        have rm := List.mem_of_getElem? hr'
        have rz := siz_mem rm
        refine ⟨U, _, rfl, .inl (.inl upd_same), rfl, _, _, rfl, _, _, rfl, rfl, ?_⟩
        generalize upd H2 U (.tup [V.int (i : Nat), y]) = H3 at *
        have wrong : ∀ {H'}, Same H3 H' → okRow wd r = false → Q (.int (i : Nat)) H' := fun s e => by
          have z := k _ (s1.trans (s3.trans s))
          unfold firstD at z
          rw [er, first_hit inv hr' e] at z
          exact z
        refine ⟨_, rfl, _, rfl, _, rfl, y, r, _, _, rfl, hdp.same s3, fun H4 s4 => ⟨_, rfl, ?_⟩⟩
        cases e3 : rowD3 wd wd r with
        | false => exact iteT (iteT ⟨_, rfl, wrong s4 (by unfold okRow; rw [e3]; rfl)⟩)
        | true =>
          refine iteF ?_
          have rr : isRowD r = true := by
            unfold rowD3 at e3
            simp only [Bool.and_eq_true] at e3
            exact e3.1.1
          obtain ⟨q, ys, rfl, hq, ta⟩ := ((hdp.same s3).same s4).row rr
          have ly := ta.len
          rw [siz_row rr] at rz
          have lr := siz_len (partsD r)
          refine ⟨_, rfl, q, _, rfl, any_of (K := K) (rw_sq hq) (Same.refl _) fun J G gm wk => (fun D hD => ?_)⟩
          refine lc_it wk (fun m H' => Same H4 H' ∧ H' D = some (.lst (((partsD r).take m).map fun c => V.bl (isValD c)))) ⟨same_new _ hD, by rw [upd_same]; rfl⟩ (fun m H' _ z => gm H' z.1) ?_ ?_
          · rintro m x H5 H6 hm ⟨s5, d5⟩ ⟨rfl, hx⟩
            obtain ⟨c, hc, hcv⟩ := ta.at hx
            refine ⟨rfl, _, rfl, x, c, rfl, hcv.same s5, _, d5, take_lt _ (by omega), same_put s5 _ hD, ?_⟩
            rw [upd_same, map_take _ hc]
          · rintro H5 ⟨s5, d5⟩
            rw [ly, List.take_length, bl_map] at d5
            refine ⟨D, _, rfl, .inl (.inl d5), ?_⟩
            have e4 : ((partsD r).map fun c => isValD c).all id = (partsD r).all isValD := by
              rw [List.all_map]
              rfl
            rw [e4]
            refine ⟨_, rfl, ?_⟩
            cases e5 : (partsD r).all isValD with
            | false => exact iteT ⟨_, rfl, wrong (s4.trans s5) (by unfold okRow; rw [e3, e5]; rfl)⟩
            | true =>
              refine iteF ⟨_, _, _, rfl, s3.trans (s4.trans s5), fun j r2 hj h2 => ?_⟩
              by_cases z : j = i
              · rw [z, hr'] at h2
                rw [← Option.some.inj h2]
                unfold okRow
                rw [e3, e5]
                rfl
              · exact inv j r2 (by omega) h2
      · rintro σ H2 ⟨v2, v3, v4, rfl, s2, inv⟩
        have z := k _ (s1.trans s2)
        unfold firstD at z
        rw [er, first_none fun j r h => inv j r (by rw [lx]; exact (List.getElem?_eq_some_iff.mp h).1) h] at z
        exact z
end
end Fm

/-! ## K04T -/
set_option Elab.async false
set_option maxRecDepth 100000
set_option maxHeartbeats 4000000
namespace Fm
open PySem L2
theorem strs_inv {H : Hp} : ∀ {p : List Str} {xs : List V}, TpAll H xs (p.map PyData.str) → xs = p.map V.str
  | [], _, h => by cases h; rfl
  | s :: p, _, h => by
    cases h with
    | cons h1 h2 =>
      rw [h1.strI, strs_inv h2]
      rfl
theorem tab_in {H : Hp} {v : V} {t : Tab} (h : Tp H v (tabD false t)) : ∃ a c, v = .ref a ∧ H a = some (.tup [.str t.1, .ref c]) ∧ H c = some (.tup (t.2.map V.str)) := by
  obtain ⟨a, xs, rfl, ha, ta⟩ := (show Tp H v (.tuple [.str t.1, .tuple (t.2.map PyData.str)]) from h).tuple
  cases ta with
  | cons h1 h2 =>
    cases h2 with
    | cons h3 h4 =>
      cases h4
      obtain ⟨c, ys, rfl, hc, tc⟩ := h3.tuple
      rw [strs_inv tc] at hc
      rw [h1.strI] at ha
      exact ⟨a, c, rfl, ha, hc⟩
/-- the tables of a shape -/
def tsD (ts : List Tab) : PyData := .tuple (ts.map (tabD false))
/-- the first table with a wrong row -/
def firstBad (g : Str → PyData) (ts : List Tab) : Option (Str × Int) := ts.findSome? fun t => (firstD t.2.length (g t.1)).map fun i => (t.1, i)
/-- a dict of rows, by the names of the tables -/
structure Rd1 (F H : Hp) (rd : Addr) (kvs : List (Key × V)) (ts : List Tab) (g : Str → PyData) : Prop where
  at_ : H rd = some (.dK kvs)
  no : F rd = none
  len : kvs.length ≤ 100
  key : ∀ k ∈ kvs.map (·.1), ∃ t ∈ ts, (Sum.inr t.1 : Key) = k
  ex : ∀ t ∈ ts, (∃ v, valV kvs (Sum.inr t.1) = some v ∧ Tp F v (g t.1)) ∨ (valV kvs (Sum.inr t.1) = none ∧ g t.1 = .tuple [])
  sz : ∀ t ∈ ts, siz (g t.1) ≤ 100000
  dp : ∀ t ∈ ts, dep (g t.1) < 40
theorem Rd1.get {F H F' H' : Hp} {rd e : Addr} {kvs : List (Key × V)} {ts : List Tab} {g : Str → PyData} (R : Rd1 F H rd kvs ts g) {t : Tab} (m : t ∈ ts) (s : Same F F') (he : H' e = some (.tup [])) (s2 : Same F' H') : Tp H' ((valV kvs (Sum.inr t.1)).getD (.ref e)) (g t.1) := by
  rcases R.ex t m with ⟨v, h1, h2⟩ | ⟨h1, h2⟩
  · rw [h1]
    exact h2.same (s.trans s2)
  · rw [h1, h2]
    exact .tup he .nil
theorem bad_none {g : Str → PyData} {ts : List Tab} {i : Nat} {t : Tab} (h : firstBad g (ts.take i) = none) (ht : ts[i]? = some t) (n : firstD t.2.length (g t.1) = none) : firstBad g (ts.take (i + 1)) = none := by
  unfold firstBad at *
  rw [List.take_add_one, ht, List.findSome?_append, h]
  simp [n]
theorem bad_hit {g : Str → PyData} {ts : List Tab} {i : Nat} {j : Int} {t : Tab} (h : firstBad g (ts.take i) = none) (ht : ts[i]? = some t) (n : firstD t.2.length (g t.1) = some j) : firstBad g ts = some (t.1, j) := by
  have e : ts = ts.take i ++ t :: ts.drop (i + 1) := by
    obtain ⟨hl, q⟩ := List.getElem?_eq_some_iff.mp ht
    rw [← q, List.getElem_cons_drop, List.take_append_drop]
  unfold firstBad at *
  rw [e, List.findSome?_append, h]
  simp [n]
/-- an error that holds a pair -/
def ErrPair (H : Hp) (v i : V) (E : Option Addr → Hp → Prop) : Prop := ∀ (d tp : Addr) (H' : Hp), Same H H' → H d = none → H tp = none → H' d = some (.xd [("value", .ref tp)]) → H' tp = some (.tup [v, i]) → E (some d) H'
section
variable {P : Program} {w : World} {K : PySem.W.Frag} {mg : Str → Option Value} {base : Heap} {CS CT CR CN : Addr}
def spCheckR (CS CR : Addr) : Sp := fun vs H Q E => ∃ (F : Hp) (sh rd : Addr) (ts : List Tab) (kvs : List (Key × V)) (g : Str → PyData), vs = [.ref sh, .ref rd] ∧ Same F H ∧ ShT CS F sh (tsD ts) ∧ TsOk ts ∧ Rd1 F H rd kvs ts g ∧
  (∀ t i, firstBad g ts = some (t, i) → ErrPair H (.str t) (.int i) (E (.ref CR))) ∧ (firstBad g ts = none → ∀ H', Same H H' → Q .non H')
abbrev s_check_rows : Stmt := topS 27
abbrev sc_check_rowsN : List Str := ["shape", "rows", "table", "_", "names", "name", "fields", "at"]
abbrev ps_check_rows : List Str := ["shape", "rows"]
theorem sc_check_rows : FnScope sc_check_rowsN ps_check_rows (defScope s_check_rows) := ⟨rfl, rfl, rfl, by decide +kernel, rfl, by decide +kernel, by decide +kernel⟩
theorem ok_check_rows {f : Addr} {fd : FuncData} (F : Fun K "check_rows" "check_rows" s_check_rows f fd) (T : Txt K mg CS) (X_BadRows : Xf P w K mg base "BadRows" CR "value") (D_first_wrong_row : Df P w K mg base "first_wrong_row" 3 ps_first_wrong_row spFirst) :
    FnOk P w K mg base (L2.CX P w) 4 f fd ps_check_rows (spCheckR CS CR) := by
  refine F.okX sc_check_rows (fun vs H Q E h => ?_) (fun cdv A outer s H vs Q E hr h => ?_)
  · obtain ⟨_, _, _, _, _, _, rfl, _⟩ := h
    rfl
  · obtain ⟨F0, sh, rd, ts, kvs, g, rfl, sF, ⟨dx, tv, hsh, dtv⟩, ok, R, kE, kQ⟩ := h
    obtain ⟨Tx, hno⟩ := X_BadRows.oex
    refine ⟨_, (pss_cons (ps_set (i := 4) sc_check_rows.nd rfl (Or.inr rfl) (pe_lc (own := [("table", 2), ("_", 3)]) (g := gTup K 2 (gCons (gName 2) (gCons (gName 3) gNil))) (tt := tYes) (by rfl) sc_check_rows.nd (pi_tup (pe_fld (pv 0) rfl)) (blkOk_by (own := [("table", 2), ("_", 3)]) (N := sc_check_rowsN) (sc := defScope s_check_rows) (by decide +kernel)) (fun _ _ _ _ _ => pg_tup (by rfl) (pgs_cons (pg_name (i := 2) sc_check_rows.nd rfl (Or.inl rfl)) (pgs_cons (pg_name (i := 3) sc_check_rows.nd rfl (Or.inl rfl)) pgs_nil))) (fun _ _ _ _ _ => pts_nil) (fun _ _ _ _ _ => (pv 2))))
  (pss_cons (ps_if (PW.pt (pw_or (pt_not (pt_val (pe_callB call_isi (by rfl) T.n_isinstance (by decide +kernel) (pa_cons (pv 1) (pa_cons (pe_bltn (v := .ty "dict") (by rfl) T.n_dict (by decide +kernel) rfl) pa_nil))))) (pw_or1 (pt_not (pt_val (pe_lock (pe_callB (cr_all (by rfl)) (by rfl) T.n_all (by decide +kernel) (pa_cons (pe_lc (own := [("name", 5)]) (g := gName 5) (tt := tYes) (by rfl) sc_check_rows.nd (pi_keys (pv 1)) (blkOk_by (own := [("name", 5)]) (N := sc_check_rowsN) (sc := defScope s_check_rows) (by decide +kernel)) (fun _ _ _ _ _ => pg_name (i := 5) sc_check_rows.nd rfl (Or.inl rfl)) (fun _ _ _ _ _ => pts_nil) (fun _ _ _ _ _ => (pe_cmpR (opK_in (K := K)) (pv 5) (pv 4) (by rfl)))) pa_nil))))))))
    (pss_one (ps_rG X_BadRows (hr.mono (by decide)) (takes_of rfl rfl rfl rfl) (pe_tup (pa_cons pe_non (pa_cons (pe_un un_neg pe_int) pa_nil)))))
    pss_nil)
  (pss_one (ps_for PassesOwn.leaving rfl (pi_tup (pe_fld (pv 0) rfl)) (pg_tup (by rfl) (pgs_cons (pg_name (i := 2) sc_check_rows.nd rfl (Or.inl rfl)) (pgs_cons (pg_name (i := 6) sc_check_rows.nd rfl (Or.inl rfl)) pgs_nil)))
    (pss_cons (ps_set (i := 7) sc_check_rows.nd rfl (Or.inl rfl) (pe_d D_first_wrong_row (hr.mono (by decide)) (pa_cons (pe_dget2 (Nat.lt_of_le_of_lt (Nat.add_le_add_left (by decide) _) hr.units) (pv 1) (pv 2) (pe_tup pa_nil) ⟨rfl, rfl, rfl, rfl⟩) (pa_cons (pe_callB call_len_seq (by rfl) T.n_len (by decide +kernel) (pa_cons (pv 6) pa_nil)) pa_nil))))
    (pss_one (ps_if (pt_cmpR op_notN (pv 7) pe_non (nomark _))
      (pss_one (ps_rG X_BadRows (hr.mono (by decide)) (takes_of rfl rfl rfl rfl) (pe_tup (pa_cons (pv 2) (pa_cons (pv 7) pa_nil)))))
      pss_nil))))))), ?_⟩
    obtain ⟨tpl, txs, rfl, htp0, hd⟩ := (show Tp F0 tv (.tuple (ts.map (tabD false))) from dtv).tuple
    have htp : SqT K H tpl txs := .inl (.inl (sF _ _ htp0))
    refine ⟨_, rfl, sh, CS, dx, _, _, rfl, sF _ _ hsh, T.cl, T.nT, rfl, tpl, rfl, ⟨_, htp⟩, fun D hD => ?_⟩
    have lx : txs.length = ts.length := by rw [hd.len, List.length_map]
    have lo := ok.hi
    have lk := R.len
    refine lc_it walk_tup (fun i H' => Same H H' ∧ H' D = some (.lst (((ts.map (·.1)).take i).map V.str))) ⟨same_new _ hD, by rw [upd_same]; rfl⟩ (fun i H' _ z => same_sqT z.1 htp) ?_ ?_
    · rintro i x H2 H3 hi ⟨s2, d2⟩ ⟨rfl, hx⟩
      obtain ⟨c, hc, hxc⟩ := hd.at hx
      rw [List.getElem?_map] at hc
      obtain ⟨t, ht, rfl⟩ := Option.map_eq_some_iff.mp hc
      obtain ⟨p, q, rfl, hp, _⟩ := tab_in (hxc.same (sF.trans s2))
      have hn : (ts.map (·.1))[i]? = some t.1 := by rw [List.getElem?_map, ht]; rfl
      refine ⟨p, _, rfl, .inl (.inl hp), rfl, _, _, rfl, _, _, rfl, rfl, rfl, _, rfl, _, d2, take_lt _ (by rw [List.length_map]; omega), same_put s2 _ hD, ?_⟩
      rw [upd_same, map_take _ hn]
    rintro H2 ⟨s2, d2⟩
    rw [lx, List.take_of_length_le (by rw [List.length_map]; exact Nat.le_refl _)] at d2
    have r2 := s2 _ _ R.at_
    have nDr : D ≠ rd := Ne.symm (ne_of_none R.at_ hD)
    refine ⟨_, rfl, _, _, _, _, _, rfl, .ty _, .base (.dK r2), kit_ty (b := "dict") (r := true) (by decide +kernel), _, rfl, iteF ?_⟩
    refine ⟨rd, .dK kvs, r2, trivial, fun od => ?_⟩
    have hL : (upd H2 rd (.frz od (.dK kvs))) rd = some (.frz od (.dK kvs)) := upd_same
    have dL : (upd H2 rd (.frz od (.dK kvs))) D = some (.lst ((ts.map (·.1)).map V.str)) := by rw [upd_ne nDr]; exact d2
    have back : ∀ H', Same (upd H2 rd (.frz od (.dK kvs))) H' → Same H2 (upd H' rd (.dK kvs)) := fun H' q b o e => by
      by_cases z : b = rd
      · rw [z, upd_same]
        rw [z, r2] at e
        exact e
      · rw [upd_ne z]
        exact q b o (by rw [upd_ne z]; exact e)
    generalize upd H2 rd (.frz od (.dK kvs)) = HL at *
    refine ⟨_, rfl, rd, od, rfl, .inl ⟨kvs, hL, fun D2 hD2 => ?_⟩⟩
    refine lc_it walk_keys (fun i H' => Same HL H' ∧ H' D2 = some (.lst ((kvs.take i).map fun _ => V.bl true))) ⟨same_new _ hD2, by rw [upd_same]; rfl⟩ (fun i H' _ z => z.1 _ _ hL) ?_ ?_
    · rintro i x H3 H4 hi ⟨s3, d3⟩ ⟨rfl, kk, v0, hk, rfl⟩
      obtain ⟨t, mt, et⟩ : ∃ t ∈ ts, (Sum.inr t.1 : Key) = kk := R.key kk (List.mem_map.mpr ⟨(kk, v0), List.mem_of_getElem? hk, rfl⟩)
      subst et
      refine ⟨rfl, _, rfl, _, rfl, D, _, rfl, .inl (.inl (.inl (s3 _ _ dL))), rfl, flat_strs _, _, d3, take_lt _ (by omega), same_put s3 _ hD2, ?_⟩
      rw [upd_same, map_take _ hk]
      show some (HO.lst (_ ++ [V.bl (inV (V.str t.1) ((ts.map (·.1)).map V.str))])) = some (HO.lst (_ ++ [V.bl true]))
      rw [inV_str, decide_eq_true (List.mem_map.mpr ⟨t, mt, rfl⟩)]
    rintro H3 ⟨s3, d3⟩
    rw [List.take_length, bl_map (f := fun _ => true)] at d3
    refine ⟨D2, _, rfl, .inl (.inl d3), s3 _ _ hL, ?_⟩
    have s4 := s2.trans (back _ s3)
    have d4 : (upd H3 rd (.dK kvs)) D = some (.lst ((ts.map (·.1)).map V.str)) := by rw [upd_ne nDr]; exact s3 _ _ dL
    generalize upd H3 rd (.dK kvs) = H4 at *
    refine ⟨_, rfl, ?_⟩
    have ea : (kvs.map fun _ => true).all id = true := by
      rw [List.all_map]
      simp
    rw [ea]
    refine iteF ?_
    refine ⟨_, rfl, sh, CS, dx, _, _, rfl, s4 _ _ (sF _ _ hsh), T.cl, T.nT, rfl, tpl, rfl, ⟨_, same_sqT s4 htp⟩, for_it walk_tup (fun i σ H' => ∃ v2 v3 v5 v6 v7, σ = [some (.ref sh), some (.ref rd), v2, v3, some (.ref D), v5, v6, v7] ∧ Same H H' ∧ firstBad g (ts.take i) = none)
      ⟨_, _, _, _, _, rfl, s4, rfl⟩ (fun i σ H' _ z => by obtain ⟨_, _, _, _, _, _, z, _⟩ := z; exact same_sqT z htp) ?_ ?_⟩
    · rintro i x σ H6 H5 hi ⟨v2, v3, v5, v6, v7, rfl, s5, inv⟩ ⟨rfl, hx⟩
      obtain ⟨c, hc, hxc⟩ := hd.at hx
      rw [List.getElem?_map] at hc
      obtain ⟨t, ht, rfl⟩ := Option.map_eq_some_iff.mp hc
      obtain ⟨p, q, rfl, hp, hq2⟩ := tab_in (hxc.same (sF.trans s5))
      have mt := List.mem_of_getElem? ht
      refine ⟨p, _, rfl, .inl (.inl hp), rfl, _, _, rfl, _, _, rfl, rfl, ?_⟩
      have r5 := s5 _ _ R.at_
      refine ⟨_, rfl, rd, rfl, .inl ⟨kvs, .inl r5⟩, _, rfl, Nat.zero_le _, fun e he => ⟨valV kvs (Sum.inr t.1), ?_, ?_⟩⟩
      · exact .inl ⟨kvs, Sum.inr t.1, .inl ((same_new _ he) _ _ r5), rfl, rfl⟩
      have s6 : Same H (upd H5 e (.tup [])) := s5.trans (same_new _ he)
      have q6 := same_new (.tup []) he _ _ hq2
      have tu6 := R.get mt (Same.refl _) (show (upd H5 e (.tup [])) e = some (.tup []) from upd_same) (sF.trans s6)
      generalize upd H5 e (.tup []) = H7 at *
      refine ⟨_, rfl, q, _, rfl, .inr (.inl (.inl q6)), _, g t.1, t.2.length, (by rw [List.length_map]; rfl), tu6, R.sz t mt, fun H8 s8 => ?_⟩
      refine ⟨_, rfl, rfl, _, rfl, ?_⟩
      cases ef : firstD t.2.length (g t.1) with
      | none => exact iteF ⟨_, _, _, _, _, rfl, s6.trans s8, bad_none inv ht ef⟩
      | some j =>
        refine iteT ⟨_, rfl, _, rfl, (by show 2 ≤ sizeLine; decide), fun tp htp => ⟨(by show 1 ≤ 1000; decide), fun a ha => init_read (v := .ref tp) (Q := fun cls d H' => E cls d H') Tx hno ha fun d hd => ?_⟩⟩
        have sA := s6.trans (s8.trans (same_new (.tup [.str t.1, .int j]) htp))
        exact kE t.1 j (bad_hit inv ht ef) d tp _ (sA.trans (same_new _ hd)) (sA.free hd) ((s6.trans s8).free htp) upd_same (by rw [upd_ne (ne_of_none upd_same hd), upd_same]; rfl)
    · rintro σ H5 ⟨v2, v3, v5, v6, v7, rfl, s5, inv⟩
      rw [lx, List.take_length] at inv
      exact kQ inv H5 s5
end
end Fm

/-! ## K04U -/
set_option Elab.async false
set_option maxRecDepth 100000
set_option maxHeartbeats 4000000
namespace Fm
open PySem L2
/-! ### a store is made -/
def stF (sh rd : Addr) : List (Str × V) := [("shape", .ref sh), ("_rows", .ref rd)]
theorem stF_1 (v : V) : putF "shape" v [] = ([("shape", v)] : List (Str × V)) := rfl
theorem stF_2 (v : V) (rd : Addr) : putF "_rows" (.ref rd) ([("shape", v)] : List (Str × V)) = ([("shape", v), ("_rows", .ref rd)] : List (Str × V)) := by
  show (if ("shape" : Str) = "_rows" then [(("shape" : Str), V.ref rd)] else (("shape" : Str), v) :: putF "_rows" (.ref rd) []) = ([("shape", v), ("_rows", .ref rd)] : List (Str × V))
  rw [if_neg (by decide +kernel)]
  rfl
section
variable {κ : Type} [DecidableEq κ]
theorem put_new {kvs : List (κ × V)} {k : κ} {z : V} (h : k ∉ kvs.map (·.1)) : putK kvs k z = kvs ++ [(k, z)] := by
  unfold putK
  rw [if_neg]
  intro e
  rw [List.any_eq_true] at e
  obtain ⟨kv, m, q⟩ := e
  exact h (List.mem_map.mpr ⟨kv, m, of_decide_eq_true q⟩)
theorem val_old {kvs : List (κ × V)} {k j : κ} {z v : V} (h : valV kvs j = some v) : valV (kvs ++ [(k, z)]) j = some v := by
  unfold valV at *
  rw [List.find?_append]
  cases q : kvs.find? fun kv => decide (kv.1 = j) with
  | none => rw [q] at h; cases h
  | some u => rw [q] at h; exact h
theorem val_new {kvs : List (κ × V)} {k : κ} {z : V} (h : k ∉ kvs.map (·.1)) : valV (kvs ++ [(k, z)]) k = some z := by
  unfold valV
  rw [List.find?_append]
  have q : kvs.find? (fun kv => decide (kv.1 = k)) = none := by
    rw [List.find?_eq_none]
    intro kv m e
    exact h (List.mem_map.mpr ⟨kv, m, of_decide_eq_true e⟩)
  rw [q]
  simp
end
theorem nodup_take' {l : List Str} {i : Nat} {x : Str} (h : l.Nodup) (hx : l[i]? = some x) : x ∉ l.take i := fun m => by
  obtain ⟨hl, e⟩ := List.getElem?_eq_some_iff.mp hx
  obtain ⟨j, hj, ej⟩ := List.getElem_of_mem m
  rw [List.length_take] at hj
  rw [List.getElem_take] at ej
  have z := (List.getElem_inj (h₀ := by omega) (h₁ := hl) h).mp (ej.trans e.symm)
  omega
/-- how many rows there are -/
def total (g : Str → PyData) (ts : List Tab) : Nat := (ts.map fun t => (partsD (g t.1)).length).sum
theorem sum_total {g : Str → PyData} : ∀ ts : List Tab, (ts.map fun t => ((partsD (g t.1)).length : Int)).sum = ((total g ts : Nat) : Int)
  | [] => rfl
  | t :: ts => by
    unfold total
    rw [List.map_cons, List.sum_cons, List.map_cons, List.sum_cons, sum_total ts]
    unfold total
    omega
theorem bad_row {g : Str → PyData} {ts : List Tab} (h : firstBad g ts = none) {t : Tab} (m : t ∈ ts) : firstD t.2.length (g t.1) = none := by
  unfold firstBad at h
  rw [List.findSome?_eq_none_iff] at h
  exact Option.map_eq_none_iff.mp (h t m)
theorem firstD_row {w : Nat} {d : PyData} (h : firstD w d = none) : isRowD d = true ∧ firstWrong w (partsD d) = none := by
  unfold firstD at h
  by_cases e : isRowD d = true
  · rw [if_pos e] at h
    exact ⟨e, Option.map_eq_none_iff.mp h⟩
  · rw [if_neg e] at h
    cases h
/-- what is said of all but x -/
structure GrowX (x : Addr) (F H F' H' : Hp) : Prop where
  ff : Same F F'
  fh : Same F' H'
  hh : ∀ a o, a ≠ x → F a = none → H a = some o → F' a = none ∧ H' a = some o
  no : F' x = none
/-- the rows of a store: a dict by the names -/
def RsAt (F : Hp) (rd : Addr) (ts : List Tab) (g : Str → PyData) : Prop := ∃ kvs : List (Key × V), F rd = some (.dK kvs) ∧ kvs.map (·.1) = ts.map (fun t => (Sum.inr t.1 : Key)) ∧ ∀ t ∈ ts, ∃ v, valV kvs (Sum.inr t.1) = some v ∧ Tp F v (g t.1)
theorem RsAt.same {F F' : Hp} {rd : Addr} {ts : List Tab} {g : Str → PyData} (h : RsAt F rd ts g) (s : Same F F') : RsAt F' rd ts g := by
  obtain ⟨kvs, h1, h2, h3⟩ := h
  exact ⟨kvs, s _ _ h1, h2, fun t m => by obtain ⟨v, q1, q2⟩ := h3 t m; exact ⟨v, q1, q2.same s⟩⟩
section
variable {P : Program} {w : World} {K : PySem.W.Frag} {mg : Str → Option Value} {base : Heap} {CS CT CR CM : Addr}
def spStInit (CS CT CR : Addr) : Sp := fun vs H Q E => ∃ (F : Hp) (x dx sh rd : Addr) (ts : List Tab) (kvs : List (Key × V)) (g : Str → PyData), vs = [.ref x, .ref sh, .ref rd] ∧ H x = some (.ins CT dx []) ∧ Same F H ∧ F x = none ∧ ShT CS F sh (tsD ts) ∧ TsOk ts ∧ Rd1 F H rd kvs ts g ∧
  (∀ t i, firstBad g ts = some (t, i) → ErrPair H (.str t) (.int i) (E (.ref CR))) ∧
  (firstBad g ts = none → total g ts ≤ 300 ∧ ∀ (rd' : Addr) (F' H' : Hp), H rd' = none → GrowX x F H F' H' → H' x = some (.ins CT dx (stF sh rd')) → RsAt F' rd' ts (fun n => tupd (g n)) → Q .non H')
abbrev s_Store_init : Stmt := inClass (topS 24) 0
abbrev sc_Store_initN : List Str := ["self", "shape", "rows", "table", "_"]
abbrev ps_Store_init : List Str := ["self", "shape", "rows"]
theorem sc_Store_init : FnScope sc_Store_initN ps_Store_init (defScope s_Store_init) := ⟨rfl, rfl, rfl, by decide +kernel, rfl, by decide +kernel, by decide +kernel⟩
theorem ok_Store_init {f : Addr} {fd : FuncData} (F : Fun K "__init__" "Store.__init__" s_Store_init f fd) (T : Txt K mg CS) (T2 : Tx2 K mg CT) (X_TooMany : X0 K mg "TooMany" CM) (D_check_rows : DfX P w K mg base "check_rows" 4 ps_check_rows (spCheckR CS CR)) (D3 : Df P w K mg base "as_tuples" 40 ps_as_tuples (spTup 40)) :
    FnOk P w K mg base (L2.CX P w) 41 f fd ps_Store_init (spStInit CS CT CR) := by
  refine F.okX sc_Store_init (fun vs H Q E h => ?_) (fun cdv A outer s H vs Q E hr h => ?_)
  · obtain ⟨_, _, _, _, _, _, _, _, rfl, _⟩ := h
    rfl
  · obtain ⟨F0, x, dx, sh, rd, ts, kvs, g, rfl, hx, sF, fx, shA, ok, R, kE, kQ⟩ := h
    refine ⟨_, (pss_cons (ps_if (pt_not (pt_val (pe_callB call_isi (by rfl) T.n_isinstance (by decide +kernel) (pa_cons (pv 1) (pa_cons (pe_glob (v := .ref CS) rfl T.g_Shape rfl) pa_nil))))) pss_never pss_nil)
  (pss_cons (ps_expr (pe_dE D_check_rows (hr.mono (by decide)) (takes_of rfl rfl rfl rfl) (pa_cons (pv 1) (pa_cons (pv 2) pa_nil))))
  (pss_cons (ps_fld (pv 0) (pv 1) rfl)
  (pss_cons (ps_fld (pv 0) (L2.pe_dc (own := [("table", 3), ("_", 4)]) (g := gTup K 2 (gCons (gName 3) (gCons (gName 4) gNil))) (tt := tYes) (by rfl) sc_Store_init.nd (pi_tup (pe_fld (pv 1) rfl)) (blkOk_by (own := [("table", 3), ("_", 4)]) (N := sc_Store_initN) (sc := defScope s_Store_init) (by decide +kernel)) (fun _ _ _ _ _ => pg_tup (by rfl) (pgs_cons (pg_name (i := 3) sc_Store_init.nd rfl (Or.inl rfl)) (pgs_cons (pg_name (i := 4) sc_Store_init.nd rfl (Or.inl rfl)) pgs_nil))) (fun _ _ _ _ _ => pts_nil) (fun _ _ _ _ _ => (pv 3)) (fun _ _ _ _ _ => (pe_d D3 (hr.mono (by decide)) (pa_cons (pe_dget2 (Nat.lt_of_le_of_lt (Nat.add_le_add_left (by decide) _) hr.units) (pv 2) (pv 3) (pe_tup pa_nil) ⟨rfl, rfl, rfl, rfl⟩) pa_nil)))) rfl)
  (pss_one (ps_if (pt_cmpR op_gt (pe_lock (pe_callB (cr_sum (by rfl)) (by rfl) T.n_sum (by decide +kernel) (pa_cons (pe_lc (own := [("table", 3)]) (g := gName 3) (tt := tYes) (by rfl) sc_Store_init.nd (pi_keys (pe_fld (pv 0) rfl)) (blkOk_by (own := [("table", 3)]) (N := sc_Store_initN) (sc := defScope s_Store_init) (by decide +kernel)) (fun _ _ _ _ _ => pg_name (i := 3) sc_Store_init.nd rfl (Or.inl rfl)) (fun _ _ _ _ _ => pts_nil) (fun _ _ _ _ _ => (pe_callB (cK_len_seq (K := K)) (by rfl) T.n_len (by decide +kernel) (pa_cons (pe_dget (Nat.lt_of_le_of_lt (Nat.add_le_add_left (by decide) _) hr.units) (pe_fldK (K := K) (pv 0)) (pv 3) (fun _ _ => rfl)) pa_nil)))) pa_nil))) (pe_gI T.g_MOST_ROWS) (nomark _))
    (pss_one (ps_r0 X_TooMany (takes_of rfl rfl rfl rfl)))
    pss_nil)))))), ?_⟩
    obtain ⟨dsh, tv, hsh, dtv⟩ := id shA
    have kk : PySem.W.kitOne K (.ref CS) (.ref CS) = some true := by
      show (if (Value.ref CS == Value.ref CS) = true then some true else _) = some true
      rw [if_pos (beq_self_eq_true _)]
    refine ⟨_, rfl, _, _, _, _, _, rfl, .own _, .base (.ins (sF _ _ hsh) T.cl T.c_cls T.c_get T.c_tak T.c_mro), kk, _, rfl, iteF ?_⟩
    refine ⟨_, rfl, _, rfl, F0, sh, rd, ts, kvs, g, rfl, sF, shA, ok, R, kE, fun hfb H1 s1 => ?_⟩
    obtain ⟨k300, kQ⟩ := kQ hfb
    refine ⟨_, rfl, _, rfl, x, CT, dx, _, rfl, s1 _ _ hx, T2.clT, T2.nSh, (by show 0 < 1000; decide), ?_⟩
    rw [stF_1]
    have s0 : Same F0 (upd H1 x (.ins CT dx ([("shape", .ref sh)] : List (Str × V)))) := same_put (sF.trans s1) _ fx
    have hxs : (upd H1 x (.ins CT dx ([("shape", .ref sh)] : List (Str × V)))) x = some (.ins CT dx ([("shape", .ref sh)] : List (Str × V))) := upd_same
    have toS : ∀ b o, b ≠ x → H b = some o → (upd H1 x (.ins CT dx ([("shape", .ref sh)] : List (Str × V)))) b = some o := fun b o n e => by rw [upd_ne n]; exact s1 b o e
    generalize upd H1 x (.ins CT dx ([("shape", .ref sh)] : List (Str × V))) = Hs at *
    have nrx : rd ≠ x := fun z => by
      have y := R.at_
      rw [z, hx] at y
      cases y
    have rs := toS _ _ nrx R.at_
    obtain ⟨tpl, txs, rfl, htp0, hd⟩ := (show Tp F0 tv (.tuple (ts.map (tabD false))) from dtv).tuple
    have htp : SqT K F0 tpl txs := .inl (.inl htp0)
    have lx : txs.length = ts.length := by rw [hd.len, List.length_map]
    have lo := ok.hi
    refine ⟨_, rfl, sh, CS, dsh, _, _, rfl, s0 _ _ hsh, T.cl, T.nT, rfl, tpl, rfl, ⟨_, same_sqT s0 htp⟩, fun D hD => ?_⟩
    have f0D : F0 D = none := s0.free hD
    refine dc_tup (K := K) (a := tpl) (xs := txs) (fun i H' => ∃ (F' : Hp) (kv2 : List (Key × V)), Grow F0 Hs F' H' ∧ F' D = none ∧ H' D = some (.dK kv2) ∧ kv2.map (·.1) = (ts.take i).map (fun t => (Sum.inr t.1 : Key)) ∧ ∀ t ∈ ts.take i, ∃ v, valV kv2 (Sum.inr t.1) = some v ∧ Tp F' v (tupd (g t.1)))
      ⟨F0, [], (Grow.refl s0).junk f0D hD _, f0D, upd_same, rfl, fun t m => by cases m⟩ (fun i H' _ z => by obtain ⟨F', kv2, gr, _⟩ := z; exact same_sqT (gr.ff.trans gr.fh) htp) ?_ ?_
    · rintro i y H2 hy ⟨F2, kv2, gr, f2, d2, ek, val⟩
      obtain ⟨c, hc, hxc⟩ := hd.at hy
      rw [List.getElem?_map] at hc
      obtain ⟨t, ht, rfl⟩ := Option.map_eq_some_iff.mp hc
      have mt := List.mem_of_getElem? ht
      obtain ⟨p, q, rfl, hp, _⟩ := tab_in (hxc.same (gr.ff.trans gr.fh))
      obtain ⟨f2r, h2r⟩ := gr.hh _ _ R.no rs
      refine ⟨p, _, rfl, .inl (.inl hp), rfl, _, _, rfl, _, _, rfl, rfl, rfl, _, rfl, ?_⟩
      refine ⟨_, rfl, rd, rfl, .inl ⟨kvs, .inl h2r⟩, _, rfl, Nat.zero_le _, fun e he => ⟨valV kvs (Sum.inr t.1), .inl ⟨kvs, Sum.inr t.1, .inl ((same_new _ he) _ _ h2r), rfl, rfl⟩, ?_⟩⟩
      have g3 : Grow F2 H2 (upd F2 e (.tup [])) (upd H2 e (.tup [])) := Grow.new gr.fh _ he
      have d3 := same_new (.tup []) he _ _ d2
      have f3D : (upd F2 e (.tup [])) D = none := by rw [upd_ne (ne_of_none d2 he)]; exact f2
      have tu3 : Tp (upd F2 e (.tup [])) ((valV kvs (Sum.inr t.1)).getD (.ref e)) (g t.1) := R.get mt gr.ff upd_same (same_new _ (gr.fh.free he))
      generalize upd F2 e (.tup []) = F3 at *
      generalize upd H2 e (.tup []) = H3 at *
      refine ⟨F3, _, _, rfl, g3.fh, tu3, R.dp t mt, R.sz t mt, fun v' F4 H4 g4 t4 => ?_⟩
      have hn : (ts.map (·.1))[i]? = some t.1 := by rw [List.getElem?_map, ht]; rfl
      have nk : (Sum.inr t.1 : Key) ∉ kv2.map (·.1) := fun m => by
        rw [ek] at m
        obtain ⟨u, mu, e⟩ := List.mem_map.mp m
        have eu : u.1 = t.1 := Sum.inr.inj e
        refine nodup_take' ok.nd hn ?_
        rw [← eu, ← List.map_take]
        exact List.mem_map.mpr ⟨u, mu, rfl⟩
      have l2 : kv2.length ≤ 100 := by
        have z := congrArg List.length ek
        rw [List.length_map, List.length_map, List.length_take] at z
        omega
      obtain ⟨f4D, d4⟩ := g4.hh _ _ f3D d3
      have gA := gr.trans (g3.trans g4)
      refine ⟨kv2, Sum.inr t.1, rfl, d4, Nat.lt_of_le_of_lt l2 (by decide), F4, kv2 ++ [(Sum.inr t.1, v')], gA.junk f4D hD _, f4D, by rw [upd_same, put_new nk], ?_, ?_⟩
      · rw [List.map_append, ek, map_take _ ht]
        rfl
      · intro u mu
        rw [List.take_add_one, ht] at mu
        rcases List.mem_append.mp mu with mu | mu
        · obtain ⟨v, h1, h2⟩ := val u mu
          exact ⟨v, val_old h1, h2.same (g3.trans g4).ff⟩
        · have eu : u = t := by simpa using mu
          subst eu
          exact ⟨v', val_new nk, t4⟩
    rintro H6 ⟨F6, kv2, gr, f6D, d6, ek, val⟩
    rw [lx, List.take_length] at ek val
    have nDx : D ≠ x := Ne.symm (ne_of_none hxs hD)
    obtain ⟨f6x, h6x⟩ := gr.hh _ _ fx hxs
    refine ⟨_, rfl, x, CT, dx, _, rfl, h6x, T2.clT, T2.nRw, (by show 1 < 1000; decide), ?_⟩
    rw [stF_2]
    have e7 : ([("shape", .ref sh), ("_rows", .ref D)] : List (Str × V)) = stF sh D := rfl
    rw [e7]
    have hx7 : (upd H6 x (.ins CT dx (stF sh D))) x = some (.ins CT dx (stF sh D)) := upd_same
    have d7 : (upd H6 x (.ins CT dx (stF sh D))) D = some (.dK kv2) := by rw [upd_ne nDx]; exact d6
    have s7 : Same F6 (upd H6 x (.ins CT dx (stF sh D))) := same_put gr.fh _ f6x
    have to7 : ∀ b o, b ≠ x → H6 b = some o → (upd H6 x (.ins CT dx (stF sh D))) b = some o := fun b o n e => by rw [upd_ne n]; exact e
    generalize upd H6 x (.ins CT dx (stF sh D)) = H7 at *
    refine ⟨D, .dK kv2, d7, trivial, fun od => ?_⟩
    have hL : (upd H7 D (.frz od (.dK kv2))) D = some (.frz od (.dK kv2)) := upd_same
    have hx8 : (upd H7 D (.frz od (.dK kv2))) x = some (.ins CT dx (stF sh D)) := by rw [upd_ne (Ne.symm nDx)]; exact hx7
    have sL : Same F6 (upd H7 D (.frz od (.dK kv2))) := same_put s7 _ f6D
    have toL : ∀ b o, b ≠ D → H7 b = some o → (upd H7 D (.frz od (.dK kv2))) b = some o := fun b o n e => by rw [upd_ne n]; exact e
    generalize upd H7 D (.frz od (.dK kv2)) = HL at *
    have lk : kv2.length = ts.length := by
      have z := congrArg List.length ek
      rw [List.length_map, List.length_map] at z
      exact z
    refine ⟨_, rfl, x, CT, dx, _, _, rfl, hx8, T2.clT, T2.nRw, rfl, D, od, rfl, .inl ⟨kv2, hL, fun L hL2 => ?_⟩⟩
    refine lc_it walk_keys (fun i H' => Same HL H' ∧ H' L = some (.lst ((ts.take i).map fun t => V.int ((partsD (g t.1)).length : Int)))) ⟨same_new _ hL2, by rw [upd_same]; rfl⟩ (fun i H' _ z => z.1 _ _ hL) ?_ ?_
    · rintro i y H8 H9 hi ⟨s8, d8⟩ ⟨rfl, kk2, v0, hk, rfl⟩
      have hi2 : i < ts.length := by omega
      have ht : ts[i]? = some ts[i] := List.getElem?_eq_getElem hi2
      have ekk : kk2 = Sum.inr (ts[i]).1 := by
        have z : (kv2.map (·.1))[i]? = some kk2 := by rw [List.getElem?_map, hk]; rfl
        rw [ek, List.getElem?_map, ht] at z
        exact (Option.some.inj z).symm
      subst ekk
      have mt : ts[i] ∈ ts := List.getElem_mem hi2
      obtain ⟨v, hv, dv⟩ := val (ts[i]) mt
      rw [tupd_parts (firstD_row (bad_row hfb mt)).1] at dv
      obtain ⟨a, xs, rfl, sq, da⟩ := (dv.same (sL.trans s8)).tuple
      have la : xs.length = (partsD (g (ts[i]).1)).length := by rw [da.len, List.length_map]
      refine ⟨rfl, _, rfl, x, CT, dx, _, _, rfl, s8 _ _ hx8, T2.clT, T2.nRw, rfl, _, rfl, D, _, rfl, .inl ⟨kv2, _, .inr ⟨od, s8 _ _ hL⟩, rfl, hv.symm⟩, a, xs, rfl, .inr (.inl (.inl sq)), _, d8, take_lt _ (by omega), same_put s8 _ hL2, ?_⟩
      rw [upd_same, map_take _ ht, la]
    · rintro H8 ⟨s8, d8⟩
      rw [lk, List.take_length] at d8
      have d9 : H8 L = some (.lst ((ts.map fun t => ((partsD (g t.1)).length : Int)).map V.int)) := by rw [d8, List.map_map]; rfl
      refine ⟨L, _, rfl, .inl (.inl d9), s8 _ _ hL, _, _, rfl, rfl, _, rfl, ?_⟩
      rw [sum_total]
      refine ifd (fun hgt => absurd hgt (by omega)) fun hle => ?_
      have sE : Same (upd F6 D (.dK kv2)) (upd H8 D (.dK kv2)) := same_upd (sL.trans s8) D _
      have hD0 : H D = none := by
        cases q : H D with
        | none => rfl
        | some o =>
          have z := toS D o nDx q
          rw [hD] at z
          cases z
      refine kQ D (upd F6 D (.dK kv2)) _ hD0 ⟨gr.ff.trans (same_new _ f6D), sE, fun a o n e1 e2 => ?_, ?_⟩ ?_ ⟨kv2, upd_same, ek, fun t mt => ?_⟩
      · obtain ⟨q1, q2⟩ := gr.hh a o e1 (toS a o n e2)
        have nD : a ≠ D := ne_of_none (toS a o n e2) hD
        rw [upd_ne nD, upd_ne nD]
        exact ⟨q1, s8 _ _ (toL a o nD (to7 a o n q2))⟩
      · rw [upd_ne (Ne.symm nDx)]
        exact f6x
      · rw [upd_ne (Ne.symm nDx)]
        exact s8 _ _ hx8
      · obtain ⟨v, h1, h2⟩ := val t mt
        exact ⟨v, h1, h2.same (same_new _ f6D)⟩
end
end Fm

/-! ## FmSeq2 -/
set_option Elab.async false
set_option maxRecDepth 100000
set_option maxHeartbeats 4000000
/-! Rules for what is a list or a tuple: slices, +, *. -/
namespace Fm
open PySem PySem.Spec PyProof.Rows L2
/-- t * k that is t itself -/
theorem tup_same (l : Addr) (items : Array Value) (n : Nat) (dd : Option Addr) (sl : Array (Option Value)) (x : Int) (u : Tok) (z0 : (decide (x < -(2 ^ 63)) || decide (x ≥ 2 ^ 63)) = false) (z1 : (items.isEmpty || x == 1) = true) :
    Meets (Builtin.«tuple.__mul__» ⟨[.ref l, .int x u], []⟩) (fun _ R s => s.heap.get? l = some { cls := .type "tuple", dict := dd, data := .seq items n, slots := sl } ∧ ∀ tk, R (.ok (.ret (Value.ref l))) { s with toks := tk }) :=
  .of_wp fun prog w A R s h => by
    obtain ⟨hp, g, d, tk, os⟩ := s
    obtain ⟨hl, q⟩ := h
    have f0 := AutoSeq1.idx_int
    wp_walk using wpAny_loadPart' hl
    repeat (first
      | (refine wpAny_ite_false (decide_eq_false (by rw [z0]; exact Bool.false_ne_true)) ?_; wp_walk using wpAny_loadPart' hl)
      | (refine wpAny_ite_true (decide_eq_true z1) ?_; wp_walk using wpAny_loadPart' hl))
    exact ⟨_, rfl, q _⟩
/-- t * k, t empty or k = 1: t itself -/
def rRep1 (K : PySem.W.Frag) : R2 := fun x y H Q => ∃ l k xs, x = .ref l ∧ y = .int k ∧ SqT K H l xs ∧ (xs = [] ∨ k = 1) ∧ 0 ≤ k ∧ k ≤ 1000 ∧ Q (.ref l) H
section
variable {X : Cx}
theorem op_rep1 : OpR X (binaryOp .Mult) (rRep1 X.K) := by
  intro pins s σ H x y v u Q I rx ry h
  obtain ⟨l, k, xs, rfl, rfl, hT, hc, h1, h2, q⟩ := h
  cases rx
  obtain ⟨t, rfl⟩ := ry
  obtain ⟨its, r, ⟨⟨cls, dd, data, sl⟩, ho, hcl, n, hd⟩, hs⟩ := I.tuple hT
  simp only at hcl hd
  subst hcl hd
  have z0 : (decide (k < -(2 ^ 63)) || decide (k ≥ 2 ^ 63)) = false := by
    rw [decide_eq_false (by omega), decide_eq_false (by omega)] <;> rfl
  have z1 : (its.toArray.isEmpty || k == 1) = true := by
    rcases hc with e | e
    · rw [e] at r
      cases r
      rfl
    · rw [e]
      simp
  exact wpAny_binaryOp_repeat_ref (T := "tuple") (U := "int") (by decide) ⟨_, ho, rfl⟩ (fun s2 => typeIs_int s2 k t) noFill_tuple_mul F.fills_int_mul F.slot_int_rmul repeat_tuple F.slot_int_index.lookup (call_meets F.slot_int_rmul (typeIs_int s k t) F.entry_int_rmul (F.args_int_rmul_2 _ _)
    (int_rmul_tuple k t l its.toArray n dd sl) ⟨ho, rfl, ⟨_, ho, rfl⟩, call_meets F.slot_tuple_mul ⟨_, ho, rfl⟩ F.entry_tuple_mul (F.args_tuple_mul_2 _ _) (tup_same l its.toArray n dd sl k t z0 z1) ⟨ho, fun tk => ⟨.ref l, H, I.kept (t' := tk) fun b u z => z, rfl, q⟩⟩⟩)
/-- a slice of a list or a tuple -/
theorem sl_any : SlR X (fun x lo hi H Q => rSlL X.K x lo hi H Q ∨ rSlA X.K x lo hi H Q) := SlR.or sl_list sl_tupA
/-- two lists, two tuples, one behind the other -/
theorem op_catAny : OpR X (binaryOp .Add) (fun x y H Q => rCat x y H Q ∨ rCatA X.K x y H Q) := OpR.or op_cat op_catA
/-- a list, a tuple, so many times -/
theorem op_repAny : OpR X (binaryOp .Mult) (fun x y H Q => rRep x y H Q ∨ (rRep1 X.K x y H Q ∨ rRepT X.K x y H Q)) := OpR.or op_rep (OpR.or op_rep1 op_repT)
end
/-! ### what they do to trees -/
/-- a tree of the same kind with other parts -/
def likeD (d : PyData) (ds : List PyData) : PyData := match d with
  | .list _ => .list ds
  | _ => .tuple ds
section
variable {K : PySem.W.Frag} {F H : Hp} {Q : VK}
theorem sq_lst {a : Addr} {xs : List V} (h : H a = some (.lst xs)) : SqL K H a xs := .inl (.inl h)
theorem sq_tup {a : Addr} {xs : List V} (h : H a = some (.tup xs)) : SqT K H a xs := .inl (.inl h)
theorem like_row {d : PyData} {ds : List PyData} : isRowD (likeD d ds) = true ∧ partsD (likeD d ds) = ds := by cases d <;> exact ⟨rfl, rfl⟩
theorem like_same {d : PyData} (h : isRowD d = true) : likeD d (partsD d) = d := by cases d <;> first | rfl | cases h
/-- a slice: some part of the row -/
theorem sl_tree {v : V} {d : PyData} {lo hi : Option Int} (s : Same F H) (hv : Tp F v d) (hr : isRowD d = true) (k : ∀ u F' H', Grow F H F' H' → Tp F' u (likeD d ((partsD d).drop (HT.sIx (partsD d).length 0 lo) |>.take (HT.sIx (partsD d).length (partsD d).length hi - HT.sIx (partsD d).length 0 lo))) → Q u H') :
    rSlL K v lo hi H Q ∨ rSlA K v lo hi H Q := by
  cases d with
  | list ds =>
    obtain ⟨a, xs, rfl, hx, ha⟩ := hv.list
    refine .inl ⟨a, xs, rfl, sq_lst (s _ _ hx), fun p hp => k _ _ _ (Grow.new s _ hp) (.lst upd_same ?_)⟩
    unfold cutV
    rw [ha.len]
    exact ((ha.drop _).take _).same (same_new _ (s.free hp))
  | tuple ds =>
    obtain ⟨a, xs, rfl, hx, ha⟩ := hv.tuple
    refine .inr ⟨a, xs, rfl, sq_tup (s _ _ hx), fun e => k _ _ _ (Grow.refl s) ?_, fun _ p hp => k _ _ _ (Grow.new s _ hp) (.tup upd_same ?_)⟩
    · rw [ha.len] at e
      rw [show (partsD (PyData.tuple ds)) = ds from rfl, e.1, e.2, List.drop_zero, Nat.sub_zero, List.take_length]
      exact hv
    · unfold cutV
      rw [ha.len]
      exact ((ha.drop _).take _).same (same_new _ (s.free hp))
  | _ => cases hr
/-- two rows of one kind, one behind the other -/
theorem cat_tree {v u : V} {d : PyData} {ds es : List PyData} (s : Same F H) (hv : Tp F v (likeD d ds)) (hu : Tp F u (likeD d es)) (hl : ds.length + es.length ≤ 100000) (k : ∀ w F' H', Grow F H F' H' → Tp F' w (likeD d (ds ++ es)) → Q w H') : rCat v u H Q ∨ rCatA K v u H Q := by
  have sz : ds.length + es.length ≤ sizeLine := Nat.le_of_lt (Nat.lt_of_le_of_lt hl (by decide))
  have tupc : ∀ {a b : V}, Tp F a (.tuple ds) → Tp F b (.tuple es) → (∀ w F' H', Grow F H F' H' → Tp F' w (.tuple (ds ++ es)) → Q w H') → rCatA K a b H Q := fun ha hb k => by
    obtain ⟨a, xs, rfl, hx, ta⟩ := ha.tuple
    obtain ⟨b, ys, rfl, hy, tb⟩ := hb.tuple
    refine ⟨a, b, xs, ys, rfl, rfl, sq_tup (s _ _ hx), sq_tup (s _ _ hy), by rw [ta.len, tb.len]; exact sz, fun e => ?_, fun _ e => ?_, fun _ _ p hp => k _ _ _ (Grow.new s _ hp) (.tup upd_same ((ta.app tb).same (same_new _ (s.free hp))))⟩
    · rw [e] at ta
      cases ta
      exact k _ _ _ (Grow.refl s) hb
    · rw [e] at tb
      cases tb
      rw [List.append_nil] at k
      exact k _ _ _ (Grow.refl s) ha
  cases d with
  | list zs =>
    obtain ⟨a, xs, rfl, hx, ta⟩ := (show Tp F v (.list ds) from hv).list
    obtain ⟨b, ys, rfl, hy, tb⟩ := (show Tp F u (.list es) from hu).list
    exact .inl ⟨a, b, xs, ys, rfl, rfl, s _ _ hx, s _ _ hy, by rw [ta.len, tb.len]; exact sz, fun p hp => k _ _ _ (Grow.new s _ hp) (.lst upd_same ((ta.app tb).same (same_new _ (s.free hp))))⟩
  | none => exact .inr (tupc hv hu k)
  | bool _ => exact .inr (tupc hv hu k)
  | int _ => exact .inr (tupc hv hu k)
  | str _ => exact .inr (tupc hv hu k)
  | tuple _ => exact .inr (tupc hv hu k)
  | dict _ => exact .inr (tupc hv hu k)
/-- a row so many times -/
theorem rep_tree {v : V} {d : PyData} {ds : List PyData} {c : Nat} (s : Same F H) (hv : Tp F v (likeD d ds)) (h1 : 1 ≤ c) (hc : c ≤ 100) (hl : ds.length ≤ 1000) (k : ∀ w F' H', Grow F H F' H' → Tp F' w (likeD d (List.replicate c ds).flatten) → Q w H') :
    rRep v (.int c) H Q ∨ (rRep1 K v (.int c) H Q ∨ rRepT K v (.int c) H Q) := by
  have tupc : ∀ {a : V}, Tp F a (.tuple ds) → (∀ w F' H', Grow F H F' H' → Tp F' w (.tuple (List.replicate c ds).flatten) → Q w H') → (rRep1 K a (.int c) H Q ∨ rRepT K a (.int c) H Q) := fun ha k => by
    obtain ⟨a, xs, rfl, hx, ta⟩ := ha.tuple
    by_cases e : xs = [] ∨ (c : Int) = 1
    · refine .inl ⟨a, c, xs, rfl, rfl, sq_tup (s _ _ hx), e, by omega, by omega, k _ _ _ (Grow.refl s) ?_⟩
      rcases e with e | e
      · rw [e] at ta
        cases ta
        rw [show (List.replicate c ([] : List PyData)).flatten = [] by simp]
        exact ha
      · have ec : c = 1 := by omega
        rw [ec, show (List.replicate 1 ds).flatten = ds by simp]
        exact ha
    · refine .inr ⟨a, c, xs, rfl, rfl, sq_tup (s _ _ hx), fun z => e (.inl z), ?_, by omega, by rw [ta.len]; exact hl, fun p hp => k _ _ _ (Grow.new s _ hp) (.tup upd_same ?_)⟩
      · have z : (c : Int) ≠ 1 := fun z => e (.inr z)
        omega
      · rw [Int.toNat_natCast]
        exact (ta.rep c).same (same_new _ (s.free hp))
  cases d with
  | list zs =>
    obtain ⟨a, xs, rfl, hx, ta⟩ := (show Tp F v (.list ds) from hv).list
    refine .inl ⟨a, c, xs, rfl, rfl, s _ _ hx, by omega, by omega, ?_, fun p hp => k _ _ _ (Grow.new s _ hp) (.lst upd_same ?_)⟩
    · rw [Int.toNat_natCast, ta.len]
      exact Nat.le_of_lt (Nat.lt_of_le_of_lt (Nat.mul_le_mul hl hc) (by decide))
    · rw [Int.toNat_natCast]
      exact (ta.rep c).same (same_new _ (s.free hp))
  | none => exact .inr (tupc hv k)
  | bool _ => exact .inr (tupc hv k)
  | int _ => exact .inr (tupc hv k)
  | str _ => exact .inr (tupc hv k)
  | tuple _ => exact .inr (tupc hv k)
  | dict _ => exact .inr (tupc hv k)
end
end Fm

/-! ## FmUnl2 -/
set_option Elab.async false
set_option maxRecDepth 100000
set_option maxHeartbeats 4000000
/-! A text == anything of a tree. -/
namespace Fm
open PySem PySem.Spec PyProof.Rows L2
theorem sub_str_dict : isSubtype (Value.type "str") (Value.type "dict") = pure false := by rfl
theorem sub_dict_str : isSubtype (Value.type "dict") (Value.type "str") = pure false := by rfl
theorem str_eq_dict (b : Str) (u : Tok) (l : Addr) (es : Array DictEntry) (ep : Nat) :
    Meets (Builtin.«str.__eq__» ⟨[.str b u, .ref l], []⟩) (fun _ R s => s.heap.get? l = some { cls := .type "dict", dict := none, data := .dict es ep, slots := #[] } ∧ R (.ok (.ret Value.notImplemented)) s) :=
  .of_wp fun prog w A R s h => by
    obtain ⟨hp, g, d, tk, os⟩ := s
    obtain ⟨hl, q⟩ := h
    wp_walk using wpAny_loadPart' hl
    exact ⟨_, rfl, q⟩
theorem dict_eq_str (b : Str) (u : Tok) (l : Addr) (es : Array DictEntry) (ep : Nat) :
    Meets (Builtin.«dict.__eq__» ⟨[.ref l, .str b u], []⟩) (fun _ R s => s.heap.get? l = some { cls := .type "dict", dict := none, data := .dict es ep, slots := #[] } ∧ R (.ok (.ret Value.notImplemented)) s) :=
  .of_wp fun prog w A R s h => by
    obtain ⟨hp, g, d, tk, os⟩ := s
    obtain ⟨hl, q⟩ := h
    have f0 := sub_str_dict
    wp_walk using wpAny_loadPart' hl
    exact ⟨_, rfl, q⟩
/-- is it this text -/
def isStrD (s : Str) : PyData → Bool
  | .str z => decide (s = z)
  | _ => false
/-- a text == any tree -/
def rEqT : R2 := fun x y H Q => ∃ (s : Str) (d : PyData), x = .str s ∧ Tp H y d ∧ Q (.bl (isStrD s d)) H
theorem op_eqT {X : Cx} (hu : X.A.units + 64 < cLine) : OpR X (compareOp .Eq) rEqT := by
  intro pins s σ H x y v u Q I rx ry h
  obtain ⟨z, d, rfl, ht, q⟩ := h
  have hu1 : X.A.units < cLine := by omega
  have flat : ∀ {b : Bool}, scal (.str z) y = true → decide (V.str z = y) = b → Q (.bl b) H → wpAny (model X.prog X.w) X.A (compareOp .Eq v u) (EP X pins σ Q) X.xe s := fun {b} h1 h2 h3 => op_eq pins s σ H (.str z) y v u Q I rx ry ⟨h1, by rw [h2]; exact h3⟩
  cases ht with
  | non => exact flat rfl (decide_eq_false fun e => nomatch e) q
  | bl b => exact flat rfl (decide_eq_false fun e => nomatch e) q
  | int i => exact flat rfl (decide_eq_false fun e => nomatch e) q
  | str w => exact flat rfl (by show decide (V.str z = V.str w) = decide (z = w); exact decide_eq_decide.mpr ⟨V.str.inj, fun e => by rw [e]⟩) q
  | @lst a xs ds hx ha =>
    obtain ⟨t, rfl⟩ := rx
    cases ry
    obtain ⟨its, r, pl, hs⟩ := I.list (.inl (.inl hx))
    obtain ⟨⟨cls, dd, data, sl⟩, ho, hcl, n, hd⟩ : s.heap.IsList a its.toArray := by first | exact pl.isList | exact pl.list | exact pl.1 | (obtain ⟨o, h1, h2, h3, h4⟩ := pl; exact ⟨o, h1, h2, h4⟩) | (obtain ⟨o, h1, h2, h3⟩ := pl; exact ⟨o, h1, h2, h3⟩)
    simp only at hcl hd
    subst hcl hd
    exact SeqAt.rc_eq_decline_or (typeIs_str s z t) ⟨_, ho, rfl⟩ (by decide) F.sub_list_str F.slot_str_eq F.slot_list_eq_refl (fun Q' q' => call_meets F.slot_str_eq (typeIs_str s z t) F.entry_str_eq (F.args_str_eq_2 _ _) (SeqAt.str_eq_declines_seq_str z t a _ _ _ _ _) ⟨ho, q'⟩)
      (fun Q' q' => call_meets F.slot_list_eq ⟨_, ho, rfl⟩ F.entry_list_eq (F.args_list_eq_2 _ _) (SeqAt.list_eq_declines_str a _ _ _ _ z t) ⟨ho, q'⟩) (fun Q' q' => wpAny_pure q') (.inr hu1) ⟨.bl false, H, I, rfl, q⟩
  | @tup a xs ds hx ha =>
    obtain ⟨t, rfl⟩ := rx
    cases ry
    obtain ⟨its, r, ⟨⟨cls, dd, data, sl⟩, ho, hcl, n, hd⟩, hs⟩ := I.tuple (.inl (.inl hx))
    simp only at hcl hd
    subst hcl hd
    exact SeqAt.rc_eq_decline_or (typeIs_str s z t) ⟨_, ho, rfl⟩ (by decide) F.sub_tuple_str F.slot_str_eq F.slot_tuple_eq_refl (fun Q' q' => call_meets F.slot_str_eq (typeIs_str s z t) F.entry_str_eq (F.args_str_eq_2 _ _) (SeqAt.str_eq_declines_seq_str z t a _ _ _ _ _) ⟨ho, q'⟩)
      (fun Q' q' => call_meets F.slot_tuple_eq ⟨_, ho, rfl⟩ F.entry_tuple_eq (F.args_tuple_eq_2 _ _) (SeqAt.tuple_eq_declines_str a _ _ _ _ z t) ⟨ho, q'⟩) (fun Q' q' => wpAny_pure q') (.inr hu1) ⟨.bl false, H, I, rfl, q⟩
  | @dct a kvs es0 hk _ _ =>
    obtain ⟨t, rfl⟩ := rx
    cases ry
    obtain ⟨_, _, vs, _, o, es, ep, ho, ⟨hc, hd, hsl⟩, hda, _⟩ := dk_of I.hok hk
    obtain ⟨cls, dd, data, sl⟩ := o
    simp only at hc hd hsl hda
    subst hc hd hsl hda
    exact SeqAt.rc_eq_decline_or (typeIs_str s z t) ⟨_, ho, rfl⟩ (by decide) sub_dict_str F.slot_str_eq F.slot_dict_eq_refl (fun Q' q' => call_meets F.slot_str_eq (typeIs_str s z t) F.entry_str_eq (F.args_str_eq_2 _ _) (str_eq_dict z t a _ _) ⟨ho, q'⟩)
      (fun Q' q' => call_meets F.slot_dict_eq ⟨_, ho, rfl⟩ F.entry_dict_eq (F.args_dict_eq_2 _ _) (dict_eq_str z t a _ _) ⟨ho, q'⟩) (fun Q' q' => wpAny_pure q') (.inr hu1) ⟨.bl false, H, I, rfl, q⟩
end Fm

/-! ## K04V -/
set_option Elab.async false
set_option maxRecDepth 100000
set_option maxHeartbeats 4000000
namespace Fm
open PySem L2
/-! ### what a store answers -/
/-- a store of the tables ts with the rows g stands at a -/
def StAt (CS CT : Addr) (F : Hp) (a : Addr) (ts : List Tab) (g : Str → PyData) : Prop := ∃ dx sh rd, F a = some (.ins CT dx (stF sh rd)) ∧ ShT CS F sh (tsD ts) ∧ RsAt F rd ts g
theorem StAt.same {CS CT : Addr} {F F' : Hp} {a : Addr} {ts : List Tab} {g : Str → PyData} (h : StAt CS CT F a ts g) (s : Same F F') : StAt CS CT F' a ts g := by
  obtain ⟨dx, sh, rd, h1, h2, h3⟩ := h
  exact ⟨dx, sh, rd, s _ _ h1, h2.same s, h3.same s⟩
theorem strD_of {s : Str} {d : PyData} (h : isStrD s d = true) : d = .str s := by
  cases d with
  | str z => exact congrArg PyData.str (of_decide_eq_true h).symm
  | _ => cases h
theorem strD_no {s : Str} {d : PyData} (h : isStrD s d = false) : d ≠ .str s := fun e => by
  rw [e] at h
  exact absurd (of_decide_eq_false h) (fun z => z rfl)
/-- no table has this name -/
def NoName (d : PyData) (ts : List Tab) : Prop := ∀ t ∈ ts, d ≠ .str t.1
section
variable {P : Program} {w : World} {K : PySem.W.Frag} {mg : Str → Option Value} {base : Heap} {CS CT CR CN CM : Addr}
/-- an error that holds what was given -/
def ErrVal (H : Hp) (v : V) (E : Option Addr → Hp → Prop) : Prop := ∀ (d : Addr), H d = none → E (some d) (upd H d (.xd [("value", v)]))
def spFieldsE (CS CN : Addr) : Sp := fun vs H Q E => ∃ (F : Hp) (sh : Addr) (v : V) (d : PyData) (ts : List Tab), vs = [.ref sh, v] ∧ Same F H ∧ Tp F v d ∧ siz d ≤ 100000 ∧ ShT CS F sh (tsD ts) ∧ TsOk ts ∧ (∀ t ∈ ts, d = .str t.1 → ∀ u, Tp F u (.tuple (t.2.map PyData.str)) → Q u H) ∧ (NoName d ts → ErrVal H v (E (.ref CN)))
abbrev s_Shape_fields_of : Stmt := inClass (topS 23) 2
abbrev sc_Shape_fields_ofN : List Str := ["self", "name", "table", "fields"]
abbrev ps_Shape_fields_of : List Str := ["self", "name"]
theorem sc_Shape_fields_of : FnScope sc_Shape_fields_ofN ps_Shape_fields_of (defScope s_Shape_fields_of) := ⟨rfl, rfl, rfl, by decide +kernel, rfl, by decide +kernel, by decide +kernel⟩
theorem ok_Shape_fields_of {f : Addr} {fd : FuncData} (F : Fun K "fields_of" "Shape.fields_of" s_Shape_fields_of f fd) (T : Txt K mg CS) (X_BadName : Xf P w K mg base "BadName" CN "value") : FnOk P w K mg base (L2.CX P w) 3 f fd ps_Shape_fields_of (spFieldsE CS CN) := by
  refine F.okX sc_Shape_fields_of (fun vs H Q E h => ?_) (fun cdv A outer s H vs Q E hr h => ?_)
  · obtain ⟨_, _, _, _, _, rfl, _⟩ := h
    rfl
  · obtain ⟨F0, sh, v, d, ts, rfl, sF, hv, hz, ⟨dx, tv, hsh, dtv⟩, ok, kQ, kE⟩ := h
    refine ⟨_, (pss_cons (ps_for PassesOwn.leaving rfl (pi_tup (pe_fld (pv 0) rfl)) (pg_tup (by rfl) (pgs_cons (pg_name (i := 2) sc_Shape_fields_of.nd rfl (Or.inl rfl)) (pgs_cons (pg_name (i := 3) sc_Shape_fields_of.nd rfl (Or.inl rfl)) pgs_nil)))
    (pss_one (ps_if (pt_cmpR (op_eqT (Nat.lt_of_le_of_lt (Nat.add_le_add_left (by decide) _) hr.units)) (pv 2) (pv 1) (nomark _))
      (pss_one (ps_ret (pv 3)))
      pss_nil)))
  (pss_one (ps_rE X_BadName (hr.mono (by decide)) (takes_of rfl rfl rfl rfl) (pv 1)))), ?_⟩
    obtain ⟨tpl, txs, rfl, htp0, hd⟩ := (show Tp F0 tv (.tuple (ts.map (tabD false))) from dtv).tuple
    have htp : SqT K H tpl txs := .inl (.inl (sF _ _ htp0))
    have lx : txs.length = ts.length := by rw [hd.len, List.length_map]
    refine ⟨_, rfl, sh, CS, dx, _, _, rfl, sF _ _ hsh, T.cl, T.nT, rfl, tpl, rfl, ⟨_, htp⟩, for_it walk_tup (fun i σ H' => ∃ v2 v3, σ = [some (.ref sh), some v, v2, v3] ∧ H = H' ∧ ∀ t ∈ ts.take i, d ≠ .str t.1)
      ⟨_, _, rfl, rfl, fun _ m => by cases m⟩ (fun i σ H' _ z => by obtain ⟨_, _, _, rfl, _⟩ := z; exact htp) ?_ ?_⟩
    · rintro i x σ H5 H6 hi ⟨v2, v3, rfl, rfl, inv⟩ ⟨rfl, hx⟩
      obtain ⟨c, hc, hxc⟩ := hd.at hx
      rw [List.getElem?_map] at hc
      obtain ⟨t, ht, rfl⟩ := Option.map_eq_some_iff.mp hc
      have mt := List.mem_of_getElem? ht
      obtain ⟨p, q, rfl, hp, hq⟩ := tab_in hxc
      refine ⟨p, _, rfl, .inl (.inl (sF _ _ hp)), rfl, _, _, rfl, _, _, rfl, rfl, ?_⟩
      refine ⟨_, rfl, _, rfl, t.1, d, rfl, hv.same sF, _, rfl, ?_⟩
      cases e : isStrD t.1 d with
      | true => exact iteT ⟨_, rfl, kQ t mt (strD_of e) _ (.tup hq (TpAll.strs t.2))⟩
      | false =>
        refine iteF ⟨_, _, rfl, rfl, fun u m => ?_⟩
        rw [List.take_add_one, ht] at m
        rcases List.mem_append.mp m with m | m
        · exact inv u m
        · have z : u = t := by simpa using m
          rw [z]
          exact strD_no e
    · rintro σ H5 ⟨v2, v3, rfl, rfl, inv⟩
      rw [lx, List.take_length] at inv
      exact ⟨_, rfl, fun d hd => kE inv d hd⟩
/-- n is the name of one of the tables -/
def spRowsOf (CS CT CN : Addr) : Sp := fun vs H Q E => ∃ (F : Hp) (a : Addr) (v : V) (d : PyData) (ts : List Tab) (g : Str → PyData), vs = [.ref a, v] ∧ Same F H ∧ Tp F v d ∧ siz d ≤ 100000 ∧ StAt CS CT F a ts g ∧ TsOk ts ∧ (∀ t ∈ ts, isRowD (g t.1) = true) ∧
  (∀ t ∈ ts, d = .str t.1 → ∀ (p : Addr) (xs : List V), H p = none → TpAll F xs (partsD (g t.1)) → Q (.ref p) (upd H p (.lst xs))) ∧ (NoName d ts → ErrVal H v (E (.ref CN)))
abbrev s_Store_rows_of : Stmt := inClass (topS 24) 2
abbrev sc_Store_rows_ofN : List Str := ["self", "name"]
abbrev ps_Store_rows_of : List Str := ["self", "name"]
theorem sc_Store_rows_of : FnScope sc_Store_rows_ofN ps_Store_rows_of (defScope s_Store_rows_of) := ⟨rfl, rfl, rfl, by decide +kernel, rfl, by decide +kernel, by decide +kernel⟩
theorem ok_Store_rows_of {f : Addr} {fd : FuncData} (F : Fun K "rows_of" "Store.rows_of" s_Store_rows_of f fd) (T : Txt K mg CS) (T2 : Tx2 K mg CT) (D_fields_of : DmX P w K mg base CS "fields_of" 3 ps_Shape_fields_of (spFieldsE CS CN)) : FnOk P w K mg base (L2.CX P w) 4 f fd ps_Store_rows_of (spRowsOf CS CT CN) := by
  refine F.okX sc_Store_rows_of (fun vs H Q E h => ?_) (fun cdv A outer s H vs Q E hr h => ?_)
  · obtain ⟨_, _, _, _, _, _, rfl, _⟩ := h
    rfl
  · obtain ⟨F0, a, v, d, ts, g, rfl, sF, hv, hz, ⟨dx, sh, rd, ha, shA, kvs, hrd, ek, val⟩, ok, rows, kQ, kE⟩ := h
    refine ⟨_, (pss_cons (ps_expr (pe_dmE (pe_fld (pv 0) rfl) T.cl D_fields_of (hr.mono (by decide)) (takes_of rfl rfl rfl rfl) (pa_cons (pv 1) pa_nil)))
  (pss_one (ps_ret (pe_callTy call_list_of (by rfl) T.n_list (by decide +kernel) (pa_cons (pe_dget (Nat.lt_of_le_of_lt (Nat.add_le_add_left (by decide) _) hr.units) (pe_fld (pv 0) rfl) (pv 1) (fun _ _ => rfl)) pa_nil))))), ?_⟩
    obtain ⟨dsh, tv, hsh, dtv⟩ := id shA
    refine ⟨_, rfl, a, CT, dx, _, _, rfl, sF _ _ ha, T2.clT, T2.nSh, rfl, sh, dsh, _, rfl, sF _ _ hsh, rfl, _, rfl, F0, sh, v, d, ts, rfl, sF, hv, hz, shA, ok, fun t mt ed u hu => ?_, kE⟩
    obtain ⟨y, hy, ty⟩ := val t mt
    obtain ⟨c, xs, rfl, hx, da⟩ := ty.row (rows t mt)
    subst ed
    rw [hv.strI]
    exact ⟨_, rfl, a, CT, dx, _, _, rfl, sF _ _ ha, T2.clT, T2.nRw, rfl, _, rfl, rd, _, rfl, .inl ⟨kvs, _, .inl (sF _ _ hrd), rfl, hy.symm⟩, c, xs, rfl, rw_sq (hx.same sF), fun l hl => kQ t mt rfl l xs hl da⟩
end
end Fm

/-! ## K04W -/
set_option Elab.async false
set_option maxRecDepth 100000
set_option maxHeartbeats 4000000
namespace Fm
open PySem L2
theorem ErrPair.sub {H H2 : Hp} {v i : V} {E : Option Addr → Hp → Prop} (h : ErrPair H v i E) (s : Same H H2) : ErrPair H2 v i E := fun d tp H' q n n2 => h d tp H' (s.trans q) (s.free n) (s.free n2)
/-- a store whose rows are new behind H -/
def StNew (CS CT : Addr) (H F : Hp) (a : Addr) (ts : List Tab) (g : Str → PyData) : Prop := H a = none ∧ ∃ dx sh rd, H rd = none ∧ F a = some (.ins CT dx (stF sh rd)) ∧ ShT CS F sh (tsD ts) ∧ RsAt F rd ts g
theorem StNew.at_ {CS CT : Addr} {H F : Hp} {a : Addr} {ts : List Tab} {g : Str → PyData} (h : StNew CS CT H F a ts g) : StAt CS CT F a ts g := by
  obtain ⟨_, dx, sh, rd, _, h1, h2, h3⟩ := h
  exact ⟨dx, sh, rd, h1, h2, h3⟩
/-- a store is made of a shape and a dict of rows -/
theorem store_make {CS CT CR : Addr} {F0 H : Hp} {x dx sh rd : Addr} {ts : List Tab} {kvs : List (Key × V)} {g : Str → PyData} {R : Hp → Prop} {E : XK} (sF : Same F0 H) (shA : ShT CS F0 sh (tsD ts)) (ok : TsOk ts) (rs : Rd1 F0 H rd kvs ts g) (nx : H x = none) (nd : H dx = none) (ne : dx ≠ x)
    (kE : ∀ t i, firstBad g ts = some (t, i) → ErrPair H (.str t) (.int i) (E (.ref CR))) (kQ : firstBad g ts = none → total g ts ≤ 300 ∧ ∀ F' H', Grow F0 H F' H' → StNew CS CT H F' x ts (fun n => tupd (g n)) → R H') :
    spStInit CS CT CR [.ref x, .ref sh, .ref rd] (upd (upd H dx (.own x)) x (.ins CT dx [])) (fun z H' => z = .non ∧ R H') E := by
  have s1 : Same H (upd (upd H dx (.own x)) x (.ins CT dx [])) := fun a o e => by
    rw [upd_ne (ne_of_none e nx), upd_ne (ne_of_none e nd)]
    exact e
  refine ⟨F0, x, dx, sh, rd, ts, kvs, g, rfl, upd_same, sF.trans s1, sF.free nx, shA, ok, ⟨s1 _ _ rs.at_, rs.no, rs.len, rs.key, rs.ex, rs.sz, rs.dp⟩, fun t i e => (kE t i e).sub s1, fun hfb => ⟨(kQ hfb).1, fun rd' F' H' nrd gx hx rsA => ⟨rfl, ?_⟩⟩⟩
  have sX : Same F' (upd F' x (.ins CT dx (stF sh rd'))) := same_new _ gx.no
  refine (kQ hfb).2 _ _ ⟨gx.ff.trans sX, fun a o e => ?_, fun a o e1 e2 => ?_⟩ ⟨nx, dx, sh, rd', s1.free nrd, upd_same, shA.same (gx.ff.trans sX), rsA.same sX⟩
  · by_cases z : a = x
    · rw [z, upd_same] at e
      rw [z, hx]
      exact e
    · rw [upd_ne z] at e
      exact gx.fh _ _ e
  · have n := ne_of_none e2 nx
    obtain ⟨z1, z2⟩ := gx.hh a o n e1 (s1 _ _ e2)
    rw [upd_ne n]
    exact ⟨z1, z2⟩
theorem keys_put {kvs : List (Key × V)} {k : Key} {z : V} (h : k ∈ kvs.map (·.1)) : (putK kvs k z).map (·.1) = kvs.map (·.1) := by
  unfold putK
  obtain ⟨kv, m, e⟩ := List.mem_map.mp h
  rw [if_pos (List.any_eq_true.mpr ⟨kv, m, decide_eq_true e⟩), List.map_map]
  refine List.map_congr_left fun u _ => ?_
  show (if u.1 = k then (u.1, z) else u).1 = u.1
  by_cases q : u.1 = k
  · rw [if_pos q]
  · rw [if_neg q]
end Fm

/-! ## K04X -/
set_option Elab.async false
set_option maxRecDepth 100000
set_option maxHeartbeats 4000000
namespace Fm
open PySem L2
/-! ### the law's own small steps -/
section
variable {P : Program} {w : World} {K : PySem.W.Frag} {mg : Str → Option Value} {base : Heap} {CS CT CR CN CM : Addr}
def spValue : Sp := fun vs H Q _ => ∃ (F : Hp) (b : Addr), vs = [.ref b] ∧ Bag F H b ∧ ∀ (z : Int) (H' : Hp), -1000000000 ≤ z → z ≤ 1000000000 → Bag F H' b → Q (.int z) H'
abbrev s_l_value : Stmt := topS 33
abbrev sc_l_valueN : List Str := ["_law_bag_here", "_law_number"]
abbrev ps_l_value : List Str := ["_law_bag_here"]
theorem sc_l_value : FnScope sc_l_valueN ps_l_value (defScope s_l_value) := ⟨rfl, rfl, rfl, by decide +kernel, rfl, by decide +kernel, by decide +kernel⟩
theorem ok_l_value {f : Addr} {fd : FuncData} (F : Fun K "_law_value" "_law_value" s_l_value f fd) (T : Txt K mg CS) (D_l_pick : Df P w K mg base "_law_pick" 1 ps_l_pick spPick) : FnOk P w K mg base CX0 2 f fd ps_l_value spValue := by
  refine F.ok sc_l_value (fun vs H Q E h => ?_) (fun cdv A outer s H vs Q E hr h => ?_)
  · obtain ⟨_, _, rfl, _⟩ := h
    rfl
  · obtain ⟨F0, b, rfl, B, k⟩ := h
    refine ⟨_, (pss_cons (ps_if (pt_cmpR op_eq (pe_d D_l_pick (hr.mono (by decide)) (pa_cons (pv 0) (pa_cons pe_int pa_nil))) pe_int (nomark _))
    (pss_cons (ps_set (i := 1) sc_l_value.nd rfl (Or.inl rfl) (pe_op op_mul (pe_d D_l_pick (hr.mono (by decide)) (pa_cons (pv 0) (pa_cons pe_int pa_nil))) pe_int))
    (pss_one (ps_ret (pe_op op_sub (pe_op op_modN (pe_callTy call_int1 (by rfl) T.n_int (by decide +kernel) (pa_cons (pe_op op_add (pv 1) (pe_d D_l_pick (hr.mono (by decide)) (pa_cons (pv 0) (pa_cons pe_int pa_nil)))) pa_nil)) (pe_op op_add (pe_op op_mul pe_int (pe_op op_pow pe_int pe_int)) pe_int)) (pe_op op_pow pe_int pe_int)))))
    pss_nil)
  (pss_one (ps_ret (pe_op op_sub (pe_d D_l_pick (hr.mono (by decide)) (pa_cons (pv 0) (pa_cons pe_int pa_nil))) pe_int)))), ?_⟩
    refine ⟨_, rfl, F0, b, 8, rfl, by decide, by decide, B, fun r0 H1 a0 a1 B1 => ⟨rfl, _, rfl, ifd (fun _ => ?_) fun _ => ?_⟩⟩
    · refine ⟨_, rfl, F0, b, 44722, rfl, by decide, by decide, B1, fun r1 H2 b0 b1 B2 => ⟨_, _, rfl, rfl, ?_⟩⟩
      have lo : ∀ m : Int, 0 ≤ m.fmod 2000000001 ∧ m.fmod 2000000001 < 2000000001 := fun m => ⟨fmod_lo (by decide), fmod_hi (by decide)⟩
      refine ⟨.inl ⟨by omega, by omega⟩, ?_⟩
      refine ⟨_, rfl, _, rfl, F0, b, 44722, rfl, by decide, by decide, B2, fun r2 H3 c0 c1 B3 => ⟨_, _, rfl, rfl, .inl ⟨_, rfl, ?_⟩⟩⟩
      refine ⟨_, _, rfl, rfl, ⟨by decide, by decide⟩, _, _, rfl, rfl, .inl ⟨by decide, by decide⟩, _, _, rfl, rfl, _, _, rfl, rfl, (by show (2 : Int) * 10 ^ (9 : Int).toNat + 1 ≠ 0; decide), _, _, rfl, rfl, ⟨by decide, by decide⟩, _, _, rfl, rfl, ?_⟩
      have z := lo (r1 * 44722 + r2)
      have e : ((2 : Int) * 10 ^ (9 : Int).toNat + 1) = 2000000001 := by decide
      show Q (V.int ((r1 * 44722 + r2).fmod (2 * 10 ^ (9 : Int).toNat + 1) - 10 ^ (9 : Int).toNat)) H3
      rw [e, show ((10 : Int) ^ (9 : Int).toNat) = 1000000000 by decide]
      exact k _ _ (by omega) (by omega) B3
    · refine ⟨_, rfl, F0, b, 5, rfl, by decide, by decide, B1, fun r1 H2 b0 b1 B2 => ⟨_, _, rfl, rfl, ?_⟩⟩
      exact k _ _ (by omega) (by omega) B2
end
end Fm

/-! ## K04Y -/
set_option Elab.async false
set_option maxRecDepth 100000
set_option maxHeartbeats 4000000
namespace Fm
open PySem L2
/-! ### the rows that are drawn -/
def RowOk (w : Nat) (r : PyData) : Prop := ∃ zs : List Int, r = .tuple (zs.map PyData.int) ∧ zs.length = w ∧ ∀ z ∈ zs, -1000000000 ≤ z ∧ z ≤ 1000000000
def RowsOk (w : Nat) (d : PyData) : Prop := ∃ R : List PyData, d = .list R ∧ R.length ≤ 9 ∧ ∀ r ∈ R, RowOk w r
theorem pick_g {P : Tab → PyData → Prop} : ∀ {ts : List Tab}, (ts.map (·.1)).Nodup → (∀ t ∈ ts, ∃ d, P t d) → ∃ g : Str → PyData, ∀ t ∈ ts, P t (g t.1)
  | [], _, _ => ⟨fun _ => .none, fun _ m => by cases m⟩
  | t :: ts, nd, h => by
    rw [List.map_cons, List.nodup_cons] at nd
    obtain ⟨d, hd⟩ := h t List.mem_cons_self
    obtain ⟨g, hg⟩ := pick_g nd.2 fun u m => h u (List.mem_cons_of_mem _ m)
    refine ⟨fun n => if n = t.1 then d else g n, fun u m => ?_⟩
    rcases List.mem_cons.mp m with rfl | m
    · show P _ (if _ then _ else _)
      rw [if_pos rfl]
      exact hd
    · have ne : u.1 ≠ t.1 := fun e => nd.1 (by rw [← e]; exact List.mem_map.mpr ⟨u, m, rfl⟩)
      show P u (if u.1 = t.1 then d else g u.1)
      rw [if_neg ne]
      exact hg u m
section
variable {P : Program} {w : World} {K : PySem.W.Frag} {mg : Str → Option Value} {base : Heap} {CS CT CR CN CM : Addr}
def spRows : Sp := fun vs H Q _ => ∃ (F : Hp) (b p : Addr) (ts : List Tab), vs = [.ref b, .ref p] ∧ Bag F H b ∧ TbAt F p ts ∧ TsOk ts ∧ ∀ (rd : Addr) (kvs : List (Key × V)) (F' H' : Hp) (g : Str → PyData), Bag (upd F' rd (.dK kvs)) H' b → Same F F' → F' rd = none → kvs.map (·.1) = ts.map (fun t => (Sum.inr t.1 : Key)) →
  (∀ t ∈ ts, (∃ v, valV kvs (Sum.inr t.1) = some v ∧ Tp F' v (g t.1)) ∧ RowsOk t.2.length (g t.1)) → Q (.ref rd) H'
abbrev s_l_rows : Stmt := topS 35
abbrev sc_l_rowsN : List Str := ["_law_bag_here", "_law_tables_here", "_law_rows_here", "_law_name_here", "_law_fields", "_law_found", "_law_k", "_law_field"]
abbrev ps_l_rows : List Str := ["_law_bag_here", "_law_tables_here"]
theorem sc_l_rows : FnScope sc_l_rowsN ps_l_rows (defScope s_l_rows) := ⟨rfl, rfl, rfl, by decide +kernel, rfl, by decide +kernel, by decide +kernel⟩
theorem ok_l_rows {f : Addr} {fd : FuncData} (F : Fun K "_law_rows" "_law_rows" s_l_rows f fd) (T : Txt K mg CS) (D_l_pick : Df P w K mg base "_law_pick" 1 ps_l_pick spPick) (D_l_value : Df P w K mg base "_law_value" 2 ps_l_value spValue) : FnOk P w K mg base CX0 3 f fd ps_l_rows spRows := by
  refine F.ok sc_l_rows (fun vs H Q E h => ?_) (fun cdv A outer s H vs Q E hr h => ?_)
  · obtain ⟨_, _, _, _, rfl, _⟩ := h
    rfl
  · obtain ⟨F0, b, p, ts, rfl, B, ⟨xs, hp, ta⟩, ok, k⟩ := h
    refine ⟨_, (pss_cons (ps_set (i := 2) sc_l_rows.nd rfl (Or.inl rfl) pe_dnewK)
  (pss_cons (ps_for PassesOwn.never rfl (pi_list (pv 1)) (pg_tup (by rfl) (pgs_cons (pg_name (i := 3) sc_l_rows.nd rfl (Or.inl rfl)) (pgs_cons (pg_name (i := 4) sc_l_rows.nd rfl (Or.inl rfl)) pgs_nil)))
    (pss_cons (ps_set (i := 5) sc_l_rows.nd rfl (Or.inl rfl) (pe_lst pa_nil))
    (pss_cons (ps_for PassesOwn.never rfl (pi_range1 (by rfl) T.n_range (pa_cons (pe_ix ix_list (pe_lst (pa_cons pe_int (pa_cons pe_int (pa_cons pe_int (pa_cons pe_int (pa_cons pe_int (pa_cons pe_int (pa_cons pe_int (pa_cons pe_int pa_nil))))))))) (pe_d D_l_pick (hr.mono (by decide)) (pa_cons (pv 0) (pa_cons pe_int pa_nil))) (fun _ _ => rfl)) pa_nil)) (pg_name (i := 6) sc_l_rows.nd rfl (Or.inl rfl))
      (pss_one (ps_if (PW.pt (pw_and (pt_cmpR op_gt (pv 6) pe_int (nomark _)) (pw_and1 (pt_cmpR op_eq (pe_d D_l_pick (hr.mono (by decide)) (pa_cons (pv 0) (pa_cons pe_int pa_nil))) pe_int (nomark _)))))
        (pss_one (ps_expr (pe_bm PySem.F.plainAttrs_list PySem.F.slot_list_append PySem.F.type_list_append mt_append (pv 5) (pa_cons (pe_ix ix_list (pv 5) (pe_d D_l_pick (hr.mono (by decide)) (pa_cons (pv 0) (pa_cons (pe_callB call_len_seq (by rfl) T.n_len (by decide +kernel) (pa_cons (pv 5) pa_nil)) pa_nil))) (fun _ _ => rfl)) pa_nil))))
        (pss_one (ps_expr (pe_bm PySem.F.plainAttrs_list PySem.F.slot_list_append PySem.F.type_list_append mt_append (pv 5) (pa_cons (pe_callTy call_tuple_of (by rfl) T.n_tuple (by decide +kernel) (pa_cons (pe_lc (own := [("_law_field", 7)]) (g := gName 7) (tt := tYes) (by rfl) sc_l_rows.nd (pi_tup (pv 4)) (blkOk_by (own := [("_law_field", 7)]) (N := sc_l_rowsN) (sc := defScope s_l_rows) (by decide +kernel)) (fun _ _ _ _ _ => pg_name (i := 7) sc_l_rows.nd rfl (Or.inl rfl)) (fun _ _ _ _ _ => pts_nil) (fun _ _ _ _ _ => (pe_d D_l_value (hr.mono (by decide)) (pa_cons (pv 0) pa_nil)))) pa_nil)) pa_nil)))))))
    (pss_one (ps_asg (pv 5) (pg_sub (pv 2) (pv 3) (set_dict (Nat.lt_of_le_of_lt (Nat.add_le_add_left (by decide) _) hr.units))))))))
  (pss_one (ps_ret (pv 2))))), ?_⟩
    have lx : xs.length = ts.length := by rw [ta.len, List.length_map]
    have lo := ok.hi
    refine fun rd hrd => ?_
    have B1 := B.new (.dK []) hrd
    have f0r := B.fh.free hrd
    generalize upd H rd (.dK []) = H1 at *
    have hp1 : ∀ {G H' : Hp} {kvs : List (Key × V)}, Same F0 G → G rd = none → Bag (upd G rd (.dK kvs)) H' b → SqL K H' p xs := fun s n B => .inl (.inl (B.fh _ _ (by rw [upd_ne (ne_of_none (s _ _ hp) n)]; exact s _ _ hp)))
    refine ⟨_, rfl, p, rfl, ⟨_, hp1 (Same.refl _) f0r B1⟩, for_it walk_list (fun i σ H' => ∃ (G : Hp) (kvs : List (Key × V)) (v3 v4 v5 v6 v7 : Option V), σ = [some (.ref b), some (.ref p), some (.ref rd), v3, v4, v5, v6, v7] ∧ Same F0 G ∧ G rd = none ∧ Bag (upd G rd (.dK kvs)) H' b ∧ kvs.map (·.1) = (ts.take i).map (fun t => (Sum.inr t.1 : Key)) ∧ ∀ t ∈ ts.take i, ∃ d, (∃ v, valV kvs (Sum.inr t.1) = some v ∧ Tp G v d) ∧ RowsOk t.2.length d)
      ⟨F0, [], _, _, _, _, _, rfl, Same.refl _, f0r, B1, rfl, fun t m => by cases m⟩ (fun i σ H' _ z => by obtain ⟨G, kvs, _, _, _, _, _, _, sG, gr, B2, _⟩ := z; exact hp1 sG gr B2) ?_ ?_⟩
    · rintro i x σ H3 H2 hi ⟨G0, kvs, v3, v4, v5, v6, v7, rfl, sG0, gr0, B2, ek, val⟩ ⟨rfl, hx⟩
      obtain ⟨c0, hc0, hxc⟩ := ta.at hx
      rw [List.getElem?_map] at hc0
      obtain ⟨t, ht, rfl⟩ := Option.map_eq_some_iff.mp hc0
      have mt := List.mem_of_getElem? ht
      obtain ⟨p1, c, rfl, hp2, hc⟩ := tab_in hxc
      have lf := (ok.ok t mt).fs.hi
      have to0 : ∀ a o, F0 a = some o → H2 a = some o := fun a o e => B2.fh _ _ (by rw [upd_ne (ne_of_none (sG0 _ _ e) gr0)]; exact sG0 _ _ e)
      refine ⟨p1, _, rfl, .inl (.inl (to0 _ _ hp2)), rfl, _, _, rfl, _, _, rfl, rfl, ?_⟩
      refine ⟨Nat.zero_le _, fun q hq => ?_⟩
      have B3 := B2.new (.lst []) hq
      have fq := B2.fh.free hq
      have nrq : rd ≠ q := ne_of_none (upd_same : (upd G0 rd (.dK kvs)) rd = some (.dK kvs)) fq
      have gq0 : G0 q = none := by rw [upd_ne (Ne.symm nrq)] at fq; exact fq
      refine ⟨(by show 8 ≤ sizeLine; decide), fun m hm => ⟨_, rfl, _, b, 8, rfl, by decide, by decide, B3.new _ hm, fun r H4 r0 r1 B4 => ?_⟩⟩
      obtain ⟨v, hv, hvm⟩ := at_mem (xs := ([2, 3, 4, 1, 5, 0, 3, 9] : List Int).map V.int) r0 r1
      obtain ⟨z, hz, rfl⟩ := List.mem_map.mp hvm
      have z9 : 0 ≤ z ∧ z ≤ 9 := by
        have all : ∀ z ∈ ([2, 3, 4, 1, 5, 0, 3, 9] : List Int), 0 ≤ z ∧ z ≤ 9 := by decide
        exact all z hz
      have B5 := bag_sub (F := upd (upd G0 rd (.dK kvs)) q (.lst [])) (fun a o e => by rw [upd_ne (ne_of_none (B3.fh _ _ e) hm)]; exact e) B4
      refine ⟨m, _, _, _, rfl, rfl, .inl (.inl (B4.fh _ _ upd_same)), hv, z, rfl, by omega, by omega, ?_⟩
      refine for_range (lo := 0) (n := z.toNat) (fun j σ H' => ∃ (G : Hp) (R : List PyData) (xs2 : List V) (v6 v7 : Option V), σ = [some (.ref b), some (.ref p), some (.ref rd), some (.str t.1), some (.ref c), some (.ref q), v6, v7] ∧ Same G0 G ∧ G rd = none ∧ G q = none ∧ Bag (upd (upd G rd (.dK kvs)) q (.lst xs2)) H' b ∧ TpAll G xs2 R ∧ R.length = j ∧ ∀ r ∈ R, RowOk t.2.length r) ?_ ?_ ?_
      · exact ⟨G0, [], [], _, _, rfl, Same.refl _, gr0, gq0, B5, .nil, rfl, fun _ m => by cases m⟩
      · rintro j σ H6 hj ⟨G, R, xs2, v6, v7, rfl, sG, gr, gq, B6, tR, lR, okR⟩
        rw [show (0 : Int) + (j : Nat) = (j : Nat) from Int.zero_add _]
        have hc2 := sG _ _ (sG0 _ _ hc)
        have toS : ∀ a o, G a = some o → (upd (upd G rd (.dK kvs)) q (.lst xs2)) a = some o := fun a o e => by rw [upd_ne (ne_of_none e gq), upd_ne (ne_of_none e gr)]; exact e
        have toB : ∀ H', Bag (upd (upd G rd (.dK kvs)) q (.lst xs2)) H' b → ∀ a o, G a = some o → H' a = some o := fun H' B a o e => B.fh _ _ (toS a o e)
        have lx2 := tR.len
        refine ⟨_, rfl, _, _, rfl, rfl, _, rfl, ifd (fun hj0 => ?_) fun _ => ?_⟩
        · refine ⟨_, rfl, _, b, 6, rfl, by decide, by decide, B6, fun r6 H7 r60 r61 B7 => ⟨rfl, _, rfl, ifd (fun _ => ?_) fun _ => ?_⟩⟩
          · refine ⟨_, rfl, .inl ⟨rfl, _, .inl (.inl (B7.fh _ _ upd_same))⟩, _, rfl, _, rfl, _, rfl, q, xs2, rfl, .inl (.inl (.inl (B7.fh _ _ upd_same))), _, b, (xs2.length : Int), rfl, by omega, by omega, B7, fun r8 H8 r80 r81 B8 => ?_⟩
            obtain ⟨i2, rfl⟩ : ∃ i2 : Nat, r8 = (i2 : Int) := ⟨r8.toNat, by omega⟩
            have hi2 : xs2[i2]? = some (xs2[i2]'(by omega)) := List.getElem?_eq_getElem _
            obtain ⟨dr, hdr, tdr⟩ := tR.at hi2
            refine ⟨q, xs2, _, _, rfl, rfl, .inl (.inl (B8.fh _ _ upd_same)), atI_nat hi2, ?_⟩
            have B9 := B8.put (.lst (xs2 ++ [xs2[i2]'(by omega)])) upd_same
            rw [upd_upd] at B9
            refine ⟨q, xs2, _, rfl, rfl, B8.fh _ _ upd_same, (by rw [lx2]; exact Nat.lt_of_le_of_lt (show R.length ≤ 100 by omega) (by decide)), G, R ++ [dr], _, _, _, rfl, sG, gr, gq, B9, tR.snoc tdr, by rw [List.length_append, lR]; rfl, fun r m => ?_⟩
            rcases List.mem_append.mp m with m | m
            · exact okR r m
            · rw [List.mem_singleton.mp m]
              exact okR _ (List.mem_of_getElem? hdr)
          · have Bx := B7
            refine ⟨_, rfl, .inl ⟨rfl, _, .inl (.inl (Bx.fh _ _ upd_same))⟩, _, rfl, c, rfl, ⟨_, .inl (.inl (toB _ Bx _ _ hc2))⟩, fun D hD => ?_⟩
            have fD : (upd (upd G rd (.dK kvs)) q (.lst xs2)) D = none := Bx.fh.free hD
            refine lc_it (walk_tup (xs := t.2.map V.str)) (fun e H' => ∃ zs : List Int, zs.length = e ∧ (∀ z ∈ zs, -1000000000 ≤ z ∧ z ≤ 1000000000) ∧ Bag (upd (upd (upd G rd (.dK kvs)) q (.lst xs2)) D (.lst (zs.map V.int))) H' b) ⟨[], rfl, (fun _ z => by cases z), Bx.new _ hD⟩ (fun e H' _ z => ?_) ?_ ?_
            · obtain ⟨zs, _, _, B5⟩ := z
              exact .inl (.inl (B5.fh _ _ (by rw [upd_ne (ne_of_none (toS _ _ hc2) fD)]; exact toS _ _ hc2)))
            · rintro e z0 H5 H6 he ⟨zs, lz2, vz, B5⟩ ⟨rfl, hx2⟩
              rw [List.length_map] at he
              refine ⟨rfl, _, rfl, _, b, rfl, B5, fun z H7 z1 z2 B7 => ⟨_, B7.fh _ _ upd_same, by rw [List.length_map]; exact Nat.lt_of_le_of_lt (show zs.length ≤ 100 by omega) (by decide), zs ++ [z], by rw [List.length_append, lz2]; rfl, fun y my => ?_, ?_⟩⟩
              · rcases List.mem_append.mp my with my | my
                · exact vz y my
                · rw [List.mem_singleton.mp my]
                  exact ⟨z1, z2⟩
              · have y := B7.put (.lst ((zs ++ [z]).map V.int)) upd_same
                rw [upd_upd, List.map_append] at y
                rw [List.map_append]
                exact y
            rintro H5 ⟨zs, lz, vz, B5⟩
            rw [List.length_map] at lz
            refine ⟨D, _, rfl, .inl ⟨.inl (.inl (B5.fh _ _ upd_same)), fun l hl => ?_⟩⟩
            have fl : (upd (upd G rd (.dK kvs)) q (.lst xs2)) l = none := by
              cases z : (upd (upd G rd (.dK kvs)) q (.lst xs2)) l with
              | none => rfl
              | some o =>
                have y : H5 l = some o := B5.fh _ _ (by rw [upd_ne (ne_of_none z fD)]; exact z)
                rw [hl] at y
                cases y
            have B6 := bag_sub (F := upd (upd (upd G rd (.dK kvs)) q (.lst xs2)) l (.tup (zs.map V.int))) (fun a o e => by
              by_cases z : a = l
              · rw [z, upd_same] at e ⊢
                exact e
              · rw [upd_ne z] at e ⊢
                rw [upd_ne (ne_of_none e fD)]
                exact e) (B5.new (.tup (zs.map V.int)) hl)
            have nql : q ≠ l := ne_of_none (upd_same : (upd (upd G rd (.dK kvs)) q (.lst xs2)) q = some (.lst xs2)) fl
            have nrl : rd ≠ l := ne_of_none (show (upd (upd G rd (.dK kvs)) q (.lst xs2)) rd = some (.dK kvs) by rw [upd_ne nrq, upd_same]) fl
            have gl : G l = none := by rw [upd_ne (Ne.symm nql), upd_ne (Ne.symm nrl)] at fl; exact fl
            have B7 := B6.put (.lst (xs2 ++ [.ref l])) (show (upd (upd (upd G rd (.dK kvs)) q (.lst xs2)) l (.tup (zs.map V.int))) q = some (.lst xs2) by rw [upd_ne nql, upd_same])
            have sl : Same G (upd G l (.tup (zs.map V.int))) := same_new _ gl
            refine ⟨q, xs2, _, rfl, rfl, B6.fh _ _ (by rw [upd_ne nql, upd_same]), (by rw [tR.len]; exact Nat.lt_of_le_of_lt (show R.length ≤ 100 by omega) (by decide)), upd G l (.tup (zs.map V.int)), R ++ [.tuple (zs.map PyData.int)], xs2 ++ [.ref l], _, _, rfl, sG.trans sl, by rw [upd_ne nrl]; exact gr, by rw [upd_ne nql]; exact gq, bag_sub (fun a o e => ?_) B7, (tR.same sl).snoc (.tup upd_same (TpAll.ints zs)), by rw [List.length_append, lR]; rfl, fun r m => ?_⟩
            · by_cases z1 : a = q
              · rw [z1, upd_same] at e ⊢
                exact e
              · rw [upd_ne z1] at e ⊢
                by_cases z2 : a = rd
                · rw [z2, upd_same] at e
                  rw [z2, upd_ne nrl, upd_ne nrq, upd_same]
                  exact e
                · rw [upd_ne z2] at e
                  by_cases z3 : a = l
                  · rw [z3, upd_same] at e ⊢
                    exact e
                  · rw [upd_ne z3] at e ⊢
                    rw [upd_ne z1, upd_ne z2]
                    exact e
            · rcases List.mem_append.mp m with m | m
              · exact okR r m
              · exact ⟨zs, List.mem_singleton.mp m, lz, vz⟩
        · have Bx := B6
          refine ⟨_, rfl, .inl ⟨rfl, _, .inl (.inl (Bx.fh _ _ upd_same))⟩, _, rfl, c, rfl, ⟨_, .inl (.inl (toB _ Bx _ _ hc2))⟩, fun D hD => ?_⟩
          have fD : (upd (upd G rd (.dK kvs)) q (.lst xs2)) D = none := Bx.fh.free hD
          refine lc_it (walk_tup (xs := t.2.map V.str)) (fun e H' => ∃ zs : List Int, zs.length = e ∧ (∀ z ∈ zs, -1000000000 ≤ z ∧ z ≤ 1000000000) ∧ Bag (upd (upd (upd G rd (.dK kvs)) q (.lst xs2)) D (.lst (zs.map V.int))) H' b) ⟨[], rfl, (fun _ z => by cases z), Bx.new _ hD⟩ (fun e H' _ z => ?_) ?_ ?_
          · obtain ⟨zs, _, _, B5⟩ := z
            exact .inl (.inl (B5.fh _ _ (by rw [upd_ne (ne_of_none (toS _ _ hc2) fD)]; exact toS _ _ hc2)))
          · rintro e z0 H5 H6 he ⟨zs, lz2, vz, B5⟩ ⟨rfl, hx2⟩
            rw [List.length_map] at he
            refine ⟨rfl, _, rfl, _, b, rfl, B5, fun z H7 z1 z2 B7 => ⟨_, B7.fh _ _ upd_same, by rw [List.length_map]; exact Nat.lt_of_le_of_lt (show zs.length ≤ 100 by omega) (by decide), zs ++ [z], by rw [List.length_append, lz2]; rfl, fun y my => ?_, ?_⟩⟩
            · rcases List.mem_append.mp my with my | my
              · exact vz y my
              · rw [List.mem_singleton.mp my]
                exact ⟨z1, z2⟩
            · have y := B7.put (.lst ((zs ++ [z]).map V.int)) upd_same
              rw [upd_upd, List.map_append] at y
              rw [List.map_append]
              exact y
          rintro H5 ⟨zs, lz, vz, B5⟩
          rw [List.length_map] at lz
          refine ⟨D, _, rfl, .inl ⟨.inl (.inl (B5.fh _ _ upd_same)), fun l hl => ?_⟩⟩
          have fl : (upd (upd G rd (.dK kvs)) q (.lst xs2)) l = none := by
            cases z : (upd (upd G rd (.dK kvs)) q (.lst xs2)) l with
            | none => rfl
            | some o =>
              have y : H5 l = some o := B5.fh _ _ (by rw [upd_ne (ne_of_none z fD)]; exact z)
              rw [hl] at y
              cases y
          have B6 := bag_sub (F := upd (upd (upd G rd (.dK kvs)) q (.lst xs2)) l (.tup (zs.map V.int))) (fun a o e => by
            by_cases z : a = l
            · rw [z, upd_same] at e ⊢
              exact e
            · rw [upd_ne z] at e ⊢
              rw [upd_ne (ne_of_none e fD)]
              exact e) (B5.new (.tup (zs.map V.int)) hl)
          have nql : q ≠ l := ne_of_none (upd_same : (upd (upd G rd (.dK kvs)) q (.lst xs2)) q = some (.lst xs2)) fl
          have nrl : rd ≠ l := ne_of_none (show (upd (upd G rd (.dK kvs)) q (.lst xs2)) rd = some (.dK kvs) by rw [upd_ne nrq, upd_same]) fl
          have gl : G l = none := by rw [upd_ne (Ne.symm nql), upd_ne (Ne.symm nrl)] at fl; exact fl
          have B7 := B6.put (.lst (xs2 ++ [.ref l])) (show (upd (upd (upd G rd (.dK kvs)) q (.lst xs2)) l (.tup (zs.map V.int))) q = some (.lst xs2) by rw [upd_ne nql, upd_same])
          have sl : Same G (upd G l (.tup (zs.map V.int))) := same_new _ gl
          refine ⟨q, xs2, _, rfl, rfl, B6.fh _ _ (by rw [upd_ne nql, upd_same]), (by rw [tR.len]; exact Nat.lt_of_le_of_lt (show R.length ≤ 100 by omega) (by decide)), upd G l (.tup (zs.map V.int)), R ++ [.tuple (zs.map PyData.int)], xs2 ++ [.ref l], _, _, rfl, sG.trans sl, by rw [upd_ne nrl]; exact gr, by rw [upd_ne nql]; exact gq, bag_sub (fun a o e => ?_) B7, (tR.same sl).snoc (.tup upd_same (TpAll.ints zs)), by rw [List.length_append, lR]; rfl, fun r m => ?_⟩
          · by_cases z1 : a = q
            · rw [z1, upd_same] at e ⊢
              exact e
            · rw [upd_ne z1] at e ⊢
              by_cases z2 : a = rd
              · rw [z2, upd_same] at e
                rw [z2, upd_ne nrl, upd_ne nrq, upd_same]
                exact e
              · rw [upd_ne z2] at e
                by_cases z3 : a = l
                · rw [z3, upd_same] at e ⊢
                  exact e
                · rw [upd_ne z3] at e ⊢
                  rw [upd_ne z1, upd_ne z2]
                  exact e
          · rcases List.mem_append.mp m with m | m
            · exact okR r m
            · exact ⟨zs, List.mem_singleton.mp m, lz, vz⟩
      · rintro σ H6 ⟨G, R, xs2, v6, v7, rfl, sG, gr, gq, B6, tR, lR, okR⟩
        have hn : (ts.map (·.1))[i]? = some t.1 := by rw [List.getElem?_map, ht]; rfl
        have nk : (Sum.inr t.1 : Key) ∉ kvs.map (·.1) := fun m => by
          rw [ek] at m
          obtain ⟨u, mu, e⟩ := List.mem_map.mp m
          have eu : u.1 = t.1 := Sum.inr.inj e
          refine nodup_take' ok.nd hn ?_
          rw [← eu, ← List.map_take]
          exact List.mem_map.mpr ⟨u, mu, rfl⟩
        have l2 : kvs.length ≤ 100 := by
          have z := congrArg List.length ek
          rw [List.length_map, List.length_map, List.length_take] at z
          omega
        have B7 := B6.put (.dK (kvs ++ [(Sum.inr t.1, .ref q)])) (show (upd (upd G rd (.dK kvs)) q (.lst xs2)) rd = some (.dK kvs) by rw [upd_ne nrq, upd_same])
        have sq : Same G (upd G q (.lst xs2)) := same_new _ gq
        refine ⟨_, rfl, _, rfl, _, rfl, rd, _, rfl, .inl ⟨kvs, Sum.inr t.1, B6.fh _ _ (by rw [upd_ne nrq, upd_same]), rfl, Nat.lt_of_le_of_lt l2 (by decide), rfl⟩, ?_⟩
        rw [put_new nk]
        refine ⟨upd G q (.lst xs2), kvs ++ [(Sum.inr t.1, .ref q)], _, _, _, _, _, rfl, (sG0.trans sG).trans sq, by rw [upd_ne nrq]; exact gr, bag_sub (fun a o e => ?_) B7, ?_, fun u mu => ?_⟩
        · by_cases z1 : a = rd
          · rw [z1, upd_same] at e ⊢
            exact e
          · rw [upd_ne z1] at e ⊢
            by_cases z2 : a = q
            · rw [z2, upd_same] at e ⊢
              exact e
            · rw [upd_ne z2] at e ⊢
              rw [upd_ne z1]
              exact e
        · rw [List.map_append, ek, map_take _ ht]
          rfl
        · rw [List.take_add_one, ht] at mu
          rcases List.mem_append.mp mu with mu | mu
          · obtain ⟨d, ⟨v, h1, h2⟩, h3⟩ := val u mu
            exact ⟨d, ⟨v, val_old h1, h2.same (sG.trans sq)⟩, h3⟩
          · have eu : u = t := by simpa using mu
            subst eu
            exact ⟨.list R, ⟨.ref q, val_new nk, .lst upd_same (tR.same sq)⟩, R, rfl, by omega, okR⟩
    · rintro σ H2 ⟨G, kvs, v3, v4, v5, v6, v7, rfl, sG, gr, B2, ek, val⟩
      rw [lx, List.take_length] at ek val
      obtain ⟨g, hg⟩ := pick_g (P := fun t d => (∃ v, valV kvs (Sum.inr t.1) = some v ∧ Tp G v d) ∧ RowsOk t.2.length d) ok.nd val
      exact ⟨_, rfl, k rd kvs G H2 g B2 sG gr ek hg⟩
end
end Fm

/-! ## K04I -/
set_option Elab.async false
set_option maxRecDepth 100000
set_option maxHeartbeats 4000000
namespace Fm
open PySem L2
/-- a small tree -/
def Od (F : Hp) (v : V) : Prop := ∃ d, Tp F v d ∧ dep d ≤ 2 ∧ siz d ≤ 10 ∧ mst d ≤ 9
theorem Od.same {F F' : Hp} {v : V} (h : Od F v) (s : Same F F') : Od F' v := by
  obtain ⟨d, h1, h2⟩ := h
  exact ⟨d, h1.same s, h2⟩
theorem od_s {F : Hp} (s : Str) (h : s.length ≤ 9) : Od F (.str s) := ⟨_, .str s, Nat.zero_le _, by show 1 ≤ 10; decide, h⟩
theorem od_i {F : Hp} (i : Int) : Od F (.int i) := ⟨_, .int i, Nat.zero_le _, by show 1 ≤ 10; decide, Nat.zero_le _⟩
theorem od_b {F : Hp} (i : Bool) : Od F (.bl i) := ⟨_, .bl i, Nat.zero_le _, by show 1 ≤ 10; decide, Nat.zero_le _⟩
/-- one object more, under one name -/
theorem bag_more {F H : Hp} {b p : Addr} {o : HO} (B : Bag F H b) (hp : H p = none) : ∃ F', Bag F' (upd H p o) b ∧ Same F F' ∧ F' p = some o ∧ F p = none :=
  ⟨upd F p o, B.new o hp, fun a u e => by rw [upd_ne (ne_of_none e (B.fh.free hp))]; exact e, upd_same, B.fh.free hp⟩
section
variable {P : Program} {w : World} {K : PySem.W.Frag} {mg : Str → Option Value} {base : Heap} {CS : Addr}
def spOdd : Sp := fun vs H Q _ => ∃ (F : Hp) (b : Addr), vs = [.ref b] ∧ Bag F H b ∧ ∀ (v : V) (F' H' : Hp), Bag F' H' b → Same F F' → Od F' v → Q v H'
abbrev s_l_odd : Stmt := topS 38
abbrev sc_l_oddN : List Str := ["_law_bag_here", "_law_number", "_law_odd_here"]
abbrev ps_l_odd : List Str := ["_law_bag_here"]
theorem sc_l_odd : FnScope sc_l_oddN ps_l_odd (defScope s_l_odd) := ⟨rfl, rfl, rfl, by decide +kernel, rfl, by decide +kernel, by decide +kernel⟩
theorem ok_l_odd {f : Addr} {fd : FuncData} (F : Fun K "_law_odd" "_law_odd" s_l_odd f fd) (T : Txt K mg CS) (D_l_pick : Df P w K mg base "_law_pick" 1 ps_l_pick spPick) : FnOk P w K mg base CX0 2 f fd ps_l_odd spOdd := by
  refine F.ok sc_l_odd (fun vs H Q E h => ?_) (fun cdv A outer s H vs Q E hr h => ?_)
  · obtain ⟨_, _, rfl, _⟩ := h
    rfl
  · obtain ⟨F0, b, rfl, B, k⟩ := h
    refine ⟨_, (pss_cons (ps_set (i := 1) sc_l_odd.nd rfl (Or.inl rfl) (pe_op op_sub (pe_d D_l_pick (hr.mono (by decide)) (pa_cons (pv 0) (pa_cons pe_int pa_nil))) pe_int))
  (pss_cons (ps_set (i := 2) sc_l_odd.nd rfl (Or.inl rfl) (pe_lst (pa_cons pe_non (pa_cons pe_bl (pa_cons pe_bl (pa_cons pe_str (pa_cons pe_str (pa_cons pe_str (pa_cons pe_str (pa_cons pe_str (pa_cons pe_str (pa_cons (pe_tup pa_nil) (pa_cons (pe_lst pa_nil) (pa_cons pe_dnewK (pa_cons (pe_disp (pps_cons pe_str (pe_lst (pa_cons pe_int pa_nil)) pps_nil) (by rfl) (by rfl) (fun z => by cases z) (by decide)) (pa_cons (pe_tup (pa_cons pe_str (pa_cons pe_str (pa_cons pe_str pa_nil)))) (pa_cons (pe_lst (pa_cons pe_int (pa_cons pe_int pa_nil))) pa_nil)))))))))))))))))
  (pss_cons (ps_expr (pe_bm PySem.F.plainAttrs_list PySem.F.slot_list_extend PySem.F.type_list_extend mt_extend (pv 2) (pa_cons (pe_lst (pa_cons (pe_op op_add (pe_op op_pow pe_int pe_int) pe_int) (pa_cons (pe_op op_sub (pe_op op_sub pe_int (pe_op op_pow pe_int pe_int)) pe_int) (pa_cons (pe_op op_add (pe_op op_pow pe_int pe_int) (pv 1)) (pa_cons (pv 1) (pa_cons (pe_tup (pa_cons (pv 1) (pa_cons (pe_tup pa_nil) pa_nil))) (pa_cons (pe_lst (pa_cons (pe_lst (pa_cons (pv 1) pa_nil)) pa_nil)) (pa_cons (pe_tup (pa_cons pe_str pa_nil)) (pa_cons pe_str pa_nil))))))))) pa_nil)))
  (pss_one (ps_ret (pe_ix ix_list (pv 2) (pe_d D_l_pick (hr.mono (by decide)) (pa_cons (pv 0) (pa_cons (pe_callB call_len_seq (by rfl) T.n_len (by decide +kernel) (pa_cons (pv 2) pa_nil)) pa_nil))) (fun _ _ => rfl))))))), ?_⟩
    refine ⟨_, rfl, F0, b, 9, rfl, by decide, by decide, B, fun r G0 r0 r1 C0 => ⟨_, _, rfl, rfl, ?_⟩⟩
    refine ⟨Nat.zero_le _, fun p1 h1 => ?_⟩
    obtain ⟨F1, C1, s1, e1, _⟩ := bag_more (o := .tup []) C0 h1
    generalize upd G0 p1 (.tup []) = G1 at *
    refine ⟨Nat.zero_le _, fun p2 h2 => ?_⟩
    obtain ⟨F2, C2, s2, e2, _⟩ := bag_more (o := .lst []) C1 h2
    generalize upd G1 p2 (.lst []) = G2 at *
    intro p3 h3
    obtain ⟨F3, C3, s3, e3, _⟩ := bag_more (o := .dK []) C2 h3
    generalize upd G2 p3 (.dK []) = G3 at *
    intro p4 h4
    obtain ⟨F4, C4, s4, e4, n4⟩ := bag_more (o := .dK []) C3 h4
    generalize upd G3 p4 (.dK []) = G4 at *
    refine ⟨(by show 1 ≤ sizeLine; decide), fun p5 h5 => ?_⟩
    obtain ⟨F5, C5, s5, e5, _⟩ := bag_more (o := .lst [.int 1]) C4 h5
    generalize upd G4 p5 (.lst [.int 1]) = G5 at *
    refine ⟨C5.fh _ _ (s5 _ _ e4), [(Sum.inr "a", .ref p5)], rfl, (by show 1 ≤ 15; decide), ?_⟩
    obtain ⟨kv, hkv⟩ : ∃ kv, kv = mergeK [] [((Sum.inr "a" : Key), V.ref p5)] := ⟨_, rfl⟩
    rw [← hkv]
    have C6 := C5.put (.dK kv) (s5 _ _ e4)
    have s6 : Same F3 (upd F5 p4 (.dK kv)) := same_put (s4.trans s5) _ n4
    have e6 : (upd F5 p4 (.dK kv)) p4 = some (.dK kv) := upd_same
    have e56 : (upd F5 p4 (.dK kv)) p5 = some (.lst [.int 1]) := by rw [upd_ne (Ne.symm (ne_of_none (C4.fh _ _ e4) h5))]; exact e5
    generalize upd F5 p4 (.dK kv) = F6 at *
    generalize upd G5 p4 (.dK kv) = G6 at *
    refine ⟨(by show 3 ≤ sizeLine; decide), fun p7 h7 => ?_⟩
    obtain ⟨F7, C7, s7, e7, _⟩ := bag_more (o := .tup [.str "of", .str "a", .str "b"]) C6 h7
    generalize upd G6 p7 (.tup [.str "of", .str "a", .str "b"]) = G7 at *
    refine ⟨(by show 2 ≤ sizeLine; decide), fun p8 h8 => ?_⟩
    obtain ⟨F8, C8, s8, e8, _⟩ := bag_more (o := .lst [.int 1, .int 2]) C7 h8
    generalize upd G7 p8 (.lst [.int 1, .int 2]) = G8 at *
    refine ⟨(by show 15 ≤ sizeLine; decide), fun L hL => ?_⟩
    have kn1 : ∀ v ∈ ([.non, .bl true, .bl false, .str "", .str "Ab", .str "a b", .str "abcdefghi", .str "a_b", .str "z1", .ref p1, .ref p2, .ref p3, .ref p4, .ref p7, .ref p8] : List V), Od F8 v := by
      have t3 := (s6.trans s7).trans s8
      intro v m
      simp only [List.mem_cons, List.not_mem_nil, or_false] at m
      rcases m with rfl | rfl | rfl | rfl | rfl | rfl | rfl | rfl | rfl | rfl | rfl | rfl | rfl | rfl | rfl
      · exact ⟨_, .non, Nat.zero_le _, by decide, Nat.zero_le _⟩
      · exact od_b _
      · exact od_b _
      · exact od_s _ (by decide)
      · exact od_s _ (by decide)
      · exact od_s _ (by decide)
      · exact od_s _ (by decide)
      · exact od_s _ (by decide)
      · exact od_s _ (by decide)
      · exact ⟨.tuple [], .tup (t3 _ _ (s3 _ _ (s2 _ _ e1))) .nil, by decide, by decide, by decide⟩
      · exact ⟨.list [], .lst (t3 _ _ (s3 _ _ e2)) .nil, by decide, by decide, by decide⟩
      · exact ⟨dictD false, .odd false (t3 _ _ e3), by decide, by decide, by decide⟩
      · exact ⟨dictD true, .odd true (show ∃ l, _ = _ ∧ _ = _ from ⟨p5, by rw [s8 _ _ (s7 _ _ e6), hkv]; rfl, s8 _ _ (s7 _ _ e56)⟩), by decide, by decide, by decide⟩
      · exact ⟨.tuple [.str "of", .str "a", .str "b"], .tup (s8 _ _ e7) (.cons (.str _) (.cons (.str _) (.cons (.str _) .nil))), by decide, by decide, by decide⟩
      · exact ⟨.list [.int 1, .int 2], .lst e8 (.cons (.int _) (.cons (.int _) .nil)), by decide, by decide, by decide⟩
    generalize hxs : ([.non, .bl true, .bl false, .str "", .str "Ab", .str "a b", .str "abcdefghi", .str "a_b", .str "z1", .ref p1, .ref p2, .ref p3, .ref p4, .ref p7, .ref p8] : List V) = xs at *
    have lxs : xs.length = 15 := by rw [← hxs]; rfl
    obtain ⟨F9, C9, s9, e9, n9⟩ := bag_more (o := .lst xs) C8 hL
    have sAll : Same F0 F8 := s1.trans (s2.trans (s3.trans (s6.trans (s7.trans s8))))
    generalize upd G8 L (.lst xs) = G9 at *
    refine ⟨_, rfl, .inl ⟨rfl, _, .inl (.inl (C9.fh _ _ e9))⟩, ?_⟩
    refine ⟨_, _, rfl, rfl, ⟨by decide, by decide, by decide⟩, _, _, rfl, rfl, _, _, rfl, rfl, ⟨by decide, by decide, by decide⟩, _, _, rfl, rfl, _, _, rfl, rfl, _, _, rfl, rfl, ⟨by decide, by decide, by decide⟩, _, rfl, _, _, rfl, rfl, _, rfl, _, rfl, ?_⟩
    refine ⟨Nat.zero_le _, fun p10 h10 => ?_⟩
    obtain ⟨F10, C10, s10, e10, _⟩ := bag_more (o := .tup []) C9 h10
    generalize upd G9 p10 (.tup []) = G10 at *
    refine ⟨(by show 2 ≤ sizeLine; decide), fun p11 h11 => ?_⟩
    obtain ⟨F11, C11, s11, e11, _⟩ := bag_more (o := .tup [.int (r - 4), .ref p10]) C10 h11
    generalize upd G10 p11 (.tup [.int (r - 4), .ref p10]) = G11 at *
    refine ⟨_, rfl, ?_⟩
    refine ⟨(by show 1 ≤ sizeLine; decide), fun p12 h12 => ?_⟩
    obtain ⟨F12, C12, s12, e12, _⟩ := bag_more (o := .lst [.int (r - 4)]) C11 h12
    generalize upd G11 p12 (.lst [.int (r - 4)]) = G12 at *
    refine ⟨(by show 1 ≤ sizeLine; decide), fun p13 h13 => ?_⟩
    obtain ⟨F13, C13, s13, e13, _⟩ := bag_more (o := .lst [.ref p12]) C12 h13
    generalize upd G12 p13 (.lst [.ref p12]) = G13 at *
    refine ⟨(by show 1 ≤ sizeLine; decide), fun p14 h14 => ?_⟩
    obtain ⟨F14, C14, s14, e14, _⟩ := bag_more (o := .tup [.str "scan"]) C13 h14
    generalize upd G13 p14 (.tup [.str "scan"]) = G14 at *
    refine ⟨(by show 8 ≤ sizeLine; decide), fun M hM => ?_⟩
    have n10 : p10 ≠ L := Ne.symm (ne_of_none (C9.fh _ _ e9) h10)
    have n11 : p11 ≠ L := Ne.symm (ne_of_none (C10.fh _ _ (s10 _ _ e9)) h11)
    have n12 : p12 ≠ L := Ne.symm (ne_of_none (C11.fh _ _ (s11 _ _ (s10 _ _ e9))) h12)
    have n13 : p13 ≠ L := Ne.symm (ne_of_none (C12.fh _ _ (s12 _ _ (s11 _ _ (s10 _ _ e9)))) h13)
    have n14 : p14 ≠ L := Ne.symm (ne_of_none (C13.fh _ _ (s13 _ _ (s12 _ _ (s11 _ _ (s10 _ _ e9))))) h14)
    have kn2 : ∀ v ∈ ([.int (10 ^ 9 + 1), .int (0 - 10 ^ 9 - 1), .int (10 ^ 40 + (r - 4)), .int (r - 4), .ref p11, .ref p13, .ref p14, .str "none"] : List V), Od (cut F14 L) v := by
      intro v m
      simp only [List.mem_cons, List.not_mem_nil, or_false] at m
      rcases m with rfl | rfl | rfl | rfl | rfl | rfl | rfl | rfl
      · exact od_i _
      · exact od_i _
      · exact od_i _
      · exact od_i _
      · exact ⟨.tuple [.int (r - 4), .tuple []], .tup (by rw [cut_ne n11]; exact s14 _ _ (s13 _ _ (s12 _ _ e11))) (.cons (.int _) (.cons (.tup (by rw [cut_ne n10]; exact s14 _ _ (s13 _ _ (s12 _ _ (s11 _ _ e10)))) .nil) .nil)), by show 1 + max 0 (max (1 + 0) 0) ≤ 2; decide, by show 1 + (1 + ((1 + 0) + 0)) ≤ 10; decide, by show max 0 (max 0 0) ≤ 9; decide⟩
      · exact ⟨.list [.list [.int (r - 4)]], .lst (by rw [cut_ne n13]; exact s14 _ _ e13) (.cons (.lst (by rw [cut_ne n12]; exact s14 _ _ (s13 _ _ e12)) (.cons (.int _) .nil)) .nil), by show 1 + max (1 + max 0 0) 0 ≤ 2; decide, by show 1 + ((1 + (1 + 0)) + 0) ≤ 10; decide, by show max (max 0 0) 0 ≤ 9; decide⟩
      · exact ⟨.tuple [.str "scan"], .tup (by rw [cut_ne n14]; exact e14) (.cons (.str _) .nil), by decide, by decide, by decide⟩
      · exact od_s _ (by decide)
    have t9 : Same F9 F14 := s10.trans (s11.trans (s12.trans (s13.trans s14)))
    obtain ⟨F15, C15, s15, e15, _⟩ := bag_more (o := .lst [.int (10 ^ 9 + 1), .int (0 - 10 ^ 9 - 1), .int (10 ^ 40 + (r - 4)), .int (r - 4), .ref p11, .ref p13, .ref p14, .str "none"]) C14 hM
    obtain ⟨ys, hys⟩ : ∃ ys : List V, ys = [.int (10 ^ 9 + 1), .int (0 - 10 ^ 9 - 1), .int (10 ^ 40 + (r - 4)), .int (r - 4), .ref p11, .ref p13, .ref p14, .str "none"] := ⟨_, rfl⟩
    have lys : ys.length = 8 := by rw [hys]; rfl
    rw [← hys] at kn2 e15 C15
    refine ⟨L, M, xs, ys, rfl, rfl, ?_, ?_, by rw [lxs, lys]; decide, ?_⟩
    · have z := C15.fh _ _ (s15 _ _ (t9 _ _ e9))
      rw [hys] at z
      exact z
    · have z := C15.fh _ _ e15
      rw [hys] at z
      rw [hys]
      exact z
    have C16 := C15.put (.lst (xs ++ ys)) (s15 _ _ (t9 _ _ e9))
    have t8 : Same F8 (upd F15 L (.lst (xs ++ ys))) := same_put (s9.trans (t9.trans s15)) _ n9
    have all : ∀ v ∈ xs ++ ys, Od (upd F15 L (.lst (xs ++ ys))) v := fun v m => by
      rcases List.mem_append.mp m with m | m
      · exact (kn1 v m).same t8
      · exact (kn2 v m).same (same_put (cut_sub.trans s15) _ cut_at)
    have eL : (upd F15 L (.lst (xs ++ ys))) L = some (.lst (xs ++ ys)) := upd_same
    have lz : (xs ++ ys).length = 23 := by rw [List.length_append, lxs, lys]
    refine ⟨_, rfl, _, rfl, _, rfl, L, xs ++ ys, rfl, .inl (.inl (.inl upd_same)), _, b, _, rfl, by rw [lz]; decide, by rw [lz]; decide, (by rw [hys] at C16; rw [hys]; exact C16), fun q H' q0 q1 CE => ?_⟩
    rw [← hys] at CE
    obtain ⟨v, hv, hm⟩ := at_mem (xs := xs ++ ys) q0 q1
    refine ⟨L, _, _, _, rfl, rfl, .inl (.inl (CE.fh _ _ eL)), hv, ?_⟩
    exact k v _ H' CE (sAll.trans t8) (all v hm)
end
end Fm

/-! ## FmDict -/
set_option Elab.async false
set_option maxRecDepth 100000
set_option maxHeartbeats 4000000
/-! == and != of two dicts whose values are plain data at any depth. -/
theorem L2.Room.units66 {k : Nat} {A : PySem.Around} (r : L2.Room k A) : A.units + 66 < PySem.cLine := by have := r.un; omega
namespace Fm
open PySem PySem.Spec PyProof.Rows L2
/-- the pairs of a dict, its values as data -/
inductive KD (K : PySem.W.Frag) (H : Hp) : List (Key × V) → List (Key × PyData) → Prop
  | nil : KD K H [] []
  | cons {k : Key} {v : V} {d : PyData} {kvs : List (Key × V)} {ms : List (Key × PyData)} : Dp K H v d → SeqAt.shaped d = true → KD K H kvs ms → KD K H ((k, v) :: kvs) ((k, d) :: ms)
def valD (ns : List (Key × PyData)) (k : Key) : Option PyData := (ns.find? fun p => decide (p.1 = k)).map (·.2)
def hitD (ns : List (Key × PyData)) (p : Key × PyData) : Bool := match valD ns p.1 with
  | some e => PyData.eqv p.2 e
  | none => false
def eqKD (ms ns : List (Key × PyData)) : Bool := ms.length == ns.length && ms.all (hitD ns)
theorem KD.len {K : PySem.W.Frag} {H : Hp} {kvs : List (Key × V)} {ms : List (Key × PyData)} (h : KD K H kvs ms) : kvs.length = ms.length := by
  induction h with
  | nil => rfl
  | cons _ _ _ ih => rw [List.length_cons, List.length_cons, ih]
theorem KD.val {K : PySem.W.Frag} {H : Hp} {kvs : List (Key × V)} {ms : List (Key × PyData)} (h : KD K H kvs ms) (k : Key) : (valV kvs k = none ∧ valD ms k = none) ∨ ∃ v d, valV kvs k = some v ∧ valD ms k = some d ∧ Dp K H v d ∧ SeqAt.shaped d = true := by
  induction h with
  | nil => exact .inl ⟨rfl, rfl⟩
  | @cons k2 v d kvs ms h1 h2 _ ih =>
    unfold valV valD at *
    by_cases q : k2 = k
    · rw [List.find?_cons_of_pos (by simp [q]), List.find?_cons_of_pos (by simp [q])]
      exact .inr ⟨v, d, rfl, rfl, h1, h2⟩
    · rw [List.find?_cons_of_neg (by simp [q]), List.find?_cons_of_neg (by simp [q])]
      exact ih
theorem kd_hits {X : Cx} {pins : List (Addr × Obj)} {σ : L2.St} {H : Hp} {s : Shared} {A : Around} (I : Inv X pins σ H s) (hu : A.in1.units + 64 < cLine) {ls : List (Key × V)} {ns : List (Key × PyData)} (hb : KD X.K H ls ns) {vb : List (Key × Value)} (rb : KV ls vb) {ks : List (Key × V)} {ms : List (Key × PyData)}
    (ha : KD X.K H ks ms) : ∀ {va : List (Key × Value)}, KV ks va → PySem.W.KeqHits A.in1 s vb va (ms.all (hitD ns)) := by
  induction ha with
  | nil =>
    intro va ra
    unfold KV at ra
    cases ra
    exact .nil
  | @cons k v d kvs ms h1 h2 _ ih =>
    intro va ra
    unfold KV at ra
    cases ra with
    | @cons _ q _ qs h t =>
    obtain ⟨e1, e2⟩ := h
    obtain ⟨key, u⟩ := q
    have e1' : k = key := e1
    subst e1'
    rw [List.all_cons]
    rcases hb.val k with ⟨z1, z2⟩ | ⟨y, e, z1, z2, z3, z4⟩
    · have rr := rb.val k
      rw [z1] at rr
      have hn : valueAt vb k = none := by
        cases q : valueAt vb k with
        | none => rfl
        | some z =>
          rw [q] at rr
          cases rr
      have hh : hitD ns (k, d) = false := by
        unfold hitD
        rw [show valD ns ((k, d) : Key × PyData).1 = none from z2]
      rw [hh, Bool.false_and]
      exact .miss hn
    · have rr : RelO (some y) (valueAt vb k) := by
        rw [← z1]
        exact rb.val k
      obtain ⟨z, hz, rz⟩ := rr.some_of
      have hh : hitD ns (k, d) = PyData.eqv d e := by
        unfold hitD
        rw [show valD ns ((k, d) : Key × PyData).1 = some e from z2]
      rw [hh]
      obtain ⟨as, r1⟩ := Dp.reads I d v u h1 e2
      obtain ⟨bs, r2⟩ := Dp.reads I e y z z3 rz
      exact .hit hz (PySem.W.keq_at r1 r2 h2 z4 hu) (ih t)
section
variable {X : Cx}
/-- a == b, two dicts of data -/
def rEqK (K : PySem.W.Frag) : R2 := fun x y H Q => ∃ a b ks ls ms ns, x = .ref a ∧ y = .ref b ∧ H a = some (.dK ks) ∧ H b = some (.dK ls) ∧ KD K H ks ms ∧ KD K H ls ns ∧ Q (.bl (eqKD ms ns)) H
def rNeK (K : PySem.W.Frag) : R2 := fun x y H Q => ∃ a b ks ls ms ns, x = .ref a ∧ y = .ref b ∧ H a = some (.dK ks) ∧ H b = some (.dK ls) ∧ KD K H ks ms ∧ KD K H ls ns ∧ Q (.bl (!eqKD ms ns)) H
theorem op_eqK (hu : X.A.units + 66 < cLine) : OpR X (compareOp .Eq) (rEqK X.K) := by
  intro pins s σ H x y v u Q I rx ry h
  obtain ⟨a, b, ks, ls, ms, ns, rfl, rfl, ea, eb, ha, hb, q⟩ := h
  obtain rfl : v = Value.ref a := rx
  obtain rfl : u = Value.ref b := ry
  obtain ⟨_, ya, va, ra, da⟩ := (show ObjOk X.prog X.w H s.heap a (.dK ks) from I.hok a _ ea)
  obtain ⟨_, yb, vb, rb, db⟩ := (show ObjOk X.prog X.w H s.heap b (.dK ls) from I.hok b _ eb)
  refine PySem.W.keq_eq (knd := mixKind X.prog X.w) (r := ms.all (hitD ns)) ya yb da db (by omega) (fun _ => kd_hits I (by show X.A.units + 1 + 64 < cLine; omega) hb rb ha ra) ⟨.bl _, H, I, ?_, q⟩
  show Value.bool _ = Value.bool _
  have e1 := ra.length
  have e2 := rb.length
  rw [ha.len] at e1
  rw [hb.len] at e2
  unfold eqKD
  rw [e1, e2]
theorem op_neK (hu : X.A.units + 66 < cLine) : OpR X (compareOp .NotEq) (rNeK X.K) := by
  intro pins s σ H x y v u Q I rx ry h
  obtain ⟨a, b, ks, ls, ms, ns, rfl, rfl, ea, eb, ha, hb, q⟩ := h
  obtain rfl : v = Value.ref a := rx
  obtain rfl : u = Value.ref b := ry
  obtain ⟨_, ya, va, ra, da⟩ := (show ObjOk X.prog X.w H s.heap a (.dK ks) from I.hok a _ ea)
  obtain ⟨_, yb, vb, rb, db⟩ := (show ObjOk X.prog X.w H s.heap b (.dK ls) from I.hok b _ eb)
  refine PySem.W.keq_ne (knd := mixKind X.prog X.w) (r := ms.all (hitD ns)) ya yb da db (by omega) (fun _ => kd_hits I (by show X.A.units + 1 + 64 < cLine; omega) hb rb ha ra) ⟨.bl _, H, I, ?_, q⟩
  show Value.bool _ = Value.bool _
  have e1 := ra.length
  have e2 := rb.length
  rw [ha.len] at e1
  rw [hb.len] at e2
  unfold eqKD
  rw [e1, e2]
end
end Fm

/-! ## FmFrame2 -/
set_option Elab.async false
set_option maxRecDepth 100000
set_option maxHeartbeats 4000000
/-! A part G of what is tracked, F; data that no list is in; data as the library's plain data. -/
namespace Fm
open PySem L2
theorem uni_r {N M : Hp} {a : Addr} (h : N a = none) : uni N M a = M a := by
  unfold uni
  rw [h]
theorem uni_l {N M : Hp} {a : Addr} {o : HO} (h : N a = some o) : uni N M a = some o := by
  unfold uni
  rw [h]
/-- a part grows by what leaves all else as it stands -/
theorem Grow.under {G F H G' H' : Hp} {b : Addr} (s : Same G F) (B : Bag F H b) (g : Grow G H G' H') : ∃ F', Grow G F G' F' ∧ Bag F' H' b := by
  obtain ⟨fh, fb, cl, ns, p, gg, z, c, h, e1, e2, e3, e4, r⟩ := B
  have no : ∀ a o, F a = none → H a = some o → G' a = none ∧ H' a = some o := fun a o h1 h2 => g.hh a o (s.free h1) h2
  have keep : ∀ a o, F a = some o → uni G' F a = some o := fun a o h => by
    cases q : G a with
    | some u =>
      have z := s a u q
      rw [h] at z
      rw [z]
      exact uni_l (g.ff _ _ q)
    | none => rw [uni_r (g.hh a o q (fh _ _ h)).1]; exact h
  refine ⟨uni G' F, ⟨g.ff, same_uni, fun a o h1 h2 => ⟨(g.hh a o h1 (fh _ _ h2)).1, keep a o h2⟩⟩, fun a o e => ?_, ?_, cl, ns, p, gg, z, c, h, ?_, e2, (no _ _ e1 e3).2, (no _ _ fb e4).2, r⟩
  · rcases uni_or e with e | ⟨q, e⟩
    · exact g.fh _ _ e
    · cases q2 : G a with
      | some u =>
        rw [g.ff _ _ q2] at q
        cases q
      | none => exact (g.hh a o q2 (fh _ _ e)).2
  · rw [uni_r (no _ _ fb e4).1]
    exact fb
  · rw [uni_r (no _ _ e1 e3).1]
    exact e1
/-- what is in the part only for a while -/
theorem Grow.out {G F G' F' : Hp} {h : Addr} {x : HO} (g : Grow (upd G h x) (upd F h x) G' F') (fh : F h = none) (gh : G h = none) : Grow G F (cut G' h) F' := by
  refine ⟨same_cut ((same_new x gh).trans g.ff) gh, cut_sub.trans g.fh, fun a o h1 h2 => ?_⟩
  have n := ne_of_none h2 fh
  obtain ⟨z1, z2⟩ := g.hh a o (by rw [upd_ne n]; exact h1) (by rw [upd_ne n]; exact h2)
  exact ⟨by rw [cut_ne n]; exact z1, z2⟩
/-- a place that the part does not speak of -/
theorem Grow.side {G F G' F' : Hp} {D : Addr} {o : HO} (g : Grow G F G' F') (h : G' D = none) (hF : F D = none) : Grow G F G' (upd F' D o) := g.junk h hF o
/-- what was new becomes a part of what is spoken of -/
theorem Grow.take {G F G' F' : Hp} {D : Addr} (g : Grow G F G' F') (hF : F D = none) (hG : G D = none) (o : HO) : Grow G F (upd G' D o) (upd F' D o) := by
  refine ⟨fun a u e => ?_, same_upd g.fh D o, fun a u e1 e2 => ?_⟩
  · rw [upd_ne (ne_of_none e hG)]
    exact g.ff _ _ e
  · have n := ne_of_none e2 hF
    rw [upd_ne n, upd_ne n]
    exact g.hh a u e1 e2
theorem Bag.late {F H H' : Hp} {b p : Addr} {o : HO} (B : Bag F H b) (hp : H p = none) (s : Same H H') (e : H' p = some o) : Bag (upd F p o) H' b := by
  refine bag_same (B.new o hp) fun a u q => ?_
  by_cases z : a = p
  · rw [z, upd_same] at q
    rw [z, e]
    exact q
  · rw [upd_ne z] at q
    exact s _ _ q
/-! ### data without lists -/
mutual
def noL : PyData → Bool
  | .list _ => false
  | .dict _ => false
  | .tuple ds => noLs ds
  | _ => true
def noLs : List PyData → Bool
  | [] => true
  | d :: ds => noL d && noLs ds
end
mutual
theorem Tp.cut {F : Hp} {h : Addr} {l : List V} (e : F h = some (.lst l)) : ∀ {d : PyData} {v : V}, Tp F v d → noL d = true → Tp (cut F h) v d
  | .none, _, h, _ => by cases h; exact .non
  | .bool b, _, h, _ => by cases h; exact .bl b
  | .int i, _, h, _ => by cases h; exact .int i
  | .str x, _, h, _ => by cases h; exact .str x
  | .list ds, _, _, n => by cases n
  | .dict _, _, _, n => by cases n
  | .tuple ds, _, t, n => by
    cases t with
    | tup hs ha =>
      refine .tup ?_ (TpAll.cut e ha n)
      rw [cut_ne fun z => by rw [z, e] at hs; cases hs]
      exact hs
theorem TpAll.cut {F : Hp} {h : Addr} {l : List V} (e : F h = some (.lst l)) : ∀ {ds : List PyData} {vs : List V}, TpAll F vs ds → noLs ds = true → TpAll (cut F h) vs ds
  | [], _, h, _ => by cases h; exact .nil
  | d :: ds, _, t, n => by
    cases t with
    | cons h1 h2 =>
      have n' : (noL d && noLs ds) = true := n
      rw [Bool.and_eq_true] at n'
      exact .cons (Tp.cut e h1 n'.1) (TpAll.cut e h2 n'.2)
end
theorem noLs_all : ∀ {ds : List PyData}, (∀ d ∈ ds, noL d = true) → noLs ds = true
  | [], _ => rfl
  | d :: ds, h => by
    show (noL d && noLs ds) = true
    rw [h d List.mem_cons_self, noLs_all fun c m => h c (List.mem_cons_of_mem _ m)]
    rfl
/-! ### plain data -/
mutual
def noD : PyData → Bool
  | .list ds => noDs ds
  | .dict _ => false
  | .tuple ds => noDs ds
  | _ => true
def noDs : List PyData → Bool
  | [] => true
  | d :: ds => noD d && noDs ds
end
mutual
theorem Tp.plain {K : PySem.W.Frag} {F : Hp} : ∀ {d : PyData} {v : V}, Tp F v d → noD d = true → Dp K F v d
  | .none, _, h, _ => by cases h; exact .non
  | .bool b, _, h, _ => by cases h; exact .bl b
  | .int i, _, h, _ => by cases h; exact .int i
  | .str x, _, h, _ => by cases h; exact .str x
  | .dict _, _, _, n => by cases n
  | .list ds, _, t, n => by
    cases t with
    | lst hs ha => exact .lst (.inl (.inl hs)) (TpAll.plain ha n)
  | .tuple ds, _, t, n => by
    cases t with
    | tup hs ha => exact .tup (.inl (.inl hs)) (TpAll.plain ha n)
theorem TpAll.plain {K : PySem.W.Frag} {F : Hp} : ∀ {ds : List PyData} {vs : List V}, TpAll F vs ds → noDs ds = true → DpAll K F vs ds
  | [], _, h, _ => by cases h; exact .nil
  | d :: ds, _, t, n => by
    cases t with
    | cons h1 h2 =>
      have n' : (noD d && noDs ds) = true := n
      rw [Bool.and_eq_true] at n'
      exact .cons (Tp.plain h1 n'.1) (TpAll.plain h2 n'.2)
end
theorem noDs_all : ∀ {ds : List PyData}, (∀ d ∈ ds, noD d = true) → noDs ds = true
  | [], _ => rfl
  | d :: ds, h => by
    show (noD d && noDs ds) = true
    rw [h d List.mem_cons_self, noDs_all fun c m => h c (List.mem_cons_of_mem _ m)]
    rfl
end Fm

/-! ## K04J -/
set_option Elab.async false
set_option maxRecDepth 100000
set_option maxHeartbeats 4000000
namespace Fm
open PySem L2
/-! ### shapes, as plain data -/
theorem strOk_nm {s : Str} (h : isNm s = true) : PyData.strOk s = true := by
  unfold isNm at h
  simp only [Bool.and_eq_true, List.all_eq_true, decide_eq_true_eq] at h
  show s.cps.all (· < 0x110000) = true
  rw [← Array.all_toList, List.all_eq_true]
  intro c m
  have q := h.2 c m
  exact decide_eq_true (by omega)
theorem canLay_strs : ∀ {xs : List Str}, (∀ f ∈ xs, isNm f = true) → PyData.canLayAll0 (xs.map PyData.str) = true
  | [], _ => rfl
  | x :: xs, h => by
    show (PyData.strOk x && PyData.canLayAll0 (xs.map PyData.str)) = true
    rw [strOk_nm (h x List.mem_cons_self), canLay_strs fun f m => h f (List.mem_cons_of_mem _ m)]
    rfl
theorem depth_strs : ∀ (xs : List Str), PyData.depthAll (xs.map PyData.str) = 0
  | [] => rfl
  | x :: xs => by
    show max 0 (PyData.depthAll (xs.map PyData.str)) = 0
    rw [depth_strs xs]
    rfl
theorem canLay_tabs : ∀ {ts : List Tab}, (∀ t ∈ ts, TOk t) → PyData.canLayAll0 (ts.map (tabD false)) = true
  | [], _ => rfl
  | t :: ts, h => by
    have ok := h t List.mem_cons_self
    show ((PyData.strOk t.1 && (PyData.canLayAll0 (t.2.map PyData.str) && true)) && PyData.canLayAll0 (ts.map (tabD false))) = true
    rw [strOk_nm ok.nm, canLay_strs ok.fs.nm, canLay_tabs fun u m => h u (List.mem_cons_of_mem _ m)]
    rfl
theorem depth_tabs : ∀ (ts : List Tab), PyData.depthAll (ts.map (tabD false)) ≤ 2
  | [] => Nat.zero_le _
  | t :: ts => by
    show max (max 0 (max (PyData.depthAll (t.2.map PyData.str) + 1) 0) + 1) (PyData.depthAll (ts.map (tabD false))) ≤ 2
    have ih := depth_tabs ts
    rw [depth_strs]
    omega
theorem shaped_tabs {ts : List Tab} (h : ∀ t ∈ ts, TOk t) : SeqAt.shaped (tsD ts) = true := by
  have d := depth_tabs ts
  show (PyData.canLayAll0 (ts.map (tabD false)) && decide (PyData.depthAll (ts.map (tabD false)) + 1 ≤ 64)) = true
  rw [canLay_tabs h, decide_eq_true (by omega)]
  rfl
theorem noDs_strs : ∀ xs : List Str, noDs (xs.map PyData.str) = true := fun xs => noDs_all fun d m => by
  obtain ⟨_, _, rfl⟩ := List.mem_map.mp m
  rfl
theorem noD_tabs (ts : List Tab) : noD (tsD ts) = true := by
  show noDs (ts.map (tabD false)) = true
  refine noDs_all fun d m => ?_
  obtain ⟨t, _, rfl⟩ := List.mem_map.mp m
  show (true && (noDs (t.2.map PyData.str) && true)) = true
  rw [noDs_strs]
  rfl
theorem noL_tabs (ts : List Tab) : noL (tsD ts) = true := by
  show noLs (ts.map (tabD false)) = true
  refine noLs_all fun d m => ?_
  obtain ⟨t, _, rfl⟩ := List.mem_map.mp m
  have z : noLs (t.2.map PyData.str) = true := noLs_all fun d m => by
    obtain ⟨_, _, rfl⟩ := List.mem_map.mp m
    rfl
  show (true && (noLs (t.2.map PyData.str) && true)) = true
  rw [z]
  rfl
/-! ### rows of numbers -/
def rowD (r : List Int) : PyData := .tuple (r.map PyData.int)
def gT (R : Str → List (List Int)) : Str → PyData := fun n => .tuple ((R n).map rowD)
def gL (R : Str → List (List Int)) : Str → PyData := fun n => .list ((R n).map rowD)
def goodR (w : Nat) (r : List Int) : Prop := r.length = w ∧ ∀ z ∈ r, -1000000000 ≤ z ∧ z ≤ 1000000000
/-- rows for all tables, at most N for each -/
def Rok (ts : List Tab) (R : Str → List (List Int)) (N : Nat) : Prop := ∀ t ∈ ts, (R t.1).length ≤ N ∧ ∀ r ∈ R t.1, goodR t.2.length r
def setR (R : Str → List (List Int)) (n : Str) (rs : List (List Int)) : Str → List (List Int) := fun m => if m = n then rs else R m
theorem eqv_row (r s : List Int) : PyData.eqv (rowD r) (rowD s) = decide (r = s) := PySem.W.ked_eqvAll r s
theorem eqv_rows : ∀ (xs ys : List (List Int)), PyData.eqvAll (xs.map rowD) (ys.map rowD) = decide (xs = ys)
  | [], [] => rfl
  | [], _ :: _ => rfl
  | _ :: _, [] => rfl
  | x :: xs, y :: ys => by
    show (PyData.eqv (rowD x) (rowD y) && PyData.eqvAll (xs.map rowD) (ys.map rowD)) = decide (x :: xs = y :: ys)
    rw [eqv_row, eqv_rows xs ys]
    by_cases h1 : x = y
    · by_cases h2 : xs = ys <;> simp [h1, h2]
    · simp [h1]
theorem can_ints : ∀ (r : List Int), PyData.canLayAll0 (r.map PyData.int) = true
  | [] => rfl
  | x :: r => by
    show (true && PyData.canLayAll0 (r.map PyData.int)) = true
    rw [can_ints r]
    rfl
theorem dp_ints : ∀ (r : List Int), PyData.depthAll (r.map PyData.int) = 0
  | [] => rfl
  | x :: r => by
    show max 0 (PyData.depthAll (r.map PyData.int)) = 0
    rw [dp_ints r]
    rfl
theorem can_rows : ∀ (xs : List (List Int)), PyData.canLayAll0 (xs.map rowD) = true
  | [] => rfl
  | x :: xs => by
    show (PyData.canLayAll0 (x.map PyData.int) && PyData.canLayAll0 (xs.map rowD)) = true
    rw [can_ints, can_rows xs]
    rfl
theorem dp_rows : ∀ (xs : List (List Int)), PyData.depthAll (xs.map rowD) ≤ 1
  | [] => Nat.zero_le _
  | x :: xs => by
    show max (PyData.depthAll (x.map PyData.int) + 1) (PyData.depthAll (xs.map rowD)) ≤ 1
    have z := dp_rows xs
    rw [dp_ints]
    omega
theorem shaped_rowsT (R : Str → List (List Int)) (n : Str) : SeqAt.shaped (gT R n) = true := by
  have d := dp_rows (R n)
  show (PyData.canLayAll0 ((R n).map rowD) && decide (PyData.depthAll ((R n).map rowD) + 1 ≤ 64)) = true
  rw [can_rows, decide_eq_true (by omega)]
  rfl
theorem shaped_rowsL (R : Str → List (List Int)) (n : Str) : SeqAt.shaped (gL R n) = true := shaped_rowsT R n
theorem noDs_rows (xs : List (List Int)) : noDs (xs.map rowD) = true := noDs_all fun d m => by
  obtain ⟨r, _, rfl⟩ := List.mem_map.mp m
  refine noDs_all fun d m => ?_
  obtain ⟨_, _, rfl⟩ := List.mem_map.mp m
  rfl
theorem noL_rows (R : Str → List (List Int)) (n : Str) : noL (gT R n) = true := noLs_all fun d m => by
  obtain ⟨r, _, rfl⟩ := List.mem_map.mp m
  refine noLs_all fun d m => ?_
  obtain ⟨_, _, rfl⟩ := List.mem_map.mp m
  rfl
/-- whether the rows are the same for all tables -/
def sameR (ts : List Tab) (R S : Str → List (List Int)) : Bool := ts.all fun t => decide (R t.1 = S t.1)
theorem sameR_comm (ts : List Tab) (R S : Str → List (List Int)) : sameR ts R S = sameR ts S R := by
  unfold sameR
  congr 1
  funext t
  exact decide_eq_decide.mpr ⟨Eq.symm, Eq.symm⟩
/-- the pairs of a dict of rows -/
def pairsD (ts : List Tab) (g : Str → PyData) : List (Key × PyData) := ts.map fun t => ((Sum.inr t.1 : Key), g t.1)
theorem kd_of {K : PySem.W.Frag} {F : Hp} {ts : List Tab} {g : Str → PyData} (nd : (ts.map (·.1)).Nodup) (sh : ∀ n, SeqAt.shaped (g n) = true) (pl : ∀ n, noD (g n) = true) : ∀ {kvs : List (Key × V)}, kvs.map (·.1) = ts.map (fun t => (Sum.inr t.1 : Key)) → (∀ t ∈ ts, ∃ v, valV kvs (Sum.inr t.1) = some v ∧ Tp F v (g t.1)) → KD K F kvs (pairsD ts g) := by
  induction ts with
  | nil =>
    intro kvs e _
    cases kvs with
    | nil => exact .nil
    | cons _ _ => cases e
  | cons t ts ih =>
    intro kvs e val
    cases kvs with
    | nil => cases e
    | cons kv kvs =>
      rw [List.map_cons, List.map_cons] at e
      injection e with e1 e2
      obtain ⟨k, v⟩ := kv
      have e1' : k = Sum.inr t.1 := e1
      subst e1'
      rw [List.map_cons, List.nodup_cons] at nd
      obtain ⟨u, h1, h2⟩ := val t List.mem_cons_self
      have z : valV ((Sum.inr t.1, v) :: kvs) (Sum.inr t.1) = some v := by
        unfold valV
        rw [List.find?_cons_of_pos (by simp)]
        rfl
      rw [z] at h1
      cases h1
      refine .cons (h2.plain (pl _)) (sh _) (ih nd.2 e2 fun u mu => ?_)
      obtain ⟨y, q1, q2⟩ := val u (List.mem_cons_of_mem _ mu)
      refine ⟨y, ?_, q2⟩
      have ne : ¬ t.1 = u.1 := fun e => nd.1 (by rw [e]; exact List.mem_map.mpr ⟨u, mu, rfl⟩)
      unfold valV at q1 ⊢
      rw [List.find?_cons_of_neg (by simp [ne])] at q1
      exact q1
theorem valD_pairs {ts : List Tab} {g : Str → PyData} (nd : (ts.map (·.1)).Nodup) {t : Tab} (m : t ∈ ts) : valD (pairsD ts g) (Sum.inr t.1) = some (g t.1) := by
  induction ts with
  | nil => cases m
  | cons u us ih =>
    rw [List.map_cons, List.nodup_cons] at nd
    unfold valD pairsD
    rw [List.map_cons]
    rcases List.mem_cons.mp m with rfl | m
    · rw [List.find?_cons_of_pos (by simp)]
      rfl
    · have ne : ¬ u.1 = t.1 := fun e => nd.1 (by rw [e]; exact List.mem_map.mpr ⟨t, m, rfl⟩)
      rw [List.find?_cons_of_neg (by simp [ne])]
      exact ih nd.2 m
theorem eqKD_same {ts : List Tab} {R S : Str → List (List Int)} {g h : Str → PyData} (nd : (ts.map (·.1)).Nodup) (e : ∀ n, PyData.eqv (g n) (h n) = decide (R n = S n)) : eqKD (pairsD ts g) (pairsD ts h) = sameR ts R S := by
  unfold eqKD
  have l : (pairsD ts g).length = (pairsD ts h).length := by
    unfold pairsD
    rw [List.length_map, List.length_map]
  rw [l, beq_self_eq_true, Bool.true_and]
  unfold sameR
  have z : ∀ us : List Tab, (∀ u ∈ us, u ∈ ts) → (pairsD us g).all (hitD (pairsD ts h)) = us.all fun t => decide (R t.1 = S t.1) := by
    intro us
    induction us with
    | nil => intro _; rfl
    | cons u us ih =>
      intro hu
      have hh : hitD (pairsD ts h) ((Sum.inr u.1 : Key), g u.1) = decide (R u.1 = S u.1) := by
        unfold hitD
        rw [show valD (pairsD ts h) (((Sum.inr u.1 : Key), g u.1) : Key × PyData).1 = some (h u.1) from valD_pairs nd (hu u List.mem_cons_self)]
        exact e u.1
      show (hitD (pairsD ts h) ((Sum.inr u.1 : Key), g u.1) && (pairsD us g).all (hitD (pairsD ts h))) = (decide (R u.1 = S u.1) && us.all fun t => decide (R t.1 = S t.1))
      rw [hh, ih fun u m => hu u (List.mem_cons_of_mem _ m)]
  exact z ts fun _ m => m
theorem noD_T (R : Str → List (List Int)) (n : Str) : noD (gT R n) = true := noDs_rows (R n)
theorem noD_L (R : Str → List (List Int)) (n : Str) : noD (gL R n) = true := noDs_rows (R n)
theorem eqv_T {R S : Str → List (List Int)} (n : Str) : PyData.eqv (gT R n) (gT S n) = decide (R n = S n) := eqv_rows _ _
theorem eqv_L {R S : Str → List (List Int)} (n : Str) : PyData.eqv (gL R n) (gL S n) = decide (R n = S n) := eqv_rows _ _
theorem eqv_strs : ∀ (xs ys : List Str), PyData.eqvAll (xs.map PyData.str) (ys.map PyData.str) = decide (xs = ys)
  | [], [] => rfl
  | [], _ :: _ => rfl
  | _ :: _, [] => rfl
  | x :: xs, y :: ys => by
    show ((x == y) && PyData.eqvAll (xs.map PyData.str) (ys.map PyData.str)) = decide (x :: xs = y :: ys)
    rw [eqv_strs xs ys]
    by_cases h1 : x = y
    · subst h1
      by_cases h2 : xs = ys
      · simp [h2]
      · simp [h2]
    · have q : (x == y) = false := by simpa using h1
      rw [q]
      simp [h1]
theorem eqv_tab (t u : Tab) : PyData.eqv (tabD false t) (tabD false u) = decide (t = u) := by
  show ((t.1 == u.1) && (PyData.eqvAll (t.2.map PyData.str) (u.2.map PyData.str) && true)) = decide (t = u)
  rw [eqv_strs]
  obtain ⟨a, b⟩ := t
  obtain ⟨c, d⟩ := u
  by_cases h1 : a = c
  · subst h1
    by_cases h2 : b = d
    · simp [h2]
    · simp [h2]
  · have q : (a == c) = false := by simpa using h1
    simp only [q]
    simp [h1]
theorem eqv_tabs : ∀ (ts us : List Tab), PyData.eqvAll (ts.map (tabD false)) (us.map (tabD false)) = decide (ts = us)
  | [], [] => rfl
  | [], _ :: _ => rfl
  | _ :: _, [] => rfl
  | t :: ts, u :: us => by
    show (PyData.eqv (tabD false t) (tabD false u) && PyData.eqvAll (ts.map (tabD false)) (us.map (tabD false))) = decide (t :: ts = u :: us)
    rw [eqv_tab, eqv_tabs ts us]
    by_cases h1 : t = u
    · by_cases h2 : ts = us <;> simp [h1, h2]
    · simp [h1]
/-- what else the top has left of the class of stores -/
structure Tx3 (K : PySem.W.Frag) (CS CT : Addr) : Prop where
  c_cls : PySem.W.findIn K (.ref CT) "__class__" = some (some (.builtin "object.__class__"))
  c_mro : PySem.W.mroIn K CT (.type "object") = some true
  c_ne : PySem.W.findIn K (.ref CT) "__ne__" = some (some (.builtin "object.__ne__"))
  c_isi : ∀ n ∈ ["NoneType", "bool", "int", "str", "list", "tuple", "dict"], PySem.W.kitOne K (.type n) (.ref CT) = some false
  c_nf : ∀ n ∈ ["NoneType", "bool", "int", "str", "list", "tuple", "dict"], PySem.W.notFirst K CT (.type n) = true
  s_isi : PySem.W.kitOne K (.ref CS) (.ref CT) = some false
  s_nf : PySem.W.notFirst K CT (.ref CS) = true
theorem kit_same {K : PySem.W.Frag} (C : Addr) : PySem.W.kitOne K (.ref C) (.ref C) = some true := by
  show (if (Value.ref C == Value.ref C) = true then some true else _) = some true
  rw [if_pos (beq_self_eq_true _)]
theorem first_same {K : PySem.W.Frag} (C : Addr) : PySem.W.notFirst K C (.ref C) = true := by
  show ((Value.ref C == Value.ref C) || _) = true
  rw [beq_self_eq_true]
  rfl
section
variable {P : Program} {w : World} {K : PySem.W.Frag} {mg : Str → Option Value} {base : Heap} {CS CT : Addr}
/-- two shapes -/
def spShEq (CS : Addr) : Sp := fun vs H Q _ => ∃ (F : Hp) (a b : Addr) (ts us : List Tab), vs = [.ref a, .ref b] ∧ Same F H ∧ ShT CS F a (tsD ts) ∧ ShT CS F b (tsD us) ∧ (∀ t ∈ ts, TOk t) ∧ (∀ t ∈ us, TOk t) ∧ Q (.bl (decide (ts = us))) H
abbrev s_Shape_eq : Stmt := inClass (topS 23) 1
abbrev sc_Shape_eqN : List Str := ["self", "other"]
abbrev ps_Shape_eq : List Str := ["self", "other"]
theorem sc_Shape_eq : FnScope sc_Shape_eqN ps_Shape_eq (defScope s_Shape_eq) := ⟨rfl, rfl, rfl, by decide +kernel, rfl, by decide +kernel, by decide +kernel⟩
theorem ok_Shape_eq {f : Addr} {fd : FuncData} (F : Fun K "__eq__" "Shape.__eq__" s_Shape_eq f fd) (T : Txt K mg CS) : FnOk P w K mg base CX0 1 f fd ps_Shape_eq (spShEq CS) := by
  refine F.ok sc_Shape_eq (fun vs H Q E h => ?_) (fun cdv A outer s H vs Q E hr h => ?_)
  · obtain ⟨_, _, _, _, _, rfl, _⟩ := h
    rfl
  · obtain ⟨F0, a, b, ts, us, rfl, sF, ⟨dx, v, ha, dv⟩, ⟨dy, u, hb, du⟩, ok, ok2, k⟩ := h
    refine ⟨_, (pss_one (ps_ret (pe_and (pe_callB call_isi (by rfl) T.n_isinstance (by decide +kernel) (pa_cons (pv 1) (pa_cons (pe_glob (v := .ref CS) rfl T.g_Shape rfl) pa_nil))) (pe_one (pe_cmpR (op_eqD hr.units) (pe_fld (pv 0) rfl) (pe_fld (pv 1) rfl) (nomark _)))))), ?_⟩
    refine ⟨_, rfl, _, _, _, _, _, rfl, .own _, .base (.ins (sF _ _ hb) T.cl T.c_cls T.c_get T.c_tak T.c_mro), kit_same CS, _, rfl, iteT ?_⟩
    refine ⟨_, rfl, a, CS, dx, _, v, rfl, sF _ _ ha, T.cl, T.nT, rfl, _, rfl, b, CS, dy, _, u, rfl, sF _ _ hb, T.cl, T.nT, rfl, _, _, (dv.same sF).plain (noD_tabs ts), (du.same sF).plain (noD_tabs us), shaped_tabs ok, shaped_tabs ok2, ?_⟩
    show Q (V.bl (PyData.eqvAll (ts.map (tabD false)) (us.map (tabD false)))) H
    rw [eqv_tabs]
    exact k
/-- a store beside another one, or beside what is none -/
def spStEq (K : PySem.W.Frag) (CS CT : Addr) : Sp := fun vs H Q _ => ∃ (F : Hp) (a : Addr) (y : V) (ts : List Tab) (R : Str → List (List Int)), vs = [.ref a, y] ∧ Same F H ∧ StAt CS CT F a ts (gT R) ∧ TsOk ts ∧
  ((∃ b us S, y = .ref b ∧ StAt CS CT F b us (gT S) ∧ (∀ t ∈ us, TOk t) ∧ Q (.bl (decide (ts = us) && sameR ts R S)) H) ∨ ∃ t, TyX K H y t ∧ PySem.W.kitOne K t (.ref CT) = some false ∧ Q (.bl false) H)
abbrev s_Store_eq : Stmt := inClass (topS 24) 1
abbrev sc_Store_eqN : List Str := ["self", "other"]
abbrev ps_Store_eq : List Str := ["self", "other"]
theorem sc_Store_eq : FnScope sc_Store_eqN ps_Store_eq (defScope s_Store_eq) := ⟨rfl, rfl, rfl, by decide +kernel, rfl, by decide +kernel, by decide +kernel⟩
theorem ok_Store_eq {f : Addr} {fd : FuncData} (F : Fun K "__eq__" "Store.__eq__" s_Store_eq f fd) (T : Txt K mg CS) (T2 : Tx2 K mg CT) (T3 : Tx3 K CS CT) (E_Shape : Deq P w K mg base CS 1 ps_Shape_eq (spShEq CS)) : FnOk P w K mg base CX0 2 f fd ps_Store_eq (spStEq K CS CT) := by
  refine F.ok sc_Store_eq (fun vs H Q E h => ?_) (fun cdv A outer s H vs Q E hr h => ?_)
  · obtain ⟨_, _, _, _, _, rfl, _⟩ := h
    rfl
  · obtain ⟨F0, a, y, ts, R, rfl, sF, ⟨dx, sh, rd, ha, shA, kvs, hrd, ek, val⟩, ok, h⟩ := h
    refine ⟨_, (pss_one (ps_ret (pe_and (pe_callB call_isi (by rfl) T.n_isinstance (by decide +kernel) (pa_cons (pv 1) (pa_cons (pe_glob (v := .ref CT) rfl T2.g_Store rfl) pa_nil))) (pe_and (pe_cmpR (op_eqO E_Shape (hr.mono (by decide))) (pe_fld (pv 0) rfl) (pe_fld (pv 1) rfl) (nomark _)) (pe_one (pe_cmpR (op_eqK hr.units66) (pe_fld (pv 0) rfl) (pe_fld (pv 1) rfl) (nomark _))))))), ?_⟩
    rcases h with ⟨b, us, S, rfl, ⟨dy, sh2, rd2, hb, shB, kvs2, hrd2, ek2, val2⟩, ok2, k⟩ | ⟨t, ty, kt, k⟩
    · refine ⟨_, rfl, _, _, _, _, _, rfl, .own _, .base (.ins (sF _ _ hb) T2.clT T3.c_cls T.c_get T.c_tak T3.c_mro), kit_same CT, _, rfl, iteT ?_⟩
      obtain ⟨dz, v, hsh, dv⟩ := id shA
      obtain ⟨dz2, v2, hsh2, dv2⟩ := id shB
      refine ⟨_, rfl, a, CT, dx, _, _, rfl, sF _ _ ha, T2.clT, T2.nSh, rfl, _, rfl, b, CT, dy, _, _, rfl, sF _ _ hb, T2.clT, T2.nSh, rfl, ?_⟩
      refine ⟨sh, dz, _, _, rfl, sF _ _ hsh, .base (.ins (sF _ _ hsh2) T.cl T.c_cls T.c_get T.c_tak T.c_mro), first_same CS, ?_⟩
      refine ⟨F0, sh, sh2, ts, us, rfl, sF, shA, shB, ok.ok, ok2, decide (ts = us), rfl, _, rfl, ?_⟩
      by_cases e : ts = us
      · rw [decide_eq_true e] at k ⊢
        subst e
        refine iteT ?_
        refine ⟨_, rfl, a, CT, dx, _, _, rfl, sF _ _ ha, T2.clT, T2.nRw, rfl, _, rfl, b, CT, dy, _, _, rfl, sF _ _ hb, T2.clT, T2.nRw, rfl, ?_⟩
        refine ⟨rd, rd2, kvs, kvs2, pairsD ts (gT R), pairsD ts (gT S), rfl, rfl, sF _ _ hrd, sF _ _ hrd2, kd_of ok.nd (shaped_rowsT R) (noD_T R) ek fun t m => ?_, kd_of ok.nd (shaped_rowsT S) (noD_T S) ek2 fun t m => ?_, ?_⟩
        · obtain ⟨v, h1, h2⟩ := val t m
          exact ⟨v, h1, h2.same sF⟩
        · obtain ⟨v, h1, h2⟩ := val2 t m
          exact ⟨v, h1, h2.same sF⟩
        · rw [eqKD_same (R := R) (S := S) ok.nd eqv_T]
          exact k
      · rw [decide_eq_false e] at k ⊢
        exact iteF k
    · exact ⟨_, rfl, _, _, _, _, _, rfl, .own _, ty, kt, _, rfl, iteF k⟩
end
end Fm

/-! ## K04G -/
set_option Elab.async false
set_option maxRecDepth 100000
set_option maxHeartbeats 4000000
namespace Fm
open PySem L2
/-! ### rows that are put and taken -/
theorem okRow_good {w : Nat} {r : List Int} (h : goodR w r) : okRow w (rowD r) = true ∧ okRow w (.list (r.map PyData.int)) = true := by
  have e : (r.map PyData.int).length = w := by rw [List.length_map, h.1]
  have a : (r.map PyData.int).all isValD = true := by
    rw [List.all_eq_true]
    intro c m
    obtain ⟨z, mz, rfl⟩ := List.mem_map.mp m
    obtain ⟨v1, v2⟩ := h.2 z mz
    show (decide (-1000000000 ≤ z) && decide (z ≤ 1000000000)) = true
    rw [decide_eq_true v1, decide_eq_true v2]
    rfl
  have go : ∀ d : PyData, partsD d = r.map PyData.int → isRowD d = true → okRow w d = true := fun d q1 q2 => by
    unfold okRow rowD3
    rw [q1, q2, e, decide_eq_true (Int.le_refl _), a]
    rfl
  exact ⟨go _ rfl rfl, go _ rfl rfl⟩
theorem ints_sz : ∀ zs : List Int, depL (zs.map PyData.int) = 0 ∧ sizL (zs.map PyData.int) = zs.length
  | [] => ⟨rfl, rfl⟩
  | z :: zs => by
    obtain ⟨h1, h2⟩ := ints_sz zs
    exact ⟨show max 0 (depL (zs.map PyData.int)) = 0 by omega, show 1 + sizL (zs.map PyData.int) = zs.length + 1 by omega⟩
theorem rows_sz {w : Nat} : ∀ {R : List (List Int)}, (∀ r ∈ R, goodR w r) → depL (R.map rowD) ≤ 1 ∧ sizL (R.map rowD) = (1 + w) * R.length
  | [], _ => ⟨Nat.zero_le _, rfl⟩
  | r :: R, h => by
    obtain ⟨h1, h2⟩ := rows_sz fun s m => h s (List.mem_cons_of_mem _ m)
    have l := (h r List.mem_cons_self).1
    obtain ⟨i1, i2⟩ := ints_sz r
    refine ⟨?_, ?_⟩
    · show max (1 + depL (r.map PyData.int)) (depL (R.map rowD)) ≤ 1
      omega
    · show (1 + sizL (r.map PyData.int)) + sizL (R.map rowD) = (1 + w) * (R.length + 1)
      rw [Nat.mul_add, Nat.mul_one]
      omega
theorem rok_bd {ts : List Tab} {R : Str → List (List Int)} {N : Nat} (ok : TsOk ts) (h : Rok ts R N) (hN : N ≤ 60) {t : Tab} (m : t ∈ ts) : 1 + sizL ((R t.1).map rowD) ≤ 400 ∧ depL ((R t.1).map rowD) ≤ 1 := by
  obtain ⟨l, g⟩ := h t m
  obtain ⟨h1, h2⟩ := rows_sz g
  have lf := (ok.ok t m).fs.hi
  have z : (1 + t.2.length) * (R t.1).length ≤ 5 * 60 := Nat.mul_le_mul (by omega) (by omega)
  omega
theorem tab_eq {ts : List Tab} (nd : (ts.map (·.1)).Nodup) {t u : Tab} (m : t ∈ ts) (mu : u ∈ ts) (q : u.1 = t.1) : u = t := by
  obtain ⟨i, hi, ei⟩ := List.getElem_of_mem mu
  obtain ⟨j, hj, ej⟩ := List.getElem_of_mem m
  have z := (List.getElem_inj (h₀ := by rw [List.length_map]; exact hi) (h₁ := by rw [List.length_map]; exact hj) nd).mp (by rw [List.getElem_map, List.getElem_map, ei, ej]; exact q)
  subst z
  rw [← ei, ej]
theorem firstD_rows {w : Nat} {R : List (List Int)} (h : ∀ r ∈ R, goodR w r) : firstWrong w (R.map rowD) = none := first_none fun j r e => by
  rw [List.getElem?_map] at e
  obtain ⟨z, hz, rfl⟩ := Option.map_eq_some_iff.mp e
  exact (okRow_good (h z (List.mem_of_getElem? hz))).1
theorem total_le {h : Str → PyData} {N : Nat} : ∀ {ts : List Tab}, (∀ t ∈ ts, (partsD (h t.1)).length ≤ N) → total h ts ≤ N * ts.length
  | [], _ => Nat.zero_le _
  | t :: ts, k => by
    have z := total_le fun u m => k u (List.mem_cons_of_mem _ m)
    have y := k t List.mem_cons_self
    unfold total at *
    rw [List.map_cons, List.sum_cons, List.length_cons, Nat.mul_add, Nat.mul_one]
    omega
theorem rowD_tupd (r : List Int) : tupd (rowD r) = rowD r := by
  show PyData.tuple (tupdL (r.map PyData.int)) = _
  rw [tupdL_map]
  have z : ∀ r : List Int, (r.map PyData.int).map tupd = r.map PyData.int := fun r => by
    rw [List.map_map]
    rfl
  rw [z]
  rfl
theorem rows_tupd (R : List (List Int)) : (R.map rowD).map tupd = R.map rowD := by
  rw [List.map_map]
  exact List.map_congr_left fun r _ => rowD_tupd r
theorem list_tupd (R : List (List Int)) : tupd (.list (R.map rowD)) = .tuple (R.map rowD) := by
  rw [tupd_parts rfl]
  exact congrArg PyData.tuple (rows_tupd R)
theorem tuple_tupd (R : List (List Int)) : tupd (.tuple (R.map rowD)) = .tuple (R.map rowD) := by
  rw [tupd_parts rfl]
  exact congrArg PyData.tuple (rows_tupd R)
theorem rok_set {ts : List Tab} {R : Str → List (List Int)} {N M : Nat} {t : Tab} {rs : List (List Int)} (ok : TsOk ts) (m : t ∈ ts) (h : Rok ts R N) (hM : N ≤ M) (l : rs.length ≤ M) (g : ∀ r ∈ rs, goodR t.2.length r) : Rok ts (setR R t.1 rs) M := fun u mu => by
  unfold setR
  by_cases q : u.1 = t.1
  · rw [if_pos q]
    rw [tab_eq ok.nd m mu q]
    exact ⟨l, g⟩
  · rw [if_neg q]
    exact ⟨Nat.le_trans (h u mu).1 hM, (h u mu).2⟩
theorem Rok.up {ts : List Tab} {R : Str → List (List Int)} {N M : Nat} (h : Rok ts R N) (hM : N ≤ M) : Rok ts R M := fun u mu => ⟨Nat.le_trans (h u mu).1 hM, (h u mu).2⟩
end Fm

/-! ## K04K -/
set_option Elab.async false
set_option maxRecDepth 100000
set_option maxHeartbeats 8000000
namespace Fm
open PySem L2
/-! ### rows that are handed in, as lists or tuples -/
/-- a row: a list that G does not speak of, or a tuple -/
def LRow (G F : Hp) (v : V) (r : List Int) : Prop := ∃ a, v = .ref a ∧ ((G a = none ∧ F a = some (.lst (r.map V.int))) ∨ F a = some (.tup (r.map V.int)))
inductive LAll (G F : Hp) : List V → List (List Int) → Prop
  | nil : LAll G F [] []
  | cons {v : V} {vs : List V} {r : List Int} {R : List (List Int)} : LRow G F v r → LAll G F vs R → LAll G F (v :: vs) (r :: R)
def Loose (G F : Hp) (v : V) (R : List (List Int)) : Prop := ∃ c us, v = .ref c ∧ ((G c = none ∧ F c = some (.lst us)) ∨ F c = some (.tup us)) ∧ LAll G F us R
section
variable {G F F' : Hp}
theorem LRow.same {v : V} {r : List Int} (h : LRow G F v r) (s : Same F F') : LRow G F' v r := by
  obtain ⟨a, e, h⟩ := h
  exact ⟨a, e, h.imp (fun z => ⟨z.1, s _ _ z.2⟩) (s _ _)⟩
theorem LAll.same {vs : List V} {R : List (List Int)} (h : LAll G F vs R) (s : Same F F') : LAll G F' vs R := by
  induction h with
  | nil => exact .nil
  | cons h1 _ ih => exact .cons (h1.same s) ih
theorem Loose.same {v : V} {R : List (List Int)} (h : Loose G F v R) (s : Same F F') : Loose G F' v R := by
  obtain ⟨c, us, e, h1, h2⟩ := h
  exact ⟨c, us, e, h1.imp (fun z => ⟨z.1, s _ _ z.2⟩) (s _ _), h2.same s⟩
theorem LAll.snoc {vs : List V} {R : List (List Int)} {v : V} {r : List Int} (h : LAll G F vs R) (q : LRow G F v r) : LAll G F (vs ++ [v]) (R ++ [r]) := by
  induction h with
  | nil => exact .cons q .nil
  | cons h1 _ ih => exact .cons h1 ih
theorem LAll.len {vs : List V} {R : List (List Int)} (h : LAll G F vs R) : vs.length = R.length := by
  induction h with
  | nil => rfl
  | cons _ _ ih => rw [List.length_cons, List.length_cons, ih]
end
/-- the data of such rows -/
inductive LD : List PyData → List (List Int) → Prop
  | nil : LD [] []
  | cons {e : PyData} {ds : List PyData} {r : List Int} {R : List (List Int)} : (e = .list (r.map PyData.int) ∨ e = .tuple (r.map PyData.int)) → LD ds R → LD (e :: ds) (r :: R)
def looseD (R : List (List Int)) (d : PyData) : Prop := ∃ ds, (d = .list ds ∨ d = .tuple ds) ∧ LD ds R
theorem LAll.data {G F : Hp} {vs : List V} {R : List (List Int)} (h : LAll G F vs R) : ∃ ds, TpAll F vs ds ∧ LD ds R := by
  induction h with
  | nil => exact ⟨[], .nil, .nil⟩
  | @cons v vs r R h1 _ ih =>
    obtain ⟨ds, t, l⟩ := ih
    obtain ⟨a, rfl, ⟨_, ha⟩ | ha⟩ := h1
    · exact ⟨_, .cons (.lst ha (TpAll.ints r)) t, .cons (.inl rfl) l⟩
    · exact ⟨_, .cons (.tup ha (TpAll.ints r)) t, .cons (.inr rfl) l⟩
theorem Loose.data {G F : Hp} {v : V} {R : List (List Int)} (h : Loose G F v R) : ∃ d, Tp F v d ∧ looseD R d := by
  obtain ⟨c, us, rfl, hc, hu⟩ := h
  obtain ⟨ds, t, l⟩ := hu.data
  rcases hc with ⟨_, hc⟩ | hc
  · exact ⟨_, .lst hc t, ds, .inl rfl, l⟩
  · exact ⟨_, .tup hc t, ds, .inr rfl, l⟩
theorem LD.tup {ds : List PyData} {R : List (List Int)} (h : LD ds R) : ds.map tupd = R.map rowD := by
  induction h with
  | nil => rfl
  | @cons e ds r R h1 _ ih =>
    rw [List.map_cons, List.map_cons, ih]
    have z : tupd e = rowD r := by
      have y : (r.map PyData.int).map tupd = r.map PyData.int := by
        rw [List.map_map]
        rfl
      rcases h1 with rfl | rfl
      · rw [tupd_parts rfl]
        exact congrArg PyData.tuple y
      · rw [tupd_parts rfl]
        exact congrArg PyData.tuple y
    rw [z]
theorem LD.len {ds : List PyData} {R : List (List Int)} (h : LD ds R) : ds.length = R.length := by
  induction h with
  | nil => rfl
  | cons _ _ ih => rw [List.length_cons, List.length_cons, ih]
theorem LD.ok {w : Nat} {ds : List PyData} {R : List (List Int)} (h : LD ds R) (g : ∀ r ∈ R, goodR w r) : ∀ d ∈ ds, okRow w d = true := by
  induction h with
  | nil => intro d m; cases m
  | @cons e ds r R h1 _ ih =>
    intro d m
    rcases List.mem_cons.mp m with rfl | m
    · have z := okRow_good (g r List.mem_cons_self)
      rcases h1 with rfl | rfl
      · exact z.2
      · exact z.1
    · exact ih (fun s ms => g s (List.mem_cons_of_mem _ ms)) d m
theorem LD.bd {w : Nat} {ds : List PyData} {R : List (List Int)} (h : LD ds R) (g : ∀ r ∈ R, goodR w r) : depL ds ≤ 1 ∧ sizL ds = (1 + w) * R.length := by
  induction h with
  | nil => exact ⟨Nat.zero_le _, rfl⟩
  | @cons e ds r R h1 _ ih =>
    obtain ⟨i1, i2⟩ := ih fun s ms => g s (List.mem_cons_of_mem _ ms)
    have l := (g r List.mem_cons_self).1
    obtain ⟨z1, z2⟩ := ints_sz r
    have e1 : dep e = 1 + depL (r.map PyData.int) := by rcases h1 with rfl | rfl <;> rfl
    have e2 : siz e = 1 + sizL (r.map PyData.int) := by rcases h1 with rfl | rfl <;> rfl
    refine ⟨?_, ?_⟩
    · show max (dep e) (depL ds) ≤ 1
      omega
    · show siz e + sizL ds = (1 + w) * (R.length + 1)
      rw [Nat.mul_add, Nat.mul_one]
      omega
theorem looseD.tup {R : List (List Int)} {d : PyData} (h : looseD R d) : tupd d = .tuple (R.map rowD) := by
  obtain ⟨ds, rfl | rfl, l⟩ := h
  · rw [tupd_parts rfl]
    exact congrArg PyData.tuple l.tup
  · rw [tupd_parts rfl]
    exact congrArg PyData.tuple l.tup
theorem looseD.first {w : Nat} {R : List (List Int)} {d : PyData} (h : looseD R d) (g : ∀ r ∈ R, goodR w r) : firstD w d = none := by
  obtain ⟨ds, e, l⟩ := h
  have z : firstWrong w ds = none := first_none fun j r e => l.ok g r (List.mem_of_getElem? e)
  have y : (firstWrong w ds).map Int.ofNat = none := by rw [z]; rfl
  rcases e with rfl | rfl
  · exact y
  · exact y
theorem looseD.bd {w : Nat} {R : List (List Int)} {d : PyData} (h : looseD R d) (g : ∀ r ∈ R, goodR w r) (hw : w ≤ 4) (hR : R.length ≤ 60) : siz d ≤ 400 ∧ dep d ≤ 2 ∧ (partsD d).length = R.length := by
  obtain ⟨ds, e, l⟩ := h
  obtain ⟨h1, h2⟩ := l.bd g
  have z : (1 + w) * R.length ≤ 5 * 60 := Nat.mul_le_mul (by omega) hR
  have q : (1 + sizL ds ≤ 400) ∧ (1 + depL ds ≤ 2) ∧ ds.length = R.length := ⟨by omega, by omega, l.len⟩
  rcases e with rfl | rfl
  · exact q
  · exact q
section
variable {P : Program} {w : World} {K : PySem.W.Frag} {mg : Str → Option Value} {base : Heap} {CS CT CR CN CM CI : Addr}
def spLooseRows : Sp := fun vs H Q _ => ∃ (G F : Hp) (b rl : Addr) (ys : List V) (R : List (List Int)), vs = [.ref b, .ref rl] ∧ Same G F ∧ Bag F H b ∧ G rl = some (.lst ys) ∧ TpAll G ys (R.map rowD) ∧ R.length ≤ 60 ∧ ∀ v F' H', Bag F' H' b → Same F F' → Loose G F' v R → Q v H'
abbrev s_l_loose_rows : Stmt := topS 39
abbrev sc_l_loose_rowsN : List Str := ["_law_bag_here", "_law_rows_here", "_law_found", "_law_row"]
abbrev ps_l_loose_rows : List Str := ["_law_bag_here", "_law_rows_here"]
theorem sc_l_loose_rows : FnScope sc_l_loose_rowsN ps_l_loose_rows (defScope s_l_loose_rows) := ⟨rfl, rfl, rfl, by decide +kernel, rfl, by decide +kernel, by decide +kernel⟩
theorem ok_l_loose_rows {f : Addr} {fd : FuncData} (F : Fun K "_law_loose_rows" "_law_loose_rows" s_l_loose_rows f fd) (T : Txt K mg CS) (D_l_pick : Df P w K mg base "_law_pick" 1 ps_l_pick spPick) : FnOk P w K mg base CX0 2 f fd ps_l_loose_rows spLooseRows := by
  refine F.ok sc_l_loose_rows (fun vs H Q E h => ?_) (fun cdv A outer s H vs Q E hr h => ?_)
  · obtain ⟨_, _, _, _, _, _, rfl, _⟩ := h
    rfl
  · obtain ⟨G, F, b, rl, ys, R, rfl, sGF, B, hrl, ta, hN, k⟩ := h
    refine ⟨_, (pss_cons (ps_set (i := 2) sc_l_loose_rows.nd rfl (Or.inl rfl) (pe_lst pa_nil))
  (pss_cons (ps_for PassesOwn.never rfl (pi_list (pv 1)) (pg_name (i := 3) sc_l_loose_rows.nd rfl (Or.inl rfl))
    (pss_one (ps_if (pt_cmpR op_eq (pe_d D_l_pick (hr.mono (by decide)) (pa_cons (pv 0) (pa_cons pe_int pa_nil))) pe_int (nomark _))
      (pss_one (ps_expr (pe_bm PySem.F.plainAttrs_list PySem.F.slot_list_append PySem.F.type_list_append mt_append (pv 2) (pa_cons (pe_callTy call_list_of (by rfl) T.n_list (by decide +kernel) (pa_cons (pv 3) pa_nil)) pa_nil))))
      (pss_one (ps_expr (pe_bm PySem.F.plainAttrs_list PySem.F.slot_list_append PySem.F.type_list_append mt_append (pv 2) (pa_cons (pe_callTy call_tuple_of (by rfl) T.n_tuple (by decide +kernel) (pa_cons (pv 3) pa_nil)) pa_nil)))))))
  (pss_cons (ps_if (pt_cmpR op_eq (pe_d D_l_pick (hr.mono (by decide)) (pa_cons (pv 0) (pa_cons pe_int pa_nil))) pe_int (nomark _))
    (pss_one (ps_ret (pe_callTy call_tuple_of (by rfl) T.n_tuple (by decide +kernel) (pa_cons (pv 2) pa_nil))))
    pss_nil)
  (pss_one (ps_ret (pv 2)))))), ?_⟩
    have ly : ys.length = R.length := by rw [ta.len, List.length_map]
    refine ⟨Nat.zero_le _, fun D hD => ?_⟩
    have fD := B.fh.free hD
    have gD := sGF.free fD
    have B1 := B.new (.lst []) hD
    have sq : ∀ {Fk H' : Hp} {us : List V}, Same F Fk → Fk D = none → Bag (upd Fk D (.lst us)) H' b → SqL K H' rl ys := fun s n B => .inl (.inl (B.fh _ _ (by rw [upd_ne (ne_of_none (s _ _ (sGF _ _ hrl)) n)]; exact s _ _ (sGF _ _ hrl))))
    refine ⟨_, rfl, rl, rfl, ⟨_, sq (Same.refl _) fD B1⟩, for_it walk_list (fun i σ H' => ∃ Fk us v3, σ = [some (.ref b), some (.ref rl), some (.ref D), v3] ∧ Same F Fk ∧ Fk D = none ∧ Bag (upd Fk D (.lst us)) H' b ∧ LAll G Fk us (R.take i)) ⟨F, [], _, rfl, Same.refl _, fD, B1, .nil⟩ (fun i σ H' _ z => by obtain ⟨_, _, _, _, s, n, B2, _⟩ := z; exact sq s n B2) ?_ ?_⟩
    · rintro i x σ H3 H2 hi ⟨Fk, us, v3, rfl, sF, nD, B2, la⟩ ⟨rfl, hx⟩
      obtain ⟨c, hc, hxc⟩ := ta.at hx
      rw [List.getElem?_map] at hc
      obtain ⟨r, hr', rfl⟩ := Option.map_eq_some_iff.mp hc
      obtain ⟨a, zs, rfl, ha, tz⟩ := (show Tp G x (.tuple (r.map PyData.int)) from hxc).tuple
      have ez : zs = r.map V.int := by
        have inv : ∀ {r : List Int} {zs : List V}, TpAll G zs (r.map PyData.int) → zs = r.map V.int := by
          intro r
          induction r with
          | nil => intro zs h; cases h; rfl
          | cons z r ih =>
            intro zs h
            cases h with
            | cons h1 h2 => rw [h1.intI, ih h2]; rfl
        exact inv tz
      subst ez
      have lus := la.len
      rw [List.length_take] at lus
      have aF : (upd Fk D (.lst us)) a = some (.tup (r.map V.int)) := by rw [upd_ne (ne_of_none (sF _ _ (sGF _ _ ha)) nD)]; exact sF _ _ (sGF _ _ ha)
      refine ⟨_, rfl, _, b, 2, rfl, by decide, by decide, B2, fun r0 H4 r00 r01 B3 => ⟨rfl, _, rfl, ifd (fun _ => ?_) fun _ => ?_⟩⟩
      · refine ⟨_, rfl, .inl ⟨rfl, _, .inl (.inl (B3.fh _ _ upd_same))⟩, _, rfl, a, _, rfl, .inr (.inl (.inl (B3.fh _ _ aF))), fun l hl => ?_⟩
        have fl : (upd Fk D (.lst us)) l = none := B3.fh.free hl
        have nDl : D ≠ l := ne_of_none upd_same fl
        have fkl : Fk l = none := by rw [upd_ne (Ne.symm nDl)] at fl; exact fl
        have B4 := B3.new (.lst (r.map V.int)) hl
        rw [upd_comm nDl] at B4
        refine ⟨D, us, .ref l, rfl, rfl, B4.fh _ _ upd_same, Nat.lt_of_le_of_lt (show us.length ≤ 100 by omega) (by decide), ?_⟩
        have B5 := B4.put (.lst (us ++ [.ref l])) upd_same
        rw [upd_upd] at B5
        have sl : Same Fk (upd Fk l (.lst (r.map V.int))) := same_new _ fkl
        refine ⟨_, us ++ [.ref l], _, rfl, sF.trans sl, by rw [upd_ne nDl]; exact nD, B5, ?_⟩
        rw [List.take_add_one, hr']
        exact (la.same sl).snoc ⟨l, rfl, .inl ⟨(sGF.trans sF).free fkl, upd_same⟩⟩
      · refine ⟨_, rfl, .inl ⟨rfl, _, .inl (.inl (B3.fh _ _ upd_same))⟩, _, rfl, a, _, rfl, .inr ⟨.inl (.inl (B3.fh _ _ aF)), ?_⟩⟩
        refine ⟨D, us, .ref a, rfl, rfl, B3.fh _ _ upd_same, Nat.lt_of_le_of_lt (show us.length ≤ 100 by omega) (by decide), ?_⟩
        have B5 := B3.put (.lst (us ++ [.ref a])) upd_same
        rw [upd_upd] at B5
        refine ⟨Fk, us ++ [.ref a], _, rfl, sF, nD, B5, ?_⟩
        rw [List.take_add_one, hr']
        exact la.snoc ⟨a, rfl, .inr (sF _ _ (sGF _ _ ha))⟩
    · rintro σ H2 ⟨Fk, us, v3, rfl, sF, nD, B2, la⟩
      rw [ly, List.take_length] at la
      have sD : Same Fk (upd Fk D (.lst us)) := same_new _ nD
      refine ⟨_, rfl, _, b, 3, rfl, by decide, by decide, B2, fun r0 H4 r00 r01 B3 => ⟨rfl, _, rfl, ifd (fun _ => ?_) fun _ => ?_⟩⟩
      · refine ⟨_, rfl, D, us, rfl, .inl ⟨.inl (.inl (B3.fh _ _ upd_same)), fun l hl => ?_⟩⟩
        have B4 := B3.new (.tup us) hl
        have sl : Same (upd Fk D (.lst us)) (upd (upd Fk D (.lst us)) l (.tup us)) := same_new _ (B3.fh.free hl)
        exact k _ _ _ B4 (sF.trans (sD.trans sl)) ⟨l, us, rfl, .inr upd_same, la.same (sD.trans sl)⟩
      · exact ⟨_, rfl, k _ _ _ B3 (sF.trans sD) ⟨D, us, rfl, .inl ⟨gD, upd_same⟩, la.same sD⟩⟩
theorem upd_cut {F : Hp} {r : Addr} {o : HO} : upd (cut F r) r o = upd F r o := funext fun a => by
  by_cases q : a = r
  · rw [q, upd_same, upd_same]
  · rw [upd_ne q, upd_ne q, cut_ne q]
theorem Loose.cutD {G F : Hp} {v : V} {R : List (List Int)} {h : Addr} {kvs : List (Key × V)} (l : Loose G F v R) (e : F h = some (.dK kvs)) : Loose G (cut F h) v R := by
  have ne : ∀ {x : Addr} {o : HO}, F x = some o → (∀ l, o ≠ .dK l) → cut F h x = some o := fun {x o} q n => by
    rw [cut_ne fun z => ?_]
    · exact q
    · rw [z, e] at q
      exact n kvs (Option.some.inj q).symm
  obtain ⟨c, us, rfl, hc, hu⟩ := l
  refine ⟨c, us, rfl, hc.imp (fun z => ⟨z.1, ne z.2 (fun _ y => nomatch y)⟩) (fun z => ne z (fun _ y => nomatch y)), ?_⟩
  clear hc
  induction hu with
  | nil => exact .nil
  | cons h1 _ ih =>
    obtain ⟨a, rfl, ha⟩ := h1
    exact .cons ⟨a, rfl, ha.imp (fun z => ⟨z.1, ne z.2 (fun _ y => nomatch y)⟩) (fun z => ne z (fun _ y => nomatch y))⟩ ih
/-- the dict of the rows that are handed in -/
structure LKv (G F : Hp) (ts : List Tab) (R : Str → List (List Int)) (kvs : List (Key × V)) : Prop where
  nd : (kvs.map (·.1)).Nodup
  len : kvs.length ≤ 5
  ex : ∀ kv ∈ kvs, ∃ t ∈ ts, kv.1 = Sum.inr t.1 ∧ Loose G F kv.2 (R t.1)
theorem LKv.same {G F F' : Hp} {ts : List Tab} {R : Str → List (List Int)} {kvs : List (Key × V)} (h : LKv G F ts R kvs) (s : Same F F') : LKv G F' ts R kvs := ⟨h.nd, h.len, fun kv m => by
  obtain ⟨t, mt, e, l⟩ := h.ex kv m
  exact ⟨t, mt, e, l.same s⟩⟩
def spLooseStore : Sp := fun vs H Q _ => ∃ (G F : Hp) (b p rd : Addr) (ts : List Tab) (R : Str → List (List Int)) (N : Nat), vs = [.ref b, .ref p, .ref rd] ∧ Same G F ∧ Bag F H b ∧ TbAt G p ts ∧ TsOk ts ∧ RsAt G rd ts (gL R) ∧ Rok ts R N ∧ N ≤ 60 ∧
  ∀ hd F' H' kvs, Bag F' H' b → Same F F' → G hd = none → F' hd = some (.dK kvs) → LKv G F' ts R kvs → (∀ t ∈ ts, (Sum.inr t.1 : Key) ∉ kvs.map (·.1) → R t.1 = []) → Q (.ref hd) H'
abbrev s_l_loose_store : Stmt := topS 40
abbrev sc_l_loose_storeN : List Str := ["_law_bag_here", "_law_tables_here", "_law_rows_here", "_law_table", "_law_names", "_law_found", "_law_name_here"]
abbrev ps_l_loose_store : List Str := ["_law_bag_here", "_law_tables_here", "_law_rows_here"]
theorem sc_l_loose_store : FnScope sc_l_loose_storeN ps_l_loose_store (defScope s_l_loose_store) := ⟨rfl, rfl, rfl, by decide +kernel, rfl, by decide +kernel, by decide +kernel⟩
theorem ok_l_loose_store {f : Addr} {fd : FuncData} (F : Fun K "_law_loose_store" "_law_loose_store" s_l_loose_store f fd) (T : Txt K mg CS) (D_l_pick : Df P w K mg base "_law_pick" 1 ps_l_pick spPick) (D_l_loose_rows : Df P w K mg base "_law_loose_rows" 2 ps_l_loose_rows spLooseRows) : FnOk P w K mg base CX0 3 f fd ps_l_loose_store spLooseStore := by
  refine F.ok sc_l_loose_store (fun vs H Q E h => ?_) (fun cdv A outer s H vs Q E hr h => ?_)
  · obtain ⟨_, _, _, _, _, _, _, _, rfl, _⟩ := h
    rfl
  · obtain ⟨G, F, b, p, rd, ts, R, N, rfl, sGF, B, ⟨xs, hp, ta⟩, ok, ⟨kv0, hrd, ek0, val0⟩, rok, hN, k⟩ := h
    refine ⟨_, (pss_cons (ps_setLc (i := 4) (own := [("_law_table", 3)]) (g := gName 3) (tt := tYes) (by rfl) sc_l_loose_store.nd rfl rfl (sw_true rfl rfl rfl (by decide +kernel)) (pi_list (pv 1)) (blkOk_by (own := [("_law_table", 3)]) (N := sc_l_loose_storeN) (sc := defScope s_l_loose_store) (by decide +kernel)) (fun _ _ _ _ _ => pg_name (i := 3) sc_l_loose_store.nd rfl (Or.inl rfl)) (fun _ _ _ _ _ => pts_nil) (fun _ _ _ _ _ => (pe_ix (ixK_tup (K := K)) (pv 3) pe_int (fun _ _ => rfl))))
  (Evl.pss_cut (ps_if (pt_cmpR op_eq (pe_d D_l_pick (hr.mono (by decide)) (pa_cons (pv 0) (pa_cons pe_int pa_nil))) pe_int (nomark _))
    (pss_one (ps_expr (pe_bm0 PySem.F.plainAttrs_list PySem.F.slot_list_reverse PySem.F.type_list_reverse mt_reverse (pv 4))))
    pss_nil)
  (pss_cons (ps_set (i := 5) sc_l_loose_store.nd rfl (Or.inl rfl) pe_dnewK)
  (pss_cons (ps_for PassesOwn.never rfl (pi_list (pv 4)) (pg_name (i := 6) sc_l_loose_store.nd rfl (Or.inl rfl))
    (pss_one (ps_if (PW.pt (pw_or (pt_cmpR op_gt (pe_callB call_len_seq (by rfl) T.n_len (by decide +kernel) (pa_cons (pe_dget (Nat.lt_of_le_of_lt (Nat.add_le_add_left (by decide) _) hr.units) (pv 2) (pv 6) (fun _ _ => rfl)) pa_nil)) pe_int (nomark _)) (pw_or1 (pt_cmpR op_eq (pe_d D_l_pick (hr.mono (by decide)) (pa_cons (pv 0) (pa_cons pe_int pa_nil))) pe_int (nomark _)))))
      (pss_one (ps_asg (pe_d D_l_loose_rows (hr.mono (by decide)) (pa_cons (pv 0) (pa_cons (pe_dget (Nat.lt_of_le_of_lt (Nat.add_le_add_left (by decide) _) hr.units) (pv 2) (pv 6) (fun _ _ => rfl)) pa_nil))) (pg_sub (pv 5) (pv 6) (set_dict (Nat.lt_of_le_of_lt (Nat.add_le_add_left (by decide) _) hr.units)))))
      pss_nil)))
  (pss_one (ps_ret (pv 5))))))), ?_⟩
    have lx : xs.length = ts.length := by rw [ta.len, List.length_map]
    have hi := ok.hi
    refine ⟨_, rfl, p, rfl, ⟨_, .inl (.inl (B.fh _ _ (sGF _ _ hp)))⟩, fun q hq => ?_⟩
    have fq := B.fh.free hq
    have hpq : ∀ {o : HO} {H' : Hp}, Bag (upd F q o) H' b → H' p = some (.lst xs) := fun z => z.fh _ _ (by rw [upd_ne (ne_of_none (sGF _ _ hp) fq)]; exact sGF _ _ hp)
    refine lc_it walk_list (fun i H' => Bag (upd F q (.lst (((ts.map (·.1)).take i).map V.str))) H' b) (B.new (.lst []) hq) (fun i H' _ z => .inl (.inl (hpq z))) ?_ ?_
    · rintro i x H6 H5 hi2 B5 ⟨rfl, hx⟩
      obtain ⟨c, hc, hcv⟩ := ta.at hx
      rw [List.getElem?_map] at hc
      obtain ⟨t, ht, rfl⟩ := Option.map_eq_some_iff.mp hc
      have hn : (ts.map (·.1))[i]? = some t.1 := by rw [List.getElem?_map, ht]; rfl
      obtain ⟨e, r, rfl, he, hr2⟩ := tab_in hcv
      have he' := sGF _ _ he
      refine ⟨rfl, _, rfl, e, _, 0, .str t.1, rfl, rfl, .inl (.inl (B5.fh _ _ (by rw [upd_ne (ne_of_none he' fq)]; exact he'))), rfl, _, B5.fh _ _ upd_same, take_lt _ (by rw [List.length_map]; omega), ?_⟩
      have y := B5.put (.lst (((ts.map (·.1)).take i).map V.str ++ [.str t.1])) upd_same
      rw [upd_upd] at y
      rw [map_take _ hn]
      exact y
    rintro H5 B5
    rw [lx, List.take_of_length_le (by rw [List.length_map]; exact Nat.le_refl _)] at B5
    refine ⟨fun σ' H' => ∃ ns : List Str, σ' = [some (.ref b), some (.ref p), some (.ref rd), none, some (.ref q), none, none] ∧ ns.Nodup ∧ ns.length ≤ 5 ∧ (∀ n, n ∈ ns ↔ n ∈ ts.map (·.1)) ∧ Bag (upd F q (.lst (ns.map V.str))) H' b, ?_, ?_⟩
    · refine ⟨_, rfl, _, b, 2, rfl, by decide, by decide, B5, fun r0 H4 r00 r01 B6 => ⟨rfl, _, rfl, ifd (fun _ => ?_) fun _ => ?_⟩⟩
      · refine ⟨_, rfl, .inl ⟨rfl, _, .inl (.inl (B6.fh _ _ upd_same))⟩, q, _, rfl, rfl, B6.fh _ _ upd_same, ?_⟩
        have y := B6.put (.lst ((ts.map (·.1)).map V.str).reverse) upd_same
        rw [upd_upd] at y
        exact ⟨(ts.map (·.1)).reverse, rfl, List.pairwise_reverse.mpr (ok.nd.imp fun h => Ne.symm h), by rw [List.length_reverse, List.length_map]; exact hi, fun n => List.mem_reverse, by rw [List.map_reverse]; exact y⟩
      · exact ⟨ts.map (·.1), rfl, ok.nd, by rw [List.length_map]; exact hi, fun n => Iff.rfl, B6⟩
    clear B5
    rintro σ' H6 ⟨ns, rfl, nns, lns, mns, B6⟩
    have sq : Same F (upd F q (.lst (ns.map V.str))) := same_new _ fq
    have atq : (upd F q (.lst (ns.map V.str))) q = some (.lst (ns.map V.str)) := upd_same
    have sG1 := sGF.trans sq
    clear hpq
    generalize upd F q (.lst (ns.map V.str)) = F1 at *
    intro hd hhd
    have f1h := B6.fh.free hhd
    have gh := sG1.free f1h
    have B7 := B6.new (.dK []) hhd
    have toS : ∀ {Fk : Hp} {kvs : List (Key × V)}, Same F1 Fk → Fk hd = none → ∀ (a : Addr) (o : HO), F1 a = some o → (upd Fk hd (.dK kvs)) a = some o := fun s n a o e => by rw [upd_ne (ne_of_none (s _ _ e) n)]; exact s _ _ e
    refine ⟨_, rfl, q, rfl, ⟨_, .inl (.inl (B7.fh _ _ (toS (Same.refl _) f1h _ _ atq)))⟩, for_it walk_list (fun i σ H' => ∃ Fk kvs v6, σ = [some (.ref b), some (.ref p), some (.ref rd), none, some (.ref q), some (.ref hd), v6] ∧ Same F1 Fk ∧ Fk hd = none ∧ Bag (upd Fk hd (.dK kvs)) H' b ∧ LKv G Fk ts R kvs ∧ kvs.length ≤ i ∧ (∀ kk ∈ kvs.map (·.1), ∃ n ∈ ns.take i, kk = Sum.inr n) ∧ ∀ t ∈ ts, t.1 ∈ ns.take i → (Sum.inr t.1 : Key) ∉ kvs.map (·.1) → R t.1 = [])
      ⟨F1, [], _, rfl, Same.refl _, f1h, B7, ⟨.nil, Nat.zero_le _, fun _ m => by cases m⟩, Nat.zero_le _, (fun _ m => by cases m), fun t _ m => by cases m⟩ (fun i σ H' _ z => by obtain ⟨_, _, _, _, s, n, B2, _⟩ := z; exact .inl (.inl (B2.fh _ _ (toS s n _ _ atq)))) ?_ ?_⟩
    · rintro i x σ H8 H7 hi2 ⟨Fk, kvs, v6, rfl, sF, nD, B8, lk, lki, kin, rest⟩ ⟨rfl, hx⟩
      obtain ⟨n, hn, rfl⟩ : ∃ n, ns[i]? = some n ∧ V.str n = x := by
        rw [List.getElem?_map] at hx
        exact Option.map_eq_some_iff.mp hx
      obtain ⟨t, mt, et⟩ := List.mem_map.mp ((mns n).mp (List.mem_of_getElem? hn))
      subst et
      have toH : ∀ {a o H'}, Bag (upd Fk hd (.dK kvs)) H' b → G a = some o → H' a = some o := fun B e => B.fh _ _ (toS sF nD _ _ (sG1 _ _ e))
      obtain ⟨y, hy, ty⟩ := val0 t mt
      obtain ⟨pl, ys, rfl, hpl, tys⟩ := (show Tp G y (.list ((R t.1).map rowD)) from ty).list
      have ly : ys.length = (R t.1).length := by rw [tys.len, List.length_map]
      obtain ⟨rN, rg⟩ := rok t mt
      have nk : (Sum.inr t.1 : Key) ∉ kvs.map (·.1) := fun m => by
        obtain ⟨n2, m2, e2⟩ := kin _ m
        have e3 : t.1 = n2 := Sum.inr.inj e2
        rw [← e3] at m2
        exact nodup_take nns hn m2
      have skip : R t.1 = [] → ∀ u ∈ ts, u.1 ∈ ns.take (i + 1) → (Sum.inr u.1 : Key) ∉ kvs.map (·.1) → R u.1 = [] := fun e u mu m no => by
        rw [List.take_add_one, hn] at m
        rcases List.mem_append.mp m with m | m
        · exact rest u mu m no
        · have z : u.1 = t.1 := by simpa using m
          rw [z, e]
      have kin2 : ∀ kk ∈ kvs.map (·.1), ∃ n ∈ ns.take (i + 1), kk = Sum.inr n := fun kk m => by
        obtain ⟨n2, m2, e2⟩ := kin _ m
        exact ⟨n2, by rw [List.take_add_one]; exact List.mem_append_left _ m2, e2⟩
      have fin : ∀ v F9 H9, Bag F9 H9 b → Same (upd Fk hd (.dK kvs)) F9 → Loose G F9 v (R t.1) → F9 hd = some (.dK kvs) ∧ Same F1 (cut F9 hd) ∧ Bag (upd (cut F9 hd) hd (.dK (putK kvs (Sum.inr t.1) v))) (upd H9 hd (.dK (putK kvs (Sum.inr t.1) v))) b ∧ LKv G (cut F9 hd) ts R (putK kvs (Sum.inr t.1) v) ∧ (putK kvs (Sum.inr t.1) v).length ≤ i + 1 ∧
          (∀ kk ∈ (putK kvs (Sum.inr t.1) v).map (·.1), ∃ n ∈ ns.take (i + 1), kk = Sum.inr n) ∧ ∀ u ∈ ts, u.1 ∈ ns.take (i + 1) → (Sum.inr u.1 : Key) ∉ (putK kvs (Sum.inr t.1) v).map (·.1) → R u.1 = [] := fun v F9 H9 B9 s9 lo => by
        have e9 : F9 hd = some (.dK kvs) := s9 _ _ upd_same
        rw [put_new nk]
        rw [List.length_map] at hi2
        refine ⟨e9, same_cut (fun a o e => s9 _ _ (toS sF nD a o e)) f1h, by rw [upd_cut]; exact B9.put _ e9, ⟨?_, by rw [List.length_append]; show kvs.length + 1 ≤ 5; omega, fun kv m => ?_⟩, by rw [List.length_append]; show kvs.length + 1 ≤ i + 1; omega, fun kk m => ?_, fun u mu m no => ?_⟩
        · rw [List.map_append]
          exact nodup_snoc lk.nd nk
        · rcases List.mem_append.mp m with m | m
          · obtain ⟨t2, m2, e2, l2⟩ := lk.ex kv m
            exact ⟨t2, m2, e2, (l2.same ((same_new _ nD).trans s9)).cutD e9⟩
          · rw [List.mem_singleton.mp m]
            exact ⟨t, mt, rfl, lo.cutD e9⟩
        · rw [List.map_append] at m
          rcases List.mem_append.mp m with m | m
          · exact kin2 kk m
          · have z : kk = Sum.inr t.1 := by simpa using m
            rw [z, List.take_add_one, hn]
            exact ⟨t.1, List.mem_append_right _ (by simp), rfl⟩
        · rw [List.map_append] at no
          rw [List.take_add_one, hn] at m
          rcases List.mem_append.mp m with m | m
          · exact rest u mu m fun z => no (List.mem_append_left _ z)
          · have z : u.1 = t.1 := by simpa using m
            exact absurd (List.mem_append_right _ (by rw [z]; simp)) no
      have sz : kvs.length < sizeLine := Nat.lt_of_le_of_lt lk.len (by decide)
      refine ⟨_, rfl, _, rfl, rd, _, rfl, .inl ⟨kv0, Sum.inr t.1, .inl (toH B8 hrd), rfl, hy.symm⟩, pl, ys, rfl, .inl (.inl (.inl (toH B8 hpl))), _, _, rfl, rfl, _, rfl, ifd (fun _ => ?_) fun hle => ?_⟩
      · refine iteT ⟨_, rfl, _, rfl, _, rfl, rd, _, rfl, .inl ⟨kv0, Sum.inr t.1, .inl (toH B8 hrd), rfl, hy.symm⟩, G, _, b, pl, ys, R t.1, rfl, fun a o e => toS sF nD _ _ (sG1 _ _ e), B8, hpl, tys, by omega, fun v F9 H9 B9 s9 lo => ?_⟩
        obtain ⟨e9, f1, f2, f3, f4, f5, f6⟩ := fin v F9 H9 B9 s9 lo
        exact ⟨_, rfl, _, rfl, hd, _, rfl, .inl ⟨kvs, Sum.inr t.1, B9.fh _ _ e9, rfl, sz, rfl⟩, _, _, _, rfl, f1, cut_at, f2, f3, f4, f5, f6⟩
      · refine ⟨_, rfl, _, b, 3, rfl, by decide, by decide, B8, fun r0 H9 r00 r01 B9 => ⟨rfl, _, rfl, ifd (fun _ => ?_) fun _ => ?_⟩⟩
        · refine ⟨_, rfl, _, rfl, _, rfl, rd, _, rfl, .inl ⟨kv0, Sum.inr t.1, .inl (toH B9 hrd), rfl, hy.symm⟩, G, _, b, pl, ys, R t.1, rfl, fun a o e => toS sF nD _ _ (sG1 _ _ e), B9, hpl, tys, by omega, fun v F9 H9 B9 s9 lo => ?_⟩
          obtain ⟨e9, f1, f2, f3, f4, f5, f6⟩ := fin v F9 H9 B9 s9 lo
          exact ⟨_, rfl, _, rfl, hd, _, rfl, .inl ⟨kvs, Sum.inr t.1, B9.fh _ _ e9, rfl, sz, rfl⟩, _, _, _, rfl, f1, cut_at, f2, f3, f4, f5, f6⟩
        · have e0 : R t.1 = [] := by
            rw [← List.length_eq_zero_iff]
            omega
          exact ⟨Fk, kvs, _, rfl, sF, nD, B9, lk, by omega, kin2, skip e0⟩
    · rintro σ H7 ⟨Fk, kvs, v6, rfl, sF, nD, B8, lk, lki, kin, rest⟩
      have sh : Same Fk (upd Fk hd (.dK kvs)) := same_new _ nD
      refine ⟨_, rfl, k hd _ _ kvs B8 (sq.trans (sF.trans sh)) gh upd_same (lk.same sh) fun t mt no => rest t mt ?_ no⟩
      rw [List.length_map, List.take_length]
      exact (mns _).mpr (List.mem_map.mpr ⟨t, mt, rfl⟩)
end
end Fm

/-! ## K04L -/
set_option Elab.async false
set_option maxRecDepth 100000
set_option maxHeartbeats 8000000
namespace Fm
open PySem L2
section
variable {P : Program} {w : World} {K : PySem.W.Frag} {mg : Str → Option Value} {base : Heap} {CS CT CR CN CM CI : Addr}
def spTells (CS CT : Addr) : Sp := fun vs H Q _ => ∃ (F : Hp) (st x p rd : Addr) (ts : List Tab) (R : Str → List (List Int)) (N : Nat), vs = [.ref st, .ref x, .ref p, .ref rd] ∧ Same F H ∧ ShT CS F x (tsD ts) ∧ TbAt F p ts ∧ TsOk ts ∧ StAt CS CT F st ts (gT R) ∧ RsAt F rd ts (gL R) ∧ Rok ts R N ∧ N ≤ 60 ∧ ∀ H', Same H H' → Q (.bl true) H'
abbrev s_l_tells : Stmt := topS 41
abbrev sc_l_tellsN : List Str := ["_law_store", "_law_shape", "_law_tables_here", "_law_rows_here", "_law_name_here", "_law_fields", "_law_told"]
abbrev ps_l_tells : List Str := ["_law_store", "_law_shape", "_law_tables_here", "_law_rows_here"]
theorem sc_l_tells : FnScope sc_l_tellsN ps_l_tells (defScope s_l_tells) := ⟨rfl, rfl, rfl, by decide +kernel, rfl, by decide +kernel, by decide +kernel⟩
theorem ok_l_tells {f : Addr} {fd : FuncData} (F : Fun K "_law_tells" "_law_tells" s_l_tells f fd) (T : Txt K mg CS) (T2 : Tx2 K mg CT) (D_rows_of : DmX P w K mg base CT "rows_of" 4 ps_Store_rows_of (spRowsOf CS CT CN)) (E_Shape : Deq P w K mg base CS 1 ps_Shape_eq (spShEq CS)) (D_l_alike : Df P w K mg base "_law_alike" 40 ps_l_alike (spAlike 40)) : FnOk P w K mg base CX0 41 f fd ps_l_tells (spTells CS CT) := by
  refine F.ok sc_l_tells (fun vs H Q E h => ?_) (fun cdv A outer s H vs Q E hr h => ?_)
  · obtain ⟨_, _, _, _, _, _, _, _, rfl, _⟩ := h
    rfl
  · obtain ⟨F0, st, x, p, rd, ts, R, N, rfl, sF, shX, ⟨xs, hp, ta⟩, ok, stA, rsA, rok, hN, k⟩ := h
    refine ⟨_, (pss_cons (ps_if (pt_not (pt_cmpR (op_eqO E_Shape (hr.mono (by decide))) (pe_fld (pv 0) rfl) (pv 1) (nomark _)))
    (pss_one (ps_ret pe_bl))
    pss_nil)
  (pss_cons (ps_for PassesOwn.never rfl (pi_list (pv 2)) (pg_tup (by rfl) (pgs_cons (pg_name (i := 4) sc_l_tells.nd rfl (Or.inl rfl)) (pgs_cons (pg_name (i := 5) sc_l_tells.nd rfl (Or.inl rfl)) pgs_nil)))
    (pss_cons (ps_set (i := 6) sc_l_tells.nd rfl (Or.inl rfl) (pe_dmE (W := fun _ _ _ _ => False) (pv 0) T2.clT D_rows_of (hr.mono (by decide)) takes0 (pa_cons (pv 4) pa_nil)))
    (pss_cons (ps_if (pt_not (pt_val (pe_d D_l_alike (hr.mono (by decide)) (pa_cons (pv 6) (pa_cons (pe_dget (Nat.lt_of_le_of_lt (Nat.add_le_add_left (by decide) _) hr.units) (pv 3) (pv 4) (fun _ _ => rfl)) pa_nil)))))
      (pss_one (ps_ret pe_bl))
      pss_nil)
    (pss_cons (ps_expr (pe_bm PySem.F.plainAttrs_list PySem.F.slot_list_append PySem.F.type_list_append mt_append (pv 6) (pa_cons pe_non pa_nil)))
    (pss_one (ps_expr (pe_bm0 PySem.F.plainAttrs_list PySem.F.slot_list_reverse PySem.F.type_list_reverse mt_reverse (pv 6))))))))
  (pss_one (ps_ret pe_bl)))), ?_⟩
    obtain ⟨dx, sh, rr, hst, shA, _⟩ := id stA
    obtain ⟨kvs, hrd, ek, val⟩ := id rsA
    obtain ⟨dz, vz, hsh, dvz⟩ := id shA
    obtain ⟨dw, vw, hshx, dvw⟩ := id shX
    refine ⟨_, rfl, st, CT, dx, _, _, rfl, sF _ _ hst, T2.clT, T2.nSh, rfl, _, rfl, sh, dz, _, _, rfl, sF _ _ hsh, .base (.ins (sF _ _ hshx) T.cl T.c_cls T.c_get T.c_tak T.c_mro), first_same CS, F0, sh, x, ts, ts, rfl, sF, shA, shX, ok.ok, ok.ok, _, rfl, _, rfl, ifF (by simp) ?_⟩
    have sqp : ∀ {H'}, Same H H' → SqL K H' p xs := fun s => .inl (.inl (s _ _ (sF _ _ hp)))
    refine ⟨_, rfl, p, rfl, ⟨_, sqp (Same.refl _)⟩, for_it walk_list (fun i σ H' => ∃ v4 v5 v6, σ = [some (.ref st), some (.ref x), some (.ref p), some (.ref rd), v4, v5, v6] ∧ Same H H') ⟨_, _, _, rfl, Same.refl _⟩ (fun i σ H' _ z => by obtain ⟨_, _, _, _, z⟩ := z; exact sqp z) ?_ ?_⟩
    · rintro i y σ H2 H3 hi ⟨v4, v5, v6, rfl, s2⟩ ⟨rfl, hx⟩
      obtain ⟨c, hc, hxc⟩ := ta.at hx
      rw [List.getElem?_map] at hc
      obtain ⟨t, ht, rfl⟩ := Option.map_eq_some_iff.mp hc
      have mt := List.mem_of_getElem? ht
      obtain ⟨a, q, rfl, ha, hq⟩ := tab_in hxc
      have s2F := sF.trans s2
      refine ⟨a, _, rfl, .inl (.inl (s2F _ _ ha)), rfl, _, _, rfl, _, _, rfl, rfl, ?_⟩
      refine ⟨_, rfl, st, dx, _, rfl, s2F _ _ hst, rfl, _, rfl, F0, st, .str t.1, .str t.1, ts, gT R, rfl, s2F, .str _, (by show 1 ≤ 100000; decide), stA, ok, fun _ _ => rfl, fun u mu ed p1 ys hp1 dys => ?_, fun no => absurd rfl (no t mt)⟩
      have eu := tab_eq ok.nd mt mu (PyData.str.inj ed).symm
      subst eu
      obtain ⟨z, hz, tz⟩ := val u mt
      obtain ⟨b1, b2⟩ := rok_bd ok rok hN mt
      obtain ⟨b3, _⟩ := rok u mt
      have lys : ys.length ≤ 60 := by
        rw [dys.len]
        show ((R u.1).map rowD).length ≤ 60
        rw [List.length_map]
        omega
      have s3 : Same H3 (upd H3 p1 (.lst ys)) := same_new _ hp1
      refine ⟨_, rfl, _, rfl, _, rfl, rd, _, rfl, .inl ⟨kvs, Sum.inr u.1, .inl (s3 _ _ (s2F _ _ hrd)), rfl, hz.symm⟩, ?_⟩
      refine ⟨.ref p1, z, .list ((R u.1).map rowD), rfl, .lst upd_same (dys.same (s2F.trans s3)), tz.same (s2F.trans s3), ?_, ?_, fun H4 s4 => ⟨_, rfl, iteF ?_⟩⟩
      · show 1 + depL ((R u.1).map rowD) < 40
        omega
      · show 1 + sizL ((R u.1).map rowD) ≤ 100000
        omega
      have e4 : H4 p1 = some (.lst ys) := s4 _ _ upd_same
      have s5 : Same H3 (upd H4 p1 (.lst (ys ++ [.non]))) := same_put (s3.trans s4) _ hp1
      refine ⟨_, rfl, .inl ⟨rfl, _, .inl (.inl e4)⟩, p1, ys, _, rfl, rfl, e4, Nat.lt_of_le_of_lt lys (by decide), ?_⟩
      refine ⟨_, rfl, .inl ⟨rfl, _, .inl (.inl upd_same)⟩, p1, _, rfl, rfl, upd_same, ?_⟩
      exact ⟨_, _, _, rfl, s2.trans (same_put s5 _ hp1)⟩
    · rintro σ H2 ⟨v4, v5, v6, rfl, s2⟩
      exact k _ s2
end
end Fm

/-! ## K04Q -/
set_option Elab.async false
set_option maxRecDepth 100000
set_option maxHeartbeats 8000000
namespace Fm
open PySem L2
mutual
theorem Tp.cutD {F : Hp} {h : Addr} {l : List (Key × V)} (e : F h = some (.dK l)) : ∀ {d : PyData} {v : V}, Tp F v d → noD d = true → Tp (cut F h) v d
  | .none, _, h, _ => by cases h; exact .non
  | .bool b, _, h, _ => by cases h; exact .bl b
  | .int i, _, h, _ => by cases h; exact .int i
  | .str x, _, h, _ => by cases h; exact .str x
  | .dict _, _, _, n => by cases n
  | .list ds, _, t, n => by
    cases t with
    | lst hs ha =>
      refine .lst ?_ (TpAll.cutD e ha n)
      rw [cut_ne fun z => by rw [z, e] at hs; cases hs]
      exact hs
  | .tuple ds, _, t, n => by
    cases t with
    | tup hs ha =>
      refine .tup ?_ (TpAll.cutD e ha n)
      rw [cut_ne fun z => by rw [z, e] at hs; cases hs]
      exact hs
theorem TpAll.cutD {F : Hp} {h : Addr} {l : List (Key × V)} (e : F h = some (.dK l)) : ∀ {ds : List PyData} {vs : List V}, TpAll F vs ds → noDs ds = true → TpAll (cut F h) vs ds
  | [], _, h, _ => by cases h; exact .nil
  | d :: ds, _, t, n => by
    cases t with
    | cons h1 h2 =>
      have n' : (noD d && noDs ds) = true := n
      rw [Bool.and_eq_true] at n'
      exact .cons (Tp.cutD e h1 n'.1) (TpAll.cutD e h2 n'.2)
end
section
variable {K : PySem.W.Frag} {F H : Hp} {Q : VK}
theorem sl_to {v : V} {rs : List (List Int)} {k : Nat} (s : Same F H) (hv : Tp F v (.list (rs.map rowD))) (q : ∀ u F' H', Grow F H F' H' → Tp F' u (.list ((rs.take k).map rowD)) → Q u H') : rSlL K v none (some (k : Int)) H Q ∨ rSlA K v none (some (k : Int)) H Q := by
  refine sl_tree s hv rfl fun u F' H' g t => q u F' H' g ?_
  have e : (rs.take k).map rowD = ((rs.map rowD).drop (HT.sIx (rs.map rowD).length 0 none)).take (HT.sIx (rs.map rowD).length (rs.map rowD).length (some (k : Int)) - HT.sIx (rs.map rowD).length 0 none) := by
    rw [HT.sIx_none, HT.sIx_nat, List.drop_zero, Nat.sub_zero, List.map_take]
    by_cases z : k ≤ (rs.map rowD).length
    · rw [Nat.min_eq_left z]
    · rw [Nat.min_eq_right (by omega), List.take_length, List.take_of_length_le (by omega)]
  rw [e]
  exact t
theorem sl_from {v : V} {rs : List (List Int)} {k : Nat} (s : Same F H) (hv : Tp F v (.list (rs.map rowD))) (q : ∀ u F' H', Grow F H F' H' → Tp F' u (.list ((rs.drop k).map rowD)) → Q u H') : rSlL K v (some (k : Int)) none H Q ∨ rSlA K v (some (k : Int)) none H Q := by
  refine sl_tree s hv rfl fun u F' H' g t => q u F' H' g ?_
  have e : (rs.drop k).map rowD = ((rs.map rowD).drop (HT.sIx (rs.map rowD).length 0 (some (k : Int)))).take (HT.sIx (rs.map rowD).length (rs.map rowD).length none - HT.sIx (rs.map rowD).length 0 (some (k : Int))) := by
    rw [HT.sIx_none, HT.sIx_nat, List.map_drop]
    by_cases z : k ≤ (rs.map rowD).length
    · rw [Nat.min_eq_left z, List.take_of_length_le (by rw [List.length_drop]; exact Nat.le_refl _)]
    · rw [Nat.min_eq_right (by omega), List.drop_eq_nil_of_le (by omega), List.drop_eq_nil_of_le (by omega), List.take_nil]
  rw [e]
  exact t
theorem sl_toI {v : V} {r : List Int} {k : Nat} (s : Same F H) (hv : Tp F v (rowD r)) (q : ∀ u F' H', Grow F H F' H' → Tp F' u (rowD (r.take k)) → Q u H') : rSlL K v none (some (k : Int)) H Q ∨ rSlA K v none (some (k : Int)) H Q := by
  refine sl_tree s hv rfl fun u F' H' g t => q u F' H' g ?_
  have e : (r.take k).map PyData.int = ((r.map PyData.int).drop (HT.sIx (r.map PyData.int).length 0 none)).take (HT.sIx (r.map PyData.int).length (r.map PyData.int).length (some (k : Int)) - HT.sIx (r.map PyData.int).length 0 none) := by
    rw [HT.sIx_none, HT.sIx_nat, List.drop_zero, Nat.sub_zero, List.map_take]
    by_cases z : k ≤ (r.map PyData.int).length
    · rw [Nat.min_eq_left z]
    · rw [Nat.min_eq_right (by omega), List.take_length, List.take_of_length_le (by omega)]
  unfold rowD
  rw [e]
  exact t
theorem sl_fromI {v : V} {r : List Int} {k : Nat} (s : Same F H) (hv : Tp F v (rowD r)) (q : ∀ u F' H', Grow F H F' H' → Tp F' u (rowD (r.drop k)) → Q u H') : rSlL K v (some (k : Int)) none H Q ∨ rSlA K v (some (k : Int)) none H Q := by
  refine sl_tree s hv rfl fun u F' H' g t => q u F' H' g ?_
  have e : (r.drop k).map PyData.int = ((r.map PyData.int).drop (HT.sIx (r.map PyData.int).length 0 (some (k : Int)))).take (HT.sIx (r.map PyData.int).length (r.map PyData.int).length none - HT.sIx (r.map PyData.int).length 0 (some (k : Int))) := by
    rw [HT.sIx_none, HT.sIx_nat, List.map_drop]
    by_cases z : k ≤ (r.map PyData.int).length
    · rw [Nat.min_eq_left z, List.take_of_length_le (by rw [List.length_drop]; exact Nat.le_refl _)]
    · rw [Nat.min_eq_right (by omega), List.drop_eq_nil_of_le (by omega), List.drop_eq_nil_of_le (by omega), List.take_nil]
  unfold rowD
  rw [e]
  exact t
theorem cat_rows {v u : V} {xs ys : List (List Int)} (s : Same F H) (hv : Tp F v (.list (xs.map rowD))) (hu : Tp F u (.list (ys.map rowD))) (hl : xs.length + ys.length ≤ 1000) (q : ∀ w F' H', Grow F H F' H' → Tp F' w (.list ((xs ++ ys).map rowD)) → Q w H') : rCat v u H Q ∨ rCatA K v u H Q :=
  cat_tree (d := .list []) s hv hu (by rw [List.length_map, List.length_map]; omega) fun w F' H' g t => q w F' H' g (by rw [List.map_append]; exact t)
theorem cat_ints {v u : V} {xs ys : List Int} (s : Same F H) (hv : Tp F v (rowD xs)) (hu : Tp F u (rowD ys)) (hl : xs.length + ys.length ≤ 1000) (q : ∀ w F' H', Grow F H F' H' → Tp F' w (rowD (xs ++ ys)) → Q w H') : rCat v u H Q ∨ rCatA K v u H Q :=
  cat_tree (d := .tuple []) s hv hu (by rw [List.length_map, List.length_map]; omega) fun w F' H' g t => q w F' H' g (by unfold rowD; rw [List.map_append]; exact t)
end
theorem row_inv {F : Hp} {v : V} {r : List Int} (h : Tp F v (rowD r)) : ∃ a, v = .ref a ∧ F a = some (.tup (r.map V.int)) := by
  obtain ⟨a, zs, rfl, ha, tz⟩ := (show Tp F v (.tuple (r.map PyData.int)) from h).tuple
  have inv : ∀ {r : List Int} {zs : List V}, TpAll F zs (r.map PyData.int) → zs = r.map V.int := by
    intro r
    induction r with
    | nil => intro zs h; cases h; rfl
    | cons z r ih =>
      intro zs h
      cases h with
      | cons h1 h2 => rw [h1.intI, ih h2]; rfl
  rw [inv tz] at ha
  exact ⟨a, rfl, ha⟩
theorem shaped_row (r : List Int) : SeqAt.shaped (rowD r) = true := by
  show (PyData.canLayAll0 (r.map PyData.int) && decide (PyData.depthAll (r.map PyData.int) + 1 ≤ 64)) = true
  rw [can_ints, dp_ints]
  rfl
theorem noD_row (r : List Int) : noD (rowD r) = true := noDs_all fun d m => by
  obtain ⟨_, _, rfl⟩ := List.mem_map.mp m
  rfl
section
variable {P : Program} {w : World} {K : PySem.W.Frag} {mg : Str → Option Value} {base : Heap} {CS CT CR CN CM CI : Addr}
def spChanged : Sp := fun vs H Q _ => ∃ (F : Hp) (b p rd : Addr) (ts : List Tab) (R : Str → List (List Int)), vs = [.ref b, .ref p, .ref rd] ∧ Bag F H b ∧ TbAt F p ts ∧ TsOk ts ∧ RsAt F rd ts (gL R) ∧ Rok ts R 9 ∧
  ∀ rd' F' H' R', Bag F' H' b → Same F F' → RsAt F' rd' ts (gL R') → Rok ts R' 10 → sameR ts R R' = false → Q (.ref rd') H'
abbrev s_l_changed : Stmt := topS 42
abbrev sc_l_changedN : List Str := ["_law_bag_here", "_law_tables_here", "_law_rows_here", "_law_name_here", "_law_fields", "_law_kept", "_law_at", "_law_choice", "_law_field", "_law_new", "_law_found", "_law_step"]
abbrev ps_l_changed : List Str := ["_law_bag_here", "_law_tables_here", "_law_rows_here"]
theorem sc_l_changed : FnScope sc_l_changedN ps_l_changed (defScope s_l_changed) := ⟨rfl, rfl, rfl, by decide +kernel, rfl, by decide +kernel, by decide +kernel⟩
theorem ok_l_changed {f : Addr} {fd : FuncData} (F : Fun K "_law_changed" "_law_changed" s_l_changed f fd) (T : Txt K mg CS) (D_l_pick : Df P w K mg base "_law_pick" 1 ps_l_pick spPick) (D_l_value : Df P w K mg base "_law_value" 2 ps_l_value spValue) : FnOk P w K mg base CX0 3 f fd ps_l_changed spChanged := by
  refine F.ok sc_l_changed (fun vs H Q E h => ?_) (fun cdv A outer s H vs Q E hr h => ?_)
  · obtain ⟨_, _, _, _, _, _, rfl, _⟩ := h
    rfl
  · obtain ⟨F, b, p, rd, ts, R, rfl, B, ⟨xs, hp, ta⟩, ok, ⟨kv0, hrd, ek0, val0⟩, rok, k⟩ := h
    refine ⟨_, (pss_cons (ps_asg (pe_ix ix_list (pv 1) (pe_d D_l_pick (hr.mono (by decide)) (pa_cons (pv 0) (pa_cons (pe_callB call_len_seq (by rfl) T.n_len (by decide +kernel) (pa_cons (pv 1) pa_nil)) pa_nil))) (fun _ _ => rfl)) (pg_tup (by rfl) (pgs_cons (pg_name (i := 3) sc_l_changed.nd rfl (Or.inl rfl)) (pgs_cons (pg_name (i := 4) sc_l_changed.nd rfl (Or.inl rfl)) pgs_nil))))
  (pss_cons (ps_set (i := 5) sc_l_changed.nd rfl (Or.inl rfl) (pe_dget (Nat.lt_of_le_of_lt (Nat.add_le_add_left (by decide) _) hr.units) (pv 2) (pv 3) (fun _ _ => rfl)))
  (pss_cons (ps_set (i := 6) sc_l_changed.nd rfl (Or.inl rfl) (pe_d D_l_pick (hr.mono (by decide)) (pa_cons (pv 0) (pa_cons (pe_op op_add (pe_callB call_len_seq (by rfl) T.n_len (by decide +kernel) (pa_cons (pv 5) pa_nil)) pe_int) pa_nil))))
  (pss_cons (ps_set (i := 7) sc_l_changed.nd rfl (Or.inl rfl) (pe_d D_l_pick (hr.mono (by decide)) (pa_cons (pv 0) (pa_cons pe_int pa_nil))))
  (pss_cons (ps_set (i := 9) sc_l_changed.nd rfl (Or.inl rfl) (pe_callTy call_tuple_of (by rfl) T.n_tuple (by decide +kernel) (pa_cons (pe_lc (own := [("_law_field", 8)]) (g := gName 8) (tt := tYes) (by rfl) sc_l_changed.nd (pi_tup (pv 4)) (blkOk_by (own := [("_law_field", 8)]) (N := sc_l_changedN) (sc := defScope s_l_changed) (by decide +kernel)) (fun _ _ _ _ _ => pg_name (i := 8) sc_l_changed.nd rfl (Or.inl rfl)) (fun _ _ _ _ _ => pts_nil) (fun _ _ _ _ _ => (pe_d D_l_value (hr.mono (by decide)) (pa_cons (pv 0) pa_nil)))) pa_nil)))
  (pss_cons (ps_set (i := 10) sc_l_changed.nd rfl (Or.inl rfl) (pe_callTy call_dictD (by rfl) T.n_dict (by decide +kernel) (pa_cons (pv 2) pa_nil)))
  (Evl.pss_cut (ps_if (PW.pt (pw_and (pt_cmpR op_eq (pv 7) pe_int (nomark _)) (pw_and1 (pt_cmpR op_lt (pv 6) (pe_callB call_len_seq (by rfl) T.n_len (by decide +kernel) (pa_cons (pv 5) pa_nil)) (nomark _)))))
    (pss_one (ps_asg (pe_op op_catAny (pe_slice sl_any (pv 5) po_none (po_some (pv 6))) (pe_slice sl_any (pv 5) (po_some (pe_op op_add (pv 6) pe_int)) po_none)) (pg_sub (pv 10) (pv 3) (set_dict (Nat.lt_of_le_of_lt (Nat.add_le_add_left (by decide) _) hr.units)))))
    (pss_one (ps_if (PW.pt (pw_and (pt_cmpR op_eq (pv 7) pe_int (nomark _)) (pw_and (pt_cmpR op_lt (pe_op op_add (pv 6) pe_int) (pe_callB call_len_seq (by rfl) T.n_len (by decide +kernel) (pa_cons (pv 5) pa_nil)) (nomark _)) (pw_and1 (pt_cmpR (op_neD hr.units) (pe_ix (ixK_seq (K := K)) (pv 5) (pv 6) (fun _ _ => rfl)) (pe_ix (ixK_seq (K := K)) (pv 5) (pe_op op_add (pv 6) pe_int) (fun _ _ => rfl)) (nomark _))))))
      (pss_one (ps_asg (pe_op op_catAny (pe_op op_catAny (pe_slice sl_any (pv 5) po_none (po_some (pv 6))) (pe_lst (pa_cons (pe_ix (ixK_seq (K := K)) (pv 5) (pe_op op_add (pv 6) pe_int) (fun _ _ => rfl)) (pa_cons (pe_ix (ixK_seq (K := K)) (pv 5) (pv 6) (fun _ _ => rfl)) pa_nil)))) (pe_slice sl_any (pv 5) (po_some (pe_op op_add (pv 6) pe_int)) po_none)) (pg_sub (pv 10) (pv 3) (set_dict (Nat.lt_of_le_of_lt (Nat.add_le_add_left (by decide) _) hr.units)))))
      (pss_one (ps_if (PW.pt (pw_and (pt_cmpR op_eq (pv 7) pe_int (nomark _)) (pw_and1 (pt_cmpR op_lt (pv 6) (pe_callB call_len_seq (by rfl) T.n_len (by decide +kernel) (pa_cons (pv 5) pa_nil)) (nomark _)))))
        (pss_cons (ps_set (i := 8) sc_l_changed.nd rfl (Or.inl rfl) (pe_d D_l_pick (hr.mono (by decide)) (pa_cons (pv 0) (pa_cons (pe_callB call_len_seq (by rfl) T.n_len (by decide +kernel) (pa_cons (pv 4) pa_nil)) pa_nil))))
        (pss_cons (ps_set (i := 11) sc_l_changed.nd rfl (Or.inl rfl) (pe_op op_sub pe_int (pe_op op_mul pe_int (pe_callTy call_int1 (by rfl) T.n_int (by decide +kernel) (pa_cons (pe_cmpR op_gt (pe_ix (ixK_seq (K := K)) (pe_ix (ixK_seq (K := K)) (pv 5) (pv 6) (fun _ _ => rfl)) (pv 8) (fun _ _ => rfl)) pe_int (nomark _)) pa_nil)))))
        (pss_one (ps_asg (pe_op op_catAny (pe_op op_catAny (pe_slice sl_any (pv 5) po_none (po_some (pv 6))) (pe_lst (pa_cons (pe_op op_catAny (pe_op op_catAny (pe_slice sl_any (pe_ix (ixK_seq (K := K)) (pv 5) (pv 6) (fun _ _ => rfl)) po_none (po_some (pv 8))) (pe_tup (pa_cons (pe_op op_add (pe_ix (ixK_seq (K := K)) (pe_ix (ixK_seq (K := K)) (pv 5) (pv 6) (fun _ _ => rfl)) (pv 8) (fun _ _ => rfl)) (pv 11)) pa_nil))) (pe_slice sl_any (pe_ix (ixK_seq (K := K)) (pv 5) (pv 6) (fun _ _ => rfl)) (po_some (pe_op op_add (pv 8) pe_int)) po_none)) pa_nil))) (pe_slice sl_any (pv 5) (po_some (pe_op op_add (pv 6) pe_int)) po_none)) (pg_sub (pv 10) (pv 3) (set_dict (Nat.lt_of_le_of_lt (Nat.add_le_add_left (by decide) _) hr.units)))))))
        (pss_one (ps_asg (pe_op op_catAny (pe_op op_catAny (pe_slice sl_any (pv 5) po_none (po_some (pv 6))) (pe_lst (pa_cons (pv 9) pa_nil))) (pe_slice sl_any (pv 5) (po_some (pv 6)) po_none)) (pg_sub (pv 10) (pv 3) (set_dict (Nat.lt_of_le_of_lt (Nat.add_le_add_left (by decide) _) hr.units))))))))))
  (pss_one (ps_ret (pv 10)))))))))), ?_⟩
    have lx : xs.length = ts.length := by rw [ta.len, List.length_map]
    have lo := ok.lo
    have hi := ok.hi
    refine ⟨_, rfl, _, rfl, _, rfl, p, _, rfl, .inl (.inl (.inl (B.fh _ _ hp))), F, b, _, rfl, by omega, by omega, B, fun r1 H1 r10 r11 B1 => ?_⟩
    obtain ⟨j, rfl⟩ : ∃ j : Nat, r1 = (j : Int) := ⟨r1.toNat, by omega⟩
    have hxi : xs[j]? = some (xs[j]'(by omega)) := List.getElem?_eq_getElem _
    obtain ⟨c0, hc0, hxc⟩ := ta.at hxi
    rw [List.getElem?_map] at hc0
    obtain ⟨t, ht, rfl⟩ := Option.map_eq_some_iff.mp hc0
    have mt := List.mem_of_getElem? ht
    obtain ⟨ta1, c, exi, hta, hc⟩ := tab_in hxc
    refine ⟨p, xs, _, _, rfl, rfl, .inl (.inl (B1.fh _ _ hp)), atI_nat hxi, ?_⟩
    rw [exi]
    refine ⟨ta1, _, rfl, .inl (.inl (B1.fh _ _ hta)), rfl, _, _, rfl, _, _, rfl, rfl, ?_⟩
    obtain ⟨y, hy, ty⟩ := val0 t mt
    have tk : Tp F y (.list ((R t.1).map rowD)) := ty
    obtain ⟨pl, ys, rfl, hpl, tys⟩ := tk.list
    have ly : ys.length = (R t.1).length := by rw [tys.len, List.length_map]
    obtain ⟨rN, rg⟩ := rok t mt
    refine ⟨_, rfl, _, rfl, rd, _, rfl, .inl ⟨kv0, Sum.inr t.1, .inl (B1.fh _ _ hrd), rfl, hy.symm⟩, ?_⟩
    refine ⟨_, rfl, _, rfl, pl, ys, rfl, .inl (.inl (.inl (B1.fh _ _ hpl))), _, _, rfl, rfl, F, b, _, rfl, by omega, by omega, B1, fun r2 H2 r20 r21 B2 => ?_⟩
    obtain ⟨i, rfl⟩ : ∃ i : Nat, r2 = (i : Int) := ⟨r2.toNat, by omega⟩
    refine ⟨_, rfl, F, b, 4, rfl, by decide, by decide, B2, fun ch H3 r30 r31 B3 => ?_⟩
    have lf := (ok.ok t mt).fs.hi
    have lf1 := (ok.ok t mt).fs.lo
    refine ⟨_, rfl, c, rfl, ⟨_, .inl (.inl (B3.fh _ _ hc))⟩, fun D1 hD1 => ?_⟩
    refine lc_it (walk_tup (xs := t.2.map V.str)) (fun e H' => ∃ zs : List Int, zs.length = e ∧ (∀ z ∈ zs, -1000000000 ≤ z ∧ z ≤ 1000000000) ∧ Bag (upd F D1 (.lst (zs.map V.int))) H' b) ⟨[], rfl, (fun _ z => by cases z), B3.new _ hD1⟩ (fun e H' _ z => by obtain ⟨zs, _, _, B5⟩ := z; exact .inl (.inl (B5.fh _ _ (by rw [upd_ne (ne_of_none hc (B3.fh.free hD1))]; exact hc)))) ?_ ?_
    · rintro e x6 H6 H66 he ⟨zs, lz2, vz, B5⟩ ⟨rfl, hx6⟩
      rw [List.length_map] at he
      refine ⟨rfl, _, rfl, _, b, rfl, B5, fun z H7 z1 z2 B7 => ⟨_, B7.fh _ _ upd_same, by rw [List.length_map]; exact Nat.lt_of_le_of_lt (show zs.length ≤ 100 by omega) (by decide), zs ++ [z], by rw [List.length_append, lz2]; rfl, fun y my => ?_, ?_⟩⟩
      · rcases List.mem_append.mp my with my | my
        · exact vz y my
        · rw [List.mem_singleton.mp my]
          exact ⟨z1, z2⟩
      · have y := B7.put (.lst ((zs ++ [z]).map V.int)) upd_same
        rw [upd_upd, List.map_append] at y
        rw [List.map_append]
        exact y
    rintro H5 ⟨zs, lz, vz, B5⟩
    rw [List.length_map] at lz
    have sD : Same F (upd F D1 (.lst (zs.map V.int))) := same_new _ (B3.fh.free hD1)
    have eD : (upd F D1 (.lst (zs.map V.int))) D1 = some (.lst (zs.map V.int)) := upd_same
    generalize upd F D1 (.lst (zs.map V.int)) = F5 at *
    refine ⟨D1, _, rfl, .inl ⟨.inl (.inl (B5.fh _ _ eD)), fun l hl => ?_⟩⟩
    have B6 := B5.new (.tup (zs.map V.int)) hl
    have sl : Same F5 (upd F5 l (.tup (zs.map V.int))) := same_new _ (B5.fh.free hl)
    have tn : Tp (upd F5 l (.tup (zs.map V.int))) (.ref l) (rowD zs) := .tup upd_same (TpAll.ints zs)
    generalize upd F5 l (.tup (zs.map V.int)) = F6 at *
    generalize upd H5 l (.tup (zs.map V.int)) = H6 at *
    have sF6 : Same F F6 := sD.trans sl
    clear B5 B3 B2 B1 eD sl hl hD1 sD
    refine ⟨_, rfl, rd, kv0, rfl, .inl (B6.fh _ _ (sF6 _ _ hrd)), fun D hD => ?_⟩
    have f6D : F6 D = none := B6.fh.free hD
    have B8 := B6.new (.dK kv0) hD
    have s8 : Same F6 (upd F6 D (.dK kv0)) := same_new _ f6D
    have d8 : (upd F6 D (.dK kv0)) D = some (.dK kv0) := upd_same
    have tk := tk.same (sF6.trans s8)
    have tn := tn.same s8
    have hpl8 := s8 _ _ (sF6 _ _ hpl)
    have tys8 := tys.same (sF6.trans s8)
    have hc8 := s8 _ _ (sF6 _ _ hc)
    generalize upd F6 D (.dK kv0) = F8 at *
    generalize upd H6 D (.dK kv0) = H8 at *
    clear B6 hD
    have lk : kv0.length ≤ 100 := by
      have z := congrArg List.length ek0
      rw [List.length_map, List.length_map] at z
      omega
    have sz : kv0.length < sizeLine := Nat.lt_of_le_of_lt lk (by decide)
    have gz : goodR t.2.length zs := ⟨lz, vz⟩
    -- what is left to be said
    have fin : ∀ F9 H9 v rs, Bag F9 H9 b → Same F8 F9 → Tp F9 v (.list (rs.map rowD)) → (∀ r ∈ rs, goodR t.2.length r) → rs.length ≤ 10 → rs ≠ R t.1 → F9 D = some (.dK kv0) ∧ ∀ (σ' : L2.St) (v8 v11 : Option V), σ' = [some (.ref b), some (.ref p), some (.ref rd), some (.str t.1), some (.ref c), some (.ref pl), some (.int (i : Nat)), some (.int ch), v8, some (.ref l), some (.ref D), v11] →
        (∃ (v8 v11 : Option V) (Fk : Hp) (rs : List (List Int)), σ' = [some (.ref b), some (.ref p), some (.ref rd), some (.str t.1), some (.ref c), some (.ref pl), some (.int (i : Nat)), some (.int ch), v8, some (.ref l), some (.ref D), v11] ∧ Same F Fk ∧ Bag Fk (upd H9 D (.dK (putK kv0 (Sum.inr t.1) v))) b ∧ RsAt Fk D ts (gL (setR R t.1 rs)) ∧ (∀ r ∈ rs, goodR t.2.length r) ∧ rs.length ≤ 10 ∧ rs ≠ R t.1) := fun F9 H9 v rs B9 s9 tv g9 l9 n9 => by
      have e9 : F9 D = some (.dK kv0) := s9 _ _ d8
      refine ⟨e9, fun σ' v8 v11 e => ⟨v8, v11, upd F9 D (.dK (putK kv0 (Sum.inr t.1) v)), rs, e, ?_, B9.put _ e9, ?_, g9, l9, n9⟩⟩
      · have z : Same F6 (cut F9 D) := same_cut (s8.trans s9) f6D
        have y : Same (cut F9 D) (upd (cut F9 D) D (.dK (putK kv0 (Sum.inr t.1) v))) := same_new _ cut_at
        rw [upd_cut] at y
        exact sF6.trans (z.trans y)
      · have z : Same F6 (cut F9 D) := same_cut (s8.trans s9) f6D
        have y : Same (cut F9 D) (upd (cut F9 D) D (.dK (putK kv0 (Sum.inr t.1) v))) := same_new _ cut_at
        rw [upd_cut] at y
        have hn2 : (Sum.inr t.1 : Key) ∈ kv0.map (·.1) := by
          rw [ek0]
          exact List.mem_map.mpr ⟨t, mt, rfl⟩
        refine ⟨_, upd_same, by rw [keys_put hn2, ek0], fun u mu => ?_⟩
        rw [valV_put]
        unfold gL setR
        by_cases q : u.1 = t.1
        · rw [if_pos (by rw [q]), if_pos q]
          exact ⟨v, rfl, (tv.cutD e9 (noDs_rows rs)).same y⟩
        · rw [if_neg (fun z => q (Sum.inr.inj z)), if_neg q]
          obtain ⟨u1, u2, u3⟩ := val0 u mu
          exact ⟨u1, u2, (u3.same sF6).same (z.trans y)⟩
    have goodIns : ∀ r ∈ (R t.1).take i ++ [zs] ++ (R t.1).drop i, goodR t.2.length r := fun r m => by
      rcases List.mem_append.mp m with m | m
      · rcases List.mem_append.mp m with m | m
        · exact rg r (List.mem_of_mem_take m)
        · rw [List.mem_singleton.mp m]
          exact gz
      · exact rg r (List.mem_of_mem_drop m)
    refine ⟨fun σ' H' => ∃ (v8 v11 : Option V) (Fk : Hp) (rs : List (List Int)), σ' = [some (.ref b), some (.ref p), some (.ref rd), some (.str t.1), some (.ref c), some (.ref pl), some (.int (i : Nat)), some (.int ch), v8, some (.ref l), some (.ref D), v11] ∧ Same F Fk ∧ Bag Fk H' b ∧ RsAt Fk D ts (gL (setR R t.1 rs)) ∧ (∀ r ∈ rs, goodR t.2.length r) ∧ rs.length ≤ 10 ∧ rs ≠ R t.1, ?_, ?_⟩
    · have len8 : ∀ {H'}, Bag F8 H' b → SqL K H' pl ys := fun B => .inl (.inl (B.fh _ _ hpl8))
      have c1 : ∀ (m : Int) {A C : Prop}, (V.int ch = V.int m → A) → (¬ V.int ch = V.int m → C) → if decide (V.int ch = V.int m) = true then A else C := fun m _ _ => ifd
      refine ⟨_, rfl, rfl, _, rfl, ifd (fun e1 => ⟨_, rfl, _, rfl, pl, ys, rfl, .inl (len8 B8), _, _, rfl, rfl, _, rfl, ifd (fun l1 => ?_) fun l1 => ?_⟩) fun e1 => ?_⟩
      · -- a row less
        rw [ly] at l1
        refine ⟨_, rfl, _, rfl, _, rfl, sl_to B8.fh tk fun u1 F1 G1 g1 t1 => ?_⟩
        refine ⟨_, rfl, _, rfl, _, _, rfl, rfl, _, rfl, sl_from (k := i + 1) g1.fh (tk.same g1.ff) fun u2 F2 G2 g2 t2 => ?_⟩
        refine cat_rows g2.fh (t1.same g2.ff) t2 (by rw [List.length_take, List.length_drop]; omega) fun u3 F3 G3 g3 t3 => ?_
        have g3 := g1.trans (g2.trans g3)
        have hne : (R t.1).take i ++ (R t.1).drop (i + 1) ≠ R t.1 := fun e => by
          have z := congrArg List.length e
          rw [List.length_append, List.length_take, List.length_drop] at z
          omega
        obtain ⟨e9, W⟩ := fin F3 G3 u3 _ (B8.grow g3) g3.ff t3 (fun r m => by
          rcases List.mem_append.mp m with m | m
          · exact rg r (List.mem_of_mem_take m)
          · exact rg r (List.mem_of_mem_drop m)) (by rw [List.length_append, List.length_take, List.length_drop]; omega) hne
        exact ⟨_, rfl, _, rfl, D, _, rfl, .inl ⟨kv0, Sum.inr t.1, (B8.grow g3).fh _ _ e9, rfl, sz, rfl⟩, W _ _ _ rfl⟩
      · refine ⟨_, rfl, rfl, _, rfl, ifd (fun e2 => absurd (e1.symm.trans e2) (by decide)) fun e2 => ?_⟩
        refine ⟨_, rfl, rfl, _, rfl, ifd (fun e3 => absurd (e1.symm.trans e3) (by decide)) fun e3 => ?_⟩
        -- a row more between
        have insR : ∀ r ∈ (R t.1).take i ++ [zs] ++ (R t.1).drop i, goodR t.2.length r := goodIns
        refine ⟨_, rfl, _, rfl, _, rfl, sl_to B8.fh tk fun u1 F1 G1 g1 t1 => ?_⟩
        refine ⟨_, rfl, (by show 1 ≤ sizeLine; decide), fun m hm => ?_⟩
        have g2 := g1.trans (Grow.new g1.fh (.lst [.ref l]) hm)
        have t2 : Tp (upd F1 m (.lst [.ref l])) (.ref m) (.list ([zs].map rowD)) := .lst upd_same (.cons (tn.same g2.ff) .nil)
        have t1 := t1.same (same_new (.lst [.ref l]) (g1.fh.free hm))
        generalize upd F1 m (.lst [.ref l]) = F2 at *
        generalize upd G1 m (.lst [.ref l]) = G2 at *
        refine cat_rows g2.fh t1 t2 (by rw [List.length_take]; show min i (R t.1).length + 1 ≤ 1000; omega) fun u3 F3 G3 g3 t3 => ?_
        have g3 := g2.trans g3
        refine ⟨_, rfl, _, rfl, _, rfl, sl_from g3.fh (tk.same g3.ff) fun u4 F4 G4 g4 t4 => ?_⟩
        refine cat_rows g4.fh (t3.same g4.ff) t4 (by rw [List.length_append, List.length_take, List.length_drop]; show min i (R t.1).length + 1 + ((R t.1).length - i) ≤ 1000; omega) fun u5 F5 G5 g5 t5 => ?_
        have g5 := g3.trans (g4.trans g5)
        have hne : (R t.1).take i ++ [zs] ++ (R t.1).drop i ≠ R t.1 := fun e => by
          have z := congrArg List.length e
          rw [List.length_append, List.length_append, List.length_take, List.length_drop] at z
          have y : min i (R t.1).length + 1 + ((R t.1).length - i) = (R t.1).length := z
          omega
        obtain ⟨e9, W⟩ := fin F5 G5 u5 _ (B8.grow g5) g5.ff t5 insR (by rw [List.length_append, List.length_append, List.length_take, List.length_drop]; show min i (R t.1).length + 1 + ((R t.1).length - i) ≤ 10; omega) hne
        exact ⟨_, rfl, _, rfl, D, _, rfl, .inl ⟨kv0, Sum.inr t.1, (B8.grow g5).fh _ _ e9, rfl, sz, rfl⟩, W _ _ _ rfl⟩
      · refine ⟨_, rfl, rfl, _, rfl, ifd (fun e2 => ⟨_, rfl, _, _, rfl, rfl, _, rfl, pl, ys, rfl, .inl (len8 B8), _, _, rfl, rfl, _, rfl, ifd (fun l2 => ?_) fun l2 => ?_⟩) fun e2 => ?_⟩
        · have i1 : i < (R t.1).length := by omega
          have i2 : i + 1 < (R t.1).length := by omega
          have ya : ys[i]? = some (ys[i]'(by omega)) := List.getElem?_eq_getElem _
          have yb : ys[i + 1]? = some (ys[i + 1]'(by omega)) := List.getElem?_eq_getElem _
          obtain ⟨da, ha, tda⟩ := tys8.at ya
          obtain ⟨db, hb, tdb⟩ := tys8.at yb
          rw [List.getElem?_map, List.getElem?_eq_getElem i1] at ha
          rw [List.getElem?_map, List.getElem?_eq_getElem i2] at hb
          cases ha
          cases hb
          generalize ys[i]'(by omega) = va at *
          generalize ys[i + 1]'(by omega) = vb at *
          refine ⟨_, rfl, _, rfl, ix_sq (.inl (len8 B8)) (atI_nat ya) ⟨_, rfl, _, rfl, _, _, rfl, rfl, ix_sq (.inl (len8 B8)) (atI_nat yb) ?_⟩⟩
          refine ⟨_, _, (tda.same B8.fh).plain (noD_row _), (tdb.same B8.fh).plain (noD_row _), shaped_row _, shaped_row _, ?_⟩
          rw [eqv_row]
          refine ⟨_, rfl, ifn (fun ne => ?_) fun eq => ?_⟩
          · -- two rows exchanged
            refine ⟨_, rfl, _, rfl, _, rfl, sl_to B8.fh tk fun u1 F1 G1 g1 t1 => ?_⟩
            refine ⟨_, rfl, _, rfl, _, _, rfl, rfl, ix_sq (.inl (.inl (.inl (g1.fh _ _ (g1.ff _ _ hpl8))))) (atI_nat yb) ⟨_, rfl, _, rfl, ix_sq (.inl (.inl (.inl (g1.fh _ _ (g1.ff _ _ hpl8))))) (atI_nat ya) ⟨(by show 2 ≤ sizeLine; decide), fun m hm => ?_⟩⟩⟩
            have g2 := g1.trans (Grow.new g1.fh (.lst [vb, va]) hm)
            have t2 : Tp (upd F1 m (.lst [vb, va])) (.ref m) (.list ([(R t.1)[i + 1], (R t.1)[i]].map rowD)) := .lst upd_same (.cons (tdb.same g2.ff) (.cons (tda.same g2.ff) .nil))
            have t1 := t1.same (same_new (.lst [vb, va]) (g1.fh.free hm))
            generalize upd F1 m (.lst [vb, va]) = F2 at *
            generalize upd G1 m (.lst [vb, va]) = G2 at *
            refine cat_rows g2.fh t1 t2 (by rw [List.length_take]; show min i (R t.1).length + 2 ≤ 1000; omega) fun u3 F3 G3 g3 t3 => ?_
            have g3 := g2.trans g3
            refine ⟨_, rfl, _, rfl, _, _, rfl, rfl, _, rfl, sl_from (k := i + 2) g3.fh (tk.same g3.ff) fun u4 F4 G4 g4 t4 => ?_⟩
            refine cat_rows g4.fh (t3.same g4.ff) t4 (by rw [List.length_append, List.length_take, List.length_drop]; show min i (R t.1).length + 2 + ((R t.1).length - (i + 2)) ≤ 1000; omega) fun u5 F5 G5 g5 t5 => ?_
            have g5 := g3.trans (g4.trans g5)
            have hne : (R t.1).take i ++ [(R t.1)[i + 1], (R t.1)[i]] ++ (R t.1).drop (i + 2) ≠ R t.1 := fun e => by
              have z := congrArg (fun l => l[i]?) e
              have y : ((R t.1).take i ++ [(R t.1)[i + 1], (R t.1)[i]] ++ (R t.1).drop (i + 2))[i]? = some (R t.1)[i + 1] := by
                rw [List.append_assoc, List.getElem?_append_right (by rw [List.length_take]; omega), List.length_take, Nat.min_eq_left (by omega), Nat.sub_self]
                rfl
              have x : (R t.1)[i]? = some (R t.1)[i] := List.getElem?_eq_getElem _
              have w2 := (y.symm.trans z).trans x
              exact ne (Option.some.inj w2).symm
            obtain ⟨e9, W⟩ := fin F5 G5 u5 _ (B8.grow g5) g5.ff t5 (fun r m => by
              rcases List.mem_append.mp m with m | m
              · rcases List.mem_append.mp m with m | m
                · exact rg r (List.mem_of_mem_take m)
                · have z : r = (R t.1)[i + 1] ∨ r = (R t.1)[i] := by simpa using m
                  rcases z with rfl | rfl
                  · exact rg _ (List.getElem_mem _)
                  · exact rg _ (List.getElem_mem _)
              · exact rg r (List.mem_of_mem_drop m)) (by rw [List.length_append, List.length_append, List.length_take, List.length_drop]; show min i (R t.1).length + 2 + ((R t.1).length - (i + 2)) ≤ 10; omega) hne
            exact ⟨_, rfl, _, rfl, D, _, rfl, .inl ⟨kv0, Sum.inr t.1, (B8.grow g5).fh _ _ e9, rfl, sz, rfl⟩, W _ _ _ rfl⟩
          · refine ⟨_, rfl, rfl, _, rfl, ifd (fun e3 => absurd (e2.symm.trans e3) (by decide)) fun e3 => ?_⟩
            -- a row more between
            have insR : ∀ r ∈ (R t.1).take i ++ [zs] ++ (R t.1).drop i, goodR t.2.length r := goodIns
            refine ⟨_, rfl, _, rfl, _, rfl, sl_to B8.fh tk fun u1 F1 G1 g1 t1 => ?_⟩
            refine ⟨_, rfl, (by show 1 ≤ sizeLine; decide), fun m hm => ?_⟩
            have g2 := g1.trans (Grow.new g1.fh (.lst [.ref l]) hm)
            have t2 : Tp (upd F1 m (.lst [.ref l])) (.ref m) (.list ([zs].map rowD)) := .lst upd_same (.cons (tn.same g2.ff) .nil)
            have t1 := t1.same (same_new (.lst [.ref l]) (g1.fh.free hm))
            generalize upd F1 m (.lst [.ref l]) = F2 at *
            generalize upd G1 m (.lst [.ref l]) = G2 at *
            refine cat_rows g2.fh t1 t2 (by rw [List.length_take]; show min i (R t.1).length + 1 ≤ 1000; omega) fun u3 F3 G3 g3 t3 => ?_
            have g3 := g2.trans g3
            refine ⟨_, rfl, _, rfl, _, rfl, sl_from g3.fh (tk.same g3.ff) fun u4 F4 G4 g4 t4 => ?_⟩
            refine cat_rows g4.fh (t3.same g4.ff) t4 (by rw [List.length_append, List.length_take, List.length_drop]; show min i (R t.1).length + 1 + ((R t.1).length - i) ≤ 1000; omega) fun u5 F5 G5 g5 t5 => ?_
            have g5 := g3.trans (g4.trans g5)
            have hne : (R t.1).take i ++ [zs] ++ (R t.1).drop i ≠ R t.1 := fun e => by
              have z := congrArg List.length e
              rw [List.length_append, List.length_append, List.length_take, List.length_drop] at z
              have y : min i (R t.1).length + 1 + ((R t.1).length - i) = (R t.1).length := z
              omega
            obtain ⟨e9, W⟩ := fin F5 G5 u5 _ (B8.grow g5) g5.ff t5 insR (by rw [List.length_append, List.length_append, List.length_take, List.length_drop]; show min i (R t.1).length + 1 + ((R t.1).length - i) ≤ 10; omega) hne
            exact ⟨_, rfl, _, rfl, D, _, rfl, .inl ⟨kv0, Sum.inr t.1, (B8.grow g5).fh _ _ e9, rfl, sz, rfl⟩, W _ _ _ rfl⟩
        · refine ⟨_, rfl, rfl, _, rfl, ifd (fun e3 => absurd (e2.symm.trans e3) (by decide)) fun e3 => ?_⟩
          -- a row more between
          have insR : ∀ r ∈ (R t.1).take i ++ [zs] ++ (R t.1).drop i, goodR t.2.length r := goodIns
          refine ⟨_, rfl, _, rfl, _, rfl, sl_to B8.fh tk fun u1 F1 G1 g1 t1 => ?_⟩
          refine ⟨_, rfl, (by show 1 ≤ sizeLine; decide), fun m hm => ?_⟩
          have g2 := g1.trans (Grow.new g1.fh (.lst [.ref l]) hm)
          have t2 : Tp (upd F1 m (.lst [.ref l])) (.ref m) (.list ([zs].map rowD)) := .lst upd_same (.cons (tn.same g2.ff) .nil)
          have t1 := t1.same (same_new (.lst [.ref l]) (g1.fh.free hm))
          generalize upd F1 m (.lst [.ref l]) = F2 at *
          generalize upd G1 m (.lst [.ref l]) = G2 at *
          refine cat_rows g2.fh t1 t2 (by rw [List.length_take]; show min i (R t.1).length + 1 ≤ 1000; omega) fun u3 F3 G3 g3 t3 => ?_
          have g3 := g2.trans g3
          refine ⟨_, rfl, _, rfl, _, rfl, sl_from g3.fh (tk.same g3.ff) fun u4 F4 G4 g4 t4 => ?_⟩
          refine cat_rows g4.fh (t3.same g4.ff) t4 (by rw [List.length_append, List.length_take, List.length_drop]; show min i (R t.1).length + 1 + ((R t.1).length - i) ≤ 1000; omega) fun u5 F5 G5 g5 t5 => ?_
          have g5 := g3.trans (g4.trans g5)
          have hne : (R t.1).take i ++ [zs] ++ (R t.1).drop i ≠ R t.1 := fun e => by
            have z := congrArg List.length e
            rw [List.length_append, List.length_append, List.length_take, List.length_drop] at z
            have y : min i (R t.1).length + 1 + ((R t.1).length - i) = (R t.1).length := z
            omega
          obtain ⟨e9, W⟩ := fin F5 G5 u5 _ (B8.grow g5) g5.ff t5 insR (by rw [List.length_append, List.length_append, List.length_take, List.length_drop]; show min i (R t.1).length + 1 + ((R t.1).length - i) ≤ 10; omega) hne
          exact ⟨_, rfl, _, rfl, D, _, rfl, .inl ⟨kv0, Sum.inr t.1, (B8.grow g5).fh _ _ e9, rfl, sz, rfl⟩, W _ _ _ rfl⟩
        · refine ⟨_, rfl, rfl, _, rfl, ifd (fun e3 => ⟨_, rfl, _, rfl, pl, ys, rfl, .inl (len8 B8), _, _, rfl, rfl, _, rfl, ifd (fun l3 => ?_) fun l3 => ?_⟩) fun e3 => ?_⟩
          · -- a value changed
            have i1 : i < (R t.1).length := by omega
            have ya : ys[i]? = some (ys[i]'(by omega)) := List.getElem?_eq_getElem _
            obtain ⟨da, ha, tda⟩ := tys8.at ya
            rw [List.getElem?_map, List.getElem?_eq_getElem i1] at ha
            cases ha
            generalize ys[i]'(by omega) = va at *
            obtain ⟨ar, rfl, har⟩ := row_inv tda
            have gr := rg _ (List.getElem_mem i1)
            obtain ⟨r, er⟩ : ∃ r, r = (R t.1)[i] := ⟨_, rfl⟩
            rw [← er] at tda har gr
            refine ⟨_, rfl, _, rfl, c, _, rfl, .inr (.inl (.inl (B8.fh _ _ hc8))), F8, b, _, rfl, by rw [List.length_map]; omega, by rw [List.length_map]; omega, B8, fun r9 H9 r90 r91 B9 => ?_⟩
            rw [List.length_map] at r91
            obtain ⟨f, rfl⟩ : ∃ f : Nat, r9 = (f : Int) := ⟨r9.toNat, by omega⟩
            have lr := gr.1
            have hf : f < r.length := by omega
            have av : (r.map V.int)[f]? = some (.int r[f]) := by rw [List.getElem?_map, List.getElem?_eq_getElem hf]; rfl
            have bv := gr.2 r[f] (List.getElem_mem hf)
            have len9 : ∀ {G9 : Hp}, Same F8 G9 → SqL K G9 pl ys := fun s => .inl (.inl (s _ _ hpl8))
            have row9 : ∀ {G9 : Hp}, Same F8 G9 → SqT K G9 ar (r.map V.int) := fun s => .inl (.inl (s _ _ har))
            refine ⟨_, rfl, _, rfl, ix_sq (.inl (len9 B9.fh)) (atI_nat ya) ⟨_, rfl, ix_sq (.inr (row9 B9.fh)) (atI_nat av) ⟨_, _, rfl, rfl, .inr ⟨_, rfl, _, _, rfl, rfl, .inl ⟨by decide, by decide⟩, _, _, rfl, rfl, ?_⟩⟩⟩⟩
            have bst : (-1000000000 ≤ r[f] + (1 - 2 * (if decide (r[f] > 0) = true then 1 else 0)) ∧ r[f] + (1 - 2 * (if decide (r[f] > 0) = true then 1 else 0)) ≤ 1000000000) ∧ r[f] + (1 - 2 * (if decide (r[f] > 0) = true then 1 else 0)) ≠ r[f] := by
              by_cases z : r[f] > 0
              · rw [decide_eq_true z, if_pos rfl]
                omega
              · rw [decide_eq_false z, if_neg Bool.false_ne_true]
                omega
            -- the value
            refine ⟨_, rfl, _, rfl, _, rfl, sl_to B9.fh tk fun u1 F1 G1 g1 t1 => ?_⟩
            refine ⟨_, rfl, _, rfl, ix_sq (.inl (len9 (g1.ff.trans g1.fh))) (atI_nat ya) ⟨_, rfl, _, rfl, sl_toI g1.fh (tda.same g1.ff) fun u2 F2 G2 g2 t2 => ?_⟩⟩
            have t1 := t1.same g2.ff
            have g2 := g1.trans g2
            refine ⟨_, rfl, _, rfl, ix_sq (.inl (len9 (g2.ff.trans g2.fh))) (atI_nat ya) ⟨_, rfl, ix_sq (.inr (row9 (g2.ff.trans g2.fh))) (atI_nat av) ⟨_, rfl, _, _, rfl, rfl, (by show 1 ≤ sizeLine; decide), fun m hm => ?_⟩⟩⟩
            have g3 := g2.trans (Grow.new g2.fh (.tup [.int (r[f] + (1 - 2 * (if decide (r[f] > 0) = true then 1 else 0)))]) hm)
            have t3 : Tp (upd F2 m (.tup [.int (r[f] + (1 - 2 * (if decide (r[f] > 0) = true then 1 else 0)))])) (.ref m) (rowD [r[f] + (1 - 2 * (if decide (r[f] > 0) = true then 1 else 0))]) := .tup upd_same (.cons (.int _) .nil)
            have s3 : Same F2 (upd F2 m (.tup [.int (r[f] + (1 - 2 * (if decide (r[f] > 0) = true then 1 else 0)))])) := same_new _ (g2.fh.free hm)
            have t2 := t2.same s3
            have t1 := t1.same s3
            obtain ⟨nv, env⟩ : ∃ nv, nv = r[f] + (1 - 2 * (if decide (r[f] > 0) = true then 1 else 0)) := ⟨_, rfl⟩
            rw [← env] at bst
            have t3 : Tp (upd F2 m (.tup [.int (r[f] + (1 - 2 * (if decide (r[f] > 0) = true then 1 else 0)))])) (.ref m) (rowD [nv]) := by rw [env]; exact t3
            refine cat_ints g3.fh t2 t3 (by rw [List.length_take]; show min f r.length + 1 ≤ 1000; omega) fun u4 F4 G4 g4 t4 => ?_
            have t1 := t1.same g4.ff
            have g4 := g3.trans g4
            refine ⟨_, rfl, _, rfl, ix_sq (.inl (len9 (g4.ff.trans g4.fh))) (atI_nat ya) ⟨_, rfl, _, _, rfl, rfl, _, rfl, sl_fromI (k := f + 1) g4.fh (tda.same g4.ff) fun u5 F5 G5 g5 t5 => ?_⟩⟩
            refine cat_ints g5.fh (t4.same g5.ff) t5 (by rw [List.length_append, List.length_take, List.length_drop]; show min f r.length + 1 + (r.length - (f + 1)) ≤ 1000; omega) fun u6 F6' G6 g6 t6 => ?_
            have t1 := (t1.same g5.ff).same g6.ff
            have g6 := g4.trans (g5.trans g6)
            refine ⟨(by show 1 ≤ sizeLine; decide), fun m2 hm2 => ?_⟩
            have s7 := same_new (.lst [u6]) (g6.fh.free hm2)
            have g7 := g6.trans (Grow.new g6.fh (.lst [u6]) hm2)
            have t7 : Tp (upd F6' m2 (.lst [u6])) (.ref m2) (.list ([r.take f ++ [nv] ++ r.drop (f + 1)].map rowD)) := .lst upd_same (.cons (t6.same s7) .nil)
            refine cat_rows g7.fh (t1.same s7) t7 (by rw [List.length_take]; show min i (R t.1).length + 1 ≤ 1000; omega) fun u8 F8' G8 g8 t8 => ?_
            have g8 := g7.trans g8
            refine ⟨_, rfl, _, rfl, _, _, rfl, rfl, _, rfl, sl_from (k := i + 1) g8.fh (tk.same g8.ff) fun u9 F9 G9 g9 t9 => ?_⟩
            refine cat_rows g9.fh (t8.same g9.ff) t9 (by rw [List.length_append, List.length_take, List.length_drop]; show min i (R t.1).length + 1 + ((R t.1).length - (i + 1)) ≤ 1000; omega) fun u10 F10 G10 g10 t10 => ?_
            have g10 := g8.trans (g9.trans g10)
            have gnew : goodR t.2.length (r.take f ++ [nv] ++ r.drop (f + 1)) := by
              refine ⟨?_, fun z m => ?_⟩
              · rw [List.length_append, List.length_append, List.length_take, List.length_drop]
                show min f r.length + 1 + (r.length - (f + 1)) = t.2.length
                omega
              · rcases List.mem_append.mp m with m | m
                · rcases List.mem_append.mp m with m | m
                  · exact gr.2 z (List.mem_of_mem_take m)
                  · rw [List.mem_singleton.mp m]
                    exact bst.1
                · exact gr.2 z (List.mem_of_mem_drop m)
            have rne : r.take f ++ [nv] ++ r.drop (f + 1) ≠ r := fun e => by
              have z := congrArg (fun l => l[f]?) e
              have y : (r.take f ++ [nv] ++ r.drop (f + 1))[f]? = some nv := by
                rw [List.append_assoc, List.getElem?_append_right (by rw [List.length_take]; omega), List.length_take, Nat.min_eq_left (by omega), Nat.sub_self]
                rfl
              have x : r[f]? = some r[f] := List.getElem?_eq_getElem _
              have w2 := (y.symm.trans z).trans x
              exact bst.2 (Option.some.inj w2)
            have hne : (R t.1).take i ++ [r.take f ++ [nv] ++ r.drop (f + 1)] ++ (R t.1).drop (i + 1) ≠ R t.1 := fun e => by
              have z := congrArg (fun l => l[i]?) e
              have y : ((R t.1).take i ++ [r.take f ++ [nv] ++ r.drop (f + 1)] ++ (R t.1).drop (i + 1))[i]? = some (r.take f ++ [nv] ++ r.drop (f + 1)) := by
                rw [List.append_assoc, List.getElem?_append_right (by rw [List.length_take]; omega), List.length_take, Nat.min_eq_left (by omega), Nat.sub_self]
                rfl
              have x : (R t.1)[i]? = some (R t.1)[i] := List.getElem?_eq_getElem _
              have w2 := (y.symm.trans z).trans x
              exact rne ((Option.some.inj w2).trans er.symm)
            obtain ⟨e9, W⟩ := fin F10 G10 u10 _ (B9.grow g10) g10.ff t10 (fun q m => by
              rcases List.mem_append.mp m with m | m
              · rcases List.mem_append.mp m with m | m
                · exact rg q (List.mem_of_mem_take m)
                · rw [List.mem_singleton.mp m]
                  exact gnew
              · exact rg q (List.mem_of_mem_drop m)) (by rw [List.length_append, List.length_append, List.length_take, List.length_drop]; show min i (R t.1).length + 1 + ((R t.1).length - (i + 1)) ≤ 10; omega) hne
            exact ⟨_, rfl, _, rfl, D, _, rfl, .inl ⟨kv0, Sum.inr t.1, (B9.grow g10).fh _ _ e9, rfl, sz, rfl⟩, W _ _ _ rfl⟩
          · skip
            -- a row more between
            have insR : ∀ r ∈ (R t.1).take i ++ [zs] ++ (R t.1).drop i, goodR t.2.length r := goodIns
            refine ⟨_, rfl, _, rfl, _, rfl, sl_to B8.fh tk fun u1 F1 G1 g1 t1 => ?_⟩
            refine ⟨_, rfl, (by show 1 ≤ sizeLine; decide), fun m hm => ?_⟩
            have g2 := g1.trans (Grow.new g1.fh (.lst [.ref l]) hm)
            have t2 : Tp (upd F1 m (.lst [.ref l])) (.ref m) (.list ([zs].map rowD)) := .lst upd_same (.cons (tn.same g2.ff) .nil)
            have t1 := t1.same (same_new (.lst [.ref l]) (g1.fh.free hm))
            generalize upd F1 m (.lst [.ref l]) = F2 at *
            generalize upd G1 m (.lst [.ref l]) = G2 at *
            refine cat_rows g2.fh t1 t2 (by rw [List.length_take]; show min i (R t.1).length + 1 ≤ 1000; omega) fun u3 F3 G3 g3 t3 => ?_
            have g3 := g2.trans g3
            refine ⟨_, rfl, _, rfl, _, rfl, sl_from g3.fh (tk.same g3.ff) fun u4 F4 G4 g4 t4 => ?_⟩
            refine cat_rows g4.fh (t3.same g4.ff) t4 (by rw [List.length_append, List.length_take, List.length_drop]; show min i (R t.1).length + 1 + ((R t.1).length - i) ≤ 1000; omega) fun u5 F5 G5 g5 t5 => ?_
            have g5 := g3.trans (g4.trans g5)
            have hne : (R t.1).take i ++ [zs] ++ (R t.1).drop i ≠ R t.1 := fun e => by
              have z := congrArg List.length e
              rw [List.length_append, List.length_append, List.length_take, List.length_drop] at z
              have y : min i (R t.1).length + 1 + ((R t.1).length - i) = (R t.1).length := z
              omega
            obtain ⟨e9, W⟩ := fin F5 G5 u5 _ (B8.grow g5) g5.ff t5 insR (by rw [List.length_append, List.length_append, List.length_take, List.length_drop]; show min i (R t.1).length + 1 + ((R t.1).length - i) ≤ 10; omega) hne
            exact ⟨_, rfl, _, rfl, D, _, rfl, .inl ⟨kv0, Sum.inr t.1, (B8.grow g5).fh _ _ e9, rfl, sz, rfl⟩, W _ _ _ rfl⟩
          · skip
            -- a row more between
            have insR : ∀ r ∈ (R t.1).take i ++ [zs] ++ (R t.1).drop i, goodR t.2.length r := goodIns
            refine ⟨_, rfl, _, rfl, _, rfl, sl_to B8.fh tk fun u1 F1 G1 g1 t1 => ?_⟩
            refine ⟨_, rfl, (by show 1 ≤ sizeLine; decide), fun m hm => ?_⟩
            have g2 := g1.trans (Grow.new g1.fh (.lst [.ref l]) hm)
            have t2 : Tp (upd F1 m (.lst [.ref l])) (.ref m) (.list ([zs].map rowD)) := .lst upd_same (.cons (tn.same g2.ff) .nil)
            have t1 := t1.same (same_new (.lst [.ref l]) (g1.fh.free hm))
            generalize upd F1 m (.lst [.ref l]) = F2 at *
            generalize upd G1 m (.lst [.ref l]) = G2 at *
            refine cat_rows g2.fh t1 t2 (by rw [List.length_take]; show min i (R t.1).length + 1 ≤ 1000; omega) fun u3 F3 G3 g3 t3 => ?_
            have g3 := g2.trans g3
            refine ⟨_, rfl, _, rfl, _, rfl, sl_from g3.fh (tk.same g3.ff) fun u4 F4 G4 g4 t4 => ?_⟩
            refine cat_rows g4.fh (t3.same g4.ff) t4 (by rw [List.length_append, List.length_take, List.length_drop]; show min i (R t.1).length + 1 + ((R t.1).length - i) ≤ 1000; omega) fun u5 F5 G5 g5 t5 => ?_
            have g5 := g3.trans (g4.trans g5)
            have hne : (R t.1).take i ++ [zs] ++ (R t.1).drop i ≠ R t.1 := fun e => by
              have z := congrArg List.length e
              rw [List.length_append, List.length_append, List.length_take, List.length_drop] at z
              have y : min i (R t.1).length + 1 + ((R t.1).length - i) = (R t.1).length := z
              omega
            obtain ⟨e9, W⟩ := fin F5 G5 u5 _ (B8.grow g5) g5.ff t5 insR (by rw [List.length_append, List.length_append, List.length_take, List.length_drop]; show min i (R t.1).length + 1 + ((R t.1).length - i) ≤ 10; omega) hne
            exact ⟨_, rfl, _, rfl, D, _, rfl, .inl ⟨kv0, Sum.inr t.1, (B8.grow g5).fh _ _ e9, rfl, sz, rfl⟩, W _ _ _ rfl⟩
    · rintro σ' H9 ⟨v8, v11, Fk, rs, rfl, sk, B9, rs9, g9, l9, n9⟩
      refine ⟨_, rfl, k D Fk H9 (setR R t.1 rs) B9 sk rs9 (rok_set ok mt rok (by omega) l9 g9) ?_⟩
      unfold sameR
      rw [List.all_eq_false]
      refine ⟨t, mt, fun z => n9 ?_⟩
      have y := of_decide_eq_true z
      unfold setR at y
      rw [if_pos rfl] at y
      exact y.symm
end
end Fm

/-! ## K04Z -/
set_option Elab.async false
set_option maxRecDepth 100000
set_option maxHeartbeats 4000000
namespace Fm
open PySem L2
theorem isNm_8 {s : Str} (h : isNm s = true) : s.length ≤ 9 := by
  unfold isNm at h
  simp only [Bool.and_eq_true, decide_eq_true_eq] at h
  omega
theorem strs_bd : ∀ {fs : List Str}, (∀ f ∈ fs, isNm f = true) → depL (fs.map PyData.str) = 0 ∧ sizL (fs.map PyData.str) = fs.length ∧ mstL (fs.map PyData.str) ≤ 9
  | [], _ => ⟨rfl, rfl, Nat.zero_le _⟩
  | f :: fs, h => by
    obtain ⟨h1, h2, h3⟩ := strs_bd fun g m => h g (List.mem_cons_of_mem _ m)
    have z := isNm_8 (h f List.mem_cons_self)
    refine ⟨?_, ?_, ?_⟩
    · show max 0 (depL (fs.map PyData.str)) = 0
      omega
    · show 1 + sizL (fs.map PyData.str) = fs.length + 1
      omega
    · show max f.length (mstL (fs.map PyData.str)) ≤ 9
      omega
theorem tab_bd {t : Tab} (h : TOk t) : dep (tabD false t) ≤ 2 ∧ siz (tabD false t) ≤ 7 ∧ mst (tabD false t) ≤ 9 := by
  obtain ⟨h1, h2, h3⟩ := strs_bd h.fs.nm
  have z := isNm_8 h.nm
  have l := h.fs.hi
  refine ⟨?_, ?_, ?_⟩
  · show 1 + max 0 (max (1 + depL (t.2.map PyData.str)) 0) ≤ 2
    omega
  · show 1 + (1 + ((1 + sizL (t.2.map PyData.str)) + 0)) ≤ 7
    omega
  · show max t.1.length (max (mstL (t.2.map PyData.str)) 0) ≤ 9
    omega
theorem tabs_bd : ∀ {ts : List Tab}, (∀ t ∈ ts, TOk t) → depL (ts.map (tabD false)) ≤ 2 ∧ sizL (ts.map (tabD false)) ≤ 7 * ts.length ∧ mstL (ts.map (tabD false)) ≤ 9
  | [], _ => ⟨Nat.zero_le _, Nat.zero_le _, Nat.zero_le _⟩
  | t :: ts, h => by
    obtain ⟨h1, h2, h3⟩ := tabs_bd fun u m => h u (List.mem_cons_of_mem _ m)
    obtain ⟨g1, g2, g3⟩ := tab_bd (h t List.mem_cons_self)
    refine ⟨?_, ?_, ?_⟩
    · show max (dep (tabD false t)) (depL (ts.map (tabD false))) ≤ 2
      omega
    · show siz (tabD false t) + sizL (ts.map (tabD false)) ≤ 7 * (ts.length + 1)
      omega
    · show max (mst (tabD false t)) (mstL (ts.map (tabD false))) ≤ 9
      omega
theorem ts_bd {ts : List Tab} (ok : TsOk ts) : dep (.list (ts.map (tabD false))) ≤ 3 ∧ siz (.list (ts.map (tabD false))) ≤ 36 ∧ mst (.list (ts.map (tabD false))) ≤ 9 := by
  obtain ⟨h1, h2, h3⟩ := tabs_bd ok.ok
  have l := ok.hi
  refine ⟨?_, ?_, h3⟩
  · show 1 + depL (ts.map (tabD false)) ≤ 3
    omega
  · show 1 + sizL (ts.map (tabD false)) ≤ 36
    omega
theorem strsD_map : ∀ fs : List Str, strsD (fs.map PyData.str) = fs
  | [] => rfl
  | f :: fs => by
    show f :: strsD (fs.map PyData.str) = f :: fs
    rw [strsD_map fs]
theorem tab_ok {t : Tab} (h : TOk t) : tableD (tabD false t) = true := by
  show (isNm t.1 && nmsD 1 4 (.tuple (t.2.map PyData.str))) = true
  rw [h.nm]
  have l1 := h.fs.lo
  have l2 := h.fs.hi
  have e : (partsD (PyData.tuple (t.2.map PyData.str))) = t.2.map PyData.str := rfl
  unfold nmsD rowD3
  rw [e, List.length_map, strsD_map, decide_eq_true (p := (1 : Int) ≤ ((t.2.length : Nat) : Int)) (by omega), decide_eq_true (p := ((t.2.length : Nat) : Int) ≤ 4) (by omega), decide_eq_true h.fs.nd]
  have z : (t.2.map PyData.str).all isNmD = true := by
    rw [List.all_map, List.all_eq_true]
    exact fun f m => h.fs.nm f m
  rw [z]
  rfl
theorem first_tabs : ∀ {ts : List Tab} {names : List Str}, (∀ t ∈ ts, TOk t) → (names ++ ts.map (·.1)).Nodup → firstBadT names (ts.map (tabD false)) = none
  | [], _, _, _ => rfl
  | t :: ts, names, h, nd => by
    have no : t.1 ∉ names := fun m => by
      rw [List.nodup_append] at nd
      exact nd.2.2 t.1 m t.1 List.mem_cons_self rfl
    rw [List.map_cons, first_ok (tab_ok (h t List.mem_cons_self)) no]
    have z := first_tabs (names := names ++ [nameT (tabD false t)]) (fun u m => h u (List.mem_cons_of_mem _ m)) (by
      show ((names ++ [t.1]) ++ ts.map (·.1)).Nodup
      rw [List.append_assoc]
      exact nd)
    rw [z]
    rfl
theorem shape_ok {ts : List Tab} (ok : TsOk ts) : shapeBad (.list (ts.map (tabD false))) = none := by
  have l1 := ok.lo
  have l2 := ok.hi
  have r : rowD3 1 5 (.list (ts.map (tabD false))) = true := by
    unfold rowD3
    rw [show (partsD (PyData.list (ts.map (tabD false)))) = ts.map (tabD false) from rfl, List.length_map, decide_eq_true (p := (1 : Int) ≤ ((ts.length : Nat) : Int)) (by omega), decide_eq_true (p := ((ts.length : Nat) : Int) ≤ 5) (by omega)]
    rfl
  unfold shapeBad
  rw [if_pos r, show (partsD (PyData.list (ts.map (tabD false)))) = ts.map (tabD false) from rfl, first_tabs ok.ok (by rw [List.nil_append]; exact ok.nd)]
  rfl
theorem strs_tupd : ∀ fs : List Str, (fs.map PyData.str).map tupd = fs.map PyData.str
  | [] => rfl
  | f :: fs => by
    show PyData.str f :: (fs.map PyData.str).map tupd = _
    rw [strs_tupd fs]
    rfl
theorem tab_tupd (t : Tab) : tupd (tabD false t) = tabD false t := by
  rw [tupd_parts rfl]
  show PyData.tuple [.str t.1, tupd (.tuple (t.2.map PyData.str))] = _
  rw [tupd_parts rfl]
  show PyData.tuple [.str t.1, .tuple ((t.2.map PyData.str).map tupd)] = _
  rw [strs_tupd]
  rfl
theorem tabs_tupd {ts : List Tab} : tupd (.list (ts.map (tabD false))) = tsD ts := by
  rw [tupd_parts rfl]
  show PyData.tuple ((ts.map (tabD false)).map tupd) = .tuple (ts.map (tabD false))
  rw [List.map_map]
  exact congrArg PyData.tuple (List.map_congr_left fun t _ => tab_tupd t)
theorem grow_with {F H F' H' : Hp} {rd : Addr} {o : HO} (g : Grow F H F' H') (f : F rd = none) (h : H rd = some o) : Grow (upd F rd o) H (upd F' rd o) H' := by
  obtain ⟨z1, z2⟩ := g.hh rd o f h
  refine ⟨same_upd g.ff rd o, fun a u e => ?_, fun a u e1 e2 => ?_⟩
  · by_cases q : a = rd
    · rw [q, upd_same] at e
      rw [q, z2]
      exact e
    · rw [upd_ne q] at e
      exact g.fh _ _ e
  · have n : a ≠ rd := fun q => by
      rw [q, upd_same] at e1
      cases e1
    rw [upd_ne n] at e1 ⊢
    exact g.hh a u e1 e2
/-! ### the rows that are drawn -/
theorem pick_r {P : Tab → List (List Int) → Prop} : ∀ {ts : List Tab}, (ts.map (·.1)).Nodup → (∀ t ∈ ts, ∃ d, P t d) → ∃ g : Str → List (List Int), ∀ t ∈ ts, P t (g t.1)
  | [], _, _ => ⟨fun _ => [], fun _ m => by cases m⟩
  | t :: ts, nd, h => by
    rw [List.map_cons, List.nodup_cons] at nd
    obtain ⟨d, hd⟩ := h t List.mem_cons_self
    obtain ⟨g, hg⟩ := pick_r nd.2 fun u m => h u (List.mem_cons_of_mem _ m)
    refine ⟨fun n => if n = t.1 then d else g n, fun u m => ?_⟩
    rcases List.mem_cons.mp m with rfl | m
    · show P _ (if _ then _ else _)
      rw [if_pos rfl]
      exact hd
    · have ne : u.1 ≠ t.1 := fun e => nd.1 (by rw [← e]; exact List.mem_map.mpr ⟨u, m, rfl⟩)
      show P u (if u.1 = t.1 then d else g u.1)
      rw [if_neg ne]
      exact hg u m
theorem rows_ints {w : Nat} : ∀ {R : List PyData}, (∀ r ∈ R, RowOk w r) → ∃ rs : List (List Int), R = rs.map rowD ∧ rs.length = R.length ∧ ∀ r ∈ rs, goodR w r
  | [], _ => ⟨[], rfl, rfl, fun _ m => by cases m⟩
  | r :: R, h => by
    obtain ⟨zs, e, l, v⟩ := h r List.mem_cons_self
    obtain ⟨rs, e2, l2, g⟩ := rows_ints fun s m => h s (List.mem_cons_of_mem _ m)
    refine ⟨zs :: rs, by rw [e, e2]; rfl, by rw [List.length_cons, l2]; rfl, fun s m => ?_⟩
    rcases List.mem_cons.mp m with rfl | m
    · exact ⟨l, v⟩
    · exact g s m
theorem gL_tupd (R : Str → List (List Int)) : (fun n => tupd (gL R n)) = gT R := funext fun n => list_tupd (R n)
/-! ### stores are made -/
theorem ShT.cutD {CS : Addr} {F : Hp} {x h : Addr} {ts : List Tab} {l : List (Key × V)} (s : ShT CS F x (tsD ts)) (e : F h = some (.dK l)) : ShT CS (cut F h) x (tsD ts) := by
  obtain ⟨dx, v, h1, h2⟩ := s
  exact ⟨dx, v, by rw [cut_ne fun z => by rw [z, e] at h1; cases h1]; exact h1, h2.cutD e (noD_tabs ts)⟩
theorem RsAt.congr {F : Hp} {rd : Addr} {ts : List Tab} {g h : Str → PyData} (r : RsAt F rd ts g) (e : ∀ t ∈ ts, g t.1 = h t.1) : RsAt F rd ts h := by
  obtain ⟨kvs, h1, h2, h3⟩ := r
  exact ⟨kvs, h1, h2, fun t m => by obtain ⟨v, q1, q2⟩ := h3 t m; exact ⟨v, q1, by rw [← e t m]; exact q2⟩⟩
theorem StNew.congr {CS CT : Addr} {H F : Hp} {a : Addr} {ts : List Tab} {g h : Str → PyData} (s : StNew CS CT H F a ts g) (e : ∀ t ∈ ts, g t.1 = h t.1) : StNew CS CT H F a ts h := by
  obtain ⟨h0, dx, sh, rd, h1, h2, h3, h4⟩ := s
  exact ⟨h0, dx, sh, rd, h1, h2, h3, h4.congr e⟩
theorem dict_make {CS CT CR : Addr} {F H : Hp} {b x2 dx2 x rd : Addr} {us : List Tab} {kvs : List (Key × V)} {g : Str → PyData} {S : Str → List (List Int)} {RR : Hp → Prop} {E : XK} (B : Bag F H b) (shA : ShT CS F x (tsD us)) (ok : TsOk us) (at_ : F rd = some (.dK kvs)) (len : kvs.length ≤ 100)
    (key : ∀ k ∈ kvs.map (·.1), ∃ t ∈ us, (Sum.inr t.1 : Key) = k) (ex : ∀ t ∈ us, (∃ v, valV kvs (Sum.inr t.1) = some v ∧ Tp (cut F rd) v (g t.1)) ∨ (valV kvs (Sum.inr t.1) = none ∧ g t.1 = .tuple [])) (sz : ∀ t ∈ us, siz (g t.1) ≤ 100000) (dp : ∀ t ∈ us, dep (g t.1) < 40)
    (bad : firstBad g us = none) (tot : total g us ≤ 300) (tu : ∀ t ∈ us, tupd (g t.1) = gT S t.1) (nx : H x2 = none) (nd : H dx2 = none) (ne : dx2 ≠ x2) (k : ∀ G' F' H', Grow (cut F rd) F G' F' → Bag F' H' b → StNew CS CT H G' x2 us (gT S) → RR H') :
    spStInit CS CT CR [.ref x2, .ref x, .ref rd] (upd (upd H dx2 (.own x2)) x2 (.ins CT dx2 [])) (fun z H' => z = .non ∧ RR H') E := by
  have sc : Same (cut F rd) F := cut_sub
  refine store_make (F0 := cut F rd) (sc.trans B.fh) (shA.cutD at_) ok ⟨B.fh _ _ at_, cut_at, len, key, ex, sz, dp⟩ nx nd ne (fun t i e => by rw [bad] at e; cases e) fun _ => ⟨tot, fun F' H' gr st => ?_⟩
  obtain ⟨F2, g2, B2⟩ := gr.under sc B
  exact k F' F2 H' g2 B2 (st.congr tu)
theorem first_none_all {g : Str → PyData} {ts : List Tab} (h : ∀ t ∈ ts, firstD t.2.length (g t.1) = none) : firstBad g ts = none := by
  unfold firstBad
  rw [List.findSome?_eq_none_iff]
  intro t m
  rw [h t m]
  rfl
theorem total_60 {h : Str → PyData} {ts : List Tab} (ok : TsOk ts) (k : ∀ t ∈ ts, (partsD (h t.1)).length ≤ 60) : total h ts ≤ 300 := by
  have z := total_le (h := h) (ts := ts) (N := 60) k
  have y := ok.hi
  omega
/-- a store of rows as lists or tuples -/
theorem loose_make {CS CT CR : Addr} {G F H : Hp} {b x2 dx2 x hd : Addr} {ts : List Tab} {kvs : List (Key × V)} {R : Str → List (List Int)} {N : Nat} {RR : Hp → Prop} {E : XK} (B : Bag F H b) (shA : ShT CS F x (tsD ts)) (ok : TsOk ts) (at_ : F hd = some (.dK kvs)) (lk : LKv G F ts R kvs)
    (rest : ∀ t ∈ ts, (Sum.inr t.1 : Key) ∉ kvs.map (·.1) → R t.1 = []) (rok : Rok ts R N) (hN : N ≤ 60) (nx : H x2 = none) (nd : H dx2 = none) (ne : dx2 ≠ x2) (k : ∀ G' F' H', Grow (cut F hd) F G' F' → Bag F' H' b → StNew CS CT H G' x2 ts (gT R) → RR H') :
    spStInit CS CT CR [.ref x2, .ref x, .ref hd] (upd (upd H dx2 (.own x2)) x2 (.ins CT dx2 [])) (fun z H' => z = .non ∧ RR H') E := by
  obtain ⟨g, hg⟩ := pick_g (P := fun t d => ((∃ v, valV kvs (Sum.inr t.1) = some v ∧ Tp (cut F hd) v d) ∨ (valV kvs (Sum.inr t.1) = none ∧ d = .tuple [])) ∧ looseD (R t.1) d) ok.nd fun t mt => by
    cases q : valV kvs (Sum.inr t.1) with
    | some v =>
      have z : ∃ kv ∈ kvs, kv.1 = Sum.inr t.1 ∧ kv.2 = v := by
        unfold valV at q
        obtain ⟨kv, h1, h2⟩ := Option.map_eq_some_iff.mp q
        exact ⟨kv, List.mem_of_find?_eq_some h1, by simpa using List.find?_some h1, h2⟩
      obtain ⟨kv, m, e1, e2⟩ := z
      obtain ⟨u, mu, e3, lo⟩ := lk.ex kv m
      have eu : u = t := tab_eq ok.nd mt mu (Sum.inr.inj (e3.symm.trans e1))
      subst eu
      rw [e2] at lo
      obtain ⟨d, h1, h2⟩ := (lo.cutD at_).data
      exact ⟨d, .inl ⟨v, rfl, h1⟩, h2⟩
    | none =>
      have no : (Sum.inr t.1 : Key) ∉ kvs.map (·.1) := fun m => by
        obtain ⟨kv, m2, e⟩ := List.mem_map.mp m
        unfold valV at q
        rw [Option.map_eq_none_iff, List.find?_eq_none] at q
        exact q kv m2 (by simp [e])
      refine ⟨.tuple [], .inr ⟨rfl, rfl⟩, [], .inr rfl, ?_⟩
      rw [rest t mt no]
      exact .nil
  have bd : ∀ t ∈ ts, siz (g t.1) ≤ 400 ∧ dep (g t.1) ≤ 2 ∧ (partsD (g t.1)).length = (R t.1).length := fun t m => (hg t m).2.bd (rok t m).2 (ok.ok t m).fs.hi (by have z := (rok t m).1; omega)
  refine dict_make B shA ok at_ (by have z := lk.len; omega) (fun kk m => ?_) (fun t m => (hg t m).1) (fun t m => by have z := (bd t m).1; omega) (fun t m => by have z := (bd t m).2.1; omega) (first_none_all fun t m => (hg t m).2.first (rok t m).2) (total_60 ok fun t m => by have z := (bd t m).2.2; have y := (rok t m).1; omega) (fun t m => (hg t m).2.tup) nx nd ne k
  obtain ⟨kv, m2, rfl⟩ := List.mem_map.mp m
  obtain ⟨t, mt, e, _⟩ := lk.ex kv m2
  exact ⟨t, mt, e.symm⟩
/-- a store of a dict with all tables or, of more tables, some -/
theorem full_make {CS CT CR : Addr} {F H : Hp} {b x2 dx2 x rd : Addr} {ts us : List Tab} {R S : Str → List (List Int)} {N : Nat} {RR : Hp → Prop} {E : XK} (B : Bag F H b) (shA : ShT CS F x (tsD us)) (ok : TsOk us) (rsA : RsAt F rd ts (gL R)) (sub : ∀ t ∈ ts, t ∈ us) (rok : Rok ts R N) (hN : N ≤ 60)
    (lts : ts.length ≤ 5) (S1 : ∀ t ∈ ts, S t.1 = R t.1) (S2 : ∀ t ∈ us, t ∉ ts → t.1 ∉ ts.map (·.1) ∧ S t.1 = []) (nx : H x2 = none) (nd : H dx2 = none) (ne : dx2 ≠ x2) (k : ∀ G' F' H', Grow (cut F rd) F G' F' → Bag F' H' b → StNew CS CT H G' x2 us (gT S) → RR H') :
    spStInit CS CT CR [.ref x2, .ref x, .ref rd] (upd (upd H dx2 (.own x2)) x2 (.ins CT dx2 [])) (fun z H' => z = .non ∧ RR H') E := by
  obtain ⟨kvs, h1, ek, val⟩ := rsA
  obtain ⟨g, hg⟩ := pick_g (P := fun t d => (t ∈ ts ∧ d = gL R t.1) ∨ (t ∉ ts ∧ d = .tuple [])) ok.nd fun t mt => by
    by_cases q : t ∈ ts
    · exact ⟨_, .inl ⟨q, rfl⟩⟩
    · exact ⟨_, .inr ⟨q, rfl⟩⟩
  have bd : ∀ t ∈ us, siz (g t.1) ≤ 400 ∧ dep (g t.1) ≤ 2 ∧ (partsD (g t.1)).length ≤ 60 := fun t m => by
    rcases hg t m with ⟨q, e⟩ | ⟨q, e⟩
    · rw [e]
      obtain ⟨l, gg⟩ := rok t q
      obtain ⟨z1, z2⟩ := rows_sz gg
      have lf := (ok.ok t m).fs.hi
      have z : (1 + t.2.length) * (R t.1).length ≤ 5 * 60 := Nat.mul_le_mul (by omega) (by omega)
      refine ⟨?_, ?_, ?_⟩
      · show 1 + sizL ((R t.1).map rowD) ≤ 400
        omega
      · show 1 + depL ((R t.1).map rowD) ≤ 2
        omega
      · show ((R t.1).map rowD).length ≤ 60
        rw [List.length_map]
        omega
    · rw [e]
      exact ⟨by decide, by decide, Nat.zero_le _⟩
  refine dict_make (g := g) B shA ok h1 ?_ (fun kk m => ?_) (fun t m => ?_) (fun t m => by have z := (bd t m).1; omega) (fun t m => by have z := (bd t m).2.1; omega) (first_none_all fun t m => ?_) (total_60 ok fun t m => (bd t m).2.2) (fun t m => ?_) nx nd ne k
  · have z := congrArg List.length ek
    rw [List.length_map, List.length_map] at z
    omega
  · rw [ek] at m
    obtain ⟨t, mt, e⟩ := List.mem_map.mp m
    exact ⟨t, sub t mt, e⟩
  · rcases hg t m with ⟨q, e⟩ | ⟨q, e⟩
    · obtain ⟨v, v1, v2⟩ := val t q
      rw [e]
      exact .inl ⟨v, v1, v2.cutD h1 (noD_L R _)⟩
    · refine .inr ⟨?_, e⟩
      unfold valV
      rw [Option.map_eq_none_iff, List.find?_eq_none]
      intro kv mk e2
      have e3 : kv.1 = Sum.inr t.1 := by simpa using e2
      have e4 : kv.1 ∈ kvs.map (·.1) := List.mem_map.mpr ⟨kv, mk, rfl⟩
      rw [ek, e3] at e4
      obtain ⟨u, mu, eu⟩ := List.mem_map.mp e4
      exact (S2 t m q).1 (List.mem_map.mpr ⟨u, mu, Sum.inr.inj eu⟩)
  · rcases hg t m with ⟨q, e⟩ | ⟨q, e⟩
    · rw [e]
      show (firstWrong t.2.length ((R t.1).map rowD)).map Int.ofNat = none
      rw [firstD_rows (rok t q).2]
      rfl
    · rw [e]
      rfl
  · rcases hg t m with ⟨q, e⟩ | ⟨q, e⟩
    · rw [e]
      show tupd (.list ((R t.1).map rowD)) = .tuple ((S t.1).map rowD)
      rw [list_tupd, S1 t q]
    · rw [e]
      show tupd (.tuple []) = .tuple ((S t.1).map rowD)
      rw [(S2 t m q).2]
      rfl
/-! ### without the lists -/
def noLst (F : Hp) : Hp := fun a => match F a with
  | some (.lst _) => none
  | o => o
theorem noLst_sub {F : Hp} : Same (noLst F) F := fun a o e => by
  unfold noLst at e
  cases q : F a with
  | none => rw [q] at e; cases e
  | some u =>
    rw [q] at e
    cases u <;> first | exact e | cases e
theorem noLst_of {F : Hp} {a : Addr} {o : HO} (h : F a = some o) (n : ∀ l, o ≠ .lst l) : noLst F a = some o := by
  unfold noLst
  rw [h]
  cases o <;> first | rfl | exact absurd rfl (n _)
theorem noLst_lst {F : Hp} {a : Addr} {l : List V} (h : F a = some (.lst l)) : noLst F a = none := by
  unfold noLst
  rw [h]
mutual
theorem Tp.noLst {F : Hp} : ∀ {d : PyData} {v : V}, Tp F v d → noL d = true → Tp (noLst F) v d
  | .none, _, h, _ => by cases h; exact .non
  | .bool b, _, h, _ => by cases h; exact .bl b
  | .int i, _, h, _ => by cases h; exact .int i
  | .str x, _, h, _ => by cases h; exact .str x
  | .list ds, _, _, n => by cases n
  | .dict _, _, _, n => by cases n
  | .tuple ds, _, t, n => by
    cases t with
    | tup hs ha => exact .tup (noLst_of hs fun _ z => nomatch z) (TpAll.noLst ha n)
theorem TpAll.noLst {F : Hp} : ∀ {ds : List PyData} {vs : List V}, TpAll F vs ds → noLs ds = true → TpAll (noLst F) vs ds
  | [], _, h, _ => by cases h; exact .nil
  | d :: ds, _, t, n => by
    cases t with
    | cons h1 h2 =>
      have n' : (noL d && noLs ds) = true := n
      rw [Bool.and_eq_true] at n'
      exact .cons (Tp.noLst h1 n'.1) (TpAll.noLst h2 n'.2)
end
theorem StNew.noLst {CS CT : Addr} {H F : Hp} {a : Addr} {ts : List Tab} {R : Str → List (List Int)} (s : StNew CS CT H F a ts (gT R)) : StAt CS CT (noLst F) a ts (gT R) := by
  obtain ⟨_, dx, sh, rd, _, h1, ⟨dy, v, h2, h3⟩, kvs, h4, h5, h6⟩ := s
  exact ⟨dx, sh, rd, noLst_of h1 (fun _ z => nomatch z), ⟨dy, v, noLst_of h2 (fun _ z => nomatch z), h3.noLst (noL_tabs ts)⟩, kvs, noLst_of h4 (fun _ z => nomatch z), h5, fun t m => by
    obtain ⟨y, q1, q2⟩ := h6 t m
    exact ⟨y, q1, q2.noLst (noL_rows R _)⟩⟩
/-! ### what was handed in is changed -/
def MR (G F : Hp) (n : Nat) (u : V) : Prop := ∃ a, u = .ref a ∧ ((G a = none ∧ ∃ zs : List Int, zs ≠ [] ∧ zs.length ≤ n ∧ F a = some (.lst (zs.map V.int))) ∨ ∃ ws, F a = some (.tup ws))
def MC (G F : Hp) (n : Nat) (v : V) : Prop := ∃ c us, v = .ref c ∧ (F c = some (.lst us) ∨ F c = some (.tup us)) ∧ us.length ≤ 60 ∧ ∀ u ∈ us, MR G F n u
section
variable {G F : Hp} {n : Nat}
theorem MR.put {a : Addr} {zs ws : List Int} {u : V} (h : MR G F n u) (ha : F a = some (.lst (zs.map V.int))) (hw : ws ≠ []) (lw : ws.length ≤ n + 1) : MR G (upd F a (.lst (ws.map V.int))) (n + 1) u := by
  obtain ⟨b, rfl, ⟨g, ys, y1, y2, y3⟩ | ⟨ys, y3⟩⟩ := h
  · refine ⟨b, rfl, .inl ⟨g, ?_⟩⟩
    by_cases q : b = a
    · rw [q]
      exact ⟨ws, hw, lw, upd_same⟩
    · exact ⟨ys, y1, by omega, by rw [upd_ne q]; exact y3⟩
  · refine ⟨b, rfl, .inr ⟨ys, ?_⟩⟩
    rw [upd_ne fun q => by rw [q, ha] at y3; cases y3]
    exact y3
theorem MC.ne {c a : Addr} {us : List V} {zs : List Int} (hu : ∀ u ∈ us, MR G F n u) (hc : F c = some (.lst us)) (ha : F a = some (.lst (zs.map V.int))) (hz : zs ≠ []) : c ≠ a := fun q => by
  rw [q, ha] at hc
  cases hc
  cases zs with
  | nil => exact hz rfl
  | cons z zs =>
    obtain ⟨b, e, _⟩ := hu (V.int z) (by simp)
    cases e
theorem MC.put {a : Addr} {zs ws : List Int} {v : V} (h : MC G F n v) (ha : F a = some (.lst (zs.map V.int))) (hz : zs ≠ []) (hw : ws ≠ []) (lw : ws.length ≤ n + 1) : MC G (upd F a (.lst (ws.map V.int))) (n + 1) v := by
  obtain ⟨c, us, rfl, hc, l, hu⟩ := h
  refine ⟨c, us, rfl, ?_, l, fun u m => (hu u m).put ha hw lw⟩
  rcases hc with hc | hc
  · exact .inl (by rw [upd_ne (MC.ne hu hc ha hz)]; exact hc)
  · exact .inr (by rw [upd_ne fun q => by rw [q, ha] at hc; cases hc]; exact hc)
theorem MR.up {m : Nat} {u : V} (h : MR G F n u) (l : n ≤ m) : MR G F m u := by
  obtain ⟨b, e, ⟨g, ys, y1, y2, y3⟩ | y⟩ := h
  · exact ⟨b, e, .inl ⟨g, ys, y1, by omega, y3⟩⟩
  · exact ⟨b, e, .inr y⟩
theorem MC.up {m : Nat} {u : V} (h : MC G F n u) (l : n ≤ m) : MC G F m u := by
  obtain ⟨c, us, rfl, hc, l2, hu⟩ := h
  exact ⟨c, us, rfl, hc, l2, fun u m => (hu u m).up l⟩
theorem MR.away {h : Addr} {o : HO} {u : V} (m : MR G F n u) (e : ∀ a o2, F a = some o2 → (∃ l, o2 = .lst l) ∨ (∃ l, o2 = .tup l) → a ≠ h) : MR G (upd F h o) n u := by
  obtain ⟨b, rfl, ⟨g, ys, y1, y2, y3⟩ | ⟨ys, y3⟩⟩ := m
  · exact ⟨b, rfl, .inl ⟨g, ys, y1, y2, by rw [upd_ne (e b _ y3 (.inl ⟨_, rfl⟩))]; exact y3⟩⟩
  · exact ⟨b, rfl, .inr ⟨ys, by rw [upd_ne (e b _ y3 (.inr ⟨_, rfl⟩))]; exact y3⟩⟩
theorem MC.away {h : Addr} {o : HO} {u : V} (m : MC G F n u) (e : ∀ a o2, F a = some o2 → (∃ l, o2 = .lst l) ∨ (∃ l, o2 = .tup l) → a ≠ h) : MC G (upd F h o) n u := by
  obtain ⟨c, us, rfl, hc, l2, hu⟩ := m
  refine ⟨c, us, rfl, hc.imp (fun z => ?_) (fun z => ?_), l2, fun u m => (hu u m).away e⟩
  · rw [upd_ne (e c _ z (.inl ⟨_, rfl⟩))]
    exact z
  · rw [upd_ne (e c _ z (.inr ⟨_, rfl⟩))]
    exact z
end
theorem Loose.mc {G F : Hp} {v : V} {R : List (List Int)} {w : Nat} (h : Loose G F v R) (g : ∀ r ∈ R, goodR w r) (hw : 1 ≤ w) (hw2 : w ≤ 4) (l : R.length ≤ 60) : MC G F 4 v := by
  obtain ⟨c, us, rfl, hc, hu⟩ := h
  refine ⟨c, us, rfl, hc.imp (fun z => z.2) id, by rw [hu.len]; exact l, ?_⟩
  clear hc l
  induction hu with
  | nil => intro u m; cases m
  | @cons v vs r R h1 _ ih =>
    intro u m
    rcases List.mem_cons.mp m with rfl | m
    · obtain ⟨a, rfl, ha⟩ := h1
      have z := (g r List.mem_cons_self).1
      refine ⟨a, rfl, ha.imp (fun y => ⟨y.1, r, fun e => by rw [e] at z; exact absurd z (by show ¬ 0 = w; omega), by omega, y.2⟩) fun y => ⟨_, y⟩⟩
    · exact ih (fun s ms => g s (List.mem_cons_of_mem _ ms)) u m
end Fm

/-! ## K04O -/
set_option Elab.async false
set_option maxRecDepth 100000
set_option maxHeartbeats 16000000
namespace Fm
open PySem L2
theorem Same.uni_l {N M H : Hp} (h : Same N H) (g : Same M H) : Same (uni N M) H := fun a o e => by
  rcases uni_or e with e | ⟨_, e⟩
  · exact h _ _ e
  · exact g _ _ e
theorem uni_agree {N M H : Hp} (h : Same N H) (g : Same M H) : Same M (uni N M) := fun a o e => by
  cases q : N a with
  | some u =>
    have z := h _ _ q
    rw [g _ _ e] at z
    rw [Fm.uni_l q]
    exact z.symm
  | none =>
    rw [uni_r q]
    exact e
theorem sameR_refl (ts : List Tab) (R : Str → List (List Int)) : sameR ts R R = true := by
  unfold sameR
  rw [List.all_eq_true]
  intro t _
  exact decide_eq_true rfl
theorem ty_mem (d : PyData) : tyD d ∈ ["NoneType", "bool", "int", "str", "list", "tuple", "dict"] := by cases d <;> simp [tyD]
theorem nm_a : isNm "a" = true := by decide +kernel
section
variable {P : Program} {w : World} {K : PySem.W.Frag} {mg : Str → Option Value} {base : Heap} {CS CT CB CR CN CI : Addr}
def spLaw (K : PySem.W.Frag) : Sp := fun vs H Q _ => ∃ (a : Addr) (ns : List Int), vs = [.ref a] ∧ SqL K H a (ns.map V.int) ∧ ns.length ≤ 63 ∧ ∀ H', Q (.bl true) H'
abbrev s_law : Stmt := topS 43
abbrev sc_lawN : List Str := ["_law_script", "_law_bag_here", "_law_tables_here", "_law_rows_here", "_law_shape", "_law_handed", "_law_kept", "_law_store", "_law_name_here", "_law_row", "_law_twin", "_law_others", "_law_other", "_law_table", "_law_wider"]
abbrev ps_law : List Str := ["_law_script"]
theorem sc_law : FnScope sc_lawN ps_law (defScope s_law) := ⟨rfl, rfl, rfl, by decide +kernel, rfl, by decide +kernel, by decide +kernel⟩
theorem ok_law {f : Addr} {fd : FuncData} (F : Fun K "law" "law" s_law f fd) (T : Txt K mg CS) (T2 : Tx2 K mg CT) (T3 : Tx3 K CS CT) (D_l_bag : Df P w K mg base "_law_bag" 1 ps_l_bag (spBag K)) (D_l_pick : Df P w K mg base "_law_pick" 1 ps_l_pick spPick) (D_l_name : Df P w K mg base "_law_name" 2 ps_l_name spName) (D_l_tables : Df P w K mg base "_law_tables" 3 ps_l_tables spTables) (D_l_rows : Df P w K mg base "_law_rows" 3 ps_l_rows spRows)
    (D_Shape : DcX P w K mg base "Shape" CS 41 ps_Shape_init (spShInit CS CB)) (D_Store : DcX P w K mg base "Store" CT 41 ps_Store_init (spStInit CS CT CR)) (D_l_loose_store : Df P w K mg base "_law_loose_store" 3 ps_l_loose_store spLooseStore) (D_l_tells : Df P w K mg base "_law_tells" 41 ps_l_tells (spTells CS CT)) (D_l_changed : Df P w K mg base "_law_changed" 3 ps_l_changed spChanged)
    (D_l_copied : Df P w K mg base "_law_copied" 40 ps_l_copied (spCopied 40)) (D_l_alike : Df P w K mg base "_law_alike" 40 ps_l_alike (spAlike 40)) (D_l_odd : Df P w K mg base "_law_odd" 2 ps_l_odd spOdd) (E_Store : Deq P w K mg base CT 2 ps_Store_eq (spStEq K CS CT)) : FnOk P w K mg base CX0 43 f fd ps_law (spLaw K) := by
  refine F.ok sc_law (fun vs H Q E h => ?_) (fun cdv A outer s H vs Q E hr h => ?_)
  · obtain ⟨_, _, rfl, _⟩ := h
    rfl
  · obtain ⟨a, ns, rfl, hs, len, k⟩ := h
    refine ⟨_, (pss_cons (ps_set (i := 1) sc_law.nd rfl (Or.inl rfl) (pe_d D_l_bag (hr.mono (by decide)) (pa_cons (pv 0) pa_nil)))
  (pss_cons (ps_set (i := 2) sc_law.nd rfl (Or.inl rfl) (pe_d D_l_tables (hr.mono (by decide)) (pa_cons (pv 1) pa_nil)))
  (pss_cons (ps_set (i := 3) sc_law.nd rfl (Or.inl rfl) (pe_d D_l_rows (hr.mono (by decide)) (pa_cons (pv 1) (pa_cons (pv 2) pa_nil))))
  (pss_cons (ps_set (i := 4) sc_law.nd rfl (Or.inl rfl) (pe_dcE (W := fun _ _ _ _ => False) D_Shape (hr.mono (by decide)) takes0 (pa_cons (pv 2) pa_nil)))
  (pss_cons (ps_set (i := 5) sc_law.nd rfl (Or.inl rfl) (pe_d D_l_loose_store (hr.mono (by decide)) (pa_cons (pv 1) (pa_cons (pv 2) (pa_cons (pv 3) pa_nil)))))
  (pss_cons (ps_set (i := 6) sc_law.nd rfl (Or.inl rfl) (pe_d D_l_copied (hr.mono (by decide)) (pa_cons (pv 5) pa_nil)))
  (pss_cons (ps_set (i := 7) sc_law.nd rfl (Or.inl rfl) (pe_dcE (W := fun _ _ _ _ => False) D_Store (hr.mono (by decide)) takes0 (pa_cons (pv 4) (pa_cons (pv 5) pa_nil))))
  (pss_cons (ps_if (PW.pt (pw_or (pt_not (pt_val (pe_d D_l_alike (hr.mono (by decide)) (pa_cons (pv 5) (pa_cons (pv 6) pa_nil))))) (pw_or1 (pt_not (pt_val (pe_d D_l_tells (hr.mono (by decide)) (pa_cons (pv 7) (pa_cons (pv 4) (pa_cons (pv 2) (pa_cons (pv 3) pa_nil))))))))))
    (pss_one (ps_ret pe_bl))
    pss_nil)
  (pss_cons (ps_for PassesOwn.never rfl (pi_list (pe_callTy (call_listD (by rfl)) (by rfl) T.n_list (by decide +kernel) (pa_cons (pv 5) pa_nil))) (pg_name (i := 8) sc_law.nd rfl (Or.inl rfl))
    (Evl.pss_cut (ps_if (pt_val (pe_callB call_isi (by rfl) T.n_isinstance (by decide +kernel) (pa_cons (pe_dget (Nat.lt_of_le_of_lt (Nat.add_le_add_left (by decide) _) hr.units) (pv 5) (pv 8) (fun _ _ => rfl)) (pa_cons (pe_bltn (v := .ty "list") (by rfl) T.n_list (by decide +kernel) rfl) pa_nil))))
      (pss_one (ps_for PassesOwn.never rfl (pi_list (pe_dget (Nat.lt_of_le_of_lt (Nat.add_le_add_left (by decide) _) hr.units) (pv 5) (pv 8) (fun _ _ => rfl))) (pg_name (i := 9) sc_law.nd rfl (Or.inl rfl))
        (pss_one (ps_if (pt_val (pe_callB call_isi (by rfl) T.n_isinstance (by decide +kernel) (pa_cons (pv 9) (pa_cons (pe_bltn (v := .ty "list") (by rfl) T.n_list (by decide +kernel) rfl) pa_nil))))
          (pss_cons (ps_expr (pe_bm0 PySem.F.plainAttrs_list PySem.F.slot_list_reverse PySem.F.type_list_reverse mt_reverse (pv 9)))
          (pss_one (ps_expr (pe_bm PySem.F.plainAttrs_list PySem.F.slot_list_append PySem.F.type_list_append mt_append (pv 9) (pa_cons pe_int pa_nil)))))
          pss_nil))))
      pss_nil)
    (pss_one (ps_asg (pe_lst (pa_cons (pe_tup (pa_cons pe_int (pa_cons pe_int (pa_cons pe_int (pa_cons pe_int (pa_cons pe_int pa_nil)))))) pa_nil)) (pg_sub (pv 5) (pv 8) (set_dict (Nat.lt_of_le_of_lt (Nat.add_le_add_left (by decide) _) hr.units)))))))
  (pss_cons (ps_if (PW.pt (pw_or (pt_not (pt_val (pe_d D_l_tells (hr.mono (by decide)) (pa_cons (pv 7) (pa_cons (pv 4) (pa_cons (pv 2) (pa_cons (pv 3) pa_nil))))))) (pw_or1 (pt_not (pt_val (pe_d D_l_tells (hr.mono (by decide)) (pa_cons (pv 7) (pa_cons (pv 4) (pa_cons (pv 2) (pa_cons (pv 3) pa_nil))))))))))
    (pss_one (ps_ret pe_bl))
    pss_nil)
  (pss_cons (ps_set (i := 10) sc_law.nd rfl (Or.inl rfl) (pe_dcE (W := fun _ _ _ _ => False) D_Store (hr.mono (by decide)) takes0 (pa_cons (pe_dcE (W := fun _ _ _ _ => False) D_Shape (hr.mono (by decide)) takes0 (pa_cons (pv 2) pa_nil)) (pa_cons (pe_d D_l_loose_store (hr.mono (by decide)) (pa_cons (pv 1) (pa_cons (pv 2) (pa_cons (pv 3) pa_nil)))) pa_nil))))
  (pss_cons (ps_set (i := 11) sc_law.nd rfl (Or.inl rfl) (pe_d D_l_changed (hr.mono (by decide)) (pa_cons (pv 1) (pa_cons (pv 2) (pa_cons (pv 3) pa_nil)))))
  (pss_cons (ps_set (i := 12) sc_law.nd rfl (Or.inl rfl) (pe_dcE (W := fun _ _ _ _ => False) D_Store (hr.mono (by decide)) takes0 (pa_cons (pv 4) (pa_cons (pv 11) pa_nil))))
  (pss_cons (ps_if (PW.pt (pw_or (pt_not (pt_cmpR (op_eqO E_Store (hr.mono (by decide))) (pv 7) (pv 10) (nomark _))) (pw_or (pt_not (pt_cmpR (op_eqO E_Store (hr.mono (by decide))) (pv 10) (pv 7) (nomark _))) (pw_or (pt_cmpR (op_neO E_Store (hr.mono (by decide)) T3.c_ne T3.c_mro) (pv 7) (pv 10) (nomark _)) (pw_or (pt_cmpR (op_eqO E_Store (hr.mono (by decide))) (pv 7) (pv 12) (nomark _)) (pw_or1 (pt_not (pt_cmpR (op_neO E_Store (hr.mono (by decide)) T3.c_ne T3.c_mro) (pv 12) (pv 10) (nomark _)))))))))
    (pss_one (ps_ret pe_bl))
    pss_nil)
  (pss_cons (ps_if (PW.pt (pw_or (pt_cmpR (op_eqO E_Store (hr.mono (by decide))) (pv 7) (pv 4) (nomark _)) (pw_or (pt_cmpR (op_eqO E_Store (hr.mono (by decide))) (pv 7) pe_non (nomark _)) (pw_or (pt_cmpR (op_eqO E_Store (hr.mono (by decide))) (pv 7) (pv 3) (nomark _)) (pw_or (pt_cmpR (op_eqO E_Store (hr.mono (by decide))) (pv 7) pe_int (nomark _)) (pw_or1 (pt_cmpR (op_eqO E_Store (hr.mono (by decide))) (pv 7) (pe_d D_l_odd (hr.mono (by decide)) (pa_cons (pv 1) pa_nil)) (nomark _))))))))
    (pss_one (ps_ret pe_bl))
    pss_nil)
  (pss_cons (ps_set (i := 14) sc_law.nd rfl (Or.inl rfl) (pe_dcE (W := fun _ _ _ _ => False) D_Store (hr.mono (by decide)) takes0 (pa_cons (pe_dcE (W := fun _ _ _ _ => False) D_Shape (hr.mono (by decide)) takes0 (pa_cons (pe_op op_cat (pv 2) (pe_slice sl_list (pe_lst (pa_cons (pe_tup (pa_cons (pe_d D_l_name (hr.mono (by decide)) (pa_cons (pv 1) (pa_cons (pe_lc (own := [("_law_table", 13)]) (g := gName 13) (tt := tYes) (by rfl) sc_law.nd (pi_list (pv 2)) (blkOk_by (own := [("_law_table", 13)]) (N := sc_lawN) (sc := defScope s_law) (by decide +kernel)) (fun _ _ _ _ _ => pg_name (i := 13) sc_law.nd rfl (Or.inl rfl)) (fun _ _ _ _ _ => pts_nil) (fun _ _ _ _ _ => (pe_ix (ixK_tup (K := K)) (pv 13) pe_int (fun _ _ => rfl)))) pa_nil))) (pa_cons (pe_tup (pa_cons pe_str pa_nil)) pa_nil))) pa_nil)) po_none (po_some (pe_op op_sub pe_int (pe_callB call_len_seq (by rfl) T.n_len (by decide +kernel) (pa_cons (pv 2) pa_nil)))))) pa_nil)) (pa_cons (pv 3) pa_nil))))
  (pss_cons (ps_if (pt_cmpR op_ne (pe_cmpR (op_eqO E_Store (hr.mono (by decide))) (pv 7) (pv 14) (nomark _)) (pe_cmpR op_eq (pe_callB call_len_seq (by rfl) T.n_len (by decide +kernel) (pa_cons (pv 2) pa_nil)) pe_int (nomark _)) (nomark _))
    (pss_one (ps_ret pe_bl))
    pss_nil)
  (pss_one (ps_ret (pe_and (pe_d D_l_tells (hr.mono (by decide)) (pa_cons (pv 12) (pa_cons (pv 4) (pa_cons (pv 2) (pa_cons (pv 11) pa_nil))))) (pe_one (pe_d D_l_tells (hr.mono (by decide)) (pa_cons (pv 7) (pa_cons (pv 4) (pa_cons (pv 2) (pa_cons (pv 3) pa_nil)))))))))))))))))))))))))), ?_⟩
    refine ⟨_, rfl, a, ns, rfl, hs, len, fun b H0 B0 => ?_⟩
    refine ⟨_, rfl, nil0, b, rfl, B0, fun p F0 H1 ts B01 _ ok tb0 => ?_⟩
    refine ⟨_, rfl, _, rfl, F0, b, p, ts, rfl, B01, tb0, ok, fun rd kvs F1 H2 g B1 s01 f1r ek good => ?_⟩
    obtain ⟨xs, hp, ta⟩ := tb0.same s01
    have lo := ok.lo
    have hi := ok.hi
    obtain ⟨R, hR⟩ := pick_r (P := fun t rs => g t.1 = .list (rs.map rowD) ∧ rs.length ≤ 9 ∧ ∀ r ∈ rs, goodR t.2.length r) ok.nd fun t m => by
      obtain ⟨_, R, e, l, hR⟩ := good t m
      obtain ⟨rs, e2, l2, g2⟩ := rows_ints hR
      exact ⟨rs, by rw [e, e2], by omega, g2⟩
    have val : ∀ t ∈ ts, ∃ v, valV kvs (Sum.inr t.1) = some v ∧ Tp F1 v (gL R t.1) := fun t m => by
      obtain ⟨⟨v, h1, h2⟩, _⟩ := good t m
      rw [(hR t m).1] at h2
      exact ⟨v, h1, h2⟩
    have rok : Rok ts R 9 := fun t m => (hR t m).2
    clear good hR
    obtain ⟨d1, d2, d3⟩ := ts_bd ok
    have h2r := B1.fh _ _ upd_same
    have sF1 : Same F1 H2 := (same_new _ f1r).trans B1.fh
    refine ⟨_, rfl, fun x dx nx nd ne => shape_made sF1 (.lst hp ta) (by omega) (by omega) (by omega) nx nd ne (fun i e => by rw [shape_ok ok] at e; cases e) fun _ F2 H3 g2 sh => ?_⟩
    rw [tabs_tupd] at sh
    obtain ⟨f2r, h3r⟩ := g2.hh _ _ f1r h2r
    have B2 := B1.grow (grow_with g2 f1r h2r)
    have sS : Same F2 (upd F2 rd (.dK kvs)) := same_new _ f2r
    have s12 : Same F1 (upd F2 rd (.dK kvs)) := g2.ff.trans sS
    have tbG : TbAt (upd F2 rd (.dK kvs)) p ts := ⟨xs, s12 _ _ hp, ta.same s12⟩
    have shG := sh.same sS
    have rsG : RsAt (upd F2 rd (.dK kvs)) rd ts (gL R) := ⟨kvs, upd_same, ek, fun t m => by obtain ⟨v, h1, h2⟩ := val t m; exact ⟨v, h1, h2.same s12⟩⟩
    generalize upd F2 rd (.dK kvs) = G at *
    clear sS s12 f2r h3r g2 sh sF1 h2r B1 f1r hp ta tb0 B01 val nx nd ne
    -- the rows are handed in
    refine ⟨_, rfl, _, rfl, _, rfl, G, G, b, p, rd, ts, R, 9, rfl, Same.refl _, B2, tbG, ok, rsG, rok, by omega, fun hd F3 H4 kv B3 sGF gh hhd lk rest => ?_⟩
    obtain ⟨es, tes, bes⟩ : ∃ es, TpKV F3 kv es ∧ depE es ≤ 2 ∧ sizE es ≤ 2000 := by
      have gen : ∀ kv2 : List (Key × V), (∀ q ∈ kv2, q ∈ kv) → ∃ es, TpKV F3 kv2 es ∧ depE es ≤ 2 ∧ sizE es ≤ 400 * kv2.length := by
        intro kv2
        induction kv2 with
        | nil => exact fun _ => ⟨[], .nil, Nat.zero_le _, Nat.zero_le _⟩
        | cons q kv2 ih =>
          intro h
          obtain ⟨es, t1, t2, t3⟩ := ih fun r m => h r (List.mem_cons_of_mem _ m)
          obtain ⟨t, mt, e, lo⟩ := lk.ex q (h q List.mem_cons_self)
          obtain ⟨d, y1, y2⟩ := lo.data
          obtain ⟨z1, z2, _⟩ := y2.bd (rok t mt).2 (ok.ok t mt).fs.hi (by have z := (rok t mt).1; omega)
          obtain ⟨qk, qv⟩ := q
          refine ⟨(kD qk, d) :: es, .cons y1 t1, ?_, ?_⟩
          · show max (dep d) (depE es) ≤ 2
            omega
          · show siz d + sizE es ≤ 400 * (kv2.length + 1)
            omega
      obtain ⟨es, t1, t2, t3⟩ := gen kv fun _ m => m
      have z := lk.len
      exact ⟨es, t1, t2, by omega⟩
    have tHd : Tp F3 (.ref hd) (.dict es) := .dct hhd tes lk.nd
    have b1 : dep (.dict es) < 40 := by show 1 + depE es < 40; omega
    have b2 : siz (.dict es) ≤ 100000 := by show 1 + sizE es ≤ 100000; omega
    -- a copy
    refine ⟨_, rfl, F3, .ref hd, .dict es, rfl, B3.fh, tHd, b1, b2, fun kd F4 H5 g4 tKd => ?_⟩
    have B4 := B3.grow g4
    have sG4 := sGF.trans g4.ff
    have lk4 := lk.same g4.ff
    have hd4 := g4.ff _ _ hhd
    have tHd4 := tHd.same g4.ff
    clear B3 tHd hhd tes lk
    -- the store
    refine ⟨_, rfl, _, rfl, fun x2 dx2 nx2 nd2 ne2 => loose_make B4 (shG.same sG4) ok hd4 lk4 rest rok (by omega) nx2 nd2 ne2 fun G5 F5 H6 g5 B5 stN => ?_⟩
    have s45 : Same F4 F5 := g5.same cut_sub
    have st5 : StAt CS CT F5 x2 ts (gT R) := stN.at_.same g5.fh
    have sG5 := sG4.trans s45
    have hd5 := s45 _ _ hd4
    -- what is kept apart from what is changed
    have sN : Same (noLst G5) F5 := noLst_sub.trans g5.fh
    have sU : Same (uni G (noLst G5)) F5 := Same.uni_l sG5 sN
    have stU : StAt CS CT (uni G (noLst G5)) x2 ts (gT R) := stN.noLst.same (uni_agree sG5 sN)
    have g5h : G5 hd = none := (g5.hh hd _ cut_at hd4).1
    have uh : uni G (noLst G5) hd = none := by
      rw [uni_r gh]
      cases q : noLst G5 hd with
      | none => rfl
      | some o =>
        have z := noLst_sub _ _ q
        rw [g5h] at z
        cases z
    have uL : ∀ {c l}, G c = none → F5 c = some (.lst l) → uni G (noLst G5) c = none := fun {c l} e1 e2 => by
      rw [uni_r e1]
      cases q : noLst G5 c with
      | none => rfl
      | some o =>
        have z := noLst_sub _ _ q
        have y := g5.fh _ _ z
        rw [e2] at y
        cases y
        rw [noLst_lst z] at q
        cases q
    have mcs : ∀ q ∈ kv, MC (uni G (noLst G5)) F5 4 q.2 := fun q m => by
      obtain ⟨t, mt, e, lo⟩ := (lk4.same s45).ex q m
      have z := (rok t mt).1
      obtain ⟨c, us, e2, hc, l2, hu⟩ := lo.mc (rok t mt).2 (ok.ok t mt).fs.lo (ok.ok t mt).fs.hi (by omega)
      refine ⟨c, us, e2, hc, l2, fun u mu => ?_⟩
      obtain ⟨a2, e3, ⟨g3, zs, y1, y2, y3⟩ | y⟩ := hu u mu
      · exact ⟨a2, e3, .inl ⟨uL g3 y3, zs, y1, y2, y3⟩⟩
      · exact ⟨a2, e3, .inr y⟩
    have tbU := tbG.same (same_uni (M := noLst G5))
    have shU := shG.same (same_uni (M := noLst G5))
    have rsU := rsG.same (same_uni (M := noLst G5))
    have kOk : ∀ q ∈ kv, ∃ n : Str, q.1 = Sum.inr n := fun q m => by
      obtain ⟨t, _, e, _⟩ := lk4.ex q m
      exact ⟨t.1, e⟩
    have knd := lk4.nd
    have klen := lk4.len
    refine ⟨_, rfl, _, rfl, .ref hd, kd, .dict es, rfl, (tHd4.same s45).same B5.fh, (tKd.same s45).same B5.fh, b1, b2, fun H7 s7 => ⟨_, rfl, iteF ?_⟩⟩
    have B7 := bag_same B5 s7
    refine ⟨_, rfl, _, rfl, _, rfl, _, rfl, uni G (noLst G5), x2, x, p, rd, ts, R, 9, rfl, sU.trans B7.fh, shU, tbU, ok, stU, rsU, rok, by omega, fun H8 s8 => ⟨_, rfl, iteF ?_⟩⟩
    have B8 := bag_same B7 s8
    generalize uni G (noLst G5) = U at *
    clear uL sN st5 B7 B5 stN lk4 tHd4 tKd g5 B4 g4 g5h
    -- the rows that were handed in are changed
    refine ⟨_, rfl, hd, kv, rfl, .inl (B8.fh _ _ hd5), fun q hq => ?_⟩
    have fq := B8.fh.free hq
    have uq := sU.free fq
    have B9 := B8.new (.lst (kv.map fun e => kV e.1)) hq
    have aw : ∀ (a2 : Addr) (o2 : HO), F5 a2 = some o2 → (∃ l, o2 = .lst l) ∨ (∃ l, o2 = .tup l) → a2 ≠ q := fun a2 o2 e _ => ne_of_none e fq
    have sUq : Same (upd U q (.lst (kv.map fun e => kV e.1))) (upd F5 q (.lst (kv.map fun e => kV e.1))) := same_upd sU q _
    have uqq : (upd U q (.lst (kv.map fun e => kV e.1))) q = some (.lst (kv.map fun e => kV e.1)) := upd_same
    have hd6 : (upd F5 q (.lst (kv.map fun e => kV e.1))) hd = some (.dK kv) := by rw [upd_ne (ne_of_none hd5 fq)]; exact hd5
    have uh6 : (upd U q (.lst (kv.map fun e => kV e.1))) hd = none := by rw [upd_ne (ne_of_none hd5 fq)]; exact uh
    have mcs6 : ∀ e ∈ kv, MC (upd U q (.lst (kv.map fun e => kV e.1))) (upd F5 q (.lst (kv.map fun e => kV e.1))) 4 e.2 := fun e m => by
      obtain ⟨c, us, e2, hc, l2, hu⟩ := (mcs e m).away (h := q) (o := .lst (kv.map fun e => kV e.1)) aw
      refine ⟨c, us, e2, hc, l2, fun u mu => ?_⟩
      obtain ⟨a2, e3, ⟨g3, zs, y1, y2, y3⟩ | y⟩ := hu u mu
      · refine ⟨a2, e3, .inl ⟨?_, zs, y1, y2, y3⟩⟩
        rw [upd_ne fun z => ?_]
        · exact g3
        · rw [z, upd_same] at y3
          have y4 := HO.lst.inj (Option.some.inj y3)
          cases kv with
          | nil => cases m
          | cons e0 kv0 =>
            obtain ⟨n, en⟩ := kOk e0 List.mem_cons_self
            cases zs with
            | nil => exact y1 rfl
            | cons z0 zs0 =>
              rw [List.map_cons, List.map_cons, en] at y4
              injection y4 with y5 _
              cases y5
      · exact ⟨a2, e3, .inr y⟩
    have tb6 := tbU.same (same_new (.lst (kv.map fun e => kV e.1)) uq)
    have sh6 := shU.same (same_new (.lst (kv.map fun e => kV e.1)) uq)
    have rs6 := rsU.same (same_new (.lst (kv.map fun e => kV e.1)) uq)
    have st6 := stU.same (same_new (.lst (kv.map fun e => kV e.1)) uq)
    generalize upd U q (.lst (kv.map fun e => kV e.1)) = G6 at *
    generalize upd F5 q (.lst (kv.map fun e => kV e.1)) = F6 at *
    generalize upd H8 q (.lst (kv.map fun e => kV e.1)) = H9 at *
    clear aw B8 fq uq mcs tbU shU rsU stU sU hd5 uh
    refine ⟨q, rfl, ⟨_, .inl (.inl (B9.fh _ _ (sUq _ _ uqq)))⟩, for_it walk_list (fun i σ H' => ∃ (F7 : Hp) (kv2 : List (Key × V)) (v8 v9 : Option V), σ = [some (.ref a), some (.ref b), some (.ref p), some (.ref rd), some (.ref x), some (.ref hd), some kd, some (.ref x2), v8, v9, none, none, none, none, none] ∧ Same G6 F7 ∧ Bag F7 H' b ∧ F7 hd = some (.dK kv2) ∧ kv2.map (·.1) = kv.map (·.1) ∧ (∀ e ∈ kv.drop i, valV kv2 e.1 = some e.2 ∧ MC G6 F7 (4 + 60 * i) e.2))
      ⟨F6, kv, _, _, rfl, sUq, B9, hd6, rfl, fun e m => ⟨?_, mcs6 e (List.mem_of_mem_drop m)⟩⟩ (fun i σ H' _ z => by obtain ⟨_, _, _, _, _, s, B, _⟩ := z; exact .inl (.inl (B.fh _ _ (s _ _ uqq)))) ?_ ?_⟩
    · obtain ⟨j, hj⟩ := List.getElem?_of_mem (List.mem_of_mem_drop m)
      exact valV_at knd hj
    · rintro i u σ H11 H10 hi2 ⟨F7, kv2, v8, v9, rfl, s7, B10, hd7, ek7, ent⟩ ⟨rfl, hu⟩
      rw [List.length_map] at hi2
      have hki : kv[i]? = some kv[i] := List.getElem?_eq_getElem hi2
      rw [List.getElem?_map, hki] at hu
      obtain rfl : kV kv[i].1 = u := Option.some.inj hu
      have mi : kv[i] ∈ kv.drop i := by
        rw [List.drop_eq_getElem_cons hi2]
        exact List.mem_cons_self
      obtain ⟨vi, c, us, ec, hc, lus, hus⟩ := ent _ mi
      have i5 : i < 5 := by omega
      have get7 : ∀ {F8 H' : Hp}, Bag F8 H' b → F8 hd = some (.dK kv2) → DGet H' hd (kV kv[i].1) (some kv[i].2) := fun B h => .inl ⟨kv2, kv[i].1, .inl (B.fh _ _ h), rfl, vi.symm⟩
      refine ⟨fun σ' H' => ∃ (F8 : Hp) (v9 : Option V), σ' = [some (.ref a), some (.ref b), some (.ref p), some (.ref rd), some (.ref x), some (.ref hd), some kd, some (.ref x2), some (kV kv[i].1), v9, none, none, none, none, none] ∧ Same G6 F8 ∧ Bag F8 H' b ∧ F8 hd = some (.dK kv2) ∧ (∀ e ∈ kv.drop i, MC G6 F8 (4 + 60 * (i + 1)) e.2), ?_, ?_⟩
      · rcases hc with hc | hc
        · refine ⟨_, rfl, _, rfl, hd, _, rfl, get7 B10 hd7, _, _, _, _, _, rfl, .ty _, (by rw [ec]; exact .base (.lst (B10.fh _ _ hc))), kit_ty (b := "list") (r := true) (by decide +kernel), _, rfl, iteT ?_⟩
          refine ⟨_, rfl, _, rfl, hd, _, rfl, get7 B10 hd7, c, ec, ⟨us, .inl (.inl (B10.fh _ _ hc))⟩, for_it walk_list (fun j σ H' => ∃ (F8 : Hp) (v9 : Option V), σ = [some (.ref a), some (.ref b), some (.ref p), some (.ref rd), some (.ref x), some (.ref hd), some kd, some (.ref x2), some (kV kv[i].1), v9, none, none, none, none, none] ∧ Same G6 F8 ∧ Bag F8 H' b ∧ F8 hd = some (.dK kv2) ∧ F8 c = some (.lst us) ∧ (∀ u ∈ us, MR G6 F8 (4 + 60 * i + j) u) ∧ (∀ e ∈ kv.drop i, MC G6 F8 (4 + 60 * i + j) e.2))
            ⟨F7, v9, rfl, s7, B10, hd7, hc, hus, fun e m => (ent e m).2⟩ (fun i σ H' _ z => by obtain ⟨_, _, _, _, B, _, h, _⟩ := z; exact .inl (.inl (B.fh _ _ h))) ?_ ?_⟩
          · rintro j u σ H13 H12 hj ⟨F8, v9, rfl, s8, B12, hd8, hc8, hus8, ent8⟩ ⟨rfl, hu⟩
            obtain ⟨a2, rfl, ⟨ga, zs, z1, z2, z3⟩ | ⟨ws, z3⟩⟩ := hus8 u (List.mem_of_getElem? hu)
            · refine ⟨_, rfl, _, _, _, _, _, rfl, .ty _, .base (.lst (B12.fh _ _ z3)), kit_ty (b := "list") (r := true) (by decide +kernel), _, rfl, iteT ?_⟩
              refine ⟨_, rfl, .inl ⟨rfl, _, .inl (.inl (B12.fh _ _ z3))⟩, a2, _, rfl, rfl, B12.fh _ _ z3, ?_⟩
              have B13 := B12.put (.lst (zs.map V.int).reverse) z3
              refine ⟨_, rfl, .inl ⟨rfl, _, .inl (.inl upd_same)⟩, a2, _, _, rfl, rfl, upd_same, (by rw [List.length_reverse, List.length_map]; exact Nat.lt_of_le_of_lt (show zs.length ≤ 1000 by omega) (by decide)), ?_⟩
              have B14 := B13.put (.lst ((zs.map V.int).reverse ++ [.int 7])) upd_same
              rw [upd_upd] at B14
              have ew : (zs.map V.int).reverse ++ [.int 7] = (zs.reverse ++ [7]).map V.int := by rw [List.map_append, List.map_reverse]; rfl
              rw [ew] at B14 ⊢
              have hw : zs.reverse ++ [(7 : Int)] ≠ [] := by simp
              have lw : (zs.reverse ++ [(7 : Int)]).length ≤ 4 + 60 * i + j + 1 := by rw [List.length_append, List.length_reverse]; show zs.length + 1 ≤ _; omega
              refine ⟨_, _, rfl, fun b2 o2 e2 => ?_, B14, ?_, ?_, fun u m => (hus8 u m).put z3 hw lw, fun e m => (ent8 e m).put z3 z1 hw lw⟩
              · rw [upd_ne fun z => by rw [z, ga] at e2; cases e2]
                exact s8 _ _ e2
              · rw [upd_ne fun z => by rw [← z, hd8] at z3; cases z3]
                exact hd8
              · rw [upd_ne (MC.ne hus8 hc8 z3 z1)]
                exact hc8
            · exact ⟨_, rfl, _, _, _, _, _, rfl, .ty _, .base (.tup (B12.fh _ _ z3)), kit_ty (b := "list") (r := false) (by decide +kernel), _, rfl, iteF ⟨F8, _, rfl, s8, B12, hd8, hc8, fun u m => (hus8 u m).up (by omega), fun e m => (ent8 e m).up (by omega)⟩⟩
          · rintro σ H12 ⟨F8, v9, rfl, s8, B12, hd8, hc8, hus8, ent8⟩
            exact ⟨F8, v9, rfl, s8, B12, hd8, fun e m => (ent8 e m).up (by omega)⟩
        · exact ⟨_, rfl, _, rfl, hd, _, rfl, get7 B10 hd7, _, _, _, _, _, rfl, .ty _, (by rw [ec]; exact .base (.tup (B10.fh _ _ hc))), kit_ty (b := "list") (r := false) (by decide +kernel), _, rfl, iteF ⟨F7, _, rfl, s7, B10, hd7, fun e m => (ent e m).2.up (by omega)⟩⟩
      · rintro σ' H12 ⟨F8, v9, rfl, s8, B12, hd8, ent8⟩
        refine ⟨(by show 5 ≤ sizeLine; decide), fun t5 ht5 => ⟨(by show 1 ≤ sizeLine; decide), fun l5 hl5 => ?_⟩⟩
        have B13 := bag_junk (bag_junk B12 (.tup [.int 5, .int 5, .int 5, .int 5, .int 5]) ht5) (.lst [.ref t5]) hl5
        have lkv2 : kv2.length ≤ 5 := by
          have z := congrArg List.length ek7
          rw [List.length_map, List.length_map] at z
          omega
        have mk : kv[i].1 ∈ kv2.map (·.1) := by
          rw [ek7]
          exact List.mem_map.mpr ⟨_, List.getElem_mem hi2, rfl⟩
        refine ⟨_, rfl, _, rfl, hd, _, rfl, .inl ⟨kv2, kv[i].1, B13.fh _ _ hd8, rfl, Nat.lt_of_le_of_lt lkv2 (by decide), rfl⟩, ?_⟩
        have B14 := B13.put (.dK (putK kv2 kv[i].1 (.ref l5))) hd8
        refine ⟨_, putK kv2 kv[i].1 (.ref l5), _, _, rfl, fun b2 o2 e2 => ?_, B14, upd_same, by rw [keys_put mk]; exact ek7, fun e m => ⟨?_, ?_⟩⟩
        · rw [upd_ne fun z => by rw [z, uh6] at e2; cases e2]
          exact s8 _ _ e2
        · have m2 : e ∈ kv.drop i := by
            rw [List.drop_eq_getElem_cons hi2]
            exact List.mem_cons_of_mem _ m
          rw [valV_put, if_neg]
          · exact (ent e m2).1
          · intro z
            obtain ⟨j, hj⟩ := List.getElem?_of_mem m
            rw [List.getElem?_drop] at hj
            obtain ⟨lj, ej⟩ := List.getElem?_eq_some_iff.mp hj
            have y := (List.getElem_inj (h₀ := by rw [List.length_map]; exact lj) (h₁ := by rw [List.length_map]; exact hi2) knd).mp (by rw [List.getElem_map, List.getElem_map, ej]; exact z)
            omega
        · have m2 : e ∈ kv.drop i := by
            rw [List.drop_eq_getElem_cons hi2]
            exact List.mem_cons_of_mem _ m
          refine (ent8 e m2).away fun a2 o2 e2 ho => ?_
          intro z
          rw [z, hd8] at e2
          cases e2
          rcases ho with ⟨l, h⟩ | ⟨l, h⟩
          · cases h
          · cases h
    · rintro σ H10 ⟨F7, kv2, v8, v9, rfl, s7, B10, _, _, _⟩
      clear mcs6 hd6 uh6 sUq B9 uqq kOk knd klen
      have tb7 := tb6.same s7
      have sh7 := sh6.same s7
      have rs7 := rs6.same s7
      have st7 := st6.same s7
      clear tb6 sh6 rs6 st6 s7
      refine ⟨_, rfl, _, rfl, _, rfl, _, rfl, F7, x2, x, p, rd, ts, R, 9, rfl, B10.fh, sh7, tb7, ok, st7, rs7, rok, by omega, fun H11 s11 => ⟨_, rfl, iteF ?_⟩⟩
      have B11 := bag_same B10 s11
      refine ⟨_, rfl, _, rfl, _, rfl, _, rfl, F7, x2, x, p, rd, ts, R, 9, rfl, B11.fh, sh7, tb7, ok, st7, rs7, rok, by omega, fun H12 s12 => ⟨_, rfl, iteF ?_⟩⟩
      have B12 := bag_same B11 s12
      clear B10 B11 s11 s12
      -- a twin
      obtain ⟨xs, hp, ta⟩ := id tb7
      refine ⟨_, rfl, fun x3 dx3 nx nd ne => shape_made B12.fh (.lst hp ta) (by omega) (by omega) (by omega) nx nd ne (fun i e => by rw [shape_ok ok] at e; cases e) fun _ F8 H13 g8 sh8 => ?_⟩
      rw [tabs_tupd] at sh8
      have B13 := B12.grow g8
      refine ⟨_, rfl, _, rfl, _, rfl, F8, F8, b, p, rd, ts, R, 9, rfl, Same.refl _, B13, tb7.same g8.ff, ok, rs7.same g8.ff, rok, by omega, fun hd2 F9 H14 kv3 B14 s89 _ hd9 lk9 rest9 => ?_⟩
      refine fun x4 dx4 nx4 nd4 ne4 => loose_make B14 (sh8.same s89) ok hd9 lk9 rest9 rok (by omega) nx4 nd4 ne4 fun G10 F10 H15 g10 B15 stN => ?_
      have s910 : Same F9 F10 := g10.same cut_sub
      have s710 : Same F7 F10 := g8.ff.trans (s89.trans s910)
      have tw10 : StAt CS CT F10 x4 ts (gT R) := stN.at_.same g10.fh
      have tb10 := tb7.same s710
      have sh10 := sh7.same s710
      have rs10 := rs7.same s710
      have st10 := st7.same s710
      clear tb7 sh7 rs7 st7 s710 s910 stN g10 B14 B13 B12 hp ta g8 sh8 s89 hd9 lk9 rest9 nx nd ne nx4 nd4 ne4
      -- other rows
      refine ⟨_, rfl, _, rfl, _, rfl, F10, b, p, rd, ts, R, rfl, B15, tb10, ok, rs10, rok, fun rd2 F11 H16 R2 B16 s11 rs11 rok2 diff => ?_⟩
      refine ⟨_, rfl, _, rfl, fun x5 dx5 nx5 nd5 ne5 => full_make (S := R2) B16 (sh10.same s11) ok rs11 (fun _ m => m) rok2 (by omega) ok.hi (fun _ _ => rfl) (fun t m no => absurd m no) nx5 nd5 ne5 fun G12 F12 H17 g12 B17 stN2 => ?_⟩
      have s1112 : Same F11 F12 := g12.same cut_sub
      have s1012 := s11.trans s1112
      have ot12 : StAt CS CT F12 x5 ts (gT R2) := stN2.at_.same g12.fh
      have tb12 := tb10.same s1012
      have sh12 := sh10.same s1012
      have rs12 := rs10.same s1012
      have st12 := st10.same s1012
      have tw12 := tw10.same s1012
      have rso12 := rs11.same s1112
      clear tb10 sh10 rs10 st10 tw10 rs11 s1112 s1012 stN2 g12 B16 B15 s11 nx5 nd5 ne5
      obtain ⟨dx, s1, r1, hst, _⟩ := id st12
      obtain ⟨dy, s2, r2, htw, _⟩ := id tw12
      obtain ⟨dz, s3, r3, hot, _⟩ := id ot12
      have tyS : ∀ {H' : Hp} {s0 d0 : Addr} {fs : List (Str × V)}, Same F12 H' → F12 s0 = some (.ins CT d0 fs) → TyX K H' (.ref s0) (.ref CT) := fun s e => .base (.ins (s _ _ e) T2.clT T3.c_cls T.c_get T.c_tak T3.c_mro)
      have f17 := B17.fh
      refine ⟨_, rfl, _, rfl, x2, dx, _, _, rfl, f17 _ _ hst, tyS f17 htw, first_same CT, F12, x2, .ref x4, ts, R, rfl, f17, st12, ok, .inl ⟨x4, ts, R, rfl, tw12, ok.ok, _, rfl, _, rfl, ifF (by rw [sameR_refl]; simp) ?_⟩⟩
      refine ⟨_, rfl, _, rfl, x4, dy, _, _, rfl, f17 _ _ htw, tyS f17 hst, first_same CT, F12, x4, .ref x2, ts, R, rfl, f17, tw12, ok, .inl ⟨x2, ts, R, rfl, st12, ok.ok, _, rfl, _, rfl, ifF (by rw [sameR_refl]; simp) ?_⟩⟩
      refine ⟨_, rfl, _, rfl, x2, x4, dx, dy, _, _, rfl, rfl, f17 _ _ hst, f17 _ _ htw, F12, x2, .ref x4, ts, R, rfl, f17, st12, ok, .inl ⟨x4, ts, R, rfl, tw12, ok.ok, _, rfl, _, rfl, ifF (by rw [sameR_refl]; simp) ?_⟩⟩
      refine ⟨_, rfl, _, rfl, x2, dx, _, _, rfl, f17 _ _ hst, tyS f17 hot, first_same CT, F12, x2, .ref x5, ts, R, rfl, f17, st12, ok, .inl ⟨x5, ts, R2, rfl, ot12, ok.ok, _, rfl, _, rfl, ifF (by rw [diff]; simp) ?_⟩⟩
      refine ⟨_, rfl, _, rfl, x5, x4, dz, dy, _, _, rfl, rfl, f17 _ _ hot, f17 _ _ htw, F12, x5, .ref x4, ts, R2, rfl, f17, ot12, ok, .inl ⟨x4, ts, R, rfl, tw12, ok.ok, _, rfl, _, rfl, ifF (by rw [sameR_comm, diff]; simp) ?_⟩⟩
      -- beside what is no store
      obtain ⟨dw, vw, hshx, dvw⟩ := id sh12
      obtain ⟨kr, hkr, ekr, _⟩ := id rs12
      have i7 : ∀ n ∈ ["NoneType", "bool", "int", "str", "list", "tuple", "dict"], PySem.W.kitOne K (.type n) (.ref CT) = some false := T3.c_isi
      refine ⟨_, rfl, _, rfl, x2, dx, _, _, rfl, f17 _ _ hst, .base (.ins (f17 _ _ hshx) T.cl T.c_cls T.c_get T.c_tak T.c_mro), T3.s_nf, F12, x2, .ref x, ts, R, rfl, f17, st12, ok, .inr ⟨_, .base (.ins (f17 _ _ hshx) T.cl T.c_cls T.c_get T.c_tak T.c_mro), T3.s_isi, _, rfl, _, rfl, iteF ?_⟩⟩
      refine ⟨_, rfl, x2, dx, _, _, rfl, f17 _ _ hst, .base .non, T3.c_nf _ (by simp), F12, x2, .non, ts, R, rfl, f17, st12, ok, .inr ⟨_, .base .non, i7 _ (by simp), _, rfl, _, rfl, iteF ?_⟩⟩
      refine ⟨_, rfl, _, rfl, x2, dx, _, _, rfl, f17 _ _ hst, .base (.dK (f17 _ _ hkr)), T3.c_nf _ (by simp), F12, x2, .ref rd, ts, R, rfl, f17, st12, ok, .inr ⟨_, .base (.dK (f17 _ _ hkr)), i7 _ (by simp), _, rfl, _, rfl, iteF ?_⟩⟩
      refine ⟨_, rfl, x2, dx, _, _, rfl, f17 _ _ hst, .base (.int _), T3.c_nf _ (by simp), F12, x2, .int 0, ts, R, rfl, f17, st12, ok, .inr ⟨_, .base (.int _), i7 _ (by simp), _, rfl, _, rfl, iteF ?_⟩⟩
      refine ⟨_, rfl, _, rfl, F12, b, rfl, B17, fun v F13 H18 B18 s13 od => ?_⟩
      obtain ⟨d, td, _, _, _⟩ := od
      have f18 : Same F12 H18 := s13.trans B18.fh
      refine ⟨x2, dx, _, _, rfl, f18 _ _ hst, (td.same B18.fh).ty, T3.c_nf _ (ty_mem d), F12, x2, v, ts, R, rfl, f18, st12, ok, .inr ⟨_, (td.same B18.fh).ty, i7 _ (ty_mem d), _, rfl, _, rfl, iteF ?_⟩⟩
      clear td f17 B17 hshx hkr
      have B19 := bag_sub s13 B18
      clear B18
      -- a shape with one table more
      obtain ⟨xs, hp, ta⟩ := id tb12
      have lx : xs.length = ts.length := by rw [ta.len, List.length_map]
      refine ⟨_, rfl, _, rfl, _, rfl, p, rfl, ⟨_, .inl (.inl (B19.fh _ _ hp))⟩, fun D hD => ?_⟩
      have fD := B19.fh.free hD
      have hpq : ∀ {o : HO} {H' : Hp}, Bag (upd F12 D o) H' b → H' p = some (.lst xs) := fun z => z.fh _ _ (by rw [upd_ne (ne_of_none hp fD)]; exact hp)
      refine lc_it walk_list (fun i H' => Bag (upd F12 D (.lst (((ts.map (·.1)).take i).map V.str))) H' b) (B19.new (.lst []) hD) (fun i H' _ z => .inl (.inl (hpq z))) ?_ ?_
      · rintro i y H20 H21 hi2 B5 ⟨rfl, hx⟩
        obtain ⟨c, hc, hcv⟩ := ta.at hx
        rw [List.getElem?_map] at hc
        obtain ⟨t, ht, rfl⟩ := Option.map_eq_some_iff.mp hc
        have hn : (ts.map (·.1))[i]? = some t.1 := by rw [List.getElem?_map, ht]; rfl
        obtain ⟨e, r, rfl, he, hr2⟩ := tab_in hcv
        refine ⟨rfl, _, rfl, e, _, 0, .str t.1, rfl, rfl, .inl (.inl (B5.fh _ _ (by rw [upd_ne (ne_of_none he fD)]; exact he))), rfl, _, B5.fh _ _ upd_same, take_lt _ (by rw [List.length_map]; omega), ?_⟩
        have y := B5.put (.lst (((ts.map (·.1)).take i).map V.str ++ [.str t.1])) upd_same
        rw [upd_upd] at y
        rw [map_take _ hn]
        exact y
      rintro H20 B20
      rw [lx, List.take_of_length_le (by rw [List.length_map]; exact Nat.le_refl _)] at B20
      refine ⟨_, b, D, ts.map (·.1), rfl, B20, upd_same, by rw [List.length_map]; omega, fun n H21 isn notin B21 => ?_⟩
      rw [upd_upd] at B21
      have B22 := bag_sub (same_new _ fD) B21
      clear B21 B20 hpq B19 hD fD
      refine ⟨(by show 1 ≤ sizeLine; decide), fun ta1 hta1 => ?_⟩
      have B23 := B22.new (.tup [.str "a"]) hta1
      have s23 : Same F12 (upd F12 ta1 (.tup [.str "a"])) := same_new _ (B22.fh.free hta1)
      have e23 : (upd F12 ta1 (.tup [.str "a"])) ta1 = some (.tup [.str "a"]) := upd_same
      generalize upd F12 ta1 (.tup [.str "a"]) = F23 at *
      generalize upd H21 ta1 (.tup [.str "a"]) = H23 at *
      refine ⟨(by show 2 ≤ sizeLine; decide), fun tt htt => ?_⟩
      have B24 := B23.new (.tup [.str n, .ref ta1]) htt
      have s24 : Same F23 (upd F23 tt (.tup [.str n, .ref ta1])) := same_new _ (B23.fh.free htt)
      have tNew : Tp (upd F23 tt (.tup [.str n, .ref ta1])) (.ref tt) (tabD false (n, [("a" : Str)])) := .tup upd_same (.cons (.str n) (.cons (.tup (s24 _ _ e23) (.cons (.str _) .nil)) .nil))
      generalize upd F23 tt (.tup [.str n, .ref ta1]) = F24 at *
      generalize upd H23 tt (.tup [.str n, .ref ta1]) = H24 at *
      refine ⟨(by show 1 ≤ sizeLine; decide), fun tl htl => ?_⟩
      have B25 := bag_junk B24 (.lst [.ref tt]) htl
      have e25 : (upd H24 tl (.lst [.ref tt])) tl = some (.lst [.ref tt]) := upd_same
      generalize upd H24 tl (.lst [.ref tt]) = H25 at *
      have s1224 := s23.trans s24
      clear B24 B23 B22 htl htt hta1 e23 s23 s24
      have hp25 : H25 p = some (.lst xs) := B25.fh _ _ (s1224 _ _ hp)
      refine ⟨_, rfl, p, xs, rfl, .inl (.inl (.inl hp25)), _, _, rfl, rfl, _, rfl, tl, [.ref tt], rfl, .inl (.inl e25), ?_⟩
      have ec : cutV [V.ref tt] none (some (5 - (xs.length : Int))) = [V.ref tt].take (5 - ts.length) := by
        rw [show (5 : Int) - (xs.length : Int) = ((5 - ts.length : Nat) : Int) by omega]
        exact cutV_to _ _
      rw [ec]
      intro p2 hp2
      have B26 := bag_junk B25 (.lst ([V.ref tt].take (5 - ts.length))) hp2
      have e26 : (upd H25 p2 (.lst ([V.ref tt].take (5 - ts.length)))) p2 = some (.lst ([V.ref tt].take (5 - ts.length))) := upd_same
      generalize upd H25 p2 (.lst ([V.ref tt].take (5 - ts.length))) = H26 at *
      clear B25 e25 hp25
      refine ⟨p, p2, xs, _, rfl, rfl, B26.fh _ _ (s1224 _ _ hp), e26, Nat.le_of_lt (Nat.lt_of_le_of_lt (show xs.length + ([V.ref tt].take (5 - ts.length)).length ≤ 100 by rw [List.length_take]; show xs.length + min (5 - ts.length) 1 ≤ 100; omega) (by decide)), fun p3 hp3 => ?_⟩
      have B27 := B26.new (.lst (xs ++ [V.ref tt].take (5 - ts.length))) hp3
      have f3 := B26.fh.free hp3
      have s27 : Same F24 (upd F24 p3 (.lst (xs ++ [V.ref tt].take (5 - ts.length)))) := same_new _ f3
      obtain ⟨us, eus⟩ : ∃ us : List Tab, us = ts ++ [((n, [("a" : Str)]) : Tab)].take (5 - ts.length) := ⟨_, rfl⟩
      have tnOk : TOk ((n, [("a" : Str)]) : Tab) := ⟨isn, ⟨Nat.le_refl _, by show 1 ≤ 4; decide, fun f m => by rw [List.mem_singleton.mp m]; exact nm_a, List.pairwise_singleton _ _⟩⟩
      have inU : ∀ t ∈ us, t ∈ ts ∨ t = (n, [("a" : Str)]) := fun t m => by
        rw [eus] at m
        rcases List.mem_append.mp m with m | m
        · exact .inl m
        · exact .inr (List.mem_singleton.mp (List.mem_of_mem_take m))
      have okU : TsOk us := by
        refine ⟨?_, ?_, fun t m => ?_, ?_⟩
        · rw [eus, List.length_append]
          omega
        · rw [eus, List.length_append, List.length_take]
          show ts.length + min (5 - ts.length) 1 ≤ 5
          omega
        · rcases inU t m with m | rfl
          · exact ok.ok t m
          · exact tnOk
        · rw [eus]
          by_cases q : ts.length = 5
          · rw [show 5 - ts.length = 0 by omega, List.take_zero, List.append_nil]
            exact ok.nd
          · rw [List.take_of_length_le (by show 1 ≤ 5 - ts.length; omega), List.map_append]
            exact nodup_snoc ok.nd notin
      have tU : Tp (upd F24 p3 (.lst (xs ++ [V.ref tt].take (5 - ts.length)))) (.ref p3) (.list (us.map (tabD false))) := by
        refine .lst upd_same ?_
        rw [eus, List.map_append, List.map_take]
        exact (ta.same (s1224.trans s27)).app ((TpAll.cons (tNew.same s27) .nil).take (5 - ts.length))
      generalize upd F24 p3 (.lst (xs ++ [V.ref tt].take (5 - ts.length))) = F27 at *
      generalize upd H26 p3 (.lst (xs ++ [V.ref tt].take (5 - ts.length))) = H27 at *
      have s1227 := s1224.trans s27
      clear B26 e26 f3 s27 tNew s1224 hp3
      obtain ⟨u1, u2, u3⟩ := ts_bd okU
      refine fun x6 dx6 nx nd ne => shape_made B27.fh tU (by omega) (by omega) (by omega) nx nd ne (fun i e => by rw [shape_ok okU] at e; cases e) fun _ F28 H28 g28 sh28 => ?_
      rw [tabs_tupd] at sh28
      have B28 := B27.grow g28
      have nU : ∀ t ∈ ts, t.1 ≠ n := fun t m e => notin (List.mem_map.mpr ⟨t, m, e⟩)
      refine ⟨_, rfl, fun x7 dx7 nx7 nd7 ne7 => full_make (ts := ts) (R := R) (S := fun m => if m = n then [] else R m) B28 sh28 okU (rs12.same (s1227.trans g28.ff)) (fun t m => by rw [eus]; exact List.mem_append_left _ m) rok (by omega) hi (fun t m => if_neg (nU t m)) (fun t m no => ?_) nx7 nd7 ne7 fun G29 F29 H29 g29 B29 stN3 => ?_⟩
      · rcases inU t m with m | rfl
        · exact absurd m no
        · exact ⟨notin, if_pos rfl⟩
      have s29 : Same F12 F29 := s1227.trans (g28.ff.trans (g29.same cut_sub))
      have wd : StAt CS CT F29 x7 us (gT fun m => if m = n then [] else R m) := stN3.at_.same g29.fh
      obtain ⟨dv, s4, r4, hwd, _⟩ := id wd
      have f29 : Same F12 H29 := s29.trans B29.fh
      refine ⟨_, rfl, _, rfl, x2, dx, _, _, rfl, f29 _ _ hst, .base (.ins (B29.fh _ _ hwd) T2.clT T3.c_cls T.c_get T.c_tak T3.c_mro), first_same CT, F29, x2, .ref x7, ts, R, rfl, B29.fh, st12.same s29, ok, .inl ⟨x7, us, _, rfl, wd, okU.ok, _, rfl, ?_⟩⟩
      refine ⟨_, rfl, p, xs, rfl, .inl (.inl (.inl (f29 _ _ hp))), rfl, rfl, _, rfl, ifF ?_ ?_⟩
      · by_cases q : ts.length = 5
        · have e1 : us = ts := by rw [eus, show 5 - ts.length = 0 by omega, List.take_zero, List.append_nil]
          have e2 : sameR ts R (fun m => if m = n then [] else R m) = true := by
            unfold sameR
            rw [List.all_eq_true]
            exact fun t m => decide_eq_true (if_neg (nU t m)).symm
          rw [e1, e2, lx, q]
          simp
        · have e1 : ¬ ts = us := fun e => by
            have z := congrArg List.length e
            rw [eus, List.length_append, List.length_take] at z
            have y : ts.length = ts.length + min (5 - ts.length) 1 := z
            omega
          rw [decide_eq_false e1, Bool.false_and, lx]
          have e2 : decide (V.int (ts.length : Int) = V.int 5) = false := decide_eq_false fun e => by
            have z := V.int.inj e
            omega
          rw [e2]
          rfl
      · refine ⟨_, rfl, _, rfl, _, rfl, _, rfl, F12, x5, x, p, rd2, ts, R2, 10, rfl, f29, sh12, tb12, ok, ot12, rso12, rok2, by omega, fun H30 s30 => ⟨_, rfl, iteT ?_⟩⟩
        exact ⟨_, rfl, _, rfl, _, rfl, _, rfl, F12, x2, x, p, rd, ts, R, 9, rfl, f29.trans s30, sh12, tb12, ok, st12, rs12, rok, by omega, fun H31 s31 => k _⟩
end
end Fm

/-! ## K04R -/
set_option Elab.async false
set_option maxRecDepth 100000
set_option maxHeartbeats 4000000
namespace Fm
open PySem L2
section
variable {P : Program} {w : World} {K : PySem.W.Frag} {mg : Str → Option Value} {base : Heap}
abbrev s_BadShape_init : Stmt := inClass (topS 13) 0
abbrev sc_BadShape_initN : List Str := ["self", "at"]
abbrev ps_BadShape_init : List Str := ["self", "at"]
theorem sc_BadShape_init : FnScope sc_BadShape_initN ps_BadShape_init (defScope s_BadShape_init) := ⟨rfl, rfl, rfl, by decide +kernel, rfl, by decide +kernel, by decide +kernel⟩
theorem ok_BadShape {f : Addr} {fd : FuncData} (F : Fun K "__init__" "BadShape.__init__" s_BadShape_init f fd) : FnOk P w K mg base CX0 1 f fd ps_BadShape_init (spIn K "at") := by
  refine F.ok sc_BadShape_init (fun vs H Q E h => ?_) (fun cdv A outer s H vs Q E hr h => ?_)
  · obtain ⟨_, _, _, rfl, _⟩ := h
    rfl
  · obtain ⟨a, C, v, rfl, T, ha, hno, k⟩ := h
    exact ⟨_, pss_one (ps_ost (pv 0) (pv 1)), _, rfl, _, rfl, a, C, rfl, T, hno, .inl ⟨ha, fun dx h1 h2 => k dx h1 h2⟩⟩
abbrev s_BadName_init : Stmt := inClass (topS 14) 0
abbrev sc_BadName_initN : List Str := ["self", "value"]
abbrev ps_BadName_init : List Str := ["self", "value"]
theorem sc_BadName_init : FnScope sc_BadName_initN ps_BadName_init (defScope s_BadName_init) := ⟨rfl, rfl, rfl, by decide +kernel, rfl, by decide +kernel, by decide +kernel⟩
theorem ok_BadName {f : Addr} {fd : FuncData} (F : Fun K "__init__" "BadName.__init__" s_BadName_init f fd) : FnOk P w K mg base CX0 1 f fd ps_BadName_init (spIn K "value") := by
  refine F.ok sc_BadName_init (fun vs H Q E h => ?_) (fun cdv A outer s H vs Q E hr h => ?_)
  · obtain ⟨_, _, _, rfl, _⟩ := h
    rfl
  · obtain ⟨a, C, v, rfl, T, ha, hno, k⟩ := h
    exact ⟨_, pss_one (ps_ost (pv 0) (pv 1)), _, rfl, _, rfl, a, C, rfl, T, hno, .inl ⟨ha, fun dx h1 h2 => k dx h1 h2⟩⟩
abbrev s_BadRows_init : Stmt := inClass (topS 16) 0
abbrev sc_BadRows_initN : List Str := ["self", "value"]
abbrev ps_BadRows_init : List Str := ["self", "value"]
theorem sc_BadRows_init : FnScope sc_BadRows_initN ps_BadRows_init (defScope s_BadRows_init) := ⟨rfl, rfl, rfl, by decide +kernel, rfl, by decide +kernel, by decide +kernel⟩
theorem ok_BadRows {f : Addr} {fd : FuncData} (F : Fun K "__init__" "BadRows.__init__" s_BadRows_init f fd) : FnOk P w K mg base CX0 1 f fd ps_BadRows_init (spIn K "value") := by
  refine F.ok sc_BadRows_init (fun vs H Q E h => ?_) (fun cdv A outer s H vs Q E hr h => ?_)
  · obtain ⟨_, _, _, rfl, _⟩ := h
    rfl
  · obtain ⟨a, C, v, rfl, T, ha, hno, k⟩ := h
    exact ⟨_, pss_one (ps_ost (pv 0) (pv 1)), _, rfl, _, rfl, a, C, rfl, T, hno, .inl ⟨ha, fun dx h1 h2 => k dx h1 h2⟩⟩
end
end Fm

/-! ## FmErr -/
set_option Elab.async false
set_option maxRecDepth 100000
set_option maxHeartbeats 4000000
/-! What the classes of the own errors say of themselves, for the end of a law. -/
namespace Fm
open PySem L2
def veC : List Value := [.type "ValueError", .type "Exception", .type "BaseException", .type "object"]
/-- what an error's class says of itself -/
def exB (K : PySem.W.Frag) (C : Addr) : Bool :=
  decide (PySem.W.findIn K (.ref C) "__getattribute__" = some (some (.builtin "BaseException.__getattribute__"))) && decide (PySem.W.findIn K (.ref C) "__getattr__" = some none) && decide (PySem.W.subIn K (.ref C) (.type "BaseException") = some true) && PySem.W.hasDictIn K C &&
  decide (PySem.W.findIn K (.ref C) "__class__" = some (some (.builtin "object.__class__"))) && decide (PySem.W.mroIn K C (.type "object") = some true) && decide (PySem.W.typeIn K (.ref C) = some (.type "type")) && PySem.W.keepIn K (.ref C) &&
  decide (PySem.W.findIn K (.ref C) "__setattr__" = some (some (.builtin "object.__setattr__")))
structure ExF (K : PySem.W.Frag) (C : Addr) : Prop where
  ga : PySem.W.findIn K (.ref C) "__getattribute__" = some (some (.builtin "BaseException.__getattribute__"))
  gg : PySem.W.findIn K (.ref C) "__getattr__" = some none
  sb : PySem.W.subIn K (.ref C) (.type "BaseException") = some true
  hd : PySem.W.hasDictIn K C = true
  cc : PySem.W.findIn K (.ref C) "__class__" = some (some (.builtin "object.__class__"))
  mo : PySem.W.mroIn K C (.type "object") = some true
  ty : PySem.W.typeIn K (.ref C) = some (.type "type")
  kp : PySem.W.keepIn K (.ref C) = true
  sa : PySem.W.findIn K (.ref C) "__setattr__" = some (some (.builtin "object.__setattr__"))
theorem exB_ok {K : PySem.W.Frag} {C : Addr} (h : exB K C = true) : ExF K C := by
  simp only [exB, Bool.and_eq_true, decide_eq_true_eq] at h
  obtain ⟨⟨⟨⟨⟨⟨⟨⟨h1, h2⟩, h3⟩, h4⟩, h5⟩, h6⟩, h7⟩, h8⟩, h9⟩ := h
  exact ⟨h1, h2, h3, h4, h5, h6, h7, h8, h9⟩
theorem kbn_one {K : PySem.W.Frag} {fd : FuncData} {f : Str} (h : ∀ u w : Value, bindArgs fd ⟨[u], [(f, w)]⟩ = pure [(("self" : Str), u), (f, w)]) : KBn K fd ["self", f] 1 [f] (fun us ws => us ++ ws) (fun vs zs => vs ++ zs) :=
  ⟨fun s us ws _ l1 l2 => match us, ws, l1, l2 with | [u], [w], _, _ => .of_eq (h u w), fun r1 r2 => r1.append r2⟩
/-- a list of errors: those with a field (and its name), those without; cs: the classes, in this order -/
def errsB (K : PySem.W.Frag) (fs : List (Addr × Str)) (zs : List Addr) : Bool :=
  (fs.all fun p => exB K p.1 && decide (PySem.W.findIn K (.ref p.1) p.2 = some none)) && (zs.all fun c => exB K c && PySem.W.excIn K c veC "ValueError.__new__") &&
  ((List.range (fs.length + zs.length)).all fun i => (List.range (fs.length + zs.length)).all fun j => decide (PySem.W.subIn K (.ref ((fs.map (·.1) ++ zs).getD i 0)) (.ref ((fs.map (·.1) ++ zs).getD j 0)) = some (decide (i = j))))
theorem errs_f {K : PySem.W.Frag} {fs : List (Addr × Str)} {zs : List Addr} (h : errsB K fs zs = true) : ∀ p ∈ fs, ExF K p.1 ∧ PySem.W.findIn K (.ref p.1) p.2 = some none := fun p m => by
  simp only [errsB, Bool.and_eq_true, List.all_eq_true, decide_eq_true_eq] at h
  exact ⟨exB_ok (h.1.1 p m).1, (h.1.1 p m).2⟩
theorem errs_z {K : PySem.W.Frag} {fs : List (Addr × Str)} {zs : List Addr} (h : errsB K fs zs = true) : ∀ c ∈ zs, ExF K c ∧ PySem.W.excIn K c veC "ValueError.__new__" = true := fun p m => by
  simp only [errsB, Bool.and_eq_true, List.all_eq_true, decide_eq_true_eq] at h
  exact ⟨exB_ok (h.1.2 p m).1, (h.1.2 p m).2⟩
theorem errs_s {K : PySem.W.Frag} {fs : List (Addr × Str)} {zs : List Addr} (h : errsB K fs zs = true) (i j : Nat) (hi : i < fs.length + zs.length) (hj : j < fs.length + zs.length) : PySem.W.subIn K (.ref ((fs.map (·.1) ++ zs).getD i 0)) (.ref ((fs.map (·.1) ++ zs).getD j 0)) = some (decide (i = j)) := by
  simp only [errsB, Bool.and_eq_true, List.all_eq_true, decide_eq_true_eq, List.mem_range] at h
  exact h.2 i hi j hj
end Fm

/-! ## K04M -/
set_option Elab.async false
set_option maxRecDepth 100000
set_option maxHeartbeats 16000000
namespace Fm
open PySem L2
/-! ### what the top has written, the head -/
theorem all_mk {l : PySem.W.OpenLaw} {w : World} {K : PySem.W.Frag} {h : Heap} {mg : Str → Option Value} {fa CE CS CT CB CN CR CM f0 f1 f2 f3 f4 f5 f6 f7 f8 f9 f10 f11 f12 f13 f14 f15 f16 f17 f18 f19 f20 f21 f22 f23 f24 f25 f26 f27 f28 f29 f30 f31 f32 f33 : Addr} (X : K.In h) (G : h.Ns mainGlobals mg) (hfa : mg "law" = some (.ref fa))
    {od0 an0 od1 an1 od2 an2 od3 an3 od4 an4 od5 an5 od6 an6 od7 an7 od8 an8 od9 an9 od10 an10 od11 an11 od12 an12 od13 an13 od14 an14 od15 an15 od16 an16 od17 an17 od18 an18 od19 an19 od20 an20 od21 an21 od22 an22 od23 an23 od24 an24 od25 an25 od26 an26 od27 an27 od28 an28 od29 an29 od30 an30 od31 an31 od32 an32 od33 an33 : Option Addr}
    {sl0 sl1 sl2 sl3 sl4 sl5 sl6 sl7 sl8 sl9 sl10 sl11 sl12 sl13 sl14 sl15 sl16 sl17 sl18 sl19 sl20 sl21 sl22 sl23 sl24 sl25 sl26 sl27 sl28 sl29 sl30 sl31 sl32 sl33 : Array (Option Value)}
    {oc0 kV0 dc0 pm0 cd0 ct0 oc1 kV1 dc1 pm1 cd1 ct1 oc2 kV2 dc2 pm2 cd2 ct2 oc3 kV3 dc3 pm3 cd3 ct3 oc4 kV4 dc4 pm4 cd4 ct4 oc5 kV5 dc5 pm5 cd5 ct5 oc6 kV6 dc6 pm6 cd6 ct6 oc7 kV7 dc7 pm7 cd7 ct7 oc8 kV8 dc8 pm8 cd8 ct8 oc9 kV9 dc9 pm9 cd9 ct9 oc10 kV10 dc10 pm10 cd10 ct10 oc11 kV11 dc11 pm11 cd11 ct11 oc12 kV12 dc12 pm12 cd12 ct12 oc13 kV13 dc13 pm13 cd13 ct13 oc14 kV14 dc14 pm14 cd14 ct14 oc15 kV15 dc15 pm15 cd15 ct15 oc16 kV16 dc16 pm16 cd16 ct16 oc17 kV17 dc17 pm17 cd17 ct17 oc18 kV18 dc18 pm18 cd18 ct18 oc19 kV19 dc19 pm19 cd19 ct19 oc20 kV20 dc20 pm20 cd20 ct20 oc21 kV21 dc21 pm21 cd21 ct21 oc22 kV22 dc22 pm22 cd22 ct22 oc23 kV23 dc23 pm23 cd23 ct23 oc24 kV24 dc24 pm24 cd24 ct24 oc25 kV25 dc25 pm25 cd25 ct25 oc26 kV26 dc26 pm26 cd26 ct26 oc27 kV27 dc27 pm27 cd27 ct27 oc28 kV28 dc28 pm28 cd28 ct28 oc29 kV29 dc29 pm29 cd29 ct29 oc30 kV30 dc30 pm30 cd30 ct30 oc31 kV31 dc31 pm31 cd31 ct31 oc32 kV32 dc32 pm32 cd32 ct32 oc33 kV33 dc33 pm33 cd33 ct33 : Value}
    {nm0 qn0 : Str} {N0 : Addr} {bs0 : List Value} {sn0 : List Str} {sub0 : List Value} {ab0 : Bool} {col0 : Option Bool} {dd0 : Option Addr} {m00_ m10_ m20_ m30_ m50_ : Option Value}
    {nm1 qn1 : Str} {N1 : Addr} {bs1 : List Value} {sn1 : List Str} {sub1 : List Value} {ab1 : Bool} {col1 : Option Bool} {dd1 : Option Addr} {m01_ m11_ m21_ m31_ m51_ : Option Value}
    {nm2 qn2 : Str} {N2 : Addr} {bs2 : List Value} {sn2 : List Str} {sub2 : List Value} {ab2 : Bool} {col2 : Option Bool} {dd2 : Option Addr} {m02_ m12_ m22_ m32_ m52_ : Option Value}
    (aC_Shape : PySem.W.nsIn K mainGlobals "Shape" = some (some (.ref CS)))
    (aC_Store : PySem.W.nsIn K mainGlobals "Store" = some (some (.ref CT)))
    (aC_BadShape : PySem.W.nsIn K mainGlobals "BadShape" = some (some (.ref CB)))
    (aC_BadName : PySem.W.nsIn K mainGlobals "BadName" = some (some (.ref CN)))
    (aC_BadRows : PySem.W.nsIn K mainGlobals "BadRows" = some (some (.ref CR)))
    (aC_TooMany : PySem.W.nsIn K mainGlobals "TooMany" = some (some (.ref CM)))
    (xL0 : K.lookup CB = some (excClassObj nm0 qn0 CB N0 bs0 [.ref CE, .type "ValueError", .type "Exception", .type "BaseException", .type "object"] true sn0 sub0 ab0 col0 dd0 m00_ m10_ m20_ m30_ m50_ "ValueError.__new__"))
    (xL1 : K.lookup CN = some (excClassObj nm1 qn1 CN N1 bs1 [.ref CE, .type "ValueError", .type "Exception", .type "BaseException", .type "object"] true sn1 sub1 ab1 col1 dd1 m01_ m11_ m21_ m31_ m51_ "ValueError.__new__"))
    (xL2 : K.lookup CR = some (excClassObj nm2 qn2 CR N2 bs2 [.ref CE, .type "ValueError", .type "Exception", .type "BaseException", .type "object"] true sn2 sub2 ab2 col2 dd2 m02_ m12_ m22_ m32_ m52_ "ValueError.__new__"))
    (a0 : PySem.W.nsIn K mainGlobals "_law_pick" = some (some (.ref f0)))
    (l0 : K.lookup f0 = some ⟨oc0, od0, .func (PySem.W.fnOf "_law_pick" "_law_pick" (defArgs s_l_pick) (defBody s_l_pick) (defScope s_l_pick) .none kV0 dc0 pm0 an0 cd0 ct0), sl0⟩)
    (c0 : PySem.W.codeIn K cd0 "_law_pick" = true)
    (k0 : PySem.W.keepIn K (.ref f0) = true)
    (a1 : PySem.W.nsIn K mainGlobals "is_name" = some (some (.ref f1)))
    (l1 : K.lookup f1 = some ⟨oc1, od1, .func (PySem.W.fnOf "is_name" "is_name" (defArgs s_is_name) (defBody s_is_name) (defScope s_is_name) .none kV1 dc1 pm1 an1 cd1 ct1), sl1⟩)
    (c1 : PySem.W.codeIn K cd1 "is_name" = true)
    (k1 : PySem.W.keepIn K (.ref f1) = true)
    (a2 : PySem.W.nsIn K mainGlobals "is_row" = some (some (.ref f2)))
    (l2 : K.lookup f2 = some ⟨oc2, od2, .func (PySem.W.fnOf "is_row" "is_row" (defArgs s_is_row) (defBody s_is_row) (defScope s_is_row) .none kV2 dc2 pm2 an2 cd2 ct2), sl2⟩)
    (c2 : PySem.W.codeIn K cd2 "is_row" = true)
    (k2 : PySem.W.keepIn K (.ref f2) = true)
    (a3 : PySem.W.nsIn K mainGlobals "is_tuple" = some (some (.ref f3)))
    (l3 : K.lookup f3 = some ⟨oc3, od3, .func (PySem.W.fnOf "is_tuple" "is_tuple" (defArgs s_is_tuple) (defBody s_is_tuple) (defScope s_is_tuple) .none kV3 dc3 pm3 an3 cd3 ct3), sl3⟩)
    (c3 : PySem.W.codeIn K cd3 "is_tuple" = true)
    (k3 : PySem.W.keepIn K (.ref f3) = true)
    (a4 : PySem.W.nsIn K mainGlobals "are_names" = some (some (.ref f4)))
    (l4 : K.lookup f4 = some ⟨oc4, od4, .func (PySem.W.fnOf "are_names" "are_names" (defArgs s_are_names) (defBody s_are_names) (defScope s_are_names) .none kV4 dc4 pm4 an4 cd4 ct4), sl4⟩)
    (c4 : PySem.W.codeIn K cd4 "are_names" = true)
    (k4 : PySem.W.keepIn K (.ref f4) = true)
    (a5 : PySem.W.nsIn K mainGlobals "as_tuples" = some (some (.ref f5)))
    (l5 : K.lookup f5 = some ⟨oc5, od5, .func (PySem.W.fnOf "as_tuples" "as_tuples" (defArgs s_as_tuples) (defBody s_as_tuples) (defScope s_as_tuples) .none kV5 dc5 pm5 an5 cd5 ct5), sl5⟩)
    (c5 : PySem.W.codeIn K cd5 "as_tuples" = true)
    (k5 : PySem.W.keepIn K (.ref f5) = true)
    (a6 : PySem.W.nsIn K mainGlobals "is_table" = some (some (.ref f6)))
    (l6 : K.lookup f6 = some ⟨oc6, od6, .func (PySem.W.fnOf "is_table" "is_table" (defArgs s_is_table) (defBody s_is_table) (defScope s_is_table) .none kV6 dc6 pm6 an6 cd6 ct6), sl6⟩)
    (c6 : PySem.W.codeIn K cd6 "is_table" = true)
    (k6 : PySem.W.keepIn K (.ref f6) = true)
    (a7 : PySem.W.nsIn K mainGlobals "check_tables" = some (some (.ref f7)))
    (l7 : K.lookup f7 = some ⟨oc7, od7, .func (PySem.W.fnOf "check_tables" "check_tables" (defArgs s_check_tables) (defBody s_check_tables) (defScope s_check_tables) .none kV7 dc7 pm7 an7 cd7 ct7), sl7⟩)
    (c7 : PySem.W.codeIn K cd7 "check_tables" = true)
    (k7 : PySem.W.keepIn K (.ref f7) = true)
    (a8 : PySem.W.findIn K (.ref CS) "__init__" = some (some (.ref f8)))
    (i8 : PySem.W.isFn K (.ref f8) = true)
    (l8 : K.lookup f8 = some ⟨oc8, od8, .func (PySem.W.fnOf "__init__" "Shape.__init__" (defArgs s_Shape_init) (defBody s_Shape_init) (defScope s_Shape_init) .none kV8 dc8 pm8 an8 cd8 ct8), sl8⟩)
    (c8 : PySem.W.codeIn K cd8 "Shape.__init__" = true)
    (k8 : PySem.W.keepIn K (.ref f8) = true)
    (a9 : PySem.W.nsIn K mainGlobals "_law_bag" = some (some (.ref f9)))
    (l9 : K.lookup f9 = some ⟨oc9, od9, .func (PySem.W.fnOf "_law_bag" "_law_bag" (defArgs s_l_bag) (defBody s_l_bag) (defScope s_l_bag) .none kV9 dc9 pm9 an9 cd9 ct9), sl9⟩)
    (c9 : PySem.W.codeIn K cd9 "_law_bag" = true)
    (k9 : PySem.W.keepIn K (.ref f9) = true)
    (a10 : PySem.W.nsIn K mainGlobals "_law_name" = some (some (.ref f10)))
    (l10 : K.lookup f10 = some ⟨oc10, od10, .func (PySem.W.fnOf "_law_name" "_law_name" (defArgs s_l_name) (defBody s_l_name) (defScope s_l_name) .none kV10 dc10 pm10 an10 cd10 ct10), sl10⟩)
    (c10 : PySem.W.codeIn K cd10 "_law_name" = true)
    (k10 : PySem.W.keepIn K (.ref f10) = true)
    (a11 : PySem.W.nsIn K mainGlobals "_law_tables" = some (some (.ref f11)))
    (l11 : K.lookup f11 = some ⟨oc11, od11, .func (PySem.W.fnOf "_law_tables" "_law_tables" (defArgs s_l_tables) (defBody s_l_tables) (defScope s_l_tables) .none kV11 dc11 pm11 an11 cd11 ct11), sl11⟩)
    (c11 : PySem.W.codeIn K cd11 "_law_tables" = true)
    (k11 : PySem.W.keepIn K (.ref f11) = true)
    (a12 : PySem.W.nsIn K mainGlobals "_law_copied" = some (some (.ref f12)))
    (l12 : K.lookup f12 = some ⟨oc12, od12, .func (PySem.W.fnOf "_law_copied" "_law_copied" (defArgs s_l_copied) (defBody s_l_copied) (defScope s_l_copied) .none kV12 dc12 pm12 an12 cd12 ct12), sl12⟩)
    (c12 : PySem.W.codeIn K cd12 "_law_copied" = true)
    (k12 : PySem.W.keepIn K (.ref f12) = true)
    (a13 : PySem.W.nsIn K mainGlobals "_law_alike" = some (some (.ref f13)))
    (l13 : K.lookup f13 = some ⟨oc13, od13, .func (PySem.W.fnOf "_law_alike" "_law_alike" (defArgs s_l_alike) (defBody s_l_alike) (defScope s_l_alike) .none kV13 dc13 pm13 an13 cd13 ct13), sl13⟩)
    (c13 : PySem.W.codeIn K cd13 "_law_alike" = true)
    (k13 : PySem.W.keepIn K (.ref f13) = true)
    (a14 : PySem.W.nsIn K mainGlobals "_law_odd" = some (some (.ref f14)))
    (l14 : K.lookup f14 = some ⟨oc14, od14, .func (PySem.W.fnOf "_law_odd" "_law_odd" (defArgs s_l_odd) (defBody s_l_odd) (defScope s_l_odd) .none kV14 dc14 pm14 an14 cd14 ct14), sl14⟩)
    (c14 : PySem.W.codeIn K cd14 "_law_odd" = true)
    (k14 : PySem.W.keepIn K (.ref f14) = true)
    (a15 : PySem.W.nsIn K mainGlobals "is_integer" = some (some (.ref f15)))
    (l15 : K.lookup f15 = some ⟨oc15, od15, .func (PySem.W.fnOf "is_integer" "is_integer" (defArgs s_is_integer) (defBody s_is_integer) (defScope s_is_integer) .none kV15 dc15 pm15 an15 cd15 ct15), sl15⟩)
    (c15 : PySem.W.codeIn K cd15 "is_integer" = true)
    (k15 : PySem.W.keepIn K (.ref f15) = true)
    (a16 : PySem.W.nsIn K mainGlobals "is_value" = some (some (.ref f16)))
    (l16 : K.lookup f16 = some ⟨oc16, od16, .func (PySem.W.fnOf "is_value" "is_value" (defArgs s_is_value) (defBody s_is_value) (defScope s_is_value) .none kV16 dc16 pm16 an16 cd16 ct16), sl16⟩)
    (c16 : PySem.W.codeIn K cd16 "is_value" = true)
    (k16 : PySem.W.keepIn K (.ref f16) = true)
    (a17 : PySem.W.nsIn K mainGlobals "first_wrong_row" = some (some (.ref f17)))
    (l17 : K.lookup f17 = some ⟨oc17, od17, .func (PySem.W.fnOf "first_wrong_row" "first_wrong_row" (defArgs s_first_wrong_row) (defBody s_first_wrong_row) (defScope s_first_wrong_row) .none kV17 dc17 pm17 an17 cd17 ct17), sl17⟩)
    (c17 : PySem.W.codeIn K cd17 "first_wrong_row" = true)
    (k17 : PySem.W.keepIn K (.ref f17) = true)
    (a18 : PySem.W.nsIn K mainGlobals "check_rows" = some (some (.ref f18)))
    (l18 : K.lookup f18 = some ⟨oc18, od18, .func (PySem.W.fnOf "check_rows" "check_rows" (defArgs s_check_rows) (defBody s_check_rows) (defScope s_check_rows) .none kV18 dc18 pm18 an18 cd18 ct18), sl18⟩)
    (c18 : PySem.W.codeIn K cd18 "check_rows" = true)
    (k18 : PySem.W.keepIn K (.ref f18) = true)
    (a19 : PySem.W.findIn K (.ref CT) "__init__" = some (some (.ref f19)))
    (i19 : PySem.W.isFn K (.ref f19) = true)
    (l19 : K.lookup f19 = some ⟨oc19, od19, .func (PySem.W.fnOf "__init__" "Store.__init__" (defArgs s_Store_init) (defBody s_Store_init) (defScope s_Store_init) .none kV19 dc19 pm19 an19 cd19 ct19), sl19⟩)
    (c19 : PySem.W.codeIn K cd19 "Store.__init__" = true)
    (k19 : PySem.W.keepIn K (.ref f19) = true)
    (a20 : PySem.W.findIn K (.ref CS) "fields_of" = some (some (.ref f20)))
    (i20 : PySem.W.isFn K (.ref f20) = true)
    (l20 : K.lookup f20 = some ⟨oc20, od20, .func (PySem.W.fnOf "fields_of" "Shape.fields_of" (defArgs s_Shape_fields_of) (defBody s_Shape_fields_of) (defScope s_Shape_fields_of) .none kV20 dc20 pm20 an20 cd20 ct20), sl20⟩)
    (c20 : PySem.W.codeIn K cd20 "Shape.fields_of" = true)
    (k20 : PySem.W.keepIn K (.ref f20) = true)
    (a21 : PySem.W.findIn K (.ref CT) "rows_of" = some (some (.ref f21)))
    (i21 : PySem.W.isFn K (.ref f21) = true)
    (l21 : K.lookup f21 = some ⟨oc21, od21, .func (PySem.W.fnOf "rows_of" "Store.rows_of" (defArgs s_Store_rows_of) (defBody s_Store_rows_of) (defScope s_Store_rows_of) .none kV21 dc21 pm21 an21 cd21 ct21), sl21⟩)
    (c21 : PySem.W.codeIn K cd21 "Store.rows_of" = true)
    (k21 : PySem.W.keepIn K (.ref f21) = true)
    (a22 : PySem.W.nsIn K mainGlobals "_law_value" = some (some (.ref f22)))
    (l22 : K.lookup f22 = some ⟨oc22, od22, .func (PySem.W.fnOf "_law_value" "_law_value" (defArgs s_l_value) (defBody s_l_value) (defScope s_l_value) .none kV22 dc22 pm22 an22 cd22 ct22), sl22⟩)
    (c22 : PySem.W.codeIn K cd22 "_law_value" = true)
    (k22 : PySem.W.keepIn K (.ref f22) = true)
    (a23 : PySem.W.nsIn K mainGlobals "_law_rows" = some (some (.ref f23)))
    (l23 : K.lookup f23 = some ⟨oc23, od23, .func (PySem.W.fnOf "_law_rows" "_law_rows" (defArgs s_l_rows) (defBody s_l_rows) (defScope s_l_rows) .none kV23 dc23 pm23 an23 cd23 ct23), sl23⟩)
    (c23 : PySem.W.codeIn K cd23 "_law_rows" = true)
    (k23 : PySem.W.keepIn K (.ref f23) = true)
    (a24 : PySem.W.findIn K (.ref CS) "__eq__" = some (some (.ref f24)))
    (i24 : PySem.W.isFn K (.ref f24) = true)
    (l24 : K.lookup f24 = some ⟨oc24, od24, .func (PySem.W.fnOf "__eq__" "Shape.__eq__" (defArgs s_Shape_eq) (defBody s_Shape_eq) (defScope s_Shape_eq) .none kV24 dc24 pm24 an24 cd24 ct24), sl24⟩)
    (c24 : PySem.W.codeIn K cd24 "Shape.__eq__" = true)
    (k24 : PySem.W.keepIn K (.ref f24) = true)
    (a25 : PySem.W.findIn K (.ref CT) "__eq__" = some (some (.ref f25)))
    (i25 : PySem.W.isFn K (.ref f25) = true)
    (l25 : K.lookup f25 = some ⟨oc25, od25, .func (PySem.W.fnOf "__eq__" "Store.__eq__" (defArgs s_Store_eq) (defBody s_Store_eq) (defScope s_Store_eq) .none kV25 dc25 pm25 an25 cd25 ct25), sl25⟩)
    (c25 : PySem.W.codeIn K cd25 "Store.__eq__" = true)
    (k25 : PySem.W.keepIn K (.ref f25) = true)
    (a26 : PySem.W.nsIn K mainGlobals "_law_loose_rows" = some (some (.ref f26)))
    (l26 : K.lookup f26 = some ⟨oc26, od26, .func (PySem.W.fnOf "_law_loose_rows" "_law_loose_rows" (defArgs s_l_loose_rows) (defBody s_l_loose_rows) (defScope s_l_loose_rows) .none kV26 dc26 pm26 an26 cd26 ct26), sl26⟩)
    (c26 : PySem.W.codeIn K cd26 "_law_loose_rows" = true)
    (k26 : PySem.W.keepIn K (.ref f26) = true)
    (a27 : PySem.W.nsIn K mainGlobals "_law_loose_store" = some (some (.ref f27)))
    (l27 : K.lookup f27 = some ⟨oc27, od27, .func (PySem.W.fnOf "_law_loose_store" "_law_loose_store" (defArgs s_l_loose_store) (defBody s_l_loose_store) (defScope s_l_loose_store) .none kV27 dc27 pm27 an27 cd27 ct27), sl27⟩)
    (c27 : PySem.W.codeIn K cd27 "_law_loose_store" = true)
    (k27 : PySem.W.keepIn K (.ref f27) = true)
    (a28 : PySem.W.nsIn K mainGlobals "_law_tells" = some (some (.ref f28)))
    (l28 : K.lookup f28 = some ⟨oc28, od28, .func (PySem.W.fnOf "_law_tells" "_law_tells" (defArgs s_l_tells) (defBody s_l_tells) (defScope s_l_tells) .none kV28 dc28 pm28 an28 cd28 ct28), sl28⟩)
    (c28 : PySem.W.codeIn K cd28 "_law_tells" = true)
    (k28 : PySem.W.keepIn K (.ref f28) = true)
    (a29 : PySem.W.nsIn K mainGlobals "_law_changed" = some (some (.ref f29)))
    (l29 : K.lookup f29 = some ⟨oc29, od29, .func (PySem.W.fnOf "_law_changed" "_law_changed" (defArgs s_l_changed) (defBody s_l_changed) (defScope s_l_changed) .none kV29 dc29 pm29 an29 cd29 ct29), sl29⟩)
    (c29 : PySem.W.codeIn K cd29 "_law_changed" = true)
    (k29 : PySem.W.keepIn K (.ref f29) = true)
    (a30 : PySem.W.findIn K (.ref CB) "__init__" = some (some (.ref f30)))
    (t30 : PySem.W.typeIn K (.ref f30) = some (.type "function"))
    (l30 : K.lookup f30 = some ⟨oc30, od30, .func (PySem.W.fnOf "__init__" "BadShape.__init__" (defArgs s_BadShape_init) (defBody s_BadShape_init) (defScope s_BadShape_init) .none kV30 dc30 pm30 an30 cd30 ct30), sl30⟩)
    (c30 : PySem.W.codeIn K cd30 "BadShape.__init__" = true)
    (k30 : PySem.W.keepIn K (.ref f30) = true)
    (a31 : PySem.W.findIn K (.ref CN) "__init__" = some (some (.ref f31)))
    (t31 : PySem.W.typeIn K (.ref f31) = some (.type "function"))
    (l31 : K.lookup f31 = some ⟨oc31, od31, .func (PySem.W.fnOf "__init__" "BadName.__init__" (defArgs s_BadName_init) (defBody s_BadName_init) (defScope s_BadName_init) .none kV31 dc31 pm31 an31 cd31 ct31), sl31⟩)
    (c31 : PySem.W.codeIn K cd31 "BadName.__init__" = true)
    (k31 : PySem.W.keepIn K (.ref f31) = true)
    (a32 : PySem.W.findIn K (.ref CR) "__init__" = some (some (.ref f32)))
    (t32 : PySem.W.typeIn K (.ref f32) = some (.type "function"))
    (l32 : K.lookup f32 = some ⟨oc32, od32, .func (PySem.W.fnOf "__init__" "BadRows.__init__" (defArgs s_BadRows_init) (defBody s_BadRows_init) (defScope s_BadRows_init) .none kV32 dc32 pm32 an32 cd32 ct32), sl32⟩)
    (c32 : PySem.W.codeIn K cd32 "BadRows.__init__" = true)
    (k32 : PySem.W.keepIn K (.ref f32) = true)
    (a33 : PySem.W.nsIn K mainGlobals "law" = some (some (.ref f33)))
    (l33 : K.lookup f33 = some ⟨oc33, od33, .func (PySem.W.fnOf "law" "law" (defArgs s_law) (defBody s_law) (defScope s_law) .none kV33 dc33 pm33 an33 cd33 ct33), sl33⟩)
    (c33 : PySem.W.codeIn K cd33 "law" = true)
    (k33 : PySem.W.keepIn K (.ref f33) = true)
    (pg_Shape : PySem.W.plainGet K CS Str.empty = true)
    (hd_Shape : PySem.W.hasDictIn K CS = true)
    (po_Shape : PySem.W.plainOver K CS = true)
    (sa_Shape : PySem.W.findIn K (.ref CS) "__setattr__" = some (some (.builtin "object.__setattr__")))
    (mk_Shape : PySem.W.makesIn K CS = true)
    (kc_Shape : PySem.W.keepIn K (.ref CS) = true)
    (n_Shape_tables : PySem.W.findIn K (.ref CS) "tables" = some none)
    (pg_Store : PySem.W.plainGet K CT Str.empty = true)
    (hd_Store : PySem.W.hasDictIn K CT = true)
    (po_Store : PySem.W.plainOver K CT = true)
    (sa_Store : PySem.W.findIn K (.ref CT) "__setattr__" = some (some (.builtin "object.__setattr__")))
    (mk_Store : PySem.W.makesIn K CT = true)
    (kc_Store : PySem.W.keepIn K (.ref CT) = true)
    (n_Store_shape : PySem.W.findIn K (.ref CT) "shape" = some none)
    (n_Store__rows : PySem.W.findIn K (.ref CT) "_rows" = some none)
    (z_len : PySem.W.nsIn K mainGlobals "len" = some none)
    (z_list : PySem.W.nsIn K mainGlobals "list" = some none)
    (z_tuple : PySem.W.nsIn K mainGlobals "tuple" = some none)
    (z_isinstance : PySem.W.nsIn K mainGlobals "isinstance" = some none)
    (z_str : PySem.W.nsIn K mainGlobals "str" = some none)
    (z_dict : PySem.W.nsIn K mainGlobals "dict" = some none)
    (z_bool : PySem.W.nsIn K mainGlobals "bool" = some none)
    (z_int : PySem.W.nsIn K mainGlobals "int" = some none)
    (z_max : PySem.W.nsIn K mainGlobals "max" = some none)
    (z_all : PySem.W.nsIn K mainGlobals "all" = some none)
    (z_set : PySem.W.nsIn K mainGlobals "set" = some none)
    (z_range : PySem.W.nsIn K mainGlobals "range" = some none)
    (z_enumerate : PySem.W.nsIn K mainGlobals "enumerate" = some none)
    (z_min : PySem.W.nsIn K mainGlobals "min" = some none)
    (z_sum : PySem.W.nsIn K mainGlobals "sum" = some none)
    (g_LETTERS : PySem.W.nsIn K mainGlobals "LETTERS" = some (some (.str "abcdefghijklmnopqrstuvwxyz" tg0)))
    (g_LONGEST_NAME : PySem.W.nsIn K mainGlobals "LONGEST_NAME" = some (some (.int 8 tg1)))
    (g_MOST_TABLES : PySem.W.nsIn K mainGlobals "MOST_TABLES" = some (some (.int 5 tg2)))
    (g_MOST_FIELDS : PySem.W.nsIn K mainGlobals "MOST_FIELDS" = some (some (.int 4 tg3)))
    (g_LARGEST_VALUE : PySem.W.nsIn K mainGlobals "LARGEST_VALUE" = some (some (.int 1000000000 tg4)))
    (g_MOST_ROWS : PySem.W.nsIn K mainGlobals "MOST_ROWS" = some (some (.int 300 tg5)))
    (ccls : PySem.W.findIn K (.ref CS) "__class__" = some (some (.builtin "object.__class__")))
    (cget : PySem.W.specialIn K (.builtin "object.__class__") "__get__" = some (some (.builtin "getset_descriptor.__get__")))
    (ctak : PySem.W.takesIn K (.builtin "object.__class__") = some true)
    (cmro : PySem.W.mroIn K CS (.type "object") = some true)
    (cne : PySem.W.findIn K (.ref CS) "__ne__" = some (some (.builtin "object.__ne__")))
    (tcls : PySem.W.findIn K (.ref CT) "__class__" = some (some (.builtin "object.__class__")))
    (tmro : PySem.W.mroIn K CT (.type "object") = some true)
    (tne : PySem.W.findIn K (.ref CT) "__ne__" = some (some (.builtin "object.__ne__")))
    (kt_NoneType : PySem.W.kitOne K (.type "NoneType") (.ref CT) = some false)
    (kt_bool : PySem.W.kitOne K (.type "bool") (.ref CT) = some false)
    (kt_int : PySem.W.kitOne K (.type "int") (.ref CT) = some false)
    (kt_str : PySem.W.kitOne K (.type "str") (.ref CT) = some false)
    (kt_list : PySem.W.kitOne K (.type "list") (.ref CT) = some false)
    (kt_tuple : PySem.W.kitOne K (.type "tuple") (.ref CT) = some false)
    (kt_dict : PySem.W.kitOne K (.type "dict") (.ref CT) = some false)
    (nt_NoneType : PySem.W.notFirst K CT (.type "NoneType") = true)
    (nt_bool : PySem.W.notFirst K CT (.type "bool") = true)
    (nt_int : PySem.W.notFirst K CT (.type "int") = true)
    (nt_str : PySem.W.notFirst K CT (.type "str") = true)
    (nt_list : PySem.W.notFirst K CT (.type "list") = true)
    (nt_tuple : PySem.W.notFirst K CT (.type "tuple") = true)
    (nt_dict : PySem.W.notFirst K CT (.type "dict") = true)
    (ksh : PySem.W.kitOne K (.ref CS) (.ref CT) = some false)
    (nsh : PySem.W.notFirst K CT (.ref CS) = true)
    (ki_NoneType : PySem.W.kitOne K (.type "NoneType") (.ref CS) = some false)
    (ki_bool : PySem.W.kitOne K (.type "bool") (.ref CS) = some false)
    (ki_int : PySem.W.kitOne K (.type "int") (.ref CS) = some false)
    (ki_str : PySem.W.kitOne K (.type "str") (.ref CS) = some false)
    (ki_list : PySem.W.kitOne K (.type "list") (.ref CS) = some false)
    (ki_tuple : PySem.W.kitOne K (.type "tuple") (.ref CS) = some false)
    (ki_dict : PySem.W.kitOne K (.type "dict") (.ref CS) = some false)
    (nf_NoneType : PySem.W.notFirst K CS (.type "NoneType") = true)
    (nf_bool : PySem.W.notFirst K CS (.type "bool") = true)
    (nf_int : PySem.W.notFirst K CS (.type "int") = true)
    (nf_str : PySem.W.notFirst K CS (.type "str") = true)
    (nf_list : PySem.W.notFirst K CS (.type "list") = true)
    (nf_tuple : PySem.W.notFirst K CS (.type "tuple") = true)
    (nf_dict : PySem.W.notFirst K CS (.type "dict") = true)
    (errs : errsB K [(CB, "at"), (CN, "value"), (CR, "value")] [CM] = true) :
    ∃ fd : FuncData, (∀ (s : Shared) (v : Value), BindsTo s fd ⟨[v], []⟩ [("_law_script", v)]) ∧ ∀ base : Heap, K.In base → base.Ns mainGlobals mg → FnOk l.prog w K mg base CX0 43 fa fd ["_law_script"] (spLaw K) := by
  have e := hfa.symm.trans (PySem.W.mg_of X G a33)
  cases e
  have F0 := fun_mk (st := s_l_pick) l0 c0 k0
  have b0 := F0.binds (ps := ps_l_pick) fun _ _ _ _ _ _ us hl => match us, hl with | [_, _], _ => rfl
  have F1 := fun_mk (st := s_is_name) l1 c1 k1
  have b1 := F1.binds (ps := ps_is_name) fun _ _ _ _ _ _ us hl => match us, hl with | [_], _ => rfl
  have F2 := fun_mk (st := s_is_row) l2 c2 k2
  have b2 := F2.binds (ps := ps_is_row) fun _ _ _ _ _ _ us hl => match us, hl with | [_, _, _], _ => rfl
  have F3 := fun_mk (st := s_is_tuple) l3 c3 k3
  have b3 := F3.binds (ps := ps_is_tuple) fun _ _ _ _ _ _ us hl => match us, hl with | [_, _], _ => rfl
  have F4 := fun_mk (st := s_are_names) l4 c4 k4
  have b4 := F4.binds (ps := ps_are_names) fun _ _ _ _ _ _ us hl => match us, hl with | [_, _, _], _ => rfl
  have F5 := fun_mk (st := s_as_tuples) l5 c5 k5
  have b5 := F5.binds (ps := ps_as_tuples) fun _ _ _ _ _ _ us hl => match us, hl with | [_], _ => rfl
  have F6 := fun_mk (st := s_is_table) l6 c6 k6
  have b6 := F6.binds (ps := ps_is_table) fun _ _ _ _ _ _ us hl => match us, hl with | [_], _ => rfl
  have F7 := fun_mk (st := s_check_tables) l7 c7 k7
  have b7 := F7.binds (ps := ps_check_tables) fun _ _ _ _ _ _ us hl => match us, hl with | [_], _ => rfl
  have F8 := fun_mk (st := s_Shape_init) l8 c8 k8
  have b8 := F8.binds (ps := ps_Shape_init) fun _ _ _ _ _ _ us hl => match us, hl with | [_, _], _ => rfl
  have F9 := fun_mk (st := s_l_bag) l9 c9 k9
  have b9 := F9.binds (ps := ps_l_bag) fun _ _ _ _ _ _ us hl => match us, hl with | [_], _ => rfl
  have F10 := fun_mk (st := s_l_name) l10 c10 k10
  have b10 := F10.binds (ps := ps_l_name) fun _ _ _ _ _ _ us hl => match us, hl with | [_, _], _ => rfl
  have F11 := fun_mk (st := s_l_tables) l11 c11 k11
  have b11 := F11.binds (ps := ps_l_tables) fun _ _ _ _ _ _ us hl => match us, hl with | [_], _ => rfl
  have F12 := fun_mk (st := s_l_copied) l12 c12 k12
  have b12 := F12.binds (ps := ps_l_copied) fun _ _ _ _ _ _ us hl => match us, hl with | [_], _ => rfl
  have F13 := fun_mk (st := s_l_alike) l13 c13 k13
  have b13 := F13.binds (ps := ps_l_alike) fun _ _ _ _ _ _ us hl => match us, hl with | [_, _], _ => rfl
  have F14 := fun_mk (st := s_l_odd) l14 c14 k14
  have b14 := F14.binds (ps := ps_l_odd) fun _ _ _ _ _ _ us hl => match us, hl with | [_], _ => rfl
  have F15 := fun_mk (st := s_is_integer) l15 c15 k15
  have b15 := F15.binds (ps := ps_is_integer) fun _ _ _ _ _ _ us hl => match us, hl with | [_], _ => rfl
  have F16 := fun_mk (st := s_is_value) l16 c16 k16
  have b16 := F16.binds (ps := ps_is_value) fun _ _ _ _ _ _ us hl => match us, hl with | [_], _ => rfl
  have F17 := fun_mk (st := s_first_wrong_row) l17 c17 k17
  have b17 := F17.binds (ps := ps_first_wrong_row) fun _ _ _ _ _ _ us hl => match us, hl with | [_, _], _ => rfl
  have F18 := fun_mk (st := s_check_rows) l18 c18 k18
  have b18 := F18.binds (ps := ps_check_rows) fun _ _ _ _ _ _ us hl => match us, hl with | [_, _], _ => rfl
  have F19 := fun_mk (st := s_Store_init) l19 c19 k19
  have b19 := F19.binds (ps := ps_Store_init) fun _ _ _ _ _ _ us hl => match us, hl with | [_, _, _], _ => rfl
  have F20 := fun_mk (st := s_Shape_fields_of) l20 c20 k20
  have b20 := F20.binds (ps := ps_Shape_fields_of) fun _ _ _ _ _ _ us hl => match us, hl with | [_, _], _ => rfl
  have F21 := fun_mk (st := s_Store_rows_of) l21 c21 k21
  have b21 := F21.binds (ps := ps_Store_rows_of) fun _ _ _ _ _ _ us hl => match us, hl with | [_, _], _ => rfl
  have F22 := fun_mk (st := s_l_value) l22 c22 k22
  have b22 := F22.binds (ps := ps_l_value) fun _ _ _ _ _ _ us hl => match us, hl with | [_], _ => rfl
  have F23 := fun_mk (st := s_l_rows) l23 c23 k23
  have b23 := F23.binds (ps := ps_l_rows) fun _ _ _ _ _ _ us hl => match us, hl with | [_, _], _ => rfl
  have F24 := fun_mk (st := s_Shape_eq) l24 c24 k24
  have b24 := F24.binds (ps := ps_Shape_eq) fun _ _ _ _ _ _ us hl => match us, hl with | [_, _], _ => rfl
  have F25 := fun_mk (st := s_Store_eq) l25 c25 k25
  have b25 := F25.binds (ps := ps_Store_eq) fun _ _ _ _ _ _ us hl => match us, hl with | [_, _], _ => rfl
  have F26 := fun_mk (st := s_l_loose_rows) l26 c26 k26
  have b26 := F26.binds (ps := ps_l_loose_rows) fun _ _ _ _ _ _ us hl => match us, hl with | [_, _], _ => rfl
  have F27 := fun_mk (st := s_l_loose_store) l27 c27 k27
  have b27 := F27.binds (ps := ps_l_loose_store) fun _ _ _ _ _ _ us hl => match us, hl with | [_, _, _], _ => rfl
  have F28 := fun_mk (st := s_l_tells) l28 c28 k28
  have b28 := F28.binds (ps := ps_l_tells) fun _ _ _ _ _ _ us hl => match us, hl with | [_, _, _, _], _ => rfl
  have F29 := fun_mk (st := s_l_changed) l29 c29 k29
  have b29 := F29.binds (ps := ps_l_changed) fun _ _ _ _ _ _ us hl => match us, hl with | [_, _, _], _ => rfl
  have F30 := fun_mk (st := s_BadShape_init) l30 c30 k30
  have b30 := F30.binds (ps := ps_BadShape_init) fun _ _ _ _ _ _ us hl => match us, hl with | [_, _], _ => rfl
  have F31 := fun_mk (st := s_BadName_init) l31 c31 k31
  have b31 := F31.binds (ps := ps_BadName_init) fun _ _ _ _ _ _ us hl => match us, hl with | [_, _], _ => rfl
  have F32 := fun_mk (st := s_BadRows_init) l32 c32 k32
  have b32 := F32.binds (ps := ps_BadRows_init) fun _ _ _ _ _ _ us hl => match us, hl with | [_, _], _ => rfl
  have F33 := fun_mk (st := s_law) l33 c33 k33
  have b33 := F33.binds (ps := ps_law) fun _ _ _ _ _ _ us hl => match us, hl with | [_], _ => rfl
  refine ⟨PySem.W.fnOf "law" "law" (defArgs s_law) (defBody s_law) (defScope s_law) .none kV33 dc33 pm33 an33 cd33 ct33, fun s v => .of_eq rfl, fun base _ _ => ?_⟩
  obtain ⟨E_BadShape, nf_BadShape⟩ := errs_f errs (CB, "at") (by simp)
  obtain ⟨E_BadName, nf_BadName⟩ := errs_f errs (CN, "value") (by simp)
  obtain ⟨E_BadRows, nf_BadRows⟩ := errs_f errs (CR, "value") (by simp)
  obtain ⟨E_TooMany, xx_TooMany⟩ := errs_z errs CM (by simp)
  have X_BadShape : Xf l.prog w K mg base "BadShape" CB "at" := ⟨f30, _, ⟨⟨_, _, _, _, _, _, _, _, _, _, _, _, _, _, _, xL0, rfl⟩, E_BadShape.sa, E_BadShape.sb, E_BadShape.ty, E_BadShape.kp⟩, a30, t30, ok_BadShape F30, PySem.W.mg_of X G aC_BadShape, b30, kbn_one fun _ _ => rfl, nf_BadShape⟩
  have X_BadName : Xf l.prog w K mg base "BadName" CN "value" := ⟨f31, _, ⟨⟨_, _, _, _, _, _, _, _, _, _, _, _, _, _, _, xL1, rfl⟩, E_BadName.sa, E_BadName.sb, E_BadName.ty, E_BadName.kp⟩, a31, t31, ok_BadName F31, PySem.W.mg_of X G aC_BadName, b31, kbn_one fun _ _ => rfl, nf_BadName⟩
  have X_BadRows : Xf l.prog w K mg base "BadRows" CR "value" := ⟨f32, _, ⟨⟨_, _, _, _, _, _, _, _, _, _, _, _, _, _, _, xL2, rfl⟩, E_BadRows.sa, E_BadRows.sb, E_BadRows.ty, E_BadRows.kp⟩, a32, t32, ok_BadRows F32, PySem.W.mg_of X G aC_BadRows, b32, kbn_one fun _ _ => rfl, nf_BadRows⟩
  have X_TooMany : X0 K mg "TooMany" CM := ⟨_, _, _, _, PySem.F.excBase_ValueError, xx_TooMany, PySem.W.mg_of X G aC_TooMany, E_TooMany.kp, E_TooMany.sb, E_TooMany.ty⟩
  have T : Txt K mg CS := ⟨PySem.W.mg_none_of X G z_len, PySem.W.mg_none_of X G z_list, PySem.W.mg_none_of X G z_tuple, PySem.W.mg_none_of X G z_isinstance, PySem.W.mg_none_of X G z_str, PySem.W.mg_none_of X G z_dict, PySem.W.mg_none_of X G z_bool, PySem.W.mg_none_of X G z_int, PySem.W.mg_none_of X G z_max, PySem.W.mg_none_of X G z_all, PySem.W.mg_none_of X G z_set, PySem.W.mg_none_of X G z_range, PySem.W.mg_none_of X G z_enumerate, PySem.W.mg_none_of X G z_min, PySem.W.mg_none_of X G z_sum,
    ⟨_, PySem.W.mg_of X G g_LETTERS⟩, ⟨_, PySem.W.mg_of X G g_LONGEST_NAME⟩, ⟨_, PySem.W.mg_of X G g_MOST_TABLES⟩, ⟨_, PySem.W.mg_of X G g_MOST_FIELDS⟩, ⟨_, PySem.W.mg_of X G g_LARGEST_VALUE⟩, ⟨_, PySem.W.mg_of X G g_MOST_ROWS⟩,
    PySem.W.mg_of X G aC_Shape, ⟨pg_Shape, hd_Shape, po_Shape, sa_Shape⟩, n_Shape_tables, ccls, cget, ctak, cmro, cne,
    fun n hn => by
      simp only [List.mem_cons, List.mem_nil_iff, or_false] at hn
      rcases hn with rfl | rfl | rfl | rfl | rfl | rfl | rfl
      · exact ki_NoneType
      · exact ki_bool
      · exact ki_int
      · exact ki_str
      · exact ki_list
      · exact ki_tuple
      · exact ki_dict
    , fun n hn => by
      simp only [List.mem_cons, List.mem_nil_iff, or_false] at hn
      rcases hn with rfl | rfl | rfl | rfl | rfl | rfl | rfl
      · exact nf_NoneType
      · exact nf_bool
      · exact nf_int
      · exact nf_str
      · exact nf_list
      · exact nf_tuple
      · exact nf_dict
    ⟩
  have T2 : Tx2 K mg CT := ⟨PySem.W.mg_of X G aC_Store, ⟨pg_Store, hd_Store, po_Store, sa_Store⟩, n_Store_shape, n_Store__rows⟩
  have T3 : Tx3 K CS CT := ⟨tcls, tmro, tne,
    fun n hn => by
      simp only [List.mem_cons, List.mem_nil_iff, or_false] at hn
      rcases hn with rfl | rfl | rfl | rfl | rfl | rfl | rfl
      · exact kt_NoneType
      · exact kt_bool
      · exact kt_int
      · exact kt_str
      · exact kt_list
      · exact kt_tuple
      · exact kt_dict
    , fun n hn => by
      simp only [List.mem_cons, List.mem_nil_iff, or_false] at hn
      rcases hn with rfl | rfl | rfl | rfl | rfl | rfl | rfl
      · exact nt_NoneType
      · exact nt_bool
      · exact nt_int
      · exact nt_str
      · exact nt_list
      · exact nt_tuple
      · exact nt_dict
    , ksh, nsh⟩
  have U1 : Df l.prog w K mg base "_law_bag" 1 ps_l_bag (spBag K) := ⟨f9, _, ok_l_bag F9 T, PySem.W.mg_of X G a9, k9, b9⟩
  have U2 : Df l.prog w K mg base "_law_pick" 1 ps_l_pick spPick := ⟨f0, _, ok_l_pick F0 T, PySem.W.mg_of X G a0, k0, b0⟩
  have U3 : Df l.prog w K mg base "_law_name" 2 ps_l_name spName := ⟨f10, _, ok_l_name F10 T U2, PySem.W.mg_of X G a10, k10, b10⟩
  have U4 : Df l.prog w K mg base "_law_tables" 3 ps_l_tables spTables := ⟨f11, _, ok_l_tables F11 T U2 U3, PySem.W.mg_of X G a11, k11, b11⟩
  have U5 : Df l.prog w K mg base "_law_value" 2 ps_l_value spValue := ⟨f22, _, ok_l_value F22 T U2, PySem.W.mg_of X G a22, k22, b22⟩
  have U6 : Df l.prog w K mg base "_law_rows" 3 ps_l_rows spRows := ⟨f23, _, ok_l_rows F23 T U2 U5, PySem.W.mg_of X G a23, k23, b23⟩
  have U7 : Df l.prog w K mg base "is_row" 1 ps_is_row (spIsRow K) := ⟨f2, _, ok_is_row F2 T, PySem.W.mg_of X G a2, k2, b2⟩
  have U8 : Df l.prog w K mg base "is_tuple" 1 ps_is_tuple (spIsTuple K) := ⟨f3, _, ok_is_tuple F3 T, PySem.W.mg_of X G a3, k3, b3⟩
  have U9 : Df l.prog w K mg base "is_name" 1 ps_is_name (spIsName K) := ⟨f1, _, ok_is_name F1 T, PySem.W.mg_of X G a1, k1, b1⟩
  have U10 : Df l.prog w K mg base "are_names" 2 ps_are_names (spAreNames K) := ⟨f4, _, ok_are_names F4 T U7 U9, PySem.W.mg_of X G a4, k4, b4⟩
  have U11 : Df l.prog w K mg base "is_table" 3 ps_is_table spIsTable := ⟨f6, _, ok_is_table F6 T U8 U9 U10, PySem.W.mg_of X G a6, k6, b6⟩
  have U12 : DfX l.prog w K mg base "check_tables" 4 ps_check_tables (spCheck CB) := ⟨f7, _, ok_check_tables F7 T X_BadShape U7 U11, PySem.W.mg_of X G a7, k7, b7⟩
  have U13 : Df l.prog w K mg base "as_tuples" 40 ps_as_tuples (spTup 40) := ⟨f5, _, ok_as_tuples F5 T (PySem.W.mg_of X G a5) b5 40, PySem.W.mg_of X G a5, k5, b5⟩
  have U14 : DcX l.prog w K mg base "Shape" CS 41 ps_Shape_init (spShInit CS CB) := ⟨f8, _, ok_Shape_init F8 T U12 U13, PySem.W.mg_of X G aC_Shape, ⟨mk_Shape, a8, i8, kc_Shape⟩, b8⟩
  have U15 : Df l.prog w K mg base "is_integer" 1 ps_is_integer spIsInt := ⟨f15, _, ok_is_integer F15 T, PySem.W.mg_of X G a15, k15, b15⟩
  have U16 : Df l.prog w K mg base "is_value" 2 ps_is_value spIsVal := ⟨f16, _, ok_is_value F16 T U15, PySem.W.mg_of X G a16, k16, b16⟩
  have U17 : Df l.prog w K mg base "first_wrong_row" 3 ps_first_wrong_row spFirst := ⟨f17, _, ok_first_wrong_row F17 T U7 U16, PySem.W.mg_of X G a17, k17, b17⟩
  have U18 : DfX l.prog w K mg base "check_rows" 4 ps_check_rows (spCheckR CS CR) := ⟨f18, _, ok_check_rows F18 T X_BadRows U17, PySem.W.mg_of X G a18, k18, b18⟩
  have U19 : DcX l.prog w K mg base "Store" CT 41 ps_Store_init (spStInit CS CT CR) := ⟨f19, _, ok_Store_init F19 T T2 X_TooMany U18 U13, PySem.W.mg_of X G aC_Store, ⟨mk_Store, a19, i19, kc_Store⟩, b19⟩
  have U20 : Df l.prog w K mg base "_law_loose_rows" 2 ps_l_loose_rows spLooseRows := ⟨f26, _, ok_l_loose_rows F26 T U2, PySem.W.mg_of X G a26, k26, b26⟩
  have U21 : Df l.prog w K mg base "_law_loose_store" 3 ps_l_loose_store spLooseStore := ⟨f27, _, ok_l_loose_store F27 T U2 U20, PySem.W.mg_of X G a27, k27, b27⟩
  have U22 : DmX l.prog w K mg base CS "fields_of" 3 ps_Shape_fields_of (spFieldsE CS CN) := ⟨f20, _, ok_Shape_fields_of F20 T X_BadName, ⟨a20, i20, k20⟩, b20⟩
  have U23 : DmX l.prog w K mg base CT "rows_of" 4 ps_Store_rows_of (spRowsOf CS CT CN) := ⟨f21, _, ok_Store_rows_of F21 T T2 U22, ⟨a21, i21, k21⟩, b21⟩
  have U24 : Deq l.prog w K mg base CS 1 ps_Shape_eq (spShEq CS) := ⟨f24, _, ok_Shape_eq F24 T, a24, i24, b24⟩
  have U25 : Df l.prog w K mg base "_law_alike" 40 ps_l_alike (spAlike 40) := ⟨f13, _, ok_l_alike F13 T (PySem.W.mg_of X G a13) b13 40, PySem.W.mg_of X G a13, k13, b13⟩
  have U26 : Df l.prog w K mg base "_law_tells" 41 ps_l_tells (spTells CS CT) := ⟨f28, _, ok_l_tells F28 T T2 U23 U24 U25, PySem.W.mg_of X G a28, k28, b28⟩
  have U27 : Df l.prog w K mg base "_law_changed" 3 ps_l_changed spChanged := ⟨f29, _, ok_l_changed F29 T U2 U5, PySem.W.mg_of X G a29, k29, b29⟩
  have U28 : Df l.prog w K mg base "_law_copied" 40 ps_l_copied (spCopied 40) := ⟨f12, _, ok_l_copied F12 T (PySem.W.mg_of X G a12) b12 40, PySem.W.mg_of X G a12, k12, b12⟩
  have U29 : Df l.prog w K mg base "_law_odd" 2 ps_l_odd spOdd := ⟨f14, _, ok_l_odd F14 T U2, PySem.W.mg_of X G a14, k14, b14⟩
  have U30 : Deq l.prog w K mg base CT 2 ps_Store_eq (spStEq K CS CT) := ⟨f25, _, ok_Store_eq F25 T T2 T3 U24, a25, i25, b25⟩
  exact ok_law F33 T T2 T3 U1 U2 U3 U4 U6 U14 U19 U21 U26 U27 U28 U25 U29 U30
theorem walk {l : PySem.W.OpenLaw} {q : Program} {loose : List Str} {XP : (Str → Option Value) → Heap → Prop} {YP : World → Heap → Prop} {d : DefRec} {K : Params → PySem.W.Frag} (hn : l.most = some 63) (hdf : d.params.defaults = [])
    (hY : ∀ (w : World) (h : Heap), YP w h → (K w.params).In h)
    (F : ∀ (w : World) (mg : Str → Option Value) (fa : Addr) (h : Heap), (K w.params).In h → h.Ns mainGlobals mg → mg d.name = some (.ref fa) →
      ∃ fd : FuncData, (∀ (s : Shared) (u : Value), BindsTo s fd ⟨[u], []⟩ [("_law_script", u)]) ∧ ∀ base : Heap, (K w.params).In base → base.Ns mainGlobals mg → FnOk l.prog w (K w.params) mg base CX0 43 fa fd ["_law_script"] (spLaw (K w.params))) :
    PySem.W.WalkO q loose XP YP l.row.toRowW d [] (fun f vs => PySem.call f vs) :=
  L2.walk_of (n := 63) (k := 43) (x := "_law_script") (CX := fun _ => CX0) (sp := fun w => spLaw (K w.params)) hn (by decide) hdf ⟨rfl, by decide, by decide⟩ hY F (fun _ _ a ns hl _ hS => ⟨a, ns, rfl, hS, hl, fun _ => rfl⟩) fun _ _ _ _ _ z => z
end Fm

/-! ## K04N -/
set_option Elab.async false
set_option maxRecDepth 100000
open PySem PySem.W PyProof.Rows in
set_option maxRecDepth 100000 in
set_option maxHeartbeats 0 in
theorem PySem.Challenge.cw_firstmet_k04_stores_kept_holds : PySem.Challenge.rw_firstmet_k04_stores_kept.Holds := by
  w_on; o_law; k_head; (case hw => w_witness2)
  k_fill
  refine Fm.walk (l := PySem.Challenge.rw_firstmet_k04_stores_kept) rfl rfl (fun w h Y => PySem.W.kIn_of Y) ?F
  case F =>
    intro w mg fa h KX G hmg
    refine' Fm.all_mk KX G hmg ?aC_Shape ?aC_Store ?aC_BadShape ?aC_BadName ?aC_BadRows ?aC_TooMany ?xL0 ?xL1 ?xL2 ?a0 ?l0 ?c0 ?k0 ?a1 ?l1 ?c1 ?k1 ?a2 ?l2 ?c2 ?k2 ?a3 ?l3 ?c3 ?k3 ?a4 ?l4 ?c4 ?k4 ?a5 ?l5 ?c5 ?k5 ?a6 ?l6 ?c6 ?k6 ?a7 ?l7 ?c7 ?k7 ?a8 ?i8 ?l8 ?c8 ?k8 ?a9 ?l9 ?c9 ?k9 ?a10 ?l10 ?c10 ?k10 ?a11 ?l11 ?c11 ?k11 ?a12 ?l12 ?c12 ?k12 ?a13 ?l13 ?c13 ?k13 ?a14 ?l14 ?c14 ?k14 ?a15 ?l15 ?c15 ?k15 ?a16 ?l16 ?c16 ?k16 ?a17 ?l17 ?c17 ?k17 ?a18 ?l18 ?c18 ?k18 ?a19 ?i19 ?l19 ?c19 ?k19 ?a20 ?i20 ?l20 ?c20 ?k20 ?a21 ?i21 ?l21 ?c21 ?k21 ?a22 ?l22 ?c22 ?k22 ?a23 ?l23 ?c23 ?k23 ?a24 ?i24 ?l24 ?c24 ?k24 ?a25 ?i25 ?l25 ?c25 ?k25 ?a26 ?l26 ?c26 ?k26 ?a27 ?l27 ?c27 ?k27 ?a28 ?l28 ?c28 ?k28 ?a29 ?l29 ?c29 ?k29 ?a30 ?t30 ?l30 ?c30 ?k30 ?a31 ?t31 ?l31 ?c31 ?k31 ?a32 ?t32 ?l32 ?c32 ?k32 ?a33 ?l33 ?c33 ?k33 ?pg_Shape ?hd_Shape ?po_Shape ?sa_Shape ?mk_Shape ?kc_Shape ?n_Shape_tables ?pg_Store ?hd_Store ?po_Store ?sa_Store ?mk_Store ?kc_Store ?n_Store_shape ?n_Store__rows ?z_len ?z_list ?z_tuple ?z_isinstance ?z_str ?z_dict ?z_bool ?z_int ?z_max ?z_all ?z_set ?z_range ?z_enumerate ?z_min ?z_sum ?g_LETTERS ?g_LONGEST_NAME ?g_MOST_TABLES ?g_MOST_FIELDS ?g_LARGEST_VALUE ?g_MOST_ROWS ?ccls ?cget ?ctak ?cmro ?cne ?tcls ?tmro ?tne ?kt_NoneType ?kt_bool ?kt_int ?kt_str ?kt_list ?kt_tuple ?kt_dict ?nt_NoneType ?nt_bool ?nt_int ?nt_str ?nt_list ?nt_tuple ?nt_dict ?ksh ?nsh ?ki_NoneType ?ki_bool ?ki_int ?ki_str ?ki_list ?ki_tuple ?ki_dict ?nf_NoneType ?nf_bool ?nf_int ?nf_str ?nf_list ?nf_tuple ?nf_dict ?errs
    (case aC_Shape => k_is)
    (case aC_Store => k_is)
    (case aC_BadShape => k_is)
    (case aC_BadName => k_is)
    (case aC_BadRows => k_is)
    (case aC_TooMany => k_is)
    (case xL0 => k_is)
    (case xL1 => k_is)
    (case xL2 => k_is)
    (case a0 => k_is)
    (case l0 => k_is)
    (case c0 => k_is)
    (case k0 => k_is)
    (case a1 => k_is)
    (case l1 => k_is)
    (case c1 => k_is)
    (case k1 => k_is)
    (case a2 => k_is)
    (case l2 => k_is)
    (case c2 => k_is)
    (case k2 => k_is)
    (case a3 => k_is)
    (case l3 => k_is)
    (case c3 => k_is)
    (case k3 => k_is)
    (case a4 => k_is)
    (case l4 => k_is)
    (case c4 => k_is)
    (case k4 => k_is)
    (case a5 => k_is)
    (case l5 => k_is)
    (case c5 => k_is)
    (case k5 => k_is)
    (case a6 => k_is)
    (case l6 => k_is)
    (case c6 => k_is)
    (case k6 => k_is)
    (case a7 => k_is)
    (case l7 => k_is)
    (case c7 => k_is)
    (case k7 => k_is)
    (case a8 => k_is)
    (case i8 => k_is)
    (case l8 => k_is)
    (case c8 => k_is)
    (case k8 => k_is)
    (case a9 => k_is)
    (case l9 => k_is)
    (case c9 => k_is)
    (case k9 => k_is)
    (case a10 => k_is)
    (case l10 => k_is)
    (case c10 => k_is)
    (case k10 => k_is)
    (case a11 => k_is)
    (case l11 => k_is)
    (case c11 => k_is)
    (case k11 => k_is)
    (case a12 => k_is)
    (case l12 => k_is)
    (case c12 => k_is)
    (case k12 => k_is)
    (case a13 => k_is)
    (case l13 => k_is)
    (case c13 => k_is)
    (case k13 => k_is)
    (case a14 => k_is)
    (case l14 => k_is)
    (case c14 => k_is)
    (case k14 => k_is)
    (case a15 => k_is)
    (case l15 => k_is)
    (case c15 => k_is)
    (case k15 => k_is)
    (case a16 => k_is)
    (case l16 => k_is)
    (case c16 => k_is)
    (case k16 => k_is)
    (case a17 => k_is)
    (case l17 => k_is)
    (case c17 => k_is)
    (case k17 => k_is)
    (case a18 => k_is)
    (case l18 => k_is)
    (case c18 => k_is)
    (case k18 => k_is)
    (case a19 => k_is)
    (case i19 => k_is)
    (case l19 => k_is)
    (case c19 => k_is)
    (case k19 => k_is)
    (case a20 => k_is)
    (case i20 => k_is)
    (case l20 => k_is)
    (case c20 => k_is)
    (case k20 => k_is)
    (case a21 => k_is)
    (case i21 => k_is)
    (case l21 => k_is)
    (case c21 => k_is)
    (case k21 => k_is)
    (case a22 => k_is)
    (case l22 => k_is)
    (case c22 => k_is)
    (case k22 => k_is)
    (case a23 => k_is)
    (case l23 => k_is)
    (case c23 => k_is)
    (case k23 => k_is)
    (case a24 => k_is)
    (case i24 => k_is)
    (case l24 => k_is)
    (case c24 => k_is)
    (case k24 => k_is)
    (case a25 => k_is)
    (case i25 => k_is)
    (case l25 => k_is)
    (case c25 => k_is)
    (case k25 => k_is)
    (case a26 => k_is)
    (case l26 => k_is)
    (case c26 => k_is)
    (case k26 => k_is)
    (case a27 => k_is)
    (case l27 => k_is)
    (case c27 => k_is)
    (case k27 => k_is)
    (case a28 => k_is)
    (case l28 => k_is)
    (case c28 => k_is)
    (case k28 => k_is)
    (case a29 => k_is)
    (case l29 => k_is)
    (case c29 => k_is)
    (case k29 => k_is)
    (case a30 => k_is)
    (case t30 => k_is)
    (case l30 => k_is)
    (case c30 => k_is)
    (case k30 => k_is)
    (case a31 => k_is)
    (case t31 => k_is)
    (case l31 => k_is)
    (case c31 => k_is)
    (case k31 => k_is)
    (case a32 => k_is)
    (case t32 => k_is)
    (case l32 => k_is)
    (case c32 => k_is)
    (case k32 => k_is)
    (case a33 => k_is)
    (case l33 => k_is)
    (case c33 => k_is)
    (case k33 => k_is)
    (case pg_Shape => k_is)
    (case hd_Shape => k_is)
    (case po_Shape => k_is)
    (case sa_Shape => k_is)
    (case mk_Shape => k_is)
    (case kc_Shape => k_is)
    (case n_Shape_tables => k_is)
    (case pg_Store => k_is)
    (case hd_Store => k_is)
    (case po_Store => k_is)
    (case sa_Store => k_is)
    (case mk_Store => k_is)
    (case kc_Store => k_is)
    (case n_Store_shape => k_is)
    (case n_Store__rows => k_is)
    (case z_len => k_is)
    (case z_list => k_is)
    (case z_tuple => k_is)
    (case z_isinstance => k_is)
    (case z_str => k_is)
    (case z_dict => k_is)
    (case z_bool => k_is)
    (case z_int => k_is)
    (case z_max => k_is)
    (case z_all => k_is)
    (case z_set => k_is)
    (case z_range => k_is)
    (case z_enumerate => k_is)
    (case z_min => k_is)
    (case z_sum => k_is)
    (case g_LETTERS => k_is)
    (case g_LONGEST_NAME => k_is)
    (case g_MOST_TABLES => k_is)
    (case g_MOST_FIELDS => k_is)
    (case g_LARGEST_VALUE => k_is)
    (case g_MOST_ROWS => k_is)
    (case ccls => k_is)
    (case cget => k_is)
    (case ctak => k_is)
    (case cmro => k_is)
    (case cne => k_is)
    (case tcls => k_is)
    (case tmro => k_is)
    (case tne => k_is)
    (case kt_NoneType => kit_is)
    (case kt_bool => kit_is)
    (case kt_int => kit_is)
    (case kt_str => kit_is)
    (case kt_list => kit_is)
    (case kt_tuple => kit_is)
    (case kt_dict => kit_is)
    (case nt_NoneType => k_is)
    (case nt_bool => k_is)
    (case nt_int => k_is)
    (case nt_str => k_is)
    (case nt_list => k_is)
    (case nt_tuple => k_is)
    (case nt_dict => k_is)
    (case ksh => kit_is)
    (case nsh => k_is)
    (case ki_NoneType => kit_is)
    (case ki_bool => kit_is)
    (case ki_int => kit_is)
    (case ki_str => kit_is)
    (case ki_list => kit_is)
    (case ki_tuple => kit_is)
    (case ki_dict => kit_is)
    (case nf_NoneType => k_is)
    (case nf_bool => k_is)
    (case nf_int => k_is)
    (case nf_str => k_is)
    (case nf_list => k_is)
    (case nf_tuple => k_is)
    (case nf_dict => k_is)
    (case errs => kernel_rfl)
