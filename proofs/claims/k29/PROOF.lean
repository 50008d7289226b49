import PyProof.Rows.All
import Wide.All
import OpenK.AllK
import Wide.FinOn
import PyProof.EqAt
import PyProof.EqKinds
import PyProof.TupleCall
import HandS.ForMost
import HandS.ForExc
import HandS.Strs
import HandS.SetFor
import HandS.SetBool
import HandS.Walk
import HandS.TupAny
import HandS.Rev
import HandS.RevRange
import HandS.IsInst
import HandS.SortInts
import HandS.ExcIs
import HandS.Flow
import PySem.Challenge.RW_fixworlds_k29_glimpses
import HandS.AnyAll
import HandS.Zip
import PyProof.GenCompD
import HandS.SetKeys
import HandS.SortRule
import PyProof.DictMoreH
import PyProof.Rows.BitMore
import HandS.WideBits
import KE.KDictList
import KE.KDictWalk
import HandS.Conv
import HandS.ListItems
import KE.GoesEnum
import PyProof.EnumMake
import HandS.TupSets
import KE.SortKeyHeap
import HandS.SortKw
import KE.KDictKeyed
import HandS.NamedTupSort
import KE.KSortTupAny
import KE.SortData
import HandS.DictComp
import KE.DataMinMax
import HandS.Style
import HandS.WordsDict
import KE.KIndexOf
import KE.DatumOrd
import HandS.Deep
import HandS.More
import KE.SortKeyed
import KE.SortLaws
import HandS.EndTab
set_option Elab.async false
set_option linter.all false
set_option maxRecDepth 100000
set_option maxHeartbeats 4000000
/-! two rules for sets of ints: made of a list, and by a comprehension -/
namespace Fw
open PySem PySem.Spec PyProof.Rows L2
abbrev freshSet (w : World) : Obj :=
  { cls := .type "set", dict := none, data := .set #[] 0 (.fresh 0 0 (!w.params.followText "set-order")) }
section
variable {P : Program} {w : World} {A : Around} {E : Value → Shared → Prop} {s : Shared}
/-- set(xs), xs a list of ints -/
theorem setOfList {l : Addr} {its : Array Value} (ns : List Int) {Q : Value → Shared → Prop}
    (quiet : A.handled = none) (lst : s.heap.IsList l its) (iv : IntsAre its.toList ns) (few : ns.length + 1 < scanBound)
    (next : ∀ (h' : Heap) (tk c : Nat), SetR w h' s.heap.objs.size (fun j => decide (j ∈ ns)) c → c ≤ ns.length →
      (∀ b o, s.heap.get? b = some o → h'.get? b = some o) → Q (.ref s.heap.objs.size) { s with heap := h', toks := tk }) :
    wpAny (model P w) A (call (.type "set") [.ref l]) Q E s := by
  have many : its.size = ns.length := by
    rw [← Array.length_toList]
    exact IntsAre.length iv
  have f1 := F.called_set.mro
  obtain ⟨c, tl, hmro⟩ := f1
  have f2 := F.called_set.made
  have f3 := F.called_set.sub
  refine wpAny_call (codeAny_of_tree ?_)
  show wpAny _ _ (callAny (.type "set") _) _ _ _
  refine wpAny_pure ⟨Code.quiet_builtin _ (by decide +kernel), codeAny_builtin F.entry_type_call ?_⟩
  rw [Around.under_plain (weight_type_call_type "set" [.ref l] []) rfl]
  have f4 := F.called_set.notType
  have f5 := F.called_set.canCreate
  have f6 := F.typeCall_set_1 (.ref l)
  repeat (any_goals (first | assumption | wp_step))
  generalize hN : s.heap.objs.size = N
  refine codeAny_mono (code_set_led1 (.ref l) (E := E)
    (Q₁ := fun v t => v = .ref N ∧ t = { s with heap := s.heap.push (freshSet w) }) ⟨by rw [hN], rfl⟩) fun r s₁ hr => ?_
  rcases r with e | fl
  · exact hr
  · cases fl
    case ret v =>
      obtain ⟨rfl, rfl⟩ := hr
      have got : (s.heap.push (freshSet w)).get? N = some (freshSet w) := by
        rw [← hN]
        exact Heap.get?_push_size _ rfl
      have ty : Shared.TypeIs { s with heap := s.heap.push (freshSet w) } (.ref N) "set" := ⟨_, got, rfl⟩
      have g1 := F.called_set.init.lookup
      have g2 := F.called_set.init.bind (.ref N)
      repeat (any_goals (first | assumption | wp_step))
      refine codeAny_mono (codeAny_call_builtin (R := wants (fun v t => v = .none ∧ ∃ h' tk c, t = { s with heap := h', toks := tk } ∧
          SetR w h' N (fun j => decide (j ∈ ns)) c ∧ c ≤ ns.length ∧ (∀ b o, s.heap.get? b = some o → h'.get? b = some o)) E)
          F.called_set.init.plain F.entry_set_init (check_set_init_1 ty ?_)) fun r₂ s₂ hr₂ => ?_
      · obtain ⟨ol, hol, hcl, nl, hdl⟩ := lst
        obtain ⟨ocls, odict, odata, oslots⟩ := ol
        simp only at hcl hdl
        subst hcl
        subst hdl
        have hol' : (s.heap.push (freshSet w)).get? l = some { cls := .type "list", dict := odict, data := .seq its nl, slots := oslots } :=
          Heap.get?_push_of_some _ hol
        have k1 := F.sub_list_set
        have k2 := F.sub_list_frozenset
        have k3 : (Value.type "list" == Value.type "dict") = false := by decide
        have lst1 : (s.heap.push (freshSet w)).IsList l its := ⟨_, hol', rfl, nl, rfl⟩
        unfold Builtin.«set.__init__» noKeywords Builtin.Frozenset.updateFrom
        generalize hPI : pyIter = PI
        wp_walk
        subst hPI
        refine wpAny_pyIter_list lst1 (wpAny_bind (wpAny_runValue ?_))
        have lN : l < N := by
          rw [← hN]
          exact Heap.lt_size hol
        have quiet3 : A.in1.in1.in1.handled = none := by simp [quiet]
        have size1 : (s.heap.push (freshSet w)).objs.size = N + 1 := by rw [Heap.size_push, hN]
        have l1 : l ≠ (s.heap.push (freshSet w)).objs.size := by
          rw [size1]
          exact Nat.ne_of_lt (Nat.lt_succ_of_lt lN)
        have n1 : N ∉ [(s.heap.push (freshSet w)).objs.size, l] := by
          rw [size1]
          simp only [List.mem_cons, List.not_mem_nil, or_false, not_or]
          exact ⟨Nat.ne_of_lt (Nat.lt_succ_self _), Nat.ne_of_gt lN⟩
        refine set_update_ints ((Walks.list quiet3 _ l l1 its).toS) N n1 ns many few (fun i v hv => ?_) (its.size - 0) 0 _ (by omega) (Nat.zero_le _)
          ⟨⟨_, Heap.get?_push_size _ rfl, rfl, rfl⟩, lst1.push _⟩ ⟨0, Nat.le_refl 0, setR_new_at (Heap.get?_push_of_some _ got)⟩ fun s' c' hm hc' hS' => ?_
        · have hi : i < ns.length := by
            rw [← many]
            exact (Array.getElem?_eq_some_iff.mp hv).1
          obtain ⟨t, e⟩ := PyProof.Rows.IntsAre.int_at iv i v (by rw [Array.getElem?_toList]; exact hv)
          refine ⟨ns[i], t, List.getElem?_eq_getElem hi, ?_⟩
          rw [e, List.getD_eq_getElem?_getD, List.getElem?_eq_getElem hi]
          rfl
        · obtain ⟨h', g2, d', tk', os'⟩ := s'
          obtain rfl : g2 = s.gens := hm.gens
          obtain rfl : d' = s.drawn := hm.drawn
          obtain rfl : os' = s.os := hm.os
          show wpAny _ _ _ _ _ _
          refine wpAny_pure ?_
          show wpAny _ _ (ret Value.none) _ _ _
          rw [many] at hc'
          refine wpAny_pure ⟨rfl, h', tk', c', rfl, hS', hc', fun b o e => ?_⟩
          have bN : b < N := by
            rw [← hN]
            exact Heap.lt_size e
          refine hm.heap b o ?_ (Heap.get?_push_of_some _ (Heap.get?_push_of_some _ e))
          rw [size1]
          simp only [List.mem_cons, List.not_mem_nil, or_false, not_or]
          exact ⟨Nat.ne_of_lt bN, Nat.ne_of_lt (Nat.lt_succ_of_lt bN)⟩
      · rcases r₂ with e | fl₂
        · exact hr₂
        · cases fl₂
          case ret r =>
            obtain ⟨rfl, h', tk, c', rfl, hS', hc', hk'⟩ := hr₂
            repeat (any_goals (first | assumption | wp_step))
            subst hN
            exact next _ _ _ hS' hc' hk'
          all_goals exact hr₂.elim
    all_goals exact hr.elim
end
end Fw

set_option maxRecDepth 100000
set_option maxHeartbeats 4000000
namespace Fw
open PySem PySem.Spec PyProof.Rows L2
theorem intsOfVals : ∀ {ns : List Int} {us : List Value}, Vals (ns.map V.int) us → IntsAre us ns
  | [], _, .nil => .nil
  | k :: _, _, .cons r t => by
    obtain ⟨tk, rfl⟩ := r
    exact .cons k tk (intsOfVals t)
theorem nodup_le : ∀ {l Vs : List Int}, l.Nodup → (∀ x ∈ l, x ∈ Vs) → l.length ≤ Vs.length
  | [], Vs, _, _ => Nat.zero_le _
  | a :: l, Vs, nd, h => by
    have nd' := List.nodup_cons.mp nd
    have ha := h a List.mem_cons_self
    have ih := nodup_le (Vs := Vs.erase a) nd'.2 fun x hx =>
      (List.mem_erase_of_ne (fun e => nd'.1 (by rw [← e]; exact hx))).mpr (h x (List.mem_cons_of_mem _ hx))
    have := List.length_erase_of_mem ha
    have : 0 < Vs.length := List.length_pos_of_mem ha
    rw [List.length_cons]
    omega
section
variable {X : Cx}
/-- set(xs), xs a list of ints -/
def rSetL (K : PySem.W.Frag) (w : World) : List V → Hp → VK → Prop := fun vs H Q => ∃ (l : Addr) (ns : List Int),
  vs = [V.ref l] ∧ SqL K H l (ns.map V.int) ∧ ns.length ≤ 4000 ∧
  ∀ p c, H p = none → c ≤ ns.length → (∀ Vs : List Int, (∀ x ∈ ns, x ∈ Vs) → c ≤ Vs.length) → Q (.ref p) (upd H p (SetO w p (fun j => decide (j ∈ ns)) c))
theorem call_setL (quiet : X.calm = true) : CallR X (.type "set") (rSetL X.K X.w) := by
  intro pins s σ H vs us Q I r h
  obtain ⟨l, ns, rfl, hl, few, q⟩ := h
  obtain ⟨its, rv, pl, _⟩ := I.list hl
  rw [Vals.ref1 r]
  have iv := intsOfVals rv
  have isl : s.heap.IsList l its.toArray := by
    obtain ⟨o, n, e1, e2, e3, e4⟩ := pl
    exact ⟨o, e1, e2, n, e4⟩
  refine setOfList ns (I.ok.hd quiet) isl (by simpa using iv) (Nat.lt_of_le_of_lt (Nat.succ_le_succ few) (by decide)) fun h' tk c R hc kp => ?_
  have fr : H s.heap.objs.size = none := I.hok.fresh (Nat.le_refl _)
  refine ⟨.ref _, _, I.laid (t' := tk) kp (Nat.le_refl _) (setO_new R), rfl, q _ c fr hc fun Vs hV => ?_⟩
  obtain ⟨o, es, ep, t, _, _, _, _, nd, mem, _, _, size, _⟩ := R
  rw [← size, ← Array.length_toList, ← List.length_map (f := keyOf)]
  exact nodup_le nd fun x hx => hV x (of_decide_eq_true ((mem x).mpr hx))
/-- what a comprehension of ints into a set asks: W tells the turns, D is the new set -/
def tSci (w : World) (wi : TI) (g : TG) (tt : TT) (te : TE) (vs : List Nat) : TE := fun σ H Q => wi σ H fun J H1 => ∀ D, H1 D = none →
  ∃ W : Nat → Nat → Hp → Prop, (∃ m, W 0 m (upd H1 D (SetO w D (fun _ => false) 0))) ∧ ∀ i m H, W i m H →
    (J.stop i H ∧ Q (.ref D) H) ∨ (J.go i H ∧ ∃ Nx : Hp → Prop, (∀ H', Nx H' → ∃ m', m' < m ∧ W (i + 1) m' H') ∧
      ∀ x H', J.yld i H x H' → g x (wipe σ vs) H' fun σ2 H2 => wipe σ2 vs = wipe σ vs ∧ tt σ2 H2 fun b H3 =>
        if b = true then te σ2 H3 fun y H4 => ∃ (k : Int) (S : Int → Bool) (n : Nat), y = .int k ∧ H4 D = some (SetO w D S n) ∧ n + 1 < scanBound ∧
          Nx (upd H4 D (SetO w D (fun j => S j || decide (j = k)) (if S k = true then n else n + 1))) else Nx H3)
theorem addInt {pins : List (Addr × Obj)} {σ : L2.St} {H : Hp} {s : Shared} {E : Value → Shared → Prop} {D : Addr} {S : Int → Bool} {n : Nat} {k : Int} {tk : Tok} {Q : Value → Shared → Prop}
    (I : Inv X pins σ H s) (at_ : H D = some (SetO X.w D S n)) (room : n + 1 < scanBound)
    (next : ∀ s', Inv X pins σ (upd H D (SetO X.w D (fun j => S j || decide (j = k)) (if S k = true then n else n + 1))) s' → Q .none s') :
    wpAny (model X.prog X.w) X.A (call (.builtin "set.add") [.ref D, .int k tk]) Q E s := by
  refine setR_add (setO_get I at_) room fun h' sb R => next _ ?_
  have there : ∃ u, h'.get? D = some u := by
    obtain ⟨o, _, _, _, e, _⟩ := id R
    exact ⟨o, e⟩
  exact I.write (e := D) (t' := s.toks + 1) (by rw [at_]; trivial) (.inl rfl) (fun b u hb hu => (sb.2 b hb).trans hu) there (setO_new R)
abbrev inner (X : Cx) (s : Shared) (scope : Scope) : Env :=
  compEnvC scope (cellsFrom (s.heap.objs.size + 1) scope.names (cloFrom X.env.cells scope.names [])) s.heap.objs.size X.env
theorem setComp {pins : List (Addr × Obj)} {s : Shared} {σ : L2.St} {H : Hp} {Q : VK} {elt tg iter : Expr} {ifs : List Expr} {scope : Scope} {own : List (PySem.Str × Nat)} {pos pos' : Pos} {wi : TI} {g : TG} {tt : TT} {te : TE}
    {use : Option (Value → Sem Unit)} {Qf : Value → Shared → Prop}
    (quiet : X.calm = true) (nd : X.N.Nodup) (I : Inv X pins σ H s) (ii : PI X tg iter wi) (blk : BlkOk X.N X.env.scope scope own)
    (gg : ∀ s H C cl fp, PG (X.blk s H scope (compEnvC scope cl C X.env) fp) tg g)
    (tts : ∀ s H C cl fp, PTs (X.blk s H scope (compEnvC scope cl C X.env) fp) ifs tt)
    (ee : ∀ s H C cl fp, PE (X.blk s H scope (compEnvC scope cl C X.env) fp) elt te)
    (fold : ∀ x, foldedSetIterable iter X.env x = pure x) (h : tSci X.w wi g tt te (own.map (·.2)) σ H Q)
    (fin : ∀ D C s' m H', Inv X pins σ H' s' → Q (.ref D) H' → s'.heap.Ns C m → FpOk X pins H' C →
      compPost (model X.prog X.w) X.A X.xe use Qf (.ref D) C (.ok .next) s') :
    wpAny (model X.prog X.w) X.A (comprehension (.SetComp elt [⟨tg, iter, ifs, 0⟩] scope pos) scope X.env pos' (newSet (.type "set")) false (eval iter X.env) use) Qf X.xe s := by
  have clo : ∀ y ∈ scope.names, y.2 = .free → ∃ c, X.env.cells.lookup y.1 = some c := fun y hy e =>
    (blk.free y hy e).elim (fun k => I.ok.has _ (.inl k)) fun k => I.ok.has _ (.inr k)
  refine wpAny_comprehension_free (use := use) rfl fold (closure_ok clo) blk.kind (fun y hy e => by rw [blk.uniq y hy, e])
    (thn (ii.run pins s σ H _ I h) fun xv s1 hx => thn hx fun itv s2 h2 => ?_)
  obtain ⟨it, fp, tn, J, H2, rfl, I2, T, t0, fp2, q⟩ := h2
  refine PpSet.newSet_ok (newEnv_comp ?_)
  generalize eD : s2.heap.objs.size = D
  obtain ⟨W, ⟨m0, w0⟩, turn⟩ := q D (I2.hok.fresh (Nat.le_of_eq eD))
  generalize e3 : ({ s2 with heap := s2.heap.push (freshSet X.w) } : Shared) = s3
  have heap3 : s3.heap = s2.heap.push (freshSet X.w) := by rw [← e3]
  have up3 : ∀ b o, s2.heap.get? b = some o → s3.heap.get? b = some o := fun b o e => by
    rw [heap3]
    exact Heap.get?_push_of_some _ e
  generalize eH : upd H2 D (SetO X.w D (fun _ => false) 0) = H3 at w0
  have I3 : Inv X pins σ H3 s3 := by
    rw [← eH, ← e3, ← eD]
    exact I2.laid (t' := s2.toks) (fun b o e => Heap.get?_push_of_some _ e) (Nat.le_refl _) (setO_new (setR_fresh X.w))
  have fp3 : ∀ b ∈ fp, FpOk X pins H3 b ∧ b < s3.heap.objs.size := fun b hb => by
    obtain ⟨o, e, _⟩ := T.obj _ _ t0 b hb
    have lt := Heap.lt_size e
    refine ⟨⟨?_, (fp2 b hb).2⟩, ?_⟩
    · rw [← eH, upd_ne (show b ≠ D by rw [← eD]; exact Nat.ne_of_lt lt)]
      exact (fp2 b hb).1
    · rw [heap3, Heap.size_push]
      exact Nat.lt_succ_of_lt lt
  have t3 : tn 0 s3.heap := T.keep _ _ _ t0 fun b _ o e => up3 b o e
  have I4 := block_start I3 blk nd fp3
  have g4 := gg s3 H3 s3.heap.objs.size (cellsFrom (s3.heap.objs.size + 1) scope.names (cloFrom X.env.cells scope.names [])) fp
  have t4 := tts s3 H3 s3.heap.objs.size (cellsFrom (s3.heap.objs.size + 1) scope.names (cloFrom X.env.cells scope.names [])) fp
  have e4 := ee s3 H3 s3.heap.objs.size (cellsFrom (s3.heap.objs.size + 1) scope.names (cloFrom X.env.cells scope.names [])) fp
  show codeAny _ _ (.compStart (.SetComp elt [⟨tg, iter, ifs, 0⟩] scope pos) 0 (.ref it) (.ref D)
      (compEnvC scope (cellsFrom (s3.heap.objs.size + 1) scope.names (cloFrom X.env.cells scope.names [])) s3.heap.objs.size X.env))
    (compPost (model X.prog X.w) X.A X.xe use Qf (.ref D) s3.heap.objs.size) { s3 with heap := pushCells (s3.heap.push { cls := .type "dict", data := .dict #[] }) scope.names }
  generalize eC : compEnvC scope (cellsFrom (s3.heap.objs.size + 1) scope.names (cloFrom X.env.cells scope.names [])) s3.heap.objs.size X.env = ce at I4 g4 t4 e4 ⊢
  have locs : ce.locals = s3.heap.objs.size := by
    subst eC
    rfl
  generalize eS : ({ s3 with heap := pushCells (s3.heap.push { cls := .type "dict", data := .dict #[] }) scope.names } : Shared) = s4 at I4 ⊢
  have ts4 : tn 0 s4.heap := T.keep _ _ _ t3 fun b _ o e => by
    rw [← eS]
    exact pushCells_keeps _ _ _ _ (Heap.get?_push_of_some _ e)
  have held : ∀ {σ' : L2.St} {H' : Hp} {s' : Shared}, Inv (X.blk s3 H3 scope ce fp) [] σ' H' s' → (∀ b ∈ fp, H' b = none) →
      ∀ b ∈ fp, FpOk (X.blk s3 H3 scope ce fp) [] H' b := fun {σ' H' s'} I' hn b hb =>
    have x := I'.ok.exf b hb
    ⟨hn b hb, x.1, I'.ok.exfs b hb, .inl hb, fun y c e => x.2 y c e, fun p hp => by cases hp⟩
  have body : codeAny (model X.prog X.w) X.A (.compLoop (.SetComp elt [⟨tg, iter, ifs, 0⟩] scope pos) 0 (.ref it) (.ref D) ce)
      (compPost (model X.prog X.w) X.A X.xe use Qf (.ref D) s3.heap.objs.size) s4 := by
    refine PpSet.compLoopS_any (fun n t => ∃ i G, Inv (X.blk s3 H3 scope ce fp) [] (wipe σ (own.map (·.2))) G t ∧ tn i t.heap ∧ (∀ b ∈ fp, G b = none) ∧ W i n G)
      ?_ m0 ⟨0, H3, I4, ts4, fun b hb => (fp3 b hb).1.1, w0⟩
    rintro n s5 ⟨i, H5, I5, t5, free5, w5⟩
    rcases turn i n H5 w5 with ⟨stop, qq⟩ | ⟨go, Nx, dec, step⟩
    · refine thnF (T.done (X.blk s3 H3 scope ce fp) rfl rfl rfl quiet i [] s5 _ H5 (fun _ _ => False) I5 (held I5 free5) t5 stop) fun r s6 ⟨hr, I6⟩ => ?_
      subst hr
      have free6 : H5 ce.locals = none := I6.free
      obtain ⟨m, ns6, _⟩ := I6.loc
      have ns6' : s6.heap.Ns ce.locals m := ns6
      rw [locs] at free6 ns6'
      have I7 : Inv X pins σ H5 s6 := I3.call' (ch := fp) I6.os I6.base I6.hok I6.bare fun b hb =>
        have z := (fp3 b hb).1
        ⟨z.2.2.2.1, z.2.1, z.2.2.2.2.1, z.2.2.2.2.2⟩
      exact fin D s3.heap.objs.size s6 m H5 I7 qq ns6' (I3.fpOk (Nat.le_refl _) free6)
    · refine thnF (T.item (X.blk s3 H3 scope ce fp) rfl rfl rfl quiet i [] s5 _ H5 (fun _ _ => False) I5 (held I5 free5) t5 go) fun r s6 ⟨u, hr, h6⟩ => ?_
      subst hr
      refine thnF h6 fun _ s7 ⟨x, H7, I7, rx, y7, t7, free7⟩ => ?_
      refine thnF (g4.run _ s7 _ H7 x u _ (I7.pinned (held I7 free7) (T.obj _ _ t7)) rx (step x H7 y7)) fun _ s8 ⟨σ8, H8, I8, wi8, q8⟩ => ?_
      refine thnF (t4.run _ s8 σ8 H8 _ I8 q8) fun b s9 ⟨H9, I9, q9⟩ => ?_
      have over : ∀ {t : Shared} {G : Hp}, Inv (X.blk s3 H3 scope ce fp) ([] ++ pinsAt fp s7.heap) σ8 G t → Nx G →
          ∃ m, m < n ∧ ∃ i G, Inv (X.blk s3 H3 scope ce fp) [] (wipe σ (own.map (·.2))) G t ∧ tn i t.heap ∧ (∀ b ∈ fp, G b = none) ∧ W i m G := fun {t G} It nx => by
        obtain ⟨m', lt, w'⟩ := dec G nx
        have same : ∀ b ∈ fp, ∀ o, s7.heap.get? b = some o → t.heap.get? b = some o ∧ G b = none := fun b hb o e =>
          have z := It.pin (b, o) (List.mem_append_right _ (List.mem_append_right _ (mem_pinsAt hb e)))
          ⟨z.1, z.2.1⟩
        refine ⟨m', lt, i + 1, G, (It.unpinned (pins := [])).weak (by rw [← wi8, wipe_length]) (fun j v e => ?_), T.keep _ _ _ t7 fun b hb o e => (same b hb o e).1, fun b hb => ?_, w'⟩
        · rw [← wi8] at e
          exact (wipe_some e).1
        · obtain ⟨o, e, _⟩ := T.obj _ _ t7 b hb
          exact (same b hb o e).2
      cases b
      · simp only [Bool.false_eq_true, if_false] at q9 ⊢
        exact over I9 q9
      · simp only [if_true] at q9 ⊢
        refine thnF (e4.run _ s9 σ8 H9 _ I9 q9) fun z s10 ⟨yv, H10, I10, rz, k, S0, n0, ey, hD, room, nx⟩ => ?_
        subst ey
        obtain ⟨tk, rfl⟩ : ∃ tk, z = Value.int k tk := rz
        exact addInt (X := X.blk s3 H3 scope ce fp) I10 hD room fun s11 I11 => over I11 nx
  exact PpSet.codeAny_compStart_set body (T.self X.A 0 _ _ _ ts4 body)
/-- {e for target in iter if test}, e an int -/
theorem pe_sci {elt tg iter : Expr} {ifs : List Expr} {scope : Scope} {own : List (PySem.Str × Nat)} {pos : Pos} {wi : TI} {g : TG} {tt : TT} {te : TE} (quiet : X.calm = true) (nd : X.N.Nodup) (ii : PI X tg iter wi) (blk : BlkOk X.N X.env.scope scope own)
    (gg : ∀ (s : Shared) (H : Hp) (C : Addr) (cl : List (PySem.Str × Addr)) (fp : List Addr), PG (X.blk s H scope (compEnvC scope cl C X.env) fp) tg g)
    (tts : ∀ (s : Shared) (H : Hp) (C : Addr) (cl : List (PySem.Str × Addr)) (fp : List Addr), PTs (X.blk s H scope (compEnvC scope cl C X.env) fp) ifs tt)
    (ee : ∀ (s : Shared) (H : Hp) (C : Addr) (cl : List (PySem.Str × Addr)) (fp : List Addr), PE (X.blk s H scope (compEnvC scope cl C X.env) fp) elt te)
    (fold : ∀ x, foldedSetIterable iter X.env x = pure x := by intro _; rfl) :
    PE X (.SetComp elt [⟨tg, iter, ifs, 0⟩] scope pos) (tSci X.w wi g tt te (own.map (·.2))) := by
  constructor
  intro pins s σ H Q I h
  rw [PpSet.eval_SetComp]
  refine setComp quiet nd I ii blk gg tts ee fold h fun D C s' m H' I' q hn f => ⟨m, hn, fun h'' sb => ⟨.ref D, H', ?_, rfl, q⟩⟩
  exact I'.turned (t' := s'.toks) (fun b o hb e => (sb.2 b hb).trans e) f.1 f.2.1 f.2.2.2.1 f.2.2.2.2.1 f.2.2.2.2.2
end
/-- over any walk: Pv by the turn and the heap -/
theorem sci_it {J : It} {n : Nat} {G : Hp → Prop} {Y : Nat → Hp → V → Hp → Prop} (w : Walk J n G Y) {wd : World} {g : TG} {tt : TT} {te : TE} {vs : List Nat} {σ : L2.St} {H1 : Hp} {D : Addr} {Qd : Hp → Prop} (Pv : Nat → Hp → Prop)
    (h0 : Pv 0 (upd H1 D (SetO wd D (fun _ => false) 0))) (hG : ∀ i H, i ≤ n → Pv i H → G H)
    (hs : ∀ i x H H', i < n → Pv i H → Y i H x H' → g x (wipe σ vs) H' fun σ2 H2 => wipe σ2 vs = wipe σ vs ∧ tt σ2 H2 fun b H3 =>
      if b = true then te σ2 H3 fun y H4 => ∃ (k : Int) (S : Int → Bool) (m : Nat), y = .int k ∧ H4 D = some (SetO wd D S m) ∧ m + 1 < scanBound ∧
        Pv (i + 1) (upd H4 D (SetO wd D (fun j => S j || decide (j = k)) (if S k = true then m else m + 1))) else Pv (i + 1) H3) (hd : ∀ H, Pv n H → Qd H) :
    ∃ W : Nat → Nat → Hp → Prop, (∃ m, W 0 m (upd H1 D (SetO wd D (fun _ => false) 0))) ∧ ∀ i m H, W i m H →
      (J.stop i H ∧ Qd H) ∨ (J.go i H ∧ ∃ Nx : Hp → Prop, (∀ H', Nx H' → ∃ m', m' < m ∧ W (i + 1) m' H') ∧ ∀ x H', J.yld i H x H' → g x (wipe σ vs) H' fun σ2 H2 => wipe σ2 vs = wipe σ vs ∧ tt σ2 H2 fun b H3 =>
        if b = true then te σ2 H3 fun y H4 => ∃ (k : Int) (S : Int → Bool) (m : Nat), y = .int k ∧ H4 D = some (SetO wd D S m) ∧ m + 1 < scanBound ∧
          Nx (upd H4 D (SetO wd D (fun j => S j || decide (j = k)) (if S k = true then m else m + 1))) else Nx H3) := by
  refine ⟨fun i m H => m + i = n ∧ Pv i H, ⟨n, rfl, h0⟩, fun i m H hW => ?_⟩
  obtain ⟨e, p⟩ := hW
  have q := hG i H (by omega) p
  cases m with
  | zero =>
    have e2 : i = n := by omega
    subst e2
    exact .inl ⟨w.stops H q, hd H p⟩
  | succ m =>
    have lt : i < n := by omega
    exact .inr ⟨w.goes i H lt q, Pv (i + 1), fun H' p' => ⟨m, Nat.lt_succ_self m, by omega, p'⟩, fun x H' y => hs i x H H' lt p (w.yields i H x H' lt q y)⟩
end Fw

/-! Statements as trees, and what the passes over their parts find. Plain Lean. -/
namespace Fw
inductive Leaf | has | lacks | var
  deriving DecidableEq
inductive One | some | all | least | most
  deriving DecidableEq
def One.bind : One → Bool
  | .least => true
  | .most => true
  | _ => false
inductive F
  | nul (b : Bool)
  | leaf (k : Leaf) (n : Int)
  | two (b : Bool) (f g : F)
  | one (k : One) (n : Int) (f : F)
  deriving DecidableEq
inductive Hd
  | nul (b : Bool)
  | leaf (k : Leaf) (n : Int)
  | two (b : Bool)
  | one (k : One) (n : Int)
  deriving DecidableEq
def F.hd : F → Hd
  | .nul b => .nul b
  | .leaf k n => .leaf k n
  | .two b _ _ => .two b
  | .one k n _ => .one k n
def F.size : F → Nat
  | .nul _ => 1
  | .leaf _ _ => 1
  | .two _ f g => f.size + g.size + 1
  | .one _ _ f => f.size + 1
def F.depth : F → Nat
  | .nul _ => 1
  | .leaf _ _ => 1
  | .two _ f g => max f.depth g.depth + 1
  | .one _ _ f => f.depth + 1
theorem F.size_pos (t : F) : 0 < t.size := by cases t <;> simp [F.size]
theorem F.size_depth : ∀ t : F, t.size + 1 ≤ 2 ^ t.depth
  | .nul _ => by simp [F.size, F.depth]
  | .leaf _ _ => by simp [F.size, F.depth]
  | .two _ f g => by
    have h1 := F.size_depth f
    have h2 := F.size_depth g
    have m1 : 2 ^ f.depth ≤ 2 ^ max f.depth g.depth := Nat.pow_le_pow_right (by decide) (Nat.le_max_left _ _)
    have m2 : 2 ^ g.depth ≤ 2 ^ max f.depth g.depth := Nat.pow_le_pow_right (by decide) (Nat.le_max_right _ _)
    simp only [F.size, F.depth, Nat.pow_succ]
    omega
  | .one _ _ f => by
    have h1 := F.size_depth f
    have h2 := F.size_pos f
    simp only [F.size, F.depth, Nat.pow_succ]
    omega
abbrev Stk := List (Int × Nat)
structure Rec where
  sub : F
  aro : Int
  stk : Stk
def pushS : F → Nat → Stk → Stk
  | .one k n _, i, st => if k.bind then (n, i) :: st else st
  | _, _, st => st
def info : F → Int → Nat → Stk → List Rec
  | .nul b, a, _, st => [⟨.nul b, a, st⟩]
  | .leaf k n, a, _, st => [⟨.leaf k n, a, st⟩]
  | .two b f g, a, i, st => ⟨.two b f g, a, st⟩ :: (info f i (i + 1) st ++ info g i (i + 1 + f.size) st)
  | .one k n f, a, i, st => ⟨.one k n f, a, st⟩ :: info f i (i + 1) (if k.bind then (n, i) :: st else st)
theorem info_len : ∀ (t : F) (a : Int) (i : Nat) (st : Stk), (info t a i st).length = t.size
  | .nul _, _, _, _ => rfl
  | .leaf _ _, _, _, _ => rfl
  | .two _ f g, a, i, st => by simp [info, F.size, info_len f, info_len g]
  | .one k n f, a, i, st => by simp [info, F.size, info_len f]
theorem info_head : ∀ (t : F) (a : Int) (i : Nat) (st : Stk), (info t a i st)[0]? = some ⟨t, a, st⟩
  | .nul _, _, _, _ => rfl
  | .leaf _ _, _, _, _ => rfl
  | .two _ _ _, _, _, _ => rfl
  | .one _ _ _, _, _, _ => rfl
/-! ### a part's record and the one around it -/
theorem info_up : ∀ (t : F) (a : Int) (i : Nat) (st : Stk) (j : Nat) (r : Rec), (info t a i st)[j]? = some r →
    (j = 0 ∧ r = ⟨t, a, st⟩) ∨ ∃ p r', p < j ∧ (info t a i st)[p]? = some r' ∧ r.aro = ((i + p : Nat) : Int) ∧ r.stk = pushS r'.sub (i + p) r'.stk
  | .nul b, a, i, st, j, r, h => by
    cases j with
    | zero => exact .inl ⟨rfl, (Option.some.inj h).symm⟩
    | succ j => simp [info] at h
  | .leaf k n, a, i, st, j, r, h => by
    cases j with
    | zero => exact .inl ⟨rfl, (Option.some.inj h).symm⟩
    | succ j => simp [info] at h
  | .two b f g, a, i, st, j, r, h => by
    cases j with
    | zero => exact .inl ⟨rfl, (Option.some.inj h).symm⟩
    | succ j =>
      simp only [info, List.getElem?_cons_succ] at h
      by_cases lt : j < f.size
      · rw [List.getElem?_append_left (by rw [info_len]; exact lt)] at h
        rcases info_up f i (i + 1) st j r h with ⟨rfl, rfl⟩ | ⟨p, r', hp, e, e1, e2⟩
        · exact .inr ⟨0, ⟨.two b f g, a, st⟩, Nat.succ_pos _, rfl, by simp, rfl⟩
        · refine .inr ⟨p + 1, r', by omega, ?_, by rw [e1]; congr 1; omega, by rw [e2]; congr 1; omega⟩
          simp only [info, List.getElem?_cons_succ]
          rw [List.getElem?_append_left (by rw [info_len]; omega)]
          exact e
      · rw [List.getElem?_append_right (by rw [info_len]; omega), info_len] at h
        rcases info_up g i (i + 1 + f.size) st (j - f.size) r h with ⟨e0, rfl⟩ | ⟨p, r', hp, e, e1, e2⟩
        · exact .inr ⟨0, ⟨.two b f g, a, st⟩, Nat.succ_pos _, rfl, by simp, rfl⟩
        · refine .inr ⟨p + f.size + 1, r', by omega, ?_, by rw [e1]; congr 1; omega, by rw [e2]; congr 1; omega⟩
          simp only [info, List.getElem?_cons_succ]
          rw [List.getElem?_append_right (by rw [info_len]; omega), info_len, show p + f.size - f.size = p by omega]
          exact e
  | .one k n f, a, i, st, j, r, h => by
    cases j with
    | zero => exact .inl ⟨rfl, (Option.some.inj h).symm⟩
    | succ j =>
      simp only [info, List.getElem?_cons_succ] at h
      rcases info_up f i (i + 1) _ j r h with ⟨rfl, rfl⟩ | ⟨p, r', hp, e, e1, e2⟩
      · exact .inr ⟨0, ⟨.one k n f, a, st⟩, Nat.succ_pos _, rfl, by simp, rfl⟩
      · refine .inr ⟨p + 1, r', by omega, ?_, by rw [e1]; congr 1; omega, by rw [e2]; congr 1; omega⟩
        simp only [info, List.getElem?_cons_succ]
        exact e
/-- the whole, seen from its root -/
abbrev infos (t : F) : List Rec := info t (-1) 0 []
theorem infos_stk {t : F} : ∀ (m j : Nat) (r : Rec) (x : Int) (q : Nat) (rest : Stk), j ≤ m → (infos t)[j]? = some r → r.stk = (x, q) :: rest →
    q < j ∧ ∃ k f a, (infos t)[q]? = some ⟨.one k x f, a, rest⟩ ∧ k.bind = true := by
  intro m
  induction m with
  | zero =>
    intro j r x q rest hj h e
    have : j = 0 := by omega
    subst this
    rw [info_head] at h
    cases h
    cases e
  | succ m ih =>
    intro j r x q rest hj h e
    rcases info_up t (-1) 0 [] j r h with ⟨rfl, rfl⟩ | ⟨p, r', hp, e1, _, e2⟩
    · cases e
    · rw [Nat.zero_add] at e2
      obtain ⟨s, a', st'⟩ := r'
      have old : r.stk = st' → q < j ∧ ∃ k f a, (infos t)[q]? = some ⟨.one k x f, a, rest⟩ ∧ k.bind = true := fun e3 => by
        have z := ih p ⟨s, a', st'⟩ x q rest (by omega) e1 (by rw [← e3]; exact e)
        exact ⟨by omega, z.2⟩
      cases s with
      | nul b => exact old e2
      | leaf k n => exact old e2
      | two b f g => exact old e2
      | one k n f =>
        simp only [pushS] at e2
        by_cases hb : k.bind = true
        · rw [if_pos hb, e] at e2
          injection e2 with e3 e4
          injection e3 with e5 e6
          subst e5
          subst e6
          subst e4
          exact ⟨hp, k, f, a', e1, hb⟩
        · rw [if_neg hb] at e2
          exact old e2
/-! ### the parts directly in a part -/
def kidsFrom : List Int → Nat → Nat → List Nat
  | [], _, _ => []
  | a :: r, j, i => if a = (i : Int) then j :: kidsFrom r (j + 1) i else kidsFrom r (j + 1) i
theorem kids_app : ∀ (A B : List Int) (j i : Nat), kidsFrom (A ++ B) j i = kidsFrom A j i ++ kidsFrom B (j + A.length) i
  | [], _, _, _ => by simp [kidsFrom]
  | a :: A, B, j, i => by
    simp only [List.cons_append, kidsFrom, List.length_cons]
    rw [kids_app A B (j + 1) i, show j + 1 + A.length = j + (A.length + 1) by omega]
    split <;> simp
theorem kids_none : ∀ (A : List Int) (j i : Nat), (∀ a ∈ A, a ≠ (i : Int)) → kidsFrom A j i = []
  | [], _, _, _ => rfl
  | a :: A, j, i, h => by
    simp only [kidsFrom]
    rw [if_neg (h a List.mem_cons_self)]
    exact kids_none A _ _ fun b hb => h b (List.mem_cons_of_mem _ hb)
def arounds (I : List Rec) : List Int := I.map Rec.aro
theorem aro_range : ∀ (t : F) (a : Int) (i : Nat) (st : Stk) (x : Int), x ∈ arounds (info t a i st) → x = a ∨ ((i : Int) ≤ x ∧ x < ((i + t.size : Nat) : Int))
  | .nul _, a, i, st, x, h => by
    simp [arounds, info] at h
    exact .inl h
  | .leaf _ _, a, i, st, x, h => by
    simp [arounds, info] at h
    exact .inl h
  | .two b f g, a, i, st, x, h => by
    simp only [arounds, info, List.map_cons, List.map_append, List.mem_cons, List.mem_append] at h
    rcases h with h | h | h
    · exact .inl h
    · have := aro_range f i (i + 1) st x h
      simp only [F.size]
      omega
    · have := aro_range g i (i + 1 + f.size) st x h
      simp only [F.size]
      omega
  | .one k n f, a, i, st, x, h => by
    simp only [arounds, info, List.map_cons, List.mem_cons] at h
    rcases h with h | h
    · exact .inl h
    · have := aro_range f i (i + 1) _ x h
      simp only [F.size]
      omega
/-- where a part's own parts stand among all -/
def Sits (I : List Rec) (i j : Nat) (r : Rec) : Prop :=
  ∃ A B, I = A ++ info r.sub r.aro (i + j) r.stk ++ B ∧ A.length = j ∧ (∀ x ∈ arounds A, x ≠ ((i + j : Nat) : Int)) ∧ (∀ x ∈ arounds B, x < ((i + j : Nat) : Int) ∨ ((i + j + r.sub.size : Nat) : Int) ≤ x) ∧ r.aro < ((i + j : Nat) : Int) ∧
    (∀ x ∈ arounds A, x < ((i + j : Nat) : Int))
theorem info_sits : ∀ (t : F) (a : Int) (i : Nat) (st : Stk) (j : Nat) (r : Rec), a < (i : Int) → (info t a i st)[j]? = some r → Sits (info t a i st) i j r := by
  have zero : ∀ (t : F) (a : Int) (i : Nat) (st : Stk) (r : Rec), a < (i : Int) → (info t a i st)[0]? = some r → Sits (info t a i st) i 0 r := by
    intro t a i st r ha h
    rw [info_head] at h
    cases h
    exact ⟨[], [], by simp, rfl, by simp [arounds], by simp [arounds], by simpa using ha, by simp [arounds]⟩
  intro t
  induction t with
  | nul b =>
    intro a i st j r ha h
    cases j with
    | zero => exact zero _ _ _ _ _ ha h
    | succ j => simp [info] at h
  | leaf k n =>
    intro a i st j r ha h
    cases j with
    | zero => exact zero _ _ _ _ _ ha h
    | succ j => simp [info] at h
  | two b f g ihf ihg =>
    intro a i st j r ha h
    cases j with
    | zero => exact zero _ _ _ _ _ ha h
    | succ j =>
      simp only [info, List.getElem?_cons_succ] at h
      by_cases lt : j < f.size
      · rw [List.getElem?_append_left (by rw [info_len]; exact lt)] at h
        obtain ⟨A, B, e, eA, hA, hB, hr, hA2⟩ := ihf i (i + 1) st j r (by omega) h
        have ee : i + 1 + j = i + (j + 1) := by omega
        rw [ee] at e hA hB hr hA2
        have szr : r.sub.size + j ≤ f.size := by
          have z := congrArg List.length e
          simp only [info_len, List.length_append, eA] at z
          omega
        refine ⟨⟨.two b f g, a, st⟩ :: A, B ++ info g i (i + 1 + f.size) st, by simp [info, e], by simp [eA], ?_, ?_, hr, ?_⟩
        · intro x hx
          simp only [arounds, List.map_cons, List.mem_cons] at hx
          rcases hx with rfl | hx
          · omega
          · exact hA x hx
        · intro x hx
          simp only [arounds, List.map_append, List.mem_append] at hx
          rcases hx with hx | hx
          · exact hB x hx
          · have := aro_range g i (i + 1 + f.size) st x hx
            omega
        · intro x hx
          simp only [arounds, List.map_cons, List.mem_cons] at hx
          rcases hx with rfl | hx
          · omega
          · exact hA2 x hx
      · rw [List.getElem?_append_right (by rw [info_len]; omega), info_len] at h
        obtain ⟨A, B, e, eA, hA, hB, hr, hA2⟩ := ihg i (i + 1 + f.size) st (j - f.size) r (by omega) h
        have ee : i + 1 + f.size + (j - f.size) = i + (j + 1) := by omega
        rw [ee] at e hA hB hr hA2
        refine ⟨⟨.two b f g, a, st⟩ :: (info f i (i + 1) st ++ A), B, by simp [info, e], by simp [eA, info_len]; omega, ?_, hB, hr, ?_⟩
        · intro x hx
          simp only [arounds, List.map_cons, List.map_append, List.mem_cons, List.mem_append] at hx
          rcases hx with rfl | hx | hx
          · omega
          · have := aro_range f i (i + 1) st x hx
            omega
          · exact hA x hx
        · intro x hx
          simp only [arounds, List.map_cons, List.map_append, List.mem_cons, List.mem_append] at hx
          rcases hx with rfl | hx | hx
          · omega
          · have := aro_range f i (i + 1) st x hx
            omega
          · exact hA2 x hx
  | one k n f ih =>
    intro a i st j r ha h
    cases j with
    | zero => exact zero _ _ _ _ _ ha h
    | succ j =>
      simp only [info, List.getElem?_cons_succ] at h
      obtain ⟨A, B, e, eA, hA, hB, hr, hA2⟩ := ih i (i + 1) _ j r (by omega) h
      have ee : i + 1 + j = i + (j + 1) := by omega
      rw [ee] at e hA hB hr hA2
      refine ⟨⟨.one k n f, a, st⟩ :: A, B, by simp [info, e], by simp [eA], ?_, hB, hr, ?_⟩
      · intro x hx
        simp only [arounds, List.map_cons, List.mem_cons] at hx
        rcases hx with rfl | hx
        · omega
        · exact hA x hx
      · intro x hx
        simp only [arounds, List.map_cons, List.mem_cons] at hx
        rcases hx with rfl | hx
        · omega
        · exact hA2 x hx
/-- the places of the parts directly in one -/
def inPlaces : F → Nat → List Nat
  | .two _ f _, i => [i + 1, i + 1 + f.size]
  | .one _ _ _, i => [i + 1]
  | _, _ => []
theorem kids_own : ∀ (t : F) (a : Int) (i : Nat) (st : Stk), a < (i : Int) → kidsFrom (arounds (info t a i st)) i i = inPlaces t i
  | .nul _, a, i, st, ha => by
    simp only [arounds, info, List.map_cons, List.map_nil, kidsFrom, inPlaces]
    rw [if_neg (by omega)]
  | .leaf _ _, a, i, st, ha => by
    simp only [arounds, info, List.map_cons, List.map_nil, kidsFrom, inPlaces]
    rw [if_neg (by omega)]
  | .two b f g, a, i, st, ha => by
    have rest : ∀ (u : F) (j : Nat) (st : Stk), i < j → kidsFrom (arounds (info u i j st)) j i = [j] := by
      intro u j st hj
      have tail : ∀ (I : List Rec), (∀ x ∈ arounds I, (j : Int) ≤ x) → kidsFrom (arounds I) (j + 1) i = [] := fun I hI =>
        kids_none _ _ _ fun x hx => by have := hI x hx; omega
      cases u with
      | nul b => simp [arounds, info, kidsFrom]
      | leaf k n => simp [arounds, info, kidsFrom]
      | two b f g =>
        simp only [arounds, info, List.map_cons, kidsFrom, if_true]
        have := tail (info f j (j + 1) st ++ info g j (j + 1 + f.size) st) (fun x hx => by
          simp only [arounds, List.map_append, List.mem_append] at hx
          rcases hx with hx | hx
          · have := aro_range f j (j + 1) st x hx
            omega
          · have := aro_range g j (j + 1 + f.size) st x hx
            omega)
        rw [arounds] at this
        rw [this]
      | one k n f =>
        simp only [arounds, info, List.map_cons, kidsFrom, if_true]
        have := tail (info f j (j + 1) (if k.bind then (n, j) :: st else st)) (fun x hx => by
          have := aro_range f j (j + 1) _ x hx
          omega)
        rw [arounds] at this
        rw [this]
    have h1 := rest f (i + 1) st (by omega)
    have h2 := rest g (i + 1 + f.size) st (by omega)
    simp only [arounds] at h1 h2
    simp only [arounds, info, List.map_cons, List.map_append, kidsFrom, inPlaces]
    rw [if_neg (by omega), kids_app, h1, List.length_map, info_len, h2]
    rfl
  | .one k n f, a, i, st, ha => by
    have rest : ∀ (u : F) (j : Nat) (st : Stk), i < j → kidsFrom (arounds (info u i j st)) j i = [j] := by
      intro u j st hj
      have tail : ∀ (I : List Rec), (∀ x ∈ arounds I, (j : Int) ≤ x) → kidsFrom (arounds I) (j + 1) i = [] := fun I hI =>
        kids_none _ _ _ fun x hx => by have := hI x hx; omega
      cases u with
      | nul b => simp [arounds, info, kidsFrom]
      | leaf k n => simp [arounds, info, kidsFrom]
      | two b f g =>
        simp only [arounds, info, List.map_cons, kidsFrom, if_true]
        have := tail (info f j (j + 1) st ++ info g j (j + 1 + f.size) st) (fun x hx => by
          simp only [arounds, List.map_append, List.mem_append] at hx
          rcases hx with hx | hx
          · have := aro_range f j (j + 1) st x hx
            omega
          · have := aro_range g j (j + 1 + f.size) st x hx
            omega)
        rw [arounds] at this
        rw [this]
      | one k n f =>
        simp only [arounds, info, List.map_cons, kidsFrom, if_true]
        have := tail (info f j (j + 1) (if k.bind then (n, j) :: st else st)) (fun x hx => by
          have := aro_range f j (j + 1) _ x hx
          omega)
        rw [arounds] at this
        rw [this]
    have h1 := rest f (i + 1) (if k.bind then (n, i) :: st else st) (by omega)
    simp only [arounds] at h1
    simp only [arounds, info, List.map_cons, kidsFrom, inPlaces]
    rw [if_neg (by omega), h1]
theorem kids_at {t : F} {j : Nat} {r : Rec} (h : (infos t)[j]? = some r) : kidsFrom (arounds (infos t)) 0 j = inPlaces r.sub j := by
  obtain ⟨A, B, e, eA, hA, hB, hr, _⟩ := info_sits t (-1) 0 [] j r (by omega) h
  rw [Nat.zero_add] at e hA hB hr
  have ea : arounds (infos t) = arounds A ++ arounds (info r.sub r.aro j r.stk) ++ arounds B := by
    rw [show infos t = _ from e]
    simp [arounds]
  have lA : (arounds A).length = j := by simp [arounds, eA]
  rw [ea, kids_app, kids_app, kids_none _ _ _ hA, Nat.zero_add, lA, kids_own _ _ _ _ hr, kids_none (arounds B)]
  · simp
  · intro x hx
    have := hB x hx
    have := F.size_pos r.sub
    omega
/-- the parts of a part are among all, at their places -/
theorem sub_at {t : F} {j : Nat} {r : Rec} (h : (infos t)[j]? = some r) : ∀ (k : Nat) (q : Rec), (info r.sub r.aro j r.stk)[k]? = some q → (infos t)[j + k]? = some q := by
  intro k q hq
  obtain ⟨A, B, e, eA, _⟩ := info_sits t (-1) 0 [] j r (by omega) h
  rw [Nat.zero_add] at e
  have lt := (List.getElem?_eq_some_iff.mp hq).1
  rw [show infos t = _ from e, List.append_assoc, List.getElem?_append_right (by omega), eA, show j + k - j = k by omega, List.getElem?_append_left lt]
  exact hq

/-! ### the binder around, and the one of a variable -/
def topPos : Stk → Int
  | [] => -1
  | (_, p) :: _ => (p : Int)
def posOf (x : Int) : Stk → Int
  | [] => -1
  | (y, p) :: r => if y = x then (p : Int) else posOf x r
def isB : F → Bool
  | .one k _ _ => k.bind
  | _ => false
theorem pushS_top (s : F) (p : Nat) (st : Stk) : topPos (pushS s p st) = if isB s = true then (p : Int) else topPos st := by
  cases s with
  | one k n f => cases hk : k.bind <;> simp [pushS, isB, topPos, hk]
  | _ => rfl
theorem top_step {t : F} {j : Nat} {r : Rec} (h : (infos t)[j]? = some r) :
    (r.aro = -1 ∧ topPos r.stk = -1 ∧ j = 0) ∨ ∃ p r', p < j ∧ (infos t)[p]? = some r' ∧ r.aro = (p : Int) ∧ topPos r.stk = if isB r'.sub = true then (p : Int) else topPos r'.stk := by
  rcases info_up t (-1) 0 [] j r h with ⟨rfl, rfl⟩ | ⟨p, r', hp, e, e1, e2⟩
  · exact .inl ⟨rfl, rfl, rfl⟩
  · rw [Nat.zero_add] at e1 e2
    exact .inr ⟨p, r', hp, e, e1, by rw [e2, pushS_top]⟩
theorem posOf_ge (x : Int) : ∀ st : Stk, -1 ≤ posOf x st
  | [] => by simp [posOf]
  | (y, p) :: r => by
    simp only [posOf]
    split
    · omega
    · exact posOf_ge x r
theorem posOf_neg (x : Int) : ∀ st : Stk, posOf x st < 0 ↔ x ∉ st.map (·.1)
  | [] => by simp [posOf]
  | (y, p) :: r => by
    have ih := posOf_neg x r
    simp only [posOf, List.map_cons, List.mem_cons, not_or]
    split
    · rename_i e
      constructor
      · intro z
        omega
      · intro z
        exact absurd e.symm z.1
    · rename_i e
      rw [ih]
      constructor
      · exact fun z => ⟨fun q => e q.symm, z⟩
      · exact fun z => z.2
/-! ### free variables -/
def freeL : F → List Int → List Int
  | .nul _, _ => []
  | .leaf .var x, bound => if x ∈ bound then [] else [x]
  | .leaf _ _, _ => []
  | .two _ f g, bound => freeL f bound ++ freeL g bound
  | .one k x f, bound => if k.bind then freeL f (bound ++ [x]) else freeL f bound
theorem free_iff (x : Int) : ∀ (t : F) (bound : List Int) (a : Int) (i : Nat) (st : Stk), (∀ y, y ∈ bound ↔ y ∈ st.map (·.1)) →
    (x ∈ freeL t bound ↔ ∃ r ∈ info t a i st, r.sub = .leaf .var x ∧ x ∉ r.stk.map (·.1))
  | .nul b, bound, a, i, st, hb => by simp [freeL, info]
  | .leaf .has n, bound, a, i, st, hb => by simp [freeL, info]
  | .leaf .lacks n, bound, a, i, st, hb => by simp [freeL, info]
  | .leaf .var n, bound, a, i, st, hb => by
    simp only [freeL, info, List.mem_singleton]
    constructor
    · intro h
      split at h
      · cases h
      · rename_i hn
        rw [List.mem_singleton] at h
        subst h
        exact ⟨_, rfl, rfl, fun z => hn ((hb _).mpr z)⟩
    · rintro ⟨r, rfl, e, hn⟩
      injection e with _ e
      subst e
      rw [if_neg (fun z => hn ((hb _).mp z))]
      exact List.mem_singleton.mpr rfl
  | .two b f g, bound, a, i, st, hb => by
    simp only [freeL, info, List.mem_append, List.mem_cons]
    rw [free_iff x f bound i (i + 1) st hb, free_iff x g bound i (i + 1 + f.size) st hb]
    constructor
    · rintro (⟨r, h1, h2⟩ | ⟨r, h1, h2⟩)
      · exact ⟨r, .inr (.inl h1), h2⟩
      · exact ⟨r, .inr (.inr h1), h2⟩
    · rintro ⟨r, h1, h2, h3⟩
      rcases h1 with rfl | h1 | h1
      · cases h2
      · exact .inl ⟨r, h1, h2, h3⟩
      · exact .inr ⟨r, h1, h2, h3⟩
  | .one k n f, bound, a, i, st, hb => by
    simp only [freeL, info, List.mem_cons]
    have key : ∀ (bound' : List Int) (st' : Stk), (∀ y, y ∈ bound' ↔ y ∈ st'.map (·.1)) →
        (x ∈ freeL f bound' ↔ ∃ r, (r = ⟨.one k n f, a, st⟩ ∨ r ∈ info f i (i + 1) st') ∧ r.sub = .leaf .var x ∧ x ∉ r.stk.map (·.1)) := by
      intro bound' st' h'
      rw [free_iff x f bound' i (i + 1) st' h']
      constructor
      · rintro ⟨r, h1, h2⟩
        exact ⟨r, .inr h1, h2⟩
      · rintro ⟨r, h1, h2, h3⟩
        rcases h1 with rfl | h1
        · cases h2
        · exact ⟨r, h1, h2, h3⟩
    by_cases hk : k.bind = true
    · rw [if_pos hk, if_pos hk]
      refine key _ _ fun y => ?_
      simp only [List.mem_append, hb y, List.map_cons, List.mem_cons, List.not_mem_nil, or_false]
      exact Or.comm
    · rw [if_neg hk, if_neg hk]
      exact key _ _ hb
def Closed (t : F) : Prop := ∀ r ∈ infos t, ∀ x, r.sub = .leaf .var x → x ∈ r.stk.map (·.1)
theorem closed_iff {t : F} : freeL t [] = [] ↔ Closed t := by
  constructor
  · intro h r hr x e
    refine Classical.byContradiction fun hn => ?_
    have := (free_iff x t [] (-1) 0 [] (by simp)).mpr ⟨r, hr, e, hn⟩
    rw [h] at this
    cases this
  · intro h
    refine List.eq_nil_iff_forall_not_mem.mpr fun x hx => ?_
    obtain ⟨r, hr, e, hn⟩ := (free_iff x t [] (-1) 0 [] (by simp)).mp hx
    exact hn (h r hr x e)
/-! ### the same shape, the same places -/
def skel : F → F
  | .nul _ => .nul true
  | .leaf _ _ => .nul true
  | .two _ f g => .two true (skel f) (skel g)
  | .one _ _ f => .one .some 0 (skel f)
theorem skel_size : ∀ t : F, (skel t).size = t.size
  | .nul _ => rfl
  | .leaf _ _ => rfl
  | .two _ f g => by simp [skel, F.size, skel_size f, skel_size g]
  | .one _ _ f => by simp [skel, F.size, skel_size f]
theorem skel_depth : ∀ t : F, (skel t).depth = t.depth
  | .nul _ => rfl
  | .leaf _ _ => rfl
  | .two _ f g => by simp [skel, F.depth, skel_depth f, skel_depth g]
  | .one _ _ f => by simp [skel, F.depth, skel_depth f]
theorem skel_aro : ∀ (t : F) (a : Int) (i : Nat) (st : Stk), arounds (info t a i st) = arounds (info (skel t) a i [])
  | .nul _, _, _, _ => rfl
  | .leaf _ _, _, _, _ => rfl
  | .two _ f g, a, i, st => by
    have h1 := skel_aro f i (i + 1) st
    have h2 := skel_aro g i (i + 1 + f.size) st
    simp only [arounds] at h1 h2
    simp only [arounds, info, skel, List.map_cons, List.map_append, h1, h2, skel_size]
  | .one k n f, a, i, st => by
    have h1 := skel_aro f i (i + 1) (if k.bind then (n, i) :: st else st)
    simp only [arounds] at h1
    simp only [arounds, info, skel, List.map_cons]
    rw [h1]
    rfl
theorem same_aro {t u : F} (h : skel t = skel u) : arounds (infos t) = arounds (infos u) := by
  rw [skel_aro t, skel_aro u, h]
theorem same_size {t u : F} (h : skel t = skel u) : t.size = u.size := by rw [← skel_size t, h, skel_size]
/-! ### the tidy form -/
def tidyF : F → (Int → Int) → Int → F × Int
  | .nul b, _, n => (.nul b, n)
  | .leaf .var x, nm, n => (.leaf .var (nm x), n)
  | .leaf k x, _, n => (.leaf k x, n)
  | .two b f g, nm, n => (.two b (tidyF f nm n).1 (tidyF g nm (tidyF f nm n).2).1, (tidyF g nm (tidyF f nm n).2).2)
  | .one k x f, nm, n =>
    if k.bind then (.one k n (tidyF f (fun y => if y = x then n else nm y) (n + 1)).1, (tidyF f (fun y => if y = x then n else nm y) (n + 1)).2)
    else (.one k x (tidyF f nm n).1, (tidyF f nm n).2)
theorem tidy_skel : ∀ (t : F) (nm : Int → Int) (n : Int), skel (tidyF t nm n).1 = skel t
  | .nul _, _, _ => rfl
  | .leaf .var _, _, _ => rfl
  | .leaf .has _, _, _ => rfl
  | .leaf .lacks _, _, _ => rfl
  | .two _ f g, nm, n => by simp only [tidyF, skel, tidy_skel f, tidy_skel g]
  | .one k x f, nm, n => by
    simp only [tidyF]
    split <;> simp only [skel, tidy_skel f]
def cntB (I : List Rec) : Nat := (I.filter fun r => isB r.sub).length
theorem cntB_app (A B : List Rec) : cntB (A ++ B) = cntB A + cntB B := by simp [cntB]
theorem cntB_cons (r : Rec) (B : List Rec) : cntB (r :: B) = (if isB r.sub = true then 1 else 0) + cntB B := by
  simp only [cntB, List.filter_cons]
  split <;> simp <;> omega
def newHd (ρ : Nat → Int) (q : Nat) (r : Rec) : Hd :=
  match r.sub with
  | .leaf .var x => .leaf .var (ρ (posOf x r.stk).toNat)
  | .one k x _ => if k.bind then .one k (ρ q) else .one k x
  | s => s.hd
theorem tidy_heads (ρ : Nat → Int) : ∀ (t : F) (a : Int) (i : Nat) (st : Stk) (nm : Int → Int) (n : Int),
    (∀ r ∈ info t a i st, ∀ x, r.sub = .leaf .var x → x ∈ r.stk.map (·.1)) → (∀ x ∈ st.map (·.1), nm x = ρ (posOf x st).toNat) →
    (∀ j r, (info t a i st)[j]? = some r → isB r.sub = true → ρ (i + j) = n + (cntB ((info t a i st).take j) : Nat)) →
    (tidyF t nm n).2 = n + (cntB (info t a i st) : Nat) ∧
    ∀ (st' : Stk) (j : Nat) (r : Rec), (info t a i st)[j]? = some r → ((info (tidyF t nm n).1 a i st')[j]?).map (fun r => r.sub.hd) = some (newHd ρ (i + j) r)
  | .nul b, a, i, st, nm, n, hc, hs, hr => by
    refine ⟨by simp [tidyF, info, cntB, isB], fun st' j r h => ?_⟩
    cases j with
    | zero =>
      cases h
      rfl
    | succ j => simp [info] at h
  | .leaf .has b, a, i, st, nm, n, hc, hs, hr => by
    refine ⟨by simp [tidyF, info, cntB, isB], fun st' j r h => ?_⟩
    cases j with
    | zero =>
      cases h
      rfl
    | succ j => simp [info] at h
  | .leaf .lacks b, a, i, st, nm, n, hc, hs, hr => by
    refine ⟨by simp [tidyF, info, cntB, isB], fun st' j r h => ?_⟩
    cases j with
    | zero =>
      cases h
      rfl
    | succ j => simp [info] at h
  | .leaf .var x, a, i, st, nm, n, hc, hs, hr => by
    refine ⟨by simp [tidyF, info, cntB, isB], fun st' j r h => ?_⟩
    cases j with
    | zero =>
      cases h
      have hx : x ∈ st.map (·.1) := hc ⟨.leaf .var x, a, st⟩ (by simp [info]) x rfl
      simp only [tidyF, info, newHd, List.getElem?_cons_zero, Option.map_some, F.hd]
      rw [hs x hx]
    | succ j => simp [info] at h
  | .two b f g, a, i, st, nm, n, hc, hs, hr => by
    have If : ∀ j r, (info f i (i + 1) st)[j]? = some r → (info (.two b f g) a i st)[j + 1]? = some r := fun j r h => by
      simp only [info, List.getElem?_cons_succ]
      rw [List.getElem?_append_left (List.getElem?_eq_some_iff.mp h).1]
      exact h
    have Ig : ∀ j r, (info g i (i + 1 + f.size) st)[j]? = some r → (info (.two b f g) a i st)[f.size + j + 1]? = some r := fun j r h => by
      simp only [info, List.getElem?_cons_succ]
      rw [List.getElem?_append_right (by rw [info_len]; omega), info_len, show f.size + j - f.size = j by omega]
      exact h
    obtain ⟨f1, f2⟩ := tidy_heads ρ f i (i + 1) st nm n (fun r hr' => hc r (by simp [info, hr'])) hs (fun j r h hb => by
      have := hr (j + 1) r (If j r h) hb
      rw [show i + (j + 1) = i + 1 + j by omega] at this
      rw [this]
      simp only [info, List.take_succ_cons, cntB_cons, isB]
      rw [List.take_append_of_le_length (Nat.le_of_lt (List.getElem?_eq_some_iff.mp h).1)]
      simp)
    obtain ⟨g1, g2⟩ := tidy_heads ρ g i (i + 1 + f.size) st nm (tidyF f nm n).2 (fun r hr' => hc r (by simp [info, hr'])) hs (fun j r h hb => by
      have := hr (f.size + j + 1) r (Ig j r h) hb
      rw [show i + (f.size + j + 1) = i + 1 + f.size + j by omega] at this
      rw [this, f1]
      simp only [info, List.take_succ_cons, cntB_cons, isB]
      rw [List.take_append, info_len, List.take_of_length_le (by rw [info_len]; omega), show f.size + j - f.size = j by omega, cntB_app]
      simp
      omega)
    refine ⟨?_, fun st' j r h => ?_⟩
    · simp only [tidyF, info, cntB_cons, cntB_app, isB]
      rw [g1, f1]
      simp
      omega
    · have sz : (tidyF f nm n).1.size = f.size := same_size (tidy_skel f nm n)
      cases j with
      | zero =>
        cases h
        rfl
      | succ j =>
        simp only [info, List.getElem?_cons_succ] at h
        simp only [tidyF, info, List.getElem?_cons_succ]
        by_cases lt : j < f.size
        · rw [List.getElem?_append_left (by rw [info_len]; exact lt)] at h
          rw [List.getElem?_append_left (by rw [info_len, sz]; exact lt), f2 st' j r h, show i + 1 + j = i + (j + 1) by omega]
        · rw [List.getElem?_append_right (by rw [info_len]; omega), info_len] at h
          rw [List.getElem?_append_right (by rw [info_len, sz]; omega), info_len, sz, g2 st' (j - f.size) r h, show i + 1 + f.size + (j - f.size) = i + (j + 1) by omega]
  | .one k x f, a, i, st, nm, n, hc, hs, hr => by
    by_cases hk : k.bind = true
    · have If : ∀ j r, (info f i (i + 1) ((x, i) :: st))[j]? = some r → (info (.one k x f) a i st)[j + 1]? = some r := fun j r h => by
        simp only [info, List.getElem?_cons_succ, if_pos hk]
        exact h
      have ρi : ρ i = n := by
        have := hr 0 ⟨.one k x f, a, st⟩ rfl hk
        simpa [cntB] using this
      obtain ⟨f1, f2⟩ := tidy_heads ρ f i (i + 1) ((x, i) :: st) (fun y => if y = x then n else nm y) (n + 1) (fun r hr' => hc r (by simp [info, hk, hr'])) (fun y hy => by
        simp only [posOf]
        by_cases e : y = x
        · rw [if_pos e, if_pos e.symm]
          exact ρi.symm
        · rw [if_neg e, if_neg (fun z => e z.symm)]
          rw [List.map_cons, List.mem_cons] at hy
          exact hs y (hy.resolve_left e)) (fun j r h hb => by
        have := hr (j + 1) r (If j r h) hb
        rw [show i + (j + 1) = i + 1 + j by omega] at this
        rw [this]
        simp only [info, List.take_succ_cons, cntB_cons]
        rw [if_pos (show isB (F.one k x f) = true from hk), if_pos hk]
        omega)
      refine ⟨?_, fun st' j r h => ?_⟩
      · simp only [tidyF, info, cntB_cons]
        rw [if_pos (show isB (F.one k x f) = true from hk), if_pos hk, if_pos hk, f1]
        omega
      · cases j with
        | zero =>
          cases h
          simp only [tidyF, if_pos hk, info, newHd, List.getElem?_cons_zero, Option.map_some, F.hd]
          rw [Nat.add_zero, ρi]
        | succ j =>
          simp only [info, List.getElem?_cons_succ, if_pos hk] at h
          simp only [tidyF, if_pos hk, info, List.getElem?_cons_succ]
          rw [f2 _ j r h, show i + 1 + j = i + (j + 1) by omega]
    · have If : ∀ j r, (info f i (i + 1) st)[j]? = some r → (info (.one k x f) a i st)[j + 1]? = some r := fun j r h => by
        simp only [info, List.getElem?_cons_succ, if_neg hk]
        exact h
      obtain ⟨f1, f2⟩ := tidy_heads ρ f i (i + 1) st nm n (fun r hr' => hc r (by simp [info, hk, hr'])) hs (fun j r h hb => by
        have := hr (j + 1) r (If j r h) hb
        rw [show i + (j + 1) = i + 1 + j by omega] at this
        rw [this]
        simp only [info, List.take_succ_cons, cntB_cons]
        rw [if_neg (show ¬ isB (F.one k x f) = true from hk), if_neg hk]
        omega)
      refine ⟨?_, fun st' j r h => ?_⟩
      · simp only [tidyF, info, cntB_cons]
        rw [if_neg (show ¬ isB (F.one k x f) = true from hk), if_neg hk, if_neg hk, f1]
        omega
      · cases j with
        | zero =>
          cases h
          simp only [tidyF, if_neg hk, info, newHd, List.getElem?_cons_zero, Option.map_some, F.hd]
        | succ j =>
          simp only [info, List.getElem?_cons_succ, if_neg hk] at h
          simp only [tidyF, if_neg hk, info, List.getElem?_cons_succ]
          rw [f2 _ j r h, show i + 1 + j = i + (j + 1) by omega]
/-- of a closed one: the head of each part in the tidy form -/
def rankOf (t : F) (q : Nat) : Int := (cntB ((infos t).take q) : Nat)
theorem tidy_whole {t : F} (hc : Closed t) (nm : Int → Int) {j : Nat} {r : Rec} (h : (infos t)[j]? = some r) :
    ((infos (tidyF t nm 0).1)[j]?).map (fun r => r.sub.hd) = some (newHd (rankOf t) j r) := by
  have := (tidy_heads (rankOf t) t (-1) 0 [] nm 0 hc (by simp) (fun j r h hb => by simp [rankOf])).2 [] j r h
  rwa [Nat.zero_add] at this
/-! ### tidy twice -/
theorem tidy_again : ∀ (t : F) (nm nm2 : Int → Int) (n : Int), (∀ y, nm2 (nm y) = nm y) → tidyF (tidyF t nm n).1 nm2 n = tidyF t nm n
  | .nul _, _, _, _, _ => rfl
  | .leaf .has _, _, _, _, _ => rfl
  | .leaf .lacks _, _, _, _, _ => rfl
  | .leaf .var x, nm, nm2, n, h => by simp only [tidyF, h]
  | .two b f g, nm, nm2, n, h => by
    simp only [tidyF]
    rw [tidy_again f nm nm2 n h, tidy_again g nm nm2 _ h]
  | .one k x f, nm, nm2, n, h => by
    by_cases hk : k.bind = true
    · have ih := tidy_again f (fun y => if y = x then n else nm y) (fun y => if y = n then n else nm2 y) (n + 1) (fun y => by
        by_cases e : y = x
        · simp [e]
        · simp only [if_neg e]
          by_cases e2 : nm y = n
          · simp [e2]
          · rw [if_neg e2]
            exact h y)
      simp only [tidyF, if_pos hk, ih]
    · have ih := tidy_again f nm nm2 n h
      simp only [tidyF, if_neg hk, ih]
end Fw
namespace Fw
/-! ### taking a statement apart with a stack -/
def pre (t : F) (a : Int) (i : Nat) : List (Hd × Int) := (info t a i []).map fun r => (r.sub.hd, r.aro)
theorem pre_len (t : F) (a : Int) (i : Nat) : (pre t a i).length = t.size := by simp [pre, info_len]
theorem info_plain : ∀ (t : F) (a : Int) (i : Nat) (st : Stk), ((info t a i st).map fun r => (r.sub.hd, r.aro)) = pre t a i
  | .nul _, _, _, _ => rfl
  | .leaf _ _, _, _, _ => rfl
  | .two _ f g, a, i, st => by
    have h1 := info_plain f i (i + 1)
    have h2 := info_plain g i (i + 1 + f.size)
    simp only [pre, info, List.map_cons, List.map_append] at *
    rw [h1 st, h2 st]
  | .one k n f, a, i, st => by
    have h1 := info_plain f i (i + 1)
    simp only [pre, info, List.map_cons] at *
    rw [h1 (if k.bind then (n, i) :: st else st), h1 (if k.bind then [(n, i)] else [])]
def F.kids : F → List F
  | .two _ f g => [f, g]
  | .one _ _ f => [f]
  | _ => []
def fin (L : List (Hd × Int)) : List (F × Int) → List (Hd × Int)
  | [] => L
  | (t, a) :: r => fin (L ++ pre t a L.length) r
theorem fin_step (L : List (Hd × Int)) (t : F) (a : Int) (r : List (F × Int)) :
    fin L ((t, a) :: r) = fin (L ++ [(t.hd, a)]) (t.kids.map (fun f => (f, (L.length : Int))) ++ r) := by
  cases t with
  | nul b => rfl
  | leaf k n => rfl
  | two b f g =>
    have hf := info_plain f L.length (L.length + 1) []
    have hg := info_plain g L.length (L.length + 1 + f.size) []
    simp only [fin, F.kids, List.map_cons, List.map_nil, List.cons_append, List.nil_append, F.hd, List.length_append, List.length_cons, List.length_nil, pre_len]
    congr 1
    simp only [pre, info, List.map_cons, List.map_append, F.hd]
    simp
  | one k n f =>
    have hf := info_plain f L.length (L.length + 1) (if k.bind then [(n, L.length)] else [])
    simp only [fin, F.kids, List.map_cons, List.map_nil, List.cons_append, List.nil_append, F.hd, List.length_append, List.length_cons, List.length_nil]
    congr 1
    simp only [pre, info, List.map_cons, F.hd] at *
    rw [hf]
    simp
def stSize : List (F × Int) → Nat
  | [] => 0
  | (t, _) :: r => t.size + stSize r
theorem stSize_app : ∀ A B : List (F × Int), stSize (A ++ B) = stSize A + stSize B
  | [], B => by simp [stSize]
  | (t, a) :: A, B => by simp [stSize, stSize_app A B]; omega
theorem stSize_kids (t : F) (i : Int) : stSize (t.kids.map fun f => (f, i)) + 1 = t.size := by
  cases t <;> simp [F.kids, stSize, F.size]
theorem st_len : ∀ A : List (F × Int), A.length ≤ stSize A
  | [] => Nat.le_refl _
  | (t, a) :: A => by
    have := st_len A
    have := F.size_pos t
    simp only [List.length_cons, stSize]
    omega
theorem fin_len : ∀ (S : List (F × Int)) (L : List (Hd × Int)), (fin L S).length = L.length + stSize S
  | [], L => by simp [fin, stSize]
  | (t, a) :: S, L => by
    simp only [fin, stSize]
    rw [fin_len S, List.length_append, pre_len]
    omega
end Fw
namespace Fw
theorem kids_recs {t : F} {j : Nat} {r : Rec} (h : (infos t)[j]? = some r) :
    (inPlaces r.sub j).length = r.sub.kids.length ∧ ∀ (m p : Nat), (inPlaces r.sub j)[m]? = some p → ∃ r', (infos t)[p]? = some r' ∧ r.sub.kids[m]? = some r'.sub ∧ j < p := by
  have sa := sub_at h
  obtain ⟨s, a, st⟩ := r
  cases s with
  | nul b => exact ⟨rfl, fun m p e => by simp [inPlaces] at e⟩
  | leaf k n => exact ⟨rfl, fun m p e => by simp [inPlaces] at e⟩
  | two b f g =>
    refine ⟨rfl, fun m p e => ?_⟩
    match m, e with
    | 0, e =>
      cases e
      refine ⟨⟨f, j, st⟩, sa 1 _ ?_, rfl, by omega⟩
      simp only [info, List.getElem?_cons_succ]
      rw [List.getElem?_append_left (by rw [info_len]; exact F.size_pos f)]
      exact info_head _ _ _ _
    | 1, e =>
      cases e
      have z := sa (1 + f.size) ⟨g, j, st⟩ (by
        rw [Nat.add_comm 1]
        simp only [info, List.getElem?_cons_succ]
        rw [List.getElem?_append_right (by rw [info_len]; omega), info_len, Nat.sub_self]
        exact info_head _ _ _ _)
      rw [← Nat.add_assoc] at z
      exact ⟨_, z, rfl, by omega⟩
    | m + 2, e => simp [inPlaces] at e
  | one k n f =>
    refine ⟨rfl, fun m p e => ?_⟩
    match m, e with
    | 0, e =>
      cases e
      refine ⟨⟨f, j, if k.bind then (n, j) :: st else st⟩, sa 1 _ ?_, rfl, by omega⟩
      simp only [info, List.getElem?_cons_succ]
      exact info_head _ _ _ _
    | m + 1, e => simp [inPlaces] at e
end Fw
namespace Fw
theorem F.kids_le : ∀ t : F, t.kids.length ≤ 2
  | .nul _ => Nat.zero_le 2
  | .leaf _ _ => Nat.zero_le 2
  | .two _ _ _ => Nat.le_refl 2
  | .one _ _ _ => Nat.le_succ 1
end Fw
namespace Fw
theorem infos_pos {t : F} {x : Int} : ∀ (st : Stk) (j : Nat) (r : Rec), (infos t)[j]? = some r → r.stk = st → x ∈ st.map (·.1) →
    ∃ (p : Nat) (r' : Rec), posOf x st = (p : Int) ∧ p < j ∧ (infos t)[p]? = some r' ∧ isB r'.sub = true
  | [], _, _, _, _, h => by cases h
  | (y, q) :: rest, j, r, hr, e, h => by
    obtain ⟨hq, k, f, a, h2, h3⟩ := infos_stk j j r y q rest (Nat.le_refl _) hr e
    simp only [posOf]
    by_cases c : y = x
    · rw [if_pos c]
      exact ⟨q, _, rfl, hq, h2, h3⟩
    · rw [if_neg c]
      have h' : x ∈ rest.map (·.1) := by
        rw [List.map_cons, List.mem_cons] at h
        exact h.resolve_left fun z => c z.symm
      obtain ⟨p, r', e1, e2, e3⟩ := infos_pos rest q _ h2 rfl h'
      exact ⟨p, r', e1, by omega, e3⟩
end Fw
namespace Fw
/-! ### what the law draws -/
def fv : F → List Int
  | .nul _ => []
  | .leaf .var x => [x]
  | .leaf _ _ => []
  | .two _ f g => fv f ++ fv g
  | .one k x f => if k.bind then (fv f).filter (fun y => y ≠ x) else fv f
theorem free_fv (y : Int) : ∀ (t : F) (b : List Int), y ∈ freeL t b ↔ y ∈ fv t ∧ y ∉ b
  | .nul _, b => by simp [freeL, fv]
  | .leaf .has _, b => by simp [freeL, fv]
  | .leaf .lacks _, b => by simp [freeL, fv]
  | .leaf .var x, b => by
    simp only [freeL, fv, List.mem_singleton]
    split
    · rename_i h
      constructor
      · intro z
        cases z
      · rintro ⟨rfl, z⟩
        exact absurd h z
    · rename_i h
      rw [List.mem_singleton]
      constructor
      · rintro rfl
        exact ⟨rfl, h⟩
      · exact fun z => z.1
  | .two _ f g, b => by
    simp only [freeL, fv, List.mem_append, free_fv y f b, free_fv y g b]
    constructor
    · rintro (⟨h1, h2⟩ | ⟨h1, h2⟩)
      · exact ⟨.inl h1, h2⟩
      · exact ⟨.inr h1, h2⟩
    · rintro ⟨h1 | h1, h2⟩
      · exact .inl ⟨h1, h2⟩
      · exact .inr ⟨h1, h2⟩
  | .one k x f, b => by
    simp only [freeL, fv]
    by_cases hk : k.bind = true
    · rw [if_pos hk, if_pos hk, free_fv y f (b ++ [x])]
      simp only [List.mem_append, List.mem_singleton, not_or, List.mem_filter, decide_eq_true_eq]
      constructor
      · rintro ⟨h1, h2, h3⟩
        exact ⟨⟨h1, h3⟩, h2⟩
      · rintro ⟨⟨h1, h3⟩, h2⟩
        exact ⟨h1, h2, h3⟩
    · rw [if_neg hk, if_neg hk, free_fv y f b]
theorem closed_fv {t : F} : fv t = [] ↔ Closed t := by
  rw [← closed_iff]
  constructor
  · intro h
    refine List.eq_nil_iff_forall_not_mem.mpr fun x hx => ?_
    have := ((free_fv x t []).mp hx).1
    rw [h] at this
    cases this
  · intro h
    refine List.eq_nil_iff_forall_not_mem.mpr fun x hx => ?_
    have := (free_fv x t []).mpr ⟨hx, by simp⟩
    rw [h] at this
    cases this
abbrev V4 : List Int := [0, 1, 2, 7]
def Ok : F → Prop
  | .nul _ => True
  | .leaf .var x => x ∈ V4
  | .leaf _ n => 0 ≤ n ∧ n < 2
  | .two _ f g => Ok f ∧ Ok g
  | .one k n f => (if k.bind = true then n ∈ V4 else 0 ≤ n ∧ n < 2) ∧ Ok f
theorem ok_fv : ∀ {t : F}, Ok t → ∀ x ∈ fv t, x ∈ V4
  | .nul _, _, x, h => by cases h
  | .leaf .has _, _, x, h => by cases h
  | .leaf .lacks _, _, x, h => by cases h
  | .leaf .var y, o, x, h => by
    rw [show fv (.leaf .var y) = [y] from rfl, List.mem_singleton] at h
    subst h
    exact o
  | .two _ f g, o, x, h => by
    rcases List.mem_append.mp (show x ∈ fv f ++ fv g from h) with h | h
    · exact ok_fv o.1 x h
    · exact ok_fv o.2 x h
  | .one k n f, o, x, h => by
    refine ok_fv o.2 x ?_
    simp only [fv] at h
    split at h
    · exact (List.mem_filter.mp h).1
    · exact h
structure Gen (n : Nat) (W R : List Int) (t : F) : Prop where
  dep : t.depth ≤ n + 1
  ok : Ok t
  fr : ∀ x ∈ fv t, x ∈ W ∨ x ∈ R
end Fw
namespace Fw
theorem tidy_fv : ∀ (t : F) (nm : Int → Int) (n y : Int), y ∈ fv (tidyF t nm n).1 → ∃ x ∈ fv t, y = nm x
  | .nul _, _, _, _, h => by cases h
  | .leaf .has _, _, _, _, h => by cases h
  | .leaf .lacks _, _, _, _, h => by cases h
  | .leaf .var x, nm, n, y, h => ⟨x, List.mem_singleton.mpr rfl, List.mem_singleton.mp h⟩
  | .two b f g, nm, n, y, h => by
    rcases List.mem_append.mp (show y ∈ fv (tidyF f nm n).1 ++ fv (tidyF g nm (tidyF f nm n).2).1 from h) with h | h
    · obtain ⟨x, h1, h2⟩ := tidy_fv f nm n y h
      exact ⟨x, List.mem_append_left _ h1, h2⟩
    · obtain ⟨x, h1, h2⟩ := tidy_fv g nm _ y h
      exact ⟨x, List.mem_append_right _ h1, h2⟩
  | .one k z f, nm, n, y, h => by
    by_cases hk : k.bind = true
    · simp only [tidyF, if_pos hk, fv, List.mem_filter, decide_eq_true_eq] at h
      obtain ⟨x, h1, h2⟩ := tidy_fv f _ _ y h.1
      by_cases e : x = z
      · rw [if_pos e] at h2
        exact absurd h2 h.2
      · rw [if_neg e] at h2
        refine ⟨x, ?_, h2⟩
        simp only [fv, if_pos hk, List.mem_filter, decide_eq_true_eq]
        exact ⟨h1, e⟩
    · simp only [tidyF, if_neg hk, fv] at h
      obtain ⟨x, h1, h2⟩ := tidy_fv f nm n y h
      refine ⟨x, ?_, h2⟩
      simp only [fv, if_neg hk]
      exact h1
theorem tidy_closed {t : F} (nm : Int → Int) (n : Int) (h : Closed t) : Closed (tidyF t nm n).1 := by
  rw [← closed_fv] at h ⊢
  refine List.eq_nil_iff_forall_not_mem.mpr fun y hy => ?_
  obtain ⟨x, hx, _⟩ := tidy_fv t nm n y hy
  rw [h] at hx
  cases hx
end Fw

set_option maxRecDepth 100000
set_option maxHeartbeats 2000000
namespace Fw
open PySem PySem.Spec PyProof.Rows L2
/-! ### the text by places -/
def top (i : Nat) : Stmt := PySem.Challenge.pw_fixworlds_k29_glimpses.main.body.getD i (.Pass ⟨0, 0, 0, 0⟩)
abbrev s_all_of : Stmt := top 1
abbrev s_any_of : Stmt := top 2
abbrev s_balanced : Stmt := top 3
abbrev s_states_in : Stmt := top 5
abbrev s_led : Stmt := top 6
abbrev s_step_masks : Stmt := top 7
abbrev s_Rounds_init : Stmt := inClass (top 9) 0
abbrev s_Rounds_advance : Stmt := inClass (top 9) 1
abbrev s_Rounds_numbers : Stmt := inClass (top 9) 2
abbrev s_like_at_once : Stmt := top 10
abbrev s_cut_up : Stmt := top 11
abbrev s_least_of : Stmt := top 12
abbrev s_is_number : Stmt := top 17
abbrev s_ascends : Stmt := top 18
abbrev s_World_init : Stmt := inClass (top 23) 0
abbrev s_check_numbers : Stmt := top 24
abbrev s_check_states : Stmt := top 25
abbrev s_check_steps : Stmt := top 26
abbrev s_ends_of : Stmt := top 27
abbrev s_followers : Stmt := top 28
abbrev s_fact_signs : Stmt := top 30
abbrev s_step_signs : Stmt := top 31
abbrev s_like_in_steps : Stmt := top 33
abbrev s_glimpse : Stmt := top 34
abbrev s_law_draws : Stmt := top 36
abbrev s_law_take : Stmt := top 37
abbrev s_law_is_integer : Stmt := top 38
abbrev s_law_numbers : Stmt := top 39
abbrev s_law_inner : Stmt := top 40
abbrev s_law_free : Stmt := top 41
abbrev s_law_world : Stmt := top 42
abbrev s_law_made : Stmt := top 43
abbrev s_law_behind : Stmt := top 44
abbrev s_law_value : Stmt := top 45
abbrev s_law_truth : Stmt := top 46
abbrev s_law_beside : Stmt := top 47
abbrev s_law_is_statement : Stmt := top 48
abbrev s_law_rounds : Stmt := top 49
abbrev s_law : Stmt := top 50
abbrev n_all_of : List Str := ["statements"]
abbrev a_all_of : List Str := ["statements"]
theorem sc_all_of : FnScope n_all_of a_all_of (defScope s_all_of) := ⟨rfl, rfl, rfl, by decide +kernel, rfl, by decide +kernel, by decide +kernel⟩
abbrev n_any_of : List Str := ["statements"]
abbrev a_any_of : List Str := ["statements"]
theorem sc_any_of : FnScope n_any_of a_any_of (defScope s_any_of) := ⟨rfl, rfl, rfl, by decide +kernel, rfl, by decide +kernel, by decide +kernel⟩
abbrev n_balanced : List Str := ["word", "statements", "nothing", "level", "pairs", "left", "right"]
abbrev a_balanced : List Str := ["word", "statements", "nothing"]
theorem sc_balanced : FnScope n_balanced a_balanced (defScope s_balanced) := ⟨rfl, rfl, rfl, by decide +kernel, rfl, by decide +kernel, by decide +kernel⟩
abbrev n_states_in : List Str := ["mask", "states", "lowest"]
abbrev a_states_in : List Str := ["mask"]
theorem sc_states_in : FnScope n_states_in a_states_in (defScope s_states_in) := ⟨rfl, rfl, rfl, by decide +kernel, rfl, by decide +kernel, by decide +kernel⟩
abbrev n_led : List Str := ["rows", "mask", "union", "state"]
abbrev a_led : List Str := ["rows", "mask"]
theorem sc_led : FnScope n_led a_led (defScope s_led) := ⟨rfl, rfl, rfl, by decide +kernel, rfl, by decide +kernel, by decide +kernel⟩
abbrev n_step_masks : List Str := ["many", "steps", "label", "behind", "before", "start", "other", "end"]
abbrev a_step_masks : List Str := ["many", "steps", "label"]
theorem sc_step_masks : FnScope n_step_masks a_step_masks (defScope s_step_masks) := ⟨rfl, rfl, rfl, by decide +kernel, rfl, by decide +kernel, by decide +kernel⟩
abbrev n_Rounds_init : List Str := ["self", "rows", "steps", "labels", "label", "_"]
abbrev a_Rounds_init : List Str := ["self", "rows", "steps"]
theorem sc_Rounds_init : FnScope n_Rounds_init a_Rounds_init (defScope s_Rounds_init) := ⟨rfl, rfl, rfl, by decide +kernel, rfl, by decide +kernel, by decide +kernel⟩
abbrev n_Rounds_advance : List Str := ["self", "block", "cuts", "kept", "fresh", "pieces", "before"]
abbrev a_Rounds_advance : List Str := ["self"]
theorem sc_Rounds_advance : FnScope n_Rounds_advance a_Rounds_advance (defScope s_Rounds_advance) := ⟨rfl, rfl, rfl, by decide +kernel, rfl, by decide +kernel, by decide +kernel⟩
abbrev n_Rounds_numbers : List Str := ["self", "numbers", "number", "block", "state"]
abbrev a_Rounds_numbers : List Str := ["self"]
theorem sc_Rounds_numbers : FnScope n_Rounds_numbers a_Rounds_numbers (defScope s_Rounds_numbers) := ⟨rfl, rfl, rfl, by decide +kernel, rfl, by decide +kernel, by decide +kernel⟩
abbrev n_like_at_once : List Str := ["rows", "blocks", "state", "row"]
abbrev a_like_at_once : List Str := ["rows"]
theorem sc_like_at_once : FnScope n_like_at_once a_like_at_once (defScope s_like_at_once) := ⟨rfl, rfl, rfl, by decide +kernel, rfl, by decide +kernel, by decide +kernel⟩
abbrev n_cut_up : List Str := ["block", "cuts", "pieces", "cut", "halves", "piece", "half"]
abbrev a_cut_up : List Str := ["block", "cuts"]
theorem sc_cut_up : FnScope n_cut_up a_cut_up (defScope s_cut_up) := ⟨rfl, rfl, rfl, by decide +kernel, rfl, by decide +kernel, by decide +kernel⟩
abbrev n_least_of : List Str := ["block"]
abbrev a_least_of : List Str := ["block"]
theorem sc_least_of : FnScope n_least_of a_least_of (defScope s_least_of) := ⟨rfl, rfl, rfl, by decide +kernel, rfl, by decide +kernel, by decide +kernel⟩
abbrev n_is_number : List Str := ["value", "least", "greatest"]
abbrev a_is_number : List Str := ["value", "least", "greatest"]
theorem sc_is_number : FnScope n_is_number a_is_number (defScope s_is_number) := ⟨rfl, rfl, rfl, by decide +kernel, rfl, by decide +kernel, by decide +kernel⟩
abbrev n_ascends : List Str := ["row", "low", "high"]
abbrev a_ascends : List Str := ["row"]
theorem sc_ascends : FnScope n_ascends a_ascends (defScope s_ascends) := ⟨rfl, rfl, rfl, by decide +kernel, rfl, by decide +kernel, by decide +kernel⟩
abbrev n_World_init : List Str := ["self", "labels", "facts", "states", "steps", "row", "step"]
abbrev a_World_init : List Str := ["self", "labels", "facts", "states", "steps"]
theorem sc_World_init : FnScope n_World_init a_World_init (defScope s_World_init) := ⟨rfl, rfl, rfl, by decide +kernel, rfl, by decide +kernel, by decide +kernel⟩
abbrev n_check_numbers : List Str := ["labels", "facts"]
abbrev a_check_numbers : List Str := ["labels", "facts"]
theorem sc_check_numbers : FnScope n_check_numbers a_check_numbers (defScope s_check_numbers) := ⟨rfl, rfl, rfl, by decide +kernel, rfl, by decide +kernel, by decide +kernel⟩
abbrev n_check_states : List Str := ["world", "row", "fact"]
abbrev a_check_states : List Str := ["world"]
theorem sc_check_states : FnScope n_check_states a_check_states (defScope s_check_states) := ⟨rfl, rfl, rfl, by decide +kernel, rfl, by decide +kernel, by decide +kernel⟩
abbrev n_check_steps : List Str := ["world", "greatest", "step"]
abbrev a_check_steps : List Str := ["world"]
theorem sc_check_steps : FnScope n_check_steps a_check_steps (defScope s_check_steps) := ⟨rfl, rfl, rfl, by decide +kernel, rfl, by decide +kernel, by decide +kernel⟩
abbrev n_ends_of : List Str := ["steps", "ends", "start", "label", "end"]
abbrev a_ends_of : List Str := ["steps"]
theorem sc_ends_of : FnScope n_ends_of a_ends_of (defScope s_ends_of) := ⟨rfl, rfl, rfl, by decide +kernel, rfl, by decide +kernel, by decide +kernel⟩
abbrev n_followers : List Str := ["world", "state", "label"]
abbrev a_followers : List Str := ["world", "state", "label"]
theorem sc_followers : FnScope n_followers a_followers (defScope s_followers) := ⟨rfl, rfl, rfl, by decide +kernel, rfl, by decide +kernel, by decide +kernel⟩
abbrev n_fact_signs : List Str := ["row", "facts", "fact"]
abbrev a_fact_signs : List Str := ["row", "facts"]
theorem sc_fact_signs : FnScope n_fact_signs a_fact_signs (defScope s_fact_signs) := ⟨rfl, rfl, rfl, by decide +kernel, rfl, by decide +kernel, by decide +kernel⟩
abbrev n_step_signs : List Str := ["world", "state", "labels", "signs", "numbers", "found", "label", "chosen", "end", "ends", "sign"]
abbrev a_step_signs : List Str := ["world", "state", "labels", "signs", "numbers"]
theorem sc_step_signs : FnScope n_step_signs a_step_signs (defScope s_step_signs) := ⟨rfl, rfl, rfl, by decide +kernel, rfl, by decide +kernel, by decide +kernel⟩
abbrev n_like_in_steps : List Str := ["world", "steps", "rounds", "left"]
abbrev a_like_in_steps : List Str := ["world", "steps"]
theorem sc_like_in_steps : FnScope n_like_in_steps a_like_in_steps (defScope s_like_in_steps) := ⟨rfl, rfl, rfl, by decide +kernel, rfl, by decide +kernel, by decide +kernel⟩
abbrev n_glimpse : List Str := ["world", "state", "labels", "facts", "steps", "here", "signs", "many", "numbers", "row", "statements", "at"]
abbrev a_glimpse : List Str := ["world", "state", "labels", "facts", "steps"]
theorem sc_glimpse : FnScope n_glimpse a_glimpse (defScope s_glimpse) := ⟨rfl, rfl, rfl, by decide +kernel, rfl, by decide +kernel, by decide +kernel⟩
abbrev n_law_draws : List Str := ["script", "count", "cells", "found", "mixed", "k", "j", "cell", "again"]
abbrev a_law_draws : List Str := ["script", "count"]
theorem sc_law_draws : FnScope n_law_draws a_law_draws (defScope s_law_draws) := ⟨rfl, rfl, rfl, by decide +kernel, rfl, by decide +kernel, by decide +kernel⟩
abbrev n_law_take : List Str := ["draws", "limit"]
abbrev a_law_take : List Str := ["draws", "limit"]
theorem sc_law_take : FnScope n_law_take a_law_take (defScope s_law_take) := ⟨rfl, rfl, rfl, by decide +kernel, rfl, by decide +kernel, by decide +kernel⟩
abbrev n_law_is_integer : List Str := ["actual"]
abbrev a_law_is_integer : List Str := ["actual"]
theorem sc_law_is_integer : FnScope n_law_is_integer a_law_is_integer (defScope s_law_is_integer) := ⟨rfl, rfl, rfl, by decide +kernel, rfl, by decide +kernel, by decide +kernel⟩
abbrev n_law_numbers : List Str := ["actual", "size", "low", "item"]
abbrev a_law_numbers : List Str := ["actual", "size", "low"]
theorem sc_law_numbers : FnScope n_law_numbers a_law_numbers (defScope s_law_numbers) := ⟨rfl, rfl, rfl, by decide +kernel, rfl, by decide +kernel, by decide +kernel⟩
abbrev n_law_inner : List Str := ["statement", "part"]
abbrev a_law_inner : List Str := ["statement"]
theorem sc_law_inner : FnScope n_law_inner a_law_inner (defScope s_law_inner) := ⟨rfl, rfl, rfl, by decide +kernel, rfl, by decide +kernel, by decide +kernel⟩
abbrev n_law_free : List Str := ["statement", "bound", "found", "part"]
abbrev a_law_free : List Str := ["statement", "bound"]
theorem sc_law_free : FnScope n_law_free a_law_free (defScope s_law_free) := ⟨rfl, rfl, rfl, by decide +kernel, rfl, by decide +kernel, by decide +kernel⟩
abbrev n_law_world : List Str := ["draws", "most", "facts", "size", "state", "states", "steps", "label", "other", "fact"]
abbrev a_law_world : List Str := ["draws", "most", "facts"]
theorem sc_law_world : FnScope n_law_world a_law_world (defScope s_law_world) := ⟨rfl, rfl, rfl, by decide +kernel, rfl, by decide +kernel, by decide +kernel⟩
abbrev n_law_made : List Str := ["world", "labels", "facts", "state"]
abbrev a_law_made : List Str := ["world", "labels", "facts"]
theorem sc_law_made : FnScope n_law_made a_law_made (defScope s_law_made) := ⟨rfl, rfl, rfl, by decide +kernel, rfl, by decide +kernel, by decide +kernel⟩
abbrev n_law_behind : List Str := ["world", "state", "label", "step"]
abbrev a_law_behind : List Str := ["world", "state", "label"]
theorem sc_law_behind : FnScope n_law_behind a_law_behind (defScope s_law_behind) := ⟨rfl, rfl, rfl, by decide +kernel, rfl, by decide +kernel, by decide +kernel⟩
abbrev n_law_value : List Str := ["world", "statement", "sets", "states", "kind", "now", "turn", "inner", "name", "first", "second", "state", "k"]
abbrev a_law_value : List Str := ["world", "statement", "sets"]
theorem sc_law_value : FnScope n_law_value a_law_value (defScope s_law_value) := ⟨rfl, rfl, rfl, by decide +kernel, rfl, by decide +kernel, by decide +kernel⟩
abbrev n_law_truth : List Str := ["world", "statement"]
abbrev a_law_truth : List Str := ["world", "statement"]
theorem sc_law_truth : FnScope n_law_truth a_law_truth (defScope s_law_truth) := ⟨rfl, rfl, rfl, by decide +kernel, rfl, by decide +kernel, by decide +kernel⟩
abbrev n_law_beside : List Str := ["first", "second", "shift", "steps", "step"]
abbrev a_law_beside : List Str := ["first", "second"]
theorem sc_law_beside : FnScope n_law_beside a_law_beside (defScope s_law_beside) := ⟨rfl, rfl, rfl, by decide +kernel, rfl, by decide +kernel, by decide +kernel⟩
abbrev n_law_is_statement : List Str := ["actual", "depth", "sizes", "inner", "part"]
abbrev a_law_is_statement : List Str := ["actual", "depth"]
theorem sc_law_is_statement : FnScope n_law_is_statement a_law_is_statement (defScope s_law_is_statement) := ⟨rfl, rfl, rfl, by decide +kernel, rfl, by decide +kernel, by decide +kernel⟩
abbrev n_law_rounds : List Str := ["world", "steps", "size", "state", "now", "turn", "signs", "behind", "order", "sign", "label", "other"]
abbrev a_law_rounds : List Str := ["world", "steps"]
theorem sc_law_rounds : FnScope n_law_rounds a_law_rounds (defScope s_law_rounds) := ⟨rfl, rfl, rfl, by decide +kernel, rfl, by decide +kernel, by decide +kernel⟩
abbrev n_law : List Str := ["script", "draws", "facts", "first", "second", "steps", "found", "state", "seen", "due", "good", "shift", "other"]
abbrev a_law : List Str := ["script"]
theorem sc_law : FnScope n_law a_law (defScope s_law) := ⟨rfl, rfl, rfl, by decide +kernel, rfl, by decide +kernel, by decide +kernel⟩
/-! ### calls -/
def Has (P : Program) (w : World) (K : PySem.W.Frag) (mg : Str → Option Value) (base : Heap) (x : Str) (k : Nat) (ps : List Str) (sp : Sp) : Prop :=
  ∃ f fd, mg x = some (.ref f) ∧ PySem.W.keepIn K (.ref f) = true ∧ Binds K fd ps [] ∧ FnOk P w K mg base CX0 k f fd ps sp
theorem pe_callH {X : Cx} {x : Str} {k : Nat} {ps : List Str} {sp : Sp} {e : Expr} {es : List Expr} {t : TA} {p pos : Pos} (h : Has X.prog X.w X.K X.mg X.base x k ps sp) (hr : Room k X.A) (ha : PA X (e :: es) t) (hg : Gl X x := by rfl)
    (hdb : (x == ("__debug__" : Str)) = false := by decide) (he : starEach (e :: es) X.env = (false, eval e X.env) :: starEach es X.env := by rfl) (hpl : (backTo pos (starEach es X.env)).any (·.1) = false := by rfl) :
    PE X (.Call (.Name x p) (e :: es) [] pos) (tCall sp [] E0 t) := by
  obtain ⟨f, fd, m, kp, b, G⟩ := h
  exact pe_call G hr hg m kp b .nil pass0 ha hdb he hpl
/-- .. of a def that may raise -/
def HasX (P : Program) (w : World) (K : PySem.W.Frag) (mg : Str → Option Value) (base : Heap) (x : Str) (k : Nat) (ps : List Str) (sp : Sp) : Prop :=
  ∃ f fd, mg x = some (.ref f) ∧ PySem.W.keepIn K (.ref f) = true ∧ Binds K fd ps [] ∧ FnOk P w K mg base (L2.CX P w) k f fd ps sp
theorem pe_callX {X : Cx} {W : WX} {x : Str} {k : Nat} {ps : List Str} {sp : Sp} {e : Expr} {es : List Expr} {t : TA} {p pos : Pos} (h : HasX X.prog X.w X.K X.mg X.base x k ps sp) (hr : Room k X.A) (tk : Takes X W) (ha : PA X (e :: es) t) (hg : Gl X x := by rfl)
    (hdb : (x == ("__debug__" : Str)) = false := by decide) (he : starEach (e :: es) X.env = (false, eval e X.env) :: starEach es X.env := by rfl) (hpl : (backTo pos (starEach es X.env)).any (·.1) = false := by rfl) :
    PE X (.Call (.Name x p) (e :: es) [] pos) (tCallS sp (WE W) t) := by
  obtain ⟨f, fd, m, kp, b, G⟩ := h
  exact pe_callS G hr hg m kp b (fun σ => passAt tk σ) ha hdb he hpl
theorem pe_callL {X : Cx} {x : Str} {k : Nat} {ps : List Str} {sp : Sp} {e : Expr} {es : List Expr} {t : TA} {p pos : Pos} (h : HasX X.prog X.w X.K X.mg X.base x k ps sp) (hr : Room k X.A) (ha : PA X (e :: es) t) (hg : Gl X x := by rfl)
    (hdb : (x == ("__debug__" : Str)) = false := by decide) (he : starEach (e :: es) X.env = (false, eval e X.env) :: starEach es X.env := by rfl) (hpl : (backTo pos (starEach es X.env)).any (·.1) = false := by rfl) :
    PE X (.Call (.Name x p) (e :: es) [] pos) (tCall sp [] E0 t) := by
  obtain ⟨f, fd, m, kp, b, G⟩ := h
  exact pe_call G hr hg m kp b .nil passL ha hdb he hpl
theorem pss_when {X : Cx} {sts : List Stmt} {t : TS} {p : Prop} (h : p → PSs X sts t) : PSs X sts (fun D σ H => p ∧ t D σ H) :=
  ⟨fun pins s σ H D I q => (h q.1).run pins s σ H D I q.2⟩
def HasC (P : Program) (w : World) (K : PySem.W.Frag) (mg : Str → Option Value) (base : Heap) (x : Str) (C : Addr) (k : Nat) (ps : List Str) (sp : Sp) : Prop :=
  ∃ f fd, mg x = some (.ref C) ∧ Mk K C f ∧ Binds K fd ps [] ∧ FnOk P w K mg base CX0 k f fd ps sp
theorem pe_makeH {X : Cx} {x : Str} {C : Addr} {k : Nat} {ps : List Str} {sp : Sp} {e : Expr} {es : List Expr} {t : TA} {p pos : Pos} (h : HasC X.prog X.w X.K X.mg X.base x C k ps sp) (hr : Room (k + 1) X.A) (ha : PA X (e :: es) t) (hg : Gl X x := by rfl)
    (hdb : (x == ("__debug__" : Str)) = false := by decide) (he : starEach (e :: es) X.env = (false, eval e X.env) :: starEach es X.env := by rfl) (hpl : (backTo pos (starEach es X.env)).any (·.1) = false := by rfl) :
    PE X (.Call (.Name x p) (e :: es) [] pos) (tMake C sp [] E0 t) := by
  obtain ⟨f, fd, m, M, b, G⟩ := h
  exact pe_make M G hr hg m b .nil pass0 ha hdb he hpl
/-! ### statements in memory -/
def wN (b : Bool) : Str := if b then "true" else "false"
def wT (b : Bool) : Str := if b then "and" else "or"
def wL : Leaf → Str
  | .has => "has"
  | .lacks => "lacks"
  | .var => "var"
def wO : One → Str
  | .some => "some"
  | .all => "all"
  | .least => "least"
  | .most => "most"
def hv : Hd → List V
  | .nul b => [.str (wN b)]
  | .leaf k n => [.str (wL k), .int n]
  | .two b => [.str (wT b)]
  | .one k n => [.str (wO k), .int n]
def hw : Hd → Str
  | .nul b => wN b
  | .leaf k _ => wL k
  | .two b => wT b
  | .one k _ => wO k
inductive IsF (K : PySem.W.Frag) (H : Hp) : V → F → Prop
  | nul {a : Addr} {b : Bool} : SqT K H a (hv (.nul b)) → IsF K H (.ref a) (.nul b)
  | leaf {a : Addr} {k : Leaf} {n : Int} : SqT K H a (hv (.leaf k n)) → IsF K H (.ref a) (.leaf k n)
  | two {a : Addr} {b : Bool} {x y : V} {f g : F} : SqT K H a (hv (.two b) ++ [x, y]) → IsF K H x f → IsF K H y g → IsF K H (.ref a) (.two b f g)
  | one {a : Addr} {k : One} {n : Int} {x : V} {f : F} : SqT K H a (hv (.one k n) ++ [x]) → IsF K H x f → IsF K H (.ref a) (.one k n f)
/-- all but what stands at d is as it was -/
def But (d : Addr) (H H' : Hp) : Prop := ∀ b o, b ≠ d → H b = some o → H' b = some o
theorem Same.but {d : Addr} {H H' : Hp} (s : Same H H') : But d H H' := fun b o _ e => s b o e
theorem But.refl (d : Addr) (H : Hp) : But d H H := fun _ _ _ e => e
theorem But.trans {d : Addr} {H H1 H2 : Hp} (a : But d H H1) (b : But d H1 H2) : But d H H2 := fun c o n e => b c o n (a c o n e)
theorem But.upd {d : Addr} {H : Hp} {o : HO} : But d H (upd H d o) := fun b u n e => by rw [upd_ne n]; exact e
theorem Same.new {H : Hp} {p : Addr} {o : HO} (h : H p = none) : Same H (upd H p o) := fun b u e => by rw [upd_ne (ne_of_none e h)]; exact e
theorem SqT.keepAt {K : PySem.W.Frag} {H H' : Hp} {a : Addr} {xs : List V} (k : ∀ o, H a = some o → H' a = some o) (h : SqT K H a xs) : SqT K H' a xs := by
  rcases h with h | h
  · rcases h with h | ⟨u, h⟩
    · exact .inl (.inl (k _ h))
    · exact .inl (.inr ⟨u, k _ h⟩)
  · exact .inr h
theorem SqL.keepAt {K : PySem.W.Frag} {H H' : Hp} {a : Addr} {xs : List V} (k : ∀ o, H a = some o → H' a = some o) (h : SqL K H a xs) : SqL K H' a xs := by
  rcases h with h | h
  · rcases h with h | ⟨u, h⟩
    · exact .inl (.inl (k _ h))
    · exact .inl (.inr ⟨u, k _ h⟩)
  · exact .inr h
theorem SqT.same {K : PySem.W.Frag} {H H' : Hp} {a : Addr} {xs : List V} (s : Same H H') (h : SqT K H a xs) : SqT K H' a xs := SqT.keepAt (fun o e => s a o e) h
/-- what stands at d is a list: tuples are elsewhere -/
def IsLst (H : Hp) (d : Addr) : Prop := ∃ xs, H d = some (.lst xs)
theorem SqT.but {K : PySem.W.Frag} {H H' : Hp} {a d : Addr} {xs : List V} (hd : IsLst H d) (s : But d H H') (h : SqT K H a xs) : SqT K H' a xs := by
  rcases h with h | h
  · obtain ⟨ys, e⟩ := hd
    rcases h with h | ⟨u, h⟩
    · exact .inl (.inl (s _ _ (ne_of h e (by intro z; cases z)) h))
    · exact .inl (.inr ⟨u, s _ _ (ne_of h e (by intro z; cases z)) h⟩)
  · exact .inr h
theorem IsF.map {K : PySem.W.Frag} {H H' : Hp} (s : ∀ a xs, SqT K H a xs → SqT K H' a xs) {v : V} {t : F} (h : IsF K H v t) : IsF K H' v t := by
  induction h with
  | nul h => exact .nul (s _ _ h)
  | leaf h => exact .leaf (s _ _ h)
  | two h _ _ f g => exact .two (s _ _ h) f g
  | one h _ f => exact .one (s _ _ h) f
theorem IsF.same {K : PySem.W.Frag} {H H' : Hp} (s : Same H H') {v : V} {t : F} (h : IsF K H v t) : IsF K H' v t := h.map fun _ _ => SqT.same s
theorem IsF.but {K : PySem.W.Frag} {H H' : Hp} {d : Addr} (hd : IsLst H d) (s : But d H H') {v : V} {t : F} (h : IsF K H v t) : IsF K H' v t := h.map fun _ _ => SqT.but hd s
inductive AllF (K : PySem.W.Frag) (H : Hp) : List V → List F → Prop
  | nil : AllF K H [] []
  | cons {x : V} {f : F} {xs : List V} {fs : List F} : IsF K H x f → AllF K H xs fs → AllF K H (x :: xs) (f :: fs)
theorem IsF.open {K : PySem.W.Frag} {H : Hp} {v : V} {t : F} (h : IsF K H v t) : ∃ a ks, v = .ref a ∧ SqT K H a (hv t.hd ++ ks) ∧ AllF K H ks t.kids := by
  cases h with
  | nul h => exact ⟨_, [], rfl, by simpa [F.hd] using h, .nil⟩
  | leaf h => exact ⟨_, [], rfl, by simpa [F.hd] using h, .nil⟩
  | two h f g => exact ⟨_, _, rfl, h, .cons f (.cons g .nil)⟩
  | one h f => exact ⟨_, _, rfl, h, .cons f .nil⟩
theorem IsF.close {K : PySem.W.Frag} {H : Hp} {a : Addr} {t : F} {ks : List V} (h : SqT K H a (hv t.hd ++ ks)) (hk : AllF K H ks t.kids) : IsF K H (.ref a) t := by
  cases t with
  | nul b =>
    cases hk
    exact .nul (by simpa [F.hd] using h)
  | leaf k n =>
    cases hk
    exact .leaf (by simpa [F.hd] using h)
  | two b f g =>
    cases hk with
    | cons x hk =>
      cases hk with
      | cons y hk =>
        cases hk
        exact .two h x y
  | one k n f =>
    cases hk with
    | cons x hk =>
      cases hk
      exact .one h x
theorem hv_len (h : Hd) : (hv h).length = 1 ∨ (hv h).length = 2 := by cases h <;> simp [hv]
theorem hv_head (h : Hd) : (hv h)[0]? = some (.str (hw h)) := by cases h <;> rfl
def isTwo : Hd → Bool
  | .two _ => true
  | _ => false
theorem in_joins (h : Hd) : inV (.str (hw h)) [.str "and", .str "or"] = isTwo h := by
  cases h with
  | nul b => cases b <;> rfl
  | leaf k n => cases k <;> rfl
  | two b => cases b <;> rfl
  | one k n => cases k <;> rfl
def isBH : Hd → Bool
  | .one k _ => k.bind
  | _ => false
theorem in_binders (h : Hd) : inV (.str (hw h)) [.str "least", .str "most"] = isBH h := by
  cases h with
  | nul b => cases b <;> rfl
  | leaf k n => cases k <;> rfl
  | two b => cases b <;> rfl
  | one k n => cases k <;> rfl
/-! ### what the top has written -/
structure Txt (K : PySem.W.Frag) (mg : Str → Option Value) (C J B : Addr) : Prop where
  z_all : mg "all" = none
  z_bool : mg "bool" = none
  z_enumerate : mg "enumerate" = none
  z_int : mg "int" = none
  z_isinstance : mg "isinstance" = none
  z_len : mg "len" = none
  z_list : mg "list" = none
  z_range : mg "range" = none
  z_set : mg "set" = none
  z_sorted : mg "sorted" = none
  z_tuple : mg "tuple" = none
  z_zip : mg "zip" = none
/-- what it has written of the class of worlds -/
structure TxtC (K : PySem.W.Frag) (WC : Addr) : Prop where
  cl : Cls K WC
  nL : NoAttr K WC "labels"
  nF : NoAttr K WC "facts"
  nS : NoAttr K WC "states"
  nT : NoAttr K WC "steps"
  nE : NoAttr K WC "_ends"
/-- what it has written of the errors -/
structure TxtE (K : PySem.W.Frag) (mg : Str → Option Value) (NC FE : Addr) : Prop where
  gC : mg "NotClosed" = some (.ref NC)
  gF : mg "FixError" = some (.ref FE)
  xC : PySem.W.excIn K NC [.type "ValueError", .type "Exception", .type "BaseException", .type "object"] "ValueError.__new__" = true
  kC : PySem.W.keepIn K (.ref NC) = true
  bC : PySem.W.subIn K (.ref NC) (.type "BaseException") = some true
  tC : PySem.W.typeIn K (.ref NC) = some (.type "type")
  eC : PySem.W.exmOne K (.ref NC) (.ref NC) = some true
  is : ExcC K NC
  kF : PySem.W.kitOne K (.ref NC) (.ref FE) = some true
  kV : PySem.W.kitOne K (.ref NC) (.type "ValueError") = some true
def pf (h : V) (a : Int) (l : Addr) : List (Str × V) := [("head", h), ("around", .int a), ("inner", .ref l)]
theorem pf_make (h : V) (a : Int) (l : Addr) : putF "inner" (.ref l) (putF "around" (.int a) (putF "head" h [])) = pf h a l := by rfl
theorem join {c : Bool} {A : Prop} {C : Hp → Prop} {G : Hp} (Fa : Hp → Prop) (hr : ∀ G5, Fa G5 → C G5) (h1 : c = true → (∀ G5, Fa G5 → C G5) → A) (h2 : c = false → Fa G) : if c = true then A else C G := by
  cases c with
  | true => exact h1 rfl hr
  | false => exact hr _ (h2 rfl)
end Fw

set_option maxRecDepth 100000
set_option maxHeartbeats 2000000
namespace Fw
open PySem PySem.Spec PyProof.Rows L2
/-! ### parts in memory -/
/-- all but what stands at the addresses of X is as it was -/
def Kp (X : List Addr) (H H' : Hp) : Prop := ∀ b o, b ∉ X → H b = some o → H' b = some o
/-- all but lists is as it was -/
def LKp (H H' : Hp) : Prop := ∀ b o, (∀ xs, o ≠ .lst xs) → H b = some o → H' b = some o
theorem LKp.refl (H : Hp) : LKp H H := fun _ _ _ e => e
theorem LKp.trans {H H1 H2 : Hp} (a : LKp H H1) (b : LKp H1 H2) : LKp H H2 := fun c o n e => b c o n (a c o n e)
theorem LKp.same {H H' : Hp} (s : Same H H') : LKp H H' := fun b o _ e => s b o e
theorem LKp.upd {H : Hp} {d : Addr} {xs : List V} {o : HO} (h : H d = some (.lst xs)) : LKp H (upd H d o) := fun b u n e => by
  rw [upd_ne (ne_of e h (n xs))]
  exact e
theorem SqT.lk {K : PySem.W.Frag} {H H' : Hp} {a : Addr} {xs : List V} (s : LKp H H') (h : SqT K H a xs) : SqT K H' a xs := by
  rcases h with h | h
  · rcases h with h | ⟨u, h⟩
    · exact .inl (.inl (s _ _ (by intro xs z; cases z) h))
    · exact .inl (.inr ⟨u, s _ _ (by intro xs z; cases z) h⟩)
  · exact .inr h
theorem IsF.lk {K : PySem.W.Frag} {H H' : Hp} (s : LKp H H') {v : V} {t : F} (h : IsF K H v t) : IsF K H' v t := h.map fun _ _ => SqT.lk s
theorem AllF.lk {K : PySem.W.Frag} {H H' : Hp} (s : LKp H H') {vs : List V} {ts : List F} (h : AllF K H vs ts) : AllF K H' vs ts := by
  induction h with
  | nil => exact .nil
  | cons a _ ih => exact .cons (a.lk s) ih
theorem AllF.len {K : PySem.W.Frag} {H : Hp} {vs : List V} {ts : List F} (h : AllF K H vs ts) : vs.length = ts.length := by
  induction h with
  | nil => rfl
  | cons _ _ ih => simp [ih]
theorem AllF.get {K : PySem.W.Frag} {H : Hp} {vs : List V} {ts : List F} (h : AllF K H vs ts) : ∀ {m : Nat} {y : V} {f : F}, vs[m]? = some y → ts[m]? = some f → IsF K H y f := by
  induction h with
  | nil => intro m y f e _; cases e
  | cons a _ ih =>
    intro m y f e1 e2
    cases m with
    | zero =>
      cases e1
      cases e2
      exact a
    | succ m => exact ih e1 e2
structure PRec where
  p : Addr
  l : Addr
  dx : Addr
  h : Addr
structure PartIs (K : PySem.W.Frag) (C : Addr) (H : Hp) (pr : PRec) (hd : Hd) (a : Int) (ks : List Nat) : Prop where
  ob : H pr.p = some (.ins C pr.dx (pf (.ref pr.h) a pr.l))
  hd : SqT K H pr.h (hv hd)
  inn : H pr.l = some (.lst (ks.map fun n => V.int (n : Nat)))
def Parts (K : PySem.W.Frag) (C : Addr) (H : Hp) (R : List PRec) (L : List (Hd × Int)) : Prop :=
  R.length = L.length ∧ ∀ i pr hd a, R[i]? = some pr → L[i]? = some (hd, a) → PartIs K C H pr hd a (kidsFrom (L.map (·.2)) 0 i)
def PartsAt (K : PySem.W.Frag) (C : Addr) (H : Hp) (pa : Addr) (L : List (Hd × Int)) : Prop :=
  ∃ R : List PRec, SqL K H pa (R.map fun r => V.ref r.p) ∧ Parts K C H R L
theorem PartIs.same {K : PySem.W.Frag} {C : Addr} {H H' : Hp} {pr : PRec} {hd : Hd} {a : Int} {ks : List Nat} (s : Same H H') (h : PartIs K C H pr hd a ks) : PartIs K C H' pr hd a ks :=
  ⟨s _ _ h.ob, SqT.same s h.hd, s _ _ h.inn⟩
theorem PartsAt.same {K : PySem.W.Frag} {C : Addr} {H H' : Hp} {pa : Addr} {L : List (Hd × Int)} (s : Same H H') (h : PartsAt K C H pa L) : PartsAt K C H' pa L := by
  obtain ⟨R, h1, h2, h3⟩ := h
  exact ⟨R, s.seq h1, h2, fun i pr hd a e1 e2 => (h3 i pr hd a e1 e2).same s⟩
/-- what waits: bottom first in memory, top first in the list -/
inductive SA (K : PySem.W.Frag) (H : Hp) : List V → List (F × Int) → Prop
  | nil : SA K H [] []
  | snoc {ws : List V} {st : List (F × Int)} {q : Addr} {x : V} {t : F} {a : Int} : SA K H ws st → SqT K H q [x, .int a] → IsF K H x t → SA K H (ws ++ [.ref q]) ((t, a) :: st)
theorem SA.lk {K : PySem.W.Frag} {H H' : Hp} (s : LKp H H') {ws : List V} {st : List (F × Int)} (h : SA K H ws st) : SA K H' ws st := by
  induction h with
  | nil => exact .nil
  | snoc _ b c ih => exact .snoc ih (SqT.lk s b) (c.lk s)
theorem SA.len {K : PySem.W.Frag} {H : Hp} {ws : List V} {st : List (F × Int)} (h : SA K H ws st) : ws.length = st.length := by
  induction h with
  | nil => rfl
  | snoc _ _ _ ih => simp [ih]
theorem kids_snoc (L : List (Hd × Int)) (h : Hd) (a : Int) (i : Nat) :
    kidsFrom ((L ++ [(h, a)]).map (·.2)) 0 i = kidsFrom (L.map (·.2)) 0 i ++ if a = (i : Int) then [L.length] else [] := by
  rw [List.map_append, kids_app]
  simp only [List.map_cons, List.map_nil, kidsFrom, Nat.zero_add, List.length_map]
theorem kids_out : ∀ (A : List Int) (j i : Nat), (∀ a ∈ A, a < (i : Int)) → kidsFrom A j i = [] := fun A j i h => kids_none A j i fun a ha => by have := h a ha; omega
theorem Parts.more {K : PySem.W.Frag} {C : Addr} {G G5 : Hp} {R : List PRec} {L : List (Hd × Int)} {n : PRec} {hd : Hd} {a : Int} (PR : Parts K C G R L) (lk : LKp G G5)
    (hin : ∀ i pr, R[i]? = some pr → G5 pr.l = some (.lst ((kidsFrom (L.map (·.2)) 0 i ++ if a = (i : Int) then [L.length] else []).map fun n => V.int (n : Nat))))
    (Lb : ∀ x ∈ L, x.2 < (L.length : Int)) (ha : a < (L.length : Int)) (new : PartIs K C G5 n hd a []) : Parts K C G5 (R ++ [n]) (L ++ [(hd, a)]) := by
  obtain ⟨len, h⟩ := PR
  refine ⟨by simp [len], fun i pr hd' a' e1 e2 => ?_⟩
  rw [kids_snoc]
  by_cases lt : i < R.length
  · rw [List.getElem?_append_left lt] at e1
    rw [List.getElem?_append_left (by omega)] at e2
    have z := h i pr hd' a' e1 e2
    exact ⟨lk _ _ (by intro xs q; cases q) z.ob, SqT.lk lk z.hd, hin i pr e1⟩
  · have ei : i = R.length := by
      have q := (List.getElem?_eq_some_iff.mp e1).1
      rw [List.length_append, List.length_singleton] at q
      omega
    subst ei
    rw [List.getElem?_append_right (Nat.le_refl _), Nat.sub_self] at e1
    rw [List.getElem?_append_right (by omega), len, Nat.sub_self] at e2
    cases e1
    cases e2
    have none : kidsFrom (L.map (·.2)) 0 R.length = [] := by
      refine kids_out _ _ _ fun b hb => ?_
      obtain ⟨x, hx, rfl⟩ := List.mem_map.mp hb
      rw [len]
      exact Lb x hx
    rw [none, if_neg (by rw [len]; omega)]
    exact new
end Fw

set_option maxRecDepth 100000
set_option maxHeartbeats 2000000
namespace Fw
open PySem PySem.Spec PyProof.Rows L2
def Draws (H : Hp) (d : Addr) : Prop := ∃ ds : List Int, H d = some (.lst (ds.map V.int))
theorem Draws.lst {H : Hp} {d : Addr} (h : Draws H d) : IsLst H d := by
  obtain ⟨ds, e⟩ := h
  exact ⟨_, e⟩
theorem fmod_in {a b : Int} (h : 0 < b) : 0 ≤ a.fmod b ∧ a.fmod b < b := by
  rw [Int.fmod_eq_emod_of_nonneg a (Int.le_of_lt h)]
  exact ⟨Int.emod_nonneg a (by omega), Int.emod_lt_of_pos a h⟩
theorem nz1 : (1000 : Int) ≠ 0 := by decide
theorem nz2 : (2147483647 : Int) ≠ 0 := by decide
theorem nz3 : (1000003 : Int) ≠ 0 := by decide
theorem sq_small {m : Int} (h0 : 0 ≤ m) (h1 : m < 2147483647) : -(2 ^ 64) < m ∧ m < 2 ^ 64 := ⟨by omega, by omega⟩
theorem isTup {K : PySem.W.Frag} {H : Hp} {a : Addr} {xs : List V} (h : SqT K H a xs) : TyX K H (.ref a) (.type "tuple") := by
  rcases h with h | ⟨o, _, _, e, c, _⟩
  · rcases h with h | ⟨u, h⟩
    · exact .base (.tup h)
    · exact .fTuple h
  · exact .kTuple e c
theorem IsF.ty {K : PySem.W.Frag} {H : Hp} {v : V} {t : F} (h : IsF K H v t) : TyX K H v (.type "tuple") := by
  obtain ⟨a, ks, rfl, sq, _⟩ := h.open
  exact isTup sq
section
variable {P : Program} {w : World} {K : PySem.W.Frag} {mg : Str → Option Value} {base : Heap} {C J B NC FE : Addr}
/-! ### the law's draws -/
def spDraws (K : PySem.W.Frag) : Sp := fun vs H Q _ => ∃ (a : Addr) (ns : List Int) (c : Int), vs = [.ref a, .int c] ∧ SqL K H a (ns.map V.int) ∧ ns.length ≤ 63 ∧ 0 ≤ c ∧ c ≤ 1000 ∧
  ∀ d H', Same H H' → H d = none → Draws H' d → Q (.ref d) H'
theorem ok_law_draws {f : Addr} {fd : FuncData} (FF : Fun K "_law_draws" "_law_draws" s_law_draws f fd) (T : Txt K mg C J B) : FnOk P w K mg base CX0 1 f fd a_law_draws (spDraws K) := by
  refine FF.ok sc_law_draws (fun vs H Q E h => ?_) (fun cdv A outer s H vs Q E hr h => ?_)
  · obtain ⟨a, ns, c, rfl, _⟩ := h
    rfl
  · obtain ⟨a, ns, c, rfl, hS, hlen, c0, c1, k⟩ := h
    refine ⟨_, (pss_cons (ps_set (i := 2) sc_law_draws.nd rfl (.inl rfl) (pe_callTy call_list_of rfl T.z_list (by decide +kernel) (pa_cons (pv 0) pa_nil)))
      (pss_cons (ps_if (pt_cmpR op_eq (pe_callB call_len_seq rfl T.z_len (by decide +kernel) (pa_cons (pv 2) pa_nil)) pe_int (nomark _)) (pss_one (ps_set (i := 2) sc_law_draws.nd rfl (.inl rfl) (pe_lst (pa_cons pe_int pa_nil)))) pss_nil)
      (pss_cons (ps_set (i := 3) sc_law_draws.nd rfl (.inl rfl) (pe_lst pa_nil))
      (pss_cons (ps_set (i := 4) sc_law_draws.nd rfl (.inl rfl) pe_int)
      (pss_cons (ps_for PassesOwn.never rfl (pi_range1 rfl T.z_range (pa_cons (pv 1) pa_nil)) (pg_name (i := 5) sc_law_draws.nd rfl (.inl rfl)) (pss_cons (ps_set (i := 6) sc_law_draws.nd rfl (.inl rfl) (pe_op op_modN (pv 5) (pe_callB call_len_seq rfl T.z_len (by decide +kernel) (pa_cons (pv 2) pa_nil))))
      (pss_cons (ps_set (i := 7) sc_law_draws.nd rfl (.inl rfl) (pe_ix ix_list (pv 2) (pv 6) (fun _ _ => rfl)))
      (pss_cons (ps_set (i := 4) sc_law_draws.nd rfl (.inl rfl) (pe_op op_modN (pe_callTy call_int1 rfl T.z_int (by decide +kernel) (pa_cons (pe_op op_add (pe_op op_add (pe_op op_add (pe_op op_mul (pv 4) pe_int) (pe_op op_mul (pe_op op_modN (pe_callTy call_int1 rfl T.z_int (by decide +kernel) (pa_cons (pv 7) pa_nil)) pe_int) pe_int)) (pe_op op_mul (pv 5) pe_int)) pe_int) pa_nil)) pe_int))
      (pss_cons (ps_set (i := 8) sc_law_draws.nd rfl (.inl rfl) (pe_op op_modN (pe_callTy call_int1 rfl T.z_int (by decide +kernel) (pa_cons (pe_op op_add (pe_op op_add (pe_op op_mul (pv 4) (pv 4)) (pe_op op_mul pe_int (pv 4))) (pv 5)) pa_nil)) pe_int))
      (pss_one (ps_if (pt_cmpR op_ge (pv 7) (pe_op op_pow pe_int pe_int) (nomark _)) (pss_cons (ps_expr (pe_bm PySem.F.plainAttrs_list PySem.F.slot_list_append PySem.F.type_list_append mt_append (pv 3) (pa_cons (pe_op op_modN (pe_callTy call_int1 rfl T.z_int (by decide +kernel) (pa_cons (pv 7) pa_nil)) pe_int) pa_nil)))
      (pss_one (ps_asg (pe_op op_fdivN (pv 7) pe_int) (pg_sub (pv 2) (pv 6) set_list)))) (pss_one (ps_expr (pe_bm PySem.F.plainAttrs_list PySem.F.slot_list_append PySem.F.type_list_append mt_append (pv 3) (pa_cons (pe_op op_modN (pe_callTy call_int1 rfl T.z_int (by decide +kernel) (pa_cons (pv 8) pa_nil)) pe_int) pa_nil)))))))))))
      (pss_cons (ps_expr (pe_bm0 PySem.F.plainAttrs_list PySem.F.slot_list_reverse PySem.F.type_list_reverse mt_reverse (pv 3)))
      (pss_one (ps_ret (pv 3))))))))), ?_⟩
    refine ⟨.ref a, rfl, a, _, rfl, .inl hS, fun ca hca => ?_⟩
    have s1 := Same.new (o := .lst (ns.map V.int)) hca
    refine ⟨.ref ca, rfl, ca, _, rfl, .inl (SqL.of upd_same), rfl, _, rfl, ?_⟩
    have fresh : H ca = none := hca
    have goal : ∀ (cb : Addr) (cs : List Int) (G0 : Hp), Same H G0 → H cb = none → G0 cb = some (.lst (cs.map V.int)) → cs ≠ [] → cs.length ≤ 63 → True := fun _ _ _ _ _ _ _ _ => trivial
    refine ite2 (fun c => ?_) (fun c => ?_)
    · refine ⟨by show 1 ≤ sizeLine; decide, fun cb hcb => ?_⟩
      have s2 := Same.new (o := .lst [V.int 7]) hcb
      have sG0 := s1.trans s2
      have hcb0 := s1.free hcb
      have gcb : (upd (upd H ca (.lst (ns.map V.int))) cb (.lst [V.int 7])) cb = some (.lst (([7] : List Int).map V.int)) := upd_same
      generalize upd (upd H ca (.lst (ns.map V.int))) cb (.lst [V.int 7]) = G0 at sG0 gcb
      have hne : ([7] : List Int) ≠ [] := by simp
      have hl63 : ([7] : List Int).length ≤ 63 := by decide
      generalize ([7] : List Int) = cs at gcb hne hl63
      clear s2 s1 hca fresh hcb c goal hlen hS
      refine ⟨Nat.zero_le _, fun fa hfa => ?_⟩
      have s3 := Same.new (o := .lst []) hfa
      have hfa0 := sG0.free hfa
      have fcb : fa ≠ cb := fun e => by rw [e, gcb] at hfa; cases hfa
      refine ⟨.int c, rfl, c, rfl, by omega, by omega, ?_⟩
      refine for_range (lo := 0) (n := c.toNat) (fun i σ G => ∃ (cs' ds : List Int) (m : Int) (y5 y6 y7 y8 : Option V), σ = [some (.ref a), some (.int c), some (.ref cb), some (.ref fa), some (.int m), y5, y6, y7, y8] ∧ Same H G ∧
          G cb = some (.lst (cs'.map V.int)) ∧ cs'.length = cs.length ∧ G fa = some (.lst (ds.map V.int)) ∧ ds.length = i ∧ 0 ≤ m ∧ m < 2147483647)
        ⟨cs, [], 12345, none, none, none, none, rfl, sG0.trans s3, s3 _ _ gcb, rfl, upd_same, rfl, by decide, by decide⟩ ?_ ?_
      · rintro i σ G hi ⟨cs', ds, m, y5, y6, y7, y8, rfl, sG, gc, lc, gf, ld, m0, m1⟩
        have hic : (i : Int) < c := by omega
        rw [Int.zero_add]
        have lpos : 0 < cs'.length := by rw [lc]; exact List.length_pos_iff.mpr hne
        have lmap : ((cs'.map V.int).length : Int) = (cs'.length : Int) := by rw [List.length_map]
        -- j = k % len(cells)
        refine ⟨.int (i : Nat), rfl, .ref cb, rfl, cb, _, rfl, .inl (SqL.of gc), _, _, rfl, rfl, by rw [lmap]; omega, ?_⟩
        rw [lmap]
        have hj := fmod_in (a := (i : Int)) (b := (cs'.length : Int)) (by omega)
        obtain ⟨j, hJ⟩ : ∃ j : Nat, (i : Int).fmod (cs'.length : Int) = (j : Int) := ⟨((i : Int).fmod (cs'.length : Int)).toNat, by omega⟩
        rw [hJ] at hj
        have hjl : j < cs'.length := by omega
        obtain ⟨x, hx⟩ : ∃ x, cs'[j]? = some x := ⟨cs'[j], by simp [hjl]⟩
        -- cell = cells[j]
        refine ⟨.ref cb, rfl, _, rfl, cb, _, _, .int x, rfl, rfl, SqL.of gc, by rw [hJ]; exact atI_nat (j := j) (by rw [List.getElem?_map, hx]; rfl), ?_⟩
        -- mixed
        have x3 := fmod_in (a := x) (b := 1000003) (by decide)
        refine ⟨.int m, rfl, m, 48271, rfl, rfl, .inl (sq_small m0 m1), .int x, rfl, .inl ⟨x, rfl, x, 1000003, rfl, rfl, nz3, x.fmod 1000003, 69621, rfl, rfl, .inl ⟨by omega, by omega⟩, _, _, rfl, rfl, .int (i : Nat), rfl, (i : Int), 7919, rfl, rfl, .inl ⟨by omega, by omega⟩, _, _, rfl, rfl, _, 11, rfl, rfl, .inl ⟨_, rfl, _, 2147483647, rfl, rfl, nz2, ?_⟩⟩⟩
        have mm := fmod_in (a := m * 48271 + x.fmod 1000003 * 69621 + (i : Int) * 7919 + 11) (b := 2147483647) (by decide)
        -- again
        refine ⟨_, rfl, _, rfl, _, _, rfl, rfl, .inl (sq_small mm.1 mm.2), _, rfl, 31, _, rfl, rfl, .inl ⟨by decide, by decide⟩, _, _, rfl, rfl, _, rfl, _, _, rfl, rfl, .inl ⟨_, rfl, _, 1000003, rfl, rfl, nz3, ?_⟩⟩
        -- if cell >= 10 ** 18
        refine ⟨.int x, rfl, 10, 18, rfl, rfl, ⟨by decide, by decide, by decide⟩, _, _, rfl, rfl, _, rfl, ite2 (fun _ => ?_) (fun _ => ?_)⟩
        · refine ⟨.ref fa, rfl, .inl ⟨rfl, _, SqL.of gf⟩, .int x, rfl, .inl ⟨x, rfl, x, 1000, rfl, rfl, nz1, fa, _, _, rfl, rfl, gf, by rw [List.length_map]; exact small1000 (by omega), ?_⟩⟩
          have gc2 : (upd G fa (.lst (ds.map V.int ++ [V.int (x.fmod 1000)]))) cb = some (.lst (cs'.map V.int)) := by rw [upd_ne fcb.symm]; exact gc
          refine ⟨.int x, rfl, x, 1000, rfl, rfl, ⟨by decide, by decide⟩, .ref cb, rfl, _, rfl, cb, _, _, j, rfl, rfl, gc2, by rw [hJ]; unfold ixN; rw [if_pos (by omega), if_pos (by rw [List.length_map]; omega), Int.toNat_natCast], ?_⟩
          refine ⟨cs'.set j (x.fdiv 1000), ds ++ [x.fmod 1000], _, _, _, _, _, rfl, fun b o e => ?_, ?_, by rw [List.length_set]; exact lc, ?_, by rw [List.length_append, ld]; rfl, mm.1, mm.2⟩
          · rw [upd_ne (ne_of_none e hcb0), upd_ne (ne_of_none e hfa0)]
            exact sG b o e
          · rw [upd_same, List.map_set]
          · rw [upd_ne fcb, upd_same, List.map_append]
            rfl
        · refine ⟨.ref fa, rfl, .inl ⟨rfl, _, SqL.of gf⟩, _, rfl, .inl ⟨_, rfl, _, 1000, rfl, rfl, nz1, fa, _, _, rfl, rfl, gf, by rw [List.length_map]; exact small1000 (by omega), ?_⟩⟩
          obtain ⟨ag, hag⟩ : ∃ ag : Int, ag = (((m * 48271 + x.fmod 1000003 * 69621 + (i : Int) * 7919 + 11).fmod 2147483647 * (m * 48271 + x.fmod 1000003 * 69621 + (i : Int) * 7919 + 11).fmod 2147483647 + 31 * (m * 48271 + x.fmod 1000003 * 69621 + (i : Int) * 7919 + 11).fmod 2147483647 + (i : Int)).fmod 1000003).fmod 1000 := ⟨_, rfl⟩
          refine ⟨cs', ds ++ [ag], _, _, _, _, _, rfl, fun b o e => ?_, ?_, lc, ?_, by rw [List.length_append, ld]; rfl, mm.1, mm.2⟩
          · rw [upd_ne (ne_of_none e hfa0)]
            exact sG b o e
          · rw [upd_ne fcb.symm]
            exact gc
          · rw [upd_same, List.map_append, hag]
            rfl
      · rintro σ G ⟨cs', ds, m, y5, y6, y7, y8, rfl, sG, gc, lc, gf, ld, m0, m1⟩
        refine ⟨.ref fa, rfl, .inl ⟨rfl, _, SqL.of gf⟩, fa, _, rfl, rfl, gf, .ref fa, rfl, ?_⟩
        refine k fa _ (fun b o e => ?_) hfa0 ⟨ds.reverse, by rw [upd_same, List.map_reverse]⟩
        rw [upd_ne (ne_of_none e hfa0)]
        exact sG b o e
    · have hne : ns ≠ [] := fun e => c (decide_eq_true (by rw [e]; rfl))
      have sG0 := s1
      have hcb0 := fresh
      have gcb : (upd H ca (.lst (ns.map V.int))) ca = some (.lst (ns.map V.int)) := upd_same
      generalize upd H ca (.lst (ns.map V.int)) = G0 at sG0 gcb
      have hl63 := hlen
      clear s1 hca fresh c goal hlen hS
      obtain ⟨cb, ecb⟩ : ∃ cb : Addr, cb = ca := ⟨_, rfl⟩
      obtain ⟨cs, ecs⟩ : ∃ cs : List Int, cs = ns := ⟨_, rfl⟩
      subst ecb
      subst ecs
      refine ⟨Nat.zero_le _, fun fa hfa => ?_⟩
      have s3 := Same.new (o := .lst []) hfa
      have hfa0 := sG0.free hfa
      have fcb : fa ≠ cb := fun e => by rw [e, gcb] at hfa; cases hfa
      refine ⟨.int c, rfl, c, rfl, by omega, by omega, ?_⟩
      refine for_range (lo := 0) (n := c.toNat) (fun i σ G => ∃ (cs' ds : List Int) (m : Int) (y5 y6 y7 y8 : Option V), σ = [some (.ref a), some (.int c), some (.ref cb), some (.ref fa), some (.int m), y5, y6, y7, y8] ∧ Same H G ∧
          G cb = some (.lst (cs'.map V.int)) ∧ cs'.length = cs.length ∧ G fa = some (.lst (ds.map V.int)) ∧ ds.length = i ∧ 0 ≤ m ∧ m < 2147483647)
        ⟨cs, [], 12345, none, none, none, none, rfl, sG0.trans s3, s3 _ _ gcb, rfl, upd_same, rfl, by decide, by decide⟩ ?_ ?_
      · rintro i σ G hi ⟨cs', ds, m, y5, y6, y7, y8, rfl, sG, gc, lc, gf, ld, m0, m1⟩
        have hic : (i : Int) < c := by omega
        rw [Int.zero_add]
        have lpos : 0 < cs'.length := by rw [lc]; exact List.length_pos_iff.mpr hne
        have lmap : ((cs'.map V.int).length : Int) = (cs'.length : Int) := by rw [List.length_map]
        -- j = k % len(cells)
        refine ⟨.int (i : Nat), rfl, .ref cb, rfl, cb, _, rfl, .inl (SqL.of gc), _, _, rfl, rfl, by rw [lmap]; omega, ?_⟩
        rw [lmap]
        have hj := fmod_in (a := (i : Int)) (b := (cs'.length : Int)) (by omega)
        obtain ⟨j, hJ⟩ : ∃ j : Nat, (i : Int).fmod (cs'.length : Int) = (j : Int) := ⟨((i : Int).fmod (cs'.length : Int)).toNat, by omega⟩
        rw [hJ] at hj
        have hjl : j < cs'.length := by omega
        obtain ⟨x, hx⟩ : ∃ x, cs'[j]? = some x := ⟨cs'[j], by simp [hjl]⟩
        -- cell = cells[j]
        refine ⟨.ref cb, rfl, _, rfl, cb, _, _, .int x, rfl, rfl, SqL.of gc, by rw [hJ]; exact atI_nat (j := j) (by rw [List.getElem?_map, hx]; rfl), ?_⟩
        -- mixed
        have x3 := fmod_in (a := x) (b := 1000003) (by decide)
        refine ⟨.int m, rfl, m, 48271, rfl, rfl, .inl (sq_small m0 m1), .int x, rfl, .inl ⟨x, rfl, x, 1000003, rfl, rfl, nz3, x.fmod 1000003, 69621, rfl, rfl, .inl ⟨by omega, by omega⟩, _, _, rfl, rfl, .int (i : Nat), rfl, (i : Int), 7919, rfl, rfl, .inl ⟨by omega, by omega⟩, _, _, rfl, rfl, _, 11, rfl, rfl, .inl ⟨_, rfl, _, 2147483647, rfl, rfl, nz2, ?_⟩⟩⟩
        have mm := fmod_in (a := m * 48271 + x.fmod 1000003 * 69621 + (i : Int) * 7919 + 11) (b := 2147483647) (by decide)
        -- again
        refine ⟨_, rfl, _, rfl, _, _, rfl, rfl, .inl (sq_small mm.1 mm.2), _, rfl, 31, _, rfl, rfl, .inl ⟨by decide, by decide⟩, _, _, rfl, rfl, _, rfl, _, _, rfl, rfl, .inl ⟨_, rfl, _, 1000003, rfl, rfl, nz3, ?_⟩⟩
        -- if cell >= 10 ** 18
        refine ⟨.int x, rfl, 10, 18, rfl, rfl, ⟨by decide, by decide, by decide⟩, _, _, rfl, rfl, _, rfl, ite2 (fun _ => ?_) (fun _ => ?_)⟩
        · refine ⟨.ref fa, rfl, .inl ⟨rfl, _, SqL.of gf⟩, .int x, rfl, .inl ⟨x, rfl, x, 1000, rfl, rfl, nz1, fa, _, _, rfl, rfl, gf, by rw [List.length_map]; exact small1000 (by omega), ?_⟩⟩
          have gc2 : (upd G fa (.lst (ds.map V.int ++ [V.int (x.fmod 1000)]))) cb = some (.lst (cs'.map V.int)) := by rw [upd_ne fcb.symm]; exact gc
          refine ⟨.int x, rfl, x, 1000, rfl, rfl, ⟨by decide, by decide⟩, .ref cb, rfl, _, rfl, cb, _, _, j, rfl, rfl, gc2, by rw [hJ]; unfold ixN; rw [if_pos (by omega), if_pos (by rw [List.length_map]; omega), Int.toNat_natCast], ?_⟩
          refine ⟨cs'.set j (x.fdiv 1000), ds ++ [x.fmod 1000], _, _, _, _, _, rfl, fun b o e => ?_, ?_, by rw [List.length_set]; exact lc, ?_, by rw [List.length_append, ld]; rfl, mm.1, mm.2⟩
          · rw [upd_ne (ne_of_none e hcb0), upd_ne (ne_of_none e hfa0)]
            exact sG b o e
          · rw [upd_same, List.map_set]
          · rw [upd_ne fcb, upd_same, List.map_append]
            rfl
        · refine ⟨.ref fa, rfl, .inl ⟨rfl, _, SqL.of gf⟩, _, rfl, .inl ⟨_, rfl, _, 1000, rfl, rfl, nz1, fa, _, _, rfl, rfl, gf, by rw [List.length_map]; exact small1000 (by omega), ?_⟩⟩
          obtain ⟨ag, hag⟩ : ∃ ag : Int, ag = (((m * 48271 + x.fmod 1000003 * 69621 + (i : Int) * 7919 + 11).fmod 2147483647 * (m * 48271 + x.fmod 1000003 * 69621 + (i : Int) * 7919 + 11).fmod 2147483647 + 31 * (m * 48271 + x.fmod 1000003 * 69621 + (i : Int) * 7919 + 11).fmod 2147483647 + (i : Int)).fmod 1000003).fmod 1000 := ⟨_, rfl⟩
          refine ⟨cs', ds ++ [ag], _, _, _, _, _, rfl, fun b o e => ?_, ?_, lc, ?_, by rw [List.length_append, ld]; rfl, mm.1, mm.2⟩
          · rw [upd_ne (ne_of_none e hfa0)]
            exact sG b o e
          · rw [upd_ne fcb.symm]
            exact gc
          · rw [upd_same, List.map_append, hag]
            rfl
      · rintro σ G ⟨cs', ds, m, y5, y6, y7, y8, rfl, sG, gc, lc, gf, ld, m0, m1⟩
        refine ⟨.ref fa, rfl, .inl ⟨rfl, _, SqL.of gf⟩, fa, _, rfl, rfl, gf, .ref fa, rfl, ?_⟩
        refine k fa _ (fun b o e => ?_) hfa0 ⟨ds.reverse, by rw [upd_same, List.map_reverse]⟩
        rw [upd_ne (ne_of_none e hfa0)]
        exact sG b o e
/-! ### one draw -/
def spTake : Sp := fun vs H Q _ => ∃ (d : Addr) (lim : Int), vs = [.ref d, .int lim] ∧ Draws H d ∧ 0 < lim ∧ ∀ v H', 0 ≤ v → v < lim → But d H H' → Draws H' d → Q (.int v) H'
theorem ok_law_take {f : Addr} {fd : FuncData} (FF : Fun K "_law_take" "_law_take" s_law_take f fd) (T : Txt K mg C J B) : FnOk P w K mg base CX0 1 f fd a_law_take spTake := by
  refine FF.ok sc_law_take (fun vs H Q E h => ?_) (fun cdv A outer s H vs Q E hr h => ?_)
  · obtain ⟨d, lim, rfl, _⟩ := h
    rfl
  · obtain ⟨d, lim, rfl, ⟨ds, hd⟩, hl, k⟩ := h
    refine ⟨_, (pss_cons (ps_if (pt_cmpR op_eq (pe_callB call_len_seq rfl T.z_len (by decide +kernel) (pa_cons (pv 0) pa_nil)) pe_int (nomark _)) (pss_one (ps_ret pe_int)) pss_nil)
      (pss_one (ps_ret (pe_op op_modN (pe_callTy call_int1 rfl T.z_int (by decide +kernel) (pa_cons (pe_bm0 PySem.F.plainAttrs_list PySem.F.slot_list_pop PySem.F.type_list_pop mt_pop (pv 0)) pa_nil)) (pv 1))))), ?_⟩
    refine ⟨.ref d, rfl, d, _, rfl, .inl (SqL.of hd), rfl, _, rfl, ite2 (fun c => ?_) (fun c => ?_)⟩
    · exact k 0 H (Int.le_refl 0) hl (But.refl _ _) ⟨ds, hd⟩
    · have ne : ds ≠ [] := fun e => c (decide_eq_true (by rw [e]; rfl))
      obtain ⟨l, x, rfl⟩ : ∃ l x, ds = l ++ [x] := ⟨ds.dropLast, ds.getLast ne, (List.dropLast_concat_getLast ne).symm⟩
      refine ⟨.ref d, rfl, .inl ⟨rfl, _, SqL.of hd⟩, d, _, .int x, rfl, rfl, hd, by simp, .inl ⟨x, rfl, ?_⟩⟩
      have := fmod_in (a := x) hl
      refine ⟨.int lim, rfl, x, lim, rfl, rfl, by omega, ?_⟩
      refine k _ _ this.1 this.2 (fun b o nb e => by rw [upd_ne nb]; exact e) ⟨l, ?_⟩
      rw [upd_same]
      simp
/-! ### the statements in one -/
def spInner (K : PySem.W.Frag) : Sp := fun vs H Q _ => ∃ (v : V) (t : F), vs = [v] ∧ IsF K H v t ∧ ∀ l ks H', Same H H' → H' l = some (.lst ks) → AllF K H' ks t.kids → Q (.ref l) H'
theorem cut_one (xs : List V) : cutV xs (some 1) none = xs.drop 1 := by
  unfold cutV
  rw [show HT.sIx xs.length 0 (some 1) = min 1 xs.length from HT.sIx_nat _ _ 1, HT.sIx_none]
  rcases Nat.le_total 1 xs.length with h | h
  · rw [Nat.min_eq_left h, List.take_of_length_le (by rw [List.length_drop]; exact Nat.le_refl _)]
  · rw [Nat.min_eq_right h, List.drop_length, List.drop_eq_nil_of_le h]
    simp
theorem ok_law_inner {f : Addr} {fd : FuncData} (FF : Fun K "_law_inner" "_law_inner" s_law_inner f fd) (T : Txt K mg C J B) : FnOk P w K mg base CX0 1 f fd a_law_inner (spInner K) := by
  refine FF.ok sc_law_inner (fun vs H Q E h => ?_) (fun cdv A outer s H vs Q E hr h => ?_)
  · obtain ⟨v, t, rfl, _⟩ := h
    rfl
  · obtain ⟨v, t, rfl, ht, k⟩ := h
    obtain ⟨a, ks, rfl, sq, ak⟩ := ht.open
    refine ⟨_, (pss_one (ps_ret (pe_lc (own := [("part", 1)]) (g := gName 1) rfl sc_law_inner.nd (pi_tup (pe_slice sl_tupA (pv 0) (po_some pe_int) po_none)) (blkOk_by (own := [("part", 1)]) (N := n_law_inner) (sc := defScope s_law_inner) (by decide +kernel)) (fun _ _ _ _ _ => (pg_name (i := 1) sc_law_inner.nd rfl (.inl rfl))) (fun _ _ _ _ _ => (pts_one (pt_val (pe_callB (@id (CallR _ _ (rIsi K)) call_isi) rfl T.z_isinstance (by decide +kernel) (pa_cons (pv 1) (pa_cons (pe_bltn (v := .ty "tuple") (u := .type "tuple") rfl T.z_tuple (by decide +kernel) rfl) pa_nil)))))) (fun _ _ _ _ _ => (pv 1))))), ?_⟩
    have hl := hv_len t.hd
    refine ⟨.ref a, rfl, 1, rfl, a, _, rfl, sq, fun whole => ?_, fun _ z hz => ?_⟩
    · exfalso
      rw [show HT.sIx (hv t.hd ++ ks).length 0 (some 1) = min 1 (hv t.hd ++ ks).length from HT.sIx_nat _ _ 1, List.length_append] at whole
      omega
    rw [cut_one]
    have s1 := Same.new (o := .tup ((hv t.hd ++ ks).drop 1)) hz
    have zT : SqT K (upd H z (.tup ((hv t.hd ++ ks).drop 1))) z ((hv t.hd ++ ks).drop 1) := SqT.of upd_same
    generalize upd H z (.tup ((hv t.hd ++ ks).drop 1)) = H1 at s1 zT
    have ak1 := ak.lk (LKp.same s1)
    -- the numbers ahead of the statements
    obtain ⟨ns, hns, nsi⟩ : ∃ ns : List V, (hv t.hd ++ ks).drop 1 = ns ++ ks ∧ ∀ x ∈ ns, ∃ n, x = V.int n := by
      cases t with
      | nul b => exact ⟨[], rfl, by simp⟩
      | leaf k n => exact ⟨[.int n], rfl, by simp⟩
      | two b f g => exact ⟨[], rfl, by simp⟩
      | one k n f => exact ⟨[.int n], rfl, by simp⟩
    rw [hns] at zT
    refine ⟨z, rfl, ⟨_, zT⟩, fun D hD => ?_⟩
    refine lc_tup (xs := ns ++ ks) (fun i G => Same H1 G ∧ G D = some (.lst ((ns ++ ks).take i |>.drop ns.length))) ⟨Same.new hD, by rw [upd_same]; simp⟩ (fun i G _ q => SqT.same q.1 zT) ?_ ?_
    · rintro i x G hx ⟨sG, gD⟩
      have nd : ∀ b o, H1 b = some o → b ≠ D := fun b o e => ne_of_none e hD
      have e1 : (ns ++ ks).take (i + 1) = (ns ++ ks).take i ++ [x] := by
        rw [List.take_add_one, hx]
        rfl
      have il := (List.getElem?_eq_some_iff.mp hx).1
      rw [List.length_append] at il
      by_cases lt : i < ns.length
      · obtain ⟨n, rfl⟩ := nsi x (by rw [List.getElem?_append_left lt] at hx; exact List.mem_of_getElem? hx)
        refine ⟨rfl, .int n, rfl, .int n, .ty "tuple", .type "int", .type "tuple", false, rfl, ?_, .base (.int n), kit_ty (by decide +kernel), false, rfl, ?_⟩
        · exact .ty "tuple"
        · refine ⟨sG, ?_⟩
          rw [gD, e1, List.drop_append, List.drop_eq_nil_of_le (by rw [List.length_take]; omega), List.length_take, List.nil_append, List.drop_eq_nil_of_le (by simp; omega)]
      · obtain ⟨f, hf⟩ : ∃ f, t.kids[i - ns.length]? = some f := ⟨t.kids[i - ns.length]'(by rw [← ak.len]; omega), by simp⟩
        have ty := (ak1.get (by rw [List.getElem?_append_right (by omega)] at hx; exact hx) hf).lk (LKp.same sG) |>.ty
        refine ⟨rfl, x, rfl, x, .ty "tuple", .type "tuple", .type "tuple", true, rfl, .ty "tuple", ty, kit_ty (by decide +kernel), true, rfl, ?_⟩
        refine ⟨x, rfl, _, gD, ?_, ?_⟩
        · have := F.kids_le t
          have := ak.len
          rw [List.length_drop, List.length_take, List.length_append]
          exact small1000 (by omega)
        · refine ⟨fun b o e => by rw [upd_ne (nd b o e)]; exact sG b o e, ?_⟩
          rw [upd_same, e1, List.drop_append, List.length_take, List.length_append]
          congr 2
          rw [show ns.length - min i (ns.length + ks.length) = 0 by omega]
          rfl
    · rintro G ⟨sG, gD⟩
      refine k D ks G (s1.trans sG) ?_ (ak1.lk (LKp.same sG))
      rw [gD, List.take_of_length_le (Nat.le_refl _), List.drop_left]
end
end Fw

set_option maxRecDepth 100000
set_option maxHeartbeats 2000000
namespace Fw
open PySem PySem.Spec PyProof.Rows L2
theorem iteF_out {A B : Prop} (h : if false = true then A else B) : B := by
  rw [if_neg Bool.false_ne_true] at h
  exact h
theorem iteT_out {A B : Prop} (h : if true = true then A else B) : A := by
  rw [if_pos rfl] at h
  exact h
theorem Draws.but {d : Addr} {H H' : Hp} (s : ∀ o, H d = some o → H' d = some o) (h : Draws H d) : Draws H' d := by
  obtain ⟨ds, e⟩ := h
  exact ⟨ds, s _ e⟩
theorem Draws.same {d : Addr} {H H' : Hp} (s : Same H H') (h : Draws H d) : Draws H' d := h.but fun o e => s d o e
theorem SqL.but {K : PySem.W.Frag} {H H' : Hp} {a d : Addr} {xs : List V} (n : a ≠ d) (s : But d H H') (h : SqL K H a xs) : SqL K H' a xs := SqL.keepAt (fun o e => s a o n e) h
theorem Draws.ne {H : Hp} {d q : Addr} (h : Draws H d) (hq : H q = none) : q ≠ d := fun e => by
  obtain ⟨ds, z⟩ := h
  rw [← e, hq] at z
  cases z
def ofB (b : Bool) : Int := if b = true then 1 else 0
abbrev IL (H : Hp) (a : Addr) (xs : List Int) : Prop := H a = some (.lst (xs.map V.int))
end Fw

set_option maxRecDepth 100000
set_option maxHeartbeats 4000000
namespace Fw
open PySem PySem.Spec PyProof.Rows L2
theorem isB_hdJ (s : F) : isBH s.hd = isB s := by cases s <;> rfl
theorem nv_N : ∀ b : Bool, V.str (wN b) ≠ V.str "var"
  | true => by decide +kernel
  | false => by decide +kernel
theorem nv_T : ∀ b : Bool, V.str (wT b) ≠ V.str "var"
  | true => by decide +kernel
  | false => by decide +kernel
theorem nv_O : ∀ k : One, V.str (wO k) ≠ V.str "var"
  | .some => by decide +kernel
  | .all => by decide +kernel
  | .least => by decide +kernel
  | .most => by decide +kernel
theorem nv_has : V.str (wL .has) ≠ V.str "var" := by decide +kernel
theorem nv_lacks : V.str (wL .lacks) ≠ V.str "var" := by decide +kernel
theorem two_at {α : Type} {x y : α} {v : Int} (h0 : 0 ≤ v) (h2 : v < 2) : ∃ b : Bool, atI [x, y] v = some (if b = true then x else y) := by
  have : v = 0 ∨ v = 1 := by omega
  rcases this with rfl | rfl
  · exact ⟨true, rfl⟩
  · exact ⟨false, rfl⟩
theorem in_ints (x : Int) : ∀ bs : List Int, inV (.int x) (bs.map V.int) = decide (x ∈ bs)
  | [] => by simp [inV]
  | b :: bs => by
    have ih := in_ints x bs
    unfold inV at ih ⊢
    rw [List.map_cons, List.any_cons, ih]
    have e : eqV (V.int b) (V.int x) = decide (x = b) := by
      show _ = _
      by_cases c : x = b
      · subst c
        simp [eqV]
      · simp [eqV, c]
        exact fun q => c q.symm
    rw [e]
    simp
theorem flat_ints (bs : List Int) : (bs.map V.int).all flatV = true := by
  induction bs with
  | nil => rfl
  | cons b bs ih => simpa [flatV] using ih
theorem kid_small {t f : F} (h : f ∈ t.kids) : f.depth + 1 ≤ t.depth ∧ f.size + 1 ≤ t.size := by
  cases t with
  | nul b => cases h
  | leaf k n => cases h
  | two b x y =>
    simp only [F.kids, List.mem_cons, List.not_mem_nil, or_false] at h
    simp only [F.depth, F.size]
    rcases h with rfl | rfl <;> omega
  | one k n x =>
    simp only [F.kids, List.mem_cons, List.not_mem_nil, or_false] at h
    subst h
    simp [F.depth, F.size]
section
variable {P : Program} {w : World} {K : PySem.W.Frag} {mg : Str → Option Value} {base : Heap} {C J B NC FE : Addr}
theorem noneOk {f : Addr} {fd : FuncData} {k : Nat} {ps : List Str} : FnOk P w K mg base CX0 k f fd ps (fun _ _ _ _ => False) :=
  ⟨fun _ _ _ _ h => h.elim, fun _ _ _ _ _ _ _ _ _ _ _ _ _ h => h.elim⟩
end
end Fw

set_option maxRecDepth 100000
set_option maxHeartbeats 4000000
namespace Fw
open PySem PySem.Spec PyProof.Rows L2
/-! ### statements as data -/
def dV : V → PyData
  | .str z => .str z
  | .int i => .int i
  | _ => .none
def dF : F → PyData
  | .nul b => .tuple ((hv (.nul b)).map dV)
  | .leaf k n => .tuple ((hv (.leaf k n)).map dV)
  | .two b f g => .tuple ((hv (.two b)).map dV ++ [dF f, dF g])
  | .one k n f => .tuple ((hv (.one k n)).map dV ++ [dF f])
theorem dp_F {K : PySem.W.Frag} {H : Hp} {v : V} {t : F} (h : IsF K H v t) : Dp K H v (dF t) := by
  induction h with
  | nul h => exact .tup h (.cons (.str _) .nil)
  | leaf h => exact .tup h (.cons (.str _) (.cons (.int _) .nil))
  | two h _ _ f g => exact .tup h (.cons (.str _) (.cons f (.cons g .nil)))
  | one h _ f => exact .tup h (.cons (.str _) (.cons (.int _) (.cons f .nil)))
theorem ok_hw (h : Hd) : PyData.strOk (hw h) = true := by
  cases h with
  | nul b => cases b <;> decide +kernel
  | leaf k n =>
    show PyData.strOk (wL k) = true
    cases k <;> decide +kernel
  | two b => cases b <;> decide +kernel
  | one k n =>
    show PyData.strOk (wO k) = true
    cases k <;> decide +kernel
theorem dF_lay : ∀ t : F, (dF t).canLay0 = true
  | .nul b => by
    have := ok_hw (.nul b)
    simp only [hw] at this
    simp [dF, hv, dV, PyData.canLay0, PyData.canLayAll0, this]
  | .leaf k n => by
    have := ok_hw (.leaf k n)
    simp only [hw] at this
    simp [dF, hv, dV, PyData.canLay0, PyData.canLayAll0, this]
  | .two b f g => by
    have := ok_hw (.two b)
    simp only [hw] at this
    simp [dF, hv, dV, PyData.canLay0, PyData.canLayAll0, this, dF_lay f, dF_lay g]
  | .one k n f => by
    have := ok_hw (.one k n)
    simp only [hw] at this
    simp [dF, hv, dV, PyData.canLay0, PyData.canLayAll0, this, dF_lay f]
theorem dF_depth : ∀ t : F, (dF t).depth ≤ t.depth
  | .nul b => by simp [dF, hv, dV, PyData.depth, PyData.depthAll, F.depth]
  | .leaf k n => by simp [dF, hv, dV, PyData.depth, PyData.depthAll, F.depth]
  | .two b f g => by
    have := dF_depth f
    have := dF_depth g
    simp [dF, hv, dV, PyData.depth, PyData.depthAll, F.depth]
    omega
  | .one k n f => by
    have := dF_depth f
    simp [dF, hv, dV, PyData.depth, PyData.depthAll, F.depth]
    omega
theorem dF_shaped {t : F} (h : t.depth ≤ 64) : SeqAt.shaped (dF t) = true := by
  unfold SeqAt.shaped
  rw [dF_lay, decide_eq_true (Nat.le_trans (dF_depth t) h)]
  rfl
theorem dF_same (t : F) : PyData.eqv (dF t) (dF t) = true := SeqAt.eqv_refl _ (dF_lay t)
theorem dp_ints {K : PySem.W.Frag} {H : Hp} : ∀ ns : List Int, DpAll K H (ns.map V.int) (ns.map PyData.int)
  | [] => .nil
  | n :: ns => .cons (.int n) (dp_ints ns)
theorem ints_lay : ∀ ns : List Int, PyData.canLayAll0 (ns.map PyData.int) = true
  | [] => by simp [PyData.canLayAll0]
  | n :: ns => by simp [PyData.canLayAll0, PyData.canLay0, ints_lay ns]
theorem ints_depth : ∀ ns : List Int, PyData.depthAll (ns.map PyData.int) = 0
  | [] => by simp [PyData.depthAll]
  | n :: ns => by simp [PyData.depthAll, PyData.depth, ints_depth ns]
theorem ints_shaped (ns : List Int) : SeqAt.shaped (.list (ns.map PyData.int)) = true := by
  unfold SeqAt.shaped
  simp [PyData.canLay0, PyData.depth, ints_lay, ints_depth]
theorem ints_same (ns : List Int) : PyData.eqv (.list (ns.map PyData.int)) (.list (ns.map PyData.int)) = true := SeqAt.eqv_refl _ (by simp [PyData.canLay0, ints_lay])
/-- two rising lists of the same members are one -/
theorem rising_one : ∀ {a b : List Int}, a.Pairwise (· < ·) → b.Pairwise (· < ·) → (∀ x, x ∈ a ↔ x ∈ b) → a = b
  | [], [], _, _, _ => rfl
  | [], y :: b, _, _, h => by have := (h y).mpr List.mem_cons_self; cases this
  | x :: a, [], _, _, h => by have := (h x).mp List.mem_cons_self; cases this
  | x :: a, y :: b, ha, hb, h => by
    have ha' := List.pairwise_cons.mp ha
    have hb' := List.pairwise_cons.mp hb
    have e : x = y := by
      rcases List.mem_cons.mp ((h x).mp List.mem_cons_self) with q | q
      · exact q
      · rcases List.mem_cons.mp ((h y).mpr List.mem_cons_self) with r | r
        · exact r.symm
        · have := ha'.1 y r
          have := hb'.1 x q
          omega
    subst e
    congr 1
    refine rising_one ha'.2 hb'.2 fun z => ?_
    constructor
    · intro hz
      rcases List.mem_cons.mp ((h z).mp (List.mem_cons_of_mem _ hz)) with q | q
      · have := ha'.1 z hz
        omega
      · exact q
    · intro hz
      rcases List.mem_cons.mp ((h z).mpr (List.mem_cons_of_mem _ hz)) with q | q
      · have := hb'.1 z hz
        omega
      · exact q
def isOneH : Hd → Bool
  | .one _ _ => true
  | _ => false
theorem in_four (h : Hd) : inV (.str (hw h)) [.str "least", .str "most", .str "some", .str "all"] = isOneH h := by
  cases h with
  | nul b => cases b <;> rfl
  | leaf k n => cases k <;> rfl
  | two b => cases b <;> rfl
  | one k n => cases k <;> rfl
section
variable {P : Program} {w : World} {K : PySem.W.Frag} {mg : Str → Option Value} {base : Heap} {C J B NC FE : Addr}
end
end Fw

namespace Fw
/-! ### opposites -/
def Leaf.opp : Leaf → Leaf
  | .has => .lacks
  | .lacks => .has
  | .var => .var
def One.opp : One → One
  | .some => .all
  | .all => .some
  | .least => .most
  | .most => .least
def opp : F → F
  | .nul b => .nul !b
  | .leaf k n => .leaf k.opp n
  | .two b f g => .two (!b) (opp f) (opp g)
  | .one k n f => .one k.opp n (opp f)
def oppH : Hd → Hd
  | .nul b => .nul !b
  | .leaf k n => .leaf k.opp n
  | .two b => .two !b
  | .one k n => .one k.opp n
theorem opp_hd (t : F) : (opp t).hd = oppH t.hd := by cases t <;> rfl
theorem opp_skel : ∀ t : F, skel (opp t) = skel t
  | .nul _ => rfl
  | .leaf _ _ => rfl
  | .two _ f g => by simp [opp, skel, opp_skel f, opp_skel g]
  | .one _ _ f => by simp [opp, skel, opp_skel f]
theorem opp_size (t : F) : (opp t).size = t.size := same_size (opp_skel t)
theorem opp_depth (t : F) : (opp t).depth = t.depth := by rw [← skel_depth, opp_skel, skel_depth]
theorem opp_opp : ∀ t : F, opp (opp t) = t
  | .nul b => by simp [opp]
  | .leaf k n => by cases k <;> rfl
  | .two b f g => by simp [opp, opp_opp f, opp_opp g]
  | .one k n f => by cases k <;> simp [opp, One.opp, opp_opp f]
theorem bind_opp (k : One) : k.opp.bind = k.bind := by cases k <;> rfl
theorem opp_fv : ∀ t : F, fv (opp t) = fv t
  | .nul _ => rfl
  | .leaf k n => by cases k <;> rfl
  | .two b f g => by simp [opp, fv, opp_fv f, opp_fv g]
  | .one k n f => by simp only [opp, fv, bind_opp, opp_fv f]
theorem opp_closed {t : F} (h : Closed t) : Closed (opp t) := by
  rw [← closed_fv] at h ⊢
  rw [opp_fv, h]
theorem opp_heads : ∀ (t : F) (a : Int) (i : Nat) (st st' : Stk), ((info (opp t) a i st').map fun r => r.sub.hd) = (info t a i st).map fun r => oppH r.sub.hd
  | .nul _, _, _, _, _ => rfl
  | .leaf _ _, _, _, _, _ => rfl
  | .two b f g, a, i, st, st' => by
    simp only [opp, info, List.map_cons, List.map_append, opp_heads f i (i + 1) st st', opp_size, opp_heads g i (i + 1 + f.size) st st']
    rfl
  | .one k n f, a, i, st, st' => by
    simp only [opp, info, List.map_cons, opp_heads f i (i + 1) (if k.bind = true then (n, i) :: st else st)]
    rfl
end Fw

/-! Worlds as the laws draw them, and what is true in them: pure mathematics. -/
namespace Fw
structure Wd where
  facts : List (List Int)
  steps : List (Int × Int × Int)
def Wd.n (W : Wd) : Nat := W.facts.length
def rng (n : Nat) : List Int := (List.range n).map Int.ofNat
theorem rng_get {n i : Nat} (h : i < n) : (rng n)[i]? = some (i : Int) := by
  unfold rng
  rw [List.getElem?_map, List.getElem?_range h]
  rfl
theorem rng_len (n : Nat) : (rng n).length = n := by unfold rng; rw [List.length_map, List.length_range]
theorem rng_mem {n : Nat} {x : Int} : x ∈ rng n ↔ 0 ≤ x ∧ x < n := by
  unfold rng
  rw [List.mem_map]
  constructor
  · rintro ⟨a, h, rfl⟩
    have := List.mem_range.mp h
    exact ⟨Int.natCast_nonneg a, Int.ofNat_lt.mpr this⟩
  · rintro ⟨h1, h2⟩
    exact ⟨x.toNat, List.mem_range.mpr (by omega), Int.toNat_of_nonneg h1⟩
theorem rng_succ (n : Nat) : rng (n + 1) = rng n ++ [(n : Int)] := by
  unfold rng
  rw [List.range_succ, List.map_append]
  rfl
theorem rng_take {n i : Nat} (h : i ≤ n) : (rng n).take i = rng i := by
  unfold rng
  rw [← List.map_take, List.take_range, Nat.min_eq_left h]
/-- the facts of a state -/
def Wd.at (W : Wd) (s : Int) : List Int := (W.facts[s.toNat]?).getD []
def Wd.beh (W : Wd) (s l : Int) : List Int := (W.steps.filter fun p => decide (p.1 = s) && decide (p.2.1 = l)).map fun p => p.2.2
/-- each step leads to a state -/
def Wd.Good (W : Wd) : Prop := ∀ p ∈ W.steps, 0 ≤ p.2.2 ∧ p.2.2 < W.n
def sIn (X : List Int) (s : Int) : Bool := decide (s ∈ X)
def flt (n : Nat) (p : Int → Bool) : List Int := (rng n).filter p
def setE (e : Int → List Int) (x : Int) (X : List Int) : Int → List Int := fun y => if y = x then X else e y
def iter (f : List Int → List Int) : Nat → List Int → List Int
  | 0, X => X
  | k + 1, X => f (iter f k X)
def val (W : Wd) : F → (Int → List Int) → List Int
  | .nul b, _ => if b = true then rng W.n else []
  | .leaf .has n, _ => flt W.n fun s => sIn (W.at s) n
  | .leaf .lacks n, _ => flt W.n fun s => !sIn (W.at s) n
  | .leaf .var x, e => e x
  | .two b f g, e => if b = true then flt W.n (fun s => sIn (val W g e) s && sIn (val W f e) s) else flt W.n (fun s => sIn (val W g e) s || sIn (val W f e) s)
  | .one .some l f, e => flt W.n fun s => decide (0 < (((W.beh s l).filter (sIn (val W f e))).length : Int))
  | .one .all l f, e => flt W.n fun s => decide ((((W.beh s l).filter (fun k => !sIn (val W f e) k)).length : Int) = 0)
  | .one .least x f, e => iter (fun X => val W f (setE e x X)) (W.n + 1) []
  | .one .most x f, e => iter (fun X => val W f (setE e x X)) (W.n + 1) (rng W.n)
/-- the others -/
def co (n : Nat) (X : List Int) : List Int := flt n fun s => !sIn X s
theorem flt_congr {n : Nat} {p q : Int → Bool} (h : ∀ s : Int, 0 ≤ s → s < (n : Int) → p s = q s) : flt n p = flt n q :=
  List.filter_congr fun s hs => h s (rng_mem.mp hs).1 (rng_mem.mp hs).2
theorem sIn_flt {n : Nat} {p : Int → Bool} {s : Int} (h0 : 0 ≤ s) (h1 : s < (n : Int)) : sIn (flt n p) s = p s := by
  unfold sIn flt
  cases e : p s with
  | true => exact decide_eq_true (List.mem_filter.mpr ⟨rng_mem.mpr ⟨h0, h1⟩, e⟩)
  | false => exact decide_eq_false fun h => by rw [(List.mem_filter.mp h).2] at e; cases e
theorem co_flt {n : Nat} {p : Int → Bool} : co n (flt n p) = flt n fun s => !p s := flt_congr fun s h0 h1 => by rw [sIn_flt h0 h1]
theorem sIn_co {n : Nat} {X : List Int} {s : Int} (h0 : 0 ≤ s) (h1 : s < (n : Int)) : sIn (co n X) s = !sIn X s := sIn_flt h0 h1
theorem rng_flt (n : Nat) : rng n = flt n fun _ => true := (List.filter_eq_self.mpr fun _ _ => rfl).symm
theorem co_rng (n : Nat) : co n (rng n) = [] := by
  rw [rng_flt, co_flt]
  exact List.filter_eq_nil_iff.mpr fun _ _ h => by cases h
theorem co_nil (n : Nat) : co n [] = rng n := by
  unfold co
  rw [rng_flt]
  exact flt_congr fun s _ _ => rfl
theorem setE_co {n : Nat} {e : Int → List Int} {x : Int} {X : List Int} : setE (fun y => co n (e y)) x (co n X) = fun y => co n (setE e x X y) := by
  funext y
  unfold setE
  by_cases h : y = x
  · rw [if_pos h, if_pos h]
  · rw [if_neg h, if_neg h]
theorem iter_co {n : Nat} {f g : List Int → List Int} (h : ∀ X, g (co n X) = co n (f X)) : ∀ (k : Nat) (X : List Int), iter g k (co n X) = co n (iter f k X)
  | 0, X => rfl
  | k + 1, X => by
    show g (iter g k (co n X)) = co n (f (iter f k X))
    rw [iter_co h k X, h]
theorem val_opp {W : Wd} (G : W.Good) : ∀ (t : F) (e : Int → List Int), val W (opp t) (fun y => co W.n (e y)) = co W.n (val W t e)
  | .nul b, e => by
    cases b
    · show (if true = true then rng W.n else []) = co W.n (if false = true then rng W.n else [])
      rw [if_pos rfl, if_neg Bool.false_ne_true, co_nil]
    · show (if false = true then rng W.n else []) = co W.n (if true = true then rng W.n else [])
      rw [if_pos rfl, if_neg Bool.false_ne_true, co_rng]
  | .leaf .has n, e => by
    show flt W.n _ = co W.n (flt W.n _)
    rw [co_flt]
  | .leaf .lacks n, e => by
    show flt W.n _ = co W.n (flt W.n _)
    rw [co_flt]
    exact flt_congr fun s _ _ => (Bool.not_not _).symm
  | .leaf .var x, e => rfl
  | .two b f g, e => by
    cases b
    · show (if true = true then _ else _) = co W.n (if false = true then _ else _)
      rw [if_pos rfl, if_neg Bool.false_ne_true, co_flt, val_opp G f e, val_opp G g e]
      exact flt_congr fun s h0 h1 => by rw [sIn_co h0 h1, sIn_co h0 h1, Bool.not_or]
    · show (if false = true then _ else _) = co W.n (if true = true then _ else _)
      rw [if_pos rfl, if_neg Bool.false_ne_true, co_flt, val_opp G f e, val_opp G g e]
      exact flt_congr fun s h0 h1 => by rw [sIn_co h0 h1, sIn_co h0 h1, Bool.not_and]
  | .one .some l f, e => by
    show flt W.n _ = co W.n (flt W.n _)
    rw [co_flt, val_opp G f e]
    refine flt_congr fun s h0 h1 => ?_
    have : (W.beh s l).filter (fun k => !sIn (co W.n (val W f e)) k) = (W.beh s l).filter (sIn (val W f e)) := by
      refine List.filter_congr fun k hk => ?_
      obtain ⟨p, hp, rfl⟩ := List.mem_map.mp hk
      have := G p (List.mem_filter.mp hp).1
      rw [sIn_co this.1 this.2, Bool.not_not]
    rw [this, ← decide_not]
    exact decide_eq_decide.mpr ⟨fun h => by omega, fun h => by omega⟩
  | .one .all l f, e => by
    show flt W.n _ = co W.n (flt W.n _)
    rw [co_flt, val_opp G f e]
    refine flt_congr fun s h0 h1 => ?_
    have : (W.beh s l).filter (sIn (co W.n (val W f e))) = (W.beh s l).filter (fun k => !sIn (val W f e) k) := by
      refine List.filter_congr fun k hk => ?_
      obtain ⟨p, hp, rfl⟩ := List.mem_map.mp hk
      have := G p (List.mem_filter.mp hp).1
      rw [sIn_co this.1 this.2]
    rw [this, ← decide_not]
    exact decide_eq_decide.mpr ⟨fun h => by omega, fun h => by omega⟩
  | .one .least x f, e => by
    show iter (fun X => val W (opp f) (setE (fun y => co W.n (e y)) x X)) (W.n + 1) (rng W.n) = co W.n (iter (fun X => val W f (setE e x X)) (W.n + 1) [])
    rw [← co_nil, iter_co (f := fun X => val W f (setE e x X))]
    exact fun X => by rw [setE_co, val_opp G f]
  | .one .most x f, e => by
    show iter (fun X => val W (opp f) (setE (fun y => co W.n (e y)) x X)) (W.n + 1) [] = co W.n (iter (fun X => val W f (setE e x X)) (W.n + 1) (rng W.n))
    rw [← co_rng W.n, iter_co (f := fun X => val W f (setE e x X))]
    exact fun X => by rw [setE_co, val_opp G f]
/-- all values are ranks of states -/
theorem val_in {W : Wd} : ∀ (t : F) (e : Int → List Int), (∀ x ∈ fv t, (e x).length ≤ W.n) → (val W t e).length ≤ W.n
  | .nul b, e, h => by
    show (if b = true then rng W.n else []).length ≤ _
    split
    · rw [rng_len]; exact Nat.le_refl _
    · exact Nat.zero_le _
  | .leaf .has n, e, h => Nat.le_trans (List.length_filter_le _ _) (by rw [rng_len]; exact Nat.le_refl _)
  | .leaf .lacks n, e, h => Nat.le_trans (List.length_filter_le _ _) (by rw [rng_len]; exact Nat.le_refl _)
  | .leaf .var x, e, h => h x (List.mem_singleton.mpr rfl)
  | .two b f g, e, h => by
    show (if b = true then flt _ _ else flt _ _).length ≤ _
    split <;> exact Nat.le_trans (List.length_filter_le _ _) (by rw [rng_len]; exact Nat.le_refl _)
  | .one .some l f, e, h => Nat.le_trans (List.length_filter_le _ _) (by rw [rng_len]; exact Nat.le_refl _)
  | .one .all l f, e, h => Nat.le_trans (List.length_filter_le _ _) (by rw [rng_len]; exact Nat.le_refl _)
  | .one .least x f, e, h => iter_in (fun X hX => val_in f _ fun y hy => setE_in (fv_one rfl) h hX y hy) _ _ (Nat.zero_le _)
  | .one .most x f, e, h => iter_in (fun X hX => val_in f _ fun y hy => setE_in (fv_one rfl) h hX y hy) _ _ (by rw [rng_len]; exact Nat.le_refl _)
where
  iter_in {n : Nat} {f : List Int → List Int} (hf : ∀ X, X.length ≤ n → (f X).length ≤ n) : ∀ (k : Nat) (X : List Int), X.length ≤ n → (iter f k X).length ≤ n
    | 0, X, h => h
    | k + 1, X, h => hf _ (iter_in hf k X h)
  fv_one {k : One} {x : Int} {f : F} (hk : k.bind = true) : ∀ y ∈ fv f, y ≠ x → y ∈ fv (.one k x f) := fun y hy hn => by
    simp only [fv, if_pos hk, List.mem_filter, decide_eq_true_eq]
    exact ⟨hy, hn⟩
  setE_in {n : Nat} {e : Int → List Int} {x : Int} {X : List Int} {A B : List Int} (hs : ∀ y ∈ A, y ≠ x → y ∈ B) (h : ∀ y ∈ B, (e y).length ≤ n) (hX : X.length ≤ n) : ∀ y ∈ A, (setE e x X y).length ≤ n := fun y hy => by
    unfold setE
    by_cases c : y = x
    · rw [if_pos c]; exact hX
    · rw [if_neg c]; exact h y (hs y hy c)
end Fw

set_option maxRecDepth 100000
set_option maxHeartbeats 4000000
/-! all of a generator expression over zip of two lists or two tuples. -/
namespace Fw
open PySem PySem.Spec PyProof.Rows L2 GxR
theorem walksU_zipL {prog : Program} {w : World} {A : Around} (hh : A.handled = none) {z TI TO i1 i2 l1 l2 : Addr} (D : ZipApart z TI TO i1 i2 l1 l2) (xs ys : Array Value) :
    WalksU prog w A z [z, TI, TO, i1, i2, l1, l2] [z, TO, i1, i2] (min xs.size ys.size)
      (fun i vals => ∃ x y, xs[i]? = some x ∧ ys[i]? = some y ∧ vals = #[x, y])
      (fun i h => IsZip h z TI TO .none ∧ IsPair h TI (.ref i1) (.ref i2) ∧ (∃ a b, IsPair h TO a b) ∧ h.IsListIter i1 l1 i ∧ h.IsListIter i2 l2 i ∧ h.IsList l1 xs ∧ h.IsList l2 ys)
      (fun i T h => IsZip h z TI TO (rawInt T) ∧ IsPair h TI (.ref i1) (.ref i2) ∧ (∃ a b, IsPair h TO a b) ∧ h.IsListIter i1 l1 (i + 1) ∧ h.IsListIter i2 l2 (i + 1) ∧ h.IsList l1 xs ∧ h.IsList l2 ys ∧
        T ≠ z ∧ T ≠ TO ∧ T ≠ i1 ∧ T ≠ i2) := (WalksT.zip2 hh z TI TO i1 i2 l1 l2 D xs ys).toU
theorem isTuple_at {h h' : Heap} {a : Addr} {xs : Array Value} (x : h.IsTuple a xs) (k : ∀ o, h.get? a = some o → h'.get? a = some o) : h'.IsTuple a xs := let ⟨o, e, r⟩ := x; ⟨o, k o e, r⟩
theorem walksU_zipT {prog : Program} {w : World} {A : Around} (hh : A.handled = none) {z TI TO i1 i2 l1 l2 : Addr} (D : ZipApart z TI TO i1 i2 l1 l2) (xs ys : Array Value) :
    WalksU prog w A z [z, TI, TO, i1, i2, l1, l2] [z, TO, i1, i2] (min xs.size ys.size)
      (fun i vals => ∃ x y, xs[i]? = some x ∧ ys[i]? = some y ∧ vals = #[x, y])
      (fun i h => IsZip h z TI TO .none ∧ IsPair h TI (.ref i1) (.ref i2) ∧ (∃ a b, IsPair h TO a b) ∧ h.IsTupleIter i1 l1 i ∧ h.IsTupleIter i2 l2 i ∧ h.IsTuple l1 xs ∧ h.IsTuple l2 ys)
      (fun i T h => IsZip h z TI TO (rawInt T) ∧ IsPair h TI (.ref i1) (.ref i2) ∧ (∃ a b, IsPair h TO a b) ∧ h.IsTupleIter i1 l1 (i + 1) ∧ h.IsTupleIter i2 l2 (i + 1) ∧ h.IsTuple l1 xs ∧ h.IsTuple l2 ys ∧
        T ≠ z ∧ T ≠ TO ∧ T ≠ i1 ∧ T ≠ i2) where
  sub := fun c hc => by simp at hc ⊢; rcases hc with rfl | rfl | rfl | rfl <;> simp
  frame := fun i h h' hst hk => by
    obtain ⟨hz, hTI, ⟨a, b, hTO⟩, h1, h2, hl1, hl2⟩ := hst
    exact ⟨hk z (by simp) _ hz, hk TI (by simp) _ hTI, ⟨a, b, hk TO (by simp) _ hTO⟩, h1.at fun o e => hk i1 (by simp) o e, h2.at fun o e => hk i2 (by simp) o e,
      isTuple_at hl1 fun o e => hk l1 (by simp) o e, isTuple_at hl2 fun o e => hk l2 (by simp) o e⟩
  item := fun i s Q E hi hst hQ => by
    obtain ⟨hz, hTI, ⟨a, b, hTO⟩, h1, h2, hl1, hl2⟩ := hst
    have hix : i < xs.size := Nat.lt_of_lt_of_le hi (Nat.min_le_left ..)
    have hiy : i < ys.size := Nat.lt_of_lt_of_le hi (Nat.min_le_right ..)
    refine RZ.pyNext_zipT_item D hz hTI hTO h1 h2 hl1 hl2 (Array.getElem?_eq_getElem hix) (Array.getElem?_eq_getElem hiy) fun h' a1 a2 a3 a4 a5 a6 hk => ?_
    have lt : ∀ {c o}, s.heap.get? c = some o → s.heap.objs.size ≠ c := fun e => Nat.ne_of_gt (Heap.lt_size e)
    exact hQ s.heap.objs.size #[xs[i], ys[i]] h' s.toks ⟨_, _, Array.getElem?_eq_getElem hix, Array.getElem?_eq_getElem hiy, rfl⟩ ⟨_, a5, rfl, _, rfl⟩
      ⟨a1, hk _ _ D.TIz D.TITO D.TIi1 D.TIi2 hTI, ⟨_, _, a2⟩, a3, a4, isTuple_at hl1 fun o e => hk _ o D.l1z D.l1TO D.l1i1 D.l1i2 e, isTuple_at hl2 fun o e => hk _ o D.l2z D.l2TO D.l2i1 D.l2i2 e,
        lt hz, lt hTO, (by obtain ⟨_, e, _⟩ := h1; exact lt e), (by obtain ⟨_, e, _⟩ := h2; exact lt e)⟩
      fun c o hc e => hk c o (fun x => hc (by simp [x])) (fun x => hc (by simp [x])) (fun x => hc (by simp [x])) (fun x => hc (by simp [x])) e
  go := fun elts k pos i T s Q E hm hQ => by
    obtain ⟨hz, hTI, ⟨a, b, hTO⟩, h1, h2, hl1, hl2, _⟩ := hm
    refine wpAny_letOwnedTupleGo_zip hz fun h' hz' hs' => hQ h' ⟨hz', hs'.extBut _ _ D.TIz hTI, ⟨a, b, hs'.extBut _ _ D.TOz hTO⟩, h1.at fun o e => hs'.extBut _ _ D.i1z e, h2.at fun o e => hs'.extBut _ _ D.i2z e,
      isTuple_at hl1 fun o e => hs'.extBut _ _ D.l1z e, isTuple_at hl2 fun o e => hs'.extBut _ _ D.l2z e⟩ fun c o hc e => hs'.extBut _ _ (fun x => hc (by simp [x])) e
  apart := fun i T h hm hT => by
    obtain ⟨_, _, _, _, _, _, _, t1, t2, t3, t4⟩ := hm
    simp at hT
    rcases hT with rfl | rfl | rfl | rfl
    · exact t1 rfl
    · exact t2 rfl
    · exact t3 rfl
    · exact t4 rfl
  done := fun s Q E hst hQ => by
    obtain ⟨hz, hTI, ⟨a, b, hTO⟩, h1, h2, hl1, hl2⟩ := hst
    have hend : xs[min xs.size ys.size]? = none ∨ ys[min xs.size ys.size]? = none := by
      rcases Nat.le_total xs.size ys.size with h | h
      · exact .inl (by rw [Nat.min_eq_left h]; exact Array.getElem?_eq_none (Nat.le_refl _))
      · exact .inr (by rw [Nat.min_eq_right h]; exact Array.getElem?_eq_none (Nat.le_refl _))
    exact RZ.pyNext_zipT_end hh D hz hTI hTO h1 h2 hl1 hl2 hend fun h' hk => hQ h' s.toks fun c o hc e =>
      hk c o (fun x => hc (by simp [x])) (fun x => hc (by simp [x])) (fun x => hc (by simp [x])) (fun x => hc (by simp [x])) e
  self := fun i s Q E hst hQ => wpAny_pyIter_zip hst.1 hQ
theorem vals_get : ∀ {xs : List V} {us : List Value} {j : Nat} {u : Value}, Vals xs us → us[j]? = some u → ∃ x, xs[j]? = some x ∧ RelV x u
  | _, _, 0, _, .cons r _, e => by
    simp at e
    subst e
    exact ⟨_, rfl, r⟩
  | _, _, j + 1, _, .cons _ rr, e => by
    simp at e
    obtain ⟨x, hx, r⟩ := vals_get rr e
    exact ⟨x, by simpa using hx, r⟩
/-- the generator expression's own scope, two names -/
structure GenS2 (env : Env) (scope : Scope) (xa xb : Str) : Prop where
  kind : scope.kind = .function
  co : scope.isCoroutine = false
  cell : ∀ y ∈ scope.names, y.2 ≠ .cell
  dot : scope.names.lookup (".0" : Str) = some NameKind.local
  la : scope.names.lookup xa = some .local
  lb : scope.names.lookup xb = some .local
  free : ∀ y ∈ scope.names, y.2 = .free → ∃ c, env.cells.lookup y.1 = some c
/-- the element at two values: a test whose outcome is r -/
def EltZ (prog : Program) (w : World) (scope : Scope) (xa xb : Str) (elt : Expr) (U : Nat) (hb : Heap) (P : Addr) (x y : V) (r : Bool) : Prop :=
  ∀ (cenv : Env) (A' : Around) (E' : Value → Shared → Prop) (va vb : Value) (s₂ : Shared) (m₂ : Str → Option Value), cenv.scope = scope → A'.units ≤ U → s₂.heap.Ns cenv.locals m₂ → m₂ xa = some va → m₂ xb = some vb → RelV x va → RelV y vb →
    (∀ b o, b ≠ P → hb.get? b = some o → s₂.heap.get? b = some o) → wpAny (model prog w) A' (eval elt cenv) (fun v s₃ => v = .bool r ∧ Keeps s₂ s₃) E' s₂
def ReadyZ (X : Cx) (pins : List (Addr × Obj)) (σ : L2.St) (H1 : Hp) (P : Addr) (rs : List Bool) (g : Addr) (s5 : Shared) : Prop :=
  ∃ (fp wr : List Addr) (G : Array GenState → Array GenState → Prop) (n : Nat) (F : Nat → Value → Prop) (St : Nat → Shared → Prop),
    n = rs.length ∧ WalksS X.prog X.w X.A.in1 g fp wr G n F St ∧ St 0 s5 ∧
    TruthOf X.prog X.w X.A.in1 F (fun j => (rs[j]?).getD false) ∧
    ∀ s', Moved wr G s5 s' → ∃ H2, Tabbed P H1 H2 ∧ Inv X pins σ H2 s'
section
variable {X : Cx} {pins : List (Addr × Obj)} {σ : L2.St} {H : Hp} {s : Shared}
/-- what the test does at each pair, in any heap like H1 -/
def EltsZ (X : Cx) (scope : Scope) (xa xb : Str) (elt : Expr) (P : Addr) (H1 : Hp) (xs ys : List V) (rs : List Bool) : Prop :=
  rs.length = min xs.length ys.length ∧ ∀ (s : Shared) (pins : List (Addr × Obj)) (σ : L2.St), Inv X pins σ H1 s → ∀ (i : Nat) (x y : V) (r : Bool), xs[i]? = some x → ys[i]? = some y → rs[i]? = some r → EltZ X.prog X.w scope xa xb elt (X.A.units + 8) s.heap P x y r
theorem gen_zip {c P : Addr} {elt e e2 : Expr} {xa xb : Str} {pa pb pt pz cpos gpos : Pos} {kt : Nat} {scope : Scope} {ta : TA} {k : Nat} {Q' : Value → Shared → Prop} {R : List Bool → Hp → Prop}
    (hr : Room k X.A) (TB : TabB X.base X.mg c P) (hcode : X.env.code = .ref c) (S : GenS2 X.env scope xa xb) (hab : xa ≠ xb) (hg : Gl X "zip") (hm : X.mg "zip" = none) (ha : PA X [e, e2] ta)
    (hse : starEach [e, e2] X.env = (false, eval e X.env) :: starEach [e2] X.env) (hpl : (backTo cpos (starEach [e2] X.env)).any (·.1) = false)
    (hs : ∀ v, genFold (.Call (.Name "zip" pz) [e, e2] [] cpos) X.env v = pure v) (I : Inv X pins σ H s)
    (h : ta σ H fun vs H1 => ∃ a b xs ys rs, vs = [.ref a, .ref b] ∧ ((SqL X.K H1 a xs ∧ SqL X.K H1 b ys) ∨ (SqT X.K H1 a xs ∧ SqT X.K H1 b ys)) ∧ TabG H1 P ∧ EltsZ X scope xa xb elt P H1 xs ys rs ∧ R rs H1)
    (hQ : ∀ rs H1 g s5, R rs H1 → ReadyZ X pins σ H1 P rs g s5 → Q' (.ref g) s5) :
    wpAny (model X.prog X.w) X.A (eval (.GeneratorExp elt [⟨.Tuple [.Name xa pa, .Name xb pb] kt pt, .Call (.Name "zip" pz) [e, e2] [] cpos, [], 0⟩] scope gpos) X.env) Q' X.xe s := by
  refine wpAny_GeneratorExp_walksQTD hr.hd S.co (closure_ok S.free) S.cell S.dot S.la S.lb hab S.kind (by have := hr.dp; omega) ?_ hs
  refine Call_ (ld_blt I hg hm PyProof.Rows.boot_zip (PyProof.Rows.callWith_type1 (thn (ha.run cpos pins s σ H _ I h) fun us s1 ⟨vs, H1, I1, r1, q1⟩ => ?_) hse hpl))
  obtain ⟨a, b, xs, ys, rs, ex, hab2, ⟨ps, hP, ht⟩, ⟨hlen, hel⟩, q1⟩ := q1
  subst ex
  cases r1 with
  | cons r rr =>
  cases rr with
  | cons r' rr =>
  cases rr
  cases r
  cases r'
  have hPs : s1.heap.get? P = some { cls := .none, data := .fields ps } := I1.hok P _ hP
  have hPlt : P < s1.heap.objs.size := Heap.lt_size hPs
  -- from the zip object on, over lists or over tuples
  have go : ∀ (h' : Heap) (its its2 : List Value) (St₀ : Nat → Heap → Prop) (Mid : Nat → Addr → Heap → Prop), Vals xs its → Vals ys its2 → (∀ c o, s1.heap.get? c = some o → h'.get? c = some o) → h'.objs.size = s1.heap.objs.size + 5 →
      a < s1.heap.objs.size → b < s1.heap.objs.size → a ≠ P → b ≠ P →
      (∀ A' : Around, A'.handled = none → WalksU X.prog X.w A' (s1.heap.objs.size + 4) [s1.heap.objs.size + 4, s1.heap.objs.size + 2, s1.heap.objs.size + 3, s1.heap.objs.size, s1.heap.objs.size + 1, a, b] [s1.heap.objs.size + 4, s1.heap.objs.size + 3, s1.heap.objs.size, s1.heap.objs.size + 1] (min its.toArray.size its2.toArray.size)
        (fun i vals => ∃ x y, its.toArray[i]? = some x ∧ its2.toArray[i]? = some y ∧ vals = #[x, y]) St₀ Mid) → St₀ 0 h' →
      { s1 with heap := h' }.heap.NoLimit ∧
      wpAny (model X.prog X.w) X.A (genexprCode X.env gpos (X.env.qual ++ "<genexpr>") scope) (fun code s₃ => wpAny (model X.prog X.w) X.A (builtinsFor X.env.globals X.env.builtins) (fun bi s₄ =>
        ∃ Ia fp wr n₀ Pt St₀ Mid pz F, Value.ref (s1.heap.objs.size + 4) = .ref Ia ∧ (∀ A' : Around, A'.handled = none → WalksU X.prog X.w A' Ia fp wr n₀ Pt St₀ Mid) ∧ (∀ i vals, Pt i vals → ∃ va vb, vals = #[va, vb]) ∧ St₀ 0 s₄.heap ∧ (∀ b ∈ fp, b < s₄.heap.objs.size) ∧ s₄.heap.NoLimit ∧ cStatics ∉ wr ∧
          (∀ href : Heap, (∀ b o, s₄.heap.get? b = some o → href.get? b = some o) →
            QuietGenTD X.prog X.w (genEnv scope (cloFrom X.env.cells scope.names []) s₄.heap.objs.size code bi X.env) xa xb [] elt (List.range s₄.heap.objs.size) wr Pt pz F href (X.A.depth + 1) (X.A.units + 8)) ∧
          (∀ a h₅ tk gs, gs.bare = true → s₄.heap.objs.size < a → h₅.objs.size = a + 1 → (∀ b o, s₄.heap.get? b = some o → h₅.get? b = some o) →
            WalksS X.prog X.w X.A.in4 a (a :: s₄.heap.objs.size :: List.range s₄.heap.objs.size) (s₄.heap.objs.size :: wr) (GenOnlyQ s₄.gens.size) (passing pz n₀ 0).length
              (fun j y => ∃ i, (passing pz n₀ 0)[j]? = some i ∧ F i y) (GenAt X.prog X.w X.A.in4 a s₄.gens.size s₄.heap.objs.size (List.range s₄.heap.objs.size) wr pz n₀ F) →
            GenAt X.prog X.w X.A.in4 a s₄.gens.size s₄.heap.objs.size (List.range s₄.heap.objs.size) wr pz n₀ F 0 { s₄ with gens := s₄.gens.push gs, toks := tk, heap := h₅ } →
            Q' (.ref a) { s₄ with gens := s₄.gens.push gs, toks := tk, heap := h₅ })) X.xe s₃) X.xe { s1 with heap := h' } := by
    intro h' its its2 St Mid rv rv2 hk hsz' la lb aP bP W hst
    have l1 := rv.length
    have l2 := rv2.length
    have hP2 : h'.get? P = some { cls := .none, data := .fields ps } := hk _ _ hPs
    have cd : PySem.W.CodeHd h' c P := TB.code.keeps fun b u e => hk _ _ (I1.bk b u e)
    have lim2 : h'.NoLimit := I1.nolimit.keeps hk
    have cont : ∀ (code : Value) (h3 : Heap) (tk : Nat) (ps' : Array Value), Heap.ExtBut P h' h3 → h'.objs.size ≤ h3.objs.size → h3.get? P = some { cls := .none, data := .fields ps' } → (∃ more, ps' = ps ++ more) → TriplesOk ps'.toList →
        wpAny (model X.prog X.w) X.A (builtinsFor X.env.globals X.env.builtins) (fun bi s₄ =>
          ∃ Ia fp wr n₀ Pt St₀ Mid pz F, Value.ref (s1.heap.objs.size + 4) = .ref Ia ∧ (∀ A' : Around, A'.handled = none → WalksU X.prog X.w A' Ia fp wr n₀ Pt St₀ Mid) ∧ (∀ i vals, Pt i vals → ∃ va vb, vals = #[va, vb]) ∧ St₀ 0 s₄.heap ∧ (∀ b ∈ fp, b < s₄.heap.objs.size) ∧ s₄.heap.NoLimit ∧ cStatics ∉ wr ∧
          (∀ href : Heap, (∀ b o, s₄.heap.get? b = some o → href.get? b = some o) →
            QuietGenTD X.prog X.w (genEnv scope (cloFrom X.env.cells scope.names []) s₄.heap.objs.size code bi X.env) xa xb [] elt (List.range s₄.heap.objs.size) wr Pt pz F href (X.A.depth + 1) (X.A.units + 8)) ∧
          (∀ a h₅ tk gs, gs.bare = true → s₄.heap.objs.size < a → h₅.objs.size = a + 1 → (∀ b o, s₄.heap.get? b = some o → h₅.get? b = some o) →
            WalksS X.prog X.w X.A.in4 a (a :: s₄.heap.objs.size :: List.range s₄.heap.objs.size) (s₄.heap.objs.size :: wr) (GenOnlyQ s₄.gens.size) (passing pz n₀ 0).length
              (fun j y => ∃ i, (passing pz n₀ 0)[j]? = some i ∧ F i y) (GenAt X.prog X.w X.A.in4 a s₄.gens.size s₄.heap.objs.size (List.range s₄.heap.objs.size) wr pz n₀ F) →
            GenAt X.prog X.w X.A.in4 a s₄.gens.size s₄.heap.objs.size (List.range s₄.heap.objs.size) wr pz n₀ F 0 { s₄ with gens := s₄.gens.push gs, toks := tk, heap := h₅ } →
            Q' (.ref a) { s₄ with gens := s₄.gens.push gs, toks := tk, heap := h₅ })) X.xe { s1 with heap := h3, toks := tk } := by
      intro code h3 tk ps' hx hsz hP3 hmore ht3
      obtain ⟨bm, ob, e1, e2, e3, e4, e5, e6, e7, e8⟩ := TB.bm
      have hcP : cStatics ≠ P := fun e => by
        obtain ⟨_, hns, _⟩ := I1.nolimit
        obtain ⟨o', es, ep, ho, hd, _⟩ := hns
        rw [e, hPs] at ho
        cases ho
        cases hd
      have hcl : cStatics < s1.heap.objs.size := let ⟨_, hns, _⟩ := I1.nolimit; hns.lt
      have keep3 : ∀ b u, b ≠ P → s1.heap.get? b = some u → h3.get? b = some u := fun b u hb e => hx b u hb (hk _ _ e)
      refine wpAny_builtinsFor (m := X.mg) (by rw [I1.ok.glob]; exact ((I1.mod.glob.keeps I1.bk).keeps hk).extBut hx TB.gP) e1 e2 (keep3 _ _ e4 (I1.bk _ _ e5)) e6 e7 e8 ?_
      refine ⟨s1.heap.objs.size + 4, _, _, _, _, St, Mid, (fun _ => true), (fun i y => ∃ r, rs[i]? = some r ∧ y = .bool r), rfl, W, ?_, ?_, ?_, lim2.extBut hx hcP, ?_, ?_, ?_⟩
      · rintro i vals ⟨x, y, _, _, e⟩
        exact ⟨x, y, e⟩
      · refine (W X.A hr.hd).frame _ _ _ hst fun b' hb u e => hx b' u (fun z => ?_) e
        have : b' = s1.heap.objs.size + 4 ∨ b' = s1.heap.objs.size + 2 ∨ b' = s1.heap.objs.size + 3 ∨ b' = s1.heap.objs.size ∨ b' = s1.heap.objs.size + 1 ∨ b' = a ∨ b' = b := by simpa using hb
        rw [z] at this
        rcases this with q | q | q | q | q | q | q
        · exact absurd hPlt (by rw [q]; exact Nat.not_lt.mpr (Nat.le_add_right _ _))
        · exact absurd hPlt (by rw [q]; exact Nat.not_lt.mpr (Nat.le_add_right _ _))
        · exact absurd hPlt (by rw [q]; exact Nat.not_lt.mpr (Nat.le_add_right _ _))
        · exact absurd hPlt (by rw [q]; exact Nat.lt_irrefl _)
        · exact absurd hPlt (by rw [q]; exact Nat.not_lt.mpr (Nat.le_add_right _ _))
        · exact aP q.symm
        · exact bP q.symm
      · intro b' hb
        show b' < h3.objs.size
        have : b' = s1.heap.objs.size + 4 ∨ b' = s1.heap.objs.size + 2 ∨ b' = s1.heap.objs.size + 3 ∨ b' = s1.heap.objs.size ∨ b' = s1.heap.objs.size + 1 ∨ b' = a ∨ b' = b := by simpa using hb
        refine Nat.lt_of_lt_of_le ?_ (Nat.le_trans (Nat.le_of_eq hsz'.symm) hsz)
        rcases this with q | q | q | q | q | q | q
        · rw [q]; exact Nat.add_lt_add_left (by decide) _
        · rw [q]; exact Nat.add_lt_add_left (by decide) _
        · rw [q]; exact Nat.add_lt_add_left (by decide) _
        · rw [q]; exact Nat.lt_add_of_pos_right (by decide)
        · rw [q]; exact Nat.add_lt_add_left (by decide) _
        · rw [q]; exact Nat.lt_of_lt_of_le la (Nat.le_add_right _ _)
        · rw [q]; exact Nat.lt_of_lt_of_le lb (Nat.le_add_right _ _)
      · intro z
        have : cStatics = s1.heap.objs.size + 4 ∨ cStatics = s1.heap.objs.size + 3 ∨ cStatics = s1.heap.objs.size ∨ cStatics = s1.heap.objs.size + 1 := by simpa using z
        rcases this with q | q | q | q
        · exact absurd hcl (by rw [q]; exact Nat.not_lt.mpr (Nat.le_add_right _ _))
        · exact absurd hcl (by rw [q]; exact Nat.not_lt.mpr (Nat.le_add_right _ _))
        · exact absurd hcl (by rw [q]; exact Nat.lt_irrefl _)
        · exact absurd hcl (by rw [q]; exact Nat.not_lt.mpr (Nat.le_add_right _ _))
      · intro href hhref
        refine ⟨fun A' E' i va vb s₂ m₂ hA _ _ hPv hn hma hmb hkk => ?_, fun A' E' i va vb s₂ m₂ hA _ hu hPv hp hn hma hmb hkk => ?_⟩
        · simp only [List.forIn_nil]
          exact wpAny_pure ⟨rfl, keeps_refl _⟩
        · obtain ⟨x, y, hx', hy', ee⟩ := hPv
          have ea : va = x := by have := congrArg (fun z => z[0]?) ee; simpa using this
          have eb : vb = y := by have := congrArg (fun z => z[1]?) ee; simpa using this
          subst ea eb
          have hx2 : its[i]? = some va := by simpa using hx'
          have hy2 : its2[i]? = some vb := by simpa using hy'
          obtain ⟨x, hxx, rx⟩ := vals_get rv hx2
          obtain ⟨y, hyy, ry⟩ := vals_get rv2 hy2
          have hi : i < rs.length := by
            have h1 := (List.getElem?_eq_some_iff.mp hxx).1
            have h2 := (List.getElem?_eq_some_iff.mp hyy).1
            omega
          have hrr : rs[i]? = some rs[i] := List.getElem?_eq_getElem hi
          refine wpAny_mono (hel s1 pins σ I1 i x y _ hxx hyy hrr _ A' E' va vb s₂ m₂ rfl hu hn hma hmb rx ry fun b' o hb' e => ?_) (fun v s3 r => ⟨⟨_, hrr, r.1⟩, r.2⟩) fun _ _ e => e
          have e3 := keep3 b' o hb' e
          have lt := Heap.lt_size e
          refine hkk b' (List.mem_range.mpr (Nat.lt_of_lt_of_le lt (Nat.le_trans (by rw [hsz']; exact Nat.le_add_right _ _) hsz))) (fun hw => ?_) o (hhref _ _ e3)
          have : b' = s1.heap.objs.size + 4 ∨ b' = s1.heap.objs.size + 3 ∨ b' = s1.heap.objs.size ∨ b' = s1.heap.objs.size + 1 := by simpa using hw
          rcases this with q | q | q | q
          · exact absurd lt (by rw [q]; exact Nat.not_lt.mpr (Nat.le_add_right _ _))
          · exact absurd lt (by rw [q]; exact Nat.not_lt.mpr (Nat.le_add_right _ _))
          · exact absurd lt (by rw [q]; exact Nat.lt_irrefl _)
          · exact absurd lt (by rw [q]; exact Nat.not_lt.mpr (Nat.le_add_right _ _))
      · intro g h5 tk5 gs hgb hag hsz5 hk5 W5 hat
        simp only [GxR.passing_true, List.length_range] at W5
        have en : min its.toArray.size its2.toArray.size = rs.length := by rw [List.size_toArray, List.size_toArray, hlen, ← l1, ← l2]
        refine hQ rs H1 g _ q1 ⟨_, _, _, _, _, _, en, W5.in4_1, hat, ?_, fun s' hm => ?_⟩
        · intro j y sj Qj Ej hy hQj
          obtain ⟨i, hij, r, hrr, rfl⟩ := hy
          obtain ⟨hj, ej⟩ := List.getElem?_eq_some_iff.mp hij
          rw [List.getElem_range] at ej
          subst ej
          have hQ2 : Qj ((rs[j]?).getD false) sj := hQj
          rw [hrr] at hQ2
          exact wpAny_truthy_bool hQ2
        · obtain ⟨more, em⟩ := hmore
          have nwr : ∀ b' u, s1.heap.get? b' = some u → b' ∉ h3.objs.size :: [s1.heap.objs.size + 4, s1.heap.objs.size + 3, s1.heap.objs.size, s1.heap.objs.size + 1] := fun b' u e hb => by
            have hl := Heap.lt_size e
            have : b' = h3.objs.size ∨ b' = s1.heap.objs.size + 4 ∨ b' = s1.heap.objs.size + 3 ∨ b' = s1.heap.objs.size ∨ b' = s1.heap.objs.size + 1 := by simpa using hb
            rcases this with q | q | q | q | q
            · exact absurd hl (by rw [q]; exact Nat.not_lt.mpr (Nat.le_trans (by rw [hsz']; exact Nat.le_add_right _ _) hsz))
            · exact absurd hl (by rw [q]; exact Nat.not_lt.mpr (Nat.le_add_right _ _))
            · exact absurd hl (by rw [q]; exact Nat.not_lt.mpr (Nat.le_add_right _ _))
            · exact absurd hl (by rw [q]; exact Nat.lt_irrefl _)
            · exact absurd hl (by rw [q]; exact Nat.not_lt.mpr (Nat.le_add_right _ _))
          have J := inv_tab (more := more) (h' := s'.heap) (g' := s'.gens) (d' := s'.drawn) (t' := s'.toks) I1 hP (fun b' u hb e => hm.heap b' u (nwr b' u e) (hk5 b' u (keep3 b' u hb e)))
            (by rw [← em]; exact hm.heap P _ (nwr P _ hPs) (hk5 P _ hP3)) (AllBare.movedS (I1.bare.push hgb) hm)
          rw [sh_eta s1 s' hm.os] at J
          exact ⟨upd H1 P (.tbl (ps ++ more)), ⟨⟨ps ++ more, upd_same, by rw [← em]; exact ht3⟩, fun b hb => upd_ne hb⟩, J⟩
    refine ⟨lim2, ?_⟩
    cases hf : codeAmong gpos ps.toList with
    | none =>
      refine wpAny_genexprCodeX hcode (cd.code hP2 ht) (cd.tab hP2) hf fun c' h'' tk hx hge hlt hco' _ htab' _ => ?_
      obtain ⟨o1, vs, f1, tf, fl, tg, inF, tx, tt, op, _, _, _, _, _, _, _, _, _, htr, _⟩ := hco'
      exact cont _ h'' tk _ hx (Nat.le_trans hge (Nat.le_of_lt hlt)) htab'.2 ⟨_, rfl⟩ htr
    | some cv =>
      refine wpAny_genexprCode_hit hcode (cd.code hP2 ht) hf ?_
      exact cont cv h' s1.toks ps (Heap.ExtBut.refl _ _) (Nat.le_refl _) hP2 ⟨#[], by simp⟩ ht
  rcases hab2 with ⟨hqx, hqy⟩ | ⟨hqx, hqy⟩
  · obtain ⟨its, rv, p1, _⟩ := I1.list hqx
    obtain ⟨its2, rv2, p2, _⟩ := I1.list hqy
    refine call_zip_2 p1.isList p2.isList fun h' hz hTI hTO h1 h2 hsz hk => wpAny_pyIter_zip hz ?_
    refine go h' its its2 _ _ rv rv2 hk hsz p1.lt p2.lt ?_ ?_ (fun A' hA => walksU_zipL hA (zipApart_new p1.lt p2.lt) _ _) ⟨hz, hTI, ⟨_, _, hTO⟩, h1, h2, Heap.IsList.at p1.isList (fun o e => hk _ o e), Heap.IsList.at p2.isList (fun o e => hk _ o e)⟩
    · intro e; subst e
      obtain ⟨o, ho, hc, _⟩ := p1.isList
      rw [hPs] at ho; cases ho; cases hc
    · intro e; subst e
      obtain ⟨o, ho, hc, _⟩ := p2.isList
      rw [hPs] at ho; cases ho; cases hc
  · obtain ⟨its, rv, p1, _⟩ := I1.tuple hqx
    obtain ⟨its2, rv2, p2, _⟩ := I1.tuple hqy
    obtain ⟨o1, ho1, hc1, _⟩ := id p1
    obtain ⟨o2, ho2, hc2, _⟩ := id p2
    refine RZ.call_zipT (show s1.heap.IsTuple a its.toArray from p1) (show s1.heap.IsTuple b its2.toArray from p2) fun h' hz hTI hTO h1 h2 hsz hk => wpAny_pyIter_zip hz ?_
    refine go h' its its2 _ _ rv rv2 hk hsz (Heap.lt_size ho1) (Heap.lt_size ho2) ?_ ?_ (fun A' hA => walksU_zipT hA (zipApart_new (Heap.lt_size ho1) (Heap.lt_size ho2)) _ _) ⟨hz, hTI, ⟨_, _, hTO⟩, h1, h2, isTuple_at p1 (fun o e => hk _ o e), isTuple_at p2 (fun o e => hk _ o e)⟩
    · intro e; subst e
      rw [hPs] at ho1; cases ho1; cases hc1
    · intro e; subst e
      rw [hPs] at ho2; cases ho2; cases hc2
theorem all_getD (rs : List Bool) : (List.range rs.length).all (fun j => (rs[j]?).getD false) = rs.all id := by
  rw [Bool.eq_iff_iff, List.all_eq_true, List.all_eq_true]
  constructor
  · intro h b hb
    obtain ⟨j, hj, e⟩ := List.getElem_of_mem hb
    have q := h j (List.mem_range.mpr hj)
    rw [List.getElem?_eq_getElem hj, e] at q
    exact q
  · intro h j hj
    have hj' := List.mem_range.mp hj
    rw [List.getElem?_eq_getElem hj']
    exact h _ (List.getElem_mem hj')
/-- all(test for a, b in zip(x, y)), x and y two lists or two tuples; behind it the def's table may have grown -/
def tAllZ (X : Cx) (scope : Scope) (xa xb : Str) (elt : Expr) (P : Addr) (ta : TA) : TE := fun σ H Q => ta σ H fun vs H1 => ∃ a b xs ys rs, vs = [.ref a, .ref b] ∧ ((SqL X.K H1 a xs ∧ SqL X.K H1 b ys) ∨ (SqT X.K H1 a xs ∧ SqT X.K H1 b ys)) ∧ TabG H1 P ∧
  EltsZ X scope xa xb elt P H1 xs ys rs ∧ ∀ H2, Tabbed P H1 H2 → Q (.bl (rs.all id)) H2
theorem pe_allZ {c P : Addr} {elt e e2 : Expr} {xa xb : Str} {pa pb pt pz p pos cpos gpos : Pos} {kt : Nat} {scope : Scope} {ta : TA} {k : Nat}
    (hr : Room k X.A) (TB : TabB X.base X.mg c P) (hcode : X.env.code = .ref c) (S : GenS2 X.env scope xa xb) (hab : xa ≠ xb) (hg : Gl X "all") (hm : X.mg "all" = none) (hgz : Gl X "zip") (hmz : X.mg "zip" = none) (ha : PA X [e, e2] ta)
    (hb : bootBuiltins "all" = some (.builtin "all") := by decide +kernel)
    (hse : starEach [e, e2] X.env = (false, eval e X.env) :: starEach [e2] X.env := by rfl) (hpl : (backTo cpos (starEach [e2] X.env)).any (·.1) = false := by rfl)
    (hs : ∀ v, genFold (.Call (.Name "zip" pz) [e, e2] [] cpos) X.env v = pure v := by intro _; rfl)
    (he : starEach [.GeneratorExp elt [⟨.Tuple [.Name xa pa, .Name xb pb] kt pt, .Call (.Name "zip" pz) [e, e2] [] cpos, [], 0⟩] scope gpos] X.env = (false, eval (.GeneratorExp elt [⟨.Tuple [.Name xa pa, .Name xb pb] kt pt, .Call (.Name "zip" pz) [e, e2] [] cpos, [], 0⟩] scope gpos) X.env) :: starEach [] X.env := by rfl) :
    PE X (.Call (.Name "all" p) [.GeneratorExp elt [⟨.Tuple [.Name xa pa, .Name xb pb] kt pt, .Call (.Name "zip" pz) [e, e2] [] cpos, [], 0⟩] scope gpos] [] pos) (tAllZ X scope xa xb elt P ta) := by
  refine ⟨fun pins s σ H Q I h => ?_⟩
  refine wpAny_Call_Name_kw (ld_blt I hg hm hb ?_)
  refine PyProof.Rows.callWith_builtin1 ?_ he (by rfl)
  rw [he]
  show wpAny _ _ (spliced ((false, eval (.GeneratorExp elt [⟨.Tuple [.Name xa pa, .Name xb pb] kt pt, .Call (.Name "zip" pz) [e, e2] [] cpos, [], 0⟩] scope gpos) X.env) :: backTo pos (starEach [] X.env))) _ _ s
  refine Calls.spliced_cons (gen_zip (R := fun rs H1 => ∀ H2, Tabbed P H1 H2 → Q (.bl (rs.all id)) H2) hr TB hcode S hab hgz hmz ha hse hpl hs I h fun rs H1 g s5 hR hG => ?_)
  obtain ⟨fp, wr, G, n, F, St, hn, W, hst, htr, hI⟩ := hG
  refine Calls.spliced_nil ?_
  refine call_all_walkS (W.self 0 _ _ _ hst ⟨g, fp, wr, G, _, F, St, _, rfl, W, hst, htr, fun s' hmv => ?_⟩)
  obtain ⟨H2, hT, J⟩ := hI s' hmv
  refine ⟨.bl _, H2, J, rfl, ?_⟩
  rw [hn, all_getD rs]
  exact hR H2 hT
end
end Fw

set_option maxRecDepth 100000
set_option maxHeartbeats 4000000
/-! Sorting of triples of whole numbers, setdefault on tuple keys, tests within a generator. -/
namespace Fw
open PySem PySem.Spec PyProof.Rows L2 GxR
/-! ### triples -/
abbrev T3 := Int × Int × Int
def lex3 (p q : T3) : Bool := if p.1 = q.1 then (if p.2.1 = q.2.1 then decide (p.2.2 < q.2.2) else decide (p.2.1 < q.2.1)) else decide (p.1 < q.1)
def Lt3 (p q : T3) : Prop := p.1 < q.1 ∨ (p.1 = q.1 ∧ (p.2.1 < q.2.1 ∨ (p.2.1 = q.2.1 ∧ p.2.2 < q.2.2)))
theorem lex3_iff {p q : T3} : lex3 p q = true ↔ Lt3 p q := by
  unfold lex3 Lt3
  split
  · split
    · rw [decide_eq_true_eq]; omega
    · rw [decide_eq_true_eq]; omega
  · rw [decide_eq_true_eq]; omega
theorem lex3_no {p q : T3} : lex3 p q = false ↔ ¬ Lt3 p q := by
  rw [← lex3_iff]
  cases lex3 p q <;> simp
theorem swo3 {α : Type} (k : α → T3) : SrtO.Swo fun v u => lex3 (k v) (k u) := by
  refine ⟨fun x y h => ?_, fun x y z h1 h2 => ?_⟩
  · have a := lex3_iff.mp h
    refine lex3_no.mpr ?_
    unfold Lt3 at *
    omega
  · have a := lex3_no.mp h1
    have b := lex3_no.mp h2
    refine lex3_no.mpr ?_
    unfold Lt3 at *
    omega
def IsTrip (h : Heap) (v : Value) (x : T3) : Prop := ∃ a o t u r n, v = .ref a ∧ h.get? a = some o ∧ o.cls = .type "tuple" ∧ o.data = .seq #[.int x.1 t, .int x.2.1 u, .int x.2.2 r] n
theorem IsTrip.keeps {h h' : Heap} {v : Value} {x : T3} (p : IsTrip h v x) (k : ∀ b o, h.get? b = some o → o.cls = .type "tuple" → h'.get? b = some o) : IsTrip h' v x := by
  obtain ⟨a, o, t, u, r, n, e, ho, hc, hd⟩ := p
  exact ⟨a, o, t, u, r, n, e, k a o ho hc, hc, hd⟩
section
variable {prog : Program} {w : World} {A : Around} {E : Value → Shared → Prop} {s : Shared}
theorem trip_cmp {vs : List Value} {k : Value → T3} (hp : ∀ v ∈ vs, IsTrip s.heap v (k v)) : SrtO.Cmp prog w A s (PyProof.Rows.tuples' true) (fun p => p.1 ∈ vs) (SrtO.lt2 fun v u => lex3 (k v) (k u)) := by
  intro p q hm hm'
  have h1 := hp _ hm
  have h2 := hp _ hm'
  show wpAny (model prog w) A (keyLt' (PyProof.Rows.tuples' true) p.1 q.1) (fun r s' => s' = s ∧ r = lex3 (k p.1) (k q.1)) (fun _ _ => False) s
  unfold lex3
  generalize (k p.1) = x at h1 ⊢
  generalize (k q.1) = x' at h2 ⊢
  obtain ⟨x, y, z⟩ := x
  obtain ⟨x', y', z'⟩ := x'
  obtain ⟨a, o, t, u, r, n, e, ho, hc, hd⟩ := h1
  obtain ⟨a', o', t', u', r', n', e', ho', hc', hd'⟩ := h2
  rw [e, e']
  simp only at hd hd' ⊢
  refine PySem.W.kat_lt ho hd ho' hd' ?_
  show PySem.W.KatLex prog w A true (decide (3 < 3)) _ [(.int x t, .int x' t'), (.int y u, .int y' u'), (.int z r, .int z' r')] 0 s
  refine PySem.W.kat_cons (SeqAt.EqAt.int_int x t x' t' prog w _ _ ?_)
  refine PySem.W.kat_go (fun e1 => ?_) (fun e1 => ?_)
  · have ex : x = x' := by simpa using e1
    rw [if_pos ex]
    refine PySem.W.kat_yes (PySem.W.kat_cons (SeqAt.EqAt.int_int y u y' u' prog w _ _ ?_))
    refine PySem.W.kat_go (fun e2 => ?_) (fun e2 => ?_)
    · have ey : y = y' := by simpa using e2
      rw [if_pos ey]
      refine PySem.W.kat_yes (PySem.W.kat_cons (SeqAt.EqAt.int_int z r z' r' prog w _ _ ?_))
      refine PySem.W.kat_go (fun e3 => ?_) (fun e3 => ?_)
      · have ez : z = z' := by simpa using e3
        have e4 : decide (z < z') = false := by rw [ez]; exact decide_eq_false (Int.lt_irrefl _)
        rw [e4]
        exact PySem.W.kat_yes (PySem.W.kat_nil ⟨rfl, rfl⟩)
      · refine PySem.W.kat_no (PySem.W.kat_one _ _ (PyProof.Rows.lt_int ?_))
        exact (show s = s ∧ decide (z < z') = decide (z < z') from ⟨rfl, rfl⟩)
    · have ey : ¬ y = y' := by simpa using e2
      rw [if_neg ey]
      refine PySem.W.kat_no (PySem.W.kat_one _ _ (PyProof.Rows.lt_int ?_))
      exact (show s = s ∧ decide (y < y') = decide (y < y') from ⟨rfl, rfl⟩)
  · have ex : ¬ x = x' := by simpa using e1
    rw [if_neg ex]
    exact PySem.W.kat_no (PyProof.Rows.oneLt_int ⟨rfl, rfl⟩)
theorem firsts3 {h : Heap} {k : Value → T3} : ∀ {vs : List Value}, (∀ v ∈ vs, IsTrip h v (k v)) → ∃ fs : List Value, PySem.W.KatTups h vs fs ∧ fs.length = vs.length ∧ ∀ f ∈ fs, ∃ x t, f = Value.int x t
  | [], _ => ⟨[], PySem.W.KatTups.nil, rfl, fun _ hm => by simp at hm⟩
  | v :: vs, hp => by
    obtain ⟨fs, h1, h2, h3⟩ := firsts3 (vs := vs) fun v' hm => hp v' (List.mem_cons_of_mem _ hm)
    obtain ⟨a, o, t, u, r, n, e, ho, hc, hd⟩ := hp v (List.mem_cons_self ..)
    refine ⟨.int (k v).1 t :: fs, ?_, by rw [List.length_cons, List.length_cons, h2], fun f hm => ?_⟩
    · generalize k v = kv at hd ⊢
      subst e
      exact PySem.W.KatTups.cons ho hc hd rfl h1
    · rcases List.mem_cons.mp hm with rfl | hm
      · exact ⟨_, t, rfl⟩
      · exact h3 f hm
theorem trips_sortableO {a : Addr} {vs : List Value} {k : Value → T3} (h0 : 0 < vs.length) (hp : ∀ v ∈ vs, IsTrip s.heap v (k v)) (ha : ∀ o, s.heap.get? a = some o → o.cls ≠ .type "tuple") : SrtO.SortableO prog w A s a vs fun v u => lex3 (k v) (k u) := by
  intro h' keep
  have hp' : ∀ v ∈ vs, IsTrip h' v (k v) := fun v hm => (hp v hm).keeps fun b o e c => keep b o (fun z => by subst z; exact ha o e c) e
  obtain ⟨fs, h1, h2, h3⟩ := firsts3 hp'
  refine ⟨PyProof.Rows.tuples' true, fun Q E hq => ?_, trip_cmp hp'⟩
  refine PySem.W.kat_kind (T := .type "int") h1 (by omega) (fun f hm => ?_) (by rfl) ?_
  · obtain ⟨x, t, rfl⟩ := h3 f hm
    exact PySem.W.Looks.now
  · have e : (Value.type "int" != Value.type "tuple") = true := by first | decide +kernel | rfl | decide
    rw [e]
    exact hq
theorem sorted_trips {l : Addr} {vs : List Value} {k : Value → T3} {Q : Value → Shared → Prop} (hl : s.heap.IsList l vs.toArray) (hz : vs.length ≤ sizeLine) (hp : ∀ v ∈ vs, IsTrip s.heap v (k v))
    (h : ∀ (h' : Heap) (d : Addr) (out : List Value), SrtO.Srtd (fun v u => lex3 (k v) (k u)) out → SrtO.Stb (fun v u => lex3 (k v) (k u)) out vs → (∀ b o, s.heap.get? b = some o → h'.get? b = some o) → s.heap.objs.size ≤ d → (∃ n, h'.get? d = some (seqObj "list" out.toArray n)) → Q (.ref d) { s with heap := h' }) :
    wpAny (model prog w) A (call (.builtin "sorted") [.ref l]) Q E s := by
  refine SrtO.sorted_ord (swo3 k) hl hz (fun h2 h₁ a ha kk => ?_) fun out hs hb => ?_
  · refine trips_sortableO (s := { s with heap := h₁ }) (by omega) (fun v hm => (hp v hm).keeps fun b o e _ => (kk b o e).2) fun o e => ?_
    have e' : some o = some (seqObj "list" vs.toArray 0) := e.symm.trans ha
    cases e'
    intro c
    exact absurd (Value.type.inj c) (by decide)
  · exact h _ _ out hs hb (fun b o e => sortedAll_old e) (Nat.le_succ _) (sortedAll_at s.heap vs out.toArray)
end
/-- sorted(xs), xs a list of triples of ints (k says which): a new list, sorted, equal ones in their order -/
def rSorted3 (K : PySem.W.Frag) : List V → Hp → VK → Prop := fun vs H Q => ∃ (a : Addr) (xs : List V) (k : V → T3), vs = [V.ref a] ∧ SqL K H a xs ∧ (∀ x ∈ xs, ∃ t, x = V.ref t ∧ H t = some (.tup [.int (k x).1, .int (k x).2.1, .int (k x).2.2])) ∧
  ∀ ys p, SrtO.Srtd (fun x y => lex3 (k x) (k y)) ys → SrtO.Stb (fun x y => lex3 (k x) (k y)) ys xs → H p = none → Q (.ref p) (upd H p (.lst ys))
section
variable {X : Cx}
theorem vals3 {x y z : V} {its : List Value} (r : Vals [x, y, z] its) : ∃ u1 u2 u3, its = [u1, u2, u3] ∧ RelV x u1 ∧ RelV y u2 ∧ RelV z u3 := by
  cases r with
  | cons a r => cases r with
    | cons b r => cases r with
      | cons c r => cases r; exact ⟨_, _, _, rfl, a, b, c⟩
theorem cr_sorted3 : CallR X (.builtin "sorted") (rSorted3 X.K) := by
  intro pins s σ H vs us Q I r h
  obtain ⟨a, xs, k, rfl, hs, hx, q⟩ := h
  obtain ⟨its, rv, hl, hz⟩ := I.list hs
  obtain ⟨u, rfl, ru⟩ := vals1 r
  obtain rfl : u = Value.ref a := ru
  obtain ⟨e1, e2⟩ := refs_back rv fun x m => by
    obtain ⟨t, e, _⟩ := hx x m
    exact ⟨t, e⟩
  refine sorted_trips (k := fun u => k (backV u)) hl.isList (by rw [← rv.length]; exact hz) (fun v hv => ?_) fun h' d out h1 h2 kp hd hn => ?_
  · obtain ⟨t, rfl⟩ := e2 v hv
    have hm : V.ref t ∈ xs := by rw [e1]; exact List.mem_map.mpr ⟨_, hv, rfl⟩
    obtain ⟨t', e, ht⟩ := hx _ hm
    cases e
    obtain ⟨_, its2, r2, o, ho, hc, n, hd⟩ := I.hok _ _ ht
    obtain ⟨u1, u2, u3, rfl, ri, rj, rk⟩ := vals3 r2
    obtain ⟨t1, rfl⟩ := ri
    obtain ⟨t2, rfl⟩ := rj
    obtain ⟨t3, rfl⟩ := rk
    exact ⟨t, o, t1, t2, t3, n, rfl, ho, hc, hd⟩
  · have h3 : ∀ u ∈ out, ∃ a, u = Value.ref a := fun u hu => e2 u (h2.perm.mem_iff.mp hu)
    obtain ⟨n, hn⟩ := hn
    have hb : SrtO.Stb (fun x y => lex3 (k x) (k y)) (out.map backV) xs := by
      rw [e1]
      exact SrtO.Stb.map (swo3 k) backV h2
    refine ⟨.ref d, upd H d (.lst (out.map backV)), I.laid (t' := s.toks) kp hd ⟨?_, out, n, vals_back h3, hn⟩, rfl, q _ d (SrtO.srtd_map h1) hb (I.hok.fresh hd)⟩
    rw [hb.len]
    exact hz
end
/-! ### d.setdefault(k, z), k a tuple -/
section
variable {X : Cx} {pins : List (Addr × Obj)} {σ : L2.St} {H : Hp} {s : Shared} {a b : Addr} {r : Value} {d : V} {k : List Key} {A : Around} {E : Value → Shared → Prop}
theorem d_setdT {kvs : List (List Key × V)} {Q : Value → Shared → Prop} (hu : A.units + 1 < cLine) (I : Inv X pins σ H s) (e : H a = some (.dT kvs)) (eb : H b = some (.tup (k.map kV))) (rd : RelV d r) (hl : kvs.length < sizeLine)
    (h1 : ∀ v, valV kvs k = some v → ∀ (w' : Value) (s' : Shared), Inv X pins σ H s' → RelV v w' → Q w' s') (h2 : valV kvs k = none → ∀ (w' : Value) (s' : Shared), Inv X pins σ (upd H a (.dT (putK kvs k d))) s' → RelV d w' → Q w' s') :
    wpAny (model X.prog X.w) A (call (.builtin "dict.setdefault") [.ref a, .ref b, r]) Q E s := by
  obtain ⟨z, hd, xs, rel, dd⟩ := dt_of I.hok e
  have hz : xs.length ≤ sizeLine := by rw [← Paired.length rel]; exact z
  have hl2 : (putK kvs k d).length ≤ sizeLine := by have := length_putK kvs k d; omega
  refine call_setdefault_heap (hsz := hz) (tupleKind_room_in1 hu) (key_of I.hok eb) hd dd (fun p hp => ?_) fun hn h' dd' hs => ?_
  · have q := rel.val k
    rw [hp] at q
    cases q0 : valV kvs k with
    | none =>
      rw [q0] at q
      exact (show False from q).elim
    | some v0 =>
      rw [q0] at q
      exact h1 v0 q0 _ _ (I.tok _) q
  · have q := rel.val k
    rw [hn] at q
    cases q0 : valV kvs k with
    | some v0 =>
      rw [q0] at q
      exact (show False from q).elim
    | none =>
      obtain ⟨q, es, ep, hq, h2', h3, h4, _, h5⟩ := dd'
      refine h2 q0 _ _ (d_write (t' := s.toks + _) I (by rw [e]; exact True.intro) hs ⟨q, hq⟩ ⟨hl2, hd, _, (rel.put k eb rd).keeps fun c ys ec => ?_, q, es, ep, hq, h2', h3, h4, h5⟩) rd
      rw [upd_ne (ne_of ec e (fun z => nomatch z))]
      exact ec
end
def tDSetdT (td ty tx : TE) : TE := fun σ H Q => td σ H fun x H1 => ∃ a, x = .ref a ∧ IsD H1 a ∧ ty σ H1 fun y H2 => tx σ H2 fun z H3 => ∃ (kvs : List (List Key × V)) (k : List Key) (b : Addr), H3 a = some (.dT kvs) ∧ y = .ref b ∧ H3 b = some (.tup (k.map kV)) ∧ kvs.length < sizeLine ∧
  (∀ v, valV kvs k = some v → Q v H3) ∧ (valV kvs k = none → Q z (upd H3 a (.dT (putK kvs k z))))
section
variable {X : Cx} {o e f : Expr} {td ty tx : TE} {apos cpos : Pos}
theorem pe_dsetdT (hu : X.A.units + 1 < cLine) (ho : PE X o td) (he : PE X e ty) (hf : PE X f tx) (m : M2 X o "setdefault" apos e f cpos) : PE X (.Call (.Attribute o "setdefault" apos) [e, f] [] cpos) (tDSetdT td ty tx) := by
  refine ⟨fun pins s σ H Q I h => ?_⟩
  refine wpAny_Call_method m.base m.few m.line PySem.F.plainAttrs_dict PySem.F.slot_dict_setdefault PySem.F.type_dict_setdefault (thn (ho.run pins s σ H _ I h) fun u s1 ⟨x, H1, I1, rx, a, ex, d, q1⟩ => ?_)
  subst ex
  obtain rfl : u = Value.ref a := rx
  obtain ⟨t1, t2, _⟩ := isD_at I1 d
  refine ⟨t1, t2, ?_⟩
  rw [m.trees]
  refine Calls.callWith_builtin rfl (Calls.evalArgs_plain (Calls.spliced_cons (thn (he.run pins s1 σ H1 _ I1 q1) fun iv s2 ⟨y, H2, I2, ry, q2⟩ =>
    Calls.spliced_cons (thn (hf.run pins s2 σ H2 _ I2 q2) fun fv s3 ⟨z, H3, I3, rz, kvs, k, b, ea, ey, eb, hl, q3, q4⟩ => Calls.spliced_nil ?_))))
  subst ey
  obtain rfl : iv = Value.ref b := ry
  exact d_setdT hu I3 ea eb rz hl (fun v hv w' s4 I4 rw' => ⟨v, _, I4, rw', q3 v hv⟩) fun hn w' s4 I4 rw' => ⟨z, _, I4, rw', q4 hn⟩
end
/-! ### tests within a generator -/
theorem eltZ_lt_int {prog : Program} {w : World} {scope : Scope} {xa xb : Str} {U : Nat} {hb : Heap} {P : Addr} {p1 p2 p3 : Pos} (a b : Int) (hk : scope.kind = .function) (la : scope.names.lookup xa = some .local) (lb : scope.names.lookup xb = some .local)
    (da : (xa == ("__debug__" : Str)) = false := by decide) (db : (xb == ("__debug__" : Str)) = false := by decide) :
    EltZ prog w scope xa xb (.Compare (.Name xa p1) [.Lt] [.Name xb p2] p3) U hb P (.int a) (.int b) (decide (a < b)) := by
  intro cenv A' E' va vb s₂ m₂ hs _ hn hma hmb ra rb _
  obtain ⟨t, rfl⟩ := ra
  obtain ⟨u, rfl⟩ := rb
  refine wpAny_Compare1 ?_
  refine wpAny_Name (wpAny_loadName_local (by rw [hs]; exact hk) (show cenv.scope.names.lookup xa = some .local by rw [hs]; exact la) hn hma ?_) da
  refine wpAny_Name (wpAny_loadName_local (by rw [hs]; exact hk) (show cenv.scope.names.lookup xb = some .local by rw [hs]; exact lb) hn hmb ?_) db
  exact PyProof.Rows.lt_int ⟨rfl, keeps_refl _⟩
theorem lexLt3 (p q : T3) : HT.lexLt [p.1, p.2.1, p.2.2] [q.1, q.2.1, q.2.2] = lex3 p q := by
  unfold lex3
  rw [HT.lexLt_cons, HT.lexLt_cons, HT.lexLt_cons, HT.lexLt_nil_nil]
  by_cases h : p.1 = q.1
  · rw [if_pos h, if_pos h]
    by_cases h2 : p.2.1 = q.2.1
    · rw [if_pos h2, if_pos h2]
      by_cases h3 : p.2.2 = q.2.2
      · rw [if_pos h3, h3]
        exact (decide_eq_false (Int.lt_irrefl _)).symm
      · rw [if_neg h3]
    · rw [if_neg h2, if_neg h2]
  · rw [if_neg h, if_neg h]
theorem eltZ_lt_trip {X : Cx} {pins : List (Addr × Obj)} {σ : L2.St} {H1 : Hp} {s : Shared} {scope : Scope} {xa xb : Str} {U : Nat} {P : Addr} {p1 p2 p3 : Pos} (I : Inv X pins σ H1 s) (hP : TabG H1 P) (hU : U < cLine) {t u : Addr} {p q : T3}
    (ht : H1 t = some (.tup [.int p.1, .int p.2.1, .int p.2.2])) (hu : H1 u = some (.tup [.int q.1, .int q.2.1, .int q.2.2])) (hk : scope.kind = .function) (la : scope.names.lookup xa = some .local) (lb : scope.names.lookup xb = some .local)
    (da : (xa == ("__debug__" : Str)) = false := by decide) (db : (xb == ("__debug__" : Str)) = false := by decide) :
    EltZ X.prog X.w scope xa xb (.Compare (.Name xa p1) [.Lt] [.Name xb p2] p3) U s.heap P (.ref t) (.ref u) (lex3 p q) := by
  intro cenv A' E' va vb s₂ m₂ hs hA hn hma hmb ra rb hkp
  cases ra
  cases rb
  obtain ⟨ps, hP, _⟩ := hP
  have nP : ∀ {b : Addr} {xs : List V}, H1 b = some (.tup xs) → b ≠ P := fun e z => by rw [z, hP] at e; cases e
  have tup : ∀ {b : Addr} {p : T3}, H1 b = some (.tup [.int p.1, .int p.2.1, .int p.2.2]) → ∃ its : Array Value, IsTup s₂.heap b its ∧ IntsAre its.toList [p.1, p.2.1, p.2.2] := fun {b p} e => by
    obtain ⟨_, its2, r2, o, ho, hc, n, hd⟩ := I.hok _ _ e
    obtain ⟨u1, u2, u3, rfl, ri, rj, rk⟩ := vals3 r2
    obtain ⟨t1, rfl⟩ := ri
    obtain ⟨t2, rfl⟩ := rj
    obtain ⟨t3, rfl⟩ := rk
    exact ⟨_, ⟨o, hkp b o (nP e) ho, hc, n, hd⟩, .cons _ _ (.cons _ _ (.cons _ _ .nil))⟩
  obtain ⟨its, T1, i1⟩ := tup ht
  obtain ⟨its2, T2, i2⟩ := tup hu
  refine wpAny_Compare1 ?_
  refine wpAny_Name (wpAny_loadName_local (by rw [hs]; exact hk) (show cenv.scope.names.lookup xa = some .local by rw [hs]; exact la) hn hma ?_) da
  refine wpAny_Name (wpAny_loadName_local (by rw [hs]; exact hk) (show cenv.scope.names.lookup xb = some .local by rw [hs]; exact lb) hn hmb ?_) db
  refine HT.lt_tupInts T1 T2 i1 i2 (Nat.lt_of_le_of_lt hA hU) ?_
  rw [lexLt3]
  exact ⟨rfl, keeps_refl _⟩
end Fw

/-! What a class of worlds asks of numbers, rows and steps: pure mathematics. -/
namespace Fw
def asc {α : Type} (lt : α → α → Bool) : List α → Bool
  | [] => true
  | [_] => true
  | x :: y :: l => lt x y && asc lt (y :: l)
def adj {α : Type} (lt : α → α → Bool) (l : List α) : List Bool := (l.zip l.tail).map fun p => lt p.1 p.2
theorem adj_len {α : Type} (lt : α → α → Bool) (l : List α) : (adj lt l).length = min l.length l.tail.length := by
  unfold adj
  rw [List.length_map, List.length_zip]
theorem adj_get {α : Type} {lt : α → α → Bool} {l : List α} {i : Nat} {r : Bool} (h : (adj lt l)[i]? = some r) : ∃ x y, l[i]? = some x ∧ l.tail[i]? = some y ∧ r = lt x y := by
  unfold adj at h
  rw [List.getElem?_map] at h
  cases e : (l.zip l.tail)[i]? with
  | none => rw [e] at h; cases h
  | some p =>
    rw [e] at h
    have := List.getElem?_zip_eq_some.mp e
    exact ⟨p.1, p.2, this.1, this.2, (Option.some.inj h).symm⟩
theorem adj_asc {α : Type} (lt : α → α → Bool) : ∀ l : List α, (adj lt l).all id = asc lt l
  | [] => rfl
  | [_] => rfl
  | x :: y :: l => by
    have ih := adj_asc lt (y :: l)
    show (id (lt x y) && (adj lt (y :: l)).all id) = (lt x y && asc lt (y :: l))
    rw [ih]
    rfl
theorem asc_pair {α : Type} {lt : α → α → Bool} (tr : ∀ x y z, lt x y = true → lt y z = true → lt x z = true) : ∀ {l : List α}, asc lt l = true ↔ l.Pairwise fun x y => lt x y = true
  | [] => ⟨fun _ => .nil, fun _ => rfl⟩
  | [x] => ⟨fun _ => List.pairwise_singleton _ _, fun _ => rfl⟩
  | x :: y :: l => by
    have ih := asc_pair tr (l := y :: l)
    unfold asc
    rw [Bool.and_eq_true, ih, List.pairwise_cons (a := x)]
    constructor
    · rintro ⟨h1, h2⟩
      refine ⟨fun z hz => ?_, h2⟩
      rcases List.mem_cons.mp hz with rfl | hz
      · exact h1
      · exact tr _ _ _ h1 ((List.pairwise_cons.mp h2).1 z hz)
    · rintro ⟨h1, h2⟩
      exact ⟨h1 y List.mem_cons_self, h2⟩
def ltI (x y : Int) : Bool := decide (x < y)
theorem ltI_tr (x y z : Int) (h1 : ltI x y = true) (h2 : ltI y z = true) : ltI x z = true := by
  unfold ltI at *
  rw [decide_eq_true_eq] at *
  omega
theorem lex3_tr (x y z : T3) (h1 : lex3 x y = true) (h2 : lex3 y z = true) : lex3 x z = true := by
  rw [lex3_iff] at *
  unfold Lt3 at *
  omega
theorem lex3_irr (x : T3) : lex3 x x = false := by
  rw [lex3_no]
  unfold Lt3
  omega
theorem lex3_anti {x y : T3} (h1 : lex3 x y = false) (h2 : lex3 y x = false) : x = y := by
  rw [lex3_no] at *
  unfold Lt3 at *
  obtain ⟨a, b, c⟩ := x
  obtain ⟨a', b', c'⟩ := y
  simp only at *
  have : a = a' ∧ b = b' ∧ c = c' := by omega
  obtain ⟨rfl, rfl, rfl⟩ := this
  rfl
theorem lex3_as {x y : T3} (h : lex3 x y = true) : lex3 y x = false := by
  rw [lex3_no]
  rw [lex3_iff] at h
  unfold Lt3 at *
  omega
/-- one order alone of the same triples, none twice -/
theorem sorted_one : ∀ {a b : List T3}, (a.Pairwise fun x y => lex3 y x = false) → (b.Pairwise fun x y => lex3 x y = true) → a.Perm b → a = b
  | [], b, _, _, h => (List.Perm.nil_eq h)
  | x :: a, [], _, _, h => by have := h.length_eq; cases this
  | x :: a, y :: b, ha, hb, h => by
    have ha' := List.pairwise_cons.mp ha
    have hb' := List.pairwise_cons.mp hb
    have e : x = y := by
      rcases List.mem_cons.mp (h.mem_iff.mp List.mem_cons_self) with q | q
      · exact q
      · rcases List.mem_cons.mp (h.mem_iff.mpr (List.mem_cons_self (a := y) (l := b))) with r | r
        · exact r.symm
        · exact lex3_anti (lex3_as (hb'.1 x q) |> fun z => by
            have z1 := ha'.1 y r
            have z2 := hb'.1 x q
            rw [z1] at z2
            cases z2) (ha'.1 y r)
    subst e
    rw [sorted_one ha'.2 hb'.2 h.cons_inv]
def okNums (l f : Int) : Bool := (decide (1 ≤ l) && decide (l ≤ 3)) && (decide (0 ≤ f) && decide (f ≤ 6))
def okRow (f : Int) (X : List Int) : Bool := X.all (fun x => decide (0 ≤ x) && decide (x ≤ f - 1)) && asc ltI X
def okRows (f : Int) (Xs : List (List Int)) : Bool := (decide (1 ≤ (Xs.length : Int)) && decide ((Xs.length : Int) ≤ 400)) && Xs.all (okRow f)
def okStep (l : Int) (n : Nat) (p : T3) : Bool := (decide (0 ≤ p.2.1) && decide (p.2.1 ≤ l - 1)) && ((decide (0 ≤ p.1) && decide (p.1 ≤ (n : Int) - 1)) && (decide (0 ≤ p.2.2) && decide (p.2.2 ≤ (n : Int) - 1)))
def okSteps (l : Int) (n : Nat) (ss : List T3) : Bool := ss.all (okStep l n) && asc lex3 ss
/-- the ends of the steps from s with l -/
def begS (ss : List T3) (s l : Int) : List Int := (ss.filter fun p => decide (p.1 = s) && decide (p.2.1 = l)).map fun p => p.2.2
theorem begS_snoc (ps : List T3) (p : T3) (s l : Int) : begS (ps ++ [p]) s l = begS ps s l ++ (if (decide (p.1 = s) && decide (p.2.1 = l)) = true then [p.2.2] else []) := by
  unfold begS
  rw [List.filter_append, List.map_append]
  congr 1
  cases c : decide (p.1 = s) && decide (p.2.1 = l)
  · simp [c]
  · simp [c]
theorem beh_begS (W : Wd) (s l : Int) : W.beh s l = begS W.steps s l := rfl
/-- in order they ascend -/
theorem begS_up {ss : List T3} (h : ss.Pairwise fun x y => lex3 x y = true) (s l : Int) : (begS ss s l).Pairwise (· < ·) := by
  unfold begS
  rw [List.pairwise_map]
  have h2 := List.Pairwise.sublist (List.filter_sublist (p := fun p : T3 => decide (p.1 = s) && decide (p.2.1 = l)) (l := ss)) h
  refine h2.imp_of_mem fun {a b} ha hb hab => ?_
  have pa := (List.mem_filter.mp ha).2
  have pb := (List.mem_filter.mp hb).2
  rw [Bool.and_eq_true, decide_eq_true_eq, decide_eq_true_eq] at pa pb
  rw [lex3_iff] at hab
  unfold Lt3 at hab
  omega
end Fw

set_option maxRecDepth 100000
set_option maxHeartbeats 4000000
namespace Fw
open PySem PySem.Spec PyProof.Rows L2 GxR
/-! ### a class whose making may raise -/
def HasCX (P : Program) (w : World) (K : PySem.W.Frag) (mg : Str → Option Value) (base : Heap) (x : Str) (C : Addr) (k : Nat) (ps : List Str) (sp : Sp) : Prop :=
  ∃ f fd, mg x = some (.ref C) ∧ Mk K C f ∧ Binds K fd ps [] ∧ FnOk P w K mg base (L2.CX P w) k f fd ps sp
def tMakeS (C : Addr) (sp : Sp) (E : L2.St → XK) (t : TA) : TE := fun σ H Q => t σ H fun vs H1 => ∀ x dx, H1 x = none → H1 dx = none → dx ≠ x →
  sp (.ref x :: vs) (upd (upd H1 dx (.own x)) x (.ins C dx [])) (fun v H2 => v = .non ∧ Q (.ref x) H2) (E σ)
theorem run_makeS {X : Cx} {CX : CXT} {k : Nat} {f C : Addr} {fd : FuncData} {ps : List Str} {sp : Sp} {E : XK} {pins : List (Addr × Obj)} {σ : L2.St} {H : Hp} {s : Shared} {Q : VK} {us : List Value} {vs : List V} (M : Mk X.K C f) (F : FnOk X.prog X.w X.K X.mg X.base CX k f fd ps sp) (hr : Room (k + 1) X.A) (hb : Binds X.K fd ps [])
    (hx : PassesAt CX X σ E) (I : Inv X pins σ H s) (r : Vals vs us)
    (h : ∀ x dx, H x = none → H dx = none → dx ≠ x → sp (.ref x :: vs) (upd (upd H dx (.own x)) x (.ins C dx [])) (fun v H2 => v = .non ∧ Q (.ref x) H2) E) :
    wpAny (model X.prog X.w) X.A (call (.ref C) us) (EP X pins σ Q) X.xe s := by
  have hq := h (s.heap.objs.size + 1) s.heap.objs.size (I.hok.fresh (Nat.le_succ _)) (I.hok.fresh (Nat.le_refl _)) (Nat.ne_of_lt (Nat.lt_succ_self _))
  have I2 := Inv.made (C := C) I
  have r2 : Vals (V.ref (s.heap.objs.size + 1) :: vs) (Value.ref (s.heap.objs.size + 1) :: us) := .cons rfl r
  have hl : (Value.ref (s.heap.objs.size + 1) :: us ++ []).length = ps.length := by
    have e := r2.length
    rw [F.len _ _ _ _ hq] at e
    rw [List.append_nil]
    exact e.symm
  have b := hb _ (Value.ref (s.heap.objs.size + 1) :: us) I2.kIn hl
  rw [List.append_nil] at b
  refine wpAny_call (make_map (f := f) I.kIn M.makes M.init (beq_iff_eq.mp M.fn) (codeAny_mono (F.run _ X.stack _ _ ⟨Value.ref (s.heap.objs.size + 1) :: us, []⟩ (Value.ref (s.heap.objs.size + 1) :: us) _ _ E (hr.make C us [])
    (I2.env0.make C us []) b r2 hq) fun r s' hq' => ?_))
  cases r with
  | error e => exact hx pins _ _ e s' I2 hq'
  | ok fl =>
    cases fl with
    | ret u =>
      obtain ⟨v, H', I3, rv, ev, q3⟩ := I2.after hq'
      subst ev
      exact ⟨rv, ⟨V.ref (s.heap.objs.size + 1), H', I3, rfl, q3⟩⟩
    | next => exact False.elim hq'
    | brk => exact False.elim hq'
    | cont => exact False.elim hq'
theorem pe_makeX {X : Cx} {W : WX} {x : Str} {C : Addr} {k : Nat} {ps : List Str} {sp : Sp} {e : Expr} {es : List Expr} {t : TA} {p pos : Pos} (h : HasCX X.prog X.w X.K X.mg X.base x C k ps sp) (hr : Room (k + 1) X.A) (tk : Takes X W) (ha : PA X (e :: es) t) (hg : Gl X x := by rfl)
    (hdb : (x == ("__debug__" : Str)) = false := by decide) (he : starEach (e :: es) X.env = (false, eval e X.env) :: starEach es X.env := by rfl) (hpl : (backTo pos (starEach es X.env)).any (·.1) = false := by rfl) :
    PE X (.Call (.Name x p) (e :: es) [] pos) (tMakeS C sp (WE W) t) := by
  obtain ⟨f, fd, m, M, b, G⟩ := h
  refine ⟨fun pins s σ H Q I h => ?_⟩
  refine wpAny_Call_Name_kw (ld_glob I hg m ?_ hdb)
  refine PySem.W.callWith_K (h₀ := X.base) I.ok.mod.kin M.kp (thn (ha.run pos pins s σ H _ I h) fun us s1 ⟨vs, H1, I1, r, q⟩ => ⟨I1.kIn, ?_⟩) he hpl
  exact run_makeS M G hr b (passAt tk σ) I1 r q
/-! ### a def whose code object is told -/
structure FunC (K : PySem.W.Frag) (x qual : Str) (st : Stmt) (f : Addr) (fd : FuncData) (c : Addr) : Prop where
  ex : ∃ (oc : Value) (od : Option Addr) (kV doc pm : Value) (an : Option Addr) (ct : Value) (osl : Array (Option Value)),
    fd = PySem.W.fnOf x qual (defArgs st) (defBody st) (defScope st) .none kV doc pm an (.ref c) ct ∧ K.lookup f = some ⟨oc, od, .func fd, osl⟩ ∧ PySem.W.codeIn K (.ref c) qual = true
theorem FunC.ok {P : Program} {w : World} {K : PySem.W.Frag} {mg : Str → Option Value} {base : Heap} {x qual : Str} {st : Stmt} {f c : Addr} {fd : FuncData} {N ps : List Str} {k : Nat} {sp : Sp} (F : FunC K x qual st f fd c) (S : FnScope N ps (defScope st)) (len : ∀ vs H Q E, sp vs H Q E → vs.length = ps.length)
    (hbody : ∀ (A : Around) (outer : List Env) (s : Shared) (H : Hp) (vs : List V) (Q : VK) (E : XK), Room k (A.deeper (envOfC qual (defScope st) s.heap.objs.size f (.ref c))) → sp vs H Q E →
      ∃ t, PSs (cxOf CX0 P w K mg base N qual (defScope st) f (.ref c) A outer s H E).nox (defBody st) t ∧ t { nx := fun _ H' => Q .non H', rt := Q } (start N vs) H) : FnOk P w K mg base CX0 (k + 1) f fd ps sp := by
  obtain ⟨oc, od, kV, doc, pm, an, ct, osl, rfl, lk, hcd⟩ := F.ex
  refine fn_of lk hcd S len fun A outer s H vs Q E hr hsp => ?_
  obtain ⟨t, h, q⟩ := hbody A outer s H vs Q E hr hsp
  exact ⟨t, h.nox, q⟩
/-- what stood is kept but for the table at P -/
def Tb (P : Addr) (H H' : Hp) : Prop := But P H H' ∧ TabG H' P
theorem Tb.refl {P : Addr} {H : Hp} (h : TabG H P) : Tb P H H := ⟨But.refl P H, h⟩
theorem Tb.trans {P : Addr} {H H1 H2 : Hp} (a : Tb P H H1) (b : Tb P H1 H2) : Tb P H H2 := ⟨a.1.trans b.1, b.2⟩
theorem _root_.GxR.TabG.same {P : Addr} {H H' : Hp} (s : Same H H') (h : TabG H P) : TabG H' P := by
  obtain ⟨ps, e, t⟩ := h
  exact ⟨ps, s _ _ e, t⟩
theorem Tb.same {P : Addr} {H H' : Hp} (s : Same H H') (h : TabG H P) : Tb P H H' := ⟨Same.but s, h.same s⟩
theorem _root_.GxR.TabG.ne {P b : Addr} {H : Hp} {o : HO} (h : TabG H P) (e : H b = some o) (n : ∀ ps, o ≠ .tbl ps) : b ≠ P := by
  obtain ⟨ps, q, _⟩ := h
  rintro rfl
  rw [e] at q
  exact n _ (Option.some.inj q)
theorem SqT.tb {K : PySem.W.Frag} {P : Addr} {H H' : Hp} {a : Addr} {xs : List V} (g : TabG H P) (t : Tb P H H') (h : SqT K H a xs) : SqT K H' a xs := by
  rcases h with h | h
  · rcases h with h | ⟨u, h⟩
    · exact .inl (.inl (t.1 _ _ (g.ne h (by intro _ z; cases z)) h))
    · exact .inl (.inr ⟨u, t.1 _ _ (g.ne h (by intro _ z; cases z)) h⟩)
  · exact .inr h
theorem tabbed_tb {P : Addr} {H H' : Hp} (h : Tabbed P H H') : Tb P H H' := ⟨fun b o n e => by rw [h.2 b n]; exact e, h.1⟩
/-- what it has written of the errors -/
structure TxtEW (K : PySem.W.Frag) (mg : Str → Option Value) (NC : Addr) : Prop where
  gC : mg "InvalidWorld" = some (.ref NC)
  xC : PySem.W.excIn K NC [.type "ValueError", .type "Exception", .type "BaseException", .type "object"] "ValueError.__new__" = true
  kC : PySem.W.keepIn K (.ref NC) = true
  bC : PySem.W.subIn K (.ref NC) (.type "BaseException") = some true
  tC : PySem.W.typeIn K (.ref NC) = some (.type "type")
  eC : PySem.W.exmOne K (.ref NC) (.ref NC) = some true
structure TxtL (mg : Str → Option Value) (t1 t2 t3 : Tok) : Prop where
  m_MOST_LABELS : mg "MOST_LABELS" = some (.int 3 t1)
  m_MOST_FACTS : mg "MOST_FACTS" = some (.int 6 t2)
  m_MOST_STATES : mg "MOST_STATES" = some (.int 400 t3)
section
variable {P : Program} {w : World} {K : PySem.W.Frag} {mg : Str → Option Value} {base : Heap} {C J B NC WC cA tA : Addr} {t1 t2 t3 : Tok}
def spNum : Sp := fun vs H Q _ => ∃ n lo hi : Int, vs = [.int n, .int lo, .int hi] ∧ Q (.bl (decide (lo ≤ n) && decide (n ≤ hi))) H
theorem ok_is_number {f : Addr} {fd : FuncData} (FF : Fun K "is_number" "is_number" s_is_number f fd) (T : Txt K mg C J B) : FnOk P w K mg base CX0 1 f fd a_is_number spNum := by
  refine FF.ok sc_is_number (fun vs H Q E h => ?_) (fun cdv A outer s H vs Q E hr h => ?_)
  · obtain ⟨n, lo, hi, rfl, _⟩ := h
    rfl
  · obtain ⟨n, lo, hi, rfl, k⟩ := h
    refine ⟨_, (pss_one (ps_ret (pe_and (pe_callB call_isi rfl T.z_isinstance (by decide +kernel) (pa_cons (pv 0) (pa_cons (pe_bltn (v := .ty "int") (u := .type "int") rfl T.z_int (by decide +kernel) rfl) pa_nil))) (pe_and (pe_not (pe_callB call_isi rfl T.z_isinstance (by decide +kernel) (pa_cons (pv 0) (pa_cons (pe_bltn (v := .ty "bool") (u := .type "bool") rfl T.z_bool (by decide +kernel) rfl) pa_nil)))) (pe_one (pe_chain op_le op_le (pv 1) (pv 0) (pv 2))))))), ?_⟩
    refine ⟨.int n, rfl, .int n, .ty "int", .type "int", .type "int", true, rfl, .ty "int", .base (.int n), kit_ty (by decide +kernel), true, rfl, iteT ?_⟩
    refine ⟨.int n, rfl, .int n, .ty "bool", .type "int", .type "bool", false, rfl, .ty "bool", .base (.int n), kit_ty (by decide +kernel), false, rfl, true, rfl, iteT ?_⟩
    refine ⟨.int lo, rfl, .int n, rfl, lo, n, rfl, rfl, _, rfl, ?_⟩
    by_cases c : lo ≤ n
    · refine (if_pos (decide_eq_true c)).mpr ⟨.int hi, rfl, n, hi, rfl, rfl, ?_⟩
      rw [decide_eq_true c, Bool.true_and] at k
      exact k
    · refine (if_neg (by rw [decide_eq_false c]; exact Bool.false_ne_true)).mpr ?_
      rw [decide_eq_false c, Bool.false_and] at k
      exact k
end
end Fw

set_option maxRecDepth 100000
set_option maxHeartbeats 4000000
namespace Fw
open PySem PySem.Spec PyProof.Rows L2
def FAt (H : Hp) (as : List Addr) (Xs : List (List Int)) : Prop := as.length = Xs.length ∧ ∀ (i : Nat) (a : Addr) (X : List Int), as[i]? = some a → Xs[i]? = some X → IL H a X
def PAt (H : Hp) (as : List Addr) (ps : List (Int × Int × Int)) : Prop := as.length = ps.length ∧ ∀ (i : Nat) (a : Addr) (p : Int × Int × Int), as[i]? = some a → ps[i]? = some p → H a = some (.tup [.int p.1, .int p.2.1, .int p.2.2])
structure WAx (H : Hp) (wa sa pa : Addr) (fas pas : List Addr) (W : Wd) : Prop where
  w : H wa = some (.tup [.ref sa, .ref pa])
  s : H sa = some (.lst (fas.map V.ref))
  p : H pa = some (.lst (pas.map V.ref))
  f : FAt H fas W.facts
  t : PAt H pas W.steps
def WAt (H : Hp) (v : V) (W : Wd) : Prop := ∃ (wa sa pa : Addr) (fas pas : List Addr), v = .ref wa ∧ WAx H wa sa pa fas pas W
theorem WAx.same {H H' : Hp} {wa sa pa : Addr} {fas pas : List Addr} {W : Wd} (z : Same H H') (h : WAx H wa sa pa fas pas W) : WAx H' wa sa pa fas pas W :=
  ⟨z _ _ h.w, z _ _ h.s, z _ _ h.p, ⟨h.f.1, fun i a X e1 e2 => z _ _ (h.f.2 i a X e1 e2)⟩, ⟨h.t.1, fun i a X e1 e2 => z _ _ (h.t.2 i a X e1 e2)⟩⟩
theorem WAt.same {H H' : Hp} {v : V} {W : Wd} (z : Same H H') (h : WAt H v W) : WAt H' v W := by
  obtain ⟨wa, sa, pa, fas, pas, e, x⟩ := h
  exact ⟨wa, sa, pa, fas, pas, e, x.same z⟩
/-- the world's size fits -/
structure Wd.Fit (W : Wd) : Prop where
  good : W.Good
  one : 1 ≤ W.n
  n8 : W.n ≤ 8
  st : W.steps.length ≤ 200
  fc : ∀ X ∈ W.facts, X.length ≤ 8
theorem FAt.nil (H : Hp) : FAt H [] [] := ⟨rfl, fun i a X e _ => by cases e⟩
theorem PAt.nil (H : Hp) : PAt H [] [] := ⟨rfl, fun i a X e _ => by cases e⟩
theorem FAt.map {H H' : Hp} {as : List Addr} {Xs : List (List Int)} (h : FAt H as Xs) (z : ∀ a o, a ∈ as → H a = some o → H' a = some o) : FAt H' as Xs :=
  ⟨h.1, fun i a X e1 e2 => z _ _ (List.mem_of_getElem? e1) (h.2 i a X e1 e2)⟩
theorem PAt.map {H H' : Hp} {as : List Addr} {Xs : List (Int × Int × Int)} (h : PAt H as Xs) (z : ∀ a o, a ∈ as → H a = some o → H' a = some o) : PAt H' as Xs :=
  ⟨h.1, fun i a X e1 e2 => z _ _ (List.mem_of_getElem? e1) (h.2 i a X e1 e2)⟩
theorem get_snoc {α : Type} {l : List α} {x : α} {i : Nat} {y : α} (h : (l ++ [x])[i]? = some y) : l[i]? = some y ∨ (i = l.length ∧ x = y) := by
  by_cases lt : i < l.length
  · rw [List.getElem?_append_left lt] at h
    exact .inl h
  · have e : i = l.length := by
      have := (List.getElem?_eq_some_iff.mp h).1
      rw [List.length_append, List.length_singleton] at this
      omega
    subst e
    rw [List.getElem?_append_right (Nat.le_refl _), Nat.sub_self] at h
    exact .inr ⟨rfl, Option.some.inj h⟩
theorem get_len {α : Type} {l : List α} {i : Nat} {y : α} (h : l[i]? = some y) : i < l.length := (List.getElem?_eq_some_iff.mp h).1
theorem FAt.snoc {H : Hp} {as : List Addr} {Xs : List (List Int)} {a : Addr} {X : List Int} (h : FAt H as Xs) (z : IL H a X) : FAt H (as ++ [a]) (Xs ++ [X]) :=
  ⟨by rw [List.length_append, List.length_append, h.1]; rfl, fun i b Y e1 e2 => by
    rcases get_snoc e1 with e1' | ⟨q, rfl⟩
    · rcases get_snoc e2 with e2' | ⟨q, rfl⟩
      · exact h.2 i b Y e1' e2'
      · have := get_len e1'; rw [h.1] at this; omega
    · rcases get_snoc e2 with e2' | ⟨q2, rfl⟩
      · have := get_len e2'; rw [← h.1] at this; omega
      · exact z⟩
theorem PAt.snoc {H : Hp} {as : List Addr} {Xs : List (Int × Int × Int)} {a : Addr} {p : Int × Int × Int} (h : PAt H as Xs) (z : H a = some (.tup [.int p.1, .int p.2.1, .int p.2.2])) : PAt H (as ++ [a]) (Xs ++ [p]) :=
  ⟨by rw [List.length_append, List.length_append, h.1]; rfl, fun i b Y e1 e2 => by
    rcases get_snoc e1 with e1' | ⟨q, rfl⟩
    · rcases get_snoc e2 with e2' | ⟨q, rfl⟩
      · exact h.2 i b Y e1' e2'
      · have := get_len e1'; rw [h.1] at this; omega
    · rcases get_snoc e2 with e2' | ⟨q2, rfl⟩
      · have := get_len e2'; rw [← h.1] at this; omega
      · exact z⟩
section
variable {P : Program} {w : World} {K : PySem.W.Frag} {mg : Str → Option Value} {base : Heap} {C J B NC FE OD : Addr}
def RowUp (f : Int) (X : List Int) : Prop := X.Pairwise (· < ·) ∧ ∀ x ∈ X, 0 ≤ x ∧ x < f
def StUp (n : Nat) (q p : T3) : Prop := 0 ≤ p.1 ∧ p.1 < (n : Int) ∧ 0 ≤ p.2.1 ∧ p.2.1 < 2 ∧ 0 ≤ p.2.2 ∧ p.2.2 < (n : Int) ∧ lex3 p q = true
theorem StUp.up {n : Nat} {q q' p : T3} (h : StUp n q p) (z : Lt3 p q → Lt3 p q') : StUp n q' p := by
  obtain ⟨a, b, c, d, e, f, g⟩ := h
  exact ⟨a, b, c, d, e, f, lex3_iff.mpr (z (lex3_iff.mp g))⟩
/-- its rows ascend, and its steps -/
structure Wd.Up (W : Wd) (f : Int) : Prop where
  rows : ∀ X ∈ W.facts, RowUp f X
  steps : W.steps.Pairwise fun x y => lex3 x y = true
  in_ : ∀ p ∈ W.steps, StUp W.n (W.n, 0, 0) p
def spWorld : Sp := fun vs H Q _ => ∃ (d : Addr) (mo fc : Int), vs = [.ref d, .int mo, .int fc] ∧ Draws H d ∧ 1 ≤ mo ∧ mo ≤ 8 ∧ 0 ≤ fc ∧ fc ≤ 8 ∧
  ∀ (wa sa pa : Addr) (fas pas : List Addr) W H', But d H H' → Draws H' d → WAx H' wa sa pa fas pas W → sa ≠ d → pa ≠ d → (∀ a ∈ fas, a ≠ d) → W.Fit → W.Up fc → (W.n : Int) ≤ mo → Q (.ref wa) H'
theorem ok_law_world {f : Addr} {fd : FuncData} (FF : Fun K "_law_world" "_law_world" s_law_world f fd) (T : Txt K mg C J B) (h_law_take : Has P w K mg base "_law_take" 1 a_law_take spTake) : FnOk P w K mg base CX0 2 f fd a_law_world spWorld := by
  refine FF.ok sc_law_world (fun vs H Q E h => ?_) (fun cdv A outer s H vs Q E hr h => ?_)
  · obtain ⟨d, mo, fc, rfl, _⟩ := h
    rfl
  · obtain ⟨d, mo, fc, rfl, hd, m1, m8, f0, f8, k⟩ := h
    refine ⟨_, (pss_cons (ps_set (i := 3) sc_law_world.nd rfl (.inl rfl) (pe_op op_add pe_int (pe_callH h_law_take (hr.mono (by omega)) (pa_cons (pv 0) (pa_cons (pv 1) pa_nil)))))
      (pss_cons (ps_setLc (i := 5) (own := [("state", 4)]) (g := gName 4) rfl sc_law_world.nd rfl rfl (sw_true rfl rfl rfl (by decide +kernel)) (pi_range1 rfl T.z_range (pa_cons (pv 3) pa_nil)) (blkOk_by (own := [("state", 4)]) (N := n_law_world) (sc := defScope s_law_world) (by decide +kernel)) (fun _ _ _ _ _ => (pg_name (i := 4) sc_law_world.nd rfl (.inl rfl))) (fun _ _ _ _ _ => pts_nil) (fun _ _ _ _ _ => (pe_lc (own := [("fact", 9)]) (g := gName 9) rfl sc_law_world.nd (pi_range1 rfl T.z_range (pa_cons (pv 2) pa_nil)) (blkOk_by (own := [("fact", 9)]) (N := n_law_world) (sc := { kind := PySem.ScopeKind.function, names := [ (PySem.Str.ofString ".0", PySem.NameKind.local), (PySem.Str.ofString "state", PySem.NameKind.local), (PySem.Str.ofString "range", PySem.NameKind.globalImplicit), (PySem.Str.ofString "draws", PySem.NameKind.cell), (PySem.Str.ofString "facts", PySem.NameKind.cell)], isGenerator := false, isCoroutine := false, more := [] : PySem.Scope }) (by decide +kernel)) (fun _ _ _ _ _ => (pg_name (i := 9) sc_law_world.nd rfl (.inl rfl))) (fun _ _ _ _ _ => (pts_one (pt_cmpR op_eq (pe_callH h_law_take (hr.mono (by omega)) (pa_cons (pv 0) (pa_cons pe_int pa_nil))) pe_int (nomark _)))) (fun _ _ _ _ _ => (pv 9)))))
      (pss_cons (ps_set (i := 6) sc_law_world.nd rfl (.inl rfl) (pe_lst pa_nil))
      (pss_cons (ps_for PassesOwn.never rfl (pi_range1 rfl T.z_range (pa_cons (pv 3) pa_nil)) (pg_name (i := 4) sc_law_world.nd rfl (.inl rfl)) (pss_one (ps_for PassesOwn.never rfl (pi_range1 rfl T.z_range (pa_cons pe_int pa_nil)) (pg_name (i := 7) sc_law_world.nd rfl (.inl rfl)) (pss_one (ps_for PassesOwn.never rfl (pi_range1 rfl T.z_range (pa_cons (pv 3) pa_nil)) (pg_name (i := 8) sc_law_world.nd rfl (.inl rfl)) (pss_one (ps_if (pt_cmpR op_lt (pe_callH h_law_take (hr.mono (by omega)) (pa_cons (pv 0) (pa_cons (pe_op op_add pe_int (pv 3)) pa_nil))) pe_int (nomark _)) (pss_one (ps_expr (pe_bm PySem.F.plainAttrs_list PySem.F.slot_list_append PySem.F.type_list_append mt_append (pv 6) (pa_cons (pe_tup (pa_cons (pv 4) (pa_cons (pv 7) (pa_cons (pv 8) pa_nil)))) pa_nil)))) pss_nil)))))))
      (pss_one (ps_ret (pe_tup (pa_cons (pv 5) (pa_cons (pv 6) pa_nil))))))))), ?_⟩
    refine ⟨.ref d, rfl, .int mo, rfl, d, mo, rfl, hd, by omega, fun v1 H1 v10 v1m b1 d1 => ⟨1, v1, rfl, rfl, ?_⟩⟩
    obtain ⟨n, hn⟩ : ∃ n : Nat, 1 + v1 = (n : Int) := ⟨(1 + v1).toNat, by omega⟩
    show gName 3 (V.int (1 + v1)) _ _ _
    rw [hn]
    have n1 : 1 ≤ n := by omega
    have n8 : n ≤ 8 := by omega
    refine ⟨.int (n : Nat), rfl, (n : Nat), rfl, by omega, by omega, fun D hD => ?_⟩
    have dD : D ≠ d := d1.ne hD
    refine lc_range (lo := 0) (n := ((n : Int)).toNat) (fun i G => But d H1 G ∧ Draws G d ∧ ∃ (fas : List Addr) (Xs : List (List Int)), G D = some (.lst (fas.map V.ref)) ∧ fas.length = i ∧ FAt G fas Xs ∧ (∀ a ∈ fas, a ≠ d ∧ a ≠ D) ∧ ∀ X ∈ Xs, X.length ≤ 8 ∧ RowUp fc X)
      ⟨Same.but (Same.new hD), d1.same (Same.new hD), [], [], upd_same, rfl, FAt.nil _, fun a h => (by cases h), fun X h => (by cases h)⟩ ?_ ?_
    · rintro i G hi ⟨bG, dG, fas, Xs, gD, li, fa, ne, x8⟩
      rw [Int.toNat_natCast] at hi
      refine ⟨rfl, ?_⟩
      refine ⟨.int fc, rfl, fc, rfl, by omega, by omega, fun D2 hD2 => ?_⟩
      have dD2 : D2 ≠ d := dG.ne hD2
      have dDD : D2 ≠ D := fun e => by rw [e, gD] at hD2; cases hD2
      refine lc_range (lo := 0) (n := fc.toNat) (fun j G2 => But d G G2 ∧ Draws G2 d ∧ ∃ X : List Int, IL G2 D2 X ∧ X.length ≤ j ∧ RowUp j X)
        ⟨Same.but (Same.new hD2), dG.same (Same.new hD2), [], upd_same, Nat.le_refl 0, List.Pairwise.nil, fun x hx => (by cases hx)⟩ ?_ ?_
      · rintro j G2 hj ⟨bG2, dG2, X, gD2, lX, rX⟩
        refine ⟨rfl, ?_⟩
        refine ⟨.ref d, rfl, d, 2, rfl, dG2, by decide, fun v2 H2 v20 v22 b2 d2 => ⟨rfl, _, rfl, ?_⟩⟩
        have gD2' := b2 _ _ dD2 gD2
        refine ite2 (fun c => ?_) (fun c => ?_)
        · refine ⟨_, rfl, _, gD2', by rw [List.length_map]; exact small1000 (by omega), fun b o nb e => ?_, ?_, X ++ [0 + (j : Int)], ?_, by rw [List.length_append]; exact Nat.succ_le_succ lX, ?_⟩
          · rw [upd_ne (ne_of_none e hD2)]
            exact b2 _ _ nb (bG2 _ _ nb e)
          · obtain ⟨ds, e⟩ := d2
            exact ⟨ds, by rw [upd_ne dD2.symm]; exact e⟩
          · show _ = _
            rw [upd_same, List.map_append]
            rfl
          · refine ⟨List.pairwise_append.mpr ⟨rX.1, List.pairwise_singleton _ _, fun a ha b hb => ?_⟩, fun x hx => ?_⟩
            · rw [List.mem_singleton.mp hb]
              have := (rX.2 a ha).2
              omega
            · rcases List.mem_append.mp hx with hx | hx
              · have := rX.2 x hx
                omega
              · rw [List.mem_singleton.mp hx]
                omega
        · exact ⟨bG2.trans b2, d2, X, gD2', Nat.le_succ_of_le lX, rX.1, fun x hx => by have := rX.2 x hx; omega⟩
      · rintro G2 ⟨bG2, dG2, X, gD2, lX, rX⟩
        have gD' := bG2 _ _ dD gD
        refine ⟨_, gD', by rw [List.length_map]; exact small1000 (by omega), fun b o nb e => ?_, ?_, fas ++ [D2], Xs ++ [X], by rw [upd_same, List.map_append]; rfl, by rw [List.length_append, li]; rfl, FAt.snoc (fa.map fun a o ha e => ?_) ?_, fun a ha => ?_, fun Y hY => ?_⟩
        · rw [upd_ne (ne_of_none e hD)]
          exact bG2 _ _ nb (bG _ _ nb e)
        · obtain ⟨ds, e⟩ := dG2
          exact ⟨ds, by rw [upd_ne dD.symm]; exact e⟩
        · rw [upd_ne (ne a ha).2]
          exact bG2 _ _ (ne a ha).1 e
        · show _ = _
          rw [upd_ne dDD]
          exact gD2
        · rcases List.mem_append.mp ha with ha | ha
          · exact ne a ha
          · rw [List.mem_singleton.mp ha]
            exact ⟨dD2, dDD⟩
        · rcases List.mem_append.mp hY with hY | hY
          · exact x8 Y hY
          · rw [List.mem_singleton.mp hY]
            refine ⟨by omega, rX.1, fun x hx => ?_⟩
            have := rX.2 x hx
            omega
    · rintro G0 ⟨bG0, dG0, fas, Xs, gD, li, fa, ne, x8⟩
      rw [Int.toNat_natCast] at li
      refine ⟨Nat.zero_le _, fun L hL => ?_⟩
      have s2 := Same.new (o := .lst []) hL
      have dL : L ≠ d := dG0.ne hL
      have bH := bG0.trans (Same.but s2)
      refine ⟨.int (n : Nat), rfl, (n : Nat), rfl, by omega, by omega, ?_⟩
      refine for_range (lo := 0) (n := ((n : Int)).toNat) (fun i σ G => ∃ (y4 y7 y8 y9 : Option V) (pas : List Addr) (ps : List (Int × Int × Int)), σ = [some (.ref d), some (.int mo), some (.int fc), some (.int (n : Nat)), y4, some (.ref D), some (.ref L), y7, y8, y9] ∧
          But d G0 G ∧ Draws G d ∧ G L = some (.lst (pas.map V.ref)) ∧ PAt G pas ps ∧ (∀ a ∈ pas, a ≠ d ∧ a ≠ L) ∧ ps.length ≤ i * 16 ∧ ps.Pairwise (fun x y => lex3 x y = true) ∧ ∀ p ∈ ps, StUp n ((i : Int), 0, 0) p)
        ⟨_, _, _, _, [], [], rfl, Same.but s2, dG0.same s2, upd_same, PAt.nil _, fun a h => (by cases h), Nat.zero_le _, List.Pairwise.nil, fun p h => (by cases h)⟩ ?_ ?_
      · rintro i σ G hi ⟨y4, y7, y8, y9, pas, ps, rfl, bG, dG, gL, pAt, ne2, pl, pw, pg⟩
        rw [Int.toNat_natCast] at hi
        refine ⟨2, rfl, by omega, by omega, ?_⟩
        refine for_range (lo := 0) (n := 2) (fun j σ G => ∃ (y7 y8 y9 : Option V) (pas : List Addr) (ps : List (Int × Int × Int)), σ = [some (.ref d), some (.int mo), some (.int fc), some (.int (n : Nat)), some (.int (0 + (i : Int))), some (.ref D), some (.ref L), y7, y8, y9] ∧
            But d G0 G ∧ Draws G d ∧ G L = some (.lst (pas.map V.ref)) ∧ PAt G pas ps ∧ (∀ a ∈ pas, a ≠ d ∧ a ≠ L) ∧ ps.length ≤ i * 16 + j * 8 ∧ ps.Pairwise (fun x y => lex3 x y = true) ∧ ∀ p ∈ ps, StUp n ((i : Int), (j : Int), 0) p)
          ⟨_, _, _, pas, ps, rfl, bG, dG, gL, pAt, ne2, pl, pw, pg⟩ ?_ ?_
        · clear bG dG gL pAt ne2 pl pw pg
          rintro j σ G hj ⟨y7, y8, y9, pas, ps, rfl, bG, dG, gL, pAt, ne2, pl, pw, pg⟩
          refine ⟨.int (n : Nat), rfl, (n : Nat), rfl, by omega, by omega, ?_⟩
          refine for_range (lo := 0) (n := ((n : Int)).toNat) (fun o σ G => ∃ (y8 y9 : Option V) (pas : List Addr) (ps : List (Int × Int × Int)), σ = [some (.ref d), some (.int mo), some (.int fc), some (.int (n : Nat)), some (.int (0 + (i : Int))), some (.ref D), some (.ref L), some (.int (0 + (j : Int))), y8, y9] ∧
              But d G0 G ∧ Draws G d ∧ G L = some (.lst (pas.map V.ref)) ∧ PAt G pas ps ∧ (∀ a ∈ pas, a ≠ d ∧ a ≠ L) ∧ ps.length ≤ i * 16 + j * 8 + o ∧ ps.Pairwise (fun x y => lex3 x y = true) ∧ ∀ p ∈ ps, StUp n ((i : Int), (j : Int), (o : Int)) p)
            ⟨_, _, pas, ps, rfl, bG, dG, gL, pAt, ne2, pl, pw, pg⟩ ?_ ?_
          · clear bG dG gL pAt ne2 pl pw pg
            rintro o σ G ho ⟨y8, y9, pas, ps, rfl, bG, dG, gL, pAt, ne2, pl, pw, pg⟩
            rw [Int.toNat_natCast] at ho
            refine ⟨.ref d, rfl, .int (n : Nat), rfl, 2, _, rfl, rfl, d, _, rfl, dG, by omega, fun v3 H3 v30 v3m b3 d3 => ⟨_, _, rfl, rfl, _, rfl, ?_⟩⟩
            have gL3 := b3 _ _ dL gL
            refine ite2 (fun c => ?_) (fun c => ?_)
            · refine ⟨.ref L, rfl, .inl ⟨rfl, _, SqL.of gL3⟩, _, rfl, _, rfl, _, rfl, by show 3 ≤ sizeLine; decide, fun p hp => ?_⟩
              have s4 := Same.new (o := .tup [.int (0 + (i : Int)), .int (0 + (j : Int)), .int (0 + (o : Int))]) hp
              have gL4 := s4 _ _ gL3
              have pd : p ≠ d := d3.ne hp
              have pL : p ≠ L := fun e => by rw [e, gL3] at hp; cases hp
              refine ⟨L, _, _, rfl, rfl, gL4, by rw [List.length_map, pAt.1]; exact small1000 (by omega), ?_⟩
              refine ⟨_, _, pas ++ [p], ps ++ [(0 + (i : Int), 0 + (j : Int), 0 + (o : Int))], rfl, fun b u nb e => ?_, ?_, by rw [upd_same, List.map_append]; rfl, PAt.snoc (pAt.map fun a u ha e => ?_) ?_, fun a ha => ?_, by rw [List.length_append, List.length_singleton]; omega, ?_, fun q hq => ?_⟩
              · rw [upd_ne (ne_of_none e hL)]
                exact s4 _ _ (b3 _ _ nb (bG _ _ nb e))
              · obtain ⟨ds, e⟩ := d3.same s4
                exact ⟨ds, by rw [upd_ne dL.symm]; exact e⟩
              · rw [upd_ne (ne2 a ha).2]
                exact s4 _ _ (b3 _ _ (ne2 a ha).1 e)
              · rw [upd_ne pL]
                exact upd_same
              · rcases List.mem_append.mp ha with ha | ha
                · exact ne2 a ha
                · rw [List.mem_singleton.mp ha]
                  exact ⟨pd, pL⟩
              · refine List.pairwise_append.mpr ⟨pw, List.pairwise_singleton _ _, fun a ha b hb => ?_⟩
                rw [List.mem_singleton.mp hb, Int.zero_add, Int.zero_add, Int.zero_add]
                exact (pg a ha).2.2.2.2.2.2
              · rcases List.mem_append.mp hq with hq | hq
                · exact (pg q hq).up fun z => by unfold Lt3 at *; simp only at *; omega
                · rw [List.mem_singleton.mp hq, Int.zero_add, Int.zero_add, Int.zero_add]
                  refine ⟨by simp only; omega, by simp only; omega, by simp only; omega, by simp only; omega, by simp only; omega, by simp only; omega, lex3_iff.mpr ?_⟩
                  exact .inr ⟨rfl, .inr ⟨rfl, by show (o : Int) < ((o + 1 : Nat) : Int); omega⟩⟩
            · exact ⟨_, _, pas, ps, rfl, bG.trans b3, d3, gL3, pAt.map fun a u ha e => b3 _ _ (ne2 a ha).1 e, ne2, by omega, pw, fun q hq => (pg q hq).up fun z => by unfold Lt3 at *; simp only at *; omega⟩
          · rintro σ G ⟨y8, y9, pas, ps, rfl, bG, dG, gL, pAt, ne2, pl, pw, pg⟩
            rw [Int.toNat_natCast] at pl pg
            exact ⟨_, _, _, pas, ps, rfl, bG, dG, gL, pAt, ne2, by omega, pw, fun q hq => (pg q hq).up fun z => by unfold Lt3 at *; simp only at *; omega⟩
        · rintro σ G ⟨y7, y8, y9, pas, ps, rfl, bG, dG, gL, pAt, ne2, pl, pw, pg⟩
          exact ⟨_, _, _, _, pas, ps, rfl, bG, dG, gL, pAt, ne2, by omega, pw, fun q hq => (pg q hq).up fun z => by have := (pg q hq).2.2.2.1; unfold Lt3 at *; simp only at *; omega⟩
      · rintro σ G ⟨y4, y7, y8, y9, pas, ps, rfl, bG, dG, gL, pAt, ne2, pl, pw, pg⟩
        rw [Int.toNat_natCast] at pl pg
        refine ⟨_, rfl, _, rfl, by show 2 ≤ sizeLine; decide, fun p hp => ?_⟩
        have s5 := Same.new (o := .tup [.ref D, .ref L]) hp
        have eL : Xs.length = n := by rw [← fa.1]; exact li
        refine k p D L fas pas ⟨Xs, ps⟩ _ (b1.trans ((bG0.trans bG).trans (Same.but s5))) (dG.same s5) ⟨upd_same, s5 _ _ (bG _ _ dD gD), s5 _ _ gL, fa.map fun a u ha e => s5 _ _ (bG _ _ (ne a ha).1 e), pAt.map fun a u _ e => s5 _ _ e⟩ dD dL (fun a ha => (ne a ha).1) ⟨?_, ?_, ?_, ?_, fun X hX => (x8 X hX).1⟩ ⟨fun X hX => (x8 X hX).2, pw, fun q hq => ?_⟩ (by show ((Xs.length : Nat) : Int) ≤ mo; omega)
        · intro q hq
          show 0 ≤ q.2.2 ∧ q.2.2 < ((Xs.length : Nat) : Int)
          rw [eL]
          have := pg q hq
          exact ⟨this.2.2.2.2.1, this.2.2.2.2.2.1⟩
        · show 1 ≤ Xs.length
          omega
        · show Xs.length ≤ 8
          omega
        · show ps.length ≤ 200
          omega
        · show StUp Xs.length (((Xs.length : Nat) : Int), 0, 0) q
          rw [eL]
          exact pg q hq
/-! ### where the steps lead -/
/-- lists or tuples -/
abbrev Sq (K : PySem.W.Frag) (H : Hp) (a : Addr) (xs : List V) : Prop := SqL K H a xs ∨ SqT K H a xs
theorem Sq.same {K : PySem.W.Frag} {H H' : Hp} {a : Addr} {xs : List V} (z : Same H H') (h : Sq K H a xs) : Sq K H' a xs := h.imp (SqL.keepAt fun o e => z a o e) (SqT.same z)
structure WSx (K : PySem.W.Frag) (H : Hp) (wa sa pa : Addr) (fas pas : List Addr) (W : Wd) : Prop where
  w : H wa = some (.tup [.ref sa, .ref pa])
  s : Sq K H sa (fas.map V.ref)
  p : Sq K H pa (pas.map V.ref)
  f : fas.length = W.facts.length ∧ ∀ (i : Nat) (a : Addr) (X : List Int), fas[i]? = some a → W.facts[i]? = some X → Sq K H a (X.map V.int)
  t : PAt H pas W.steps
def WSt (K : PySem.W.Frag) (H : Hp) (v : V) (W : Wd) : Prop := ∃ (wa sa pa : Addr) (fas pas : List Addr), v = .ref wa ∧ WSx K H wa sa pa fas pas W
theorem WSx.same {K : PySem.W.Frag} {H H' : Hp} {wa sa pa : Addr} {fas pas : List Addr} {W : Wd} (z : Same H H') (h : WSx K H wa sa pa fas pas W) : WSx K H' wa sa pa fas pas W :=
  ⟨z _ _ h.w, h.s.same z, h.p.same z, ⟨h.f.1, fun i a X e1 e2 => (h.f.2 i a X e1 e2).same z⟩, ⟨h.t.1, fun i a X e1 e2 => z _ _ (h.t.2 i a X e1 e2)⟩⟩
theorem WSt.same {K : PySem.W.Frag} {H H' : Hp} {v : V} {W : Wd} (z : Same H H') (h : WSt K H v W) : WSt K H' v W := by
  obtain ⟨wa, sa, pa, fas, pas, e, x⟩ := h
  exact ⟨wa, sa, pa, fas, pas, e, x.same z⟩
theorem WAx.gen {K : PySem.W.Frag} {H : Hp} {wa sa pa : Addr} {fas pas : List Addr} {W : Wd} (h : WAx H wa sa pa fas pas W) : WSx K H wa sa pa fas pas W :=
  ⟨h.w, .inl (SqL.of h.s), .inl (SqL.of h.p), ⟨h.f.1, fun i a X e1 e2 => .inl (SqL.of (h.f.2 i a X e1 e2))⟩, h.t⟩
/-- the size of a world that is walked -/
structure Wd.Fix (W : Wd) : Prop where
  n16 : W.n ≤ 16
  st : W.steps.length ≤ 400
theorem pe_alt {X : Cx} {e : Expr} {t1 t2 : TE} (h1 : PE X e t1) (h2 : PE X e t2) : PE X e (fun σ H Q => t1 σ H Q ∨ t2 σ H Q) :=
  ⟨fun pins s σ H Q I h => h.elim (h1.run pins s σ H Q I) (h2.run pins s σ H Q I)⟩
def spBehind (K : PySem.W.Frag) : Sp := fun vs H Q _ => ∃ (v : V) (W : Wd) (s l : Int), vs = [v, .int s, .int l] ∧ WSt K H v W ∧ W.steps.length ≤ 400 ∧
  ∀ (b : Addr) H', Same H H' → H b = none → IL H' b (W.beh s l) → Q (.ref b) H'
theorem beh_snoc (ps : List (Int × Int × Int)) (p : Int × Int × Int) (s l : Int) :
    ((ps ++ [p]).filter fun p => decide (p.1 = s) && decide (p.2.1 = l)).map (fun p => p.2.2) = (ps.filter fun p => decide (p.1 = s) && decide (p.2.1 = l)).map (fun p => p.2.2) ++ (if (decide (p.1 = s) && decide (p.2.1 = l)) = true then [p.2.2] else []) := by
  rw [List.filter_append, List.map_append]
  congr 1
  cases c : decide (p.1 = s) && decide (p.2.1 = l)
  · simp [c]
  · simp [c]
theorem ok_law_behind {f : Addr} {fd : FuncData} (FF : Fun K "_law_behind" "_law_behind" s_law_behind f fd) (T : Txt K mg C J B) : FnOk P w K mg base CX0 1 f fd a_law_behind (spBehind K) := by
  refine FF.ok sc_law_behind (fun vs H Q E h => ?_) (fun cdv A outer s H vs Q E hr h => ?_)
  · obtain ⟨v, W, s, l, rfl, _⟩ := h
    rfl
  · obtain ⟨v, W, x, l, rfl, hW, hs, k⟩ := h
    refine ⟨_, (pss_one (ps_ret (pe_alt (pe_lc (own := [("step", 3)]) (g := gName 3) rfl sc_law_behind.nd (pi_list (pe_ix ix_tup (pv 0) pe_int (fun _ _ => rfl))) (blkOk_by (own := [("step", 3)]) (N := n_law_behind) (sc := defScope s_law_behind) (by decide +kernel)) (fun _ _ _ _ _ => (pg_name (i := 3) sc_law_behind.nd rfl (.inl rfl))) (fun _ _ _ _ _ => (pts_one (PW.pt (pw_and (pt_cmpR op_eq (pe_ix (@id (IxR _ (rIxT K)) ix_tup) (pv 3) pe_int (fun _ _ => rfl)) (pv 1) (nomark _)) (pw_and1 (pt_cmpR op_eq (pe_ix (@id (IxR _ (rIxT K)) ix_tup) (pv 3) pe_int (fun _ _ => rfl)) (pv 2) (nomark _))))))) (fun _ _ _ _ _ => (pe_ix (@id (IxR _ (rIxT K)) ix_tup) (pv 3) pe_int (fun _ _ => rfl)))) (pe_lc (own := [("step", 3)]) (g := gName 3) rfl sc_law_behind.nd (pi_tup (pe_ix ix_tup (pv 0) pe_int (fun _ _ => rfl))) (blkOk_by (own := [("step", 3)]) (N := n_law_behind) (sc := defScope s_law_behind) (by decide +kernel)) (fun _ _ _ _ _ => (pg_name (i := 3) sc_law_behind.nd rfl (.inl rfl))) (fun _ _ _ _ _ => (pts_one (PW.pt (pw_and (pt_cmpR op_eq (pe_ix (@id (IxR _ (rIxT K)) ix_tup) (pv 3) pe_int (fun _ _ => rfl)) (pv 1) (nomark _)) (pw_and1 (pt_cmpR op_eq (pe_ix (@id (IxR _ (rIxT K)) ix_tup) (pv 3) pe_int (fun _ _ => rfl)) (pv 2) (nomark _))))))) (fun _ _ _ _ _ => (pe_ix (@id (IxR _ (rIxT K)) ix_tup) (pv 3) pe_int (fun _ _ => rfl))))))), ?_⟩
    obtain ⟨wa, sa, pa, fas, pas, rfl, X⟩ := hW
    rcases X.p with hp | hp
    · refine .inl ⟨.ref wa, rfl, wa, _, _, .ref pa, rfl, rfl, SqT.of X.w, rfl, pa, rfl, ⟨_, hp⟩, fun D hD => ?_⟩
      refine lc_list (xs := pas.map V.ref) (fun i G => Same H G ∧ IL G D (((W.steps.take i).filter fun p => decide (p.1 = x) && decide (p.2.1 = l)).map fun p => p.2.2)) ⟨Same.new hD, upd_same⟩ (fun i G _ q => SqL.keepAt (fun o e => q.1 _ o e) hp) ?_ ?_
      · rintro i y G hy ⟨sG, gD⟩
        have XG := X.same sG
        obtain ⟨a, ha, rfl⟩ : ∃ a, pas[i]? = some a ∧ V.ref a = y := by
          rw [List.getElem?_map] at hy
          cases e : pas[i]? with
          | none => rw [e] at hy; cases hy
          | some a => rw [e] at hy; exact ⟨a, rfl, Option.some.inj hy⟩
        have il : i < W.steps.length := by rw [← X.t.1]; exact get_len ha
        obtain ⟨p, hp⟩ : ∃ p, W.steps[i]? = some p := ⟨W.steps[i], by simp [il]⟩
        have at_ := XG.t.2 i a p ha hp
        have nx : (W.steps.take (i + 1)) = W.steps.take i ++ [p] := by rw [List.take_add_one, hp]; rfl
        have sz : (((W.steps.take i).filter fun p => decide (p.1 = x) && decide (p.2.1 = l)).map fun p => p.2.2).length ≤ 400 := by
          rw [List.length_map]
          refine Nat.le_trans (List.length_filter_le _ _) ?_
          rw [List.length_take]
          omega
        rw [nx, beh_snoc]
        refine ⟨rfl, ?_⟩
        refine ⟨.ref a, rfl, a, _, _, _, rfl, rfl, SqT.of at_, rfl, .int x, rfl, rfl, _, rfl, ?_⟩
        by_cases c1 : p.1 = x
        · refine (if_pos (decide_eq_true (congrArg V.int c1))).mpr ?_
          refine ⟨.ref a, rfl, a, _, _, _, rfl, rfl, SqT.of at_, rfl, .int l, rfl, rfl, _, rfl, ?_⟩
          by_cases c2 : p.2.1 = l
          · refine (if_pos (decide_eq_true (congrArg V.int c2))).mpr ?_
            refine ⟨.ref a, rfl, a, _, _, _, rfl, rfl, SqT.of at_, rfl, _, gD, by rw [List.length_map]; exact small1000 (by omega), fun b o e => by rw [upd_ne (ne_of_none e hD)]; exact sG b o e, ?_⟩
            show _ = _
            rw [upd_same, decide_eq_true c1, decide_eq_true c2, List.map_append]
            rfl
          · refine (if_neg (by rw [decide_eq_false (fun e : V.int p.2.1 = V.int l => c2 (by injection e))]; exact Bool.false_ne_true)).mpr ?_
            refine ⟨sG, ?_⟩
            rw [decide_eq_false c2, Bool.and_false, if_neg Bool.false_ne_true, List.append_nil]
            exact gD
        · refine (if_neg (by rw [decide_eq_false (fun e : V.int p.1 = V.int x => c1 (by injection e))]; exact Bool.false_ne_true)).mpr ?_
          refine ⟨sG, ?_⟩
          rw [decide_eq_false c1, Bool.false_and, if_neg Bool.false_ne_true, List.append_nil]
          exact gD
      · rintro G ⟨sG, gD⟩
        rw [List.length_map, X.t.1, List.take_length] at gD
        exact k D G sG hD gD
    · refine .inr ⟨.ref wa, rfl, wa, _, _, .ref pa, rfl, rfl, SqT.of X.w, rfl, pa, rfl, ⟨_, hp⟩, fun D hD => ?_⟩
      refine lc_tup (xs := pas.map V.ref) (fun i G => Same H G ∧ IL G D (((W.steps.take i).filter fun p => decide (p.1 = x) && decide (p.2.1 = l)).map fun p => p.2.2)) ⟨Same.new hD, upd_same⟩ (fun i G _ q => SqT.same q.1 hp) ?_ ?_
      · rintro i y G hy ⟨sG, gD⟩
        have XG := X.same sG
        obtain ⟨a, ha, rfl⟩ : ∃ a, pas[i]? = some a ∧ V.ref a = y := by
          rw [List.getElem?_map] at hy
          cases e : pas[i]? with
          | none => rw [e] at hy; cases hy
          | some a => rw [e] at hy; exact ⟨a, rfl, Option.some.inj hy⟩
        have il : i < W.steps.length := by rw [← X.t.1]; exact get_len ha
        obtain ⟨p, hp⟩ : ∃ p, W.steps[i]? = some p := ⟨W.steps[i], by simp [il]⟩
        have at_ := XG.t.2 i a p ha hp
        have nx : (W.steps.take (i + 1)) = W.steps.take i ++ [p] := by rw [List.take_add_one, hp]; rfl
        have sz : (((W.steps.take i).filter fun p => decide (p.1 = x) && decide (p.2.1 = l)).map fun p => p.2.2).length ≤ 400 := by
          rw [List.length_map]
          refine Nat.le_trans (List.length_filter_le _ _) ?_
          rw [List.length_take]
          omega
        rw [nx, beh_snoc]
        refine ⟨rfl, ?_⟩
        refine ⟨.ref a, rfl, a, _, _, _, rfl, rfl, SqT.of at_, rfl, .int x, rfl, rfl, _, rfl, ?_⟩
        by_cases c1 : p.1 = x
        · refine (if_pos (decide_eq_true (congrArg V.int c1))).mpr ?_
          refine ⟨.ref a, rfl, a, _, _, _, rfl, rfl, SqT.of at_, rfl, .int l, rfl, rfl, _, rfl, ?_⟩
          by_cases c2 : p.2.1 = l
          · refine (if_pos (decide_eq_true (congrArg V.int c2))).mpr ?_
            refine ⟨.ref a, rfl, a, _, _, _, rfl, rfl, SqT.of at_, rfl, _, gD, by rw [List.length_map]; exact small1000 (by omega), fun b o e => by rw [upd_ne (ne_of_none e hD)]; exact sG b o e, ?_⟩
            show _ = _
            rw [upd_same, decide_eq_true c1, decide_eq_true c2, List.map_append]
            rfl
          · refine (if_neg (by rw [decide_eq_false (fun e : V.int p.2.1 = V.int l => c2 (by injection e))]; exact Bool.false_ne_true)).mpr ?_
            refine ⟨sG, ?_⟩
            rw [decide_eq_false c2, Bool.and_false, if_neg Bool.false_ne_true, List.append_nil]
            exact gD
        · refine (if_neg (by rw [decide_eq_false (fun e : V.int p.1 = V.int x => c1 (by injection e))]; exact Bool.false_ne_true)).mpr ?_
          refine ⟨sG, ?_⟩
          rw [decide_eq_false c1, Bool.false_and, if_neg Bool.false_ne_true, List.append_nil]
          exact gD
      · rintro G ⟨sG, gD⟩
        rw [List.length_map, X.t.1, List.take_length] at gD
        exact k D G sG hD gD
end
end Fw

set_option maxRecDepth 100000
set_option maxHeartbeats 8000000
namespace Fw
open PySem PySem.Spec PyProof.Rows L2
abbrev rLenS (K : PySem.W.Frag) : List V → Hp → VK → Prop := fun xs H Q => ∃ p ys, xs = [.ref p] ∧ (SqL K H p ys ∨ SqT K H p ys) ∧ Q (.int ys.length) H
theorem nd_putW {kvs : List (Key × V)} {k : Key} {v : V} (h : (kvs.map (·.1)).Nodup) : ((putK kvs k v).map (·.1)).Nodup := by
  cases e : valV kvs k with
  | none => exact nd_putK v h e
  | some u =>
    have : (putK kvs k v).map (·.1) = kvs.map (·.1) := by
      unfold putK
      rw [valV_any, e]
      simp only [Option.isSome_some, if_true, List.map_map]
      refine List.map_congr_left fun x _ => ?_
      simp only [Function.comp]
      split <;> rfl
    rw [this]
    exact h
theorem valV_atW : ∀ {kvs : List (Key × V)} {i : Nat} {k : Key} {v : V}, (kvs.map (·.1)).Nodup → kvs[i]? = some (k, v) → valV kvs k = some v ∧ valV (kvs.take i) k = none
  | [], i, k, v, _, h => by simp at h
  | p :: r, 0, k, v, _, h => by
    cases h
    exact ⟨valV_pos rfl, rfl⟩
  | p :: r, i + 1, k, v, nd, h => by
    have nd' := List.nodup_cons.mp (show (p.1 :: r.map (·.1)).Nodup from nd)
    have ih := valV_atW nd'.2 (show r[i]? = some (k, v) from h)
    have ne : ¬ p.1 = k := fun e => nd'.1 (by rw [e]; exact List.mem_map.mpr ⟨(k, v), List.mem_of_getElem? (show r[i]? = some (k, v) from h), rfl⟩)
    exact ⟨by rw [valV_neg ne]; exact ih.1, by rw [List.take_succ_cons, valV_neg ne]; exact ih.2⟩
theorem rgV_rng (n : Nat) : rgV 0 (n : Int) = (rng n).map V.int := by
  unfold rgV rng
  rw [Int.sub_zero, Int.toNat_natCast, List.map_map]
  refine List.map_congr_left fun i _ => ?_
  show V.int (0 + (i : Int)) = V.int (i : Int)
  rw [Int.zero_add]
theorem kF {a b : Str} {A B : Prop} (n : a ≠ b) (h : B) : if decide (V.str a = V.str b) = true then A else B :=
  (if_neg (by rw [decide_eq_false (fun e : V.str a = V.str b => n (by injection e))]; exact Bool.false_ne_true)).mpr h
theorem kT {a : Str} {A B : Prop} (h : A) : if decide (V.str a = V.str a) = true then A else B := (if_pos (decide_eq_true rfl)).mpr h
/-- a list of those items of a list of numbers that a test takes -/
theorem lc_fil {K : PySem.W.Frag} {la : Addr} {X : List Int} {g : TG} {tt : TT} {te : TE} {vs : List Nat} {σ : L2.St} {H0 : Hp} {D : Addr} {Qd : Hp → Prop} (p : Int → Bool)
    (hl : IL H0 la X) (hD : H0 D = none) (hX : X.length ≤ 400)
    (hs : ∀ x ∈ X, ∀ (G : Hp) (Y : VK) (N : Hp → Prop), Same H0 G → (p x = true → ∀ G', Same G G' → Y (.int x) G') → (p x = false → ∀ G', Same G G' → N G') →
      g (.int x) (wipe σ vs) G fun σ2 H2 => wipe σ2 vs = wipe σ vs ∧ tt σ2 H2 fun b H3 => if b = true then te σ2 H3 Y else N H3)
    (hd : ∀ G, Same H0 G → IL G D (X.filter p) → Qd G) :
    ∃ Wm : Nat → Nat → Hp → Prop, (∃ k, Wm 0 k (upd H0 D (.lst []))) ∧ ∀ i k G, Wm i k G →
      ((Itl K la).stop i G ∧ Qd G) ∨
      ((Itl K la).go i G ∧ ∃ Nn : Hp → Prop, (∀ G', Nn G' → ∃ k', k' < k ∧ Wm (i + 1) k' G') ∧ ∀ x G', (Itl K la).yld i G x G' →
        g x (wipe σ vs) G' fun σ2 G2 => wipe σ2 vs = wipe σ vs ∧ tt σ2 G2 fun b G3 =>
          if b = true then te σ2 G3 fun y G4 => ∃ ys, G4 D = some (.lst ys) ∧ ys.length < sizeLine ∧ Nn (upd G4 D (.lst (ys ++ [y])))
          else Nn G3) := by
  refine lc_list (xs := X.map V.int) (fun i G => Same H0 G ∧ IL G D ((X.take i).filter p)) ⟨Same.new hD, upd_same⟩ (fun i G _ q => SqL.of (q.1 _ _ hl)) ?_ ?_
  · rintro i y G hy ⟨sG, gD⟩
    obtain ⟨x, hx, rfl⟩ : ∃ x, X[i]? = some x ∧ V.int x = y := by
      rw [List.getElem?_map] at hy
      cases e : X[i]? with
      | none => rw [e] at hy; cases hy
      | some x => rw [e] at hy; exact ⟨x, rfl, Option.some.inj hy⟩
    have nx : X.take (i + 1) = X.take i ++ [x] := by rw [List.take_add_one, hx]; rfl
    have sz : ((X.take i).filter p).length ≤ 400 := by
      refine Nat.le_trans (List.length_filter_le _ _) ?_
      rw [List.length_take]
      omega
    refine hs x (List.mem_of_getElem? hx) G _ _ sG (fun c G' s' => ⟨_, s' _ _ gD, by rw [List.length_map]; exact small1000 (by omega), fun b o e => by rw [upd_ne (ne_of_none e hD)]; exact s' _ _ (sG b o e), ?_⟩) (fun c G' s' => ⟨sG.trans s', ?_⟩)
    · show _ = _
      rw [upd_same, nx, List.filter_append, List.map_append, List.filter_cons_of_pos c]
      rfl
    · rw [nx, List.filter_append, List.filter_cons_of_neg (by rw [c]; exact Bool.false_ne_true)]
      rw [show List.filter p [] = [] from rfl, List.append_nil]
      exact s' _ _ gD
  · rintro G ⟨sG, gD⟩
    rw [List.length_map, List.take_length] at gD
    exact hd G sG gD
theorem ix_sq {K : PySem.W.Frag} {H : Hp} {a : Addr} {xs : List V} {j : Int} {v : V} {Q : VK} (h : Sq K H a xs) (e : atI xs j = some v) (q : Q v H) : rIx K (.ref a) (.int j) H Q :=
  h.elim (fun h => .inl ⟨a, xs, j, v, rfl, rfl, h, e, q⟩) (fun h => .inr (.inl ⟨a, xs, j, v, rfl, rfl, h, e, q⟩))
def spVal (K : PySem.W.Frag) : Nat → Sp
  | 0 => fun _ _ _ _ => False
  | n + 1 => fun vs H Q _ => ∃ (v sv : V) (W : Wd) (t : F) (na : Addr) (kvs : List (Key × V)) (e : Int → List Int), vs = [v, sv, .ref na] ∧ WSt K H v W ∧ W.Fix ∧ IsF K H sv t ∧ t.depth ≤ n + 1 ∧ H na = some (.dK kvs) ∧ kvs.length + n ≤ 100 ∧ (kvs.map (·.1)).Nodup ∧
      (∀ x ∈ fv t, ∃ a, valV kvs (Sum.inl x) = some (.ref a) ∧ IL H a (e x)) ∧
      ∀ (a : Addr) H', Same H H' → IL H' a (val W t e) → Q (.ref a) H'
section
variable {P : Program} {w : World} {K : PySem.W.Frag} {mg : Str → Option Value} {base : Heap} {C J B NC FE OD : Addr}
theorem ok_law_value {f : Addr} {fd : FuncData} (n : Nat) (FF : Fun K "_law_value" "_law_value" s_law_value f fd) (T : Txt K mg C J B) (h_law_behind : Has P w K mg base "_law_behind" 1 a_law_behind (spBehind K))
    (h_law_value : Has P w K mg base "_law_value" (n + 2) a_law_value (spVal K n)) : FnOk P w K mg base CX0 (n + 3) f fd a_law_value (spVal K (n + 1)) := by
  refine FF.ok sc_law_value (fun vs H Q E h => ?_) (fun cdv A outer s H vs Q E hr h => ?_)
  · obtain ⟨v, sv, W, t, na, kvs, e, rfl, _⟩ := h
    rfl
  · obtain ⟨v, sv, W, t, na, kvs, e, rfl, hW, fit, ht, hdep, hN, hkl, hnd, henv, k⟩ := h
    have hu := hu_of hr
    refine ⟨_, (pss_cons (ps_set (i := 3) sc_law_value.nd rfl (.inl rfl) (pe_listRg rfl rfl T.z_list (prg_1 rfl T.z_range (pe_callB call_len_seq rfl T.z_len (by decide +kernel) (pa_cons (pe_ix ix_tup (pv 0) pe_int (fun _ _ => rfl)) pa_nil)))))
      (pss_cons (ps_set (i := 4) sc_law_value.nd rfl (.inl rfl) (pe_ix ix_tup (pv 1) pe_int (fun _ _ => rfl)))
      (pss_cons (ps_if (pt_cmpR op_eq (pv 4) pe_str (nomark _)) (pss_one (ps_ret (pv 3))) pss_nil)
      (pss_cons (ps_if (pt_cmpR op_eq (pv 4) pe_str (nomark _)) (pss_one (ps_ret (pe_lst pa_nil))) pss_nil)
      (pss_cons (ps_if (pt_cmpR op_eq (pv 4) pe_str (nomark _)) (pss_one (ps_ret (pe_lc (own := [("state", 11)]) (g := gName 11) rfl sc_law_value.nd (pi_list (pv 3)) (blkOk_by (own := [("state", 11)]) (N := n_law_value) (sc := defScope s_law_value) (by decide +kernel)) (fun _ _ _ _ _ => (pg_name (i := 11) sc_law_value.nd rfl (.inl rfl))) (fun _ _ _ _ _ => (pts_one (pt_cmpR (@id (OpR _ _ (rIn K false)) op_in_seq) (pe_ix (@id (IxR _ (rIxT K)) ix_tup) (pv 1) pe_int (fun _ _ => rfl)) (pe_ix (@id (IxR _ (rIx K)) ix_seq) (pe_ix (@id (IxR _ (rIxT K)) ix_tup) (pv 0) pe_int (fun _ _ => rfl)) (pv 11) (fun _ _ => rfl)) (by rfl)))) (fun _ _ _ _ _ => (pv 11))))) pss_nil)
      (pss_cons (ps_if (pt_cmpR op_eq (pv 4) pe_str (nomark _)) (pss_one (ps_ret (pe_lc (own := [("state", 11)]) (g := gName 11) rfl sc_law_value.nd (pi_list (pv 3)) (blkOk_by (own := [("state", 11)]) (N := n_law_value) (sc := defScope s_law_value) (by decide +kernel)) (fun _ _ _ _ _ => (pg_name (i := 11) sc_law_value.nd rfl (.inl rfl))) (fun _ _ _ _ _ => (pts_one (pt_cmpR (@id (OpR _ _ (rIn K true)) op_notIn_seq) (pe_ix (@id (IxR _ (rIxT K)) ix_tup) (pv 1) pe_int (fun _ _ => rfl)) (pe_ix (@id (IxR _ (rIx K)) ix_seq) (pe_ix (@id (IxR _ (rIxT K)) ix_tup) (pv 0) pe_int (fun _ _ => rfl)) (pv 11) (fun _ _ => rfl)) (by rfl)))) (fun _ _ _ _ _ => (pv 11))))) pss_nil)
      (pss_cons (ps_if (pt_cmpR op_eq (pv 4) pe_str (nomark _)) (pss_one (ps_ret (pe_dget hu (pv 2) (pe_ix ix_tup (pv 1) pe_int (fun _ _ => rfl)) (fun _ _ => rfl)))) pss_nil)
      (pss_cons (ps_if (pt_cmpR op_in_seq (pv 4) (pe_tup (pa_cons pe_str (pa_cons pe_str pa_nil))) (by rfl)) (pss_cons (ps_set (i := 5) sc_law_value.nd rfl (.inl rfl) (pe_lst pa_nil))
      (pss_cons (ps_if (pt_cmpR op_eq (pv 4) pe_str (nomark _)) (pss_one (ps_set (i := 5) sc_law_value.nd rfl (.inl rfl) (pe_callTy call_list_of rfl T.z_list (by decide +kernel) (pa_cons (pv 3) pa_nil)))) pss_nil)
      (pss_cons (ps_for PassesOwn.never rfl (pi_range1 rfl T.z_range (pa_cons (pe_op op_add (pe_callB call_len_seq rfl T.z_len (by decide +kernel) (pa_cons (pe_ix ix_tup (pv 0) pe_int (fun _ _ => rfl)) pa_nil)) pe_int) pa_nil)) (pg_name (i := 6) sc_law_value.nd rfl (.inl rfl)) (pss_cons (ps_set (i := 7) sc_law_value.nd rfl (.inl rfl) pe_dnewK)
      (pss_cons (ps_lock (ps_for PassesOwn.never rfl (pi_keys (pv 2)) (pg_name (i := 8) sc_law_value.nd rfl (.inl rfl)) (pss_one (ps_dput hu (pv 7) (pv 8) (pe_dget hu (pv 2) (pv 8) (fun _ _ => rfl)) rfl))))
      (pss_cons (ps_dput hu (pv 7) (pe_ix ix_tup (pv 1) pe_int (fun _ _ => rfl)) (pv 5) rfl)
      (pss_one (ps_set (i := 5) sc_law_value.nd rfl (.inl rfl) (pe_callH h_law_value (hr.mono (by omega)) (pa_cons (pv 0) (pa_cons (pe_ix ix_tup (pv 1) pe_int (fun _ _ => rfl)) (pa_cons (pv 7) pa_nil))))))))))
      (pss_one (ps_ret (pv 5)))))) pss_nil)
      (pss_cons (ps_set (i := 9) sc_law_value.nd rfl (.inr rfl) (pe_callH h_law_value (hr.mono (by omega)) (pa_cons (pv 0) (pa_cons (pe_ix ix_tup (pv 1) (pe_op op_sub (pe_callB call_len_seq rfl T.z_len (by decide +kernel) (pa_cons (pv 1) pa_nil)) pe_int) (fun _ _ => rfl)) (pa_cons (pv 2) pa_nil)))))
      (pss_cons (ps_if (pt_cmpR op_eq (pv 4) pe_str (nomark _)) (pss_one (ps_ret (pe_lc (own := [("state", 11)]) (g := gName 11) rfl sc_law_value.nd (pi_list (pv 3)) (blkOk_by (own := [("state", 11)]) (N := n_law_value) (sc := defScope s_law_value) (by decide +kernel)) (fun _ _ _ _ _ => (pg_name (i := 11) sc_law_value.nd rfl (.inl rfl))) (fun _ _ _ _ _ => (pts_one (pt_cmpR op_gt (pe_callB (@id (CallR _ _ (rLenS K)) call_len_seq) rfl T.z_len (by decide +kernel) (pa_cons (pe_lc (own := [("k", 12)]) (g := gName 12) rfl sc_law_value.nd (@id (PI _ _ _ (iList K _)) (pi_list (pe_callH h_law_behind (hr.mono (by omega)) (pa_cons (pv 0) (pa_cons (pv 11) (pa_cons (pe_ix (@id (IxR _ (rIxT K)) ix_tup) (pv 1) pe_int (fun _ _ => rfl)) pa_nil)))))) (blkOk_by (own := [("k", 12)]) (N := n_law_value) (sc := { kind := PySem.ScopeKind.function, names := [ (PySem.Str.ofString ".0", PySem.NameKind.local), (PySem.Str.ofString "state", PySem.NameKind.local), (PySem.Str.ofString "len", PySem.NameKind.globalImplicit), (PySem.Str.ofString "_law_behind", PySem.NameKind.globalImplicit), (PySem.Str.ofString "first", PySem.NameKind.cell), (PySem.Str.ofString "statement", PySem.NameKind.cell), (PySem.Str.ofString "world", PySem.NameKind.cell)], isGenerator := false, isCoroutine := false, more := [] : PySem.Scope }) (by decide +kernel)) (fun _ _ _ _ _ => (pg_name (i := 12) sc_law_value.nd rfl (.inl rfl))) (fun _ _ _ _ _ => (pts_one (pt_cmpR (@id (OpR _ _ (rIn K false)) op_in_seq) (pv 12) (pv 9) (by rfl)))) (fun _ _ _ _ _ => (pv 12))) pa_nil)) pe_int (nomark _)))) (fun _ _ _ _ _ => (pv 11))))) pss_nil)
      (pss_cons (ps_if (pt_cmpR op_eq (pv 4) pe_str (nomark _)) (pss_one (ps_ret (pe_lc (own := [("state", 11)]) (g := gName 11) rfl sc_law_value.nd (pi_list (pv 3)) (blkOk_by (own := [("state", 11)]) (N := n_law_value) (sc := defScope s_law_value) (by decide +kernel)) (fun _ _ _ _ _ => (pg_name (i := 11) sc_law_value.nd rfl (.inl rfl))) (fun _ _ _ _ _ => (pts_one (pt_cmpR op_eq (pe_callB (@id (CallR _ _ (rLenS K)) call_len_seq) rfl T.z_len (by decide +kernel) (pa_cons (pe_lc (own := [("k", 12)]) (g := gName 12) rfl sc_law_value.nd (@id (PI _ _ _ (iList K _)) (pi_list (pe_callH h_law_behind (hr.mono (by omega)) (pa_cons (pv 0) (pa_cons (pv 11) (pa_cons (pe_ix (@id (IxR _ (rIxT K)) ix_tup) (pv 1) pe_int (fun _ _ => rfl)) pa_nil)))))) (blkOk_by (own := [("k", 12)]) (N := n_law_value) (sc := { kind := PySem.ScopeKind.function, names := [ (PySem.Str.ofString ".0", PySem.NameKind.local), (PySem.Str.ofString "state", PySem.NameKind.local), (PySem.Str.ofString "len", PySem.NameKind.globalImplicit), (PySem.Str.ofString "_law_behind", PySem.NameKind.globalImplicit), (PySem.Str.ofString "first", PySem.NameKind.cell), (PySem.Str.ofString "statement", PySem.NameKind.cell), (PySem.Str.ofString "world", PySem.NameKind.cell)], isGenerator := false, isCoroutine := false, more := [] : PySem.Scope }) (by decide +kernel)) (fun _ _ _ _ _ => (pg_name (i := 12) sc_law_value.nd rfl (.inl rfl))) (fun _ _ _ _ _ => (pts_one (pt_cmpR (@id (OpR _ _ (rIn K true)) op_notIn_seq) (pv 12) (pv 9) (by rfl)))) (fun _ _ _ _ _ => (pv 12))) pa_nil)) pe_int (nomark _)))) (fun _ _ _ _ _ => (pv 11))))) pss_nil)
      (pss_cons (ps_set (i := 10) sc_law_value.nd rfl (.inr rfl) (pe_callH h_law_value (hr.mono (by omega)) (pa_cons (pv 0) (pa_cons (pe_ix ix_tup (pv 1) pe_int (fun _ _ => rfl)) (pa_cons (pv 2) pa_nil)))))
      (pss_cons (ps_if (pt_cmpR op_eq (pv 4) pe_str (nomark _)) (pss_one (ps_ret (pe_lc (own := [("state", 11)]) (g := gName 11) rfl sc_law_value.nd (pi_list (pv 3)) (blkOk_by (own := [("state", 11)]) (N := n_law_value) (sc := defScope s_law_value) (by decide +kernel)) (fun _ _ _ _ _ => (pg_name (i := 11) sc_law_value.nd rfl (.inl rfl))) (fun _ _ _ _ _ => (pts_one (PW.pt (pw_and (pt_cmpR (@id (OpR _ _ (rIn K false)) op_in_seq) (pv 11) (pv 9) (by rfl)) (pw_and1 (pt_cmpR (@id (OpR _ _ (rIn K false)) op_in_seq) (pv 11) (pv 10) (by rfl))))))) (fun _ _ _ _ _ => (pv 11))))) pss_nil)
      (pss_one (ps_ret (pe_lc (own := [("state", 11)]) (g := gName 11) rfl sc_law_value.nd (pi_list (pv 3)) (blkOk_by (own := [("state", 11)]) (N := n_law_value) (sc := defScope s_law_value) (by decide +kernel)) (fun _ _ _ _ _ => (pg_name (i := 11) sc_law_value.nd rfl (.inl rfl))) (fun _ _ _ _ _ => (pts_one (PW.pt (pw_or (pt_cmpR (@id (OpR _ _ (rIn K false)) op_in_seq) (pv 11) (pv 9) (by rfl)) (pw_or1 (pt_cmpR (@id (OpR _ _ (rIn K false)) op_in_seq) (pv 11) (pv 10) (by rfl))))))) (fun _ _ _ _ _ => (pv 11)))))))))))))))))), ?_⟩
    obtain ⟨a, ks, rfl, sq, ak⟩ := ht.open
    have at0 : atI (hv t.hd ++ ks) 0 = some (.str (hw t.hd)) := atI_nat (j := 0) (by rw [List.getElem?_append_left (by rcases hv_len t.hd with e | e <;> omega)]; exact hv_head _)
    obtain ⟨wa, sa, pa, fas, pas, rfl, X⟩ := hW
    have nW : ((fas.map V.ref).length : Int) = (W.n : Int) := by rw [List.length_map, X.f.1]; rfl
    refine ⟨.ref wa, rfl, wa, _, _, .ref sa, rfl, rfl, SqT.of X.w, rfl, sa, _, rfl, X.s, _, rfl, ?_⟩
    rw [nW]
    refine ⟨.of_le (Int.le_refl 0) (by have := fit.n16; omega) (by omega) (by omega), fun la hla => ?_⟩
    rw [rgV_rng]
    have s1 := Same.new (o := .lst ((rng W.n).map V.int)) hla
    have gl1 : IL (upd H la (.lst ((rng W.n).map V.int))) la (rng W.n) := upd_same
    generalize upd H la (.lst ((rng W.n).map V.int)) = H1 at s1 gl1
    have X1 := X.same s1
    have sq1 := SqT.same s1 sq
    have ak1 := ak.lk (LKp.same s1)
    have hN1 := s1 _ _ hN
    have henv1 : ∀ x ∈ fv t, ∃ a, valV kvs (Sum.inl x) = some (.ref a) ∧ IL H1 a (e x) := fun x hx => by
      obtain ⟨b, b1, b2⟩ := henv x hx
      exact ⟨b, b1, s1 _ _ b2⟩
    have k1 : ∀ (a : Addr) H', Same H1 H' → IL H' a (val W t e) → Q (.ref a) H' := fun b H' s' g => k b H' (s1.trans s') g
    clear k henv hN sq X s1 hla ht ak
    refine ⟨.ref a, rfl, a, _, _, _, rfl, rfl, sq1, at0, ?_⟩
    cases t with
    | nul b =>
      cases b with
      | true =>
        refine ⟨.str "true", rfl, rfl, _, rfl, kT ?_⟩
        exact ⟨.ref la, rfl, k1 la _ (Same.refl _) gl1⟩
      | false =>
        refine ⟨.str "false", rfl, rfl, _, rfl, kF (by decide) ?_⟩
        refine ⟨.str "false", rfl, rfl, _, rfl, kT ?_⟩
        exact ⟨Nat.zero_le _, fun p hp => k1 p _ (Same.new hp) upd_same⟩
    | leaf kd x =>
      cases ak1
      have at1 : atI (hv (F.leaf kd x).hd ++ []) 1 = some (.int x) := atI_nat (j := 1) rfl
      cases kd with
      | has =>
        refine ⟨.str "has", rfl, rfl, _, rfl, kF (by decide) ?_⟩
        refine ⟨.str "has", rfl, rfl, _, rfl, kF (by decide) ?_⟩
        refine ⟨.str "has", rfl, rfl, _, rfl, kT ?_⟩
        refine ⟨.ref la, rfl, la, rfl, ⟨_, SqL.of gl1⟩, fun D hD => ?_⟩
        refine lc_fil (fun s => sIn (W.at s) x) gl1 hD (by rw [rng_len]; have := fit.n16; omega) (fun s hs G Y N sG hY hN' => ?_) (fun G sG g => k1 D G sG g)
        obtain ⟨j, hj, rfl⟩ : ∃ j : Nat, j < W.n ∧ s = (j : Int) := by
          have := rng_mem.mp hs
          exact ⟨s.toNat, by omega, by omega⟩
        obtain ⟨fa, hfa, hfx⟩ : ∃ fa, fas[j]? = some fa ∧ Sq K H1 fa ((W.at (j : Int)).map V.int) := by
          have jl : j < fas.length := by rw [X1.f.1]; exact hj
          refine ⟨fas[j], by simp [jl], ?_⟩
          refine X1.f.2 j _ _ (by simp [jl]) ?_
          unfold Wd.at
          rw [Int.toNat_natCast, List.getElem?_eq_getElem (by exact hj)]
          rfl
        refine ⟨rfl, .ref a, rfl, a, _, _, .int x, rfl, rfl, SqT.same sG sq1, at1, .ref wa, rfl, wa, _, _, .ref sa, rfl, rfl, SqT.of (sG _ _ X1.w), rfl, .int (j : Nat), rfl, ix_sq (X1.s.same sG) (atI_nat (j := j) (by rw [List.getElem?_map, hfa]; rfl)) ⟨fa, _, rfl, hfx.same sG, rfl, flat_ints _, _, rfl, ?_⟩⟩
        rw [if_neg Bool.false_ne_true, in_ints]
        cases c : sIn (W.at (j : Int)) x with
        | true =>
          refine (if_pos c).mpr ?_
          exact ⟨_, rfl, hY c _ (Same.refl _)⟩
        | false =>
          refine (if_neg (by rw [show decide (x ∈ W.at (j : Int)) = false from c]; exact Bool.false_ne_true)).mpr ?_
          exact hN' c _ (Same.refl _)
      | lacks =>
        refine ⟨.str "lacks", rfl, rfl, _, rfl, kF (by decide) ?_⟩
        refine ⟨.str "lacks", rfl, rfl, _, rfl, kF (by decide) ?_⟩
        refine ⟨.str "lacks", rfl, rfl, _, rfl, kF (by decide) ?_⟩
        refine ⟨.str "lacks", rfl, rfl, _, rfl, kT ?_⟩
        refine ⟨.ref la, rfl, la, rfl, ⟨_, SqL.of gl1⟩, fun D hD => ?_⟩
        refine lc_fil (fun s => !sIn (W.at s) x) gl1 hD (by rw [rng_len]; have := fit.n16; omega) (fun s hs G Y N sG hY hN' => ?_) (fun G sG g => k1 D G sG g)
        obtain ⟨j, hj, rfl⟩ : ∃ j : Nat, j < W.n ∧ s = (j : Int) := by
          have := rng_mem.mp hs
          exact ⟨s.toNat, by omega, by omega⟩
        obtain ⟨fa, hfa, hfx⟩ : ∃ fa, fas[j]? = some fa ∧ Sq K H1 fa ((W.at (j : Int)).map V.int) := by
          have jl : j < fas.length := by rw [X1.f.1]; exact hj
          refine ⟨fas[j], by simp [jl], ?_⟩
          refine X1.f.2 j _ _ (by simp [jl]) ?_
          unfold Wd.at
          rw [Int.toNat_natCast, List.getElem?_eq_getElem (by exact hj)]
          rfl
        refine ⟨rfl, .ref a, rfl, a, _, _, .int x, rfl, rfl, SqT.same sG sq1, at1, .ref wa, rfl, wa, _, _, .ref sa, rfl, rfl, SqT.of (sG _ _ X1.w), rfl, .int (j : Nat), rfl, ix_sq (X1.s.same sG) (atI_nat (j := j) (by rw [List.getElem?_map, hfa]; rfl)) ⟨fa, _, rfl, hfx.same sG, rfl, flat_ints _, _, rfl, ?_⟩⟩
        rw [if_pos rfl, in_ints]
        show if (!sIn (W.at (j : Int)) x) = true then _ else _
        cases c : !sIn (W.at (j : Int)) x with
        | true => exact iteT ⟨_, rfl, hY c _ (Same.refl _)⟩
        | false => exact iteF (hN' c _ (Same.refl _))
      | var =>
        refine ⟨.str "var", rfl, rfl, _, rfl, kF (by decide) ?_⟩
        refine ⟨.str "var", rfl, rfl, _, rfl, kF (by decide) ?_⟩
        refine ⟨.str "var", rfl, rfl, _, rfl, kF (by decide) ?_⟩
        refine ⟨.str "var", rfl, rfl, _, rfl, kF (by decide) ?_⟩
        refine ⟨.str "var", rfl, rfl, _, rfl, kT ?_⟩
        obtain ⟨b, hb, hx⟩ := henv1 x (List.mem_singleton.mpr rfl)
        have hget := DGet.k (k := Sum.inl x) hN1
        rw [hb] at hget
        exact ⟨.ref na, rfl, .ref a, rfl, a, _, 1, .int x, rfl, rfl, sq1, at1, na, _, rfl, hget, k1 b _ (Same.refl _) hx⟩
    | two b f g =>
      cases ak1 with
      | cons hf hn =>
      cases hn with
      | cons hg hn =>
      cases hn
      rename_i vf vg
      obtain ⟨m, rfl⟩ : ∃ m, n = m + 1 := by
        cases n with
        | zero => exact absurd hdep (by have : 0 < f.depth := (by cases f <;> simp [F.depth]); simp only [F.depth]; omega)
        | succ m => exact ⟨m, rfl⟩
      simp only [F.depth] at hdep
      cases b with
      | true =>
        refine ⟨.str "and", rfl, rfl, _, rfl, kF (by decide) ?_⟩
        refine ⟨.str "and", rfl, rfl, _, rfl, kF (by decide) ?_⟩
        refine ⟨.str "and", rfl, rfl, _, rfl, kF (by decide) ?_⟩
        refine ⟨.str "and", rfl, rfl, _, rfl, kF (by decide) ?_⟩
        refine ⟨.str "and", rfl, rfl, _, rfl, kF (by decide) ?_⟩
        refine ⟨.str "and", rfl, by show 2 ≤ sizeLine; decide, fun p hp => ⟨p, _, rfl, .inr (SqT.of upd_same), rfl, rfl, _, rfl, ?_⟩⟩
        have s2 := Same.new (o := .tup [.str "least", .str "most"]) hp
        generalize upd H1 p (.tup [.str "least", .str "most"]) = H2 at s2
        have X2 := X1.same s2
        have sq2 := SqT.same s2 sq1
        have hN2 := s2 _ _ hN1
        refine iteF ?_
        have at1 : atI (hv (F.two true f g).hd ++ [vf, vg]) 1 = some vf := atI_nat (j := 1) rfl
        have at2 : atI (hv (F.two true f g).hd ++ [vf, vg]) ((((hv (F.two true f g).hd ++ [vf, vg]).length : Nat) : Int) - 1) = some vg := atI_nat (j := 2) rfl
        refine ⟨.ref wa, rfl, .ref a, rfl, .ref a, rfl, a, _, rfl, .inr sq2, _, 1, rfl, rfl, a, _, _, vg, rfl, rfl, sq2, at2, .ref na, rfl, .ref wa, vg, W, g, na, kvs, e, rfl, ⟨wa, sa, pa, fas, pas, rfl, X2⟩, fit, hg.same s2, by omega, hN2, by omega, hnd, fun x hx => ?_, fun ra H3 s3 hra => ?_⟩
        · obtain ⟨b, b1, b2⟩ := henv1 x (List.mem_append_right _ hx)
          exact ⟨b, b1, s2 _ _ b2⟩
        refine ⟨.str "and", rfl, rfl, _, rfl, kF (by decide) ?_⟩
        refine ⟨.str "and", rfl, rfl, _, rfl, kF (by decide) ?_⟩
        have X3 := X2.same s3
        have sq3 := SqT.same s3 sq2
        have hN3 := s3 _ _ hN2
        refine ⟨.ref wa, rfl, .ref a, rfl, a, _, 1, vf, rfl, rfl, sq3, at1, .ref na, rfl, .ref wa, vf, W, f, na, kvs, e, rfl, ⟨wa, sa, pa, fas, pas, rfl, X3⟩, fit, (hf.same s2).same s3, by omega, hN3, by omega, hnd, fun x hx => ?_, fun rb H4 s4 hrb4 => ?_⟩
        · obtain ⟨b, b1, b2⟩ := henv1 x (List.mem_append_left _ hx)
          exact ⟨b, b1, s3 _ _ (s2 _ _ b2)⟩
        have hra4 := s4 _ _ hra
        have gl5 : IL H4 la (rng W.n) := s4 _ _ (s3 _ _ (s2 _ _ gl1))
        refine ⟨.str "and", rfl, rfl, _, rfl, kT ?_⟩
        refine ⟨.ref la, rfl, la, rfl, ⟨_, SqL.of gl5⟩, fun D hD => ?_⟩
        refine lc_fil (fun s => sIn (val W g e) s && sIn (val W f e) s) gl5 hD (by rw [rng_len]; have := fit.n16; omega) (fun s hs G Y N sG hY hN' => ?_) (fun G sG gg => k1 D G ((s2.trans (s3.trans s4)).trans sG) gg)
        refine ⟨rfl, .int s, rfl, .ref ra, rfl, ra, _, rfl, .inl (SqL.of (sG _ _ hra4)), rfl, flat_ints _, _, rfl, ?_⟩
        rw [if_neg Bool.false_ne_true, in_ints]
        show if sIn (val W g e) s = true then _ else _
        cases c1 : sIn (val W g e) s with
        | false => exact iteF (hN' (by rw [c1]; rfl) _ (Same.refl _))
        | true =>
          refine iteT ⟨.int s, rfl, .ref rb, rfl, rb, _, rfl, .inl (SqL.of (sG _ _ hrb4)), rfl, flat_ints _, _, rfl, ?_⟩
          rw [if_neg Bool.false_ne_true, in_ints]
          show if sIn (val W f e) s = true then _ else _
          cases c2 : sIn (val W f e) s with
          | false => exact iteF (hN' (by rw [c1, c2]; rfl) _ (Same.refl _))
          | true => exact iteT ⟨_, rfl, hY (by rw [c1, c2]; rfl) _ (Same.refl _)⟩
      | false =>
        refine ⟨.str "or", rfl, rfl, _, rfl, kF (by decide) ?_⟩
        refine ⟨.str "or", rfl, rfl, _, rfl, kF (by decide) ?_⟩
        refine ⟨.str "or", rfl, rfl, _, rfl, kF (by decide) ?_⟩
        refine ⟨.str "or", rfl, rfl, _, rfl, kF (by decide) ?_⟩
        refine ⟨.str "or", rfl, rfl, _, rfl, kF (by decide) ?_⟩
        refine ⟨.str "or", rfl, by show 2 ≤ sizeLine; decide, fun p hp => ⟨p, _, rfl, .inr (SqT.of upd_same), rfl, rfl, _, rfl, ?_⟩⟩
        have s2 := Same.new (o := .tup [.str "least", .str "most"]) hp
        generalize upd H1 p (.tup [.str "least", .str "most"]) = H2 at s2
        have X2 := X1.same s2
        have sq2 := SqT.same s2 sq1
        have hN2 := s2 _ _ hN1
        refine iteF ?_
        have at1 : atI (hv (F.two false f g).hd ++ [vf, vg]) 1 = some vf := atI_nat (j := 1) rfl
        have at2 : atI (hv (F.two false f g).hd ++ [vf, vg]) ((((hv (F.two false f g).hd ++ [vf, vg]).length : Nat) : Int) - 1) = some vg := atI_nat (j := 2) rfl
        refine ⟨.ref wa, rfl, .ref a, rfl, .ref a, rfl, a, _, rfl, .inr sq2, _, 1, rfl, rfl, a, _, _, vg, rfl, rfl, sq2, at2, .ref na, rfl, .ref wa, vg, W, g, na, kvs, e, rfl, ⟨wa, sa, pa, fas, pas, rfl, X2⟩, fit, hg.same s2, by omega, hN2, by omega, hnd, fun x hx => ?_, fun ra H3 s3 hra => ?_⟩
        · obtain ⟨b, b1, b2⟩ := henv1 x (List.mem_append_right _ hx)
          exact ⟨b, b1, s2 _ _ b2⟩
        refine ⟨.str "or", rfl, rfl, _, rfl, kF (by decide) ?_⟩
        refine ⟨.str "or", rfl, rfl, _, rfl, kF (by decide) ?_⟩
        have X3 := X2.same s3
        have sq3 := SqT.same s3 sq2
        have hN3 := s3 _ _ hN2
        refine ⟨.ref wa, rfl, .ref a, rfl, a, _, 1, vf, rfl, rfl, sq3, at1, .ref na, rfl, .ref wa, vf, W, f, na, kvs, e, rfl, ⟨wa, sa, pa, fas, pas, rfl, X3⟩, fit, (hf.same s2).same s3, by omega, hN3, by omega, hnd, fun x hx => ?_, fun rb H4 s4 hrb4 => ?_⟩
        · obtain ⟨b, b1, b2⟩ := henv1 x (List.mem_append_left _ hx)
          exact ⟨b, b1, s3 _ _ (s2 _ _ b2)⟩
        have hra4 := s4 _ _ hra
        have gl5 : IL H4 la (rng W.n) := s4 _ _ (s3 _ _ (s2 _ _ gl1))
        refine ⟨.str "or", rfl, rfl, _, rfl, kF (by decide) ?_⟩
        refine ⟨.ref la, rfl, la, rfl, ⟨_, SqL.of gl5⟩, fun D hD => ?_⟩
        refine lc_fil (fun s => sIn (val W g e) s || sIn (val W f e) s) gl5 hD (by rw [rng_len]; have := fit.n16; omega) (fun s hs G Y N sG hY hN' => ?_) (fun G sG gg => k1 D G ((s2.trans (s3.trans s4)).trans sG) gg)
        refine ⟨rfl, .int s, rfl, .ref ra, rfl, ra, _, rfl, .inl (SqL.of (sG _ _ hra4)), rfl, flat_ints _, _, rfl, ?_⟩
        rw [if_neg Bool.false_ne_true, in_ints]
        show if sIn (val W g e) s = true then _ else _
        cases c1 : sIn (val W g e) s with
        | true => exact iteT ⟨_, rfl, hY (by rw [c1]; rfl) _ (Same.refl _)⟩
        | false =>
          refine iteF ⟨.int s, rfl, .ref rb, rfl, rb, _, rfl, .inl (SqL.of (sG _ _ hrb4)), rfl, flat_ints _, _, rfl, ?_⟩
          rw [if_neg Bool.false_ne_true, in_ints]
          show if sIn (val W f e) s = true then _ else _
          cases c2 : sIn (val W f e) s with
          | false => exact iteF (hN' (by rw [c1, c2]; rfl) _ (Same.refl _))
          | true => exact iteT ⟨_, rfl, hY (by rw [c1, c2]; rfl) _ (Same.refl _)⟩
    | one kd x f =>
      cases ak1 with
      | cons hf hn =>
      cases hn
      rename_i vf
      obtain ⟨m, rfl⟩ : ∃ m, n = m + 1 := by
        cases n with
        | zero => exact absurd hdep (by have : 0 < f.depth := (by cases f <;> simp [F.depth]); simp only [F.depth]; omega)
        | succ m => exact ⟨m, rfl⟩
      simp only [F.depth] at hdep
      cases kd with
      | some =>
        refine ⟨.str "some", rfl, rfl, _, rfl, kF (by decide) ?_⟩
        refine ⟨.str "some", rfl, rfl, _, rfl, kF (by decide) ?_⟩
        refine ⟨.str "some", rfl, rfl, _, rfl, kF (by decide) ?_⟩
        refine ⟨.str "some", rfl, rfl, _, rfl, kF (by decide) ?_⟩
        refine ⟨.str "some", rfl, rfl, _, rfl, kF (by decide) ?_⟩
        refine ⟨.str "some", rfl, by show 2 ≤ sizeLine; decide, fun p hp => ⟨p, _, rfl, .inr (SqT.of upd_same), rfl, rfl, _, rfl, ?_⟩⟩
        have s2 := Same.new (o := .tup [.str "least", .str "most"]) hp
        generalize upd H1 p (.tup [.str "least", .str "most"]) = H2 at s2
        have X2 := X1.same s2
        have sq2 := SqT.same s2 sq1
        have hN2 := s2 _ _ hN1
        have at1 : atI (hv (F.one .some x f).hd ++ [vf]) 1 = some (.int x) := atI_nat (j := 1) rfl
        have at2 : atI (hv (F.one .some x f).hd ++ [vf]) 2 = some vf := atI_nat (j := 2) rfl
        refine iteF ?_
        have at3 : atI (hv (F.one .some x f).hd ++ [vf]) ((((hv (F.one .some x f).hd ++ [vf]).length : Nat) : Int) - 1) = some vf := atI_nat (j := 2) rfl
        refine ⟨.ref wa, rfl, .ref a, rfl, .ref a, rfl, a, _, rfl, .inr sq2, _, 1, rfl, rfl, a, _, _, vf, rfl, rfl, sq2, at3, .ref na, rfl, .ref wa, vf, W, f, na, kvs, e, rfl, ⟨wa, sa, pa, fas, pas, rfl, X2⟩, fit, hf.same s2, by omega, hN2, by omega, hnd, fun y hy => ?_, fun ra H3 s3 hra => ?_⟩
        · obtain ⟨b, b1, b2⟩ := henv1 y hy
          exact ⟨b, b1, s2 _ _ b2⟩
        have X3 := X2.same s3
        have sq3 := SqT.same s3 sq2
        have gl3 : IL H3 la (rng W.n) := s3 _ _ (s2 _ _ gl1)
        refine ⟨.str "some", rfl, rfl, _, rfl, kT ?_⟩
        refine ⟨.ref la, rfl, la, rfl, ⟨_, SqL.of gl3⟩, fun D hD => ?_⟩
        refine lc_fil (fun s => decide (0 < (((W.beh s x).filter (sIn (val W f e))).length : Int))) gl3 hD (by rw [rng_len]; have := fit.n16; omega) (fun s hs G Y N sG hY hN' => ?_) (fun G sG gg => k1 D G ((s2.trans s3).trans sG) gg)
        refine ⟨rfl, .ref wa, rfl, .int s, rfl, .ref a, rfl, a, _, _, .int x, rfl, rfl, SqT.same sG sq3, at1, .ref wa, W, s, x, rfl, ⟨wa, sa, pa, fas, pas, rfl, X3.same sG⟩, fit.st, fun b G2 sb nb hb => ?_⟩
        refine ⟨b, rfl, ⟨_, SqL.of hb⟩, fun D2 hD2 => ?_⟩
        have hra2 := sb _ _ (sG _ _ hra)
        refine lc_fil (sIn (val W f e)) hb hD2 (by unfold Wd.beh; rw [List.length_map]; exact Nat.le_trans (List.length_filter_le _ _) fit.st) (fun j hj G3 Y3 N3 s3' hY3 hN3 => ?_) (fun G3 s3' g3 => ?_)
        · refine ⟨rfl, .int j, rfl, .ref ra, rfl, ra, _, rfl, .inl (SqL.of (s3' _ _ hra2)), rfl, flat_ints _, _, rfl, ?_⟩
          rw [if_neg Bool.false_ne_true, in_ints]
          show if sIn (val W f e) j = true then _ else _
          cases c : sIn (val W f e) j with
          | true => exact iteT ⟨_, rfl, hY3 c _ (Same.refl _)⟩
          | false => exact iteF (hN3 c _ (Same.refl _))
        · refine ⟨D2, _, rfl, .inl (SqL.of g3), _, _, rfl, rfl, _, rfl, ite2 (fun c => ?_) (fun c => ?_)⟩
          · exact ⟨_, rfl, hY (by rw [List.length_map] at c; exact c) _ (sb.trans s3')⟩
          · exact hN' (by rw [List.length_map] at c; exact Bool.eq_false_iff.mpr c) _ (sb.trans s3')
      | all =>
        refine ⟨.str "all", rfl, rfl, _, rfl, kF (by decide) ?_⟩
        refine ⟨.str "all", rfl, rfl, _, rfl, kF (by decide) ?_⟩
        refine ⟨.str "all", rfl, rfl, _, rfl, kF (by decide) ?_⟩
        refine ⟨.str "all", rfl, rfl, _, rfl, kF (by decide) ?_⟩
        refine ⟨.str "all", rfl, rfl, _, rfl, kF (by decide) ?_⟩
        refine ⟨.str "all", rfl, by show 2 ≤ sizeLine; decide, fun p hp => ⟨p, _, rfl, .inr (SqT.of upd_same), rfl, rfl, _, rfl, ?_⟩⟩
        have s2 := Same.new (o := .tup [.str "least", .str "most"]) hp
        generalize upd H1 p (.tup [.str "least", .str "most"]) = H2 at s2
        have X2 := X1.same s2
        have sq2 := SqT.same s2 sq1
        have hN2 := s2 _ _ hN1
        have at1 : atI (hv (F.one .all x f).hd ++ [vf]) 1 = some (.int x) := atI_nat (j := 1) rfl
        have at2 : atI (hv (F.one .all x f).hd ++ [vf]) 2 = some vf := atI_nat (j := 2) rfl
        refine iteF ?_
        have at3 : atI (hv (F.one .all x f).hd ++ [vf]) ((((hv (F.one .all x f).hd ++ [vf]).length : Nat) : Int) - 1) = some vf := atI_nat (j := 2) rfl
        refine ⟨.ref wa, rfl, .ref a, rfl, .ref a, rfl, a, _, rfl, .inr sq2, _, 1, rfl, rfl, a, _, _, vf, rfl, rfl, sq2, at3, .ref na, rfl, .ref wa, vf, W, f, na, kvs, e, rfl, ⟨wa, sa, pa, fas, pas, rfl, X2⟩, fit, hf.same s2, by omega, hN2, by omega, hnd, fun y hy => ?_, fun ra H3 s3 hra => ?_⟩
        · obtain ⟨b, b1, b2⟩ := henv1 y hy
          exact ⟨b, b1, s2 _ _ b2⟩
        have X3 := X2.same s3
        have sq3 := SqT.same s3 sq2
        have gl3 : IL H3 la (rng W.n) := s3 _ _ (s2 _ _ gl1)
        refine ⟨.str "all", rfl, rfl, _, rfl, kF (by decide) ?_⟩
        refine ⟨.str "all", rfl, rfl, _, rfl, kT ?_⟩
        refine ⟨.ref la, rfl, la, rfl, ⟨_, SqL.of gl3⟩, fun D hD => ?_⟩
        refine lc_fil (fun s => decide ((((W.beh s x).filter (fun k => !sIn (val W f e) k)).length : Int) = 0)) gl3 hD (by rw [rng_len]; have := fit.n16; omega) (fun s hs G Y N sG hY hN' => ?_) (fun G sG gg => k1 D G ((s2.trans s3).trans sG) gg)
        refine ⟨rfl, .ref wa, rfl, .int s, rfl, .ref a, rfl, a, _, _, .int x, rfl, rfl, SqT.same sG sq3, at1, .ref wa, W, s, x, rfl, ⟨wa, sa, pa, fas, pas, rfl, X3.same sG⟩, fit.st, fun b G2 sb nb hb => ?_⟩
        refine ⟨b, rfl, ⟨_, SqL.of hb⟩, fun D2 hD2 => ?_⟩
        have hra2 := sb _ _ (sG _ _ hra)
        refine lc_fil (fun k => !sIn (val W f e) k) hb hD2 (by unfold Wd.beh; rw [List.length_map]; exact Nat.le_trans (List.length_filter_le _ _) fit.st) (fun j hj G3 Y3 N3 s3' hY3 hN3 => ?_) (fun G3 s3' g3 => ?_)
        · refine ⟨rfl, .int j, rfl, .ref ra, rfl, ra, _, rfl, .inl (SqL.of (s3' _ _ hra2)), rfl, flat_ints _, _, rfl, ?_⟩
          rw [if_pos rfl, in_ints]
          show if (!sIn (val W f e) j) = true then _ else _
          cases c : (!sIn (val W f e) j) with
          | true => exact iteT ⟨_, rfl, hY3 c _ (Same.refl _)⟩
          | false => exact iteF (hN3 c _ (Same.refl _))
        · refine ⟨D2, _, rfl, .inl (SqL.of g3), rfl, _, rfl, ite2 (fun c => ?_) (fun c => ?_)⟩
          · exact ⟨_, rfl, hY (by rw [List.length_map] at c; exact decide_eq_true (by have := of_decide_eq_true c; injection this)) _ (sb.trans s3')⟩
          · exact hN' (by rw [List.length_map] at c; exact decide_eq_false (fun z => c (decide_eq_true (congrArg V.int z)))) _ (sb.trans s3')
      | least =>
        refine ⟨.str "least", rfl, rfl, _, rfl, kF (by decide) ?_⟩
        refine ⟨.str "least", rfl, rfl, _, rfl, kF (by decide) ?_⟩
        refine ⟨.str "least", rfl, rfl, _, rfl, kF (by decide) ?_⟩
        refine ⟨.str "least", rfl, rfl, _, rfl, kF (by decide) ?_⟩
        refine ⟨.str "least", rfl, rfl, _, rfl, kF (by decide) ?_⟩
        refine ⟨.str "least", rfl, by show 2 ≤ sizeLine; decide, fun p hp => ⟨p, _, rfl, .inr (SqT.of upd_same), rfl, rfl, _, rfl, ?_⟩⟩
        have s2 := Same.new (o := .tup [.str "least", .str "most"]) hp
        generalize upd H1 p (.tup [.str "least", .str "most"]) = H2 at s2
        have X2 := X1.same s2
        have sq2 := SqT.same s2 sq1
        have hN2 := s2 _ _ hN1
        have at1 : atI (hv (F.one .least x f).hd ++ [vf]) 1 = some (.int x) := atI_nat (j := 1) rfl
        have at2 : atI (hv (F.one .least x f).hd ++ [vf]) 2 = some vf := atI_nat (j := 2) rfl
        refine iteT ?_
        refine ⟨Nat.zero_le _, fun q0 hq0 => ?_⟩
        have s3 := Same.new (o := .lst []) hq0
        have gq0 : IL (upd H2 q0 (.lst [])) q0 [] := upd_same
        generalize upd H2 q0 (.lst []) = H3 at s3 gq0
        refine ⟨.str "least", rfl, rfl, _, rfl, kF (by decide) ?_⟩
        have s23 := s2.trans s3
        have X3 := X1.same s23
        refine ⟨.ref wa, rfl, wa, _, _, .ref sa, rfl, rfl, SqT.of X3.w, rfl, sa, _, rfl, X3.s, _, 1, rfl, rfl, _, rfl, ?_⟩
        rw [nW]
        refine ⟨by have := fit.n16; omega, by have := fit.n16; omega, ?_⟩
        refine for_range (lo := 0) (n := (((W.n : Nat) : Int) + 1).toNat) (fun i σ G => ∃ (y6 y7 y8 : Option V) (q : Addr), σ = [some (.ref wa), some (.ref a), some (.ref na), some (.ref la), some (.str "least"), some (.ref q), y6, y7, y8, none, none, none, none] ∧ Same H1 G ∧ IL G q (iter (fun X => val W f (setE e x X)) i []))
          ⟨_, _, _, _, rfl, s23, gq0⟩ ?_ ?_
        · clear X3 s23 gq0 s3 s2 sq2 hN2 X2
          rintro i σ G hi ⟨y6, y7, y8, q, rfl, sG, gq⟩
          have X3 := X1.same sG
          have sq3 := SqT.same sG sq1
          have hN3 := sG _ _ hN1
          intro na2 hna2
          have s2 := Same.new (o := .dK []) hna2
          have nn : na ≠ na2 := ne_of_none hN3 hna2
          refine ⟨na, _, s2 _ _ hN3, trivial, fun od => ?_⟩
          refine ⟨.ref na, rfl, na, od, rfl, .inl ⟨kvs, upd_same, ?_⟩⟩
          refine for_it (walk_keys (d := na) (o := od) (kvs := kvs)) (fun j σ G' => ∃ (y8 : Option V), σ = [some (.ref wa), some (.ref a), some (.ref na), some (.ref la), some (.str "least"), some (.ref q), some (.int (0 + (i : Int))), some (.ref na2), y8, none, none, none, none] ∧ G' na = some (.frz od (.dK kvs)) ∧ G' na2 = some (.dK (kvs.take j)) ∧
              ∀ b o, b ≠ na → b ≠ na2 → G b = some o → G' b = some o)
            ⟨_, rfl, upd_same, by rw [upd_ne nn.symm, upd_same]; rfl, fun b o n1 n2 e => by rw [upd_ne n1, upd_ne n2]; exact e⟩ (fun i σ G _ ⟨_, _, g, _⟩ => g) ?_ ?_
          · rintro j x0 σ G1 G2 hj ⟨y8, rfl, gN, gI, gK⟩ ⟨rfl, kk, vv, hkv, rfl⟩
            obtain ⟨v1, v2⟩ := valV_atW hnd hkv
            refine ⟨.ref na, rfl, kV kk, rfl, na, vv, rfl, .inl ⟨kvs, kk, .inr ⟨od, gN⟩, rfl, v1.symm⟩, .ref na2, rfl, kV kk, rfl, na2, _, rfl, DPut.k (k := kk) gI (by rw [List.length_take]; exact small1000 (by omega)), ?_⟩
            refine ⟨_, rfl, by rw [upd_ne nn]; exact gN, ?_, fun b o n1 n2 e => by rw [upd_ne n2]; exact gK b o n1 n2 e⟩
            rw [upd_same, putK_new _ v2, List.take_add_one, hkv]
            rfl
          · rintro σ G1 ⟨y8, rfl, gN, gI, gK⟩
            rw [List.take_length] at gI
            refine ⟨gN, ?_⟩
            have s3 : Same G (upd G1 na (.dK kvs)) := fun b o e => by
              by_cases e1 : b = na
              · subst e1
                rw [hN3] at e
                cases e
                exact upd_same
              · rw [upd_ne e1]
                exact gK b o e1 (ne_of_none e hna2) e
            have gI3 : (upd G1 na (.dK kvs)) na2 = some (.dK kvs) := by rw [upd_ne nn.symm]; exact gI
            generalize upd G1 na (.dK kvs) = G3 at s3 gI3
            refine ⟨.ref q, rfl, .ref na2, rfl, .ref a, rfl, a, _, 1, .int x, rfl, rfl, SqT.same s3 sq3, at1, na2, _, rfl, DPut.k (k := Sum.inl x) gI3 (small1000 (by omega)), ?_⟩
            have s4 : Same G (upd G3 na2 (.dK (putK kvs (Sum.inl x) (.ref q)))) := fun b o e => by
              rw [upd_ne (ne_of_none e hna2)]
              exact s3 b o e
            have gI4 : (upd G3 na2 (.dK (putK kvs (Sum.inl x) (.ref q)))) na2 = some (.dK (putK kvs (Sum.inl x) (.ref q))) := upd_same
            generalize upd G3 na2 (.dK (putK kvs (Sum.inl x) (.ref q))) = G4 at s4 gI4
            have lp := length_putK kvs (Sum.inl x) (V.ref q)
            have sG4 := sG.trans s4
            refine ⟨.ref wa, rfl, .ref a, rfl, a, _, 2, vf, rfl, rfl, SqT.same s4 sq3, at2, .ref na2, rfl, .ref wa, vf, W, f, na2, putK kvs (Sum.inl x) (.ref q), setE e x (iter (fun X => val W f (setE e x X)) i []), rfl, ⟨wa, sa, pa, fas, pas, rfl, X3.same s4⟩, fit, hf.same sG4, by omega, gI4, by omega, nd_putW hnd, fun y hy => ?_, fun ra H5 s5 hra => ⟨_, _, _, ra, rfl, sG4.trans s5, hra⟩⟩
            rw [valV_put]
            unfold setE
            by_cases c : y = x
            · rw [if_pos (by rw [c]), if_pos c]
              exact ⟨q, rfl, s4 _ _ gq⟩
            · rw [if_neg (fun z => c (by injection z)), if_neg c]
              obtain ⟨b, b1, b2⟩ := henv1 y (by simp only [fv, if_pos (show One.least.bind = true from rfl), List.mem_filter, decide_eq_true_eq]; exact ⟨hy, c⟩)
              exact ⟨b, b1, sG4 _ _ b2⟩
        · rintro σ G ⟨y6, y7, y8, q, rfl, sG, gq⟩
          refine ⟨.ref q, rfl, k1 q _ sG ?_⟩
          have : (((W.n : Nat) : Int) + 1).toNat = W.n + 1 := by omega
          rw [this] at gq
          exact gq
      | most =>
        refine ⟨.str "most", rfl, rfl, _, rfl, kF (by decide) ?_⟩
        refine ⟨.str "most", rfl, rfl, _, rfl, kF (by decide) ?_⟩
        refine ⟨.str "most", rfl, rfl, _, rfl, kF (by decide) ?_⟩
        refine ⟨.str "most", rfl, rfl, _, rfl, kF (by decide) ?_⟩
        refine ⟨.str "most", rfl, rfl, _, rfl, kF (by decide) ?_⟩
        refine ⟨.str "most", rfl, by show 2 ≤ sizeLine; decide, fun p hp => ⟨p, _, rfl, .inr (SqT.of upd_same), rfl, rfl, _, rfl, ?_⟩⟩
        have s2 := Same.new (o := .tup [.str "least", .str "most"]) hp
        generalize upd H1 p (.tup [.str "least", .str "most"]) = H2 at s2
        have X2 := X1.same s2
        have sq2 := SqT.same s2 sq1
        have hN2 := s2 _ _ hN1
        have at1 : atI (hv (F.one .most x f).hd ++ [vf]) 1 = some (.int x) := atI_nat (j := 1) rfl
        have at2 : atI (hv (F.one .most x f).hd ++ [vf]) 2 = some vf := atI_nat (j := 2) rfl
        refine iteT ?_
        refine ⟨Nat.zero_le _, fun q0 hq0 => ?_⟩
        have s3 := Same.new (o := .lst []) hq0
        have gq0 : IL (upd H2 q0 (.lst [])) q0 [] := upd_same
        generalize upd H2 q0 (.lst []) = H3 at s3 gq0
        refine ⟨.str "most", rfl, rfl, _, rfl, kT ?_⟩
        have gl3 : IL H3 la (rng W.n) := s3 _ _ (s2 _ _ gl1)
        refine ⟨.ref la, rfl, la, _, rfl, .inl (SqL.of gl3), fun q1 hq1 => ?_⟩
        have s3b := Same.new (o := .lst ((rng W.n).map V.int)) hq1
        replace s3 := s3.trans s3b
        replace gq0 : IL (upd H3 q1 (.lst ((rng W.n).map V.int))) q1 (rng W.n) := upd_same
        generalize upd H3 q1 (.lst ((rng W.n).map V.int)) = H4 at s3 gq0
        have s23 := s2.trans s3
        have X3 := X1.same s23
        refine ⟨.ref wa, rfl, wa, _, _, .ref sa, rfl, rfl, SqT.of X3.w, rfl, sa, _, rfl, X3.s, _, 1, rfl, rfl, _, rfl, ?_⟩
        rw [nW]
        refine ⟨by have := fit.n16; omega, by have := fit.n16; omega, ?_⟩
        refine for_range (lo := 0) (n := (((W.n : Nat) : Int) + 1).toNat) (fun i σ G => ∃ (y6 y7 y8 : Option V) (q : Addr), σ = [some (.ref wa), some (.ref a), some (.ref na), some (.ref la), some (.str "most"), some (.ref q), y6, y7, y8, none, none, none, none] ∧ Same H1 G ∧ IL G q (iter (fun X => val W f (setE e x X)) i (rng W.n)))
          ⟨_, _, _, _, rfl, s23, gq0⟩ ?_ ?_
        · clear X3 s23 gq0 s3 s2 sq2 hN2 X2
          rintro i σ G hi ⟨y6, y7, y8, q, rfl, sG, gq⟩
          have X3 := X1.same sG
          have sq3 := SqT.same sG sq1
          have hN3 := sG _ _ hN1
          intro na2 hna2
          have s2 := Same.new (o := .dK []) hna2
          have nn : na ≠ na2 := ne_of_none hN3 hna2
          refine ⟨na, _, s2 _ _ hN3, trivial, fun od => ?_⟩
          refine ⟨.ref na, rfl, na, od, rfl, .inl ⟨kvs, upd_same, ?_⟩⟩
          refine for_it (walk_keys (d := na) (o := od) (kvs := kvs)) (fun j σ G' => ∃ (y8 : Option V), σ = [some (.ref wa), some (.ref a), some (.ref na), some (.ref la), some (.str "most"), some (.ref q), some (.int (0 + (i : Int))), some (.ref na2), y8, none, none, none, none] ∧ G' na = some (.frz od (.dK kvs)) ∧ G' na2 = some (.dK (kvs.take j)) ∧
              ∀ b o, b ≠ na → b ≠ na2 → G b = some o → G' b = some o)
            ⟨_, rfl, upd_same, by rw [upd_ne nn.symm, upd_same]; rfl, fun b o n1 n2 e => by rw [upd_ne n1, upd_ne n2]; exact e⟩ (fun i σ G _ ⟨_, _, g, _⟩ => g) ?_ ?_
          · rintro j x0 σ G1 G2 hj ⟨y8, rfl, gN, gI, gK⟩ ⟨rfl, kk, vv, hkv, rfl⟩
            obtain ⟨v1, v2⟩ := valV_atW hnd hkv
            refine ⟨.ref na, rfl, kV kk, rfl, na, vv, rfl, .inl ⟨kvs, kk, .inr ⟨od, gN⟩, rfl, v1.symm⟩, .ref na2, rfl, kV kk, rfl, na2, _, rfl, DPut.k (k := kk) gI (by rw [List.length_take]; exact small1000 (by omega)), ?_⟩
            refine ⟨_, rfl, by rw [upd_ne nn]; exact gN, ?_, fun b o n1 n2 e => by rw [upd_ne n2]; exact gK b o n1 n2 e⟩
            rw [upd_same, putK_new _ v2, List.take_add_one, hkv]
            rfl
          · rintro σ G1 ⟨y8, rfl, gN, gI, gK⟩
            rw [List.take_length] at gI
            refine ⟨gN, ?_⟩
            have s3 : Same G (upd G1 na (.dK kvs)) := fun b o e => by
              by_cases e1 : b = na
              · subst e1
                rw [hN3] at e
                cases e
                exact upd_same
              · rw [upd_ne e1]
                exact gK b o e1 (ne_of_none e hna2) e
            have gI3 : (upd G1 na (.dK kvs)) na2 = some (.dK kvs) := by rw [upd_ne nn.symm]; exact gI
            generalize upd G1 na (.dK kvs) = G3 at s3 gI3
            refine ⟨.ref q, rfl, .ref na2, rfl, .ref a, rfl, a, _, 1, .int x, rfl, rfl, SqT.same s3 sq3, at1, na2, _, rfl, DPut.k (k := Sum.inl x) gI3 (small1000 (by omega)), ?_⟩
            have s4 : Same G (upd G3 na2 (.dK (putK kvs (Sum.inl x) (.ref q)))) := fun b o e => by
              rw [upd_ne (ne_of_none e hna2)]
              exact s3 b o e
            have gI4 : (upd G3 na2 (.dK (putK kvs (Sum.inl x) (.ref q)))) na2 = some (.dK (putK kvs (Sum.inl x) (.ref q))) := upd_same
            generalize upd G3 na2 (.dK (putK kvs (Sum.inl x) (.ref q))) = G4 at s4 gI4
            have lp := length_putK kvs (Sum.inl x) (V.ref q)
            have sG4 := sG.trans s4
            refine ⟨.ref wa, rfl, .ref a, rfl, a, _, 2, vf, rfl, rfl, SqT.same s4 sq3, at2, .ref na2, rfl, .ref wa, vf, W, f, na2, putK kvs (Sum.inl x) (.ref q), setE e x (iter (fun X => val W f (setE e x X)) i (rng W.n)), rfl, ⟨wa, sa, pa, fas, pas, rfl, X3.same s4⟩, fit, hf.same sG4, by omega, gI4, by omega, nd_putW hnd, fun y hy => ?_, fun ra H5 s5 hra => ⟨_, _, _, ra, rfl, sG4.trans s5, hra⟩⟩
            rw [valV_put]
            unfold setE
            by_cases c : y = x
            · rw [if_pos (by rw [c]), if_pos c]
              exact ⟨q, rfl, s4 _ _ gq⟩
            · rw [if_neg (fun z => c (by injection z)), if_neg c]
              obtain ⟨b, b1, b2⟩ := henv1 y (by simp only [fv, if_pos (show One.most.bind = true from rfl), List.mem_filter, decide_eq_true_eq]; exact ⟨hy, c⟩)
              exact ⟨b, b1, sG4 _ _ b2⟩
        · rintro σ G ⟨y6, y7, y8, q, rfl, sG, gq⟩
          refine ⟨.ref q, rfl, k1 q _ sG ?_⟩
          have : (((W.n : Nat) : Int) + 1).toNat = W.n + 1 := by omega
          rw [this] at gq
          exact gq
end
end Fw

/-! Parts of worlds: what is true in one that lies in another. Pure mathematics. -/
namespace Fw
def Le (X Y : List Int) : Prop := ∀ s, sIn X s = true → sIn Y s = true
theorem Le.refl (X : List Int) : Le X X := fun _ h => h
/-- in order, of states alone -/
def Norm (n : Nat) (X : List Int) : Prop := X = flt n (sIn X)
theorem filter_sub {α : Type} {p q : α → Bool} (h : ∀ x, p x = true → q x = true) : ∀ l : List α, (l.filter p).Sublist (l.filter q)
  | [] => List.Sublist.slnil
  | x :: l => by
    have ih := filter_sub h l
    cases c : p x with
    | true =>
      rw [List.filter_cons_of_pos c, List.filter_cons_of_pos (h x c)]
      exact ih.cons₂ x
    | false =>
      rw [List.filter_cons_of_neg (by rw [c]; exact Bool.false_ne_true)]
      cases c2 : q x with
      | true => rw [List.filter_cons_of_pos c2]; exact ih.cons x
      | false => rw [List.filter_cons_of_neg (by rw [c2]; exact Bool.false_ne_true)]; exact ih
theorem flt_norm (n : Nat) (p : Int → Bool) : Norm n (flt n p) := by
  unfold Norm
  exact flt_congr fun s h0 h1 => (sIn_flt h0 h1).symm
theorem norm_nil (n : Nat) : Norm n [] := by
  unfold Norm flt
  exact (List.filter_eq_nil_iff.mpr fun _ _ h => by cases h).symm
theorem norm_rng (n : Nat) : Norm n (rng n) := by rw [rng_flt]; exact flt_norm n _
theorem sIn_iff {X : List Int} {s : Int} : sIn X s = true ↔ s ∈ X := decide_eq_true_iff
theorem mem_flt {n : Nat} {p : Int → Bool} {s : Int} : s ∈ flt n p ↔ (0 ≤ s ∧ s < (n : Int)) ∧ p s = true := by
  unfold flt
  rw [List.mem_filter, rng_mem]
theorem Norm.mem {n : Nat} {X : List Int} (h : Norm n X) {s : Int} (hs : s ∈ X) : 0 ≤ s ∧ s < (n : Int) := by
  rw [h] at hs
  exact (mem_flt.mp hs).1
theorem Norm.sub {n : Nat} {X Y : List Int} (hX : Norm n X) (hY : Norm n Y) (h : Le X Y) : X.Sublist Y := by
  rw [hX, hY]
  exact filter_sub h _
theorem Norm.eq {n : Nat} {X Y : List Int} (hX : Norm n X) (hY : Norm n Y) (h : ∀ s, s ∈ X ↔ s ∈ Y) : X = Y := by
  rw [hX, hY]
  exact flt_congr fun s _ _ => by
    cases e : sIn Y s with
    | true => exact sIn_iff.mpr ((h s).mpr (sIn_iff.mp e))
    | false =>
      cases e2 : sIn X s with
      | false => rfl
      | true => rw [sIn_iff.mpr ((h s).mp (sIn_iff.mp e2))] at e; cases e
theorem Norm.len {n : Nat} {X : List Int} (h : Norm n X) : X.length ≤ n := by
  rw [h]
  refine Nat.le_trans (List.length_filter_le _ _) ?_
  rw [rng_len]
  exact Nat.le_refl _
theorem fv_one' {k : One} {x : Int} {f : F} (hk : k.bind = true) {y : Int} (hy : y ∈ fv f) (hn : y ≠ x) : y ∈ fv (.one k x f) := by
  simp only [fv, if_pos hk, List.mem_filter, decide_eq_true_eq]
  exact ⟨hy, hn⟩
theorem setE_same {e : Int → List Int} {x : Int} {X : List Int} : setE e x X x = X := if_pos rfl
theorem setE_ne {e : Int → List Int} {x y : Int} {X : List Int} (h : y ≠ x) : setE e x X y = e y := if_neg h
theorem iter_norm {n : Nat} {f : List Int → List Int} (hf : ∀ X, Norm n X → Norm n (f X)) {X : List Int} (hX : Norm n X) : ∀ k, Norm n (iter f k X)
  | 0 => hX
  | k + 1 => hf _ (iter_norm hf hX k)
theorem val_norm {W : Wd} : ∀ (t : F) (e : Int → List Int), (∀ x ∈ fv t, Norm W.n (e x)) → Norm W.n (val W t e)
  | .nul b, e, h => by
    show Norm W.n (if b = true then rng W.n else [])
    split
    · exact norm_rng _
    · exact norm_nil _
  | .leaf .has n, e, h => flt_norm _ _
  | .leaf .lacks n, e, h => flt_norm _ _
  | .leaf .var x, e, h => h x (List.mem_singleton.mpr rfl)
  | .two b f g, e, h => by
    show Norm W.n (if b = true then flt _ _ else flt _ _)
    split <;> exact flt_norm _ _
  | .one .some l f, e, h => flt_norm _ _
  | .one .all l f, e, h => flt_norm _ _
  | .one .least x f, e, h => iter_norm (fun X hX => val_norm f _ fun y hy => by
      by_cases c : y = x
      · rw [c, setE_same]; exact hX
      · rw [setE_ne c]; exact h y (fv_one' rfl hy c)) (norm_nil _) _
  | .one .most x f, e, h => iter_norm (fun X hX => val_norm f _ fun y hy => by
      by_cases c : y = x
      · rw [c, setE_same]; exact hX
      · rw [setE_ne c]; exact h y (fv_one' rfl hy c)) (norm_rng _) _
theorem Le.flt {n : Nat} {p q : Int → Bool} (h : ∀ s, p s = true → q s = true) : Le (flt n p) (flt n q) := fun s hs => by
  rw [sIn_iff, mem_flt] at hs ⊢
  exact ⟨hs.1, h s hs.2⟩
theorem iter_le {f g : List Int → List Int} (h : ∀ X Y, Le X Y → Le (f X) (g Y)) {X Y : List Int} (hX : Le X Y) : ∀ k, Le (iter f k X) (iter g k Y)
  | 0 => hX
  | k + 1 => h _ _ (iter_le h hX k)
theorem len_filter_le {α : Type} {p q : α → Bool} (h : ∀ x, p x = true → q x = true) (l : List α) : (l.filter p).length ≤ (l.filter q).length :=
  (filter_sub h l).length_le
theorem val_le {W : Wd} : ∀ (t : F) (e e' : Int → List Int), (∀ x ∈ fv t, Le (e x) (e' x)) → Le (val W t e) (val W t e')
  | .nul b, e, e', h => Le.refl _
  | .leaf .has n, e, e', h => Le.refl _
  | .leaf .lacks n, e, e', h => Le.refl _
  | .leaf .var x, e, e', h => h x (List.mem_singleton.mpr rfl)
  | .two b f g, e, e', h => by
    have hf := val_le (W := W) f e e' fun x hx => h x (List.mem_append_left _ hx)
    have hg := val_le (W := W) g e e' fun x hx => h x (List.mem_append_right _ hx)
    show Le (if b = true then Fw.flt _ _ else Fw.flt _ _) (if b = true then Fw.flt _ _ else Fw.flt _ _)
    cases b
    · rw [if_neg Bool.false_ne_true, if_neg Bool.false_ne_true]
      refine Le.flt fun s hs => ?_
      rw [Bool.or_eq_true] at hs ⊢
      exact hs.imp (hg s) (hf s)
    · rw [if_pos rfl, if_pos rfl]
      refine Le.flt fun s hs => ?_
      rw [Bool.and_eq_true] at hs ⊢
      exact ⟨hg s hs.1, hf s hs.2⟩
  | .one .some l f, e, e', h => by
    have hf := val_le (W := W) f e e' h
    refine Le.flt fun s hs => ?_
    rw [decide_eq_true_eq] at hs ⊢
    have := len_filter_le (fun x => hf x) (W.beh s l)
    omega
  | .one .all l f, e, e', h => by
    have hf := val_le (W := W) f e e' h
    refine Le.flt fun s hs => ?_
    rw [decide_eq_true_eq] at hs ⊢
    have := len_filter_le (p := fun k => !sIn (val W f e') k) (q := fun k => !sIn (val W f e) k) (fun x hx => by
      cases c : sIn (val W f e) x with
      | false => rfl
      | true => rw [hf x c] at hx; cases hx) (W.beh s l)
    omega
  | .one .least x f, e, e', h => iter_le (fun X Y hXY => val_le f _ _ fun y hy => by
      by_cases c : y = x
      · rw [c, setE_same, setE_same]; exact hXY
      · rw [setE_ne c, setE_ne c]; exact h y (fv_one' rfl hy c)) (Le.refl _) _
  | .one .most x f, e, e', h => iter_le (fun X Y hXY => val_le f _ _ fun y hy => by
      by_cases c : y = x
      · rw [c, setE_same, setE_same]; exact hXY
      · rw [setE_ne c, setE_ne c]; exact h y (fv_one' rfl hy c)) (Le.refl _) _
/-! ### a chain comes to rest -/
theorem iter_rest {f : List Int → List Int} {X : List Int} {j : Nat} (h : iter f (j + 1) X = iter f j X) : ∀ i, iter f (j + i) X = iter f j X
  | 0 => rfl
  | i + 1 => by
    show f (iter f (j + i) X) = _
    rw [iter_rest h i]
    exact h
theorem rest_of {f : List Int → List Int} {X : List Int} {n : Nat} (h : ∃ j, j ≤ n ∧ iter f (j + 1) X = iter f j X) {k : Nat} (hk : n ≤ k) : iter f k X = iter f n X := by
  obtain ⟨j, hj, e⟩ := h
  have h1 := iter_rest e (k - j)
  have h2 := iter_rest e (n - j)
  rw [show j + (k - j) = k by omega] at h1
  rw [show j + (n - j) = n by omega] at h2
  rw [h1, h2]
theorem rest_up {f : List Int → List Int} {X : List Int} {n : Nat} (hn : ∀ k, Norm n (iter f k X)) (hs : ∀ k, Le (iter f k X) (iter f (k + 1) X)) : ∃ j, j ≤ n ∧ iter f (j + 1) X = iter f j X := by
  apply Classical.byContradiction
  intro no
  have up : ∀ j, j ≤ n + 1 → j ≤ (iter f j X).length := fun j => by
    induction j with
    | zero => intro _; exact Nat.zero_le _
    | succ j ih =>
      intro hj
      have sub := (hn j).sub (hn (j + 1)) (hs j)
      have ne : (iter f j X).length ≠ (iter f (j + 1) X).length := fun e => no ⟨j, by omega, (sub.eq_of_length e).symm⟩
      have := sub.length_le
      have := ih (by omega)
      omega
  have := up (n + 1) (Nat.le_refl _)
  have := (hn (n + 1)).len
  omega
theorem rest_dn {f : List Int → List Int} {X : List Int} {n : Nat} (hn : ∀ k, Norm n (iter f k X)) (hs : ∀ k, Le (iter f (k + 1) X) (iter f k X)) : ∃ j, j ≤ n ∧ iter f (j + 1) X = iter f j X := by
  apply Classical.byContradiction
  intro no
  have dn : ∀ j, j ≤ n + 1 → (iter f j X).length + j ≤ n := fun j => by
    induction j with
    | zero => intro _; exact (hn 0).len
    | succ j ih =>
      intro hj
      have sub := (hn (j + 1)).sub (hn j) (hs j)
      have ne : (iter f (j + 1) X).length ≠ (iter f j X).length := fun e => no ⟨j, by omega, sub.eq_of_length e⟩
      have := sub.length_le
      have := ih (by omega)
      omega
  have := dn (n + 1) (Nat.le_refl _)
  omega
theorem least_rest {W : Wd} {f : F} {x : Int} {e : Int → List Int} (h : ∀ y ∈ fv (.one .least x f), Norm W.n (e y)) {k : Nat} (hk : W.n ≤ k) :
    iter (fun X => val W f (setE e x X)) k [] = iter (fun X => val W f (setE e x X)) (W.n + 1) [] := by
  have N := iter_norm (n := W.n) (f := fun X => val W f (setE e x X)) (fun X hX => val_norm f _ fun y hy => by
      by_cases c : y = x
      · rw [c, setE_same]; exact hX
      · rw [setE_ne c]; exact h y (fv_one' rfl hy c)) (norm_nil _)
  have M : ∀ X Y, Le X Y → Le (val W f (setE e x X)) (val W f (setE e x Y)) := fun X Y hXY => val_le f _ _ fun y hy => by
      by_cases c : y = x
      · rw [c, setE_same, setE_same]; exact hXY
      · rw [setE_ne c, setE_ne c]; exact Le.refl _
  have S : ∀ k, Le (iter (fun X => val W f (setE e x X)) k []) (iter (fun X => val W f (setE e x X)) (k + 1) []) := fun k => by
    induction k with
    | zero => exact fun s hs => by cases hs
    | succ k ih => exact M _ _ ih
  have R := rest_up N S
  rw [rest_of R hk, rest_of R (Nat.le_succ _)]
theorem most_rest {W : Wd} {f : F} {x : Int} {e : Int → List Int} (h : ∀ y ∈ fv (.one .most x f), Norm W.n (e y)) {k : Nat} (hk : W.n ≤ k) :
    iter (fun X => val W f (setE e x X)) k (rng W.n) = iter (fun X => val W f (setE e x X)) (W.n + 1) (rng W.n) := by
  have N := iter_norm (n := W.n) (f := fun X => val W f (setE e x X)) (fun X hX => val_norm f _ fun y hy => by
      by_cases c : y = x
      · rw [c, setE_same]; exact hX
      · rw [setE_ne c]; exact h y (fv_one' rfl hy c)) (norm_rng _)
  have M : ∀ X Y, Le X Y → Le (val W f (setE e x X)) (val W f (setE e x Y)) := fun X Y hXY => val_le f _ _ fun y hy => by
      by_cases c : y = x
      · rw [c, setE_same, setE_same]; exact hXY
      · rw [setE_ne c, setE_ne c]; exact Le.refl _
  have S : ∀ k, Le (iter (fun X => val W f (setE e x X)) (k + 1) (rng W.n)) (iter (fun X => val W f (setE e x X)) k (rng W.n)) := fun k => by
    induction k with
    | zero => exact fun s hs => sIn_iff.mpr (rng_mem.mpr ((N 1).mem (sIn_iff.mp hs)))
    | succ k ih => exact M _ _ ih
  have R := rest_dn N S
  rw [rest_of R hk, rest_of R (Nat.le_succ _)]
/-! ### a world that lies in another -/
def pull (m : Nat) (g : Int → Int) (X : List Int) : List Int := flt m fun k => sIn X (g k)
structure Emb (V W : Wd) (g : Int → Int) : Prop where
  to : ∀ k : Int, 0 ≤ k → k < V.n → 0 ≤ g k ∧ g k < W.n
  fa : ∀ k : Int, 0 ≤ k → k < V.n → ∀ x, sIn (V.at k) x = sIn (W.at (g k)) x
  fo : ∀ k : Int, 0 ≤ k → k < V.n → ∀ l j, j ∈ V.beh k l → 0 ≤ j ∧ j < V.n ∧ g j ∈ W.beh (g k) l
  ba : ∀ k : Int, 0 ≤ k → k < V.n → ∀ l y, y ∈ W.beh (g k) l → ∃ j, j ∈ V.beh k l ∧ g j = y
theorem filter_pos {α : Type} {p : α → Bool} {l : List α} : 0 < ((l.filter p).length : Int) ↔ ∃ x ∈ l, p x = true := by
  constructor
  · intro h
    have : 0 < (l.filter p).length := by omega
    obtain ⟨x, hx⟩ := List.exists_mem_of_length_pos this
    exact ⟨x, (List.mem_filter.mp hx).1, (List.mem_filter.mp hx).2⟩
  · rintro ⟨x, hx, px⟩
    have : x ∈ l.filter p := List.mem_filter.mpr ⟨hx, px⟩
    have := List.length_pos_of_mem this
    omega
theorem filter_zero {α : Type} {p : α → Bool} {l : List α} : ((l.filter p).length : Int) = 0 ↔ ∀ x ∈ l, p x = false := by
  constructor
  · intro h x hx
    have : (l.filter p) = [] := List.length_eq_zero_iff.mp (by omega)
    have := List.filter_eq_nil_iff.mp this x hx
    cases c : p x with
    | false => rfl
    | true => exact absurd c this
  · intro h
    rw [List.filter_eq_nil_iff.mpr fun x hx => by rw [h x hx]; exact Bool.false_ne_true]
    rfl
theorem sIn_pull {m : Nat} {g : Int → Int} {X : List Int} {k : Int} (h0 : 0 ≤ k) (h1 : k < (m : Int)) : sIn (pull m g X) k = sIn X (g k) := sIn_flt h0 h1
theorem val_emb {V W : Wd} {g : Int → Int} (E : Emb V W g) : ∀ (t : F) (d e : Int → List Int), (∀ x ∈ fv t, Norm W.n (e x)) → (∀ x ∈ fv t, d x = pull V.n g (e x)) → val V t d = pull V.n g (val W t e)
  | .nul b, d, e, hn, h => by
    show (if b = true then rng V.n else []) = pull V.n g (if b = true then rng W.n else [])
    cases b
    · rw [if_neg Bool.false_ne_true, if_neg Bool.false_ne_true]
      exact (List.filter_eq_nil_iff.mpr fun _ _ h => by cases h).symm
    · rw [if_pos rfl, if_pos rfl, rng_flt]
      exact flt_congr fun s h0 h1 => (sIn_iff.mpr (rng_mem.mpr (E.to s h0 h1))).symm
  | .leaf .has n, d, e, hn, h => by
    show flt V.n _ = pull V.n g (flt W.n _)
    exact flt_congr fun s h0 h1 => by rw [sIn_flt (E.to s h0 h1).1 (E.to s h0 h1).2, E.fa s h0 h1]
  | .leaf .lacks n, d, e, hn, h => by
    show flt V.n _ = pull V.n g (flt W.n _)
    exact flt_congr fun s h0 h1 => by rw [sIn_flt (E.to s h0 h1).1 (E.to s h0 h1).2, E.fa s h0 h1]
  | .leaf .var x, d, e, hn, h => h x (List.mem_singleton.mpr rfl)
  | .two b f t, d, e, hn, h => by
    have hf := val_emb E f d e (fun x hx => hn x (List.mem_append_left _ hx)) fun x hx => h x (List.mem_append_left _ hx)
    have ht := val_emb E t d e (fun x hx => hn x (List.mem_append_right _ hx)) fun x hx => h x (List.mem_append_right _ hx)
    show (if b = true then flt _ _ else flt _ _) = pull V.n g (if b = true then flt _ _ else flt _ _)
    rw [hf, ht]
    cases b
    · rw [if_neg Bool.false_ne_true, if_neg Bool.false_ne_true]
      exact flt_congr fun s h0 h1 => by rw [sIn_flt (E.to s h0 h1).1 (E.to s h0 h1).2, sIn_pull h0 h1, sIn_pull h0 h1]
    · rw [if_pos rfl, if_pos rfl]
      exact flt_congr fun s h0 h1 => by rw [sIn_flt (E.to s h0 h1).1 (E.to s h0 h1).2, sIn_pull h0 h1, sIn_pull h0 h1]
  | .one .some l f, d, e, hn, h => by
    have hf := val_emb E f d e hn h
    show flt V.n _ = pull V.n g (flt W.n _)
    rw [hf]
    refine flt_congr fun s h0 h1 => ?_
    rw [sIn_flt (E.to s h0 h1).1 (E.to s h0 h1).2]
    refine decide_eq_decide.mpr ?_
    rw [filter_pos, filter_pos]
    constructor
    · rintro ⟨j, hj, pj⟩
      obtain ⟨j0, j1, jg⟩ := E.fo s h0 h1 l j hj
      exact ⟨g j, jg, by rw [sIn_pull j0 j1] at pj; exact pj⟩
    · rintro ⟨y, hy, py⟩
      obtain ⟨j, hj, rfl⟩ := E.ba s h0 h1 l y hy
      obtain ⟨j0, j1, jg⟩ := E.fo s h0 h1 l j hj
      exact ⟨j, hj, by rw [sIn_pull j0 j1]; exact py⟩
  | .one .all l f, d, e, hn, h => by
    have hf := val_emb E f d e hn h
    show flt V.n _ = pull V.n g (flt W.n _)
    rw [hf]
    refine flt_congr fun s h0 h1 => ?_
    rw [sIn_flt (E.to s h0 h1).1 (E.to s h0 h1).2]
    refine decide_eq_decide.mpr ?_
    rw [filter_zero, filter_zero]
    constructor
    · intro q y hy
      obtain ⟨j, hj, rfl⟩ := E.ba s h0 h1 l y hy
      obtain ⟨j0, j1, jg⟩ := E.fo s h0 h1 l j hj
      have := q j hj
      rw [sIn_pull j0 j1] at this
      exact this
    · intro q j hj
      obtain ⟨j0, j1, jg⟩ := E.fo s h0 h1 l j hj
      rw [sIn_pull j0 j1]
      exact q _ jg
  | .one .least x f, d, e, hn, h => by
    have dn : ∀ y ∈ fv (.one .least x f), Norm V.n (d y) := fun y hy => by rw [h y hy]; exact flt_norm _ _
    have N := iter_norm (n := W.n) (f := fun X => val W f (setE e x X)) (fun X hX => val_norm f _ fun y hy => by
      by_cases c : y = x
      · rw [c, setE_same]; exact hX
      · rw [setE_ne c]; exact hn y (fv_one' rfl hy c)) (norm_nil _)
    have key : ∀ k, iter (fun X => val V f (setE d x X)) k [] = pull V.n g (iter (fun X => val W f (setE e x X)) k []) := fun k => by
      induction k with
      | zero => exact (List.filter_eq_nil_iff.mpr fun _ _ h => by cases h).symm
      | succ k ih =>
        show val V f (setE d x _) = pull V.n g (val W f (setE e x _))
        refine val_emb E f _ _ (fun y hy => ?_) fun y hy => ?_
        · by_cases c : y = x
          · rw [c, setE_same]; exact N k
          · rw [setE_ne c]; exact hn y (fv_one' rfl hy c)
        · by_cases c : y = x
          · rw [c, setE_same, setE_same]; exact ih
          · rw [setE_ne c, setE_ne c]; exact h y (fv_one' rfl hy c)
    show iter (fun X => val V f (setE d x X)) (V.n + 1) [] = pull V.n g (iter (fun X => val W f (setE e x X)) (W.n + 1) [])
    rw [← least_rest dn (show V.n ≤ V.n + W.n by omega), ← least_rest hn (show W.n ≤ V.n + W.n by omega)]
    exact key _
  | .one .most x f, d, e, hn, h => by
    have dn : ∀ y ∈ fv (.one .most x f), Norm V.n (d y) := fun y hy => by rw [h y hy]; exact flt_norm _ _
    have N := iter_norm (n := W.n) (f := fun X => val W f (setE e x X)) (fun X hX => val_norm f _ fun y hy => by
      by_cases c : y = x
      · rw [c, setE_same]; exact hX
      · rw [setE_ne c]; exact hn y (fv_one' rfl hy c)) (norm_rng _)
    have key : ∀ k, iter (fun X => val V f (setE d x X)) k (rng V.n) = pull V.n g (iter (fun X => val W f (setE e x X)) k (rng W.n)) := fun k => by
      induction k with
      | zero =>
        show rng V.n = flt V.n _
        rw [rng_flt]
        exact flt_congr fun s h0 h1 => (sIn_iff.mpr (show g s ∈ rng W.n from rng_mem.mpr (E.to s h0 h1))).symm
      | succ k ih =>
        show val V f (setE d x _) = pull V.n g (val W f (setE e x _))
        refine val_emb E f _ _ (fun y hy => ?_) fun y hy => ?_
        · by_cases c : y = x
          · rw [c, setE_same]; exact N k
          · rw [setE_ne c]; exact hn y (fv_one' rfl hy c)
        · by_cases c : y = x
          · rw [c, setE_same, setE_same]; exact ih
          · rw [setE_ne c, setE_ne c]; exact h y (fv_one' rfl hy c)
    show iter (fun X => val V f (setE d x X)) (V.n + 1) (rng V.n) = pull V.n g (iter (fun X => val W f (setE e x X)) (W.n + 1) (rng W.n))
    rw [← most_rest dn (show V.n ≤ V.n + W.n by omega), ← most_rest hn (show W.n ≤ V.n + W.n by omega)]
    exact key _
end Fw

/-! What is reached from some states, and the world of it. Pure mathematics. -/
namespace Fw
def addO (o : List Int) (x : Int) : List Int := if x ∈ o then o else o ++ [x]
def addsO (o : List Int) (xs : List Int) : List Int := xs.foldl addO o
def growO (ss : List T3) (o : List Int) (s : Int) : List Int := addsO (addsO o (begS ss s 0)) (begS ss s 1)
def bfs (ss : List T3) (o : List Int) : Nat → List Int
  | 0 => o
  | k + 1 => match (bfs ss o k)[k]? with
    | some s => growO ss (bfs ss o k) s
    | none => bfs ss o k
theorem addO_pre (o : List Int) (x : Int) : ∃ r, addO o x = o ++ r := by
  unfold addO
  split
  · exact ⟨[], (List.append_nil _).symm⟩
  · exact ⟨[x], rfl⟩
theorem addO_mem {o : List Int} {x y : Int} : y ∈ addO o x ↔ y ∈ o ∨ y = x := by
  unfold addO
  split
  · rename_i h
    exact ⟨.inl, fun z => z.elim id fun e => by rw [e]; exact h⟩
  · rw [List.mem_append, List.mem_singleton]
theorem addO_nd {o : List Int} {x : Int} (h : o.Nodup) : (addO o x).Nodup := by
  unfold addO
  split
  · exact h
  · rename_i n
    exact List.nodup_append.mpr ⟨h, List.nodup_cons.mpr ⟨List.not_mem_nil, List.nodup_nil⟩, fun a ha b hb e => n (by rw [List.mem_singleton.mp hb] at e; rw [← e]; exact ha)⟩
theorem addsO_pre : ∀ (xs o : List Int), ∃ r, addsO o xs = o ++ r
  | [], o => ⟨[], (List.append_nil _).symm⟩
  | x :: xs, o => by
    obtain ⟨r1, e1⟩ := addO_pre o x
    obtain ⟨r2, e2⟩ := addsO_pre xs (addO o x)
    refine ⟨r1 ++ r2, ?_⟩
    show addsO (addO o x) xs = _
    rw [e2, e1, List.append_assoc]
theorem addsO_mem : ∀ {xs o : List Int} {y : Int}, y ∈ addsO o xs ↔ y ∈ o ∨ y ∈ xs
  | [], o, y => by show y ∈ o ↔ _; simp
  | x :: xs, o, y => by
    show y ∈ addsO (addO o x) xs ↔ _
    rw [addsO_mem, addO_mem, List.mem_cons, or_assoc]
theorem addsO_nd : ∀ {xs o : List Int}, o.Nodup → (addsO o xs).Nodup
  | [], o, h => h
  | x :: xs, o, h => addsO_nd (xs := xs) (addO_nd h)
theorem addsO_snoc (o xs : List Int) (x : Int) : addsO o (xs ++ [x]) = addO (addsO o xs) x := by
  unfold addsO
  rw [List.foldl_append]
  rfl
theorem grow_pre (ss : List T3) (o : List Int) (s : Int) : ∃ r, growO ss o s = o ++ r := by
  obtain ⟨r1, e1⟩ := addsO_pre (begS ss s 0) o
  obtain ⟨r2, e2⟩ := addsO_pre (begS ss s 1) (addsO o (begS ss s 0))
  refine ⟨r1 ++ r2, ?_⟩
  unfold growO
  rw [e2, e1, List.append_assoc]
theorem grow_mem {ss : List T3} {o : List Int} {s y : Int} : y ∈ growO ss o s ↔ y ∈ o ∨ y ∈ begS ss s 0 ∨ y ∈ begS ss s 1 := by
  unfold growO
  rw [addsO_mem, addsO_mem, or_assoc]
structure Ord (n : Nat) (o : List Int) : Prop where
  nd : o.Nodup
  ra : ∀ x ∈ o, 0 ≤ x ∧ x < (n : Int)
theorem few_nd : ∀ {n : Nat} {o : List Int}, Ord n o → o.length ≤ n
  | 0, [], _ => Nat.le_refl _
  | 0, x :: o, h => by have := h.ra x List.mem_cons_self; omega
  | n + 1, o, h => by
    have ih := few_nd (n := n) (o := o.erase (n : Int)) ⟨h.nd.erase _, fun x hx => by
      have := (List.Nodup.mem_erase_iff h.nd).mp hx
      have := h.ra x this.2
      omega⟩
    have := List.length_erase (a := (n : Int)) (l := o)
    split at this <;> omega
theorem ends_in {ss : List T3} {n : Nat} (hs : ∀ p ∈ ss, 0 ≤ p.2.2 ∧ p.2.2 < (n : Int)) {s l y : Int} (h : y ∈ begS ss s l) : 0 ≤ y ∧ y < (n : Int) := by
  obtain ⟨p, hp, rfl⟩ := List.mem_map.mp h
  exact hs p (List.mem_filter.mp hp).1
theorem grow_ord {ss : List T3} {n : Nat} (hs : ∀ p ∈ ss, 0 ≤ p.2.2 ∧ p.2.2 < (n : Int)) {o : List Int} (h : Ord n o) (s : Int) : Ord n (growO ss o s) :=
  ⟨addsO_nd (addsO_nd h.nd), fun x hx => by
    rcases grow_mem.mp hx with z | z | z
    · exact h.ra x z
    · exact ends_in hs z
    · exact ends_in hs z⟩
theorem bfs_ord {ss : List T3} {n : Nat} (hs : ∀ p ∈ ss, 0 ≤ p.2.2 ∧ p.2.2 < (n : Int)) {o : List Int} (h : Ord n o) : ∀ k, Ord n (bfs ss o k)
  | 0 => h
  | k + 1 => by
    have ih := bfs_ord hs h k
    unfold bfs
    split
    · exact grow_ord hs ih _
    · exact ih
theorem bfs_pre (ss : List T3) (o : List Int) (k : Nat) : ∃ r, bfs ss o (k + 1) = bfs ss o k ++ r := by
  show ∃ r, (match (bfs ss o k)[k]? with | some s => growO ss (bfs ss o k) s | none => bfs ss o k) = bfs ss o k ++ r
  split
  · exact grow_pre _ _ _
  · exact ⟨[], (List.append_nil _).symm⟩
theorem bfs_pres (ss : List T3) (o : List Int) (k : Nat) : ∀ i, ∃ r, bfs ss o (k + i) = bfs ss o k ++ r
  | 0 => ⟨[], (List.append_nil _).symm⟩
  | i + 1 => by
    obtain ⟨r1, e1⟩ := bfs_pres ss o k i
    obtain ⟨r2, e2⟩ := bfs_pre ss o (k + i)
    exact ⟨r1 ++ r2, by rw [show k + (i + 1) = k + i + 1 from rfl, e2, e1, List.append_assoc]⟩
theorem bfs_more {ss : List T3} {o : List Int} {k : Nat} {s : Int} (h : (bfs ss o k)[k]? = some s) : bfs ss o (k + 1) = growO ss (bfs ss o k) s := by
  show (match (bfs ss o k)[k]? with | some s => _ | none => _) = _
  rw [h]
theorem bfs_stop {ss : List T3} {o : List Int} {k : Nat} (h : (bfs ss o k).length ≤ k) : ∀ i, bfs ss o (k + i) = bfs ss o k
  | 0 => rfl
  | i + 1 => by
    have ih := bfs_stop h i
    show (match (bfs ss o (k + i))[k + i]? with | some s => _ | none => _) = _
    rw [ih, List.getElem?_eq_none (by omega)]
    exact ih
/-- at the fifth turn all is done -/
theorem bfs_end {ss : List T3} {o : List Int} {k : Nat} (h : (bfs ss o k).length ≤ k) (hk : k ≤ 5) : bfs ss o k = bfs ss o 5 := by
  have := bfs_stop h (5 - k)
  rw [show k + (5 - k) = 5 by omega] at this
  exact this.symm
theorem bfs_shut {ss : List T3} {o : List Int} {m : Nat} (h : (bfs ss o m).length ≤ m) {s : Int} (hs : s ∈ bfs ss o m) {y : Int} (hy : y ∈ begS ss s 0 ∨ y ∈ begS ss s 1) : y ∈ bfs ss o m := by
  obtain ⟨i, hi, e⟩ := List.getElem_of_mem hs
  have im : i < m := by omega
  have gi : (bfs ss o i)[i]? = some s := by
    by_cases c : i < (bfs ss o i).length
    · obtain ⟨r, er⟩ := bfs_pres ss o i (m - i)
      rw [show i + (m - i) = m by omega] at er
      rw [List.getElem?_eq_getElem c]
      have : (bfs ss o m)[i]? = some s := by rw [List.getElem?_eq_getElem hi, e]
      rw [er, List.getElem?_append_left c, List.getElem?_eq_getElem c] at this
      exact this
    · have st := bfs_stop (ss := ss) (o := o) (k := i) (by omega) (m - i)
      rw [show i + (m - i) = m by omega] at st
      rw [st] at hi
      omega
  have g1 : y ∈ bfs ss o (i + 1) := by
    rw [bfs_more gi]
    exact grow_mem.mpr (.inr hy)
  obtain ⟨r, er⟩ := bfs_pres ss o (i + 1) (m - (i + 1))
  rw [show i + 1 + (m - (i + 1)) = m by omega] at er
  rw [er]
  exact List.mem_append_left _ g1
theorem bfs_from {ss : List T3} {o : List Int} {x : Int} (h : x ∈ o) (k : Nat) : x ∈ bfs ss o k := by
  obtain ⟨r, e⟩ := bfs_pres ss o 0 k
  rw [Nat.zero_add] at e
  rw [e]
  exact List.mem_append_left _ h
/-! ### places -/
def idO : List Int → Int → Nat
  | [], _ => 0
  | y :: l, x => if y = x then 0 else idO l x + 1
theorem idO_get : ∀ {o : List Int} {x : Int}, x ∈ o → o[idO o x]? = some x
  | y :: l, x, h => by
    unfold idO
    split
    · rename_i e; rw [e]; rfl
    · rename_i e
      rcases List.mem_cons.mp h with z | z
      · exact absurd z.symm e
      · rw [List.getElem?_cons_succ]; exact idO_get z
theorem idO_lt {o : List Int} {x : Int} (h : x ∈ o) : idO o x < o.length := (List.getElem?_eq_some_iff.mp (idO_get h)).1
theorem idO_first : ∀ {o : List Int} {x : Int} {m : Nat}, m < idO o x → ∀ z, o[m]? = some z → z ≠ x
  | [], x, m, h, z, e => by cases e
  | y :: l, x, m, h, z, e => by
    unfold idO at h
    split at h
    · omega
    · rename_i n
      cases m with
      | zero => cases e; exact n
      | succ m => exact idO_first (o := l) (m := m) (by omega) z (by simpa using e)
theorem idO_at {o : List Int} (nd : o.Nodup) {i : Nat} {x : Int} (h : o[i]? = some x) : idO o x = i := by
  have h2 := idO_get (List.mem_of_getElem? h)
  obtain ⟨l1, e1⟩ := List.getElem?_eq_some_iff.mp h
  obtain ⟨l2, e2⟩ := List.getElem?_eq_some_iff.mp h2
  exact (List.getElem_inj nd).mp (e2.trans e1.symm)
theorem idO_inj {o : List Int} {x y : Int} (hx : x ∈ o) (hy : y ∈ o) (e : idO o x = idO o y) : x = y := by
  have := idO_get hx
  rw [e, idO_get hy] at this
  exact (Option.some.inj this).symm
/-- the world of what is reached -/
def stO (o : List Int) (k : Int) : Int := (o[k.toNat]?).getD 0
def ptS (ss : List T3) (o : List Int) : List T3 := (ss.filter fun p => sIn o p.1).map fun p => ((idO o p.1 : Int), p.2.1, (idO o p.2.2 : Int))
theorem ptS_snoc (ss : List T3) (p : T3) (o : List Int) : ptS (ss ++ [p]) o = ptS ss o ++ (if sIn o p.1 = true then [((idO o p.1 : Int), p.2.1, (idO o p.2.2 : Int))] else []) := by
  unfold ptS
  rw [List.filter_append, List.map_append]
  congr 1
  cases c : sIn o p.1
  · simp [c]
  · simp [c]
theorem stO_nat {o : List Int} {i : Nat} {x : Int} (h : o[i]? = some x) : stO o (i : Int) = x := by
  unfold stO
  rw [Int.toNat_natCast, h]
  rfl
theorem stO_id {o : List Int} {x : Int} (h : x ∈ o) : stO o (idO o x : Int) = x := stO_nat (idO_get h)
theorem stO_mem {o : List Int} {k : Int} (h0 : 0 ≤ k) (h1 : k < (o.length : Int)) : stO o k ∈ o ∧ idO o (stO o k) = idO o (stO o k) := by
  refine ⟨?_, rfl⟩
  have l : k.toNat < o.length := by omega
  unfold stO
  rw [List.getElem?_eq_getElem l]
  exact List.getElem_mem l
theorem stO_back {o : List Int} (nd : o.Nodup) {k : Int} (h0 : 0 ≤ k) (h1 : k < (o.length : Int)) : (idO o (stO o k) : Int) = k := by
  have l : k.toNat < o.length := by omega
  have : stO o k = o[k.toNat] := by unfold stO; rw [List.getElem?_eq_getElem l]; rfl
  rw [this, idO_at nd (List.getElem?_eq_getElem l)]
  omega
theorem mem_beg {ss : List T3} {s l y : Int} : y ∈ begS ss s l ↔ (s, l, y) ∈ ss := by
  unfold begS
  rw [List.mem_map]
  constructor
  · rintro ⟨⟨a, b, c⟩, h, rfl⟩
    have := List.mem_filter.mp h
    rw [Bool.and_eq_true, decide_eq_true_eq, decide_eq_true_eq] at this
    obtain ⟨h1, rfl, rfl⟩ := this
    exact h1
  · intro h
    exact ⟨_, List.mem_filter.mpr ⟨h, by rw [Bool.and_eq_true, decide_eq_true_eq, decide_eq_true_eq]; exact ⟨rfl, rfl⟩⟩, rfl⟩
theorem mem_ptS {ss : List T3} {o : List Int} {q : T3} : q ∈ ptS ss o ↔ ∃ p ∈ ss, p.1 ∈ o ∧ q = ((idO o p.1 : Int), p.2.1, (idO o p.2.2 : Int)) := by
  unfold ptS
  rw [List.mem_map]
  constructor
  · rintro ⟨p, hp, rfl⟩
    exact ⟨p, (List.mem_filter.mp hp).1, sIn_iff.mp (List.mem_filter.mp hp).2, rfl⟩
  · rintro ⟨p, hp, ho, rfl⟩
    exact ⟨p, List.mem_filter.mpr ⟨hp, sIn_iff.mpr ho⟩, rfl⟩
theorem ptS_nd {ss : List T3} {o : List Int} (nd : ss.Nodup) (shut : ∀ p ∈ ss, p.1 ∈ o → p.2.2 ∈ o) : (ptS ss o).Nodup := by
  unfold ptS
  rw [List.Nodup, List.pairwise_map]
  refine (List.Pairwise.sublist List.filter_sublist nd).imp_of_mem fun {a b} ha hb ne e => ne ?_
  have ma := List.mem_filter.mp ha
  have mb := List.mem_filter.mp hb
  have a1 := sIn_iff.mp ma.2
  have b1 := sIn_iff.mp mb.2
  have e1 : (idO o a.1 : Int) = (idO o b.1 : Int) := congrArg Prod.fst e
  have e2 : a.2.1 = b.2.1 := congrArg (fun q => q.2.1) e
  have e3 : (idO o a.2.2 : Int) = (idO o b.2.2 : Int) := congrArg (fun q => q.2.2) e
  have q1 := idO_inj a1 b1 (by omega)
  have q3 := idO_inj (shut _ ma.1 a1) (shut _ mb.1 b1) (by omega)
  exact Prod.ext q1 (Prod.ext e2 q3)
/-- weakly in order and none twice: in order -/
theorem strict_of {a : List T3} (h : a.Pairwise fun x y => lex3 y x = false) (nd : a.Nodup) : a.Pairwise fun x y => lex3 x y = true :=
  (List.pairwise_and_iff.mpr ⟨h, nd⟩).imp fun {x y} z => by
    cases c : lex3 x y with
    | true => rfl
    | false => exact absurd (lex3_anti c z.1) z.2
theorem strict_nd {a : List T3} (h : a.Pairwise fun x y => lex3 x y = true) : a.Nodup := h.imp fun {x y} z e => by
  rw [e, lex3_irr] at z
  cases z
/-- the part of a world lies in it -/
theorem emb_part {W : Wd} {o : List Int} {ss : List T3} (O : Ord W.n o) (hw : ∀ p ∈ W.steps, 0 ≤ p.2.1 ∧ p.2.1 < 2) (pe : ss.Perm (ptS W.steps o)) (shut : ∀ p ∈ W.steps, p.1 ∈ o → p.2.2 ∈ o) :
    Emb ⟨o.map W.at, ss⟩ W (stO o) := by
  have nV : ∀ k : Int, k < ((Wd.n ⟨o.map W.at, ss⟩ : Nat) : Int) → k < (o.length : Int) := fun k h => by
    unfold Wd.n at h
    rw [List.length_map] at h
    exact h
  refine ⟨fun k h0 h1 => O.ra _ (stO_mem h0 (nV k h1)).1, fun k h0 h1 x => ?_, fun k h0 h1 l j hj => ?_, fun k h0 h1 l y hy => ?_⟩
  · have l : k.toNat < o.length := by have := nV k h1; omega
    have e : Wd.at ⟨o.map W.at, ss⟩ k = W.at (stO o k) := by
      show ((o.map W.at)[k.toNat]?).getD [] = _
      unfold stO
      rw [List.getElem?_map, List.getElem?_eq_getElem l]
      rfl
    rw [e]
  · rw [beh_begS, mem_beg] at hj
    obtain ⟨p, hp, ho, e⟩ := mem_ptS.mp (pe.mem_iff.mp hj)
    simp only [Prod.mk.injEq] at e
    obtain ⟨e1, e2, e3⟩ := e
    have s1 := shut p hp ho
    have := idO_lt s1
    refine ⟨by omega, by unfold Wd.n; rw [List.length_map]; omega, ?_⟩
    rw [beh_begS, mem_beg, e1, e2, e3, stO_id ho, stO_id s1]
    exact hp
  · rw [beh_begS, mem_beg] at hy
    have ho := (stO_mem h0 (nV k h1)).1
    have s1 := shut _ hy ho
    refine ⟨(idO o y : Int), ?_, stO_id s1⟩
    rw [beh_begS, mem_beg]
    refine pe.mem_iff.mpr (mem_ptS.mpr ⟨_, hy, ho, ?_⟩)
    rw [stO_back O.nd h0 (nV k h1)]
/-! ### two side by side -/
def mvS (n : Int) (ss : List T3) : List T3 := ss.map fun p => (p.1 + n, p.2.1, p.2.2 + n)
theorem at_left {A B : Wd} {ss : List T3} {k : Int} (h0 : 0 ≤ k) (h1 : k < (A.n : Int)) : Wd.at ⟨A.facts ++ B.facts, ss⟩ k = A.at k := by
  unfold Wd.n at h1
  show ((A.facts ++ B.facts)[k.toNat]?).getD [] = _
  rw [List.getElem?_append_left (by omega)]
  rfl
theorem at_right {A B : Wd} {ss : List T3} {k : Int} (h0 : 0 ≤ k) : Wd.at ⟨A.facts ++ B.facts, ss⟩ (k + (A.n : Int)) = B.at k := by
  show ((A.facts ++ B.facts)[(k + (A.n : Int)).toNat]?).getD [] = _
  unfold Wd.n
  rw [List.getElem?_append_right (by omega), show (k + (A.facts.length : Int)).toNat - A.facts.length = k.toNat by omega]
  rfl
theorem emb_left {A B : Wd} (hA : ∀ p ∈ A.steps, 0 ≤ p.2.2 ∧ p.2.2 < (A.n : Int)) (hB : ∀ p ∈ B.steps, 0 ≤ p.1) : Emb A ⟨A.facts ++ B.facts, A.steps ++ mvS A.n B.steps⟩ (fun k => k) := by
  have nW : Wd.n ⟨A.facts ++ B.facts, A.steps ++ mvS A.n B.steps⟩ = A.n + B.n := List.length_append
  refine ⟨fun k h0 h1 => ⟨h0, by rw [nW]; omega⟩, fun k h0 h1 x => by rw [at_left h0 h1], fun k h0 h1 l j hj => ?_, fun k h0 h1 l y hy => ⟨y, ?_, rfl⟩⟩
  · rw [beh_begS, mem_beg] at hj
    have := hA _ hj
    refine ⟨this.1, this.2, ?_⟩
    rw [beh_begS, mem_beg]
    exact List.mem_append_left _ hj
  · rw [beh_begS, mem_beg] at hy ⊢
    rcases List.mem_append.mp hy with z | z
    · exact z
    · obtain ⟨p, hp, e⟩ := List.mem_map.mp z
      simp only [Prod.mk.injEq] at e
      have := hB p hp
      omega
theorem emb_right {A B : Wd} (hA : ∀ p ∈ A.steps, p.1 < (A.n : Int)) (hB : ∀ p ∈ B.steps, 0 ≤ p.2.2 ∧ p.2.2 < (B.n : Int)) : Emb B ⟨A.facts ++ B.facts, A.steps ++ mvS A.n B.steps⟩ (fun k => k + (A.n : Int)) := by
  have nW : Wd.n ⟨A.facts ++ B.facts, A.steps ++ mvS A.n B.steps⟩ = A.n + B.n := List.length_append
  refine ⟨fun k h0 h1 => ⟨by omega, by rw [nW]; omega⟩, fun k h0 h1 x => by rw [at_right h0], fun k h0 h1 l j hj => ?_, fun k h0 h1 l y hy => ?_⟩
  · rw [beh_begS, mem_beg] at hj
    have := hB _ hj
    refine ⟨this.1, this.2, ?_⟩
    rw [beh_begS, mem_beg]
    exact List.mem_append_right _ (List.mem_map.mpr ⟨_, hj, rfl⟩)
  · rw [beh_begS, mem_beg] at hy
    rcases List.mem_append.mp hy with z | z
    · have := hA _ z
      simp only at this
      omega
    · obtain ⟨p, hp, e⟩ := List.mem_map.mp z
      obtain ⟨x, y', z'⟩ := p
      simp only [Prod.mk.injEq] at e
      obtain ⟨e1, e2, e3⟩ := e
      refine ⟨z', ?_, e3⟩
      rw [beh_begS, mem_beg]
      have : x = k := by omega
      subst this
      subst e2
      exact hp
/-- what holds in both holds in each -/
theorem both_split {m n : Nat} {Z X Y : List Int} (hZ : Norm (m + n) Z) (hX : X = pull m (fun k => k) Z) (hY : Y = pull n (fun k => k + (m : Int)) Z) : Z = X ++ Y.map fun y => y + (m : Int) := by
  rw [hX, hY]
  have e : rng (m + n) = rng m ++ (rng n).map fun y => y + (m : Int) := by
    unfold rng
    rw [List.range_add, List.map_append, List.map_map, List.map_map]
    congr 1
    refine List.map_congr_left fun i _ => ?_
    show ((m + i : Nat) : Int) = ((i : Nat) : Int) + (m : Int)
    omega
  have e2 : ∀ l : List Int, (l.map fun y => y + (m : Int)).filter (sIn Z) = (l.filter fun k => sIn Z (k + (m : Int))).map fun y => y + (m : Int) := fun l => by
    rw [List.filter_map]
    rfl
  have : Z = (rng (m + n)).filter (sIn Z) := hZ
  rw [e, List.filter_append, e2] at this
  exact this
theorem both_up {A B : Wd} (uA : A.steps.Pairwise fun x y => lex3 x y = true) (uB : B.steps.Pairwise fun x y => lex3 x y = true) (hA : ∀ p ∈ A.steps, p.1 < (A.n : Int)) (hB : ∀ p ∈ B.steps, 0 ≤ p.1) :
    (A.steps ++ mvS A.n B.steps).Pairwise fun x y => lex3 x y = true := by
  refine List.pairwise_append.mpr ⟨uA, ?_, fun p hp q hq => ?_⟩
  · unfold mvS
    rw [List.pairwise_map]
    refine uB.imp fun {a b} h => ?_
    rw [lex3_iff] at h ⊢
    unfold Lt3 at *
    simp only
    omega
  · obtain ⟨r, hr, rfl⟩ := List.mem_map.mp hq
    have := hA p hp
    have := hB r hr
    rw [lex3_iff]
    unfold Lt3
    simp only
    omega
end Fw

set_option maxRecDepth 100000
set_option maxHeartbeats 4000000
namespace Fw
open PySem PySem.Spec PyProof.Rows L2
section
variable {P : Program} {w : World} {K : PySem.W.Frag} {mg : Str → Option Value} {base : Heap} {C J B NC FE OD : Addr}
theorem all_value {f : Addr} {fd : FuncData} (FF : Fun K "_law_value" "_law_value" s_law_value f fd) (b : Binds K fd a_law_value []) (m : mg "_law_value" = some (.ref f)) (T : Txt K mg C J B)
    (h_law_behind : Has P w K mg base "_law_behind" 1 a_law_behind (spBehind K)) : ∀ n, Has P w K mg base "_law_value" (n + 2) a_law_value (spVal K n)
  | 0 => ⟨f, fd, m, FF.kp, b, noneOk⟩
  | n + 1 => ⟨f, fd, m, FF.kp, b, ok_law_value n FF T h_law_behind (all_value FF b m T h_law_behind n)⟩
def spTruth (K : PySem.W.Frag) : Sp := fun vs H Q _ => ∃ (v sv : V) (W : Wd) (t : F) (e : Int → List Int), vs = [v, sv] ∧ WSt K H v W ∧ W.Fix ∧ IsF K H sv t ∧ t.depth ≤ 40 ∧ fv t = [] ∧
  ∀ (a : Addr) H', Same H H' → IL H' a (val W t e) → Q (.ref a) H'
theorem ok_law_truth {f : Addr} {fd : FuncData} (FF : Fun K "_law_truth" "_law_truth" s_law_truth f fd) (T : Txt K mg C J B) (h_law_value : Has P w K mg base "_law_value" 42 a_law_value (spVal K 40)) : FnOk P w K mg base CX0 43 f fd a_law_truth (spTruth K) := by
  refine FF.ok sc_law_truth (fun vs H Q E h => ?_) (fun cdv A outer s H vs Q E hr h => ?_)
  · obtain ⟨v, sv, W, t, e, rfl, _⟩ := h
    rfl
  · obtain ⟨v, sv, W, t, e, rfl, hW, fit, ht, hdep, hc, k⟩ := h
    refine ⟨_, (pss_one (ps_ret (pe_callH h_law_value (hr.mono (by omega)) (pa_cons (pv 0) (pa_cons (pv 1) (pa_cons pe_dnewK pa_nil)))))), ?_⟩
    refine ⟨v, rfl, sv, rfl, fun na hna => ⟨v, sv, W, t, na, [], e, rfl, hW.same (Same.new hna), fit, ht.same (Same.new hna), hdep, upd_same, by simp, List.nodup_nil, fun x hx => ?_, fun a H' s' ha => ?_⟩⟩
    · rw [hc] at hx
      cases hx
    · exact k a H' ((Same.new hna).trans s') ha
end
end Fw

set_option maxRecDepth 100000
set_option maxHeartbeats 4000000
namespace Fw
open PySem PySem.Spec PyProof.Rows L2 GxR
/-- a row of ints, or of triples, and whether it ascends -/
inductive RowA (H : Hp) : List V → Bool → Prop
  | i (ns : List Int) : RowA H (ns.map V.int) (asc ltI ns)
  | t {as : List Addr} {ts : List T3} : PAt H as ts → RowA H (as.map V.ref) (asc lex3 ts)
abbrev genSc : Stmt → Scope
  | .FunctionDef (body := [.Return (some (.Call _ [.GeneratorExp _ _ sc _] _ _)) _]) .. => sc
  | _ => default
abbrev genEl : Stmt → Expr
  | .FunctionDef (body := [.Return (some (.Call _ [.GeneratorExp e _ _ _] _ _)) _]) .. => e
  | _ => .Constant .none 0 ⟨0, 0, 0, 0⟩
theorem asc_free : ∀ y ∈ (genSc s_ascends).names, y.2 ≠ .free := by decide +kernel
theorem map_tail {α β : Type} (f : α → β) : ∀ l : List α, (l.map f).tail = l.tail.map f
  | [] => rfl
  | _ :: _ => rfl
theorem cut_tail (xs : List V) : cutV xs (some 1) none = xs.tail := by
  cases xs with
  | nil => rfl
  | cons x xs =>
    unfold cutV
    rw [HT.sIx_none, show (1 : Int) = ((1 : Nat) : Int) from rfl, HT.sIx_nat]
    rw [List.length_cons, Nat.min_eq_left (by omega)]
    show (xs.take (xs.length + 1 - 1)) = xs
    rw [Nat.add_sub_cancel, List.take_length]
section
variable {P : Program} {w : World} {K : PySem.W.Frag} {mg : Str → Option Value} {base : Heap} {C J B NC WC cA tA : Addr} {t1 t2 t3 : Tok}
def spAsc (K : PySem.W.Frag) (tA : Addr) : Sp := fun vs H Q _ => ∃ (a : Addr) (xs : List V) (r : Bool), vs = [.ref a] ∧ SqT K H a xs ∧ TabG H tA ∧ RowA H xs r ∧ ∀ H', Tb tA H H' → Q (.bl r) H'
theorem ok_ascends {f : Addr} {fd : FuncData} (FF : FunC K "ascends" "ascends" s_ascends f fd cA) (T : Txt K mg C J B) (TB : TabB base mg cA tA) : FnOk P w K mg base CX0 4 f fd a_ascends (spAsc K tA) := by
  refine FF.ok sc_ascends (fun vs H Q E h => ?_) (fun A outer s H vs Q E hr h => ?_)
  · obtain ⟨a, xs, r, rfl, _⟩ := h
    rfl
  · obtain ⟨a, xs, r, rfl, sq, tg, ra, k⟩ := h
    have gs2 : GenS2 (envOfC "ascends" (defScope s_ascends) s.heap.objs.size f (.ref cA)) (genSc s_ascends) "low" "high" := ⟨rfl, rfl, by decide +kernel, rfl, rfl, rfl, fun y hy e => absurd e (asc_free y hy)⟩
    refine ⟨_, (pss_one (ps_ret (pe_allZ hr TB rfl gs2 (by decide) rfl T.z_all rfl T.z_zip (pa_cons (pv 0) (pa_cons (pe_slice sl_tupA (pv 0) (po_some pe_int) po_none) pa_nil))))), ?_⟩
    -- from the tail on, wherever it stands
    have go : ∀ (q : Addr) (G : Hp), Same H G → SqT K G q xs.tail → ∃ rs : List Bool, EltsZ (cxOf CX0 P w K mg base n_ascends "ascends" (defScope s_ascends) f (.ref cA) A outer s H E).nox (genSc s_ascends) "low" "high" (genEl s_ascends) tA G xs xs.tail rs ∧ rs.all id = r := by
      intro q G sG sqt
      cases ra with
      | i ns =>
        refine ⟨adj ltI ns, ⟨?_, fun s' pins σ I i x y r hx hy hr' => ?_⟩, adj_asc ltI ns⟩
        · rw [adj_len, map_tail, List.length_map, List.length_map]
        · obtain ⟨x', y', e1, e2, rfl⟩ := adj_get hr'
          rw [map_tail, List.getElem?_map, e2] at hy
          rw [List.getElem?_map, e1] at hx
          cases hx
          cases hy
          exact eltZ_lt_int x' y' rfl rfl rfl
      | @t as ts pa =>
        have pa' : PAt G as ts := pa.map fun a o _ e => sG a o e
        refine ⟨adj lex3 ts, ⟨?_, fun s' pins σ I i x y r hx hy hr' => ?_⟩, adj_asc lex3 ts⟩
        · rw [adj_len, map_tail, List.length_map, List.length_map, List.length_tail, List.length_tail, pa.1]
        · obtain ⟨x', y', e1, e2, rfl⟩ := adj_get hr'
          rw [map_tail, List.getElem?_map] at hy
          rw [List.getElem?_map] at hx
          cases ex : as[i]? with
          | none => rw [ex] at hx; cases hx
          | some u =>
          cases ey : as.tail[i]? with
          | none => rw [ey] at hy; cases hy
          | some v =>
          rw [ex] at hx
          rw [ey] at hy
          cases hx
          cases hy
          rw [List.getElem?_tail] at ey e2
          exact eltZ_lt_trip I (tg.same sG) (by have := hr.un; show (A.deeper (envOfC "ascends" (defScope s_ascends) s.heap.objs.size f (.ref cA))).units + 8 < _; omega) (pa'.2 _ _ _ ex e1) (pa'.2 _ _ _ ey e2) rfl rfl rfl
    refine ⟨.ref a, rfl, .ref a, rfl, 1, rfl, a, xs, rfl, sq, fun hw => ?_, fun _ q hq => ?_⟩
    · have e : xs.tail = xs := by
        have h1 := hw.1
        cases xs with
        | nil => rfl
        | cons x xs =>
          rw [show (1 : Int) = ((1 : Nat) : Int) from rfl, HT.sIx_nat, List.length_cons, Nat.min_eq_left (by omega)] at h1
          cases h1
      obtain ⟨rs, el, er⟩ := go a H (fun _ _ e => e) (by rw [e]; exact sq)
      rw [e] at el
      refine ⟨a, a, xs, xs, rs, rfl, .inr ⟨sq, sq⟩, tg, el, fun H2 t2 => ?_⟩
      rw [er]
      exact k H2 (tabbed_tb t2)
    · have s1 := Same.new (o := .tup (cutV xs (some 1) none)) hq
      obtain ⟨rs, el, er⟩ := go q _ s1 (SqT.of (by rw [upd_same, cut_tail]))
      refine ⟨a, q, xs, xs.tail, rs, rfl, .inr ⟨SqT.same s1 sq, SqT.of (by rw [upd_same, cut_tail])⟩, tg.same s1, el, fun H2 t2 => ?_⟩
      rw [er]
      exact k H2 ((Tb.same s1 tg).trans (tabbed_tb t2))
end
end Fw

set_option maxRecDepth 100000
set_option maxHeartbeats 4000000
namespace Fw
open PySem PySem.Spec PyProof.Rows L2 GxR
def RAt (K : PySem.W.Frag) (H : Hp) (as : List Addr) (Xs : List (List Int)) : Prop := as.length = Xs.length ∧ ∀ (i : Nat) (a : Addr) (X : List Int), as[i]? = some a → Xs[i]? = some X → SqT K H a (X.map V.int)
def wf (l f : Int) (ta tb : Addr) : List (Str × V) := [("labels", .int l), ("facts", .int f), ("states", .ref ta), ("steps", .ref tb)]
/-- a world being made: its parts, without its ends -/
structure WoA (K : PySem.W.Frag) (WC : Addr) (H : Hp) (p dx : Addr) (l f : Int) (ta tb : Addr) (ras as : List Addr) (Xs : List (List Int)) (ss : List T3) : Prop where
  ob : H p = some (.ins WC dx (wf l f ta tb))
  st : SqT K H ta (ras.map V.ref)
  rw : RAt K H ras Xs
  sp : SqT K H tb (as.map V.ref)
  tr : PAt H as ss
theorem RAt.tb {K : PySem.W.Frag} {P : Addr} {H H' : Hp} {as : List Addr} {Xs : List (List Int)} (g : TabG H P) (t : Tb P H H') (h : RAt K H as Xs) : RAt K H' as Xs := ⟨h.1, fun i a X e1 e2 => SqT.tb g t (h.2 i a X e1 e2)⟩
theorem PAt.tb {P : Addr} {H H' : Hp} {as : List Addr} {ts : List T3} (g : TabG H P) (t : Tb P H H') (h : PAt H as ts) : PAt H' as ts :=
  ⟨h.1, fun i a p e1 e2 => t.1 _ _ (g.ne (h.2 i a p e1 e2) (by intro _ z; cases z)) (h.2 i a p e1 e2)⟩
theorem WoA.tb {K : PySem.W.Frag} {WC P : Addr} {H H' : Hp} {p dx : Addr} {l f : Int} {ta tb : Addr} {ras as : List Addr} {Xs : List (List Int)} {ss : List T3} (g : TabG H P) (t : Tb P H H') (h : WoA K WC H p dx l f ta tb ras as Xs ss) : WoA K WC H' p dx l f ta tb ras as Xs ss :=
  ⟨t.1 _ _ (g.ne h.ob (by intro _ z; cases z)) h.ob, SqT.tb g t h.st, h.rw.tb g t, SqT.tb g t h.sp, h.tr.tb g t⟩
theorem all_take {α : Type} {l : List α} {q : α → Bool} (h : ∀ (i : Nat) (x : α), l[i]? = some x → q x = true) : l.all q = true := List.all_eq_true.mpr fun x hx => by
  obtain ⟨i, hi, e⟩ := List.getElem_of_mem hx
  exact h i x (by rw [List.getElem?_eq_getElem hi, e])
theorem all_no {α : Type} {l : List α} {q : α → Bool} {i : Nat} {x : α} (h : l[i]? = some x) (n : q x = false) : l.all q = false := by
  cases e : l.all q with
  | false => rfl
  | true =>
    have := List.all_eq_true.mp e x (List.mem_of_getElem? h)
    rw [n] at this
    cases this
theorem RAt.nth {K : PySem.W.Frag} {H : Hp} {as : List Addr} {Xs : List (List Int)} (h : RAt K H as Xs) {i : Nat} {x : V} (e : (as.map V.ref)[i]? = some x) : ∃ a X, x = .ref a ∧ as[i]? = some a ∧ Xs[i]? = some X ∧ SqT K H a (X.map V.int) := by
  rw [List.getElem?_map] at e
  cases q : as[i]? with
  | none => rw [q] at e; cases e
  | some a =>
    rw [q] at e
    have il : i < Xs.length := by rw [← h.1]; exact (List.getElem?_eq_some_iff.mp q).1
    exact ⟨a, Xs[i], (Option.some.inj e).symm, rfl, List.getElem?_eq_getElem il, h.2 i a _ q (List.getElem?_eq_getElem il)⟩
theorem PAt.nth {H : Hp} {as : List Addr} {ss : List T3} (h : PAt H as ss) {i : Nat} {x : V} (e : (as.map V.ref)[i]? = some x) : ∃ a p, x = .ref a ∧ as[i]? = some a ∧ ss[i]? = some p ∧ H a = some (.tup [.int p.1, .int p.2.1, .int p.2.2]) := by
  rw [List.getElem?_map] at e
  cases q : as[i]? with
  | none => rw [q] at e; cases e
  | some a =>
    rw [q] at e
    have il : i < ss.length := by rw [← h.1]; exact (List.getElem?_eq_some_iff.mp q).1
    exact ⟨a, ss[i], (Option.some.inj e).symm, rfl, List.getElem?_eq_getElem il, h.2 i a _ q (List.getElem?_eq_getElem il)⟩
section
variable {P : Program} {w : World} {K : PySem.W.Frag} {mg : Str → Option Value} {base : Heap} {C J B NC WC cA tA : Addr} {t1 t2 t3 : Tok}
def spCkN (NC : Addr) : Sp := fun vs H Q E => ∃ l f : Int, vs = [.int l, .int f] ∧ (okNums l f = true → Q .non H) ∧ (okNums l f = false → E (.ref NC) none H)
theorem ok_check_numbers {f : Addr} {fd : FuncData} (FF : Fun K "check_numbers" "check_numbers" s_check_numbers f fd) (T : Txt K mg C J B) (TE : TxtEW K mg NC) (TR : TxtL mg t1 t2 t3)
    (h_is_number : Has P w K mg base "is_number" 1 a_is_number spNum) : FnOk P w K mg base (L2.CX P w) 2 f fd a_check_numbers (spCkN NC) := by
  refine FF.okX sc_check_numbers (fun vs H Q E h => ?_) (fun cdv A outer s H vs Q E hr h => ?_)
  · obtain ⟨l, f, rfl, _⟩ := h
    rfl
  · obtain ⟨l, f, rfl, k1, k2⟩ := h
    refine ⟨_, (pss_cons (ps_if (pt_not (pt_val (pe_callH h_is_number (hr.mono (by omega)) (pa_cons (pv 0) (pa_cons pe_int (pa_cons (pe_glob rfl TR.m_MOST_LABELS (show RelV (.int 3) _ from ⟨_, rfl⟩)) pa_nil)))))) (pss_one (ps_raise rfl (takes_of rfl rfl rfl rfl) (pmk_own PySem.F.excBase_ValueError TE.xC TE.gC TE.kC (raises_own TE.bC TE.tC) (by exact rfl)))) pss_nil)
      (pss_one (ps_if (pt_not (pt_val (pe_callH h_is_number (hr.mono (by omega)) (pa_cons (pv 1) (pa_cons pe_int (pa_cons (pe_glob rfl TR.m_MOST_FACTS (show RelV (.int 6) _ from ⟨_, rfl⟩)) pa_nil)))))) (pss_one (ps_raise rfl (takes_of rfl rfl rfl rfl) (pmk_own PySem.F.excBase_ValueError TE.xC TE.gC TE.kC (raises_own TE.bC TE.tC) (by exact rfl)))) pss_nil))), ?_⟩
    unfold okNums at k1 k2
    refine ⟨.int l, rfl, l, 1, 3, rfl, _, rfl, ?_⟩
    cases c1 : decide (1 ≤ l) && decide (l ≤ 3) with
    | false =>
      rw [c1] at k2
      exact iteT (k2 rfl)
    | true =>
      rw [c1, Bool.true_and] at k1 k2
      refine iteF ⟨.int f, rfl, f, 0, 6, rfl, _, rfl, ?_⟩
      cases c2 : decide (0 ≤ f) && decide (f ≤ 6) with
      | false => exact iteT (k2 c2)
      | true => exact iteF (k1 c2)
def spCkS (K : PySem.W.Frag) (NC WC tA : Addr) : Sp := fun vs H Q E => ∃ (p dx : Addr) (l f : Int) (ta tb : Addr) (ras as : List Addr) (Xs : List (List Int)) (ss : List T3), vs = [.ref p] ∧ WoA K WC H p dx l f ta tb ras as Xs ss ∧ TabG H tA ∧ Xs.length ≤ 1000 ∧
  (okRows f Xs = true → ∀ H', Tb tA H H' → Q .non H') ∧ (okRows f Xs = false → ∀ H', E (.ref NC) none H')
theorem ok_check_states {f : Addr} {fd : FuncData} (FF : Fun K "check_states" "check_states" s_check_states f fd) (T : Txt K mg C J B) (TC : TxtC K WC) (TE : TxtEW K mg NC) (TR : TxtL mg t1 t2 t3)
    (h_is_number : Has P w K mg base "is_number" 1 a_is_number spNum) (h_ascends : Has P w K mg base "ascends" 4 a_ascends (spAsc K tA)) : FnOk P w K mg base (L2.CX P w) 5 f fd a_check_states (spCkS K NC WC tA) := by
  refine FF.okX sc_check_states (fun vs H Q E h => ?_) (fun cdv A outer s H vs Q E hr h => ?_)
  · obtain ⟨p, dx, l, f, ta, tb, ras, as, Xs, ss, rfl, _⟩ := h
    rfl
  · obtain ⟨p, dx, l, f, ta, tb, ras, as, Xs, ss, rfl, W, tg, hsz, k1, k2⟩ := h
    refine ⟨_, (pss_cons (ps_if (pt_not (pt_val (pe_callH h_is_number (hr.mono (by omega)) (pa_cons (pe_callB call_len_seq rfl T.z_len (by decide +kernel) (pa_cons (pe_fld (pv 0) rfl) pa_nil)) (pa_cons pe_int (pa_cons (pe_glob rfl TR.m_MOST_STATES (show RelV (.int 400) _ from ⟨_, rfl⟩)) pa_nil)))))) (pss_one (ps_raise rfl (takes_of rfl rfl rfl rfl) (pmk_own PySem.F.excBase_ValueError TE.xC TE.gC TE.kC (raises_own TE.bC TE.tC) (by exact rfl)))) pss_nil)
      (pss_one (ps_for (passes_of rfl) rfl (pi_tup (pe_fld (pv 0) rfl)) (pg_name (i := 1) sc_check_states.nd rfl (.inl rfl)) (pss_cons (ps_for (passes_of rfl) rfl (pi_tup (pv 1)) (pg_name (i := 2) sc_check_states.nd rfl (.inl rfl)) (pss_one (ps_if (pt_not (pt_val (pe_callH h_is_number (hr.mono (by omega)) (pa_cons (pv 2) (pa_cons pe_int (pa_cons (pe_op op_sub (pe_fld (pv 0) rfl) pe_int) pa_nil)))))) (pss_one (ps_raise rfl (takes_of rfl rfl rfl rfl) (pmk_own PySem.F.excBase_ValueError TE.xC TE.gC TE.kC (raises_own TE.bC TE.tC) (by exact rfl)))) pss_nil)))
      (pss_one (ps_if (pt_not (pt_val (pe_callH h_ascends (hr.mono (by omega)) (pa_cons (pv 1) pa_nil)))) (pss_one (ps_raise rfl (takes_of rfl rfl rfl rfl) (pmk_own PySem.F.excBase_ValueError TE.xC TE.gC TE.kC (raises_own TE.bC TE.tC) (by exact rfl)))) pss_nil)))))), ?_⟩
    unfold okRows at k1 k2
    have len : (ras.map V.ref).length = Xs.length := by rw [List.length_map, W.rw.1]
    refine ⟨.ref p, rfl, p, WC, dx, _, .ref ta, rfl, W.ob, TC.cl, TC.nS, rfl, ta, _, rfl, .inr W.st, ?_⟩
    rw [len]
    refine ⟨Xs.length, 1, 400, rfl, _, rfl, ?_⟩
    cases c1 : decide (1 ≤ (Xs.length : Int)) && decide ((Xs.length : Int) ≤ 400) with
    | false =>
      rw [c1] at k2
      exact iteT (k2 rfl _)
    | true =>
      rw [c1, Bool.true_and] at k1 k2
      refine iteF ?_
      refine ⟨.ref p, rfl, p, WC, dx, _, .ref ta, rfl, W.ob, TC.cl, TC.nS, rfl, ta, rfl, ⟨_, W.st⟩, ?_⟩
      refine for_tup (xs := ras.map V.ref) (fun i σ G => ∃ (y1 y2 : Option V), σ = [some (.ref p), y1, y2] ∧ Tb tA H G ∧ ∀ j X, j < i → Xs[j]? = some X → okRow f X = true)
        ⟨none, none, rfl, Tb.refl tg, fun j X hj => absurd hj (Nat.not_lt_zero _)⟩ (fun i σ G _ ⟨_, _, _, t, _⟩ => SqT.tb tg t W.st) ?_ ?_
      · rintro i x σ G hx ⟨y1, y2, rfl, tG, pre⟩
        have WG := W.tb tg tG
        obtain ⟨a, X, rfl, ha, hX, sqX⟩ := WG.rw.nth hx
        have bad : okRow f X = false → ∀ H', E (.ref NC) none H' := fun n => k2 (all_no hX n)
        unfold okRow at bad
        refine ⟨.ref a, rfl, a, rfl, ⟨_, sqX⟩, ?_⟩
        refine for_tup (xs := X.map V.int) (fun j σ G2 => ∃ y2 : Option V, σ = [some (.ref p), some (.ref a), y2] ∧ G2 = G ∧ ∀ m x, m < j → X[m]? = some x → (decide (0 ≤ x) && decide (x ≤ f - 1)) = true)
          ⟨_, rfl, rfl, fun m x hm => absurd hm (Nat.not_lt_zero _)⟩ (fun j σ G2 _ ⟨_, _, e, _⟩ => by rw [e]; exact sqX) ?_ ?_
        · rintro j y σ G2 hy ⟨y2, rfl, rfl, pre2⟩
          obtain ⟨n, hn, rfl⟩ : ∃ n, X[j]? = some n ∧ V.int n = y := by
            rw [List.getElem?_map] at hy
            cases e : X[j]? with
            | none => rw [e] at hy; cases hy
            | some n => rw [e] at hy; exact ⟨n, rfl, Option.some.inj hy⟩
          refine ⟨.int n, rfl, .ref p, rfl, p, WC, dx, _, .int f, rfl, WG.ob, TC.cl, TC.nF, rfl, f, 1, rfl, rfl, n, 0, f - 1, rfl, _, rfl, ?_⟩
          cases c2 : decide (0 ≤ n) && decide (n ≤ f - 1) with
          | false =>
            refine iteT (bad ?_ _)
            rw [all_no hn c2, Bool.false_and]
          | true =>
            refine iteF ⟨_, rfl, rfl, fun m x hm hx => ?_⟩
            by_cases e : m = j
            · subst e
              rw [hn] at hx
              cases hx
              exact c2
            · exact pre2 m x (by omega) hx
        · rintro σ G2 ⟨y2, rfl, rfl, pre2⟩
          rw [List.length_map] at pre2
          have all : X.all (fun x => decide (0 ≤ x) && decide (x ≤ f - 1)) = true := all_take fun m x hm => pre2 m x (List.getElem?_eq_some_iff.mp hm).1 hm
          refine ⟨.ref a, rfl, a, _, asc ltI X, rfl, sqX, tG.2, .i X, fun H' t' => ⟨_, rfl, ?_⟩⟩
          rw [all, Bool.true_and] at bad
          cases c3 : asc ltI X with
          | false => exact iteT (bad c3 _)
          | true =>
            refine iteF ⟨_, _, rfl, tG.trans t', fun j Y hj hY => ?_⟩
            by_cases e : j = i
            · subst e
              rw [hX] at hY
              cases hY
              unfold okRow
              rw [all, c3]
              rfl
            · exact pre j Y (by omega) hY
      · rintro σ G ⟨y1, y2, rfl, tG, pre⟩
        rw [len] at pre
        exact k1 (all_take fun j X hj => pre j X (List.getElem?_eq_some_iff.mp hj).1 hj) G tG
end
end Fw

set_option maxRecDepth 100000
set_option maxHeartbeats 4000000
namespace Fw
open PySem PySem.Spec PyProof.Rows L2 GxR
abbrev kSL (s l : Int) : List Key := [Sum.inl s, Sum.inl l]
/-- the dict of the steps' ends, as it grows -/
structure EndsK (H G : Hp) (kvs : List (List Key × V)) (ss : List T3) : Prop where
  one : ∀ k v, valV kvs k = some v → ∃ s l la, k = kSL s l ∧ v = .ref la ∧ H la = none ∧ IL G la (begS ss s l)
  no : ∀ s l, valV kvs (kSL s l) = none → begS ss s l = []
  inj : ∀ k k' la, valV kvs k = some (.ref la) → valV kvs k' = some (.ref la) → k = k'
def EndsAt (H0 H : Hp) (d : Addr) (ss : List T3) : Prop := ∃ kvs : List (List Key × V), H d = some (.dT kvs) ∧ ∀ s l, (∃ la, valV kvs (kSL s l) = some (.ref la) ∧ H0 la = none ∧ IL H la (begS ss s l)) ∨ (valV kvs (kSL s l) = none ∧ begS ss s l = [])
theorem kSL_inj {s l s' l' : Int} (h : kSL s l = kSL s' l') : s = s' ∧ l = l' := by
  injection h with h1 h2
  injection h2 with h2 _
  exact ⟨Sum.inl.inj h1, Sum.inl.inj h2⟩
theorem EndsK.at_ {H G : Hp} {d : Addr} {kvs : List (List Key × V)} {ss : List T3} (h : EndsK H G kvs ss) (e : G d = some (.dT kvs)) : EndsAt H G d ss := ⟨kvs, e, fun s l => by
  cases q : valV kvs (kSL s l) with
  | none => exact .inr ⟨rfl, h.no s l q⟩
  | some v =>
    obtain ⟨s', l', la, e1, e2, e3, il⟩ := h.one _ _ q
    obtain ⟨rfl, rfl⟩ := kSL_inj e1
    exact .inl ⟨la, by rw [e2], e3, il⟩⟩
theorem EndsAt.map {H0 H H' : Hp} {d : Addr} {ss : List T3} (hd : ∀ kvs, H d = some (.dT kvs) → H' d = some (.dT kvs)) (hl : ∀ a xs, H0 a = none → H a = some (.lst xs) → H' a = some (.lst xs)) (h : EndsAt H0 H d ss) : EndsAt H0 H' d ss := by
  obtain ⟨kvs, e, x⟩ := h
  refine ⟨kvs, hd _ e, fun s l => ?_⟩
  rcases x s l with ⟨la, e1, e0, e2⟩ | z
  · exact .inl ⟨la, e1, e0, hl _ _ e0 e2⟩
  · exact .inr z
theorem EndsAt.weak {H0 H0' H : Hp} {d : Addr} {ss : List T3} (dom : ∀ b, H0' b = none → H0 b = none) (h : EndsAt H0' H d ss) : EndsAt H0 H d ss := by
  obtain ⟨kvs, e, x⟩ := h
  refine ⟨kvs, e, fun s l => ?_⟩
  rcases x s l with ⟨la, e1, e0, e2⟩ | z
  · exact .inl ⟨la, e1, dom _ e0, e2⟩
  · exact .inr z
theorem EndsAt.tb {P : Addr} {H0 H H' : Hp} {d : Addr} {ss : List T3} (g : TabG H P) (t : Tb P H H') (h : EndsAt H0 H d ss) : EndsAt H0 H' d ss :=
  h.map (fun kvs e => t.1 _ _ (g.ne e (by intro _ z; cases z)) e) fun a xs _ e => t.1 _ _ (g.ne e (by intro _ z; cases z)) e
/-- a world that is made -/
structure WoE (K : PySem.W.Frag) (WC : Addr) (H0 H : Hp) (p dx : Addr) (l f : Int) (ta tb d : Addr) (ras as : List Addr) (Xs : List (List Int)) (ss : List T3) : Prop where
  ob : H p = some (.ins WC dx (wf l f ta tb ++ ([("_ends", V.ref d)] : List (Str × V))))
  st : SqT K H ta (ras.map V.ref)
  rw : RAt K H ras Xs
  sp : SqT K H tb (as.map V.ref)
  tr : PAt H as ss
  en : EndsAt H0 H d ss
section
variable {P : Program} {w : World} {K : PySem.W.Frag} {mg : Str → Option Value} {base : Heap} {C J B NC WC cA tA : Addr} {t1 t2 t3 : Tok}
def spCkT (K : PySem.W.Frag) (NC WC tA : Addr) : Sp := fun vs H Q E => ∃ (p dx : Addr) (l f : Int) (ta tb : Addr) (ras as : List Addr) (Xs : List (List Int)) (ss : List T3), vs = [.ref p] ∧ WoA K WC H p dx l f ta tb ras as Xs ss ∧ TabG H tA ∧
  (okSteps l Xs.length ss = true → ∀ H', Tb tA H H' → Q .non H') ∧ (okSteps l Xs.length ss = false → ∀ H', E (.ref NC) none H')
theorem ok_check_steps {f : Addr} {fd : FuncData} (FF : Fun K "check_steps" "check_steps" s_check_steps f fd) (T : Txt K mg C J B) (TC : TxtC K WC) (TE : TxtEW K mg NC)
    (h_is_number : Has P w K mg base "is_number" 1 a_is_number spNum) (h_ascends : Has P w K mg base "ascends" 4 a_ascends (spAsc K tA)) : FnOk P w K mg base (L2.CX P w) 5 f fd a_check_steps (spCkT K NC WC tA) := by
  refine FF.okX sc_check_steps (fun vs H Q E h => ?_) (fun cdv A outer s H vs Q E hr h => ?_)
  · obtain ⟨p, dx, l, f, ta, tb, ras, as, Xs, ss, rfl, _⟩ := h
    rfl
  · obtain ⟨p, dx, l, f, ta, tb, ras, as, Xs, ss, rfl, W, tg, k1, k2⟩ := h
    refine ⟨_, (pss_cons (ps_set (i := 1) sc_check_steps.nd rfl (.inl rfl) (pe_op op_sub (pe_callB call_len_seq rfl T.z_len (by decide +kernel) (pa_cons (pe_fld (pv 0) rfl) pa_nil)) pe_int))
      (pss_cons (ps_for (passes_of rfl) rfl (pi_tup (pe_fld (pv 0) rfl)) (pg_name (i := 2) sc_check_steps.nd rfl (.inl rfl)) (pss_cons (ps_if (PW.pt (pw_or (pt_cmpR op_ne (pe_callB call_len_seq rfl T.z_len (by decide +kernel) (pa_cons (pv 2) pa_nil)) pe_int (nomark _)) (pw_or1 (pt_not (pt_val (pe_callH h_is_number (hr.mono (by omega)) (pa_cons (pe_ix ix_tup (pv 2) pe_int (fun _ _ => rfl)) (pa_cons pe_int (pa_cons (pe_op op_sub (pe_fld (pv 0) rfl) pe_int) pa_nil))))))))) (pss_one (ps_raise rfl (takes_of rfl rfl rfl rfl) (pmk_own PySem.F.excBase_ValueError TE.xC TE.gC TE.kC (raises_own TE.bC TE.tC) (by exact rfl)))) pss_nil)
      (pss_one (ps_if (PW.pt (pw_or (pt_not (pt_val (pe_callH h_is_number (hr.mono (by omega)) (pa_cons (pe_ix ix_tup (pv 2) pe_int (fun _ _ => rfl)) (pa_cons pe_int (pa_cons (pv 1) pa_nil)))))) (pw_or1 (pt_not (pt_val (pe_callH h_is_number (hr.mono (by omega)) (pa_cons (pe_ix ix_tup (pv 2) pe_int (fun _ _ => rfl)) (pa_cons pe_int (pa_cons (pv 1) pa_nil))))))))) (pss_one (ps_raise rfl (takes_of rfl rfl rfl rfl) (pmk_own PySem.F.excBase_ValueError TE.xC TE.gC TE.kC (raises_own TE.bC TE.tC) (by exact rfl)))) pss_nil))))
      (pss_one (ps_if (pt_not (pt_val (pe_callH h_ascends (hr.mono (by omega)) (pa_cons (pe_fld (pv 0) rfl) pa_nil)))) (pss_one (ps_raise rfl (takes_of rfl rfl rfl rfl) (pmk_own PySem.F.excBase_ValueError TE.xC TE.gC TE.kC (raises_own TE.bC TE.tC) (by exact rfl)))) pss_nil)))), ?_⟩
    unfold okSteps at k1 k2
    have len : (ras.map V.ref).length = Xs.length := by rw [List.length_map, W.rw.1]
    have lens : (as.map V.ref).length = ss.length := by rw [List.length_map, W.tr.1]
    refine ⟨.ref p, rfl, p, WC, dx, _, .ref ta, rfl, W.ob, TC.cl, TC.nS, rfl, ta, _, rfl, .inr W.st, ?_⟩
    rw [len]
    refine ⟨Xs.length, 1, rfl, rfl, ?_⟩
    refine ⟨.ref p, rfl, p, WC, dx, _, .ref tb, rfl, W.ob, TC.cl, TC.nT, rfl, tb, rfl, ⟨_, W.sp⟩, ?_⟩
    refine for_tup (xs := as.map V.ref) (fun i σ G => ∃ (y2 : Option V), σ = [some (.ref p), some (.int ((Xs.length : Int) - 1)), y2] ∧ G = H ∧ ∀ (j : Nat) p, j < i → ss[j]? = some p → okStep l Xs.length p = true)
      ⟨none, rfl, rfl, fun j X hj => absurd hj (Nat.not_lt_zero _)⟩ (fun i σ G _ ⟨_, _, e, _⟩ => by rw [e]; exact W.sp) ?_ ?_
    · rintro i x σ G hx ⟨y2, rfl, rfl, pre⟩
      obtain ⟨a, q, rfl, ha, hq, at_⟩ := W.tr.nth hx
      have bad : okStep l Xs.length q = false → ∀ H', E (.ref NC) none H' := fun n => k2 (by rw [all_no hq n, Bool.false_and])
      unfold okStep at bad
      have sq := SqT.of (K := K) at_
      have i0 : atI [V.int q.1, V.int q.2.1, V.int q.2.2] 0 = some (.int q.1) := rfl
      have i1 : atI [V.int q.1, V.int q.2.1, V.int q.2.2] 1 = some (.int q.2.1) := rfl
      have i2 : atI [V.int q.1, V.int q.2.1, V.int q.2.2] 2 = some (.int q.2.2) := rfl
      refine ⟨.ref a, rfl, a, _, rfl, .inr sq, rfl, _, rfl, ?_⟩
      have l3 : V.int (([V.int q.1, V.int q.2.1, V.int q.2.2] : List V).length : Int) = V.int 3 := rfl
      refine (if_neg (by rw [decide_eq_true l3]; exact Bool.false_ne_true)).mpr ?_
      refine ⟨.ref a, rfl, a, _, 1, _, rfl, rfl, sq, i1, .ref p, rfl, p, WC, dx, _, .int l, rfl, W.ob, TC.cl, TC.nL, rfl, l, 1, rfl, rfl, q.2.1, 0, l - 1, rfl, _, rfl, ?_⟩
      cases c1 : decide (0 ≤ q.2.1) && decide (q.2.1 ≤ l - 1) with
      | false =>
        rw [c1] at bad
        exact iteT (bad rfl _)
      | true =>
        rw [c1, Bool.true_and] at bad
        refine iteF ?_
        refine ⟨.ref a, rfl, a, _, 0, _, rfl, rfl, sq, i0, .int ((Xs.length : Int) - 1), rfl, q.1, 0, (Xs.length : Int) - 1, rfl, _, rfl, ?_⟩
        cases c2 : decide (0 ≤ q.1) && decide (q.1 ≤ (Xs.length : Int) - 1) with
        | false =>
          rw [c2] at bad
          exact iteT (bad rfl _)
        | true =>
          rw [c2, Bool.true_and] at bad
          refine iteF ?_
          refine ⟨.ref a, rfl, a, _, 2, _, rfl, rfl, sq, i2, .int ((Xs.length : Int) - 1), rfl, q.2.2, 0, (Xs.length : Int) - 1, rfl, _, rfl, ?_⟩
          cases c3 : decide (0 ≤ q.2.2) && decide (q.2.2 ≤ (Xs.length : Int) - 1) with
          | false => exact iteT (bad c3 _)
          | true =>
            refine iteF ⟨_, rfl, rfl, fun j r hj hr' => ?_⟩
            by_cases e : j = i
            · subst e
              rw [hq] at hr'
              cases hr'
              unfold okStep
              rw [c1, c2, c3]
              rfl
            · exact pre j r (by omega) hr'
    · rintro σ G ⟨y2, rfl, rfl, pre⟩
      rw [lens] at pre
      have all : ss.all (okStep l Xs.length) = true := all_take fun j q hj => pre j q (List.getElem?_eq_some_iff.mp hj).1 hj
      rw [all, Bool.true_and] at k1 k2
      refine ⟨.ref p, rfl, p, WC, dx, _, .ref tb, rfl, W.ob, TC.cl, TC.nT, rfl, tb, _, asc lex3 ss, rfl, W.sp, tg, .t W.tr, fun H' t' => ⟨_, rfl, ?_⟩⟩
      cases c : asc lex3 ss with
      | false => exact iteT (k2 c _)
      | true => exact iteF (k1 c _ t')
def spEnds (K : PySem.W.Frag) : Sp := fun vs H Q _ => ∃ (tb : Addr) (as : List Addr) (ss : List T3), vs = [.ref tb] ∧ SqT K H tb (as.map V.ref) ∧ PAt H as ss ∧ ss.length ≤ 1000 ∧ ∀ d H', Same H H' → EndsAt H H' d ss → Q (.ref d) H'
theorem ok_ends_of {f : Addr} {fd : FuncData} (FF : Fun K "ends_of" "ends_of" s_ends_of f fd) (T : Txt K mg C J B) : FnOk P w K mg base CX0 1 f fd a_ends_of (spEnds K) := by
  refine FF.ok sc_ends_of (fun vs H Q E h => ?_) (fun cdv A outer s H vs Q E hr h => ?_)
  · obtain ⟨tb, as, ss, rfl, _⟩ := h
    rfl
  · obtain ⟨tb, as, ss, rfl, sq, tr, hsz, k⟩ := h
    have hu := hu_of hr
    refine ⟨_, (pss_cons (ps_set (i := 1) sc_ends_of.nd rfl (.inl rfl) pe_dnewT)
      (pss_cons (ps_for PassesOwn.never rfl (pi_tup (pv 0)) (pg_tup rfl (pgs_cons (pg_name (i := 2) sc_ends_of.nd rfl (.inl rfl)) (pgs_cons (pg_name (i := 3) sc_ends_of.nd rfl (.inl rfl)) (pgs_cons (pg_name (i := 4) sc_ends_of.nd rfl (.inl rfl)) pgs_nil)))) (pss_one (ps_expr (pe_bm PySem.F.plainAttrs_list PySem.F.slot_list_append PySem.F.type_list_append mt_append (pe_dsetdT hu (pv 1) (pe_tup (pa_cons (pv 2) (pa_cons (pv 3) pa_nil))) (pe_lst pa_nil) ⟨rfl, rfl, rfl, rfl⟩) (pa_cons (pv 4) pa_nil)))))
      (pss_one (ps_ret (pv 1))))), ?_⟩
    have lens : (as.map V.ref).length = ss.length := by rw [List.length_map, tr.1]
    intro d hd
    have s0 := Same.new (o := .dT []) hd
    refine ⟨.ref tb, rfl, tb, rfl, ⟨_, SqT.same s0 sq⟩, ?_⟩
    refine for_tup (xs := as.map V.ref) (fun i σ G => ∃ (y2 y3 y4 : Option V) (kvs : List (List Key × V)), σ = [some (.ref tb), some (.ref d), y2, y3, y4] ∧ Same H G ∧ G d = some (.dT kvs) ∧ kvs.length ≤ i ∧ (ss.take i).length ≤ i ∧ EndsK H G kvs (ss.take i))
      ⟨none, none, none, [], rfl, s0, upd_same, Nat.le_refl _, by simp, ⟨fun k v e => (by cases e), fun s l _ => rfl, fun k k' la e => (by cases e)⟩⟩ (fun i σ G _ ⟨_, _, _, _, _, sG, _⟩ => SqT.same sG sq) ?_ ?_
    · rintro i x σ G hx ⟨y2, y3, y4, kvs, rfl, sG, gD, lk, lt, EK⟩
      have il : i < ss.length := by
        have := (List.getElem?_eq_some_iff.mp hx).1
        rw [lens] at this
        exact this
      obtain ⟨a, q, rfl, ha, hq, at0⟩ := tr.nth hx
      have at_ := sG _ _ at0
      have nx : ss.take (i + 1) = ss.take i ++ [q] := by rw [List.take_add_one, hq]; rfl
      refine ⟨a, _, rfl, SqT.of at_, rfl, .int q.1, _, rfl, .int q.2.1, _, rfl, .int q.2.2, _, rfl, rfl, ?_⟩
      refine ⟨.ref d, rfl, d, rfl, .inr ⟨kvs, .inl gD⟩, .int q.1, rfl, .int q.2.1, rfl, by show 2 ≤ sizeLine; decide, fun kt hkt => ⟨Nat.zero_le _, fun ql hql => ?_⟩⟩
      have s1 := Same.new (o := .tup [.int q.1, .int q.2.1]) hkt
      have s2 := Same.new (o := .lst []) hql
      have kt2 := s2 _ _ (upd_same (H := G) (a := kt) (o := .tup [.int q.1, .int q.2.1]))
      have gD2 := s2 _ _ (s1 _ _ gD)
      have gq2 : (upd (upd G kt (.tup [.int q.1, .int q.2.1])) ql (.lst [])) ql = some (.lst []) := upd_same
      have s12 := s1.trans s2
      have qn : H ql = none := sG.free (s1.free hql)
      have qd : ql ≠ d := fun e => by rw [e] at hql; rw [s1 _ _ gD] at hql; cases hql
      have sG2 := sG.trans s12
      have EK2 : EndsK H (upd (upd G kt (.tup [.int q.1, .int q.2.1])) ql (.lst [])) kvs (ss.take i) := ⟨fun k v e => by
        obtain ⟨s', l', la, e1, e2, e3, e4⟩ := EK.one k v e
        exact ⟨s', l', la, e1, e2, e3, s12 _ _ e4⟩, EK.no, EK.inj⟩
      have old : ∀ k la, valV kvs k = some (.ref la) → la ≠ ql := fun k la e z => by
        obtain ⟨s', l', la', e1, e2, e3, e4⟩ := EK.one k _ e
        cases e2
        rw [z] at e4
        rw [s1 _ _ e4] at hql
        cases hql
      generalize upd (upd G kt (.tup [.int q.1, .int q.2.1])) ql (.lst []) = G2 at s12 kt2 gD2 gq2 sG2 EK2
      have dl : ∀ k la, valV kvs k = some (.ref la) → la ≠ d := fun k la e z => by
        obtain ⟨s', l', la', e1, e2, e3, e4⟩ := EK2.one k _ e
        cases e2
        rw [z] at e4
        have e5 := gD2.symm.trans e4
        cases e5
      refine ⟨kvs, kSL q.1 q.2.1, kt, gD2, rfl, kt2, small1000 (by omega), fun v hv => ?_, fun hn => ?_⟩
      · obtain ⟨s', l', la, e1, rfl, e3, e4⟩ := EK2.one _ _ hv
        obtain ⟨rfl, rfl⟩ := kSL_inj e1
        have bl : (begS (ss.take i) q.1 q.2.1).length ≤ 1000 := by
          unfold begS
          rw [List.length_map]
          have := List.length_filter_le (fun p : T3 => decide (p.1 = q.1) && decide (p.2.1 = q.2.1)) (ss.take i)
          omega
        refine ⟨.inl ⟨rfl, _, SqL.of e4⟩, .int q.2.2, rfl, la, _, _, rfl, rfl, e4, by rw [List.length_map]; exact small1000 (by have := bl; unfold begS at *; rw [List.length_map] at *; have := List.length_filter_le (fun p : T3 => decide (p.1 = q.1) && decide (p.2.1 = q.2.1)) (ss.take i); omega), ?_⟩
        refine ⟨_, _, _, kvs, rfl, fun b o e => by rw [upd_ne (ne_of_none e e3)]; exact sG2 _ _ e, by rw [upd_ne (dl _ _ hv).symm]; exact gD2, by omega, by rw [List.length_take]; omega, ?_⟩
        rw [nx]
        refine ⟨fun k v e => ?_, fun s2 l2 e => ?_, EK2.inj⟩
        · obtain ⟨s2, l2, la2, f1, f2, f3, f4⟩ := EK2.one k v e
          refine ⟨s2, l2, la2, f1, f2, f3, ?_⟩
          rw [begS_snoc]
          by_cases c : la2 = la
          · subst c
            rw [f2] at e
            have kk := EK2.inj _ _ _ e hv
            rw [f1] at kk
            obtain ⟨rfl, rfl⟩ := kSL_inj kk
            show _ = _
            rw [upd_same, decide_eq_true rfl, decide_eq_true rfl, List.map_append]
            rfl
          · show _ = _
            have nk : ¬ (q.1 = s2 ∧ q.2.1 = l2) := fun z => by
              obtain ⟨z1, z2⟩ := z
              rw [f1, ← z1, ← z2] at e
              rw [hv] at e
              rw [f2] at e
              exact c (V.ref.inj (Option.some.inj e)).symm
            rw [upd_ne c, if_neg (by rw [Bool.and_eq_true, decide_eq_true_eq, decide_eq_true_eq]; exact nk), List.append_nil]
            exact f4
        · rw [begS_snoc, EK2.no s2 l2 e]
          have nk : ¬ (q.1 = s2 ∧ q.2.1 = l2) := fun z => by
            obtain ⟨z1, z2⟩ := z
            rw [← z1, ← z2, hv] at e
            cases e
          rw [if_neg (by rw [Bool.and_eq_true, decide_eq_true_eq, decide_eq_true_eq]; exact nk)]
          rfl
      · have e0 := EK2.no _ _ hn
        have gq3 : (upd G2 d (.dT (putK kvs (kSL q.1 q.2.1) (.ref ql)))) ql = some (.lst []) := by rw [upd_ne qd]; exact gq2
        refine ⟨.inl ⟨rfl, _, SqL.of gq3⟩, .int q.2.2, rfl, ql, _, _, rfl, rfl, gq3, by show 0 < sizeLine; decide, ?_⟩
        refine ⟨_, _, _, putK kvs (kSL q.1 q.2.1) (.ref ql), rfl, fun b o e => by rw [upd_ne (ne_of_none e qn), upd_ne (ne_of_none e hd)]; exact sG2 _ _ e, by rw [upd_ne qd.symm, upd_same], by have := length_putK kvs (kSL q.1 q.2.1) (.ref ql); omega, by rw [List.length_take]; omega, ?_⟩
        rw [nx]
        refine ⟨fun k v e => ?_, fun s2 l2 e => ?_, fun k k' la e e' => ?_⟩
        · rw [valV_put] at e
          by_cases c : k = kSL q.1 q.2.1
          · rw [if_pos c] at e
            cases e
            refine ⟨q.1, q.2.1, ql, c, rfl, qn, ?_⟩
            show _ = _
            rw [upd_same, begS_snoc, e0, decide_eq_true rfl, decide_eq_true rfl]
            rfl
          · rw [if_neg c] at e
            obtain ⟨s2, l2, la2, f1, f2, f3, f4⟩ := EK2.one k v e
            refine ⟨s2, l2, la2, f1, f2, f3, ?_⟩
            rw [f2] at e
            have nk : ¬ (q.1 = s2 ∧ q.2.1 = l2) := fun z => by
              obtain ⟨z1, z2⟩ := z
              rw [f1, ← z1, ← z2] at c
              exact c rfl
            show _ = _
            rw [upd_ne (old _ _ e), upd_ne (dl _ _ e), begS_snoc, if_neg (by rw [Bool.and_eq_true, decide_eq_true_eq, decide_eq_true_eq]; exact nk), List.append_nil]
            exact f4
        · rw [valV_put] at e
          by_cases c : kSL s2 l2 = kSL q.1 q.2.1
          · rw [if_pos c] at e
            cases e
          · rw [if_neg c] at e
            rw [begS_snoc, EK2.no s2 l2 e]
            have nk : ¬ (q.1 = s2 ∧ q.2.1 = l2) := fun z => by
              obtain ⟨z1, z2⟩ := z
              rw [← z1, ← z2] at c
              exact c rfl
            rw [if_neg (by rw [Bool.and_eq_true, decide_eq_true_eq, decide_eq_true_eq]; exact nk)]
            rfl
        · rw [valV_put] at e e'
          by_cases c : k = kSL q.1 q.2.1
          · by_cases c' : k' = kSL q.1 q.2.1
            · rw [c, c']
            · rw [if_pos c] at e
              rw [if_neg c'] at e'
              cases e
              exact absurd rfl (old _ _ e')
          · by_cases c' : k' = kSL q.1 q.2.1
            · rw [if_neg c] at e
              rw [if_pos c'] at e'
              cases e'
              exact absurd rfl (old _ _ e)
            · rw [if_neg c] at e
              rw [if_neg c'] at e'
              exact EK2.inj _ _ _ e e'
    · rintro σ G ⟨y2, y3, y4, kvs, rfl, sG, gD, lk, lt, EK⟩
      rw [lens, List.take_length] at EK
      exact ⟨_, rfl, k d G sG (EK.at_ gD)⟩
def spFol (K : PySem.W.Frag) (WC : Addr) : Sp := fun vs H Q _ => ∃ (H0 : Hp) (p dx : Addr) (l f : Int) (ta tb d : Addr) (ras as : List Addr) (Xs : List (List Int)) (ss : List T3) (x y : Int), vs = [.ref p, .int x, .int y] ∧ WoE K WC H0 H p dx l f ta tb d ras as Xs ss ∧
  ∀ b H', Same H H' → H b = none → IL H' b (begS ss x y) → Q (.ref b) H'
theorem ok_followers {f : Addr} {fd : FuncData} (FF : Fun K "followers" "followers" s_followers f fd) (T : Txt K mg C J B) (TC : TxtC K WC) : FnOk P w K mg base CX0 1 f fd a_followers (spFol K WC) := by
  refine FF.ok sc_followers (fun vs H Q E h => ?_) (fun cdv A outer s H vs Q E hr h => ?_)
  · obtain ⟨H0, p, dx, l, f, ta, tb, d, ras, as, Xs, ss, x, y, rfl, _⟩ := h
    rfl
  · obtain ⟨H0, p, dx, l, f, ta, tb, d, ras, as, Xs, ss, x, y, rfl, W, k⟩ := h
    have hu := hu_of hr
    refine ⟨_, (pss_one (ps_ret (pe_callTy call_list_of rfl T.z_list (by decide +kernel) (pa_cons (pe_dget2 hu (pe_fld (pv 0) rfl) (pe_tup (pa_cons (pv 1) (pa_cons (pv 2) pa_nil))) (pe_lst pa_nil) ⟨rfl, rfl, rfl, rfl⟩) pa_nil)))), ?_⟩
    obtain ⟨kvs, gD, en⟩ := W.en
    refine ⟨.ref p, rfl, p, WC, dx, _, .ref d, rfl, W.ob, TC.cl, TC.nE, rfl, d, rfl, .inr ⟨kvs, .inl gD⟩, .int x, rfl, .int y, rfl, by show 2 ≤ sizeLine; decide, fun kt hkt => ⟨Nat.zero_le _, fun ql hql => ?_⟩⟩
    have s1 := Same.new (o := .tup [.int x, .int y]) hkt
    have s2 := Same.new (o := .lst []) hql
    have kt2 := s2 _ _ (upd_same (H := H) (a := kt) (o := .tup [.int x, .int y]))
    have gD2 := s2 _ _ (s1 _ _ gD)
    have s12 := s1.trans s2
    rcases en x y with ⟨la, e1, _, e2⟩ | ⟨e1, e2⟩
    · refine ⟨some (.ref la), ?_, la, _, rfl, .inl (SqL.of (s12 _ _ e2)), fun b hb => ?_⟩
      · rw [← e1]
        exact DGet.t gD2 kt2
      · exact k b _ (s12.trans (Same.new hb)) (s12.free hb) (by show _ = _; rw [upd_same])
    · refine ⟨none, ?_, ql, _, rfl, .inl (SqL.of upd_same), fun b hb => ?_⟩
      · rw [← e1]
        exact DGet.t gD2 kt2
      · exact k b _ (s12.trans (Same.new hb)) (s12.free hb) (by show _ = _; rw [upd_same, e2]; rfl)
end
end Fw

set_option maxRecDepth 100000
set_option maxHeartbeats 8000000
namespace Fw
open PySem PySem.Spec PyProof.Rows L2 GxR
abbrev rTupOf (K : PySem.W.Frag) : List V → Hp → VK → Prop := fun xs H Q => ∃ p ys, xs = [.ref p] ∧ ((SqL K H p ys ∧ ∀ l, H l = none → Q (.ref l) (upd H l (.tup ys))) ∨ (SqT K H p ys ∧ Q (.ref p) H))
abbrev rListOf (K : PySem.W.Frag) : List V → Hp → VK → Prop := fun xs H Q => ∃ p ys, xs = [.ref p] ∧ (SqL K H p ys ∨ SqT K H p ys) ∧ ∀ l, H l = none → Q (.ref l) (upd H l (.lst ys))
theorem FAt.same {H H' : Hp} {as : List Addr} {Xs : List (List Int)} (s : Same H H') (h : FAt H as Xs) : FAt H' as Xs := ⟨h.1, fun i a X e1 e2 => s _ _ (h.2 i a X e1 e2)⟩
theorem PAt.same {H H' : Hp} {as : List Addr} {ts : List T3} (s : Same H H') (h : PAt H as ts) : PAt H' as ts := ⟨h.1, fun i a X e1 e2 => s _ _ (h.2 i a X e1 e2)⟩
theorem RAt.same {K : PySem.W.Frag} {H H' : Hp} {as : List Addr} {Xs : List (List Int)} (s : Same H H') (h : RAt K H as Xs) : RAt K H' as Xs := ⟨h.1, fun i a X e1 e2 => SqT.same s (h.2 i a X e1 e2)⟩
theorem FAt.nth {H : Hp} {as : List Addr} {Xs : List (List Int)} (h : FAt H as Xs) {i : Nat} {x : V} (e : (as.map V.ref)[i]? = some x) : ∃ a X, x = .ref a ∧ as[i]? = some a ∧ Xs[i]? = some X ∧ IL H a X := by
  rw [List.getElem?_map] at e
  cases q : as[i]? with
  | none => rw [q] at e; cases e
  | some a =>
    rw [q] at e
    have il : i < Xs.length := by rw [← h.1]; exact (List.getElem?_eq_some_iff.mp q).1
    exact ⟨a, Xs[i], (Option.some.inj e).symm, rfl, List.getElem?_eq_getElem il, h.2 i a _ q (List.getElem?_eq_getElem il)⟩
/-- what was there is there, but for the object at p -/
theorem but_new {p q : Addr} {H G : Hp} {o : HO} (b : But p H G) (h : G q = none) : But p H (upd G q o) := fun a u n e => by
  have := b a u n e
  rw [upd_ne (ne_of_none this h)]
  exact this
theorem SqT.butO {K : PySem.W.Frag} {H H' : Hp} {a d : Addr} {xs : List V} {C dx : Addr} {fs : List (Str × V)} (hd : H d = some (.ins C dx fs)) (s : But d H H') (h : SqT K H a xs) : SqT K H' a xs := by
  rcases h with h | h
  · rcases h with h | ⟨u, h⟩
    · exact .inl (.inl (s _ _ (ne_of h hd (by intro z; cases z)) h))
    · exact .inl (.inr ⟨u, s _ _ (ne_of h hd (by intro z; cases z)) h⟩)
  · exact .inr h
theorem PAt.butO {H H' : Hp} {as : List Addr} {ts : List T3} {d C dx : Addr} {fs : List (Str × V)} (hd : H d = some (.ins C dx fs)) (s : But d H H') (h : PAt H as ts) : PAt H' as ts :=
  ⟨h.1, fun i a p e1 e2 => s _ _ (ne_of (h.2 i a p e1 e2) hd (by intro z; cases z)) (h.2 i a p e1 e2)⟩
theorem RAt.butO {K : PySem.W.Frag} {H H' : Hp} {as : List Addr} {Xs : List (List Int)} {d C dx : Addr} {fs : List (Str × V)} (hd : H d = some (.ins C dx fs)) (s : But d H H') (h : RAt K H as Xs) : RAt K H' as Xs :=
  ⟨h.1, fun i a X e1 e2 => SqT.butO hd s (h.2 i a X e1 e2)⟩
theorem EndsAt.butO {H0 H H' : Hp} {ss : List T3} {e d C dx : Addr} {fs : List (Str × V)} (hd : H d = some (.ins C dx fs)) (s : But d H H') (h : EndsAt H0 H e ss) : EndsAt H0 H' e ss :=
  h.map (fun kvs q => s _ _ (ne_of q hd (by intro z; cases z)) q) fun a xs _ q => s _ _ (ne_of q hd (by intro z; cases z)) q
/-- triples at addresses that came out of a sort -/
theorem trips_back {H : Hp} {as : List Addr} {ts : List T3} (h : PAt H as ts) : ∃ k : V → T3, ∀ (a : Addr) (p : T3) (i : Nat), as[i]? = some a → ts[i]? = some p → k (.ref a) = p := by
  refine ⟨fun v => match v with | .ref a => (match H a with | some (.tup [.int x, .int y, .int z]) => (x, y, z) | _ => (0, 0, 0)) | _ => (0, 0, 0), fun a p i e1 e2 => ?_⟩
  show (match H a with | some (.tup [.int x, .int y, .int z]) => (x, y, z) | _ => (0, 0, 0)) = p
  rw [h.2 i a p e1 e2]
/-! ### a list or a tuple -/
def IsSq (K : PySem.W.Frag) (H : Hp) (a : Addr) (xs : List V) (It : It) : Prop := (It = Itl K a ∧ SqL K H a xs) ∨ (It = Itt K a ∧ SqT K H a xs)
def iSq (K : PySem.W.Frag) (tl : TE) : TI := fun σ H R => tl σ H fun x H1 => ∃ a xs, x = .ref a ∧ Sq K H1 a xs ∧ ∀ It, IsSq K H1 a xs It → R It H1
theorem pi_sq {X : Cx} {tg l : Expr} {tl : TE} (hl : PE X l tl) : PI X tg l (iSq X.K tl) := by
  have hv : PE X l tl := hl
  refine ⟨fun pins s σ H R I h => ?_⟩
  have key := hv.run pins s σ H _ I h
  refine thn key fun v s1 ⟨x, H1, I1, r1, q1⟩ => ?_
  obtain ⟨a, xs, e, hs, q⟩ := q1
  subst e
  cases r1
  rcases hs with hq | hq
  · obtain ⟨its, rv, p, hz⟩ := I1.list hq
    refine wpAny_pyIter_list p.isList ?_
    refine ⟨s1.heap.objs.size, [s1.heap.objs.size], _, _, H1, rfl, I1.kept (t' := s1.toks) fun b o e => Heap.get?_push_of_some _ e, turn_list a _, ⟨_, Heap.get?_push_size _ rfl, rfl, rfl⟩, fun b hb => ?_, q _ (.inl ⟨rfl, hq⟩)⟩
    have e : b = s1.heap.objs.size := by simpa using hb
    subst e
    exact I1.fpOk (Nat.le_refl _) (I1.hok.fresh (Nat.le_refl _))
  · obtain ⟨its, rv, p, hz⟩ := I1.tuple hq
    refine wpAny_pyIter_tuple (show s1.heap.IsTuple a its.toArray from p) ?_
    refine ⟨s1.heap.objs.size, [s1.heap.objs.size], _, _, H1, rfl, I1.kept (t' := s1.toks) fun b o e => Heap.get?_push_of_some _ e, turn_tuple a _, ⟨_, Heap.get?_push_size _ rfl, rfl, rfl⟩, fun b hb => ?_, q _ (.inr ⟨rfl, hq⟩)⟩
    have e : b = s1.heap.objs.size := by simpa using hb
    subst e
    exact I1.fpOk (Nat.le_refl _) (I1.hok.fresh (Nat.le_refl _))
theorem lc_sq {K : PySem.W.Frag} {It : It} {a : Addr} {xs : List V} {g : TG} {tt : TT} {te : TE} {vs : List Nat} {σ : L2.St} {H0 H1 : Hp} {D : Addr} {Qd : Hp → Prop} (hIt : IsSq K H0 a xs It) (Pv : Nat → Hp → Prop) (h0 : Pv 0 (upd H1 D (.lst []))) (hk : ∀ i H, Pv i H → Same H0 H)
    (hs : ∀ i x H, xs[i]? = some x → Pv i H → g x (wipe σ vs) H fun σ2 H2 => wipe σ2 vs = wipe σ vs ∧ tt σ2 H2 fun b H3 =>
      if b = true then te σ2 H3 fun y H4 => ∃ acc, H4 D = some (.lst acc) ∧ acc.length < sizeLine ∧ Pv (i + 1) (upd H4 D (.lst (acc ++ [y]))) else Pv (i + 1) H3) (hd : ∀ H, Pv xs.length H → Qd H) :
    ∃ W : Nat → Nat → Hp → Prop, (∃ m, W 0 m (upd H1 D (.lst []))) ∧ ∀ i m H, W i m H →
      (It.stop i H ∧ Qd H) ∨ (It.go i H ∧ ∃ Nx : Hp → Prop, (∀ H', Nx H' → ∃ m', m' < m ∧ W (i + 1) m' H') ∧ ∀ x H', It.yld i H x H' → g x (wipe σ vs) H' fun σ2 H2 => wipe σ2 vs = wipe σ vs ∧ tt σ2 H2 fun b H3 =>
        if b = true then te σ2 H3 fun y H4 => ∃ acc, H4 D = some (.lst acc) ∧ acc.length < sizeLine ∧ Nx (upd H4 D (.lst (acc ++ [y]))) else Nx H3) := by
  rcases hIt with ⟨rfl, h⟩ | ⟨rfl, h⟩
  · exact lc_list Pv h0 (fun i H _ q => SqL.keepAt (fun o e => hk i H q _ o e) h) hs hd
  · exact lc_tup Pv h0 (fun i H _ q => SqT.same (hk i H q) h) hs hd
def FAtS (K : PySem.W.Frag) (H : Hp) (as : List Addr) (Xs : List (List Int)) : Prop := as.length = Xs.length ∧ ∀ (i : Nat) (a : Addr) (X : List Int), as[i]? = some a → Xs[i]? = some X → Sq K H a (X.map V.int)
theorem FAtS.same {K : PySem.W.Frag} {H H' : Hp} {as : List Addr} {Xs : List (List Int)} (s : Same H H') (h : FAtS K H as Xs) : FAtS K H' as Xs := ⟨h.1, fun i a X e1 e2 => (h.2 i a X e1 e2).same s⟩
theorem FAt.sq {K : PySem.W.Frag} {H : Hp} {as : List Addr} {Xs : List (List Int)} (h : FAt H as Xs) : FAtS K H as Xs := ⟨h.1, fun i a X e1 e2 => .inl (SqL.of (h.2 i a X e1 e2))⟩
theorem RAt.sq {K : PySem.W.Frag} {H : Hp} {as : List Addr} {Xs : List (List Int)} (h : RAt K H as Xs) : FAtS K H as Xs := ⟨h.1, fun i a X e1 e2 => .inr (h.2 i a X e1 e2)⟩
theorem FAtS.nth {K : PySem.W.Frag} {H : Hp} {as : List Addr} {Xs : List (List Int)} (h : FAtS K H as Xs) {i : Nat} {x : V} (e : (as.map V.ref)[i]? = some x) : ∃ a X, x = .ref a ∧ as[i]? = some a ∧ Xs[i]? = some X ∧ Sq K H a (X.map V.int) := by
  rw [List.getElem?_map] at e
  cases q : as[i]? with
  | none => rw [q] at e; cases e
  | some a =>
    rw [q] at e
    have il : i < Xs.length := by rw [← h.1]; exact (List.getElem?_eq_some_iff.mp q).1
    exact ⟨a, Xs[i], (Option.some.inj e).symm, rfl, List.getElem?_eq_getElem il, h.2 i a _ q (List.getElem?_eq_getElem il)⟩
theorem Sq.butO {K : PySem.W.Frag} {H H' : Hp} {a d : Addr} {xs : List V} {C dx : Addr} {fs : List (Str × V)} (hd : H d = some (.ins C dx fs)) (s : But d H H') (h : Sq K H a xs) : Sq K H' a xs := by
  rcases h with h | h
  · rcases h with h | h
    · rcases h with h | ⟨u, h⟩
      · exact .inl (.inl (.inl (s _ _ (ne_of h hd (by intro z; cases z)) h)))
      · exact .inl (.inl (.inr ⟨u, s _ _ (ne_of h hd (by intro z; cases z)) h⟩))
    · exact .inl (.inr h)
  · exact .inr (SqT.butO hd s h)
/-- rows that are tuples, each at its place -/
def RTp (H : Hp) (as : List Addr) (Xs : List (List Int)) : Prop := as.length = Xs.length ∧ ∀ (i : Nat) (a : Addr) (X : List Int), as[i]? = some a → Xs[i]? = some X → H a = some (.tup (X.map V.int))
theorem RTp.map {H H' : Hp} {as : List Addr} {Xs : List (List Int)} (h : RTp H as Xs) (z : ∀ a ys, H a = some (.tup ys) → H' a = some (.tup ys)) : RTp H' as Xs := ⟨h.1, fun i a X e1 e2 => z _ _ (h.2 i a X e1 e2)⟩
theorem RTp.snoc {H : Hp} {as : List Addr} {Xs : List (List Int)} {a : Addr} {X : List Int} (h : RTp H as Xs) (z : H a = some (.tup (X.map V.int))) : RTp H (as ++ [a]) (Xs ++ [X]) :=
  ⟨by rw [List.length_append, List.length_append, h.1]; rfl, fun i b Y e1 e2 => by
    rcases get_snoc e1 with e1' | ⟨q, rfl⟩
    · rcases get_snoc e2 with e2' | ⟨q, rfl⟩
      · exact h.2 i b Y e1' e2'
      · have := get_len e1'; rw [h.1] at this; omega
    · rcases get_snoc e2 with e2' | ⟨q2, rfl⟩
      · have := get_len e2'; rw [← h.1] at this; omega
      · exact z⟩
/-- rows that are lists or tuples, each at its place -/
def FAtP (H : Hp) (as : List Addr) (Xs : List (List Int)) : Prop := ∀ (i : Nat) (a : Addr) (X : List Int), as[i]? = some a → Xs[i]? = some X → H a = some (.lst (X.map V.int)) ∨ H a = some (.tup (X.map V.int))
section
variable {P : Program} {w : World} {K : PySem.W.Frag} {mg : Str → Option Value} {base : Heap} {C J B NC WC cA tA : Addr} {t1 t2 t3 : Tok}
def okWorld (l f : Int) (Xs : List (List Int)) (ss : List T3) : Bool := okNums l f && (okRows f Xs && okSteps l Xs.length ss)
def But2 (p q : Addr) (H H' : Hp) : Prop := ∀ b o, b ≠ p → b ≠ q → H b = some o → H' b = some o
def spWInit (K : PySem.W.Frag) (NC WC tA : Addr) : Sp := fun vs H Q E => ∃ (p dx : Addr) (l f : Int) (sa pa : Addr) (ras0 as0 : List Addr) (Xs : List (List Int)) (ps : List T3), vs = [.ref p, .int l, .int f, .ref sa, .ref pa] ∧ H p = some (.ins WC dx []) ∧
  Sq K H sa (ras0.map V.ref) ∧ FAtS K H ras0 Xs ∧ FAtP H ras0 Xs ∧ Sq K H pa (as0.map V.ref) ∧ PAt H as0 ps ∧ TabG H tA ∧ Xs.length ≤ 1000 ∧ (∀ X ∈ Xs, X.length ≤ 1000) ∧ ps.length ≤ 1000 ∧
  (∀ (ss : List T3) (ta tb d : Addr) (ras as : List Addr) H', (ss.Pairwise fun x y => lex3 y x = false) → ss.Perm ps → okWorld l f Xs ss = true → But2 p tA H H' → TabG H' tA → WoE K WC H H' p dx l f ta tb d ras as Xs ss → RTp H' ras Xs → Q .non H') ∧
  (∀ (ss : List T3), (ss.Pairwise fun x y => lex3 y x = false) → ss.Perm ps → okWorld l f Xs ss = false → ∀ H', E (.ref NC) none H')
theorem ok_World_init {f : Addr} {fd : FuncData} (FF : Fun K "__init__" "World.__init__" s_World_init f fd) (T : Txt K mg C J B) (TC : TxtC K WC)
    (h_check_numbers : HasX P w K mg base "check_numbers" 2 a_check_numbers (spCkN NC)) (h_check_states : HasX P w K mg base "check_states" 5 a_check_states (spCkS K NC WC tA)) (h_check_steps : HasX P w K mg base "check_steps" 5 a_check_steps (spCkT K NC WC tA))
    (h_ends_of : Has P w K mg base "ends_of" 1 a_ends_of (spEnds K)) : FnOk P w K mg base (L2.CX P w) 6 f fd a_World_init (spWInit K NC WC tA) := by
  refine FF.okX sc_World_init (fun vs H Q E h => ?_) (fun cdv A outer s H vs Q E hr h => ?_)
  · obtain ⟨p, dx, l, f, sa, pa, ras0, as0, Xs, ps, rfl, _⟩ := h
    rfl
  · obtain ⟨p, dx, l, f, sa, pa, ras0, as0, Xs, ps, rfl, hp, hsa, fat, fap, hpa, pat, tg, xs1, xs2, ps1, k1, k2⟩ := h
    refine ⟨_, (pss_cons (ps_fld (pv 0) (pv 1) rfl)
      (pss_cons (ps_fld (pv 0) (pv 2) rfl)
      (pss_cons (ps_fld (pv 0) (pe_callTy call_tuple_of rfl T.z_tuple (by decide +kernel) (pa_cons (pe_lc (own := [("row", 5)]) (g := gName 5) rfl sc_World_init.nd (pi_sq (pv 3)) (blkOk_by (own := [("row", 5)]) (N := n_World_init) (sc := defScope s_World_init) (by decide +kernel)) (fun _ _ _ _ _ => (pg_name (i := 5) sc_World_init.nd rfl (.inl rfl))) (fun _ _ _ _ _ => pts_nil) (fun _ _ _ _ _ => (pe_callTy (@id (CallR _ (.type "tuple") (rTupOf K)) call_tuple_of) rfl T.z_tuple (by decide +kernel) (pa_cons (pv 5) pa_nil)))) pa_nil)) rfl)
      (pss_cons (ps_fld (pv 0) (pe_callTy call_tuple_of rfl T.z_tuple (by decide +kernel) (pa_cons (pe_callB cr_sorted3 rfl T.z_sorted (by decide +kernel) (pa_cons (pe_lc (own := [("step", 6)]) (g := gName 6) rfl sc_World_init.nd (pi_sq (pv 4)) (blkOk_by (own := [("step", 6)]) (N := n_World_init) (sc := defScope s_World_init) (by decide +kernel)) (fun _ _ _ _ _ => (pg_name (i := 6) sc_World_init.nd rfl (.inl rfl))) (fun _ _ _ _ _ => pts_nil) (fun _ _ _ _ _ => (pe_callTy (@id (CallR _ (.type "tuple") (rTupOf K)) call_tuple_of) rfl T.z_tuple (by decide +kernel) (pa_cons (pv 6) pa_nil)))) pa_nil)) pa_nil)) rfl)
      (pss_cons (ps_expr (pe_callX h_check_numbers (hr.mono (by omega)) (takes_of rfl rfl rfl rfl) (pa_cons (pv 1) (pa_cons (pv 2) pa_nil))))
      (pss_cons (ps_expr (pe_callX h_check_states (hr.mono (by omega)) (takes_of rfl rfl rfl rfl) (pa_cons (pv 0) pa_nil)))
      (pss_cons (ps_expr (pe_callX h_check_steps (hr.mono (by omega)) (takes_of rfl rfl rfl rfl) (pa_cons (pv 0) pa_nil)))
      (PSs.nox (pss_one (ps_fld (pv 0) (pe_callH h_ends_of (hr.mono (by omega)) (pa_cons (pe_fld (pv 0) rfl) pa_nil)) rfl)))))))))), ?_⟩
    refine ⟨.int l, rfl, .ref p, rfl, p, WC, dx, [], rfl, hp, TC.cl, TC.nL, by show 0 < 1000; decide, ?_⟩
    refine ⟨.int f, rfl, .ref p, rfl, p, WC, dx, _, rfl, upd_same, TC.cl, TC.nF, by show 1 < 1000; decide, ?_⟩
    have bu2 : But p H (upd (upd H p (.ins WC dx (putF "labels" (V.int l) []))) p (.ins WC dx (putF "facts" (V.int f) (putF "labels" (V.int l) [])))) := (But.upd).trans But.upd
    have g2 : (upd (upd H p (.ins WC dx (putF "labels" (V.int l) []))) p (.ins WC dx (putF "facts" (V.int f) (putF "labels" (V.int l) [])))) p = some (.ins WC dx [("labels", .int l), ("facts", .int f)]) := by rw [upd_same]; rfl
    generalize upd (upd H p (.ins WC dx (putF "labels" (V.int l) []))) p (.ins WC dx (putF "facts" (V.int f) (putF "labels" (V.int l) []))) = G2 at bu2 g2
    have ntA : tA ≠ p := fun e => by obtain ⟨qs, q, _⟩ := tg; rw [e, hp] at q; cases q
    have fat2 : FAtS K G2 ras0 Xs := ⟨fat.1, fun i a X e1 e2 => Sq.butO hp bu2 (fat.2 i a X e1 e2)⟩
    have fap2 : FAtP G2 ras0 Xs := fun i a X e1 e2 => (fap i a X e1 e2).imp (fun q => bu2 _ _ (ne_of q hp (by intro z; cases z)) q) fun q => bu2 _ _ (ne_of q hp (by intro z; cases z)) q
    have pat2 : PAt G2 as0 ps := pat.butO hp bu2
    have tg2 : TabG G2 tA := by obtain ⟨qs, q, t⟩ := tg; exact ⟨qs, bu2 _ _ ntA q, t⟩
    have hsa2 := Sq.butO hp bu2 hsa
    have hpa2 := Sq.butO hp bu2 hpa
    -- the rows
    refine ⟨.ref sa, rfl, sa, _, rfl, hsa2, fun It hIt D hD => ?_⟩
    have nDp : D ≠ p := fun e => by rw [e, g2] at hD; cases hD
    refine lc_sq hIt (fun i G => ∃ ras : List Addr, Same G2 G ∧ G D = some (.lst (ras.map V.ref)) ∧ RAt K G ras (Xs.take i) ∧ RTp G ras (Xs.take i)) ⟨[], Same.new hD, upd_same, by simp [RAt], by simp [RTp]⟩ (fun i G ⟨_, sG, _⟩ => sG) ?_ ?_
    · rintro i x G hx ⟨ras, sG, gD, rat, rtp⟩
      obtain ⟨a, X, rfl, ha, hX, il⟩ := (fat2.same sG).nth hx
      have lt : i < Xs.length := (List.getElem?_eq_some_iff.mp hX).1
      have lT : ∀ {H' : Hp} {o : HO}, H' D = some (.lst (ras.map V.ref)) → ∀ (a : Addr) (ys : List V), H' a = some (.tup ys) → (upd H' D o) a = some (.tup ys) := fun e a ys q => by rw [upd_ne (ne_of q e (by intro z; cases z))]; exact q
      clear il
      rcases fap2 i a X ha hX with q0 | q0
      · refine ⟨rfl, .ref a, rfl, a, _, rfl, .inl ⟨SqL.of (sG _ _ q0), fun q hq => ?_⟩⟩
        have s1 := Same.new (o := .tup (X.map V.int)) hq
        have nD : q ≠ D := fun e => by rw [e, gD] at hq; cases hq
        refine ⟨_, s1 _ _ gD, by rw [List.length_map, rat.1, List.length_take]; exact small1000 (by omega), ras ++ [q], fun b o e => by rw [upd_ne (ne_of_none e hD)]; exact s1 _ _ (sG b o e), by rw [upd_same, List.map_append]; rfl, ?_⟩
        rw [List.take_add_one, hX, Option.toList_some]
        have sD : ∀ b ys, SqT K (upd G q (.tup (X.map V.int))) b ys → SqT K (upd (upd G q (.tup (X.map V.int))) D (.lst (ras.map V.ref ++ [.ref q]))) b ys := fun b ys e => SqT.lk (LKp.upd (s1 _ _ gD)) e
        refine ⟨⟨by rw [List.length_append, List.length_append, rat.1]; rfl, fun j b Y e1 e2 => ?_⟩, RTp.snoc ((rtp.map fun a ys q => s1 _ _ q).map (lT (s1 _ _ gD))) (lT (s1 _ _ gD) _ _ upd_same)⟩
        rcases get_snoc e1 with e1' | ⟨z1, rfl⟩
        · rcases get_snoc e2 with e2' | ⟨z2, rfl⟩
          · exact sD _ _ (SqT.same s1 (rat.2 j b Y e1' e2'))
          · have := get_len e1'; rw [rat.1] at this; omega
        · rcases get_snoc e2 with e2' | ⟨z2, rfl⟩
          · have := get_len e2'; rw [← rat.1] at this; omega
          · exact sD _ _ (SqT.of upd_same)
      · have il : SqT K G a (X.map V.int) := SqT.of (sG _ _ q0)
        refine ⟨rfl, .ref a, rfl, a, _, rfl, .inr ⟨il, ?_⟩⟩
        refine ⟨_, gD, by rw [List.length_map, rat.1, List.length_take]; exact small1000 (by omega), ras ++ [a], fun b o e => by rw [upd_ne (ne_of_none e hD)]; exact sG b o e, by rw [upd_same, List.map_append]; rfl, ?_⟩
        rw [List.take_add_one, hX, Option.toList_some]
        have sD : ∀ b ys, SqT K G b ys → SqT K (upd G D (.lst (ras.map V.ref ++ [.ref a]))) b ys := fun b ys e => SqT.lk (LKp.upd gD) e
        have ita : G a = some (.tup (X.map V.int)) := sG _ _ q0
        refine ⟨⟨by rw [List.length_append, List.length_append, rat.1]; rfl, fun j b Y e1 e2 => ?_⟩, RTp.snoc (rtp.map (lT gD)) (lT gD _ _ ita)⟩
        rcases get_snoc e1 with e1' | ⟨z1, rfl⟩
        · rcases get_snoc e2 with e2' | ⟨z2, rfl⟩
          · exact sD _ _ (rat.2 j b Y e1' e2')
          · have := get_len e1'; rw [rat.1] at this; omega
        · rcases get_snoc e2 with e2' | ⟨z2, rfl⟩
          · have := get_len e2'; rw [← rat.1] at this; omega
          · exact sD _ _ il
    rintro G3 ⟨ras, s3, gD, rat, rtp⟩
    rw [List.length_map, fat.1, List.take_length] at rat rtp
    refine ⟨D, _, rfl, .inl ⟨SqL.of gD, fun ta hta => ?_⟩⟩
    have s4 := Same.new (o := .tup (ras.map V.ref)) hta
    have s24 := s3.trans s4
    have nta : ta ≠ p := fun e => by rw [e, s3 _ _ g2] at hta; cases hta
    refine ⟨.ref p, rfl, p, WC, dx, _, rfl, s24 _ _ g2, TC.cl, TC.nS, by show 2 < 1000; decide, ?_⟩
    have bu5 : But p (upd G3 ta (.tup (ras.map V.ref))) (upd (upd G3 ta (.tup (ras.map V.ref))) p (.ins WC dx (putF "states" (V.ref ta) [("labels", .int l), ("facts", .int f)]))) := But.upd
    have g5 : (upd (upd G3 ta (.tup (ras.map V.ref))) p (.ins WC dx (putF "states" (V.ref ta) [("labels", .int l), ("facts", .int f)]))) p = some (.ins WC dx [("labels", .int l), ("facts", .int f), ("states", .ref ta)]) := by rw [upd_same]; rfl
    have st4 : SqT K (upd G3 ta (.tup (ras.map V.ref))) ta (ras.map V.ref) := SqT.of upd_same
    have st5 := SqT.butO (s24 _ _ g2) bu5 st4
    have rat5 := (rat.same s4).butO (s24 _ _ g2) bu5
    have rtp5 := (rtp.map fun a ys q => s4 _ _ q).map fun a ys q => bu5 _ _ (ne_of q (s24 _ _ g2) (by intro z; cases z)) q
    have pat5 := (pat2.same s24).butO (s24 _ _ g2) bu5
    have hpa5 := Sq.butO (s24 _ _ g2) bu5 (hpa2.same s24)
    have bH5 : But p H (upd (upd G3 ta (.tup (ras.map V.ref))) p (.ins WC dx (putF "states" (V.ref ta) [("labels", .int l), ("facts", .int f)]))) := (bu2.trans (Same.but s24)).trans bu5
    generalize upd (upd G3 ta (.tup (ras.map V.ref))) p (.ins WC dx (putF "states" (V.ref ta) [("labels", .int l), ("facts", .int f)])) = G5 at bu5 g5 st5 rat5 pat5 hpa5 bH5 rtp5
    have tT5 : ∀ {a : Addr} {ys : List V}, G5 a = some (.tup ys) → a ≠ tA := fun q e => by
      obtain ⟨qs, z, _⟩ := tg
      rw [e, bH5 _ _ ntA z] at q
      cases q
    -- the steps
    refine ⟨.ref pa, rfl, pa, _, rfl, hpa5, fun It2 hIt2 D2 hD2 => ?_⟩
    refine lc_sq hIt2 (fun i G => Same G5 G ∧ G D2 = some (.lst ((as0.take i).map V.ref))) ⟨Same.new hD2, upd_same⟩ (fun i G ⟨sG, _⟩ => sG) ?_ ?_
    · rintro i x G hx ⟨sG, gD2⟩
      obtain ⟨a, q, rfl, ha, hq, at_⟩ := (pat5.same sG).nth hx
      have lt : i < as0.length := (List.getElem?_eq_some_iff.mp ha).1
      refine ⟨rfl, .ref a, rfl, a, _, rfl, .inr ⟨SqT.of at_, _, gD2, by rw [List.length_map, List.length_take]; exact small1000 (by have := pat.1; omega), fun b o e => by rw [upd_ne (ne_of_none e hD2)]; exact sG b o e, ?_⟩⟩
      rw [upd_same, List.take_add_one, ha, Option.toList_some, List.map_append]
      rfl
    rintro G6 ⟨s6, gD2⟩
    rw [List.length_map, List.take_length] at gD2
    have pat6 := pat5.same s6
    obtain ⟨kk, hkk⟩ := trips_back pat6
    refine ⟨D2, as0.map V.ref, kk, rfl, SqL.of gD2, fun x hx => ?_, fun ys q srt stb hq => ?_⟩
    · obtain ⟨i, hi, e⟩ := List.getElem_of_mem hx
      obtain ⟨a, r, rfl, ha, hr', at_⟩ := pat6.nth (by rw [List.getElem?_eq_getElem hi, e])
      refine ⟨a, rfl, ?_⟩
      rw [hkk a r i ha hr']
      exact at_
    have s7 := Same.new (o := .lst ys) hq
    refine ⟨q, _, rfl, .inl ⟨SqL.of upd_same, fun tb htb => ?_⟩⟩
    have s8 := Same.new (o := .tup ys) htb
    -- which triples they are
    obtain ⟨as, hys⟩ : ∃ as : List Addr, ys = as.map V.ref := by
      have mem : ∀ y ∈ ys, ∃ a, y = V.ref a := fun y hy => by
        obtain ⟨a, _, e⟩ := List.mem_map.mp (stb.perm.mem_iff.mp hy)
        exact ⟨a, e.symm⟩
      clear srt stb s7 s8 htb hq
      induction ys with
      | nil => exact ⟨[], rfl⟩
      | cons y ys ih =>
        obtain ⟨a, rfl⟩ := mem y List.mem_cons_self
        obtain ⟨as, e⟩ := ih fun z hz => mem z (List.mem_cons_of_mem _ hz)
        exact ⟨a :: as, by rw [e]; rfl⟩
    subst hys
    have perm : (as.map fun a => kk (.ref a)).Perm ps := by
      have e1 := stb.perm.map kk
      rw [List.map_map, List.map_map] at e1
      have e2 : as0.map (kk ∘ V.ref) = ps := by
        refine List.ext_getElem? fun i => ?_
        rw [List.getElem?_map]
        cases e3 : as0[i]? with
        | none =>
          have := List.getElem?_eq_none_iff.mp e3
          rw [pat.1] at this
          rw [List.getElem?_eq_none_iff.mpr this]
          rfl
        | some a =>
          have il : i < ps.length := by rw [← pat.1]; exact (List.getElem?_eq_some_iff.mp e3).1
          have e4 := List.getElem?_eq_getElem il
          rw [e4]
          exact congrArg some (hkk a _ i e3 e4)
      rw [e2] at e1
      exact e1
    have sort : (as.map fun a => kk (.ref a)).Pairwise fun x y => lex3 y x = false := by
      have e1 := List.pairwise_map.mp srt
      exact List.pairwise_map.mpr e1
    have pas : PAt G6 as (as.map fun a => kk (.ref a)) := ⟨by rw [List.length_map], fun i a r e1 e2 => by
      rw [List.getElem?_map, e1] at e2
      have e3 := (Option.some.inj e2).symm
      subst e3
      have hm : V.ref a ∈ as0.map V.ref := stb.perm.mem_iff.mp (List.mem_map.mpr ⟨a, List.mem_of_getElem? e1, rfl⟩)
      obtain ⟨j, hj, e4⟩ := List.getElem_of_mem hm
      obtain ⟨a', r', e5, ha', hr', at_⟩ := pat6.nth (by rw [List.getElem?_eq_getElem hj, e4])
      cases e5
      show G6 a = some (.tup [.int (kk (.ref a)).1, .int (kk (.ref a)).2.1, .int (kk (.ref a)).2.2])
      rw [hkk a r' j ha' hr']
      exact at_⟩
    generalize (as.map fun a => kk (.ref a)) = ss at perm sort pas
    have s58 := s6.trans (s7.trans s8)
    refine ⟨.ref p, rfl, p, WC, dx, _, rfl, s58 _ _ g5, TC.cl, TC.nT, by show 3 < 1000; decide, ?_⟩
    have bu9 : But p (upd (upd G6 q (.lst (as.map V.ref))) tb (.tup (as.map V.ref))) (upd (upd (upd G6 q (.lst (as.map V.ref))) tb (.tup (as.map V.ref))) p (.ins WC dx (putF "steps" (V.ref tb) [("labels", .int l), ("facts", .int f), ("states", .ref ta)]))) := But.upd
    have g9 : (upd (upd (upd G6 q (.lst (as.map V.ref))) tb (.tup (as.map V.ref))) p (.ins WC dx (putF "steps" (V.ref tb) [("labels", .int l), ("facts", .int f), ("states", .ref ta)]))) p = some (.ins WC dx (wf l f ta tb)) := by rw [upd_same]; rfl
    have g8 := s58 _ _ g5
    have W : WoA K WC (upd (upd (upd G6 q (.lst (as.map V.ref))) tb (.tup (as.map V.ref))) p (.ins WC dx (putF "steps" (V.ref tb) [("labels", .int l), ("facts", .int f), ("states", .ref ta)]))) p dx l f ta tb ras as Xs ss :=
      ⟨g9, SqT.butO g8 bu9 (SqT.same s58 st5), (rat5.same s58).butO g8 bu9, SqT.butO g8 bu9 (SqT.of upd_same), (pas.same (s7.trans s8)).butO g8 bu9⟩
    have bH9 := (bH5.trans (Same.but s58)).trans bu9
    have tg9 : TabG (upd (upd (upd G6 q (.lst (as.map V.ref))) tb (.tup (as.map V.ref))) p (.ins WC dx (putF "steps" (V.ref tb) [("labels", .int l), ("facts", .int f), ("states", .ref ta)]))) tA := by
      obtain ⟨qs, z, t⟩ := tg
      exact ⟨qs, bH9 _ _ ntA z, t⟩
    generalize upd (upd (upd G6 q (.lst (as.map V.ref))) tb (.tup (as.map V.ref))) p (.ins WC dx (putF "steps" (V.ref tb) [("labels", .int l), ("facts", .int f), ("states", .ref ta)])) = G9 at W bH9 tg9 bu9
    -- the checks
    have bad := k2 ss sort perm
    have good := k1 ss ta tb
    unfold okWorld at bad good
    refine ⟨.int l, rfl, .int f, rfl, l, f, rfl, fun o1 => ?_, fun o1 => bad (by rw [o1, Bool.false_and]) _⟩
    rw [o1, Bool.true_and] at bad good
    refine ⟨.ref p, rfl, p, dx, l, f, ta, tb, ras, as, Xs, ss, rfl, W, tg9, xs1, fun o2 H10 t10 => ?_, fun o2 H10 => bad (by rw [o2, Bool.false_and]) _⟩
    rw [o2, Bool.true_and] at bad good
    have W10 := W.tb tg9 t10
    refine ⟨.ref p, rfl, p, dx, l, f, ta, tb, ras, as, Xs, ss, rfl, W10, t10.2, fun o3 H11 t11 => ?_, fun o3 H11 => bad o3 _⟩
    have W11 := W10.tb t10.2 t11
    have lss : ss.length ≤ 1000 := by rw [perm.length_eq]; exact ps1
    refine ⟨.ref p, rfl, p, WC, dx, _, .ref tb, rfl, W11.ob, TC.cl, TC.nT, rfl, tb, as, ss, rfl, W11.sp, W11.tr, lss, fun d H12 s12 en => ?_⟩
    refine ⟨.ref p, rfl, p, WC, dx, _, rfl, s12 _ _ W11.ob, TC.cl, TC.nE, by show 4 < 1000; decide, ?_⟩
    have g12 := s12 _ _ W11.ob
    have bu13 : But p H12 (upd H12 p (.ins WC dx (putF "_ends" (V.ref d) (wf l f ta tb)))) := But.upd
    have tg12 := t11.2.same s12
    refine good d ras as _ sort perm o3 (fun b o n1 n2 e => ?_) ?_ ⟨by rw [upd_same]; rfl, SqT.butO g12 bu13 (SqT.same s12 W11.st), (W11.rw.same s12).butO g12 bu13, SqT.butO g12 bu13 (SqT.same s12 W11.sp), (W11.tr.same s12).butO g12 bu13, (en.butO g12 bu13).weak fun b hb => ?_⟩ (rtp5.map fun a ys q => bu13 _ _ (ne_of q g5 (by intro z; cases z)) (s12 _ _ (t11.1 _ _ (tT5 q) (t10.1 _ _ (tT5 q) (bu9 _ _ (ne_of q g5 (by intro z; cases z)) (s58 _ _ q))))))
    · exact bu13 _ _ n1 (s12 _ _ (t11.1 _ _ n2 (t10.1 _ _ n2 (bH9 _ _ n1 e))))
    · obtain ⟨qs, z, t⟩ := tg12
      exact ⟨qs, bu13 _ _ ntA z, t⟩
    · cases q : H b with
      | none => rfl
      | some o =>
        by_cases n1 : b = p
        · rw [n1, W11.ob] at hb
          cases hb
        · by_cases n2 : b = tA
          · obtain ⟨qs, z, t⟩ := t11.2
            rw [n2, z] at hb
            cases hb
          · rw [t11.1 _ _ n2 (t10.1 _ _ n2 (bH9 _ _ n1 q))] at hb
            cases hb
end
end Fw

set_option maxRecDepth 100000
set_option maxHeartbeats 8000000
namespace Fw
open PySem PySem.Spec PyProof.Rows L2 GxR
theorem ok_of {l f : Int} {Xs : List (List Int)} {ss : List T3} (hl : 1 ≤ l ∧ l ≤ 3) (hf : 0 ≤ f ∧ f ≤ 6) (h1 : 1 ≤ Xs.length) (h4 : Xs.length ≤ 400) (hr : ∀ X ∈ Xs, RowUp f X) (hs : ss.Pairwise fun x y => lex3 x y = true)
    (hb : ∀ p ∈ ss, 0 ≤ p.2.1 ∧ p.2.1 < l ∧ 0 ≤ p.1 ∧ p.1 < (Xs.length : Int) ∧ 0 ≤ p.2.2 ∧ p.2.2 < (Xs.length : Int)) : okWorld l f Xs ss = true := by
  unfold okWorld okNums okRows okSteps
  have a1 : Xs.all (okRow f) = true := List.all_eq_true.mpr fun X hX => by
    have r := hr X hX
    unfold okRow
    rw [Bool.and_eq_true]
    refine ⟨List.all_eq_true.mpr fun x hx => ?_, (asc_pair ltI_tr).mpr (r.1.imp fun {a b} h => decide_eq_true h)⟩
    have := r.2 x hx
    rw [Bool.and_eq_true, decide_eq_true_eq, decide_eq_true_eq]
    omega
  have a2 : ss.all (okStep l Xs.length) = true := List.all_eq_true.mpr fun p hp => by
    have r := hb p hp
    unfold okStep
    simp only [Bool.and_eq_true, decide_eq_true_eq]
    omega
  rw [a1, a2, (asc_pair lex3_tr).mpr hs, decide_eq_true hl.1, decide_eq_true hl.2, decide_eq_true hf.1, decide_eq_true hf.2, decide_eq_true (by omega : 1 ≤ (Xs.length : Int)), decide_eq_true (by omega : (Xs.length : Int) ≤ 400)]
  rfl
theorem ints_nth {xs : List Int} {i : Nat} {x : V} (hx : (xs.map V.int)[i]? = some x) : ∃ z, xs[i]? = some z ∧ x = V.int z := by
  rw [List.getElem?_map] at hx
  cases e : xs[i]? with
  | none => rw [e] at hx; cases hx
  | some z => rw [e] at hx; exact ⟨z, rfl, (Option.some.inj hx).symm⟩
theorem WoE.same {K : PySem.W.Frag} {WC : Addr} {H0 H H' : Hp} {p dx : Addr} {l f : Int} {ta tb d : Addr} {ras as : List Addr} {Xs : List (List Int)} {ss : List T3} (z : Same H H') (h : WoE K WC H0 H p dx l f ta tb d ras as Xs ss) : WoE K WC H0 H' p dx l f ta tb d ras as Xs ss :=
  ⟨z _ _ h.ob, SqT.same z h.st, h.rw.same z, SqT.same z h.sp, h.tr.same z, h.en.map (fun kvs e => z _ _ e) fun a xs _ e => z _ _ e⟩
theorem RAt.snoc {K : PySem.W.Frag} {H : Hp} {as : List Addr} {Xs : List (List Int)} {a : Addr} {X : List Int} (h : RAt K H as Xs) (z : SqT K H a (X.map V.int)) : RAt K H (as ++ [a]) (Xs ++ [X]) :=
  ⟨by rw [List.length_append, List.length_append, h.1]; rfl, fun i b Y e1 e2 => by
    rcases get_snoc e1 with e1' | ⟨q, rfl⟩
    · rcases get_snoc e2 with e2' | ⟨q, rfl⟩
      · exact h.2 i b Y e1' e2'
      · have := get_len e1'; rw [h.1] at this; omega
    · rcases get_snoc e2 with e2' | ⟨q2, rfl⟩
      · have := get_len e2'; rw [← h.1] at this; omega
      · exact z⟩
theorem RowUp.mono {f g : Int} {X : List Int} (h : RowUp f X) (l : f ≤ g) : RowUp g X := ⟨h.1, fun x hx => by have := h.2 x hx; omega⟩
theorem itN {a b : Int} {A B : Prop} (h : a ≠ b) (x : B) : if decide (V.int a = V.int b) = true then A else B := (if_neg (by rw [decide_eq_false (fun e => h (V.int.inj e))]; exact Bool.false_ne_true)).mpr x
theorem itY {a b : Int} {A B : Prop} (h : a = b) (x : A) : if decide (V.int a = V.int b) = true then A else B := (if_pos (decide_eq_true (congrArg V.int h))).mpr x
theorem sorted_back {H : Hp} {as0 : List Addr} {ts : List T3} {kk : V → T3} (pat : PAt H as0 ts) (hkk : ∀ (a : Addr) (p : T3) (i : Nat), as0[i]? = some a → ts[i]? = some p → kk (.ref a) = p) {ys : List V}
    (srt : SrtO.Srtd (fun x y => lex3 (kk x) (kk y)) ys) (stb : SrtO.Stb (fun x y => lex3 (kk x) (kk y)) ys (as0.map V.ref)) : ∃ (as : List Addr) (ss : List T3), ys = as.map V.ref ∧ (ss.Pairwise fun x y => lex3 y x = false) ∧ ss.Perm ts ∧ PAt H as ss := by
  obtain ⟨as, hys⟩ : ∃ as : List Addr, ys = as.map V.ref := by
    have mem : ∀ y ∈ ys, ∃ a, y = V.ref a := fun y hy => by
      obtain ⟨a, _, e⟩ := List.mem_map.mp (stb.perm.mem_iff.mp hy)
      exact ⟨a, e.symm⟩
    clear srt stb
    induction ys with
    | nil => exact ⟨[], rfl⟩
    | cons y ys ih =>
      obtain ⟨a, rfl⟩ := mem y List.mem_cons_self
      obtain ⟨as, e⟩ := ih fun z hz => mem z (List.mem_cons_of_mem _ hz)
      exact ⟨a :: as, by rw [e]; rfl⟩
  subst hys
  refine ⟨as, as.map fun a => kk (.ref a), rfl, List.pairwise_map.mpr (List.pairwise_map.mp srt), ?_, by rw [List.length_map], fun i a r e1 e2 => ?_⟩
  · have e1 := stb.perm.map kk
    rw [List.map_map, List.map_map] at e1
    have e2 : as0.map (kk ∘ V.ref) = ts := by
      refine List.ext_getElem? fun i => ?_
      rw [List.getElem?_map]
      cases e3 : as0[i]? with
      | none =>
        have := List.getElem?_eq_none_iff.mp e3
        rw [pat.1] at this
        rw [List.getElem?_eq_none_iff.mpr this]
        rfl
      | some a =>
        have il : i < ts.length := by rw [← pat.1]; exact (List.getElem?_eq_some_iff.mp e3).1
        have e4 := List.getElem?_eq_getElem il
        rw [e4]
        exact congrArg some (hkk a _ i e3 e4)
    rw [e2] at e1
    exact e1
  · rw [List.getElem?_map, e1] at e2
    have e3 := (Option.some.inj e2).symm
    subst e3
    have hm : V.ref a ∈ as0.map V.ref := stb.perm.mem_iff.mp (List.mem_map.mpr ⟨a, List.mem_of_getElem? e1, rfl⟩)
    obtain ⟨j, hj, e4⟩ := List.getElem_of_mem hm
    obtain ⟨a', r', e5, ha', hr', at_⟩ := pat.nth (by rw [List.getElem?_eq_getElem hj, e4])
    cases e5
    show H a = some (.tup [.int (kk (.ref a)).1, .int (kk (.ref a)).2.1, .int (kk (.ref a)).2.2])
    rw [hkk a r' j ha' hr']
    exact at_
theorem trips_say {H : Hp} {as0 : List Addr} {ts : List T3} {kk : V → T3} (pat : PAt H as0 ts) (hkk : ∀ (a : Addr) (p : T3) (i : Nat), as0[i]? = some a → ts[i]? = some p → kk (.ref a) = p) :
    ∀ x ∈ as0.map V.ref, ∃ t, x = V.ref t ∧ H t = some (.tup [.int (kk x).1, .int (kk x).2.1, .int (kk x).2.2]) := fun x hx => by
  obtain ⟨i, hi, e⟩ := List.getElem_of_mem hx
  obtain ⟨a, r, rfl, ha, hr', at_⟩ := pat.nth (by rw [List.getElem?_eq_getElem hi, e])
  refine ⟨a, rfl, ?_⟩
  rw [hkk a r i ha hr']
  exact at_
theorem up_one {a b : List Int} (h : a.Perm b) (ha : a.Pairwise (· ≤ ·)) (hb : b.Pairwise (· < ·)) : a = b := by
  have nb : b.Nodup := hb.imp fun {x y} h e => by omega
  have na : a.Nodup := h.nodup_iff.mpr nb
  refine rising_one ?_ hb fun x => h.mem_iff
  exact (List.pairwise_and_iff.mpr ⟨ha, na⟩).imp fun {x y} h => by have := h.1; have := h.2; omega
theorem PAt.butD {H H' : Hp} {d : Addr} {as : List Addr} {ts : List T3} (dr : Draws H d) (b : But d H H') (h : PAt H as ts) : PAt H' as ts := by
  obtain ⟨ds, q⟩ := dr
  exact ⟨h.1, fun i a p e1 e2 => b _ _ (ne_of (h.2 i a p e1 e2) q (by intro z; cases z)) (h.2 i a p e1 e2)⟩
theorem WAx.butD {H H' : Hp} {d wa sa pa : Addr} {fas pas : List Addr} {W : Wd} (dr : Draws H d) (b : But d H H') (n1 : sa ≠ d) (n2 : pa ≠ d) (n3 : ∀ a ∈ fas, a ≠ d) (h : WAx H wa sa pa fas pas W) : WAx H' wa sa pa fas pas W := by
  have pt := h.t.butD dr b
  obtain ⟨ds, q⟩ := dr
  exact ⟨b _ _ (ne_of h.w q (by intro z; cases z)) h.w, b _ _ n1 h.s, b _ _ n2 h.p, h.f.map fun a o ha e => b _ _ (n3 a ha) e, pt⟩
theorem FAt.tb {P : Addr} {H H' : Hp} {as : List Addr} {Xs : List (List Int)} (g : TabG H P) (t : Tb P H H') (h : FAt H as Xs) : FAt H' as Xs := ⟨h.1, fun i a X e1 e2 => t.1 _ _ (g.ne (h.2 i a X e1 e2) (by intro _ z; cases z)) (h.2 i a X e1 e2)⟩
theorem WAx.tb {P : Addr} {H H' : Hp} {wa sa pa : Addr} {fas pas : List Addr} {W : Wd} (g : TabG H P) (t : Tb P H H') (h : WAx H wa sa pa fas pas W) : WAx H' wa sa pa fas pas W :=
  ⟨t.1 _ _ (g.ne h.w (by intro _ z; cases z)) h.w, t.1 _ _ (g.ne h.s (by intro _ z; cases z)) h.s, t.1 _ _ (g.ne h.p (by intro _ z; cases z)) h.p, h.f.tb g t, h.t.tb g t⟩
theorem IsF.tb {K : PySem.W.Frag} {P : Addr} {H H' : Hp} (g : TabG H P) (t : Tb P H H') {v : V} {f : F} (h : IsF K H v f) : IsF K H' v f := h.map fun _ _ => SqT.tb g t
theorem WoE.tb {K : PySem.W.Frag} {WC P : Addr} {H0 H H' : Hp} {p dx : Addr} {l f : Int} {ta tb d : Addr} {ras as : List Addr} {Xs : List (List Int)} {ss : List T3} (g : TabG H P) (t : Tb P H H') (h : WoE K WC H0 H p dx l f ta tb d ras as Xs ss) : WoE K WC H0 H' p dx l f ta tb d ras as Xs ss :=
  ⟨t.1 _ _ (g.ne h.ob (by intro _ z; cases z)) h.ob, SqT.tb g t h.st, h.rw.tb g t, SqT.tb g t h.sp, h.tr.tb g t, h.en.tb g t⟩
theorem joinS {c : Bool} {A : Prop} {C : L2.St → Hp → Prop} {σ : L2.St} {G : Hp} (Fa : L2.St → Hp → Prop) (hr : ∀ σ5 G5, Fa σ5 G5 → C σ5 G5) (h1 : c = true → (∀ σ5 G5, Fa σ5 G5 → C σ5 G5) → A) (h2 : c = false → Fa σ G) : if c = true then A else C σ G := by
  cases c with
  | true => exact h1 rfl hr
  | false => exact hr _ _ (h2 rfl)
theorem WoE.wst {K : PySem.W.Frag} {WC : Addr} {H0 H : Hp} {p dx : Addr} {l f : Int} {ta tb d r : Addr} {ras as : List Addr} {Xs : List (List Int)} {ss : List T3} (h : WoE K WC H0 H p dx l f ta tb d ras as Xs ss) (e : H r = some (.tup [.ref ta, .ref tb])) : WSt K H (.ref r) ⟨Xs, ss⟩ :=
  ⟨r, ta, tb, ras, as, rfl, ⟨e, .inr h.st, .inr h.sp, ⟨h.rw.1, fun i a X e1 e2 => .inr (h.rw.2 i a X e1 e2)⟩, h.tr⟩⟩
section
variable {P : Program} {w : World} {K : PySem.W.Frag} {mg : Str → Option Value} {base : Heap} {C J B NC WC cA tA : Addr} {t1 t2 t3 : Tok}
def spMade (K : PySem.W.Frag) (WC tA : Addr) : Sp := fun vs H Q _ => ∃ (wa sa pa : Addr) (fas pas : List Addr) (W : Wd) (l f f0 : Int), vs = [.ref wa, .int l, .int f] ∧ WAx H wa sa pa fas pas W ∧ W.Fit ∧ W.Up f0 ∧ 2 ≤ l ∧ l ≤ 3 ∧ f0 ≤ f ∧ 0 ≤ f ∧ f ≤ 6 ∧ TabG H tA ∧
  ∀ (p dx ta tb d : Addr) (ras as : List Addr) H', Tb tA H H' → WoE K WC H H' p dx l f ta tb d ras as W.facts W.steps → RTp H' ras W.facts → Q (.ref p) H'
theorem ok_law_made {f : Addr} {fd : FuncData} (FF : Fun K "_law_made" "_law_made" s_law_made f fd) (T : Txt K mg C J B) (h_World : HasCX P w K mg base "World" WC 6 a_World_init (spWInit K NC WC tA)) : FnOk P w K mg base (L2.CX P w) 8 f fd a_law_made (spMade K WC tA) := by
  refine FF.okX sc_law_made (fun vs H Q E h => ?_) (fun cdv A outer s H vs Q E hr h => ?_)
  · obtain ⟨wa, sa, pa, fas, pas, W, l, f, f0, rfl, _⟩ := h
    rfl
  · obtain ⟨wa, sa, pa, fas, pas, W, l, f, f0, rfl, X, fit, up, l2, l3, ff, f1, f6, tg, k⟩ := h
    refine ⟨_, (pss_one (ps_ret (pe_makeX h_World (hr.mono (by omega)) (takes_of rfl rfl rfl rfl) (pa_cons (pv 1) (pa_cons (pv 2) (pa_cons (pe_lc (own := [("state", 3)]) (g := gName 3) rfl sc_law_made.nd (pi_list (pe_ix ix_tup (pv 0) pe_int (fun _ _ => rfl))) (blkOk_by (own := [("state", 3)]) (N := n_law_made) (sc := defScope s_law_made) (by decide +kernel)) (fun _ _ _ _ _ => (pg_name (i := 3) sc_law_made.nd rfl (.inl rfl))) (fun _ _ _ _ _ => pts_nil) (fun _ _ _ _ _ => (pe_callTy (@id (CallR _ (.type "list") (rListOf K)) call_list_of) rfl T.z_list (by decide +kernel) (pa_cons (pv 3) pa_nil)))) (pa_cons (pe_callTy call_list_of rfl T.z_list (by decide +kernel) (pa_cons (pe_ix ix_tup (pv 0) pe_int (fun _ _ => rfl)) pa_nil)) pa_nil))))))), ?_⟩
    refine ⟨.int l, rfl, .int f, rfl, .ref wa, rfl, wa, _, _, .ref sa, rfl, rfl, SqT.of X.w, rfl, sa, rfl, ⟨_, SqL.of X.s⟩, fun D hD => ?_⟩
    refine lc_list (xs := fas.map V.ref) (fun i G => ∃ gs : List Addr, Same H G ∧ G D = some (.lst (gs.map V.ref)) ∧ FAt G gs (W.facts.take i) ∧ ∀ a ∈ gs, a ≠ D) ⟨[], Same.new hD, upd_same, FAt.nil _, fun a h => by cases h⟩ (fun i G _ ⟨_, sG, _⟩ => SqL.of (sG _ _ X.s)) ?_ ?_
    · rintro i x G hx ⟨gs, sG, gD, fa, nd⟩
      obtain ⟨a, Y, rfl, ha, hY, il⟩ := (X.f.same sG).nth hx
      refine ⟨rfl, .ref a, rfl, a, _, rfl, .inl (SqL.of il), fun q hq => ?_⟩
      have s1 := Same.new (o := .lst (Y.map V.int)) hq
      have lt : i < W.facts.length := (List.getElem?_eq_some_iff.mp hY).1
      have n8 : W.facts.length ≤ 8 := fit.n8
      have nqD : q ≠ D := (ne_of_none gD hq).symm
      refine ⟨_, s1 _ _ gD, by rw [List.length_map, fa.1, List.length_take]; exact small1000 (by omega), gs ++ [q], fun b o e => by rw [upd_ne (ne_of_none e hD)]; exact s1 _ _ (sG b o e), by rw [upd_same, List.map_append]; rfl, ?_⟩
      rw [List.take_add_one, hY, Option.toList_some]
      refine ⟨?_, fun g hg => (List.mem_append.mp hg).elim (nd g) fun z => by rw [List.mem_singleton.mp z]; exact nqD⟩
      refine FAt.snoc (fa.map fun a' o' hm e => ?_) (by show _ = _; rw [upd_ne nqD, upd_same])
      rw [upd_ne (nd a' hm)]
      exact s1 _ _ e
    rintro G1 ⟨gs, sG, gD, fa, _⟩
    rw [List.length_map, X.f.1, List.take_length] at fa
    refine ⟨.ref wa, rfl, wa, _, _, .ref pa, rfl, rfl, SqT.of (sG _ _ X.w), rfl, pa, _, rfl, .inl (SqL.of (sG _ _ X.p)), fun L hL => fun x dx hx hdx ne => ?_⟩
    have s2 := Same.new (o := .lst (pas.map V.ref)) hL
    have s3 : Same (upd G1 L (.lst (pas.map V.ref))) (upd (upd (upd G1 L (.lst (pas.map V.ref))) dx (.own x)) x (.ins WC dx [])) := fun b u e => by rw [upd_ne (ne_of_none e hx), upd_ne (ne_of_none e hdx)]; exact e
    have s13 := sG.trans (s2.trans s3)
    have n8 : W.facts.length ≤ 8 := fit.n8
    have n1 : 1 ≤ W.facts.length := fit.one
    have good : okWorld l f W.facts W.steps = true := ok_of (by omega) (by omega) n1 (by omega) (fun Y hY => (up.rows Y hY).mono ff) up.steps fun q hq => by
      have := up.in_ q hq
      unfold StUp Wd.n at this
      omega
    refine ⟨x, dx, l, f, D, L, gs, pas, W.facts, W.steps, rfl, upd_same, .inl (SqL.of (s3 _ _ (s2 _ _ gD))), (fa.same (s2.trans s3)).sq, (fun i a X e1 e2 => .inl (s3 _ _ (s2 _ _ (fa.2 i a X e1 e2)))), .inl (SqL.of (s3 _ _ upd_same)), X.t.same s13, tg.same s13, by omega, fun Y hY => by have := fit.fc Y hY; omega, by have := fit.st; omega, fun ss ta tb d ras as H' so pe ok b2 tg' W2 RT => ⟨rfl, ?_⟩, fun ss so pe ok H' => ?_⟩
    · have e := sorted_one so up.steps pe
      subst e
      refine k x dx ta tb d ras as H' ⟨fun b u n e => b2 _ _ (ne_of_none (s2 _ _ (sG _ _ e)) hx) n (s13 _ _ e), tg'⟩ ⟨W2.ob, W2.st, W2.rw, W2.sp, W2.tr, W2.en.weak fun b hb => ?_⟩ RT
      cases q : H b with
      | none => rfl
      | some u => rw [s13 _ _ q] at hb; cases hb
    · have e := sorted_one so up.steps pe
      subst e
      rw [good] at ok
      cases ok
end
end Fw

/-! Sets of states as whole numbers: what the bit operations do. Pure mathematics. -/
namespace Fw
open PySem
theorem and_nat (a b : Nat) : Builtin.bitAnd (a : Int) (b : Int) = ((a &&& b : Nat) : Int) := by
  have := PyProof.Rows.bitAnd_pp (x := (a : Int)) (y := (b : Int)) (Int.natCast_nonneg a) (Int.natCast_nonneg b)
  simpa using this
theorem and_bit (a b x y : Nat) (hx : x < 2) (hy : y < 2) : (2 * a + x) &&& (2 * b + y) = 2 * (a &&& b) + (x &&& y) := by
  refine Nat.eq_of_testBit_eq fun k => ?_
  have hxy : x &&& y < 2 := by
    have : x = 0 ∨ x = 1 := by omega
    have : y = 0 ∨ y = 1 := by omega
    rcases ‹x = 0 ∨ x = 1› with rfl | rfl <;> rcases ‹y = 0 ∨ y = 1› with rfl | rfl <;> decide
  cases k with
  | zero =>
    rw [Nat.testBit_and]
    have p : ∀ c z : Nat, z < 2 → (2 * c + z).testBit 0 = decide (z = 1) := fun c z hz => by
      rw [Nat.testBit_zero]
      have : (2 * c + z) % 2 = z := by omega
      rw [this]
    rw [p a x hx, p b y hy, p _ _ hxy]
    have : x = 0 ∨ x = 1 := by omega
    have : y = 0 ∨ y = 1 := by omega
    rcases ‹x = 0 ∨ x = 1› with rfl | rfl <;> rcases ‹y = 0 ∨ y = 1› with rfl | rfl <;> decide
  | succ k =>
    rw [Nat.testBit_and]
    have p : ∀ c z : Nat, z < 2 → (2 * c + z).testBit (k + 1) = c.testBit k := fun c z hz => by
      rw [Nat.testBit_succ]
      have : (2 * c + z) / 2 = c := by omega
      rw [this]
    rw [p a x hx, p b y hy, p _ _ hxy, Nat.testBit_and]
theorem and_le (a b : Nat) : a &&& b ≤ a := Nat.and_le_left
/-- a without b -/
def wo (a b : Nat) : Nat := a - (a &&& b)
theorem wo_bit : ∀ (k a b : Nat), (wo a b).testBit k = (a.testBit k && !b.testBit k) := by
  have half : ∀ a b : Nat, ∃ x y, x < 2 ∧ y < 2 ∧ a = 2 * (a / 2) + x ∧ b = 2 * (b / 2) + y ∧ wo a b = 2 * wo (a / 2) (b / 2) + (x - (x &&& y)) ∧ x - (x &&& y) < 2 := fun a b => by
    refine ⟨a % 2, b % 2, by omega, by omega, by omega, by omega, ?_, by omega⟩
    have e := and_bit (a / 2) (b / 2) (a % 2) (b % 2) (by omega) (by omega)
    rw [show 2 * (a / 2) + a % 2 = a by omega, show 2 * (b / 2) + b % 2 = b by omega] at e
    have l1 := and_le (a / 2) (b / 2)
    have l2 := and_le (a % 2) (b % 2)
    unfold wo
    rw [e]
    omega
  intro k
  induction k with
  | zero =>
    intro a b
    obtain ⟨x, y, hx, hy, ea, eb, ew, hl⟩ := half a b
    rw [Nat.testBit_zero, Nat.testBit_zero, Nat.testBit_zero]
    have e1 : wo a b % 2 = x - (x &&& y) := by rw [ew]; omega
    have e2 : a % 2 = x := by omega
    have e3 : b % 2 = y := by omega
    rw [e1, e2, e3]
    have : x = 0 ∨ x = 1 := by omega
    have : y = 0 ∨ y = 1 := by omega
    rcases ‹x = 0 ∨ x = 1› with rfl | rfl <;> rcases ‹y = 0 ∨ y = 1› with rfl | rfl <;> decide
  | succ k ih =>
    intro a b
    obtain ⟨x, y, hx, hy, ea, eb, ew, hl⟩ := half a b
    rw [Nat.testBit_succ, Nat.testBit_succ, Nat.testBit_succ, ← ih]
    have e1 : wo a b / 2 = wo (a / 2) (b / 2) := by rw [ew]; omega
    rw [e1]
theorem wo_nat (a b : Nat) : Builtin.bitAnd (a : Int) (Builtin.bitNot (b : Int)) = ((wo a b : Nat) : Int) := by
  rw [PyProof.Rows.bitAnd_not, and_nat]
  have := and_le a b
  unfold wo
  omega
theorem or_add : ∀ a b : Nat, (a ||| b) + (a &&& b) = a + b := by
  intro a
  induction a using Nat.strongRecOn with
  | ind a ih =>
    intro b
    by_cases h : a = 0
    · subst h
      simp
    · have i := ih (a / 2) (by omega) (b / 2)
      have e := and_bit (a / 2) (b / 2) (a % 2) (b % 2) (by omega) (by omega)
      rw [show 2 * (a / 2) + a % 2 = a by omega, show 2 * (b / 2) + b % 2 = b by omega] at e
      have o1 : (a ||| b) / 2 = a / 2 ||| b / 2 := Nat.or_div_two
      have o2 : (a ||| b) % 2 = (a % 2 ||| b % 2) := by
        have h1 : (a ||| b).testBit 0 = (a.testBit 0 || b.testBit 0) := Nat.testBit_or ..
        rw [Nat.testBit_zero, Nat.testBit_zero, Nat.testBit_zero] at h1
        have ha : a % 2 = 0 ∨ a % 2 = 1 := by omega
        have hb : b % 2 = 0 ∨ b % 2 = 1 := by omega
        have ho : (a ||| b) % 2 = 0 ∨ (a ||| b) % 2 = 1 := by omega
        rcases ha with ha | ha <;> rcases hb with hb | hb <;> rcases ho with ho | ho <;> rw [ha, hb, ho] at h1 ⊢ <;> first | rfl | (exact absurd h1 (by decide))
      have l : (a % 2 ||| b % 2) + (a % 2 &&& b % 2) = a % 2 + b % 2 := by
        have ha : a % 2 = 0 ∨ a % 2 = 1 := by omega
        have hb : b % 2 = 0 ∨ b % 2 = 1 := by omega
        rcases ha with ha | ha <;> rcases hb with hb | hb <;> rw [ha, hb] <;> decide
      have : (a ||| b) = 2 * ((a ||| b) / 2) + (a ||| b) % 2 := by omega
      rw [o1, o2] at this
      omega
theorem or_nat (a b : Nat) : Builtin.bitOr (a : Int) (b : Int) = ((a ||| b : Nat) : Int) := by
  rw [PyProof.Rows.bitOr_and, and_nat]
  have := or_add a b
  omega
/-- the least bit -/
theorem low : ∀ m : Nat, m ≠ 0 → ∃ j, m.testBit j = true ∧ (∀ i, i < j → m.testBit i = false) ∧ (m &&& (m - 1)) = m - 2 ^ j ∧ 2 ^ j ≤ m := by
  intro m
  induction m using Nat.strongRecOn with
  | ind m ih =>
    intro h
    by_cases odd : m % 2 = 1
    · refine ⟨0, by rw [Nat.testBit_zero, odd]; rfl, fun i hi => absurd hi (Nat.not_lt_zero _), ?_, by omega⟩
      have e := and_bit (m / 2) (m / 2) 1 0 (by decide) (by decide)
      rw [show 2 * (m / 2) + 1 = m by omega, show 2 * (m / 2) + 0 = m - 1 by omega, Nat.and_self] at e
      rw [e]
      show 2 * (m / 2) + 0 = m - 1
      omega
    · obtain ⟨j, h1, h2, h3, h4⟩ := ih (m / 2) (by omega) (by omega)
      refine ⟨j + 1, by rw [Nat.testBit_succ]; exact h1, fun i hi => ?_, ?_, by rw [Nat.pow_succ]; omega⟩
      · cases i with
        | zero =>
          rw [Nat.testBit_zero]
          have : m % 2 = 0 := by omega
          rw [this]
          rfl
        | succ i =>
          rw [Nat.testBit_succ]
          exact h2 i (by omega)
      · have e := and_bit (m / 2) (m / 2 - 1) 0 1 (by decide) (by decide)
        rw [show 2 * (m / 2) + 0 = m by omega, show 2 * (m / 2 - 1) + 1 = m - 1 by omega, h3] at e
        rw [e, Nat.pow_succ]
        show 2 * (m / 2 - 2 ^ j) + 0 = _
        omega
theorem low_nat {m j : Nat} (h : (m &&& (m - 1)) = m - 2 ^ j) (hj : 2 ^ j ≤ m) : Builtin.bitAnd (m : Int) (-(m : Int)) = ((2 ^ j : Nat) : Int) := by
  have pos : 0 < m := Nat.lt_of_lt_of_le (Nat.two_pow_pos j) hj
  have e : (-(m : Int)) = Builtin.bitNot ((m - 1 : Nat) : Int) := by
    unfold Builtin.bitNot
    have : ((m - 1 : Nat) : Int) = (m : Int) - 1 := by omega
    rw [this]
    omega
  rw [e, wo_nat]
  unfold wo
  rw [h, Nat.sub_sub_self hj]
/-- without its bit j -/
theorem drop_bit {m j : Nat} (h : m.testBit j = true) (k : Nat) : (m - 2 ^ j).testBit k = (m.testBit k && decide (k ≠ j)) ∧ 2 ^ j ≤ m := by
  have a : m &&& 2 ^ j = 2 ^ j := by
    refine Nat.eq_of_testBit_eq fun i => ?_
    rw [Nat.testBit_and, Nat.testBit_two_pow]
    by_cases e : j = i
    · subst e
      simp [h]
    · simp [e]
  have le : 2 ^ j ≤ m := by
    have := and_le m (2 ^ j)
    rw [a] at this
    exact this
  have w := wo_bit k m (2 ^ j)
  unfold wo at w
  rw [a] at w
  refine ⟨?_, le⟩
  rw [w, Nat.testBit_two_pow]
  by_cases e : j = k
  · subst e
    simp
  · have e' : k ≠ j := fun z => e z.symm
    simp [e, e']
theorem xor_nat {m j : Nat} (h : m.testBit j = true) : Builtin.bitXor (m : Int) ((2 ^ j : Nat) : Int) = ((m - 2 ^ j : Nat) : Int) := by
  have a : m &&& 2 ^ j = 2 ^ j := by
    refine Nat.eq_of_testBit_eq fun i => ?_
    rw [Nat.testBit_and, Nat.testBit_two_pow]
    by_cases e : j = i
    · subst e
      simp [h]
    · simp [e]
  have le := (drop_bit h 0).2
  have o := or_add m (2 ^ j)
  show Builtin.bitOr _ _ - Builtin.bitAnd _ _ = _
  rw [or_nat, and_nat, a]
  rw [a] at o
  omega
/-- the states of a mask -/
def bitsOf (n m : Nat) : List Int := flt n fun s => m.testBit s.toNat
theorem mem_bits {n m : Nat} {s : Int} : s ∈ bitsOf n m ↔ (0 ≤ s ∧ s < (n : Int)) ∧ m.testBit s.toNat = true := mem_flt
theorem flt_succ (n : Nat) (p : Int → Bool) : flt (n + 1) p = flt n p ++ if p (n : Int) = true then [(n : Int)] else [] := by
  unfold flt
  rw [rng_succ, List.filter_append]
  congr 1
  cases c : p (n : Int) <;> simp [c]
theorem flt_nil {n : Nat} {p : Int → Bool} (h : ∀ i : Nat, i < n → p (i : Int) = false) : flt n p = [] := by
  unfold flt
  refine List.filter_eq_nil_iff.mpr fun x hx => ?_
  obtain ⟨h0, h1⟩ := rng_mem.mp hx
  have := h x.toNat (by omega)
  rw [Int.toNat_of_nonneg h0] at this
  rw [this]
  exact Bool.false_ne_true
theorem flt_low {j : Nat} {p : Int → Bool} (hp : p (j : Int) = true) (hl : ∀ i : Nat, i < j → p (i : Int) = false) : ∀ n : Nat, j < n → flt n p = (j : Int) :: flt n fun k => p k && decide (k ≠ (j : Int))
  | n + 1, h => by
    rw [flt_succ, flt_succ]
    by_cases e : j = n
    · subst e
      rw [flt_nil hl, flt_nil fun i hi => by rw [hl i hi]; rfl, hp]
      simp
    · rw [flt_low hp hl n (by omega)]
      have ne : ((n : Nat) : Int) ≠ (j : Int) := by omega
      have : (p (n : Int) && decide ((n : Int) ≠ (j : Int))) = p (n : Int) := by simp [ne]
      rw [this]
      rfl
/-- the least bit first -/
theorem bits_low {n m j : Nat} (h : m.testBit j = true) (hl : ∀ i, i < j → m.testBit i = false) (hn : m < 2 ^ n) : bitsOf n m = (j : Int) :: bitsOf n (m - 2 ^ j) := by
  have jn : j < n := by
    refine Classical.byContradiction fun c => ?_
    have := (drop_bit h 0).2
    have : 2 ^ n ≤ 2 ^ j := Nat.pow_le_pow_right (by decide) (by omega)
    omega
  unfold bitsOf
  rw [flt_low (j := j) (p := fun s => m.testBit s.toNat) (by simpa using h) (fun i hi => by simpa using hl i hi) n jn]
  congr 1
  refine flt_congr fun s h0 h1 => ?_
  rw [(drop_bit h s.toNat).1]
  congr 1
  have : (s ≠ (j : Int)) ↔ s.toNat ≠ j := by omega
  exact decide_eq_decide.mpr this
theorem bits_zero (n : Nat) : bitsOf n 0 = [] := flt_nil fun i _ => Nat.zero_testBit _
end Fw

namespace Fw
open PySem PySem.Spec PyProof.Rows L2
/-- a list's item as the base of an assignment that adds to it -/
theorem pget_list {X : Cx} : PGet X (rIxL X.K) := by
  intro pins s σ H x y v u Q I rx ry h
  obtain ⟨p, xs, i, z, rfl, rfl, hq, he, q⟩ := h
  cases rx
  obtain ⟨t, rfl⟩ := ry
  obtain ⟨its, r, pl, hz⟩ := I.list hq
  obtain ⟨j, h1, h2, h3, h4, h5⟩ := atI_get he
  obtain ⟨w, ew, rw'⟩ := r.get h2
  have hl := r.length
  have hn := line63
  have fin : EP X pins σ Q w s := ⟨z, H, I, rw', q⟩
  by_cases h0 : 0 ≤ i
  · have hj : i.toNat = j := by
      rw [seqIndex_of h0 h5] at h1
      exact Option.some.inj h1
    exact wpAny_getItem_list pl.isList h0 (by omega) (by rw [hj]; simpa using ew) fin
  · have hj : (i + (its.toArray.size : Int)).toNat = j := by
      rw [seqIndex_neg (by omega) h4] at h1
      rw [List.size_toArray, ← hl]
      exact Option.some.inj h1
    exact wpAny_getItem_list_neg pl.isList (by omega) (by rw [List.size_toArray] <;> omega) (by omega) (by rw [hj]; simpa using ew) fin
end Fw

set_option maxRecDepth 100000
set_option maxHeartbeats 2000000
namespace Fw
open PySem PySem.Spec PyProof.Rows L2
theorem ip_or {X : Cx} : PIp X .BitOr (rI0 fun i j => .int (Builtin.bitOr i j)) := fun pins s σ H x y v u Q I r1 r2 h => iop_or pins s σ H x y v u Q I r1 r2 h
theorem ip_xor {X : Cx} : PIp X .BitXor (rI0 fun i j => .int (Builtin.bitXor i j)) := fun pins s σ H x y v u Q I r1 r2 h => iop_xor pins s σ H x y v u Q I r1 r2 h
theorem bits_pow (j : Nat) : Builtin.Int.intBits ((2 ^ j : Nat) : Int) = j + 1 := by
  refine Nat.le_antisymm (PyProof.Rows.intBits_le ?_) ?_
  · rw [Int.natAbs_natCast]
    exact Nat.pow_lt_pow_right (by decide) (Nat.lt_succ_self j)
  · refine Classical.byContradiction fun c => ?_
    have h := PyProof.Rows.natAbs_lt_pow_bits ((2 ^ j : Nat) : Int)
    rw [Int.natAbs_natCast] at h
    have : 2 ^ Builtin.Int.intBits ((2 ^ j : Nat) : Int) ≤ 2 ^ j := Nat.pow_le_pow_right (by decide) (by omega)
    omega
theorem bitsOf_len (n m : Nat) : (bitsOf n m).length ≤ n := by
  unfold bitsOf flt
  exact Nat.le_trans (List.length_filter_le _ _) (by simp [rng])
def orAll : List Nat → Nat
  | [] => 0
  | x :: xs => x ||| orAll xs
theorem orAll_app : ∀ xs ys : List Nat, orAll (xs ++ ys) = (orAll xs ||| orAll ys)
  | [], ys => by simp [orAll]
  | x :: xs, ys => by simp [orAll, orAll_app xs ys, Nat.or_assoc]
theorem orAll_bit {i : Nat} : ∀ {xs : List Nat}, (orAll xs).testBit i = xs.any fun x => x.testBit i
  | [] => by simp [orAll]
  | x :: xs => by simp [orAll, orAll_bit (xs := xs)]
theorem orAll_lt {n : Nat} : ∀ {xs : List Nat}, (∀ x ∈ xs, x < 2 ^ n) → orAll xs < 2 ^ n
  | [], _ => Nat.two_pow_pos n
  | x :: xs, h => Nat.or_lt_two_pow (h x List.mem_cons_self) (orAll_lt fun y hy => h y (List.mem_cons_of_mem _ hy))
section
variable {P : Program} {w : World} {K : PySem.W.Frag} {mg : Str → Option Value} {base : Heap} {C J B : Addr}
def spSt : Sp := fun vs H Q _ => ∃ (n m : Nat), vs = [.int (m : Nat)] ∧ m < 2 ^ n ∧ n ≤ 900 ∧ ∀ (l : Addr) H', Same H H' → H l = none → H' l = some (.lst ((bitsOf n m).map V.int)) → Q (.ref l) H'
theorem ok_states_in {f : Addr} {fd : FuncData} (FF : Fun K "states_in" "states_in" s_states_in f fd) : FnOk P w K mg base CX0 1 f fd a_states_in spSt := by
  refine FF.ok sc_states_in (fun vs H Q E h => ?_) (fun cdv A outer s H vs Q E hr h => ?_)
  · obtain ⟨n, m, rfl, _⟩ := h
    rfl
  · obtain ⟨n, m, rfl, hm, hn, k⟩ := h
    refine ⟨_, (pss_cons (ps_set (i := 1) sc_states_in.nd rfl (.inl rfl) (pe_lst pa_nil))
      (pss_cons (ps_while PassesOwn.never (pt_truth (pv 0) (by intro _; rfl)) (pss_cons (ps_set (i := 2) sc_states_in.nd rfl (.inl rfl) (pe_op op_and (pv 0) (pe_un un_neg (pv 0))))
      (pss_cons (ps_expr (pe_bm PySem.F.plainAttrs_list PySem.F.slot_list_append PySem.F.type_list_append mt_append (pv 1) (pa_cons (pe_op op_sub (pe_bits (pv 2)) pe_int) pa_nil)))
      (pss_one (ps_aug (i := 0) sc_states_in.nd rfl (.inl rfl) (pv 2) ip_xor)))))
      (pss_one (ps_ret (pv 1))))), ?_⟩
    refine ⟨Nat.zero_le _, fun l hl => ?_⟩
    have s1 := Same.new (o := .lst []) hl
    have g1 : (upd H l (.lst [])) l = some (.lst (([] : List Int).map V.int)) := upd_same
    generalize upd H l (.lst []) = H1 at s1 g1
    refine ⟨fun d σ G => ∃ (m' : Nat) (L : List Int) (y2 : Option V), σ = [some (.int (m' : Nat)), some (.ref l), y2] ∧ Same H G ∧ G l = some (.lst (L.map V.int)) ∧ m' < 2 ^ n ∧ L ++ bitsOf n m' = bitsOf n m ∧ d = m', ⟨_, m, [], none, rfl, s1, g1, hm, rfl, rfl⟩, ?_⟩
    rintro d σ G ⟨m', L, y2, rfl, sG, gl, hm', hL, rfl⟩
    refine ⟨.int (d : Nat), rfl, (((d : Nat) : Int) != 0), rfl, ?_⟩
    by_cases z : d = 0
    · subst z
      have e : L = bitsOf n m := by rw [← hL, bits_zero, List.append_nil]
      refine ⟨.ref l, rfl, k l G sG hl ?_⟩
      rw [gl, e]
    · obtain ⟨j, h1, h2, h3, h4⟩ := low d z
      have hb : (((d : Nat) : Int) != 0) = true := by
        simp [bne_iff_ne]; omega
      have pj := Nat.two_pow_pos j
      have hlow := low_nat h3 h4
      have len : L.length < sizeLine := by
        have a : L.length ≤ (bitsOf n m).length := by rw [← hL, List.length_append]; omega
        have b := bitsOf_len n m
        exact Nat.lt_of_le_of_lt (Nat.le_trans a (Nat.le_trans b hn)) (by decide)
      have cons := bits_low h1 h2 hm'
      rw [hb, if_pos rfl]
      refine ⟨fun σ' G' => ∃ y, σ' = [some (.int ((d - 2 ^ j : Nat) : Int)), some (.ref l), y] ∧ G' = upd G l (.lst ((L ++ [(j : Int)]).map V.int)), ?_, ?_⟩
      · rintro σ' G' ⟨y, rfl, rfl⟩
        refine ⟨d - 2 ^ j, by omega, d - 2 ^ j, L ++ [(j : Int)], y, rfl, fun b o e => ?_, upd_same, by omega, ?_, rfl⟩
        · have nb : b ≠ l := fun c => by rw [c, hl] at e; cases e
          rw [upd_ne nb]
          exact sG b o e
        · rw [List.append_assoc, ← hL, cons]; rfl
      · refine ⟨.int (d : Nat), rfl, .int (d : Nat), rfl, _, rfl, _, _, rfl, rfl, ?_⟩
        have hg : (fun i j : Int => V.int (Builtin.bitAnd i j)) ((d : Nat) : Int) (-((d : Nat) : Int)) = V.int ((2 ^ j : Nat) : Int) := by show V.int _ = _; rw [hlow]
        rw [hg]
        refine ⟨.ref l, rfl, ?_, _, rfl, _, rfl, _, _, rfl, rfl, l, _, _, rfl, rfl, gl, by rw [List.length_map]; exact len, ?_⟩
        · exact .inl ⟨rfl, _, SqL.of gl⟩
        refine ⟨_, rfl, _, rfl, _, _, rfl, rfl, some (.int ((2 ^ j : Nat) : Int)), ?_, ?_⟩
        · have hx : (fun i j : Int => V.int (Builtin.bitXor i j)) ((d : Nat) : Int) ((2 ^ j : Nat) : Int) = V.int ((d - 2 ^ j : Nat) : Int) := by show V.int _ = _; rw [xor_nat h1]
          rw [hx]; rfl
        · rw [bits_pow, List.map_append]
          have e : (fun i j : Int => V.int (i - j)) ((j + 1 : Nat) : Int) 1 = V.int (j : Int) := by
            show V.int _ = _
            congr 1
            omega
          rw [e]; rfl
/-- the union of the rows of the states of a mask -/
def unionOf (n : Nat) (rs : List Nat) (m : Nat) : Nat := orAll ((bitsOf n m).map fun i => rs.getD i.toNat 0)
def spLed : Sp := fun vs H Q _ => ∃ (n m : Nat) (a : Addr) (rs : List Nat), vs = [.ref a, .int (m : Nat)] ∧ H a = some (.lst (rs.map fun x => V.int (x : Nat))) ∧ rs.length = n ∧ n ≤ 900 ∧ m < 2 ^ n ∧ (∀ x ∈ rs, x < 2 ^ n) ∧ ∀ H', Same H H' → Q (.int (unionOf n rs m : Nat)) H'
theorem ok_led {f : Addr} {fd : FuncData} (FF : Fun K "led" "led" s_led f fd) (h_states_in : Has P w K mg base "states_in" 1 a_states_in spSt) : FnOk P w K mg base CX0 2 f fd a_led spLed := by
  refine FF.ok sc_led (fun vs H Q E h => ?_) (fun cdv A outer s H vs Q E hr h => ?_)
  · obtain ⟨n, m, a, rs, rfl, _⟩ := h
    rfl
  · obtain ⟨n, m, a, rs, rfl, ha, hl, hn, hm, hx, k⟩ := h
    refine ⟨_, (pss_cons (ps_set (i := 2) sc_led.nd rfl (.inl rfl) pe_int)
      (pss_cons (ps_for PassesOwn.never rfl (pi_list (pe_callH h_states_in (hr.mono (by omega)) (pa_cons (pv 1) pa_nil))) (pg_name (i := 3) sc_led.nd rfl (.inl rfl)) (pss_one (ps_aug (i := 2) sc_led.nd rfl (.inl rfl) (pe_ix ix_list (pv 0) (pv 3) (fun _ _ => rfl)) ip_or)))
      (pss_one (ps_ret (pv 2))))), ?_⟩
    refine ⟨.int (m : Nat), rfl, n, m, rfl, hm, hn, fun l G s1 nl gl => ?_⟩
    refine ⟨l, rfl, ⟨_, SqL.of gl⟩, fun i c σ F => ∃ y, c = (bitsOf n m).length - i ∧ i ≤ (bitsOf n m).length ∧ σ = [some (.ref a), some (.int (m : Nat)), some (.int (orAll (((bitsOf n m).take i).map fun q => rs.getD q.toNat 0) : Nat)), y] ∧ F = G, ⟨_, none, rfl, Nat.zero_le _, rfl, rfl⟩, ?_⟩
    rintro i c σ F ⟨y, rfl, hi, rfl, rfl⟩
    by_cases e : i < (bitsOf n m).length
    · refine .inr ⟨⟨_, .int (bitsOf n m)[i], SqL.of gl, by rw [List.getElem?_map, List.getElem?_eq_getElem e]; rfl⟩, fun σ' F' => ∃ y, σ' = [some (.ref a), some (.int (m : Nat)), some (.int (orAll (((bitsOf n m).take (i + 1)).map fun q => rs.getD q.toNat 0) : Nat)), y] ∧ F' = F, ?_, ?_⟩
      · rintro σ' F' ⟨y, rfl, rfl⟩
        exact ⟨_, by omega, y, rfl, by omega, rfl, rfl⟩
      · rintro x F' ⟨rfl, hx2⟩
        have hx3 := hx2 _ (SqL.of gl)
        rw [List.getElem?_map, List.getElem?_eq_getElem e] at hx3
        cases hx3
        have mem := mem_bits.mp (List.getElem_mem e)
        generalize hs : (bitsOf n m)[i] = q at mem ⊢
        obtain ⟨t, rfl⟩ := Int.eq_ofNat_of_zero_le mem.1.1
        have tl : t < rs.length := by omega
        refine ⟨_, rfl, .ref a, rfl, .int (t : Nat), rfl, a, _, _, _, rfl, rfl, SqL.of (s1 _ _ ha), atI_nat (j := t) (by rw [List.getElem?_map, List.getElem?_eq_getElem tl]; rfl), _, _, rfl, rfl, some (.int (t : Nat)), ?_, rfl⟩
        have ho : (fun i j : Int => V.int (Builtin.bitOr i j)) ((orAll (((bitsOf n m).take i).map fun q => rs.getD q.toNat 0) : Nat) : Int) ((rs[t] : Nat) : Int) = V.int ((orAll (((bitsOf n m).take (i + 1)).map fun q => rs.getD q.toNat 0) : Nat) : Int) := by
          show V.int _ = _
          rw [or_nat, List.take_add_one, List.getElem?_eq_getElem e, hs, List.map_append, orAll_app]
          simp [orAll, List.getD, List.getElem?_eq_getElem tl]
        rw [ho]; rfl
    · have e2 : i = (bitsOf n m).length := by omega
      subst e2
      refine .inl ⟨⟨_, SqL.of gl, by rw [List.length_map]; exact Nat.le_refl _⟩, ?_⟩
      refine ⟨_, rfl, ?_⟩
      rw [List.take_length]
      exact k _ s1
end
end Fw

set_option maxRecDepth 100000
set_option maxHeartbeats 4000000
/-! list(d.values()), the dict's keys being tuples -/
namespace Fw
open PySem PySem.Spec PyProof.Rows L2
section
variable {prog : Program} {w : World} {d r : Addr} {es : Array DictEntry} {ep : Nat}
theorem src_vals : PySem.W.KdlSrc prog w "dict_values" r d es.size (fun i v => ∃ hi : i < es.size, v = es[i].val) (fun h => h.IsValuesView r d ∧ h.DictRaw d es ep) where
  type := fun _ z => z.1.typeIs
  there := fun _ z => ⟨(fun ⟨_, e, _⟩ => Heap.lt_size e) z.1, (fun ⟨_, e, _⟩ => Heap.lt_size e) z.2⟩
  keep := fun _ _ z kp => ⟨(fun ⟨o, e, y⟩ => ⟨o, kp r (.inl rfl) o e, y⟩) z.1, z.2.at fun o e => kp d (.inr rfl) o e⟩
  notList := by decide
  notTuple := by decide
  hint := fun _ _ _ _ z q => PySem.W.kdl_hint_values z.1.typeIs q
  iter := fun _ s hh z => ⟨_, _, (fun _ _ q => wpAny_pyIter_values_raw z.1 z.2 q), Walks.rawValues hh _ d (Nat.ne_of_lt ((fun ⟨_, e, _⟩ => Heap.lt_size e) z.2)) es ep, ⟨⟨_, Heap.get?_push_size _ rfl, rfl, rfl⟩, z.2.at fun o e => Heap.get?_push_of_some _ e⟩⟩
end
def tListVals (te : TE) : TE := fun σ H Q => te σ H fun x H1 => ∃ (d : Addr) (kvs : List (List Key × V)), x = .ref d ∧ H1 d = some (.dT kvs) ∧ ∀ p, H1 p = none → Q (.ref p) (upd H1 p (.lst (kvs.map fun e => e.2)))
theorem vals_second {α : Type} {F : α × V → α × Addr × Value → Prop} {kvs : List (α × V)} {xs : List (α × Addr × Value)} (h : Paired F kvs xs) (hF : ∀ p q, F p q → RelV p.2 q.2.2) : Vals (kvs.map fun e => e.2) (xs.map fun e => e.2.2) := by
  induction h with
  | nil => exact .nil
  | cons a _ ih => exact .cons (hF _ _ a) ih
section
variable {X : Cx} {e : Expr} {te : TE} {p apos cpos pos : Pos}
theorem pe_listValsT (hc : X.calm = true) (he : PE X e te) (hg : Gl X "list") (hm : X.mg "list" = none) (hv : bootBuiltins "list" = some (.type "list")) (hbase : attributeBase e "values" X.env (eval e X.env) = eval e X.env := by rfl) (hline : (apos.endLine == cpos.line) = true := by rfl)
    (hs : starEach [.Call (.Attribute e "values" apos) [] [] cpos] X.env = (false, eval (.Call (.Attribute e "values" apos) [] [] cpos) X.env) :: starEach [] X.env := by rfl) :
    PE X (.Call (.Name "list" p) [.Call (.Attribute e "values" apos) [] [] cpos] [] pos) (tListVals te) := by
  refine ⟨fun pins s σ H Q I hq => ?_⟩
  refine wpAny_Call_Name_kw (ld_blt I hg hm hv ?_)
  refine PyProof.Rows.callWith_type1 ?_ hs rfl
  rw [hs]
  show wpAny _ _ (spliced ((false, eval (.Call (.Attribute e "values" apos) [] [] cpos) X.env) :: backTo pos (starEach [] X.env))) _ _ s
  refine Calls.spliced_cons ?_
  refine wpAny_Call_method (T := "dict") (id := "dict.values") hbase rfl hline F.plainAttrs_dict F.slot_dict_values F.type_dict_values (thn (he.run pins s σ H _ I hq) fun u s1 ⟨x, H1, I1, rx, d, kvs, ex, hd, q⟩ => ?_)
  subst ex
  obtain rfl : u = Value.ref d := rx
  obtain ⟨z, hs0, ks, pr, o, es, ep, ho, hx, hdt, he', hn⟩ := I1.hok d _ hd
  have raw : s1.heap.DictRaw d es ep := ⟨o, ho, hx, hdt⟩
  have I2 : Inv X pins σ H1 { s1 with heap := s1.heap.push { cls := .type "dict_values", data := .fields #[.ref d] } } := I1.kept (t' := s1.toks) fun b ob q => Heap.get?_push_of_some _ q
  refine ⟨raw.typeIs, fun b y => ?_, ?_⟩
  · cases y
    exact ⟨o, ho, hx.2.1⟩
  show wpAny _ _ (callWith cpos (.builtin "dict.values") [.ref d] [] []) _ X.xe s1
  refine method_meetsIn F.slot_dict_values F.entry_dict_values rfl (PySem.evalArgs_none ⟨rfl, raw.typeIs, F.args_dict_values_1 _, _, meets_dict_values_raw d hs0, ⟨⟨es, ep, raw⟩, ?_⟩⟩)
  refine Calls.spliced_nil ?_
  have l1 : es.size = ks.length := size_of_entries he'
  have l2 : kvs.length = ks.length := Paired.length pr
  refine PySem.W.kdl_call (src_vals (es := es) (ep := ep)) (I1.ok.hd hc) ⟨⟨_, Heap.get?_push_size _ rfl, rfl, rfl⟩, raw.at fun o y => Heap.get?_push_of_some _ y⟩ (by omega) fun h' tk acc c kp hS hacc => ?_
  have ea : acc.toList = ks.map fun y => y.2.2 := by
    have hl : acc.toList.length = ks.length := by rw [Array.length_toList, hacc.1]; exact l1
    refine List.ext_getElem? fun j => ?_
    rw [List.getElem?_map]
    cases hj : acc.toList[j]? with
    | none =>
      have := List.getElem?_eq_none_iff.mp hj
      rw [List.getElem?_eq_none (by omega)]
      rfl
    | some v =>
      obtain ⟨hi, hv'⟩ := hacc.2 j v (by rw [← Array.getElem?_toList]; exact hj)
      have qe := entry_at he' j
      rw [Array.getElem?_eq_getElem hi] at qe
      cases hb : ks[j]? with
      | none =>
        rw [hb] at qe
        cases (show some es[j] = none from qe)
      | some b =>
        rw [hb] at qe
        have e2 : es[j] = entryOfKey (tupleKind (mixKind X.prog X.w)) b := Option.some.inj qe
        rw [hv', e2]
        rfl
  have rv : Vals (kvs.map fun y => y.2) acc.toList := by
    rw [ea]
    exact vals_second pr fun _ _ y => y.2.2
  refine ⟨.ref _, _, I2.laid (t' := tk) (o := .lst (kvs.map fun y => y.2)) kp (Nat.le_refl _) ⟨?_, acc.toList, c, rv, by rw [Array.toArray_toList]; exact hS⟩, rfl, q _ (I2.hok.fresh (Nat.le_refl _))⟩
  rw [List.length_map]
  exact z
end
end Fw

set_option maxRecDepth 100000
set_option maxHeartbeats 4000000
/-! enumerate(t), t a tuple: my own rule for it, beside the library's for lists -/
namespace Fw
open PySem PySem.Spec PyProof.Rows L2 AutoSeq1
set_option maxHeartbeats 1000000 in
theorem new_enumT (t : Addr) (its : Array Value) (m : Nat) (dc : Option Addr) (sl : Array (Option Value)) :
    Meets (Builtin.«enumerate.__new__» ⟨[.type "enumerate", .ref t], []⟩) (fun _ R s => s.heap.get? t = some { cls := .type "tuple", dict := dc, data := .seq its m, slots := sl } ∧
      R (.ok (.ret (.ref (s.heap.push { cls := .type "tuple_iterator", data := .fields #[.ref t, .int 0 0] }).objs.size)))
        { s with heap := (s.heap.push { cls := .type "tuple_iterator", data := .fields #[.ref t, .int 0 0] }).push { cls := .type "enumerate", data := .fields #[.none, .bool false, .ref s.heap.objs.size, rawInt 0, .none, .none] } }) :=
  .of_wp fun prog w A R s z => by
    obtain ⟨hp, g, d, tk, os⟩ := s
    obtain ⟨ht, z⟩ := z
    have sub := sub_enumerate
    have tup : Heap.IsTuple (Shared.heap ⟨hp, g, d, tk, os⟩) t its := ⟨_, ht, rfl, m, rfl⟩
    wp_walk using wpAny_loadPart' ht
    refine wpAny_stack_any fun st => wpAny_pure ?_
    split
    · rename_i c _ _ _ _ _
      cases (c == Value.type "enumerate")
      · wp_walk using wpAny_loadPart' ht, wpAny_pyIter_tuple tup
        exact ⟨_, rfl, z⟩
      · wp_walk using wpAny_loadPart' ht, wpAny_pyIter_tuple tup
        exact ⟨_, rfl, z⟩
    · wp_walk using wpAny_loadPart' ht, wpAny_pyIter_tuple tup
      exact ⟨_, rfl, z⟩
theorem call_enumT {prog : Program} {w : World} {A : Around} {E : Value → Shared → Prop} {s : Shared} {t : Addr} {its : Array Value} {Q : Value → Shared → Prop} (hT : s.heap.IsTuple t its)
    (h : ∀ h', IsEnum h' (s.heap.objs.size + 1) s.heap.objs.size 0 .none → h'.IsTupleIter s.heap.objs.size t 0 → h'.objs.size = s.heap.objs.size + 2 → (∀ b o, s.heap.get? b = some o → h'.get? b = some o) → Q (.ref (s.heap.objs.size + 1)) { s with heap := h' }) :
    wpAny (model prog w) A (call (.type "enumerate") [.ref t]) Q E s := by
  obtain ⟨⟨c, dc, dt, sl⟩, ht, hc, m, hd⟩ := hT
  obtain rfl : c = .type "tuple" := hc
  obtain rfl : dt = .seq its m := hd
  refine callType_new F.called_enumerate (by decide) (F.typeCall_enumerate_1 _) (F.newCall_enumerate_1 _) (fun obj => F.args_object_init_2 obj _) F.entry_enumerate_new (new_enumT t its m dc sl) ⟨ht, ?_⟩
  have sz : (s.heap.push { cls := .type "tuple_iterator", data := .fields #[.ref t, .int 0 0] }).objs.size = s.heap.objs.size + 1 := Heap.size_push ..
  show _ ∧ _
  rw [sz]
  have en : IsEnum ((s.heap.push { cls := .type "tuple_iterator", data := .fields #[.ref t, .int 0 0] }).push { cls := .type "enumerate", data := .fields #[.none, .bool false, .ref s.heap.objs.size, rawInt 0, .none, .none] }) (s.heap.objs.size + 1) s.heap.objs.size 0 .none := by
    have e := Heap.get?_push_size (s.heap.push { cls := .type "tuple_iterator", data := .fields #[.ref t, .int 0 0] }) (o := { cls := .type "enumerate", data := .fields #[.none, .bool false, .ref s.heap.objs.size, rawInt 0, .none, .none] }) rfl
    rwa [sz] at e
  exact ⟨⟨_, en, rfl⟩, h _ en ⟨_, Heap.get?_push_of_some _ (Heap.get?_push_size _ rfl), rfl, rfl⟩ (by rw [Heap.size_push, sz]) fun b o x => Heap.get?_push_of_some _ (Heap.get?_push_of_some _ x)⟩
/-- the tuple at a as it stands at each turn, each item in a new pair -/
def IteT (K : PySem.W.Frag) (a : Addr) : It :=
  ⟨fun i H => ∃ (xs : List V) (x : V), SqT K H a xs ∧ xs[i]? = some x, fun i H v H' => ∃ T x, v = .ref T ∧ H T = none ∧ H' = upd H T (.tup [.int (i : Nat), x]) ∧ ∀ xs, SqT K H a xs → xs[i]? = some x, fun i H => ∃ xs : List V, SqT K H a xs ∧ xs.length = i⟩
theorem turn_enumT {P : Program} {w : World} {K : PySem.W.Frag} {elts : List Expr} {kk : Nat} {tpos : Pos} (a e it : Addr) :
    Turn P w K (.Tuple elts kk tpos) (IteT K a) [e, it] e (fun i h => (∃ old, IsEnum h e it ((i : Nat) : Int) old) ∧ h.IsTupleIter it a i ∧ e ≠ it) where
  mem := by simp
  obj := fun i h st b hb => by
    obtain ⟨⟨old, he⟩, ⟨o, ho, hc, hd⟩, _⟩ := st
    rcases (show b = e ∨ b = it by simpa using hb) with z | z
    · rw [z]; exact ⟨_, he, fun v q => nomatch q⟩
    · rw [z]; exact ⟨o, ho, fun v q => by rw [hd] at q; cases q⟩
  keep := fun i h h' st k => let ⟨⟨old, he⟩, hi, hne⟩ := st; ⟨⟨old, k e (by simp) _ he⟩, hi.at fun o q => k it (by simp) o q, hne⟩
  item := by
    intro X hP hw hK hc i pins s σ H E I hf st hg
    subst hP hw hK
    obtain ⟨⟨old, he⟩, hit, hne⟩ := st
    obtain ⟨xs, x, hq, hx⟩ := hg
    obtain ⟨its, rv, p, hz⟩ := I.tuple hq
    obtain ⟨u, hu, ru⟩ := rv.get hx
    have hel : e < s.heap.objs.size := Heap.lt_size he
    have hil : it < s.heap.objs.size := by obtain ⟨_, q, _⟩ := hit; exact Heap.lt_size q
    have D := Draws.tuple (prog := X.prog) (w := X.w) (A := X.A.in1) (I.ok.hd hc) it a (fun z => by
      obtain ⟨o, e1, c1, _⟩ := p
      obtain ⟨o2, e2, c2, _⟩ := hit
      rw [z, e2] at e1
      cases e1
      rw [c2] at c1
      exact absurd (Value.type.inj c1) (by decide)) its.toArray
    have hea : e ∉ [it, a] := fun z => by
      rcases (show e = it ∨ e = a by simpa using z) with z | z
      · exact hne z
      · obtain ⟨o, e1, c1, _⟩ := p
        rw [← z, he] at e1
        cases e1
        exact absurd (Value.type.inj c1) (by decide)
    have hlen : i < its.toArray.size := by
      have := (List.getElem?_eq_some_iff.mp hu).1
      simpa using this
    refine wpAny_pyNext_enum_itemC D he ⟨hit, p⟩ hlen hne hea fun x' h' tk hP ho st' hT hsz hk => ?_
    obtain ⟨hit', _⟩ := st'
    have hxu : x' = u := by
      have : its.toArray[i]? = some x' := hP
      rw [List.getElem?_toArray, hu] at this
      exact (Option.some.inj this).symm
    subst hxu
    refine ⟨_, rfl, wpAny_letOwnedTupleGo_enum (s := { s with heap := h', toks := tk + 1 }) ho fun h'' he' sb => ?_⟩
    have hT2 : h''.get? s.heap.objs.size = some { cls := .type "tuple", data := .seq #[.int i tk, x'] } := (sb.2 _ (Nat.ne_of_gt hel)).trans hT
    have fresh := I.hok.fresh (Nat.le_refl s.heap.objs.size)
    have laid : ObjOk X.prog X.w (upd H s.heap.objs.size (.tup [.int (i : Nat), x])) h'' s.heap.objs.size (.tup [.int (i : Nat), x]) :=
      ⟨by show 2 ≤ sizeLine; decide, [.int i tk, x'], .cons ⟨_, rfl⟩ (.cons ru .nil), ⟨_, hT2, rfl, _, rfl⟩⟩
    have I1 : Inv X pins σ (upd H s.heap.objs.size (.tup [.int (i : Nat), x])) { s with heap := h'', toks := tk + 1 } :=
      I.turnedNew (ch := [e, it]) (fun b ob hb q => (sb.2 b (fun z => hb (by simp [z]))).trans (hk b ob (fun z => hb (by simp [z])) (fun z => hb (by simp [z])) q)) hf (Nat.le_refl _) laid
    refine ⟨.ref s.heap.objs.size, _, I1, rfl, ⟨_, x, rfl, fresh, rfl, fun ys hy => ?_⟩, ⟨⟨x', ?_⟩, hit'.at fun o q => (sb.2 it (Ne.symm hne)).trans q, hne⟩, fun b hb => ?_⟩
    · rw [I.tuple_inj hy hq]
      exact hx
    · rw [show ((i + 1 : Nat) : Int) = (i : Int) + 1 by omega]
      exact he'
    · have hb' : b < s.heap.objs.size := by
        rcases (show b = e ∨ b = it by simpa using hb) with z | z
        · rw [z]; exact hel
        · rw [z]; exact hil
      rw [upd_ne (Nat.ne_of_lt hb')]
      exact (hf b hb).1
  done := by
    intro X hP hw hK hc i pins s σ H E I hf st hg
    subst hP hw hK
    obtain ⟨⟨old, he⟩, hit, hne⟩ := st
    obtain ⟨xs, hq, hx⟩ := hg
    obtain ⟨its, rv, p, hz⟩ := I.tuple hq
    obtain ⟨f0, f1, f2, f3, f4, f5⟩ := hf it (by simp)
    have hl := rv.length
    have D := Draws.tuple (prog := X.prog) (w := X.w) (A := X.A.in1) (I.ok.hd hc) it a (fun z => by
      obtain ⟨o, e1, c1, _⟩ := p
      obtain ⟨o2, e2, c2, _⟩ := hit
      rw [z, e2] at e1
      cases e1
      rw [c2] at c1
      exact absurd (Value.type.inj c1) (by decide)) its.toArray
    have ei : its.toArray.size = i := by rw [List.size_toArray, ← hl]; exact hx
    refine wpAny_pyNext_enum_endD D he (by rw [ei]; exact ⟨hit, p⟩) fun h' eb => ⟨rfl, I.turned (t' := s.toks) (fun b o hb q => eb b o hb q) f0 f1 f3 f4 f5⟩
  self := fun A i s Q E st h => let ⟨⟨_, he⟩, _⟩ := st; wpAny_pyIter_enum he h
def iEnumT (K : PySem.W.Frag) (ta : TA) : TI := fun σ H R => ta σ H fun vs H1 => ∃ a xs, vs = [.ref a] ∧ SqT K H1 a xs ∧ R (IteT K a) H1
theorem pi_enumT {X : Cx} {e : Expr} {ta : TA} {p pos tpos : Pos} {elts : List Expr} {kk : Nat} (hg : Gl X "enumerate") (hm : X.mg "enumerate" = none) (ha : PA X [e] ta) (hs : starEach [e] X.env = [(false, eval e X.env)] := by rfl) :
    PI X (.Tuple elts kk tpos) (.Call (.Name "enumerate" p) [e] [] pos) (iEnumT X.K ta) := by
  refine ⟨fun pins s σ H R I h => ?_⟩
  refine Call_ (ld_blt I hg hm boot_enumerate (PyProof.Rows.callWith_type1 (thn (ha.run pos pins s σ H _ I h) fun us s1 ⟨vs, H1, I1, r1, a, xs, ex, hq, q⟩ => ?_) hs rfl))
  subst ex
  obtain ⟨u, rfl, ru⟩ := vals1 r1
  obtain rfl : u = Value.ref a := ru
  obtain ⟨its, rv, p', hz⟩ := I1.tuple hq
  refine call_enumT (show s1.heap.IsTuple a its.toArray from p') fun h' en hit hsz kp => wpAny_pyIter_enum en ?_
  have I2 : Inv X pins σ H1 { s1 with heap := h' } := I1.kept (t' := s1.toks) kp
  refine ⟨s1.heap.objs.size + 1, [s1.heap.objs.size + 1, s1.heap.objs.size], _, _, H1, rfl, I2, turn_enumT a (s1.heap.objs.size + 1) s1.heap.objs.size, ⟨⟨.none, en⟩, hit, Nat.succ_ne_self _⟩, fun b hb => ?_, q⟩
  have le : s1.heap.objs.size ≤ b := by
    rcases (show b = s1.heap.objs.size + 1 ∨ b = s1.heap.objs.size by simpa using hb) with z | z
    · rw [z]; exact Nat.le_succ _
    · rw [z]; exact Nat.le_refl _
  exact I1.fpOk le (I1.hok.fresh le)
theorem walk_enumT {K : PySem.W.Frag} {a : Addr} {xs : List V} : Walk (IteT K a) xs.length (fun H => SqT K H a xs) (YPair (fun i => some (V.int ((i : Nat) : Int))) fun i => xs[i]?) where
  goes := fun i H hi h => ⟨xs, xs[i], h, List.getElem?_eq_getElem hi⟩
  stops := fun H h => ⟨xs, h, rfl⟩
  yields := fun i H x H' hi h ⟨T, y, e1, e2, e3, e4⟩ => ⟨T, _, y, e1, e2, e3, rfl, e4 xs h⟩
end Fw

set_option maxRecDepth 100000
set_option maxHeartbeats 4000000
namespace Fw
open PySem PySem.Spec PyProof.Rows L2 GxR
theorem or_bit (m s : Nat) : Builtin.bitOr (m : Int) ((2 : Int) ^ s) = ((m ||| 2 ^ s : Nat) : Int) := by
  have hp : ((2 : Int) ^ s) = ((2 ^ s : Nat) : Int) := by rw [Int.natCast_pow]; rfl
  rw [hp, or_nat]
def mIn (m : Nat) (s : Int) : Bool := m.testBit s.toNat
def maskOf (X : List Int) : Nat := orAll (X.map fun x => 2 ^ x.toNat)
theorem maskOf_app (X Y : List Int) : maskOf (X ++ Y) = (maskOf X ||| maskOf Y) := by unfold maskOf; rw [List.map_append, orAll_app]
theorem maskOf_one (x : Int) : maskOf [x] = 2 ^ x.toNat := by simp [maskOf, orAll]
theorem maskOf_in {X : List Int} (h0 : ∀ x ∈ X, 0 ≤ x) {s : Int} (hs : 0 ≤ s) : mIn (maskOf X) s = sIn X s := by
  unfold mIn maskOf
  rw [orAll_bit]
  cases e : sIn X s with
  | true =>
    refine List.any_eq_true.mpr ⟨2 ^ s.toNat, List.mem_map.mpr ⟨s, sIn_iff.mp e, rfl⟩, ?_⟩
    rw [Nat.testBit_two_pow]
    exact decide_eq_true rfl
  | false =>
    refine List.any_eq_false.mpr fun y hy h => ?_
    obtain ⟨x, hx, rfl⟩ := List.mem_map.mp hy
    rw [Nat.testBit_two_pow, decide_eq_true_eq] at h
    have := h0 x hx
    have : x = s := by omega
    subst this
    rw [sIn_iff.mpr hx] at e
    cases e
theorem maskOf_lt {X : List Int} {n : Nat} (h : ∀ x ∈ X, 0 ≤ x ∧ x < (n : Int)) : maskOf X < 2 ^ n := orAll_lt fun y hy => by
  obtain ⟨x, hx, rfl⟩ := List.mem_map.mp hy
  have := h x hx
  exact Nat.pow_lt_pow_right (by decide) (by omega)
theorem ixN_nat {n j : Nat} (h : j < n) : ixN n ((j : Nat) : Int) = some j := by
  unfold ixN
  rw [if_pos (Int.natCast_nonneg j), if_pos (Int.ofNat_lt.mpr h), Int.toNat_natCast]
/-- masks at an address -/
def MsAt (H : Hp) (a : Addr) (ms : List Nat) : Prop := H a = some (.lst (ms.map fun m => V.int (m : Nat)))
def befS (ss : List T3) (s l : Int) : List Int := (ss.filter fun p => decide (p.2.2 = s) && decide (p.2.1 = l)).map fun p => p.1
theorem befS_snoc (ps : List T3) (p : T3) (s l : Int) : befS (ps ++ [p]) s l = befS ps s l ++ (if (decide (p.2.2 = s) && decide (p.2.1 = l)) = true then [p.1] else []) := by
  unfold befS
  rw [List.filter_append, List.map_append]
  congr 1
  cases c : (decide (p.2.2 = s) && decide (p.2.1 = l)) <;> simp [c]
/-- the masks behind and before each state -/
def rowsM (f : Int → List Int) (n : Nat) : List Nat := (List.range n).map fun i : Nat => maskOf (f (i : Int))
theorem rowsM_len (f : Int → List Int) (n : Nat) : (rowsM f n).length = n := by simp [rowsM]
theorem rowsM_get {f : Int → List Int} {n i : Nat} (h : i < n) : (rowsM f n)[i]? = some (maskOf (f (i : Int))) := by
  unfold rowsM
  rw [List.getElem?_map, List.getElem?_range h]
  rfl
theorem rowsM_set {f g : Int → List Int} {n k : Nat} {m : Nat} (hk : maskOf (g (k : Int)) = m) (ho : ∀ i : Nat, i ≠ k → g (i : Int) = f (i : Int)) : (rowsM f n).set k m = rowsM g n := by
  refine List.ext_getElem? fun i => ?_
  rw [List.getElem?_set]
  by_cases c : k = i
  · subst c
    rw [if_pos rfl, rowsM_len]
    by_cases l : k < n
    · rw [if_pos l, rowsM_get l, hk]
    · rw [if_neg l, List.getElem?_eq_none (by rw [rowsM_len]; omega)]
  · rw [if_neg c]
    by_cases l : i < n
    · rw [rowsM_get l, rowsM_get l, ho i (fun z => c z.symm)]
    · rw [List.getElem?_eq_none (by rw [rowsM_len]; omega), List.getElem?_eq_none (by rw [rowsM_len]; omega)]
section
variable {P : Program} {w : World} {K : PySem.W.Frag} {mg : Str → Option Value} {base : Heap} {C J B WC : Addr}
def spMask : Sp := fun vs H Q _ => ∃ (a : Addr) (X : List Int), vs = [.ref a] ∧ IL H a X ∧ (∀ x ∈ X, 0 ≤ x ∧ x ≤ 900) ∧ Q (.int (maskOf X : Nat)) H
def spSM (K : PySem.W.Frag) : Sp := fun vs H Q _ => ∃ (n : Nat) (ta : Addr) (l : Int) (as : List Addr) (ss : List T3), vs = [.int (n : Nat), .ref ta, .int l] ∧ SqT K H ta (as.map V.ref) ∧ PAt H as ss ∧ (∀ p ∈ ss, 0 ≤ p.1 ∧ p.1 < (n : Int) ∧ 0 ≤ p.2.2 ∧ p.2.2 < (n : Int)) ∧ n ≤ 900 ∧
  ∀ (r ba fa : Addr) H', Same H H' → H r = none → H ba = none → H fa = none → H' r = some (.tup [.ref ba, .ref fa]) → MsAt H' ba (rowsM (fun s => begS ss s l) n) → MsAt H' fa (rowsM (fun s => befS ss s l) n) → Q (.ref r) H'
theorem ok_step_masks {f : Addr} {fd : FuncData} (FF : Fun K "step_masks" "step_masks" s_step_masks f fd) : FnOk P w K mg base CX0 1 f fd a_step_masks (spSM K) := by
  refine FF.ok sc_step_masks (fun vs H Q E h => ?_) (fun cdv A outer s H vs Q E hr h => ?_)
  · obtain ⟨n, ta, l, as, ss, rfl, _⟩ := h
    rfl
  · obtain ⟨n, ta, l, as, ss, rfl, hta, pat, hin, hn, k⟩ := h
    refine ⟨_, (pss_cons (ps_set (i := 3) sc_step_masks.nd rfl (.inl rfl) (pe_op op_rep (pe_lst (pa_cons pe_int pa_nil)) (pv 0)))
      (pss_cons (ps_set (i := 4) sc_step_masks.nd rfl (.inl rfl) (pe_op op_rep (pe_lst (pa_cons pe_int pa_nil)) (pv 0)))
      (pss_cons (ps_for PassesOwn.never rfl (pi_tup (pv 1)) (pg_tup rfl (pgs_cons (pg_name (i := 5) sc_step_masks.nd rfl (.inl rfl)) (pgs_cons (pg_name (i := 6) sc_step_masks.nd rfl (.inl rfl)) (pgs_cons (pg_name (i := 7) sc_step_masks.nd rfl (.inl rfl)) pgs_nil)))) (pss_one (ps_if (pt_cmpR op_eq (pv 6) (pv 2) (nomark _)) (pss_cons (ps_augS (pv 3) (pv 5) pget_list (pe_op op_oneShl pe_int (pv 7)) ip_or set_list)
      (pss_one (ps_augS (pv 4) (pv 7) pget_list (pe_op op_oneShl pe_int (pv 5)) ip_or set_list))) pss_nil)))
      (pss_one (ps_ret (pe_tup (pa_cons (pv 3) (pa_cons (pv 4) pa_nil)))))))), ?_⟩
    have zero : ∀ f : Int → List Int, (∀ x, f x = []) → (List.replicate ((n : Nat) : Int).toNat [V.int 0]).flatten = (rowsM f n).map fun m => V.int (m : Nat) := fun f hf => by
      rw [Int.toNat_natCast]
      have e : rowsM f n = List.replicate n 0 := by
        unfold rowsM
        refine List.ext_getElem? fun i => ?_
        rw [List.getElem?_map, List.getElem?_replicate]
        by_cases c : i < n
        · rw [if_pos c, List.getElem?_range c]
          show some (maskOf (f _)) = _
          rw [hf]
          rfl
        · rw [if_neg c, List.getElem?_eq_none (by rw [List.length_range]; omega)]
          rfl
      rw [e, List.map_replicate]
      clear hin hn k e
      induction n with
      | zero => rfl
      | succ n ih => rw [List.replicate_succ, List.flatten_cons, ih, List.replicate_succ]; rfl
    refine ⟨by show 1 ≤ sizeLine; decide, fun z0 hz0 => ⟨.int (n : Nat), rfl, ?_⟩⟩
    have s1 := Same.new (o := .lst [.int 0]) hz0
    refine ⟨z0, n, _, rfl, rfl, upd_same, by omega, by omega, Nat.le_trans (Nat.le_of_eq (show 1 * ((n : Nat) : Int).toNat = n by omega)) (Nat.le_trans hn (by decide)), fun ba hba => ?_⟩
    rw [zero (fun s => begS [] s l) fun _ => rfl]
    have s2 := s1.trans (Same.new (o := .lst ((rowsM (fun s => begS [] s l) n).map fun m => V.int (m : Nat))) hba)
    have gb : MsAt (upd (upd H z0 (.lst [.int 0])) ba (.lst ((rowsM (fun s => begS [] s l) n).map fun m => V.int (m : Nat)))) ba (rowsM (fun s => begS [] s l) n) := upd_same
    generalize upd (upd H z0 (.lst [.int 0])) ba (.lst ((rowsM (fun s => begS [] s l) n).map fun m => V.int (m : Nat))) = H2 at s2 gb
    refine ⟨by show 1 ≤ sizeLine; decide, fun z1 hz1 => ⟨.int (n : Nat), rfl, ?_⟩⟩
    have s3 := Same.new (o := .lst [.int 0]) hz1
    refine ⟨z1, n, _, rfl, rfl, upd_same, by omega, by omega, Nat.le_trans (Nat.le_of_eq (show 1 * ((n : Nat) : Int).toNat = n by omega)) (Nat.le_trans hn (by decide)), fun fa hfa => ?_⟩
    rw [zero (fun s => befS [] s l) fun _ => rfl]
    have s4 := s3.trans (Same.new (o := .lst ((rowsM (fun s => befS [] s l) n).map fun m => V.int (m : Nat))) hfa)
    have gf : MsAt (upd (upd H2 z1 (.lst [.int 0])) fa (.lst ((rowsM (fun s => befS [] s l) n).map fun m => V.int (m : Nat)))) fa (rowsM (fun s => befS [] s l) n) := upd_same
    have gb4 := s4 _ _ gb
    have nbf : ba ≠ fa := ne_of_none (s3 _ _ gb) hfa
    have nHb : H ba = none := by
      cases e : H ba with
      | none => rfl
      | some u => rw [s1 _ _ e] at hba; cases hba
    have nHf : H fa = none := by
      cases e : H fa with
      | none => rfl
      | some u => rw [s3 _ _ (s2 _ _ e)] at hfa; cases hfa
    have s24 := s2.trans s4
    generalize upd (upd H2 z1 (.lst [.int 0])) fa (.lst ((rowsM (fun s => befS [] s l) n).map fun m => V.int (m : Nat))) = H4 at gf gb4 s24
    refine ⟨.ref ta, rfl, ta, rfl, ⟨_, SqT.same s24 hta⟩, for_it walk_tup (fun i σ G => ∃ y5 y6 y7, σ = [some (.int (n : Nat)), some (.ref ta), some (.int l), some (.ref ba), some (.ref fa), y5, y6, y7] ∧ Same H G ∧ MsAt G ba (rowsM (fun s => begS (ss.take i) s l) n) ∧ MsAt G fa (rowsM (fun s => befS (ss.take i) s l) n))
      ⟨none, none, none, rfl, s24, gb4, gf⟩ (fun i σ G _ ⟨_, _, _, _, sG, _⟩ => SqT.same sG hta) ?_ ?_⟩
    · rintro i x σ G0 G hi ⟨y5, y6, y7, rfl, sG, gb, gf⟩ ⟨rfl, hx⟩
      obtain ⟨a, p, rfl, ha, hp, at_⟩ := (pat.same sG).nth hx
      obtain ⟨p1, p2, p3⟩ := p
      obtain ⟨i1, i2, i3, i4⟩ := hin _ (List.mem_of_getElem? hp)
      simp only at i1 i2 i3 i4 at_
      obtain ⟨a1, rfl⟩ := Int.eq_ofNat_of_zero_le i1
      obtain ⟨a3, rfl⟩ := Int.eq_ofNat_of_zero_le i3
      have e1 : ∀ s, begS (ss.take (i + 1)) s l = begS (ss.take i) s l ++ (if (decide ((a1 : Int) = s) && decide (p2 = l)) = true then [(a3 : Int)] else []) := fun s => by
        rw [List.take_add_one, hp, Option.toList_some, begS_snoc]
      have e2 : ∀ s, befS (ss.take (i + 1)) s l = befS (ss.take i) s l ++ (if (decide ((a3 : Int) = s) && decide (p2 = l)) = true then [(a1 : Int)] else []) := fun s => by
        rw [List.take_add_one, hp, Option.toList_some, befS_snoc]
      refine ⟨a, _, rfl, SqT.of at_, rfl, .int (a1 : Nat), _, rfl, .int p2, _, rfl, .int (a3 : Nat), _, rfl, rfl, ?_⟩
      refine ⟨.int p2, rfl, .int l, rfl, rfl, _, rfl, ite2 (fun c => ?_) (fun c => ?_)⟩
      · have cl : p2 = l := V.int.inj (of_decide_eq_true c)
        subst cl
        have l1 : a1 < n := by omega
        have l3 : a3 < n := by omega
        refine ⟨.ref ba, rfl, .int (a1 : Nat), rfl, ba, _, _, _, rfl, rfl, SqL.of gb, atI_nat (j := a1) (by rw [List.getElem?_map, rowsM_get l1]; rfl), .int (a3 : Nat), rfl, a3, rfl, rfl, by omega, _, _, rfl, rfl, ?_⟩
        have o1 : (fun i j : Int => V.int (Builtin.bitOr i j)) ((maskOf (begS (ss.take i) (a1 : Int) p2) : Nat) : Int) ((2 : Int) ^ a3) = V.int ((maskOf (begS (ss.take (i + 1)) (a1 : Int) p2) : Nat) : Int) := by
          show V.int _ = _
          rw [or_bit, e1, decide_eq_true rfl, decide_eq_true rfl, Bool.true_and, if_pos rfl, maskOf_app, maskOf_one]
          rfl
        have o2 : (fun i j : Int => V.int (Builtin.bitOr i j)) ((maskOf (befS (ss.take i) (a3 : Int) p2) : Nat) : Int) ((2 : Int) ^ a1) = V.int ((maskOf (befS (ss.take (i + 1)) (a3 : Int) p2) : Nat) : Int) := by
          show V.int _ = _
          rw [or_bit, e2, decide_eq_true rfl, decide_eq_true rfl, Bool.true_and, if_pos rfl, maskOf_app, maskOf_one]
          rfl
        rw [o1]
        refine ⟨ba, _, _, a1, rfl, rfl, gb, ixN_nat (by rw [List.length_map, rowsM_len]; exact l1), ?_⟩
        have gb2 : MsAt (upd G ba (.lst (((rowsM (fun s => begS (ss.take i) s p2) n).map fun m => V.int ((m : Nat) : Int)).set a1 (V.int ((maskOf (begS (ss.take (i + 1)) (a1 : Int) p2) : Nat) : Int))))) ba (rowsM (fun s => begS (ss.take (i + 1)) s p2) n) := by
          show _ = _
          rw [upd_same, ← List.map_set (f := fun m : Nat => V.int ((m : Nat) : Int)), rowsM_set (f := fun s => begS (ss.take i) s p2) (g := fun s => begS (ss.take (i + 1)) s p2) rfl fun j hj => ?_]
          show begS (ss.take (i + 1)) _ p2 = _
          rw [e1, decide_eq_false (fun z : (a1 : Int) = (j : Int) => hj (by omega)), Bool.false_and, if_neg Bool.false_ne_true, List.append_nil]
        have gf2 : MsAt (upd G ba (.lst (((rowsM (fun s => begS (ss.take i) s p2) n).map fun m => V.int ((m : Nat) : Int)).set a1 (V.int ((maskOf (begS (ss.take (i + 1)) (a1 : Int) p2) : Nat) : Int))))) fa (rowsM (fun s => befS (ss.take i) s p2) n) := by
          show _ = _
          rw [upd_ne nbf.symm]
          exact gf
        have sG2 : Same H (upd G ba (.lst (((rowsM (fun s => begS (ss.take i) s p2) n).map fun m => V.int ((m : Nat) : Int)).set a1 (V.int ((maskOf (begS (ss.take (i + 1)) (a1 : Int) p2) : Nat) : Int))))) := fun b o e => by rw [upd_ne (ne_of_none e nHb)]; exact sG b o e
        generalize upd G ba (.lst (((rowsM (fun s => begS (ss.take i) s p2) n).map fun m => V.int ((m : Nat) : Int)).set a1 (V.int ((maskOf (begS (ss.take (i + 1)) (a1 : Int) p2) : Nat) : Int)))) = G2 at gb2 gf2 sG2
        refine ⟨.ref fa, rfl, .int (a3 : Nat), rfl, fa, _, _, _, rfl, rfl, SqL.of gf2, atI_nat (j := a3) (by rw [List.getElem?_map, rowsM_get l3]; rfl), .int (a1 : Nat), rfl, a1, rfl, rfl, by omega, _, _, rfl, rfl, ?_⟩
        rw [o2]
        refine ⟨fa, _, _, a3, rfl, rfl, gf2, ixN_nat (by rw [List.length_map, rowsM_len]; exact l3), _, _, _, rfl, fun b o e => by rw [upd_ne (ne_of_none e nHf)]; exact sG2 b o e, ?_, ?_⟩
        · show _ = _
          rw [upd_ne nbf]
          exact gb2
        · show _ = _
          rw [upd_same, ← List.map_set (f := fun m : Nat => V.int ((m : Nat) : Int)), rowsM_set (f := fun s => befS (ss.take i) s p2) (g := fun s => befS (ss.take (i + 1)) s p2) rfl fun j hj => ?_]
          show befS (ss.take (i + 1)) _ p2 = _
          rw [e2, decide_eq_false (fun z : (a3 : Int) = (j : Int) => hj (by omega)), Bool.false_and, if_neg Bool.false_ne_true, List.append_nil]
      · have cl : ¬ p2 = l := fun e => c (decide_eq_true (congrArg V.int e))
        refine ⟨_, _, _, rfl, sG, ?_, ?_⟩
        · have : rowsM (fun s => begS (ss.take (i + 1)) s l) n = rowsM (fun s => begS (ss.take i) s l) n := by
            congr 1
            funext s
            rw [e1, decide_eq_false cl, Bool.and_false, if_neg Bool.false_ne_true, List.append_nil]
          rw [this]
          exact gb
        · have : rowsM (fun s => befS (ss.take (i + 1)) s l) n = rowsM (fun s => befS (ss.take i) s l) n := by
            congr 1
            funext s
            rw [e2, decide_eq_false cl, Bool.and_false, if_neg Bool.false_ne_true, List.append_nil]
          rw [this]
          exact gf
    · rintro σ G ⟨y5, y6, y7, rfl, sG, gb, gf⟩
      rw [List.length_map, pat.1, List.take_length] at gb gf
      refine ⟨.ref ba, rfl, .ref fa, rfl, by show 2 ≤ sizeLine; decide, fun r hr => ?_⟩
      have nHr : H r = none := by
        cases e : H r with
        | none => rfl
        | some u => rw [sG _ _ e] at hr; cases hr
      exact k r ba fa _ (sG.trans (Same.new hr)) nHr nHb nHf upd_same (Same.new hr _ _ gb) (Same.new hr _ _ gf)
end
end Fw

set_option maxRecDepth 100000
set_option maxHeartbeats 4000000
namespace Fw
open PySem PySem.Spec PyProof.Rows L2 GxR
/-- a row as a key -/
def kS (X : List Int) : List Key := X.map fun x => (Sum.inl x : Key)
theorem kS_kV (X : List Int) : (kS X).map kV = X.map V.int := by unfold kS; rw [List.map_map]; rfl
theorem kS_inj {X Y : List Int} (h : kS X = kS Y) : X = Y := (List.map_inj_right (f := fun x : Int => (Sum.inl x : Key)) fun a b e => Sum.inl.inj e).mp h
/-- the states below i with this row -/
def posI (Xs : List (List Int)) (i : Nat) (X : List Int) : List Int := (rng i).filter fun j => decide (Xs[j.toNat]? = some X)
theorem posI_succ {Xs : List (List Int)} {i : Nat} {X Y : List Int} (h : Xs[i]? = some Y) : posI Xs (i + 1) X = posI Xs i X ++ (if Y = X then [(i : Int)] else []) := by
  unfold posI
  rw [rng_succ, List.filter_append]
  congr 1
  by_cases c : Y = X
  · rw [if_pos c, List.filter_cons_of_pos (by rw [Int.toNat_natCast, h, c]; exact decide_eq_true rfl)]
    rfl
  · rw [if_neg c, List.filter_cons_of_neg (by rw [Int.toNat_natCast, h]; simpa using c)]
    rfl
theorem mem_posI {Xs : List (List Int)} {i : Nat} {X : List Int} {j : Int} : j ∈ posI Xs i X ↔ (0 ≤ j ∧ j < (i : Int)) ∧ Xs[j.toNat]? = some X := by
  unfold posI
  rw [List.mem_filter, rng_mem, decide_eq_true_eq]
def clsM (Xs : List (List Int)) (i : Nat) (X : List Int) : Nat := maskOf (posI Xs i X)
theorem cls_bit {Xs : List (List Int)} {i : Nat} {X : List Int} {j : Nat} : (clsM Xs i X).testBit j = true ↔ j < i ∧ Xs[j]? = some X := by
  have h := maskOf_in (X := posI Xs i X) (fun x hx => (mem_posI.mp hx).1.1) (s := (j : Int)) (Int.natCast_nonneg j)
  unfold mIn at h
  rw [Int.toNat_natCast] at h
  unfold clsM
  rw [h, sIn_iff, mem_posI, Int.toNat_natCast]
  constructor
  · rintro ⟨a, b⟩; exact ⟨by omega, b⟩
  · rintro ⟨a, b⟩; exact ⟨⟨Int.natCast_nonneg j, by omega⟩, b⟩
theorem cls_lt {Xs : List (List Int)} {i : Nat} {X : List Int} : clsM Xs i X < 2 ^ i := maskOf_lt fun x hx => (mem_posI.mp hx).1
theorem cls_none {Xs : List (List Int)} {i : Nat} {X : List Int} (h : ∀ j, j < i → Xs[j]? ≠ some X) : clsM Xs i X = 0 := by
  have : posI Xs i X = [] := List.eq_nil_iff_forall_not_mem.mpr fun j hj => by
    have := mem_posI.mp hj
    exact h j.toNat (by omega) this.2
  unfold clsM
  rw [this]
  rfl
def kvsC (Xs : List (List Int)) (i : Nat) (Ks : List (List Int)) : List (List Key × V) := Ks.map fun Y => (kS Y, V.int ((clsM Xs i Y : Nat) : Int))
theorem valV_C {Xs : List (List Int)} {i : Nat} {X : List Int} : ∀ {Ks : List (List Int)}, valV (kvsC Xs i Ks) (kS X) = if X ∈ Ks then some (V.int ((clsM Xs i X : Nat) : Int)) else none
  | [] => rfl
  | Y :: Ks => by
    have ih := valV_C (Xs := Xs) (i := i) (X := X) (Ks := Ks)
    by_cases c : Y = X
    · subst c
      rw [if_pos List.mem_cons_self]
      exact valV_pos rfl
    · rw [show valV (kvsC Xs i (Y :: Ks)) (kS X) = valV (kvsC Xs i Ks) (kS X) from valV_neg fun e => c (kS_inj e), ih]
      by_cases m : X ∈ Ks
      · rw [if_pos m, if_pos (List.mem_cons_of_mem _ m)]
      · rw [if_neg m, if_neg fun z => (List.mem_cons.mp z).elim (fun e => c e.symm) m]
def addK (Ks : List (List Int)) (X : List Int) : List (List Int) := if X ∈ Ks then Ks else Ks ++ [X]
theorem put_C {Xs : List (List Int)} {i : Nat} {X : List Int} {Ks : List (List Int)} (h : Xs[i]? = some X) : putK (kvsC Xs i Ks) (kS X) (V.int ((clsM Xs (i + 1) X : Nat) : Int)) = kvsC Xs (i + 1) (addK Ks X) := by
  have other : ∀ Y, Y ≠ X → clsM Xs (i + 1) Y = clsM Xs i Y := fun Y n => by
    unfold clsM
    rw [posI_succ h, if_neg fun e => n e.symm, List.append_nil]
  unfold putK addK
  rw [valV_any, valV_C]
  by_cases m : X ∈ Ks
  · rw [if_pos m, if_pos m]
    simp only [Option.isSome_some, if_true]
    unfold kvsC
    rw [List.map_map]
    refine List.map_congr_left fun Y hY => ?_
    simp only [Function.comp]
    by_cases c : Y = X
    · subst c
      simp
    · have : ¬ kS Y = kS X := fun e => c (kS_inj e)
      simp [this, other Y c]
  · rw [if_neg m, if_neg m]
    simp only [Option.isSome_none, Bool.false_eq_true, if_false]
    unfold kvsC
    rw [List.map_append]
    congr 1
    refine List.map_congr_left fun Y hY => ?_
    rw [other Y fun e => m (by rw [← e]; exact hY)]
section
variable {P : Program} {w : World} {K : PySem.W.Frag} {mg : Str → Option Value} {base : Heap} {C J B WC : Addr}
def spLike (K : PySem.W.Frag) : Sp := fun vs H Q _ => ∃ (ta : Addr) (ras : List Addr) (Xs : List (List Int)), vs = [.ref ta] ∧ SqT K H ta (ras.map V.ref) ∧ RTp H ras Xs ∧ Xs.length ≤ 900 ∧
  ∀ (l : Addr) (Ks : List (List Int)) H', Same H H' → H l = none → MsAt H' l (Ks.map (clsM Xs Xs.length)) → Ks.Nodup → (∀ X, X ∈ Ks ↔ X ∈ Xs) → Q (.ref l) H'
theorem ok_like_at_once {f : Addr} {fd : FuncData} (FF : Fun K "like_at_once" "like_at_once" s_like_at_once f fd) (T : Txt K mg C J B) : FnOk P w K mg base CX0 1 f fd a_like_at_once (spLike K) := by
  refine FF.ok sc_like_at_once (fun vs H Q E h => ?_) (fun cdv A outer s H vs Q E hr h => ?_)
  · obtain ⟨ta, ras, Xs, rfl, _⟩ := h
    rfl
  · obtain ⟨ta, ras, Xs, rfl, hta, rt, hn, k⟩ := h
    have hu := hu_of hr
    refine ⟨_, (pss_cons (ps_set (i := 1) sc_like_at_once.nd rfl (.inl rfl) pe_dnewT)
      (pss_cons (ps_for PassesOwn.never rfl (pi_enumT rfl T.z_enumerate (pa_cons (pv 0) pa_nil)) (pg_tup rfl (pgs_cons (pg_name (i := 2) sc_like_at_once.nd rfl (.inl rfl)) (pgs_cons (pg_name (i := 3) sc_like_at_once.nd rfl (.inl rfl)) pgs_nil))) (pss_one (ps_dput hu (pv 1) (pv 3) (pe_op op_or (pe_dget2 hu (pv 1) (pv 3) pe_int ⟨rfl, rfl, rfl, rfl⟩) (pe_op op_oneShl pe_int (pv 2))) rfl)))
      (pss_one (ps_ret (pe_listValsT rfl (pv 1) rfl T.z_list (by decide +kernel)))))), ?_⟩
    intro D hD
    refine ⟨.ref ta, rfl, ta, _, rfl, SqT.same (Same.new hD) hta, for_it walk_enumT (fun i σ G => ∃ (y2 y3 : Option V) (Ks : List (List Int)), σ = [some (.ref ta), some (.ref D), y2, y3] ∧ Same H G ∧ G D = some (.dT (kvsC Xs i Ks)) ∧ Ks.Nodup ∧ (∀ X, X ∈ Ks ↔ X ∈ Xs.take i) ∧ Ks.length ≤ i)
      ⟨none, none, [], rfl, Same.new hD, upd_same, List.nodup_nil, fun X => by simp, Nat.le_refl 0⟩ (fun i σ G _ ⟨_, _, _, _, sG, _⟩ => SqT.same sG hta) ?_ ?_⟩
    · rintro i x σ G0 G hi ⟨y2, y3, Ks, rfl, sG, gD, nd, mem, kl⟩ ⟨tp, x1, x2, rfl, htp, rfl, e1, e2⟩
      rw [List.length_map] at hi
      cases (show some (V.int ((i : Nat) : Int)) = some x1 from e1)
      have hra : ras[i]? = some ras[i] := List.getElem?_eq_getElem hi
      have e2' : (ras.map V.ref)[i]? = some x2 := e2
      rw [List.getElem?_map, hra] at e2'
      cases e2'
      have ix : i < Xs.length := by rw [← rt.1]; exact hi
      have hX : Xs[i]? = some Xs[i] := List.getElem?_eq_getElem ix
      have row := rt.2 i _ _ hra hX
      have st := Same.new (o := .tup [.int ((i : Nat) : Int), .ref ras[i]]) htp
      have tT : SqT K (upd G0 tp (.tup [.int ((i : Nat) : Int), .ref ras[i]])) tp [.int ((i : Nat) : Int), .ref ras[i]] := SqT.of upd_same
      have sG1 := sG.trans st
      have gD1 := st _ _ gD
      generalize upd G0 tp (.tup [.int ((i : Nat) : Int), .ref ras[i]]) = G at tT sG1 gD1
      generalize Xs[i] = X at hX row
      have row1 := sG1 _ _ row
      have rk : G ras[i] = some (.tup ((kS X).map kV)) := by rw [kS_kV]; exact row1
      refine ⟨tp, _, rfl, tT, rfl, .int (i : Nat), _, rfl, .ref ras[i], _, rfl, rfl, ?_⟩
      refine ⟨.ref D, rfl, D, rfl, .inr ⟨_, .inl gD1⟩, .ref ras[i], rfl, _, DGet.t gD1 rk, .int (i : Nat), rfl, i, rfl, rfl, by omega, ?_⟩
      have cur : (valV (kvsC Xs i Ks) (kS X)).getD (V.int 0) = V.int ((clsM Xs i X : Nat) : Int) := by
        rw [valV_C]
        by_cases m : X ∈ Ks
        · rw [if_pos m]
          rfl
        · rw [if_neg m, cls_none fun j hj e => m ((mem X).mpr (List.mem_of_getElem? (i := j) (by rw [List.getElem?_take, if_pos hj]; exact e)))]
          rfl
      rw [cur]
      refine ⟨_, _, rfl, rfl, ?_⟩
      have o1 : (fun a b : Int => V.int (Builtin.bitOr a b)) ((clsM Xs i X : Nat) : Int) ((2 : Int) ^ i) = V.int ((clsM Xs (i + 1) X : Nat) : Int) := by
        show V.int _ = _
        rw [or_bit]
        unfold clsM
        rw [posI_succ hX, if_pos rfl, maskOf_app, maskOf_one, Int.toNat_natCast]
      rw [o1]
      refine ⟨.ref D, rfl, .ref ras[i], rfl, D, _, rfl, DPut.t gD1 rk (by unfold kvsC; rw [List.length_map]; exact small1000 (by omega)), ?_⟩
      rw [put_C hX]
      refine ⟨_, _, addK Ks X, rfl, fun b o e => by rw [upd_ne (ne_of_none e hD)]; exact sG1 b o e, upd_same, ?_, fun Y => ?_, ?_⟩
      · unfold addK
        split
        · exact nd
        · rename_i m
          exact List.nodup_append.mpr ⟨nd, by simp, fun a ha b hb e => m (by rw [← List.mem_singleton.mp hb, ← e]; exact ha)⟩
      · rw [List.take_add_one, hX, Option.toList_some, List.mem_append, ← mem]
        unfold addK
        split
        · rename_i m
          constructor
          · exact .inl
          · rintro (h | h)
            · exact h
            · rw [List.mem_singleton.mp h]; exact m
        · rw [List.mem_append]
      · unfold addK
        split
        · omega
        · rw [List.length_append, List.length_singleton]; omega
    · rintro σ G ⟨y2, y3, Ks, rfl, sG, gD, nd, mem, kl⟩
      rw [List.length_map, rt.1] at gD mem
      rw [List.take_length] at mem
      refine ⟨.ref D, rfl, D, _, rfl, gD, fun l hl => ?_⟩
      have nHl : H l = none := by
        cases e : H l with
        | none => rfl
        | some u => rw [sG _ _ e] at hl; cases hl
      refine k l Ks _ (sG.trans (Same.new hl)) nHl ?_ nd mem
      show _ = _
      rw [upd_same]
      unfold kvsC
      rw [List.map_map, List.map_map]
      rfl
end
end Fw

/-! Classes of like states, round by round; numbers of classes by their least states. Pure mathematics. -/
namespace Fw
/-- state s is in the set m -/
def tb (m s : Nat) : Prop := m.testBit s = true
theorem tb_ext {a b : Nat} (h : ∀ s, tb a s ↔ tb b s) : a = b := Nat.eq_of_testBit_eq fun s => by
  have := h s
  unfold tb at this
  cases e : a.testBit s <;> cases f : b.testBit s <;> simp_all
theorem tb_and {a b s : Nat} : tb (a &&& b) s ↔ tb a s ∧ tb b s := by
  unfold tb
  rw [Nat.testBit_and, Bool.and_eq_true]
theorem tb_wo {a b s : Nat} : tb (wo a b) s ↔ tb a s ∧ ¬ tb b s := by
  unfold tb
  rw [wo_bit, Bool.and_eq_true]
  cases b.testBit s <;> simp
theorem tb_zero (s : Nat) : ¬ tb 0 s := by unfold tb; rw [Nat.zero_testBit]; exact Bool.false_ne_true
theorem tb_ne {m : Nat} (h : m ≠ 0) : ∃ s, tb m s := by
  obtain ⟨j, h1, _⟩ := low m h
  exact ⟨j, h1⟩
/-! ### cutting -/
def cut1 (c : Nat) (ps : List Nat) : List Nat := (ps.flatMap fun p => [p &&& c, wo p c]).filter fun h => h != 0
def cutUp (b : Nat) (cs : List Nat) : List Nat := cs.foldl (fun ps c => cut1 c ps) [b]
structure Pcs (b : Nat) (cs ps : List Nat) : Prop where
  ne : ∀ p ∈ ps, p ≠ 0
  sub : ∀ p ∈ ps, ∀ s, tb p s → tb b s
  rel : ∀ p ∈ ps, ∀ s t, tb p s → (tb p t ↔ tb b t ∧ ∀ c ∈ cs, (tb c s ↔ tb c t))
  all : ∀ s, tb b s → ∃ p ∈ ps, tb p s
  dis : ps.Pairwise fun p q => ∀ s, tb p s → ¬ tb q s
theorem Pcs.nil {b : Nat} (h : b ≠ 0) : Pcs b [] [b] :=
  ⟨fun p hp => by rw [List.mem_singleton.mp hp]; exact h, fun p hp s hs => by rw [← List.mem_singleton.mp hp]; exact hs,
    fun p hp s t hs => by rw [List.mem_singleton.mp hp]; exact ⟨fun h => ⟨h, fun c hc => by cases hc⟩, fun h => h.1⟩, fun s hs => ⟨b, List.mem_singleton.mpr rfl, hs⟩, List.pairwise_singleton _ _⟩
theorem mem_cut1 {c h : Nat} {ps : List Nat} : h ∈ cut1 c ps ↔ h ≠ 0 ∧ ∃ p ∈ ps, h = p &&& c ∨ h = wo p c := by
  unfold cut1
  rw [List.mem_filter, List.mem_flatMap]
  simp only [List.mem_cons, List.not_mem_nil, or_false, bne_iff_ne, ne_eq]
  exact ⟨fun ⟨⟨p, hp, e⟩, z⟩ => ⟨z, p, hp, e⟩, fun ⟨z, p, hp, e⟩ => ⟨⟨p, hp, e⟩, z⟩⟩
theorem Pcs.snoc {b c : Nat} {cs ps : List Nat} (h : Pcs b cs ps) : Pcs b (cs ++ [c]) (cut1 c ps) := by
  refine ⟨fun p hp => (mem_cut1.mp hp).1, fun x hx s hs => ?_, fun x hx s t hs => ?_, fun s hs => ?_, ?_⟩
  · obtain ⟨_, p, hp, e⟩ := mem_cut1.mp hx
    rcases e with e | e
    · rw [e, tb_and] at hs; exact h.sub p hp s hs.1
    · rw [e, tb_wo] at hs; exact h.sub p hp s hs.1
  · obtain ⟨_, p, hp, e⟩ := mem_cut1.mp hx
    have both : (∀ d ∈ cs ++ [c], (tb d s ↔ tb d t)) ↔ (∀ d ∈ cs, (tb d s ↔ tb d t)) ∧ (tb c s ↔ tb c t) := by
      constructor
      · exact fun z => ⟨fun d hd => z d (List.mem_append_left _ hd), z c (List.mem_append_right _ (List.mem_singleton.mpr rfl))⟩
      · rintro ⟨z1, z2⟩ d hd
        rcases List.mem_append.mp hd with y | y
        · exact z1 d y
        · rw [List.mem_singleton.mp y]; exact z2
    rcases e with e | e
    · rw [e, tb_and] at hs
      rw [e, tb_and, both, h.rel p hp s t hs.1]
      exact ⟨fun ⟨⟨a, b'⟩, d⟩ => ⟨a, b', ⟨fun _ => d, fun _ => hs.2⟩⟩, fun ⟨a, b', d⟩ => ⟨⟨a, b'⟩, d.mp hs.2⟩⟩
    · rw [e, tb_wo] at hs
      rw [e, tb_wo, both, h.rel p hp s t hs.1]
      exact ⟨fun ⟨⟨a, b'⟩, d⟩ => ⟨a, b', ⟨fun z => absurd z hs.2, fun z => absurd z d⟩⟩, fun ⟨a, b', d⟩ => ⟨⟨a, b'⟩, fun z => hs.2 (d.mpr z)⟩⟩
  · obtain ⟨p, hp, hps⟩ := h.all s hs
    by_cases hc : tb c s
    · have m : tb (p &&& c) s := tb_and.mpr ⟨hps, hc⟩
      exact ⟨p &&& c, mem_cut1.mpr ⟨fun e => by rw [e] at m; exact tb_zero s m, p, hp, .inl rfl⟩, m⟩
    · have m : tb (wo p c) s := tb_wo.mpr ⟨hps, hc⟩
      exact ⟨wo p c, mem_cut1.mpr ⟨fun e => by rw [e] at m; exact tb_zero s m, p, hp, .inr rfl⟩, m⟩
  · unfold cut1
    refine List.Pairwise.filter _ (List.pairwise_flatMap.mpr ⟨fun p hp => ?_, h.dis.imp fun {p q} hpq x hx y hy s hs hy2 => ?_⟩)
    · refine List.pairwise_pair.mpr fun s h1 h2 => ?_
      rw [tb_and] at h1
      rw [tb_wo] at h2
      exact h2.2 h1.2
    · have hx' : tb p s := by
        simp only [List.mem_cons, List.not_mem_nil, or_false] at hx
        rcases hx with e | e
        · rw [e, tb_and] at hs; exact hs.1
        · rw [e, tb_wo] at hs; exact hs.1
      have hy' : tb q s := by
        simp only [List.mem_cons, List.not_mem_nil, or_false] at hy
        rcases hy with e | e
        · rw [e, tb_and] at hy2; exact hy2.1
        · rw [e, tb_wo] at hy2; exact hy2.1
      exact hpq s hx' hy'
theorem cutUp_snoc (b : Nat) (cs : List Nat) (c : Nat) : cutUp b (cs ++ [c]) = cut1 c (cutUp b cs) := by unfold cutUp; rw [List.foldl_append]; rfl
theorem pcs_fold {b : Nat} {cs : List Nat} : ∀ {ds ps : List Nat}, Pcs b ds ps → Pcs b (ds ++ cs) (cs.foldl (fun ps c => cut1 c ps) ps) := by
  induction cs with
  | nil => intro ds ps h; rw [List.append_nil]; exact h
  | cons c cs ih =>
    intro ds ps h
    have := ih (h.snoc (c := c))
    rw [List.append_assoc] at this
    exact this
theorem cutUp_ok {b : Nat} (h : b ≠ 0) (cs : List Nat) : Pcs b cs (cutUp b cs) := by
  have := pcs_fold (cs := cs) (Pcs.nil h)
  rwa [List.nil_append] at this
theorem cutUp_pos {b : Nat} (h : b ≠ 0) (cs : List Nat) : 1 ≤ (cutUp b cs).length := by
  obtain ⟨s, hs⟩ := tb_ne h
  obtain ⟨p, hp, _⟩ := (cutUp_ok h cs).all s hs
  exact List.length_pos_of_mem hp
theorem cutUp_one {b : Nat} (h : b ≠ 0) {cs : List Nat} (e : (cutUp b cs).length = 1) : cutUp b cs = [b] := by
  obtain ⟨p, hp⟩ := List.length_eq_one_iff.mp e
  have o := cutUp_ok h cs
  rw [hp] at o ⊢
  congr 1
  refine tb_ext fun s => ⟨o.sub p (List.mem_singleton.mpr rfl) s, fun hs => ?_⟩
  obtain ⟨q, hq, hqs⟩ := o.all s hs
  rwa [List.mem_singleton.mp hq] at hqs
/-! ### blocks -/
structure Blk (n : Nat) (R : Nat → Nat → Prop) (bs : List Nat) : Prop where
  ne : ∀ b ∈ bs, b ≠ 0
  lt : ∀ b ∈ bs, ∀ s, tb b s → s < n
  rel : ∀ b ∈ bs, ∀ s t, tb b s → (tb b t ↔ t < n ∧ R s t)
  all : ∀ s, s < n → ∃ b ∈ bs, tb b s
  dis : bs.Pairwise fun p q => ∀ s, tb p s → ¬ tb q s
theorem Blk.perm {n : Nat} {R : Nat → Nat → Prop} {bs cs : List Nat} (h : Blk n R bs) (p : cs.Perm bs) : Blk n R cs :=
  ⟨fun b hb => h.ne b (p.mem_iff.mp hb), fun b hb => h.lt b (p.mem_iff.mp hb), fun b hb => h.rel b (p.mem_iff.mp hb), fun s hs => (h.all s hs).imp fun b ⟨hb, z⟩ => ⟨p.mem_iff.mpr hb, z⟩,
    p.symm.pairwise h.dis fun h s h1 h2 => h s h2 h1⟩
theorem Blk.congr {n : Nat} {R R' : Nat → Nat → Prop} {bs : List Nat} (h : Blk n R bs) (e : ∀ s t, s < n → t < n → (R s t ↔ R' s t)) : Blk n R' bs :=
  ⟨h.ne, h.lt, fun b hb s t hs => by
    rw [h.rel b hb s t hs]
    exact ⟨fun ⟨a, c⟩ => ⟨a, (e s t (h.lt b hb s hs) a).mp c⟩, fun ⟨a, c⟩ => ⟨a, (e s t (h.lt b hb s hs) a).mpr c⟩⟩, h.all, h.dis⟩
def keptB (bs cs : List Nat) : List Nat := bs.filter fun b => decide ((cutUp b cs).length = 1)
def freshB (bs cs : List Nat) : List Nat := bs.flatMap fun b => if (cutUp b cs).length = 1 then [] else cutUp b cs
theorem split_perm {cs : List Nat} : ∀ {bs : List Nat}, (∀ b ∈ bs, b ≠ 0) → (keptB bs cs ++ freshB bs cs).Perm (bs.flatMap fun b => cutUp b cs)
  | [], _ => .refl _
  | b :: bs, h => by
    have ih := split_perm (cs := cs) (bs := bs) fun x hx => h x (List.mem_cons_of_mem _ hx)
    unfold keptB freshB at ih ⊢
    rw [List.flatMap_cons, List.flatMap_cons]
    by_cases e : (cutUp b cs).length = 1
    · rw [List.filter_cons_of_pos (by exact decide_eq_true e), if_pos e, cutUp_one (h b List.mem_cons_self) e]
      exact ih.cons b
    · rw [List.filter_cons_of_neg (by rw [decide_eq_false e]; exact Bool.false_ne_true), if_neg e]
      have := (List.perm_append_comm_assoc (keptB bs cs) (cutUp b cs) (freshB bs cs))
      unfold keptB freshB at this
      exact this.trans (ih.append_left _)
theorem Blk.cut {n : Nat} {R : Nat → Nat → Prop} {bs : List Nat} (h : Blk n R bs) (cs : List Nat) : Blk n (fun s t => R s t ∧ ∀ c ∈ cs, (tb c s ↔ tb c t)) (keptB bs cs ++ freshB bs cs) := by
  refine Blk.perm ?_ (split_perm h.ne)
  refine ⟨fun p hp => ?_, fun p hp s hs => ?_, fun p hp s t hs => ?_, fun s hs => ?_, List.pairwise_flatMap.mpr ⟨fun b hb => (cutUp_ok (h.ne b hb) cs).dis, ?_⟩⟩
  · obtain ⟨b, hb, hp⟩ := List.mem_flatMap.mp hp
    exact (cutUp_ok (h.ne b hb) cs).ne p hp
  · obtain ⟨b, hb, hp⟩ := List.mem_flatMap.mp hp
    exact h.lt b hb s ((cutUp_ok (h.ne b hb) cs).sub p hp s hs)
  · obtain ⟨b, hb, hp⟩ := List.mem_flatMap.mp hp
    have o := cutUp_ok (h.ne b hb) cs
    rw [o.rel p hp s t hs, h.rel b hb s t (o.sub p hp s hs), and_assoc]
  · obtain ⟨b, hb, z⟩ := h.all s hs
    obtain ⟨p, hp, y⟩ := (cutUp_ok (h.ne b hb) cs).all s z
    exact ⟨p, List.mem_flatMap.mpr ⟨b, hb, hp⟩, y⟩
  · refine List.Pairwise.imp_of_mem (fun {b b'} hb hb' hd x hx y hy s h1 h2 => ?_) h.dis
    exact hd s ((cutUp_ok (h.ne b hb) cs).sub x hx s h1) ((cutUp_ok (h.ne b' hb') cs).sub y hy s h2)
theorem split_len {cs : List Nat} : ∀ {bs : List Nat}, (∀ b ∈ bs, b ≠ 0) → bs.length ≤ (keptB bs cs ++ freshB bs cs).length ∧ (freshB bs cs ≠ [] → bs.length < (keptB bs cs ++ freshB bs cs).length)
  | [], _ => ⟨Nat.le_refl _, fun z => absurd rfl z⟩
  | b :: bs, h => by
    have ih := split_len (cs := cs) (bs := bs) fun x hx => h x (List.mem_cons_of_mem _ hx)
    have pos := cutUp_pos (h b List.mem_cons_self) cs
    unfold keptB freshB at ih ⊢
    rw [List.flatMap_cons]
    by_cases e : (cutUp b cs).length = 1
    · rw [List.filter_cons_of_pos (by exact decide_eq_true e), if_pos e, List.nil_append]
      simp only [List.length_append, List.length_cons] at ih ⊢
      exact ⟨by omega, fun z => by have := ih.2 z; omega⟩
    · rw [List.filter_cons_of_neg (by rw [decide_eq_false e]; exact Bool.false_ne_true), if_neg e]
      simp only [List.length_append, List.length_cons] at ih ⊢
      exact ⟨by omega, fun z => by omega⟩
theorem fresh_nil {cs : List Nat} {bs : List Nat} (h : ∀ b ∈ bs, b ≠ 0) (e : freshB bs cs = []) : keptB bs cs = bs := by
  unfold keptB
  refine List.filter_eq_self.mpr fun b hb => decide_eq_true (Classical.byContradiction fun c => ?_)
  have pos := cutUp_pos (h b hb) cs
  have : cutUp b cs = [] := by
    have := List.flatMap_eq_nil_iff.mp e b hb
    rwa [if_neg c] at this
  rw [this] at pos
  simp at pos
/-! ### leaders and numbers -/
structure Eqv (n : Nat) (R : Nat → Nat → Prop) : Prop where
  refl : ∀ s, s < n → R s s
  symm : ∀ s t, s < n → t < n → R s t → R t s
  trans : ∀ s t u, s < n → t < n → u < n → R s t → R t u → R s u
open Classical in
/-- the least state that is like s -/
noncomputable def ldr (R : Nat → Nat → Prop) (s : Nat) : Nat := ((List.range (s + 1)).find? fun t => decide (R t s)).getD s
theorem find_range_least {p : Nat → Bool} : ∀ {n t : Nat}, (List.range n).find? p = some t → t < n ∧ p t = true ∧ ∀ u, u < t → p u = false
  | 0, t, h => by simp at h
  | n + 1, t, h => by
    rw [List.range_succ, List.find?_append] at h
    cases e : (List.range n).find? p with
    | some x =>
      rw [e] at h
      obtain rfl : x = t := by simpa using h
      obtain ⟨a, b, c⟩ := find_range_least e
      exact ⟨by omega, b, c⟩
    | none =>
      rw [e] at h
      have no := List.find?_eq_none.mp e
      simp only [Option.none_or, List.find?_cons, List.find?_nil] at h
      split at h
      · rename_i y
        obtain rfl : n = t := by simpa using h
        exact ⟨by omega, y, fun u hu => by simpa using no u (List.mem_range.mpr hu)⟩
      · cases h
section
variable {n : Nat} {R : Nat → Nat → Prop}
open Classical in
theorem ldr_ok (E : Eqv n R) {s : Nat} (hs : s < n) : ldr R s ≤ s ∧ R (ldr R s) s ∧ ∀ t, R t s → t < n → ldr R s ≤ t := by
  unfold ldr
  cases e : (List.range (s + 1)).find? fun t => decide (R t s) with
  | none =>
    have := List.find?_eq_none.mp e s (List.mem_range.mpr (Nat.lt_succ_self s))
    exact absurd (E.refl s hs) (by simpa using this)
  | some t =>
    obtain ⟨a, b, c⟩ := find_range_least e
    refine ⟨by simpa using Nat.le_of_lt_succ a, by simpa using b, fun u hu _ => ?_⟩
    refine Classical.byContradiction fun l => ?_
    have := c u (by simpa using l)
    simp [hu] at this
theorem ldr_lt (E : Eqv n R) {s : Nat} (hs : s < n) : ldr R s < n := Nat.lt_of_le_of_lt (ldr_ok E hs).1 hs
theorem ldr_eq (E : Eqv n R) {s t : Nat} (hs : s < n) (ht : t < n) : ldr R s = ldr R t ↔ R s t := by
  have a := ldr_ok E hs
  have b := ldr_ok E ht
  have ls := ldr_lt E hs
  have lt := ldr_lt E ht
  constructor
  · intro e
    have a2 := a.2.1
    rw [e] at a2
    exact E.trans _ _ _ hs lt ht (E.symm _ _ lt hs a2) b.2.1
  · intro r
    exact Nat.le_antisymm (a.2.2 _ (E.trans _ _ _ lt ht hs b.2.1 (E.symm _ _ hs ht r)) lt) (b.2.2 _ (E.trans _ _ _ ls hs ht a.2.1 r) ls)
theorem ldr_ldr (E : Eqv n R) {s : Nat} (hs : s < n) : ldr R (ldr R s) = ldr R s := (ldr_eq E (ldr_lt E hs) hs).mpr (ldr_ok E hs).2.1
/-- the leaders below a state -/
noncomputable def ldrs (R : Nat → Nat → Prop) (n : Nat) : List Nat := (List.range n).filter fun t => decide (ldr R t = t)
noncomputable def numC (R : Nat → Nat → Prop) (s : Nat) : Nat := (ldrs R (ldr R s)).length
/-- the numbers of the classes of all states -/
noncomputable def clsN (R : Nat → Nat → Prop) (n : Nat) : List Int := (List.range n).map fun s => ((numC R s : Nat) : Int)
theorem mem_ldrs {s : Nat} : s ∈ ldrs R n ↔ s < n ∧ ldr R s = s := by unfold ldrs; rw [List.mem_filter, List.mem_range, decide_eq_true_eq]
theorem ldrs_up : (ldrs R n).Pairwise (· < ·) := List.Pairwise.filter _ List.pairwise_lt_range
theorem ldrs_succ : ldrs R (n + 1) = ldrs R n ++ if ldr R n = n then [n] else [] := by
  unfold ldrs
  rw [List.range_succ, List.filter_append]
  congr 1
  by_cases e : ldr R n = n <;> simp [e]
theorem ldrs_at {m : Nat} : ∀ {n : Nat}, m < n → ldr R m = m → (ldrs R n)[(ldrs R m).length]? = some m
  | 0, h, _ => absurd h (Nat.not_lt_zero _)
  | n + 1, h, e => by
    rw [ldrs_succ]
    rcases Nat.lt_succ_iff_lt_or_eq.mp h with l | rfl
    · have := ldrs_at l e
      rw [List.getElem?_append_left (List.getElem?_eq_some_iff.mp this).1]
      exact this
    · rw [if_pos e, List.getElem?_append_right (Nat.le_refl _), Nat.sub_self]
      rfl
theorem num_at (E : Eqv n R) {s : Nat} (hs : s < n) : (ldrs R n)[numC R s]? = some (ldr R s) := ldrs_at (ldr_lt E hs) (ldr_ldr E hs)
theorem num_lt (E : Eqv n R) {s : Nat} (hs : s < n) : numC R s < (ldrs R n).length := (List.getElem?_eq_some_iff.mp (num_at E hs)).1
theorem num_eq (E : Eqv n R) {s t : Nat} (hs : s < n) (ht : t < n) : numC R s = numC R t ↔ R s t := by
  rw [← ldr_eq E hs ht]
  constructor
  · intro e
    have a := num_at E hs
    rw [e, num_at E ht] at a
    exact (Option.some.inj a).symm
  · intro e; unfold numC; rw [e]
theorem num_of (E : Eqv n R) {k l : Nat} (h : (ldrs R n)[k]? = some l) : numC R l = k := by
  have m := mem_ldrs.mp (List.mem_of_getElem? h)
  have a := num_at E m.1
  rw [m.2] at a
  have up := ldrs_up (R := R) (n := n)
  have h1 := List.getElem?_eq_some_iff.mp a
  have h2 := List.getElem?_eq_some_iff.mp h
  rcases Nat.lt_trichotomy (numC R l) k with c | c | c
  · have := List.pairwise_iff_getElem.mp up _ _ h1.1 h2.1 c
    omega
  · exact c
  · have := List.pairwise_iff_getElem.mp up _ _ h2.1 h1.1 c
    omega
theorem ldrs_len : (ldrs R n).length ≤ n := by
  unfold ldrs
  exact Nat.le_trans (List.length_filter_le _ _) (by rw [List.length_range]; exact Nat.le_refl _)
open Classical in
theorem ldr_congr {R' : Nat → Nat → Prop} (e : ∀ s t, s < n → t < n → (R s t ↔ R' s t)) {s : Nat} (hs : s < n) : ldr R s = ldr R' s := by
  unfold ldr
  congr 1
  have : ∀ m, m ≤ s + 1 → (List.range m).find? (fun t => decide (R t s)) = (List.range m).find? fun t => decide (R' t s) := fun m => by
    induction m with
    | zero => intro _; rfl
    | succ m ih =>
      intro hm
      rw [List.range_succ, List.find?_append, List.find?_append, ih (by omega)]
      congr 1
      rw [List.find?_cons, List.find?_cons, decide_eq_decide.mpr (e m s (by omega) hs)]
      rfl
  exact this _ (Nat.le_refl _)
theorem ldrs_congr {R' : Nat → Nat → Prop} (e : ∀ s t, s < n → t < n → (R s t ↔ R' s t)) {m : Nat} (hm : m ≤ n) : ldrs R m = ldrs R' m := by
  unfold ldrs
  refine List.filter_congr fun t ht => ?_
  rw [ldr_congr e (by have := List.mem_range.mp ht; omega)]
theorem numC_congr (E : Eqv n R) {R' : Nat → Nat → Prop} (e : ∀ s t, s < n → t < n → (R s t ↔ R' s t)) {s : Nat} (hs : s < n) : numC R s = numC R' s := by
  unfold numC
  rw [← ldr_congr e hs, ldrs_congr e (Nat.le_of_lt (ldr_lt E hs))]
theorem clsN_congr (E : Eqv n R) {R' : Nat → Nat → Prop} (e : ∀ s t, s < n → t < n → (R s t ↔ R' s t)) : clsN R n = clsN R' n := by
  unfold clsN
  refine List.map_congr_left fun s hs => ?_
  rw [numC_congr E e (List.mem_range.mp hs)]
/-! ### the least state of a block -/
def lsb (m : Nat) : Nat := ((List.range (m + 1)).find? fun j => m.testBit j).getD 0
theorem lsb_ok {m : Nat} (h : m ≠ 0) : tb m (lsb m) ∧ (∀ i, i < lsb m → ¬ tb m i) ∧ (m &&& (m - 1)) = m - 2 ^ lsb m ∧ 2 ^ lsb m ≤ m := by
  obtain ⟨j, h1, h2, h3, h4⟩ := low m h
  have jl : j < m + 1 := by have := Nat.lt_two_pow_self (n := j); omega
  have : (List.range (m + 1)).find? (fun j => m.testBit j) = some j := by
    cases e : (List.range (m + 1)).find? fun j => m.testBit j with
    | none => exact absurd h1 (List.find?_eq_none.mp e j (List.mem_range.mpr jl))
    | some t =>
      obtain ⟨a, b, c⟩ := find_range_least e
      congr 1
      rcases Nat.lt_trichotomy t j with z | z | z
      · rw [h2 t z] at b; cases b
      · exact z
      · rw [c j z] at h1; cases h1
  unfold lsb
  rw [this]
  exact ⟨h1, fun i hi => by unfold tb; rw [h2 i hi]; exact Bool.false_ne_true, h3, h4⟩
theorem Blk.lead (E : Eqv n R) {bs : List Nat} (B : Blk n R bs) {b s : Nat} (hb : b ∈ bs) (hs : tb b s) : ldr R s = lsb b := by
  have l := lsb_ok (B.ne b hb)
  have sn := B.lt b hb s hs
  have ln := B.lt b hb _ l.1
  have o := ldr_ok E sn
  have r1 := ((B.rel b hb s (lsb b) hs).mp l.1).2
  refine Nat.le_antisymm (o.2.2 _ (E.symm _ _ sn ln r1) ln) (Nat.le_of_not_lt fun z => l.2.1 _ z ((B.rel b hb s _ hs).mpr ⟨ldr_lt E sn, E.symm _ _ (ldr_lt E sn) sn o.2.1⟩))
theorem up_unique : ∀ {a b : List Nat}, a.Pairwise (· < ·) → b.Pairwise (· < ·) → (∀ x, x ∈ a ↔ x ∈ b) → a = b
  | [], [], _, _, _ => rfl
  | [], y :: b, _, _, h => by have := (h y).mpr List.mem_cons_self; cases this
  | x :: a, [], _, _, h => by have := (h x).mp List.mem_cons_self; cases this
  | x :: a, y :: b, ha, hb, h => by
    obtain ⟨a1, a2⟩ := List.pairwise_cons.mp ha
    obtain ⟨b1, b2⟩ := List.pairwise_cons.mp hb
    have e : x = y := by
      rcases List.mem_cons.mp ((h x).mp List.mem_cons_self) with z | z
      · exact z
      · rcases List.mem_cons.mp ((h y).mpr List.mem_cons_self) with w | w
        · exact w.symm
        · have := a1 y w; have := b1 x z; omega
    subst e
    congr 1
    refine up_unique a2 b2 fun z => ⟨fun hz => ?_, fun hz => ?_⟩
    · rcases List.mem_cons.mp ((h z).mp (List.mem_cons_of_mem _ hz)) with w | w
      · subst w; exact absurd (a1 z hz) (Nat.lt_irrefl _)
      · exact w
    · rcases List.mem_cons.mp ((h z).mpr (List.mem_cons_of_mem _ hz)) with w | w
      · subst w; exact absurd (b1 z hz) (Nat.lt_irrefl _)
      · exact w
/-- blocks by their least states -/
theorem Blk.sorted (E : Eqv n R) {bs : List Nat} (B : Blk n R bs) (up : bs.Pairwise fun x y => lsb x ≤ lsb y) : bs.map lsb = ldrs R n := by
  refine up_unique ?_ ldrs_up fun x => ?_
  · rw [List.pairwise_map]
    refine (List.pairwise_and_iff.mpr ⟨up, B.dis⟩).imp_of_mem fun {x y} hx hy ⟨h1, h2⟩ => ?_
    have lx := lsb_ok (B.ne x hx)
    have ly := lsb_ok (B.ne y hy)
    refine Nat.lt_of_le_of_ne h1 fun e => h2 _ lx.1 (by rw [e]; exact ly.1)
  · rw [List.mem_map, mem_ldrs]
    constructor
    · rintro ⟨b, hb, rfl⟩
      have l := lsb_ok (B.ne b hb)
      exact ⟨B.lt b hb _ l.1, B.lead E hb l.1⟩
    · rintro ⟨hx, e⟩
      obtain ⟨b, hb, z⟩ := B.all x hx
      exact ⟨b, hb, by rw [← B.lead E hb z, e]⟩
theorem Blk.len (E : Eqv n R) {bs : List Nat} (B : Blk n R bs) : bs.length ≤ n := by
  have nd : (bs.map lsb).Nodup := by
    rw [List.nodup_iff_pairwise_ne, List.pairwise_map]
    refine B.dis.imp_of_mem fun {x y} hx hy h e => h _ (lsb_ok (B.ne x hx)).1 (by rw [e]; exact (lsb_ok (B.ne y hy)).1)
  have := L2.nat_nodup_len (bs.map lsb) (List.range n) nd fun x hx => by
    obtain ⟨b, hb, rfl⟩ := List.mem_map.mp hx
    exact List.mem_range.mpr (B.lt b hb _ (lsb_ok (B.ne b hb)).1)
  rwa [List.length_map, List.length_range] at this
theorem Blk.lens (E : Eqv n R) {bs : List Nat} (B : Blk n R bs) : bs.length = (ldrs R n).length := by
  have p : (bs.mergeSort fun x y => decide (lsb x ≤ lsb y)).Perm bs := List.mergeSort_perm _ _
  have so := (B.perm p).sorted E ((List.pairwise_mergeSort (le := fun x y => decide (lsb x ≤ lsb y)) (fun x y z h1 h2 => by simp at *; omega) (fun x y => by simp; omega) bs).imp fun h => of_decide_eq_true h)
  have := congrArg List.length so
  rwa [List.length_map, p.length_eq] at this
end
/-! ### likeness, round by round -/
def Lk (W : Wd) : Nat → Nat → Nat → Prop
  | 0, s, t => W.at (s : Int) = W.at (t : Int)
  | r + 1, s, t => Lk W r s t ∧ ∀ l : Int, (∀ y ∈ W.beh (s : Int) l, ∃ z ∈ W.beh (t : Int) l, Lk W r y.toNat z.toNat) ∧ (∀ z ∈ W.beh (t : Int) l, ∃ y ∈ W.beh (s : Int) l, Lk W r y.toNat z.toNat)
theorem Lk.refl (W : Wd) : ∀ r s, Lk W r s s
  | 0, _ => rfl
  | r + 1, s => ⟨Lk.refl W r s, fun l => ⟨fun y hy => ⟨y, hy, Lk.refl W r _⟩, fun y hy => ⟨y, hy, Lk.refl W r _⟩⟩⟩
theorem Lk.symm {W : Wd} : ∀ {r s t}, Lk W r s t → Lk W r t s
  | 0, _, _, h => Eq.symm h
  | r + 1, _, _, h => ⟨h.1.symm, fun l => ⟨fun y hy => ((h.2 l).2 y hy).imp fun z q => ⟨q.1, q.2.symm⟩, fun y hy => ((h.2 l).1 y hy).imp fun z q => ⟨q.1, q.2.symm⟩⟩⟩
theorem Lk.trans {W : Wd} : ∀ {r s t u}, Lk W r s t → Lk W r t u → Lk W r s u
  | 0, _, _, _, h, k => Eq.trans h k
  | r + 1, _, _, _, h, k => ⟨h.1.trans k.1, fun l => ⟨fun y hy => by
      obtain ⟨z, hz, a⟩ := (h.2 l).1 y hy
      obtain ⟨w, hw, b⟩ := (k.2 l).1 z hz
      exact ⟨w, hw, a.trans b⟩, fun w hw => by
      obtain ⟨z, hz, a⟩ := (k.2 l).2 w hw
      obtain ⟨y, hy, b⟩ := (h.2 l).2 z hz
      exact ⟨y, hy, b.trans a⟩⟩⟩
theorem Lk.eqv (W : Wd) (r n : Nat) : Eqv n (Lk W r) := ⟨fun s _ => Lk.refl W r s, fun s t _ _ h => h.symm, fun s t u _ _ _ h k => h.trans k⟩
theorem Lk.pred {W : Wd} : ∀ {r k s t}, k ≤ r → Lk W r s t → Lk W k s t
  | 0, k, _, _, h, q => by obtain rfl : k = 0 := by omega
                           exact q
  | r + 1, k, _, _, h, q => by
    rcases Nat.lt_succ_iff_lt_or_eq.mp (Nat.lt_succ_of_le h) with l | rfl
    · exact Lk.pred (by omega) q.1
    · exact q
/-- steps lead from states to states -/
def Wd.In (W : Wd) : Prop := ∀ p ∈ W.steps, 0 ≤ p.1 ∧ p.1 < (W.n : Int) ∧ 0 ≤ p.2.2 ∧ p.2.2 < (W.n : Int)
theorem Wd.In.beh {W : Wd} (h : W.In) {s l y : Int} (hy : y ∈ W.beh s l) : 0 ≤ y ∧ y < (W.n : Int) ∧ ((s, l, y) : T3) ∈ W.steps := by
  unfold Wd.beh at hy
  obtain ⟨p, hp, rfl⟩ := List.mem_map.mp hy
  obtain ⟨m, e⟩ := List.mem_filter.mp hp
  simp only [Bool.and_eq_true, decide_eq_true_eq] at e
  have := h p m
  exact ⟨this.2.2.1, this.2.2.2, by rw [← e.1, ← e.2]; exact m⟩
theorem mem_beh {W : Wd} {s l y : Int} : y ∈ W.beh s l ↔ ((s, l, y) : T3) ∈ W.steps := by
  unfold Wd.beh
  rw [List.mem_map]
  constructor
  · rintro ⟨p, hp, rfl⟩
    obtain ⟨m, e⟩ := List.mem_filter.mp hp
    simp only [Bool.and_eq_true, decide_eq_true_eq] at e
    rw [← e.1, ← e.2]; exact m
  · exact fun h => ⟨_, List.mem_filter.mpr ⟨h, by simp⟩, rfl⟩
/-- once a round parts nothing, none does -/
theorem Lk.rest {W : Wd} (hin : W.In) {r : Nat} (h : ∀ s t, s < W.n → t < W.n → Lk W r s t → Lk W (r + 1) s t) : ∀ {k s t}, r ≤ k → s < W.n → t < W.n → Lk W r s t → Lk W k s t := by
  have key : ∀ i s t, s < W.n → t < W.n → Lk W r s t → Lk W (r + i) s t := fun i => by
    induction i with
    | zero => intro s t _ _ q; exact q
    | succ i ih =>
      intro s t hs ht q
      refine ⟨ih s t hs ht q, fun l => ⟨fun y hy => ?_, fun z hz => ?_⟩⟩
      · obtain ⟨z, hz, a⟩ := ((h s t hs ht q).2 l).1 y hy
        have hy' := hin.beh hy
        have hz' := hin.beh hz
        exact ⟨z, hz, ih _ _ (by omega) (by omega) a⟩
      · obtain ⟨y, hy, a⟩ := ((h s t hs ht q).2 l).2 z hz
        have hy' := hin.beh hy
        have hz' := hin.beh hz
        exact ⟨y, hy, ih _ _ (by omega) (by omega) a⟩
  intro k s t hk hs ht q
  have := key (k - r) s t hs ht q
  rwa [show r + (k - r) = k by omega] at this
/-- what the rounds keep: blocks, the fresh ones; cut l b: the states with a step by l into b -/
structure RI (W : Wd) (ls : List Int) (cut : Int → Nat → Nat) (r : Nat) (bs fr : List Nat) : Prop where
  blk : Blk W.n (Lk W r) bs
  sub : ∀ b ∈ fr, b ∈ bs
  old : ∀ b ∈ bs, b ∉ fr → ∀ l ∈ ls, ∀ s t, s < W.n → t < W.n → Lk W r s t → (tb (cut l b) s ↔ tb (cut l b) t)
structure CutOk (W : Wd) (ls : List Int) (cut : Int → Nat → Nat) : Prop where
  mem : ∀ p ∈ W.steps, p.2.1 ∈ ls
  cut : ∀ l ∈ ls, ∀ b, (∀ s, tb b s → s < W.n) → ∀ s, s < W.n → (tb (cut l b) s ↔ ∃ y ∈ W.beh (s : Int) l, tb b y.toNat)
theorem RI.step {W : Wd} {ls : List Int} {cut : Int → Nat → Nat} (hin : W.In) (C : CutOk W ls cut) {r : Nat} {bs fr cs : List Nat} (I : RI W ls cut r bs fr) (hcs : ∀ c, c ∈ cs ↔ ∃ l ∈ ls, ∃ b ∈ fr, c = cut l b) :
    RI W ls cut (r + 1) (keptB bs cs ++ freshB bs cs) (freshB bs cs) := by
  have same : ∀ s t, s < W.n → t < W.n → ((Lk W r s t ∧ ∀ c ∈ cs, (tb c s ↔ tb c t)) ↔ Lk W (r + 1) s t) := fun s t hs ht => by
    constructor
    · rintro ⟨h, k⟩
      have agree : ∀ l ∈ ls, ∀ b ∈ bs, (tb (cut l b) s ↔ tb (cut l b) t) := fun l hl b hb => by
        by_cases m : b ∈ fr
        · exact k _ ((hcs _).mpr ⟨l, hl, b, m, rfl⟩)
        · exact I.old b hb m l hl s t hs ht h
      refine ⟨h, fun l => ⟨fun y hy => ?_, fun z hz => ?_⟩⟩
      · have y' := hin.beh hy
        have hl := C.mem _ y'.2.2
        obtain ⟨b, hb, yb⟩ := I.blk.all y.toNat (by omega)
        have sb := (C.cut l hl b (I.blk.lt b hb) s hs).mpr ⟨y, hy, yb⟩
        obtain ⟨z, hz, zb⟩ := (C.cut l hl b (I.blk.lt b hb) t ht).mp ((agree l hl b hb).mp sb)
        exact ⟨z, hz, ((I.blk.rel b hb _ _ yb).mp zb).2⟩
      · have z' := hin.beh hz
        have hl := C.mem _ z'.2.2
        obtain ⟨b, hb, zb⟩ := I.blk.all z.toNat (by omega)
        have tb' := (C.cut l hl b (I.blk.lt b hb) t ht).mpr ⟨z, hz, zb⟩
        obtain ⟨y, hy, yb⟩ := (C.cut l hl b (I.blk.lt b hb) s hs).mp ((agree l hl b hb).mpr tb')
        exact ⟨y, hy, ((I.blk.rel b hb _ _ yb).mp zb).2⟩
    · rintro ⟨h, k⟩
      refine ⟨h, fun c hc => ?_⟩
      obtain ⟨l, hl, b, hb, rfl⟩ := (hcs c).mp hc
      have hb' := I.sub b hb
      rw [C.cut l hl b (I.blk.lt b hb') s hs, C.cut l hl b (I.blk.lt b hb') t ht]
      constructor
      · rintro ⟨y, hy, yb⟩
        obtain ⟨z, hz, a⟩ := (k l).1 y hy
        have z' := hin.beh hz
        exact ⟨z, hz, (I.blk.rel b hb' _ _ yb).mpr ⟨by omega, a⟩⟩
      · rintro ⟨z, hz, zb⟩
        obtain ⟨y, hy, a⟩ := (k l).2 z hz
        have y' := hin.beh hy
        exact ⟨y, hy, (I.blk.rel b hb' _ _ zb).mpr ⟨by omega, a.symm⟩⟩
  refine ⟨(I.blk.cut cs).congr same, fun b hb => List.mem_append_right _ hb, fun b hb nf l hl s t hs ht h => ?_⟩
  have hk : b ∈ bs := (List.mem_filter.mp ((List.mem_append.mp hb).resolve_right nf)).1
  by_cases m : b ∈ fr
  · exact ((same s t hs ht).mpr h).2 _ ((hcs _).mpr ⟨l, hl, b, m, rfl⟩)
  · exact I.old b hk m l hl s t hs ht h.1
/-- a round that parts nothing: at rest -/
theorem RI.rest {W : Wd} {ls : List Int} {cut : Int → Nat → Nat} (hin : W.In) (C : CutOk W ls cut) {r : Nat} {bs fr cs : List Nat} (I : RI W ls cut r bs fr) (hcs : ∀ c, c ∈ cs ↔ ∃ l ∈ ls, ∃ b ∈ fr, c = cut l b) (e : freshB bs cs = []) :
    ∀ s t, s < W.n → t < W.n → Lk W r s t → Lk W (r + 1) s t := fun s t hs ht h => by
  have J := I.step hin C hcs
  rw [e, fresh_nil I.blk.ne e, List.append_nil] at J
  obtain ⟨b, hb, sb⟩ := I.blk.all s hs
  exact ((J.blk.rel b hb s t sb).mp ((I.blk.rel b hb s t sb).mpr ⟨ht, h⟩)).2
end Fw

set_option maxRecDepth 100000
set_option maxHeartbeats 4000000
/-! sorted(xs, key=f), xs a list of whole numbers, f a callable of the program with whole numbers as keys -/
namespace Fw
open PySem PySem.Spec PyProof.Rows L2
open PySem.W in
/-- the sort's end: what the heap is then, in full -/
theorem key_end {prog : Program} {w : World} {A : Around} {E : Value → Shared → Prop} {s : Shared} {a kS : Addr} {vs : List Value} {keys : Array Value} {e e1 : Nat} {P : PySem.Fin → Shared → Prop} {κ : PyProof.Rows.KeyKind}
    (nk : s.heap.get? kS = some (seqObj "list" keys e)) (na : s.heap.get? a = some (seqObj "list" #[] e1)) (hka : kS ≠ a) (S : SortsAt prog w A s κ keys.toList) (hsz : keys.size = vs.length) (hZ : vs.length ≤ sizeLine)
    (h : ∀ tk, P (.done (.ret .none)) { s with heap := (s.heap.update kS (Obj.mapSeq fun _ => (#[] : Array Value))).update a (Obj.mapSeq fun _ => (sortVals κ false keys.toList vs).toArray), toks := tk }) :
    wpAny (model prog w) A (ksk_end a false vs.toArray e1 (.ref kS) keys) P E s := by
  obtain ⟨kd, h1, h2⟩ := S.kind
  have hK : PyProof.Rows.KeysOf κ (keys.zip vs.toArray) := keysOf_zip S.keys
  have tl : keys.toList.length = vs.length := by rw [Array.length_toList]; exact hsz
  have ol : (sortVals κ false keys.toList vs).length = vs.length := sortVals_length false tl
  have zs : (keys.zip vs.toArray).size = vs.length := by rw [Array.size_zip, hsz, List.size_toArray, Nat.min_self]
  have outOf : ∀ st' : SortSt, (arrOf st').Perm (keys.zip vs.toArray) → SortedToK κ (arrOf st') (keys.zip vs.toArray).size → Stable κ (arrOf st') (keys.zip vs.toArray) → (arrOf st').map (·.2) = (sortVals κ false keys.toList vs).toArray := fun st' p so sta => by
    have z := sort_out (rev := false) (keys := keys) (items := vs.toArray) (xs := arrOf st') (κ := κ) hK p so sta
    have z2 := congrArg List.toArray z
    rw [Array.toArray_toList] at z2
    exact z2
  have tail : ∀ st' : SortSt, failedOf st' = none → (arrOf st').map (·.2) = (sortVals κ false keys.toList vs).toArray → wpAny (model prog w) A (ksk_tail a false e1 (.ref kS) st') P E s := fun st' fl eo => by
    have na1 : (s.heap.update kS (Obj.mapSeq fun _ => (#[] : Array Value))).get? a = some (seqObj "list" #[] e1) := ((Heap.SameBut.update s.heap kS (Obj.mapSeq fun _ => (#[] : Array Value))).2 a hka.symm).trans na
    unfold ksk_tail
    try dsimp only
    simp only [Bool.false_eq_true, if_false]
    rw [eo]
    refine wpAny_bind (listUpdate_at nk rfl ?_ (by rw [hsz]; exact hZ) (Nat.zero_le _))
    refine wpAny_bind (wpAny_letGo ?_)
    refine wpAny_bind (seqEpoch_at na1 rfl ?_)
    refine wpAny_bind (listUpdate_at na1 rfl ?_ (Nat.zero_le _) (by rw [List.size_toArray, ol]; exact Nat.le_succ_of_le hZ))
    rw [fl]
    simp only [bne_self_eq_false, Bool.false_eq_true, if_false]
    exact wpAny_pure (h s.toks)
  unfold ksk_end
  try dsimp only
  simp only [Bool.false_eq_true, if_false]
  by_cases two : vs.toArray.size < 2
  · rw [if_pos two, if_pos two]
    refine wpAny_bind (wpAny_pure ?_)
    rw [StateT.run_pure]
    refine wpAny_bind (wpAny_pure ?_)
    try dsimp only
    refine tail (SortSt.mk' general' (keys.zip vs.toArray) #[] 7 none) rfl (outOf _ (Array.Perm.refl _) ?_ (Stable.refl _))
    intro i j ij hj
    rw [zs] at hj
    rw [List.size_toArray] at two
    obtain rfl : i = j := by omega
    exact KeyOrd.kle_refl _
  · rw [if_neg two, if_neg two]
    rw [List.size_toArray] at two
    refine wpAny_bind (h2 (by omega) _ ?_)
    refine wpAny_bind (wpAny_mono (H.wpS_sortRunsSt (κ := κ) (kd := kd) (a₀ := keys.zip vs.toArray) (st := SortSt.mk' kd (keys.zip vs.toArray) #[] 7 none)
      (Q := fun _ st' => failedOf st' = none ∧ (arrOf st').map (·.2) = (sortVals κ false keys.toList vs).toArray)
      h1 hK ⟨Array.Perm.refl _, rfl, rfl⟩ rfl (Stable.refl _) (by rw [zs]; omega) fun st' a1 a2 a3 a4 => ⟨a2, outOf st' a1 a3 a4⟩) ?_ fun _ _ z => z)
    rintro ⟨⟨⟩, st'⟩ s' ⟨rfl, hf, ho⟩
    try dsimp only at ho ⊢
    exact tail st' hf ho
theorem each_ints {its : List Value} {ns : List Int} (r : Vals (ns.map V.int) its) : PySem.W.EachIs (fun v n => ∃ t, v = Value.int n t) its ns := by
  induction ns generalizing its with
  | nil => cases r; exact .nil
  | cons n ns ih =>
    cases r with
    | cons h t => exact .cons h (ih t)
/-- what a callable asks to be a key: whole numbers to whole numbers, nothing changed -/
def KeyFn (X : Cx) (f : Value) (kf : Int → Int) (ok : Int → Prop) : Prop := ∀ (pins : List (Addr × Obj)) (σ : L2.St) (G : Hp) (s : Shared) (n : Int) (t : Tok), ok n → Inv X pins σ G s →
  wpAny (model X.prog X.w) X.A.in1.in1 (call f [.int n t]) (fun u s' => (∃ tk, u = .int (kf n) tk) ∧ Inv X pins σ G s') (fun _ _ => False) s
open PySem.W in
theorem sorted_key {X : Cx} {pins : List (Addr × Obj)} {σ : L2.St} {H : Hp} {s : Shared} {l q0 : Addr} {ns : List Int} {kf : Int → Int} {ok : Int → Prop} {Q : VK} (hu : X.A.units + 64 < cLine) (I : Inv X pins σ H s) (hs : SqL X.K H l (ns.map V.int)) (hok : ∀ n ∈ ns, ok n) (F : KeyFn X (.ref q0) kf ok)
    (q : ∀ (ns' : List Int) (p : Addr) (H' : Hp), ns'.Perm ns → ns'.Pairwise (fun x y => kf x ≤ kf y) → H p = none → H' p = some (.lst (ns'.map V.int)) → (∀ b o, H b = some o → H' b = some o) → Q (.ref p) H') :
    wpAny (model X.prog X.w) X.A (call (.builtin "sorted") [.ref l] [(PySem.Str.ofString "key", .ref q0)]) (EP X pins σ Q) X.xe s := by
  obtain ⟨its, rv, hl, hz⟩ := I.list hs
  have il : its.length = ns.length := by rw [← rv.length, List.length_map]
  have hZ : its.length ≤ sizeLine := by rw [← rv.length]; exact hz
  refine sorted_of_sort hl.isList hZ (ksk_s1 _ _) (fun _ => ksk_l1 _ _) fun E' => ?_
  generalize ea : s.heap.objs.size + 1 = a
  have hat : (copyHeap s.heap its).get? a = some (seqObj "list" its.toArray 0) := by rw [← ea]; exact copyHeap_at s.heap its
  have Ha : H a = none := I.hok.fresh (by rw [← ea]; exact Nat.le_succ _)
  have I1 : Inv X pins σ (upd H a (.lst (ns.map V.int))) { s with heap := copyHeap s.heap its } :=
    I.laid (t' := s.toks) (fun b o e => copyHeap_old e) (by rw [← ea]; exact Nat.le_succ _) ⟨by rw [List.length_map, ← il]; exact hZ, its, 0, rv, hat⟩
  rw [ksk_t1]
  unfold ksk_tree
  refine wpAny_bind (listItems_at hat rfl ?_)
  refine wpAny_bind (listUpdate_at hat rfl ?_ (by rw [List.size_toArray]; exact hZ) (Nat.zero_le _))
  obtain ⟨e1, h1⟩ : ∃ e1, ((copyHeap s.heap its).update a (Obj.mapSeq fun _ => (#[] : Array Value))).get? a = some (seqObj "list" #[] e1) := ⟨_, get?_update_seq hat fun _ => #[]⟩
  refine wpAny_bind (seqEpoch_at h1 rfl ?_)
  have I2 : Inv X pins σ (upd H a (.ext fun h => h.get? a = some (seqObj "list" #[] e1))) { s with heap := (copyHeap s.heap its).update a (Obj.mapSeq fun _ => (#[] : Array Value)) } := by
    have := I1.write (x := a) (e := a) (o := .ext fun h => h.get? a = some (seqObj "list" #[] e1)) (h' := (copyHeap s.heap its).update a (Obj.mapSeq fun _ => (#[] : Array Value))) (t' := s.toks) (by rw [upd_same]; trivial) (.inl rfl)
      (fun b u hb z => ((Heap.SameBut.update (copyHeap s.heap its) a (Obj.mapSeq fun _ => (#[] : Array Value))).2 b hb).trans z) ⟨_, h1⟩ ⟨h1, ⟨_, h1⟩, fun h1 h2 p k => k _ p⟩
    have e : upd (upd H a (.lst (ns.map V.int))) a (.ext fun h => h.get? a = some (seqObj "list" #[] e1)) = upd H a (.ext fun h => h.get? a = some (seqObj "list" #[] e1)) := by
      funext b
      by_cases c : b = a
      · subst c; rw [upd_same, upd_same]
      · rw [upd_ne c, upd_ne c, upd_ne c]
    rw [e] at this
    exact this
  refine wpAny_bind (wpAny_newTuple ?_ hZ)
  generalize (copyHeap s.heap its).update a (Obj.mapSeq fun _ => (#[] : Array Value)) = h2 at h1 I2 ⊢
  have I3 : Inv X pins σ (upd H a (.ext fun h => h.get? a = some (seqObj "list" #[] e1))) { s with heap := h2.push (seqObj "tuple" its.toArray 0) } := I2.kept (t' := s.toks) fun b o z => Heap.get?_push_of_some _ z
  refine wpAny_bind (wpAny_newList ?_ (Nat.zero_le _))
  show wpAny _ _ _ _ _ { s with heap := (h2.push (seqObj "tuple" its.toArray 0)).push (seqObj "list" #[] 0) }
  generalize eK : (h2.push (seqObj "tuple" its.toArray 0)).objs.size = kS
  have Hk : (upd H a (.ext fun h => h.get? a = some (seqObj "list" #[] e1))) kS = none := I3.hok.fresh (Nat.le_of_eq eK)
  have nka : kS ≠ a := fun z => by rw [z, upd_same] at Hk; cases Hk
  have I4 : Inv X pins σ (upd (upd H a (.ext fun h => h.get? a = some (seqObj "list" #[] e1))) kS (.lst [])) { s with heap := (h2.push (seqObj "tuple" its.toArray 0)).push (seqObj "list" #[] 0) } := by
    rw [← eK]
    exact I3.laid (t' := s.toks) (fun b o z => Heap.get?_push_of_some _ z) (Nat.le_refl _) ⟨Nat.zero_le _, [], 0, .nil, Heap.get?_push_size _ rfl⟩
  refine wpAny_holding ?_
  unfold ksk_rest
  refine wpAny_bind (wpAny_rule ?_)
  first
    | rw [List.forIn_toArray]
    | (rw [← Array.forIn_toList]; simp only [List.toList_toArray])
  refine wpAny_bind (ksk_fold (fun i s' => Inv X pins σ (upd (upd H a (.ext fun h => h.get? a = some (seqObj "list" #[] e1))) kS (.lst ((ns.take i).map fun n => V.int (kf n)))) s' ∧ s'.os = s.os) its 0 _ ⟨I4, rfl⟩ ?_ ?_)
  · rintro j x s' hx ⟨I5, os5⟩
    rw [Nat.zero_add] at I5 ⊢
    have jl : j < ns.length := by rw [← il]; exact (List.getElem?_eq_some_iff.mp hx).1
    obtain ⟨t, rfl⟩ : ∃ t, x = Value.int ns[j] t := by
      obtain ⟨u, hu1, hr⟩ := rv.get (i := j) (x := .int ns[j]) (by rw [List.getElem?_map, List.getElem?_eq_getElem jl]; rfl)
      rw [hx] at hu1
      cases hu1
      exact hr
    refine wpAny_bind (wpAny_attempt (wpAny_mono (F pins σ _ s' ns[j] t (hok _ (List.getElem_mem jl)) I5) (fun u s'' hu' => ?_) fun _ _ z => z.elim))
    obtain ⟨⟨tk, rfl⟩, I6⟩ := hu'
    try dsimp only
    have gk : (upd (upd H a (.ext fun h => h.get? a = some (seqObj "list" #[] e1))) kS (.lst ((ns.take j).map fun n => V.int (kf n)))) kS = some (.lst ((ns.take j).map fun n => V.int (kf n))) := upd_same
    obtain ⟨kz, kits, kn, kr, ke⟩ := I6.hok kS _ gk
    have klen : kits.length = j := by rw [← kr.length, List.length_map, List.length_take]; omega
    refine wpAny_bind (listUpdate_at ke rfl ?_ (by rw [List.size_toArray, klen]; omega) (by rw [Array.size_push, List.size_toArray, klen]; omega))
    have nx : (ns.take (j + 1)).map (fun n => V.int (kf n)) = (ns.take j).map (fun n => V.int (kf n)) ++ [V.int (kf ns[j])] := by rw [List.take_add_one, List.getElem?_eq_getElem jl, List.map_append]; rfl
    have I7 := I6.lstUpd (its' := kits ++ [.int (kf ns[j]) tk]) (n' := kn + 1) (f := Obj.mapSeq (·.push (.int (kf ns[j]) tk))) (ys := (ns.take (j + 1)).map fun n => V.int (kf n)) gk ke (by simp [Obj.mapSeq]) (by rw [nx]; exact kr.append (.cons ⟨tk, rfl⟩ .nil)) (by rw [List.length_map, List.length_take]; omega) s''.toks
    refine wpAny_pure ⟨rfl, ?_, ?_⟩
    · have e : ∀ o o' : HO, upd (upd (upd H a (.ext fun h => h.get? a = some (seqObj "list" #[] e1))) kS o) kS o' = upd (upd H a (.ext fun h => h.get? a = some (seqObj "list" #[] e1))) kS o' := fun o o' => by
        funext b
        by_cases c : b = kS
        · subst c; rw [upd_same, upd_same]
        · rw [upd_ne c, upd_ne c, upd_ne c]
      rw [e] at I7
      exact I7
    · exact I6.os.trans (I5.os.symm.trans os5)
  · rintro s' ⟨I5, os5⟩
    rw [Nat.zero_add, List.take_of_length_le (Nat.le_of_eq il.symm)] at I5
    have gk : (upd (upd H a (.ext fun h => h.get? a = some (seqObj "list" #[] e1))) kS (.lst (ns.map fun n => V.int (kf n)))) kS = some (.lst (ns.map fun n => V.int (kf n))) := upd_same
    obtain ⟨kz, kits, kn, kr, ke⟩ := I5.hok kS _ gk
    have ga : (upd (upd H a (.ext fun h => h.get? a = some (seqObj "list" #[] e1))) kS (.lst (ns.map fun n => V.int (kf n)))) a = some (.ext fun h => h.get? a = some (seqObj "list" #[] e1)) := by rw [upd_ne nka.symm, upd_same]
    have na := (I5.hok a _ ga).1
    have klen : kits.length = its.length := by rw [← kr.length, List.length_map, il]
    try dsimp only
    refine wpAny_bind (listItems_at ke rfl ?_)
    have kr' : Vals ((ns.map kf).map V.int) kits := by rw [List.map_map]; exact kr
    have er : EachIs (fun v k => ∃ as, Reads s'.heap v k as) kits (ns.map fun n => PyData.int (kf n)) := by
      have z := each_ints kr'
      clear kr' kr klen ke
      generalize hm : ns.map kf = ms at z
      have em : ns.map (fun n => PyData.int (kf n)) = ms.map PyData.int := by rw [← hm, List.map_map]; rfl
      rw [em]
      clear em hm
      induction z with
      | nil => exact .nil
      | cons h _ ih => exact .cons (by obtain ⟨t, rfl⟩ := h; exact ⟨[], .int _ _⟩) ih
    have hal : AllAlike (ns.map fun n => PyData.int (kf n)) := AllAlike.of fun _ _ => rfl
    refine key_end (κ := dataKind s'.heap (ns.map fun n => PyData.int (kf n))) ke na nka (SortsAt.data er hal (Sortable.others fun n => ⟨(fun z => nomatch z), fun xs z => nomatch z⟩) fun d hd => ?_) (by rw [List.size_toArray, klen]) hZ fun tk => ⟨rfl, ?_⟩
    · obtain ⟨n, _, rfl⟩ := List.mem_map.mp hd
      simp only [PyData.depth]
      simp [Around.in1]
      omega
    have eo := keyedOut_each (R := fun v n => ∃ t, v = Value.int n t) (fun n => PyData.int (kf n)) (⟨s'.heap, kits, hal, rfl, er⟩ : KeyedOut false (ns.map fun n => PyData.int (kf n)) its _) (each_ints rv)
    generalize ho : sortVals (dataKind s'.heap (ns.map fun n => PyData.int (kf n))) false kits its = out at eo
    have ov : Vals ((ns.mergeSort (dataLe false fun n => PyData.int (kf n))).map V.int) out := by
      generalize ns.mergeSort (dataLe false fun n => PyData.int (kf n)) = M at eo
      clear ho
      induction eo with
      | nil => exact .nil
      | cons h _ ih => exact .cons h ih
    have pm := List.mergeSort_perm ns (dataLe false fun n => PyData.int (kf n))
    have so : (ns.mergeSort (dataLe false fun n => PyData.int (kf n))).Pairwise fun x y => kf x ≤ kf y := by
      have : dataLe false (fun n => PyData.int (kf n)) = fun x y => decide (kf x ≤ kf y) := dataLe_int kf
      rw [this]
      have := List.pairwise_mergeSort (le := fun x y => decide (kf x ≤ kf y)) (fun x y z h1 h2 => by simp at *; omega) (fun x y => by simp; omega) ns
      exact this.imp fun h => of_decide_eq_true h
    generalize ns.mergeSort (dataLe false fun n => PyData.int (kf n)) = M at ov pm so
    have I6 := I5.lstUpd (its' := []) (f := Obj.mapSeq fun _ => (#[] : Array Value)) (ys := []) gk ke rfl .nil (Nat.zero_le _) tk
    have na1 : (s'.heap.update kS (Obj.mapSeq fun _ => (#[] : Array Value))).get? a = some (seqObj "list" #[] e1) := ((Heap.SameBut.update s'.heap kS (Obj.mapSeq fun _ => (#[] : Array Value))).2 a nka.symm).trans na
    obtain ⟨e2, h3⟩ : ∃ e2, ((s'.heap.update kS (Obj.mapSeq fun _ => (#[] : Array Value))).update a (Obj.mapSeq fun _ => out.toArray)).get? a = some (seqObj "list" out.toArray e2) := ⟨_, get?_update_seq na1 fun _ => out.toArray⟩
    have ml : (M.map V.int).length ≤ sizeLine := by rw [List.length_map, pm.length_eq, ← il]; exact hZ
    have I7 := I6.write (x := a) (e := a) (o := .lst (M.map V.int)) (h' := (s'.heap.update kS (Obj.mapSeq fun _ => (#[] : Array Value))).update a (Obj.mapSeq fun _ => out.toArray)) (t' := tk) (by rw [upd_ne nka.symm, ga]; trivial) (.inl rfl)
      (fun b u hb z => ((Heap.SameBut.update (s'.heap.update kS (Obj.mapSeq fun _ => (#[] : Array Value))) a (Obj.mapSeq fun _ => out.toArray)).2 b hb).trans z) ⟨_, h3⟩ ⟨ml, out, e2, ov, h3⟩
    refine ⟨.ref a, _, I7, rfl, q M a _ pm so Ha upd_same fun b o z => ?_⟩
    have c1 : b ≠ a := fun c => by rw [c, Ha] at z; cases z
    have c2 : b ≠ kS := fun c => by rw [c] at z; rw [upd_ne nka, z] at Hk; cases Hk
    rw [upd_ne c1, upd_ne c2, upd_ne c2, upd_ne c1]
    exact z
/-- sorted(xs, key=f) -/
def rSortedKf (K : PySem.W.Frag) (q0 : Addr) (kf : Int → Int) (ok : Int → Prop) : List V → List V → Hp → VK → Prop := fun vs zs H Q => ∃ (l : Addr) (ns : List Int), vs = [V.ref l] ∧ zs = [V.ref q0] ∧ SqL K H l (ns.map V.int) ∧ (∀ n ∈ ns, ok n) ∧
  ∀ (ns' : List Int) (p : Addr) (H' : Hp), ns'.Perm ns → ns'.Pairwise (fun x y => kf x ≤ kf y) → H p = none → H' p = some (.lst (ns'.map V.int)) → (∀ b o, H b = some o → H' b = some o) → Q (.ref p) H'
theorem cr_sortedKf {X : Cx} {q0 : Addr} {kf : Int → Int} {ok : Int → Prop} (hu : X.A.units + 64 < cLine) (F : KeyFn X (.ref q0) kf ok) : CallRK X (.builtin "sorted") [PySem.Str.ofString "key"] (rSortedKf X.K q0 kf ok) := by
  intro pins s σ H vs zs us ws Q I r rz h
  obtain ⟨l, ns, rfl, rfl, hs, hok, q⟩ := h
  rw [Vals.ref1 r, Vals.ref1 rz]
  exact sorted_key hu I hs hok F q
theorem keyFn_of {X : Cx} {k : Nat} {q0 : Addr} {fd : FuncData} {ps : List PySem.Str} {sp : Sp} {kf : Int → Int} {ok : Int → Prop} (F : FnOk X.prog X.w X.K X.mg X.base CX0 k q0 fd ps sp) (hr : Room k X.A.in1.in1) (hb : Binds X.K fd ps [])
    (hs : ∀ n, ok n → ∀ (G : Hp) (Q : VK) (E : XK), Q (.int (kf n)) G → sp [.int n] G Q E) : KeyFn X (.ref q0) kf ok := by
  intro pins σ G s n t hn I
  have sp1 := hs n hn G (fun v G' => v = V.int (kf n) ∧ G' = G) (fun _ _ _ => False) ⟨rfl, rfl⟩
  have hl : ([Value.int n t] ++ ([] : List Value)).length = ps.length := by have := F.len _ _ _ _ sp1; simpa using this
  refine wpAny_call (codeAny_mono (F.run X.A.in1.in1 X.stack s G ⟨[Value.int n t], []⟩ ([Value.int n t] ++ []) [V.int n] (fun v G' => v = V.int (kf n) ∧ G' = G) (fun _ _ _ => False) hr I.env0.in1.in1 (hb s [Value.int n t] I.kIn hl) (.cons (show RelV (V.int n) (Value.int n t) from ⟨t, rfl⟩) .nil) sp1) fun r s' hq => ?_)
  cases r with
  | error e => exact hq.elim
  | ok fl =>
    cases fl with
    | ret u =>
      have hq' : CE X.stack X.prog X.w G s (fun v G' => v = V.int (kf n) ∧ G' = G) u s' := hq
      obtain ⟨v, G', I', rv, rfl, rfl⟩ := I.after hq'
      obtain ⟨tk, rfl⟩ : ∃ tk, u = Value.int (kf n) tk := rv
      exact ⟨⟨tk, rfl⟩, I'⟩
    | next => exact False.elim hq
    | brk => exact False.elim hq
    | cont => exact False.elim hq
end Fw

set_option maxRecDepth 100000
set_option maxHeartbeats 4000000
/-! dicts whose keys are tuples within tuples -/
namespace Fw
open PySem PySem.Spec PyProof.Rows L2
mutual
/-- v is such a key, in the heap H -/
inductive KIs (K : PySem.W.Frag) (H : Hp) : V → NestedKey → Prop
  | int (i : Int) : KIs K H (.int i) (.num i)
  | str (x : PySem.Str) : KIs K H (.str x) (.text x)
  | tup {a : Addr} {xs : List V} {ks : List NestedKey} : SqT K H a xs → KAll K H xs ks → KIs K H (.ref a) (.tup ks)
inductive KAll (K : PySem.W.Frag) (H : Hp) : List V → List NestedKey → Prop
  | nil : KAll K H [] []
  | cons {x : V} {k : NestedKey} {xs : List V} {ks : List NestedKey} : KIs K H x k → KAll K H xs ks → KAll K H (x :: xs) (k :: ks)
end
mutual
theorem KIs.map {K : PySem.W.Frag} {H H' : Hp} (s : ∀ a xs, SqT K H a xs → SqT K H' a xs) : ∀ {v : V} {k : NestedKey}, KIs K H v k → KIs K H' v k
  | _, _, .int i => .int i
  | _, _, .str x => .str x
  | _, _, .tup h r => .tup (s _ _ h) (KAll.map s r)
theorem KAll.map {K : PySem.W.Frag} {H H' : Hp} (s : ∀ a xs, SqT K H a xs → SqT K H' a xs) : ∀ {vs : List V} {ks : List NestedKey}, KAll K H vs ks → KAll K H' vs ks
  | _, _, .nil => .nil
  | _, _, .cons h r => .cons (KIs.map s h) (KAll.map s r)
end
section
variable {X : Cx} {pins : List (Addr × Obj)} {σ : L2.St} {H : Hp} {s : Shared}
mutual
theorem kis_real (I : Inv X pins σ H s) : ∀ {v : V} {k : NestedKey} {u : Value}, KIs X.K H v k → RelV v u → NestedIs s.heap k u
  | _, _, _, .int i, r => by
    obtain ⟨t, rfl⟩ : ∃ t, _ = Value.int i t := r
    exact .int i t
  | _, _, _, .str x, r => by
    obtain ⟨t, rfl⟩ : ∃ t, _ = Value.str x t := r
    exact .text x t
  | _, _, _, .tup h all, r => by
    obtain rfl : _ = Value.ref _ := r
    obtain ⟨its, rv, ⟨o, e, c, n, d⟩, _⟩ := I.tuple h
    exact .tup e c d (by simpa using kall_real I all rv)
theorem kall_real (I : Inv X pins σ H s) : ∀ {vs : List V} {ks : List NestedKey} {us : List Value}, KAll X.K H vs ks → Vals vs us → NestedAll s.heap ks us
  | _, _, _, .nil, .nil => .nil
  | _, _, _, .cons h r, .cons a b => .cons (kis_real I h a) (kall_real I r b)
end
end
abbrev NK := NestedKey × Addr × V
/-- what stands at a key -/
def valN (kvs : List NK) (k : NestedKey) : Option V := (kvs.find? fun e => decide (e.1 = k)).map fun e => e.2.2
def PairN (p : NK) (q : NestedKey × Addr × Value) : Prop := p.1 = q.1 ∧ p.2.1 = q.2.1 ∧ RelV p.2.2 q.2.2
def DNh (P : Program) (w : World) (a : Addr) (kvs : List NK) (h : Heap) : Prop := (a == sysModules) = false ∧ kvs.length ≤ sizeLine ∧ ∃ xs : List (NestedKey × Addr × Value), Paired PairN kvs xs ∧
  ∃ o es ep, h.get? a = some o ∧ o.ExactDict ∧ o.data = .dict es ep ∧ es.toList = xs.map (entryOfKey (nestedKind P w)) ∧ (xs.map (·.1)).Nodup
/-- a dict with such keys, each with the place of its tuple -/
def DNs (P : Program) (w : World) (a : Addr) (kvs : List NK) : HO := .ext (DNh P w a kvs)
def KeysOk (K : PySem.W.Frag) (H : Hp) (kvs : List NK) : Prop := ∀ e ∈ kvs, KIs K H (.ref e.2.1) e.1 ∧ e.1.depth ≤ 8
theorem DNh.ok {P : Program} {w : World} {H : Hp} {h : Heap} {a : Addr} {kvs : List NK} (x : DNh P w a kvs h) : ObjOk P w H h a (DNs P w a kvs) := by
  obtain ⟨z, y, xs, r, o, es, ep, e, c⟩ := id x
  refine ⟨x, ⟨o, e⟩, fun h1 h2 q k => ?_⟩
  obtain ⟨z, y, xs, r, o, es, ep, e, c⟩ := q
  exact ⟨z, y, xs, r, o, es, ep, k _ e, c⟩
theorem pair_val {kvs : List NK} {xs : List (NestedKey × Addr × Value)} (r : Paired PairN kvs xs) (k : NestedKey) : RelO (valN kvs k) ((atKey xs k).map (·.2)) := by
  induction r with
  | nil => exact trivial
  | @cons p q ps qs h t ih =>
    obtain ⟨h1, h2, h3⟩ := h
    unfold valN atKey at ih ⊢
    by_cases e : p.1 = k
    · have e2 : q.1 = k := h1.symm.trans e
      simp only [List.find?_cons, e, e2, decide_true, Option.map_some]
      exact h3
    · have e2 : ¬ q.1 = k := fun z => e (h1.trans z)
      simp only [List.find?_cons, decide_eq_false e, decide_eq_false e2]
      exact ih
theorem valN_snoc {kvs : List NK} {k : NestedKey} {b : Addr} {v : V} (h : valN kvs k = none) (j : NestedKey) : valN (kvs ++ [(k, b, v)]) j = if j = k then some v else valN kvs j := by
  unfold valN at h ⊢
  rw [List.find?_append]
  by_cases e : j = k
  · subst e
    have : kvs.find? (fun e => decide (e.1 = j)) = none := Option.map_eq_none_iff.mp h
    simp [this, List.find?_cons]
  · rw [if_neg e]
    have : ¬ k = j := fun z => e z.symm
    cases kvs.find? (fun e => decide (e.1 = j)) <;> simp [List.find?_cons, this]
section
variable {X : Cx}
theorem dn_dict {pins : List (Addr × Obj)} {σ : L2.St} {H : Hp} {s : Shared} {a : Addr} {kvs : List NK} (I : Inv X pins σ H s) (e : H a = some (DNs X.prog X.w a kvs)) (ok : KeysOk X.K H kvs) :
    (a == sysModules) = false ∧ kvs.length ≤ sizeLine ∧ ∃ xs, Paired PairN kvs xs ∧ s.heap.DictOfH (nestedKind X.prog X.w) a xs := by
  obtain ⟨z, y, xs, r, o, es, ep, h1, h2, h3, h4, h5⟩ := (I.hok a _ e).1
  refine ⟨z, y, xs, r, o, es, ep, h1, h2, h3, h4, fun x hx => ?_, h5⟩
  have all : ∀ {l : List NK} {m : List (NestedKey × Addr × Value)}, Paired PairN l m → (∀ e ∈ l, KIs X.K H (.ref e.2.1) e.1 ∧ e.1.depth ≤ 8) → ∀ x ∈ m, (nestedKind X.prog X.w).is s.heap x.1 x.2.1 := by
    intro l m q
    induction q with
    | nil => intro _ x hx; exact nomatch hx
    | @cons p q ps qs hq t ih =>
      intro okl x hx
      rcases List.mem_cons.mp hx with e | hx
      · subst e
        obtain ⟨k1, k2⟩ := okl p List.mem_cons_self
        rw [hq.1, hq.2.1] at k1
        exact ⟨kis_real I k1 rfl, by rw [← hq.1]; exact k2⟩
      · exact ih (fun e he => okl e (List.mem_cons_of_mem _ he)) x hx
  exact all r ok x hx
def rInN (P : Program) (w : World) (K : PySem.W.Frag) (neg : Bool) : R2 := fun x y H Q => ∃ (a b : Addr) (kvs : List NK) (k : NestedKey), y = .ref a ∧ x = .ref b ∧ H a = some (DNs P w a kvs) ∧ KeysOk K H kvs ∧ KIs K H (.ref b) k ∧ k.depth ≤ 8 ∧
  Q (.bl (if neg = true then !(valN kvs k).isSome else (valN kvs k).isSome)) H
theorem op_inN (hu : X.A.units + 64 < cLine) : OpR X (compareOp .In) (rInN X.prog X.w X.K false) := by
  intro pins s σ H x y v u Q I rx ry h
  obtain ⟨a, b, kvs, k, rfl, rfl, e, ok, hk, dk, q⟩ := h
  obtain rfl : v = Value.ref b := rx
  obtain rfl : u = Value.ref a := ry
  obtain ⟨z, _, xs, r, dd⟩ := dn_dict I e ok
  refine wpAny_in_heap (knd := nestedKind X.prog X.w) (show X.A.units + 1 + 8 < cLine by omega) ⟨kis_real I hk rfl, dk⟩ z dd ?_
  have q2 := (pair_val r k).isSome_eq
  rw [Option.isSome_map] at q2
  refine ⟨.bl _, H, I.tok _, rfl, ?_⟩
  rw [← q2]
  exact q
theorem op_notInN (hu : X.A.units + 64 < cLine) : OpR X (compareOp .NotIn) (rInN X.prog X.w X.K true) := by
  intro pins s σ H x y v u Q I rx ry h
  obtain ⟨a, b, kvs, k, rfl, rfl, e, ok, hk, dk, q⟩ := h
  obtain rfl : v = Value.ref b := rx
  obtain rfl : u = Value.ref a := ry
  obtain ⟨z, _, xs, r, dd⟩ := dn_dict I e ok
  refine wpAny_notIn_heap (knd := nestedKind X.prog X.w) (show X.A.units + 1 + 8 < cLine by omega) ⟨kis_real I hk rfl, dk⟩ z dd ?_
  have q2 := (pair_val r k).isSome_eq
  rw [Option.isSome_map] at q2
  refine ⟨.bl _, H, I.tok _, rfl, ?_⟩
  rw [← q2]
  exact q
def rIxN (P : Program) (w : World) (K : PySem.W.Frag) : R2 := fun x y H Q => ∃ (a b : Addr) (kvs : List NK) (k : NestedKey) (v : V), x = .ref a ∧ y = .ref b ∧ H a = some (DNs P w a kvs) ∧ KeysOk K H kvs ∧ KIs K H (.ref b) k ∧ k.depth ≤ 8 ∧ valN kvs k = some v ∧ Q v H
theorem ix_nest (hu : X.A.units + 64 < cLine) : IxR X (rIxN X.prog X.w X.K) := by
  intro value slice pins s σ H x y v u Q I rx ry h hs
  obtain ⟨a, b, kvs, k, z0, rfl, rfl, e, ok, hk, dk, hv, q⟩ := h
  obtain rfl : v = Value.ref a := rx
  obtain rfl : u = Value.ref b := ry
  obtain ⟨z, _, xs, r, dd⟩ := dn_dict I e ok
  obtain ⟨w', hw, rw'⟩ := RelO.some_of (v := z0) (o := (atKey xs k).map (·.2)) (by rw [← hv]; exact pair_val r k)
  obtain ⟨p, hp, hp2⟩ := Option.map_eq_some_iff.mp hw
  refine tail_any dd.typeIs PySem.F.slot_dict_getitem.lookup (wpAny_getItem_heap (knd := nestedKind X.prog X.w) (show X.A.units + 1 + 8 < cLine by omega) ⟨kis_real I hk rfl, dk⟩ dd hp ?_) hs
  rw [hp2]
  exact ⟨z0, H, I.tok _, rw', q⟩
/-- d[key] = v, the key not yet there -/
def rSetN (P : Program) (w : World) (K : PySem.W.Frag) : TSet := fun o i v H Q => ∃ (a b : Addr) (kvs : List NK) (k : NestedKey), o = .ref a ∧ i = .ref b ∧ H a = some (DNs P w a kvs) ∧ KeysOk K H kvs ∧ KIs K H (.ref b) k ∧ k.depth ≤ 8 ∧ valN kvs k = none ∧ kvs.length < sizeLine ∧
  Q (upd H a (DNs P w a (kvs ++ [(k, b, v)])))
theorem set_nest (hu : X.A.units + 64 < cLine) : PSet X (rSetN X.prog X.w X.K) := by
  intro pins s σ H o i v ov iv u Q I ro ri rv h
  obtain ⟨a, b, kvs, k, rfl, rfl, e, ok, hk, dk, hn, hl, q⟩ := h
  obtain rfl : ov = Value.ref a := ro
  obtain rfl : iv = Value.ref b := ri
  obtain ⟨z, sz, xs, r, dd⟩ := dn_dict I e ok
  have none' : atKey xs k = none := by
    have q2 := (pair_val r k).isSome_eq
    rw [Option.isSome_map, hn] at q2
    cases h : atKey xs k with
    | none => rfl
    | some p => rw [h] at q2; cases q2
  refine wpAny_setItem_heap (knd := nestedKind X.prog X.w) (hsz := by rw [← Paired.length r]; exact sz) (show X.A.units + 1 + 8 < cLine by omega) ⟨kis_real I hk rfl, dk⟩ dd fun h' dd' hs => ⟨_, ?_, q⟩
  rw [storedH_new none'] at dd'
  obtain ⟨o', es, ep, e1, e2, e3, e4, _, e5⟩ := dd'
  refine d_write I (by rw [e]; trivial) hs ⟨o', e1⟩ (DNh.ok ⟨z, ?_, _, Paired.snoc r ⟨rfl, rfl, rv⟩, o', es, ep, e1, e2, e3, e4, e5⟩)
  rw [List.length_append, List.length_singleton]
  exact hl
/-- {} -/
def tDNewN (P : Program) (w : World) : TE := fun _ H Q => ∀ p, H p = none → Q (.ref p) (upd H p (DNs P w p []))
theorem pe_dnewN {pos : Pos} : PE X (.Dict [] [] pos) (tDNewN X.prog X.w) :=
  ⟨fun pins s σ H Q I h => wpAny_Dict_empty ⟨.ref s.heap.objs.size, _, I.laid (a := s.heap.objs.size) (t' := s.toks) (fun _ _ q => Heap.get?_push_of_some _ q) (Nat.le_refl _) (DNh.ok (by
    obtain ⟨z, y, xs, r, o, es, ep, e, c⟩ := dt_empty (P := X.prog) (w := X.w) (H := H) s.heap I.big
    cases r
    exact ⟨y, Nat.zero_le _, [], .nil, o, es, ep, e, c.1, c.2.1, c.2.2.1, List.nodup_nil⟩)), rfl, h _ (I.hok.fresh (Nat.le_refl _))⟩⟩
end
end Fw

set_option maxRecDepth 100000
set_option maxHeartbeats 4000000
/-! Sorting of tuples of whole numbers, of any lengths. -/
namespace Fw
open PySem PySem.Spec PyProof.Rows L2
theorem lexL_asym : ∀ a b : List Int, HT.lexLt a b = true → HT.lexLt b a = false
  | [], [], h => by cases h
  | [], _ :: _, _ => rfl
  | _ :: _, [], h => by cases h
  | x :: a, y :: b, h => by
    rw [HT.lexLt_cons] at h ⊢
    by_cases e : x = y
    · rw [if_pos e] at h
      rw [if_pos e.symm]
      exact lexL_asym a b h
    · rw [if_neg e, decide_eq_true_eq] at h
      rw [if_neg (fun z => e z.symm), decide_eq_false_iff_not]
      omega
theorem lexL_tr : ∀ a b c : List Int, HT.lexLt b a = false → HT.lexLt c b = false → HT.lexLt c a = false
  | [], b, [], _, _ => rfl
  | _ :: _, [], c, h1, _ => by cases h1
  | _ :: _, _ :: _, [], _, h2 => by cases h2
  | [], b, _ :: _, _, _ => by rfl
  | x :: a, y :: b, z :: c, h1, h2 => by
    rw [HT.lexLt_cons] at h1 h2 ⊢
    by_cases e1 : y = x
    · subst e1
      rw [if_pos rfl] at h1
      by_cases e2 : z = y
      · rw [if_pos e2] at h2 ⊢
        exact lexL_tr a b c h1 h2
      · rw [if_neg e2] at h2 ⊢
        exact h2
    · rw [if_neg e1, decide_eq_false_iff_not] at h1
      by_cases e2 : z = y
      · subst e2
        rw [if_neg e1, decide_eq_false_iff_not]
        exact h1
      · rw [if_neg e2, decide_eq_false_iff_not] at h2
        rw [if_neg (by omega), decide_eq_false_iff_not]
        omega
theorem swoL {α : Type} (k : α → List Int) : SrtO.Swo fun v u => HT.lexLt (k v) (k u) := ⟨fun x y h => lexL_asym _ _ h, fun x y z h1 h2 => lexL_tr _ _ _ h1 h2⟩
def IsInts (h : Heap) (v : Value) (xs : List Int) : Prop := ∃ a o its n, v = .ref a ∧ h.get? a = some o ∧ o.cls = .type "tuple" ∧ o.data = .seq its n ∧ IntsAre its.toList xs
theorem IsInts.keeps {h h' : Heap} {v : Value} {xs : List Int} (p : IsInts h v xs) (k : ∀ b o, h.get? b = some o → o.cls = .type "tuple" → h'.get? b = some o) : IsInts h' v xs := by
  obtain ⟨a, o, its, n, e, ho, hc, hd, i⟩ := p
  exact ⟨a, o, its, n, e, k a o ho hc, hc, hd, i⟩
section
variable {prog : Program} {w : World} {A : Around} {E : Value → Shared → Prop} {s : Shared}
theorem kat_ints {b fin : Bool} {Q : Bool → Shared → Prop} : ∀ (ps qs : List Value) (i : Nat) (as bs : List Int), IntsAre ps as → IntsAre qs bs → fin = decide (ps.length < qs.length) → Q (HT.lexLt as bs) s → PySem.W.KatLex prog w A b fin Q (ps.zip qs) i s
  | [], [], i, as, bs, ha, hb, hf, h => by
    cases ha; cases hb
    have e : fin = false := by rw [hf]; rfl
    subst e
    exact PySem.W.kat_nil h
  | [], q :: qs, i, as, bs, ha, hb, hf, h => by
    cases ha; cases hb
    have e : fin = true := by rw [hf]; exact decide_eq_true (Nat.succ_pos _)
    subst e
    exact PySem.W.kat_nil h
  | p :: ps, [], i, as, bs, ha, hb, hf, h => by
    cases ha; cases hb
    have e : fin = false := by rw [hf]; exact decide_eq_false (Nat.not_lt_zero _)
    subst e
    exact PySem.W.kat_nil h
  | p :: ps, q :: qs, i, as, bs, ha, hb, hf, h => by
    have hf' : fin = decide (ps.length < qs.length) := by
      rw [hf]; simp only [List.length_cons, Nat.add_lt_add_iff_right]
    cases ha with
    | cons n t ha' =>
    cases hb with
    | cons m u hb' =>
    rw [HT.lexLt_cons] at h
    refine PySem.W.kat_cons (SeqAt.EqAt.int_int n t m u prog w _ _ ?_)
    refine PySem.W.kat_go (fun e => PySem.W.kat_yes ?_) (fun e => PySem.W.kat_no ?_)
    · have hnm : n = m := by simpa using e
      rw [if_pos hnm] at h
      exact kat_ints ps qs (i + 1) _ _ ha' hb' hf' h
    · have hnm : ¬ n = m := by simpa using e
      rw [if_neg hnm] at h
      exact PyProof.Rows.oneLt_any_int h
theorem tupLt_t {b : Bool} {v u : Value} {xs ys : List Int} {Q : Bool → Shared → Prop} (hv : IsInts s.heap v xs) (hw : IsInts s.heap u ys) (h : Q (HT.lexLt xs ys) s) : wpAny (model prog w) A (keyLt' (PyProof.Rows.tuples' b) v u) Q E s := by
  obtain ⟨a, o, its, n, rfl, ho, hc, hd, i⟩ := hv
  obtain ⟨a', o', its', n', rfl, ho', hc', hd', i'⟩ := hw
  exact PySem.W.kat_lt ho hd ho' hd' (kat_ints _ _ 0 _ _ i i' (by rw [Array.length_toList, Array.length_toList]) h)
theorem tupLt_g {v u : Value} {xs ys : List Int} {Q : Bool → Shared → Prop} (hu : A.units < cLine) (hv : IsInts s.heap v xs) (hw : IsInts s.heap u ys) (h : Q (HT.lexLt xs ys) s) : wpAny (model prog w) A (oneLt' false v u) Q E s := by
  obtain ⟨a, o, its, n, rfl, ho, hc, hd, i⟩ := hv
  obtain ⟨a', o', its', n', rfl, ho', hc', hd', i'⟩ := hw
  exact PySem.W.kat_one _ _ (HT.lt_tupInts ⟨o, ho, hc, n, hd⟩ ⟨o', ho', hc', n', hd'⟩ i i' hu h)
theorem tupLt_o {v u : Value} {xs ys : List Int} {Q : Bool → Shared → Prop} (hu : A.units < cLine) (hv : IsInts s.heap v xs) (hw : IsInts s.heap u ys) (h : Q (HT.lexLt xs ys) s) : wpAny (model prog w) A (oneLt' true v u) Q E s := by
  obtain ⟨a, o, its, n, rfl, ho, hc, hd, i⟩ := hv
  obtain ⟨a', o', its', n', rfl, ho', hc', hd', i'⟩ := hw
  obtain ⟨cls, dd, data, sl⟩ := o
  obtain ⟨cls2, dd2, data2, sl2⟩ := o'
  simp only at hc hd hc' hd'
  subst hc hd hc' hd'
  rw [oneLt'_eq]
  simp only [if_true]
  refine wpAny_bind (wpAny_cRoomFor hu ?_)
  refine wpAny_bind (wpAny_callSpecialIfBound?_slot (T := "tuple") ⟨_, ho, rfl⟩ PySem.F.slot_tuple_lt (call_meets PySem.F.slot_tuple_lt ⟨_, ho, rfl⟩ PySem.F.entry_tuple_lt (PySem.F.args_tuple_lt_2 _ _) (HT.tuple_lt_ints a a' its its' n n' dd dd2 sl sl2 xs ys i i') ⟨ho, ho', ?_⟩))
  exact wpAny_truthy_bool h
/-! ### the kind of the keys -/
def FstOf (h : Heap) : List Value → List (Option Value) → Prop
  | [], [] => True
  | v :: vs, f :: fs => (∃ a o xs n, v = .ref a ∧ h.get? a = some o ∧ o.cls = .type "tuple" ∧ o.data = .seq xs n ∧ xs[0]? = f) ∧ FstOf h vs fs
  | _, _ => False
theorem firstsO {M : Model} : ∀ (vs : List Value) (fs : List (Option Value)) {Q : List (Option Value) → Shared → Prop}, FstOf s.heap vs fs → Q fs s → wpAny M A (vs.mapM firstOfTuple') Q E s
  | [], [], _, _, h => by rw [List.mapM_nil]; exact wpAny_pure h
  | [], _ :: _, _, t, _ => t.elim
  | _ :: _, [], _, t, _ => t.elim
  | v :: vs, f :: fs, Q, t, h => by
    obtain ⟨⟨a, o, xs, n, rfl, ho, hc, hd, hf⟩, t⟩ := t
    rw [List.mapM_cons]
    refine wpAny_bind ?_
    rw [PySem.W.kas_first_eq]
    refine wpAny_bind (PySem.W.Looks.here (show PySem.W.Looks M s.heap (typeOf (.ref a)) o.cls from (PySem.W.Looks.ld ho).andThen .now) ?_)
    rw [hc, if_neg (by first | decide | simp)]
    refine wpAny_bind (listItems_at ho hd (wpAny_pure ?_))
    rw [hf]
    exact wpAny_bind (firstsO vs fs (Q := fun bs s' => wpAny M A (pure (f :: bs)) Q E s') t (wpAny_pure h))
theorem fst_of {h : Heap} {k : Value → List Int} : ∀ {vs : List Value}, (∀ v ∈ vs, IsInts h v (k v)) → ∃ fs, FstOf h vs fs ∧ fs.length = vs.length ∧ ∀ f ∈ fs, f = none ∨ ∃ x t, f = some (Value.int x t)
  | [], _ => ⟨[], trivial, rfl, fun _ hm => by cases hm⟩
  | v :: vs, hp => by
    obtain ⟨fs, h1, h2, h3⟩ := fst_of (vs := vs) fun v' hm => hp v' (List.mem_cons_of_mem _ hm)
    obtain ⟨a, o, its, n, e, ho, hc, hd, i⟩ := hp v (List.mem_cons_self ..)
    refine ⟨its[0]? :: fs, ⟨⟨a, o, its, n, e, ho, hc, hd, rfl⟩, h1⟩, by rw [List.length_cons, List.length_cons, h2], fun f hm => ?_⟩
    rcases List.mem_cons.mp hm with rfl | hm
    · rw [← Array.getElem?_toList]
      generalize its.toList = l at i
      generalize k v = kv at i
      cases i with
      | nil => exact .inl rfl
      | cons x t _ => exact .inr ⟨x, t, rfl⟩
    · exact h3 f hm
theorem some_all {fs : List (Option Value)} (h : fs.toArray.all (fun x => x.isSome) = true) : ∃ gs : List Value, fs = gs.map some := by
  simp only [List.all_toArray] at h
  induction fs with
  | nil => exact ⟨[], rfl⟩
  | cons f fs ih =>
    rw [List.all_cons, Bool.and_eq_true] at h
    obtain ⟨gs, e⟩ := ih h.2
    cases f with
    | none => cases h.1
    | some g => exact ⟨g :: gs, by rw [e]; rfl⟩
theorem kat_of_fst {h : Heap} : ∀ {vs gs : List Value}, FstOf h vs (gs.map some) → PySem.W.KatTups h vs gs
  | [], [], _ => trivial
  | [], _ :: _, t => t.elim
  | _ :: _, [], t => t.elim
  | v :: vs, g :: gs, t => ⟨t.1, kat_of_fst t.2⟩
/-- tuples of whole numbers have a kind, and by it they are compared -/
theorem ints_kind {vs : List Value} {k : Value → List Int} (h0 : 0 < vs.length) (hu : A.units < cLine) (hp : ∀ v ∈ vs, IsInts s.heap v (k v)) :
    ∃ κ, (∀ (Q : SortKind → Shared → Prop) (E : Value → Shared → Prop), Q κ s → wpAny (model prog w) A (keyKind' vs.toArray) Q E s) ∧ SrtO.Cmp prog w A s κ (fun p => p.1 ∈ vs) (SrtO.lt2 fun v u => HT.lexLt (k v) (k u)) := by
  obtain ⟨fs, h1, h2, h3⟩ := fst_of hp
  have tOf : ∀ v ∈ vs, ∀ M : Model, PySem.W.Looks M s.heap (typeOf v) (.type "tuple") := fun v hv M => by
    obtain ⟨a, o, its, n, rfl, ho, hc, hd, i⟩ := hp v hv
    have := (show PySem.W.Looks M s.heap (typeOf (.ref a)) o.cls from (PySem.W.Looks.ld ho).andThen .now)
    rw [hc] at this
    exact this
  by_cases hall : fs.toArray.all (fun x => x.isSome) = true
  · obtain ⟨gs, rfl⟩ := some_all hall
    refine ⟨PyProof.Rows.tuples' true, fun Q E hq => ?_, fun p q m m' => tupLt_t (Q := fun r s' => s' = s ∧ r = HT.lexLt (k p.1) (k q.1)) (hp _ m) (hp _ m') ⟨rfl, rfl⟩⟩
    rw [List.length_map] at h2
    refine PySem.W.kat_kind (T := .type "int") (kat_of_fst h1) (by omega) (fun f hm => ?_) (by rfl) ?_
    · rcases h3 (some f) (List.mem_map.mpr ⟨f, hm, rfl⟩) with e | ⟨x, t, e⟩
      · cases e
      · cases e
        exact PySem.W.Looks.now
    · have e : (Value.type "int" != Value.type "tuple") = true := by first | decide +kernel | rfl | decide
      rw [e]
      exact hq
  · by_cases hf : (fs.toArray[0]?.bind id).isSome = true
    · refine ⟨general', fun Q E hq => ?_, fun p q m m' => tupLt_g (Q := fun r s' => s' = s ∧ r = HT.lexLt (k p.1) (k q.1)) hu (hp _ m) (hp _ m') ⟨rfl, rfl⟩⟩
      rw [PyProof.Rows.kat_kind_eq, List.mapM_toArray, map_eq_pure_bind]
      refine wpAny_bind (wpAny_bind (firstsO vs _ h1 (wpAny_pure ?_)))
      rw [if_neg hall, if_pos hf]
      exact wpAny_pure hq
    · refine ⟨oneType', fun Q E hq => ?_, fun p q m m' => tupLt_o (Q := fun r s' => s' = s ∧ r = HT.lexLt (k p.1) (k q.1)) hu (hp _ m) (hp _ m') ⟨rfl, rfl⟩⟩
      rw [PyProof.Rows.kat_kind_eq, List.mapM_toArray, map_eq_pure_bind]
      refine wpAny_bind (wpAny_bind (firstsO vs _ h1 (wpAny_pure ?_)))
      rw [if_neg hall, if_neg hf]
      obtain ⟨v₁, rest, rfl⟩ : ∃ v₁ rest, vs = v₁ :: rest := by
        cases vs with
        | nil => exact absurd h0 (Nat.lt_irrefl _)
        | cons v r => exact ⟨v, r, rfl⟩
      rw [oneTypeOnly'_eq, List.mapM_toArray, map_eq_pure_bind]
      refine wpAny_bind (wpAny_bind (wpAny_bind (PySem.W.kas_mapM (r := Value.type "tuple") _ (fun v hv Q' hq' => (tOf v hv _).here hq') (wpAny_pure ?_))))
      have hall2 : ((List.map (fun _ => Value.type "tuple") (v₁ :: rest)).toArray.all fun x => x == Value.type "tuple") = true := by
        simp only [List.all_toArray, List.all_map, List.all_eq_true]
        intro _ _
        rfl
      have e0 : (List.map (fun _ => Value.type "tuple") (v₁ :: rest)).toArray[0]? = some (Value.type "tuple") := by simp
      rw [e0]
      simp only [hall2, if_true]
      exact wpAny_pure (wpAny_pure hq)
theorem ints_sortableO {a : Addr} {vs : List Value} {k : Value → List Int} (h0 : 0 < vs.length) (hu : A.units < cLine) (hp : ∀ v ∈ vs, IsInts s.heap v (k v)) (ha : ∀ o, s.heap.get? a = some o → o.cls ≠ .type "tuple") : SrtO.SortableO prog w A s a vs fun v u => HT.lexLt (k v) (k u) := by
  intro h' keep
  exact ints_kind (s := { s with heap := h' }) h0 hu fun v hm => (hp v hm).keeps fun b o e c => keep b o (fun z => by subst z; exact ha o e c) e
theorem sorted_ints {l : Addr} {vs : List Value} {k : Value → List Int} {Q : Value → Shared → Prop} (hu : A.units + 64 < cLine) (hl : s.heap.IsList l vs.toArray) (hz : vs.length ≤ sizeLine) (hp : ∀ v ∈ vs, IsInts s.heap v (k v))
    (h : ∀ (h' : Heap) (d : Addr) (out : List Value), SrtO.Srtd (fun v u => HT.lexLt (k v) (k u)) out → SrtO.Stb (fun v u => HT.lexLt (k v) (k u)) out vs → (∀ b o, s.heap.get? b = some o → h'.get? b = some o) → s.heap.objs.size ≤ d → (∃ n, h'.get? d = some (seqObj "list" out.toArray n)) → Q (.ref d) { s with heap := h' }) :
    wpAny (model prog w) A (call (.builtin "sorted") [.ref l]) Q E s := by
  refine SrtO.sorted_ord (swoL k) hl hz (fun h2 h₁ a ha kk => ?_) fun out hs hb => ?_
  · refine ints_sortableO (s := { s with heap := h₁ }) (by omega) ?_ (fun v hm => (hp v hm).keeps fun b o e _ => (kk b o e).2) fun o e => ?_
    · first | omega | exact Nat.lt_of_le_of_lt (Nat.le_add_right _ _) hu | (show _ < cLine; simp [Around.in1]; omega)
    have e' : some o = some (seqObj "list" vs.toArray 0) := e.symm.trans ha
    cases e'
    intro c
    exact absurd (Value.type.inj c) (by decide)
  · exact h _ _ out hs hb (fun b o e => sortedAll_old e) (Nat.le_succ _) (sortedAll_at s.heap vs out.toArray)
end
/-- sorted(xs), xs a list of tuples of whole numbers (k says which): a new list, sorted, equal ones in their order -/
def rSortedL (K : PySem.W.Frag) : List V → Hp → VK → Prop := fun vs H Q => ∃ (a : Addr) (xs : List V) (k : V → List Int), vs = [V.ref a] ∧ SqL K H a xs ∧ (∀ x ∈ xs, ∃ t, x = V.ref t ∧ H t = some (.tup ((k x).map V.int))) ∧
  ∀ ys p, SrtO.Srtd (fun x y => HT.lexLt (k x) (k y)) ys → SrtO.Stb (fun x y => HT.lexLt (k x) (k y)) ys xs → H p = none → Q (.ref p) (upd H p (.lst ys))
theorem ints_vals : ∀ {ns : List Int} {its : List Value}, Vals (ns.map V.int) its → IntsAre its ns
  | [], its, r => by cases r; exact .nil
  | n :: ns, its, r => by
    cases r with
    | cons h r =>
      obtain ⟨t, rfl⟩ := h
      exact .cons n t (ints_vals r)
section
variable {X : Cx}
theorem cr_sortedL (hu : X.A.units + 64 < cLine) : CallR X (.builtin "sorted") (rSortedL X.K) := by
  intro pins s σ H vs us Q I r h
  obtain ⟨a, xs, k, rfl, hs, hx, q⟩ := h
  obtain ⟨its, rv, hl, hz⟩ := I.list hs
  obtain ⟨u, rfl, ru⟩ := vals1 r
  obtain rfl : u = Value.ref a := ru
  obtain ⟨e1, e2⟩ := refs_back rv fun x m => by
    obtain ⟨t, e, _⟩ := hx x m
    exact ⟨t, e⟩
  refine sorted_ints (k := fun u => k (backV u)) hu hl.isList (by rw [← rv.length]; exact hz) (fun v hv => ?_) fun h' d out h1 h2 kp hd hn => ?_
  · obtain ⟨t, rfl⟩ := e2 v hv
    have hm : V.ref t ∈ xs := by rw [e1]; exact List.mem_map.mpr ⟨_, hv, rfl⟩
    obtain ⟨t', e, ht⟩ := hx _ hm
    cases e
    obtain ⟨_, its2, r2, o, ho, hc, n, hd⟩ := I.hok _ _ ht
    exact ⟨t, o, _, n, rfl, ho, hc, hd, ints_vals r2⟩
  · have h3 : ∀ u ∈ out, ∃ a, u = Value.ref a := fun u hu => e2 u (h2.perm.mem_iff.mp hu)
    obtain ⟨n, hn⟩ := hn
    have hb : SrtO.Stb (fun x y => HT.lexLt (k x) (k y)) (out.map backV) xs := by
      rw [e1]
      exact SrtO.Stb.map (swoL k) backV h2
    refine ⟨.ref d, upd H d (.lst (out.map backV)), I.laid (t' := s.toks) kp hd ⟨?_, out, n, vals_back h3, hn⟩, rfl, q _ d (SrtO.srtd_map h1) hb (I.hok.fresh hd)⟩
    rw [hb.len]
    exact hz
end
end Fw

set_option maxRecDepth 100000
set_option maxHeartbeats 4000000
/-! sets of tuples within tuples, of whole numbers alone; they are sorted as data -/
namespace Fw
open PySem PySem.Spec PyProof.Rows L2
mutual
/-- a key of whole numbers alone -/
def nmK : NestedKey → Bool
  | .num _ => true
  | .tup ks => nmKs ks
  | _ => false
def nmKs : List NestedKey → Bool
  | [] => true
  | k :: ks => nmK k && nmKs ks
end
structure TupK (h : Heap) (k : NestedKey) (b : Addr) : Prop where
  is : NestedIs h k (.ref b)
  low : k.depth ≤ 8
  num : nmK k = true
theorem TupK.hk {P : Program} {w : World} {h : Heap} {k : NestedKey} {b : Addr} (x : TupK h k b) : (nestedKind P w).is h k b := ⟨x.is, x.low⟩
theorem TupK.mv {h h' : Heap} {k : NestedKey} {b : Addr} (x : TupK h k b) (mv : ∀ c o vs n, h.get? c = some o → o.data = .seq vs n → h'.get? c = some o) : TupK h' k b := ⟨NestedIs.at mv _ _ x.is, x.low, x.num⟩
theorem TupK.ty {h : Heap} {k : NestedKey} {b : Addr} (x : TupK h k b) {s : Shared} (e : s.heap = h) : s.TypeIs (.ref b) "tuple" := by
  subst e
  cases x.is with
  | tup h1 h2 _ _ => exact ⟨_, h1, h2⟩
section
variable {P : Program} {w : World} {A : Around} {E : Value → Shared → Prop} {s : Shared}
theorem noCls : ∀ (n : Nat) (k : NestedKey) (v : Value), NestedIs s.heap k v → k.depth ≤ n → ∀ (A : Around) (E : Value → Shared → Prop) (Q : Bool → Shared → Prop), Q false s → wpAny (model P w) A (ofAClassStatement n v) Q E s
  | n, .none, v, x, _, A, E, Q, q => by cases x; cases n <;> exact wpAny_pure q
  | n, .num i, v, x, _, A, E, Q, q => by cases x <;> cases n <;> exact wpAny_pure q
  | n, .text y, v, x, _, A, E, Q, q => by cases x; cases n <;> exact wpAny_pure q
  | 0, .tup ks, v, x, dn, A, E, Q, q => by simp only [NestedKey.depth] at dn; omega
  | n + 1, .tup ks, v, x, dn, A, E, Q, q => by
    cases x with
    | @tup a o vs m _ g1 g2 g3 g4 =>
      simp only [NestedKey.depth] at dn
      unfold ofAClassStatement
      refine wpAny_bind (wpAny_typeOf (T := "tuple") ⟨o, g1, g2⟩ ?_)
      dsimp only
      rw [if_pos (show (("tuple" : String) == "tuple") = true by decide)]
      refine wpAny_bind (wpAny_pure ?_)
      rw [if_neg (by decide)]
      try refine wpAny_bind (wpAny_pure ?_)
      refine wpAny_bind (wpAny_seqItems g1 g3 ?_)
      refine wpAny_bind ?_
      show wpAny _ _ (forIn vs _ _) _ _ s
      rw [← Array.forIn_toList]
      refine wpAny_forIn_list _ (fun rest r s' => r.1 = none ∧ s' = s ∧ ∃ ls, NestedAll s.heap ls rest ∧ NestedKey.depthAll ls ≤ n) _ ?_ ?_ _ _ ⟨rfl, rfl, ks, g4, by omega⟩
      · rintro v rest r s' ⟨hr, es, ls, la, ld⟩
        rw [es]
        cases la with
        | @cons l _ ls' _ la1 la2 =>
          simp only [NestedKey.depthAll] at ld
          refine wpAny_bind (noCls n l v la1 (by omega) _ _ _ ?_)
          rw [if_neg (by decide)]
          exact wpAny_pure ⟨rfl, rfl, ls', la2, by omega⟩
      · rintro ⟨r1, r2⟩ s' ⟨hr, rfl, _⟩
        simp only at hr
        subst hr
        exact wpAny_pure q
theorem byVal : ∀ (n : Nat) (k : NestedKey) (v : Value), NestedIs s.heap k v → nmK k = true → k.depth ≤ n → ∀ (A : Around) (E : Value → Shared → Prop) (Q : Bool → Shared → Prop), Q true s → wpAny (model P w) A (hashByValue n v) Q E s
  | n, .none, v, x, y, _, A, E, Q, q => by cases y
  | n, .num i, v, x, _, _, A, E, Q, q => by cases x <;> cases n <;> exact wpAny_pure q
  | n, .text y, v, x, z, _, A, E, Q, q => by cases z
  | 0, .tup ks, v, x, y, dn, A, E, Q, q => by simp only [NestedKey.depth] at dn; omega
  | n + 1, .tup ks, v, x, y, dn, A, E, Q, q => by
    cases x with
    | @tup a o vs m _ g1 g2 g3 g4 =>
      simp only [NestedKey.depth] at dn
      simp only [nmK] at y
      unfold hashByValue
      refine wpAny_bind (wpAny_specialOf (T := "tuple") ⟨o, g1, g2⟩ F.slot_tuple_hash.lookup ?_)
      dsimp only
      refine wpAny_bind (wpAny_seqItems g1 g3 ?_)
      refine wpAny_bind ?_
      show wpAny _ _ (forIn vs _ _) _ _ s
      rw [← Array.forIn_toList]
      refine wpAny_forIn_list _ (fun rest r s' => r.1 = none ∧ s' = s ∧ ∃ ls, NestedAll s.heap ls rest ∧ nmKs ls = true ∧ NestedKey.depthAll ls ≤ n) _ ?_ ?_ _ _ ⟨rfl, rfl, ks, g4, y, by omega⟩
      · rintro v rest r s' ⟨hr, es, ls, la, lm, ld⟩
        rw [es]
        cases la with
        | @cons l _ ls' _ la1 la2 =>
          simp only [NestedKey.depthAll] at ld
          simp only [nmKs, Bool.and_eq_true] at lm
          refine wpAny_bind (byVal n l v la1 lm.1 (by omega) _ _ _ ?_)
          rw [if_neg (by decide)]
          exact wpAny_pure ⟨rfl, rfl, ls', la2, lm.2, by omega⟩
      · rintro ⟨r1, r2⟩ s' ⟨hr, rfl, _⟩
        simp only at hr
        subst hr
        exact wpAny_pure q
/-- a search among such tuples shows nothing -/
theorem unseen {k : NestedKey} {b : Addr} {Q : Bool → Shared → Prop} (hk : TupK s.heap k b) (ys : List Value) (hy : ∀ y ∈ ys, ∃ j c, y = Value.ref c ∧ TupK s.heap j c) (q : Q false s) : wpAny (model P w) A (searchCouldBeSeen (.ref b) ys) Q E s := by
  unfold searchCouldBeSeen
  refine wpAny_bind (wpAny_forIn_list _ (fun rest r s' => r.1 = none ∧ s' = s ∧ ∀ y ∈ rest, ∃ j c, y = Value.ref c ∧ TupK s.heap j c) _ ?_ ?_ _ _ ⟨rfl, rfl, hy⟩)
  · rintro v rest r s' ⟨hr, rfl, all⟩
    obtain ⟨j, c, rfl, hc⟩ := all v List.mem_cons_self
    have on : ∀ y ∈ rest, ∃ j c, y = Value.ref c ∧ TupK s'.heap j c := fun u hu => all u (List.mem_cons_of_mem _ hu)
    dsimp only
    split
    · exact wpAny_pure ⟨rfl, rfl, on⟩
    · refine wpAny_bind ((nestedKind P w).quiet hk.hk ?_)
      rw [if_neg (by decide)]
      try refine wpAny_bind (wpAny_pure ?_)
      refine wpAny_bind ((nestedKind P w).quiet hc.hk ?_)
      rw [if_neg (by decide)]
      try refine wpAny_bind (wpAny_pure ?_)
      refine wpAny_bind (noCls 8 _ _ hk.is hk.low _ _ _ ?_)
      rw [if_neg (by decide)]
      try refine wpAny_bind (wpAny_pure ?_)
      refine wpAny_bind (noCls 8 _ _ hc.is hc.low _ _ _ ?_)
      rw [if_neg (by decide)]
      try refine wpAny_bind (wpAny_pure ?_)
      exact wpAny_pure ⟨rfl, rfl, on⟩
  · rintro ⟨r1, r2⟩ s' ⟨hr, rfl, _⟩
    simp only at hr
    subst hr
    exact wpAny_pure q
/-! ### the table -/
abbrev prAt (m : Nat) (h : Int) (c : Nat) : SetTable.Probe := nth m (runAt m (SetTable.bits h % (m + 1)) (SetTable.bits h)) c
theorem pr_more (m : Nat) (h : Int) (c q : Nat) : nth m (prAt m h c) q = prAt m h (c + q) := (nth_add m c _ q).symm
theorem nth_dummy (m : Nat) : ∀ (n : Nat) (p : SetTable.Probe), p.dummy = none → (nth m p n).dummy = none
  | 0, _, e => e
  | n + 1, p, e => nth_dummy m n (adv m p) (by unfold adv; split <;> exact e)
/-- what a probe tells, from the c-th step of the way on -/
theorem probe_tells {t : SetTable} {hs : List Int} (T : TabOk t hs) {ha : Nat → Int} (hha : ∀ i x, hs[i]? = some x → ha i = x) {h : Int} {K c : Nat} (hc : c ≤ K) (hK : K < 10 * SetTable.turns t.mask)
    (out : way t.mask h K ∉ t.place.toList) (ins : ∀ j, j < K → way t.mask h j ∈ t.place.toList) :
    (∃ q i, c ≤ q ∧ q < K ∧ t.place.toList[i]? = some (way t.mask h q) ∧ hs[i]? = some h ∧ (∀ (q' i' : Nat), c ≤ q' → q' < q → t.place.toList[i']? = some (way t.mask h q') → hs[i']? ≠ some h) ∧
      t.probe ha h (prAt t.mask h c) = some (.candidate (way t.mask h q) i (prAt t.mask h (q + 1)))) ∨
    ((∀ (q' i' : Nat), c ≤ q' → q' < K → t.place.toList[i']? = some (way t.mask h q') → hs[i']? ≠ some h) ∧ t.probe ha h (prAt t.mask h c) = some (.empty (way t.mask h K) none)) := by
  have wy : ∀ q, (nth t.mask (prAt t.mask h c) q).j = way t.mask h (c + q) := fun q => congrArg SetTable.Probe.j (pr_more t.mask h c q)
  have G := go_spec t T.ris T.dm ha h (10 * SetTable.turns t.mask) (K - c) (prAt t.mask h c) (nth_dummy _ _ _ rfl) (by omega) (fun q hq => by rw [wy]; exact ins _ (by omega)) (by rw [wy, show c + (K - c) = K by omega]; exact out)
  have ix : ∀ {i : Nat} {j : Nat}, t.place.toList[i]? = some j → ∃ x, hs[i]? = some x ∧ ha i = x := fun {i j} e => by
    have l : i < hs.length := by
      have := (List.getElem?_eq_some_iff.mp e).1
      rw [Array.length_toList, T.sz] at this
      exact this
    exact ⟨hs[i], List.getElem?_eq_getElem l, hha i _ (List.getElem?_eq_getElem l)⟩
  rcases G with ⟨q, i, g1, g2, g3, g4, g5⟩ | ⟨g1, g2⟩
  · rw [wy] at g2
    refine .inl ⟨c + q, i, by omega, by omega, g2, ?_, fun q' i' a1 a2 a3 a4 => ?_, ?_⟩
    · obtain ⟨x, e1, e2⟩ := ix g2
      rw [e1, ← e2, g3]
    · refine g4 (q' - c) i' (by omega) (by rw [wy, show c + (q' - c) = q' by omega]; exact a3) (hha i' _ a4)
    · have z := g5
      rw [wy, pr_more] at z
      exact z
  · refine .inr ⟨fun q' i' a1 a2 a3 a4 => g1 (q' - c) i' (by omega) (by rw [wy, show c + (q' - c) = q' by omega]; exact a3) (hha i' _ a4), ?_⟩
    have z := g2
    rw [wy, show c + (K - c) = K by omega] at z
    exact z
abbrev EN := Addr × NestedKey
abbrev hN (w : World) (e : EN) : Int := NestedKey.hash w e.2
def rwN (w : World) (L : List EN) : List (Int × Value) := L.map fun e => (hN w e, Value.ref e.1)
theorem rwN_len {L : List EN} {es : Array (Int × Value)} (e : es.toList = rwN w L) : es.size = L.length := by
  rw [← Array.length_toList, e]
  exact List.length_map ..
theorem rwN_at {L : List EN} {es : Array (Int × Value)} (e : es.toList = rwN w L) {i : Nat} {x : EN} (h : L[i]? = some x) : es[i]? = some (hN w x, Value.ref x.1) := by
  have : es.toList[i]? = some (hN w x, Value.ref x.1) := by
    rw [e]
    show (L.map _)[i]? = _
    rw [List.getElem?_map, h]
    rfl
  rwa [Array.getElem?_toList] at this
/-- the set's object at a: its entries are those of L, its table finds them -/
structure SetN1 (w : World) (h : Heap) (a : Addr) (L : List EN) (es : Array (Int × Value)) (ep : Nat) (t : SetTable) : Prop where
  ob : ∃ o, h.get? a = some o ∧ o.ExactSet ∧ o.data = .set es ep t
  en : es.toList = rwN w L
  tb : TabOk t (L.map (hN w))
  nd : (L.map (·.2)).Nodup
  pl : t.plain = true
  ld : w.params.followText "set-order" = true ∨ t.led = true
  rm : L.length * 5 < t.mask * 3
  fw : L.length < 77
def TupL (h : Heap) (L : List EN) : Prop := ∀ e ∈ L, TupK h e.2 e.1
theorem fits_of {t : SetTable} {hs : List Int} (T : TabOk t hs) {n : Nat} (e : n = hs.length) (l : n ≤ t.mask) : t.fits n = true := by
  have := T.sz
  unfold SetTable.fits SetTable.fill
  rw [T.dm, Bool.and_eq_true, beq_iff_eq, decide_eq_true_eq]
  show t.place.size = n ∧ t.place.size + 0 ≤ t.mask
  omega
variable {a : Addr} {L : List EN} {es : Array (Int × Value)} {ep : Nat} {t : SetTable}
theorem SetN1.fits {h : Heap} (R : SetN1 w h a L es ep t) : t.fits es.size = true := by
  have := R.rm
  exact fits_of R.tb (by rw [rwN_len R.en, List.length_map]) (by rw [rwN_len R.en]; omega)
theorem odd_no {t : SetTable} (m : MaskOk t.mask) : ¬ t.gaveWay = true := by
  unfold SetTable.gaveWay
  rw [mask_odd m]
  decide
theorem look {k : NestedKey} {x : Addr} (R : SetN1 w s.heap a L es ep t) (TL : TupL s.heap L) (hx : TupK s.heap k x) (hu : A.units + 8 < cLine) {K : Nat} (hKf : K < 10 * SetTable.turns t.mask)
    (out : way t.mask (k.hash w) K ∉ t.place.toList) (ins : ∀ j, j < K → way t.mask (k.hash w) j ∈ t.place.toList) {Q : SetFound → Shared → Prop}
    (yes : k ∈ L.map (·.2) → Q (.there none) s) (no : k ∉ L.map (·.2) → Q (.free (way t.mask (k.hash w) K) false) s) :
    ∀ (f c : Nat) (st : Option SetTable.Probe), st.getD (t.probeStart (k.hash w)) = prAt t.mask (k.hash w) c → c ≤ K → K - c < f →
      (∀ (i : Nat) (e : EN), L[i]? = some e → e.2 = k → ∃ q, c ≤ q ∧ q < K ∧ t.place.toList[i]? = some (way t.mask (k.hash w) q)) →
      wpAny (model P w) A (setSearchFrom a (.ref x) (k.hash w) true f st) Q E s
  | 0, _, _, _, _, z, _ => absurd z (Nat.not_lt_zero _)
  | f + 1, c, st, est, hc, hf, left => by
    obtain ⟨o, ho, hex, hd⟩ := R.ob
    have fit := R.fits
    rw [setSearchFrom_succ]
    refine wpAny_bind (wpAny_setState_of ho hd fit ?_)
    dsimp only
    refine wp_if_neg (odd_no R.tb.mok) ?_
    try refine wpAny_bind (wpAny_pure ?_)
    have at_ : ∀ {i : Nat} {y : Int}, (L.map (hN w))[i]? = some y → ∃ e, L[i]? = some e ∧ hN w e = y := fun {i y} e => by
      rw [List.getElem?_map] at e
      obtain ⟨z, z1, z2⟩ := Option.map_eq_some_iff.mp e
      exact ⟨z, z1, z2⟩
    have hha : ∀ (i : Nat) (y : Int), (L.map (hN w))[i]? = some y → (fun i : Nat => (es[i]?.map (fun z : Int × Value => z.1)).getD 0) i = y := fun i y e => by
      obtain ⟨z, z1, z2⟩ := at_ e
      show (es[i]?.map (fun z : Int × Value => z.1)).getD 0 = y
      rw [rwN_at R.en z1, ← z2]
      rfl
    rw [est]
    rcases probe_tells R.tb hha hc hKf out ins with ⟨q, i, q1, q2, q3, q4, q5, q6⟩ | ⟨q1, q2⟩
    · rw [q6]
      dsimp only
      obtain ⟨e, ei, eh⟩ := at_ q4
      have em := List.mem_of_getElem? ei
      have rest : wpAny (model P w) A (searchRest a (.ref x) (k.hash w) true f es t (way t.mask (k.hash w) q) i (prAt t.mask (k.hash w) (q + 1))) Q E s := by
        unfold searchRest
        rw [rwN_at R.en ei]
        dsimp only
        refine wpAny_bind (wpAny_holding ((nestedKind P w).eqBool hu (TL e em).hk hx.hk ?_))
        refine wpAny_bind (wpAny_setState_of ho hd fit ?_)
        dsimp only
        by_cases same : e.2 = k
        · exact wp_if_pos (by simp [same]) (wpAny_pure (yes (List.mem_map.mpr ⟨e, em, same⟩)))
        · refine wp_if_neg (by simp [same]) ?_
          try refine wpAny_bind (wpAny_pure ?_)
          rw [sameMem]
          dsimp only
          have live : t.slot (way t.mask (k.hash w) q) = .live i := slot_live R.tb.ris q3
          simp only [if_true, live, rwN_at R.en ei]
          refine wpAny_bind (wpAny_isSame_ref_self (wpAny_bind (wpAny_pure ?_)))
          simp only [if_true]
          refine wp_if_neg (by simp [same]) ?_
          refine look R TL hx hu hKf out ins yes no f (q + 1) _ rfl (by omega) (by omega) fun i0 e0 h0 h1 => ?_
          obtain ⟨p, p1, p2, p3⟩ := left i0 e0 h0 h1
          refine ⟨p, Classical.byContradiction fun low => ?_, p2, p3⟩
          rcases Nat.lt_or_ge p q with z | z
          · exact q5 p i0 p1 z p3 (by rw [List.getElem?_map, h0, ← h1]; rfl)
          · obtain rfl : p = q := by omega
            have l2 := slot_live R.tb.ris p3
            rw [live] at l2
            injection l2 with l2
            rw [← l2, ei] at h0
            cases h0
            exact same h1
      by_cases hl : t.led = true
      · refine wp_if_neg (by simp [hl]) ?_
        try refine wpAny_bind (wpAny_pure ?_)
        exact rest
      · refine wp_if_pos (by simp [hl]) ?_
        refine wpAny_bind (unseen hx _ (fun y hy => ?_) ?_)
        · obtain ⟨u, hu1, rfl⟩ := List.mem_map.mp hy
          have hu2 : u ∈ es.toList := by
            have : u ∈ es ∧ u.1 = k.hash w := by simpa using hu1
            simpa using this.1
          rw [R.en] at hu2
          obtain ⟨e2, m2, rfl⟩ := List.mem_map.mp hu2
          exact ⟨e2.2, e2.1, rfl, TL e2 m2⟩
        · refine wp_if_neg (by decide) ?_
          try refine wpAny_bind (wpAny_pure ?_)
          exact rest
    · rw [q2]
      dsimp only
      refine wpAny_pure (no fun hm => ?_)
      obtain ⟨e0, m0, h1⟩ := List.mem_map.mp hm
      obtain ⟨i0, l0, g0⟩ := List.getElem_of_mem m0
      have h0 : L[i0]? = some e0 := by rw [List.getElem?_eq_getElem l0, g0]
      obtain ⟨p, p1, p2, p3⟩ := left i0 e0 h0 h1
      exact q1 p i0 p1 p2 p3 (by rw [List.getElem?_map, h0, ← h1]; rfl)
theorem look_at {k : NestedKey} {x : Addr} (R : SetN1 w s.heap a L es ep t) (TL : TupL s.heap L) (hx : TupK s.heap k x) (hu : A.units + 8 < cLine) {Q : SetFound → Shared → Prop} (yes : k ∈ L.map (·.2) → Q (.there none) s)
    (no : ∀ K, k ∉ L.map (·.2) → way t.mask (k.hash w) K ∉ t.place.toList → (∀ j, j < K → way t.mask (k.hash w) j ∈ t.place.toList) → Q (.free (way t.mask (k.hash w) K) false) s) :
    wpAny (model P w) A (setSearch a (.ref x) (k.hash w) true) Q E s := by
  obtain ⟨K, hKf, out, ins⟩ := R.tb.first (by have := R.rm; rw [List.length_map]; omega) (k.hash w)
  have few : 10 * SetTable.turns t.mask ≤ 1420 := by
    unfold SetTable.turns
    rcases R.tb.mok with e | e | e <;> omega
  unfold setSearch
  refine look R TL hx hu hKf out ins yes (fun n => no K n out ins) 100000 0 none rfl (Nat.zero_le _) (by omega) fun i e ei ek => ?_
  have hi : (L.map (hN w))[i]? = some (k.hash w) := by rw [List.getElem?_map, ei, ← ek]; rfl
  have li : i < t.place.toList.length := by
    have l1 := (List.getElem?_eq_some_iff.mp hi).1
    have := R.tb.sz
    rw [Array.length_toList]
    omega
  obtain ⟨q, q1, q2⟩ := R.tb.before out hi (List.getElem?_eq_getElem li)
  exact ⟨q, Nat.zero_le _, q1, by rw [q2]; exact List.getElem?_eq_getElem li⟩
end
end Fw

set_option maxRecDepth 100000
set_option maxHeartbeats 4000000
/-! sets of tuples within tuples: putting in, set(xs), sorted(set) -/
namespace Fw
open PySem PySem.Spec PyProof.Rows L2
theorem fm_congr {α β : Type} {f g : α → Option β} : ∀ {l : List α}, (∀ x ∈ l, f x = g x) → l.filterMap f = l.filterMap g
  | [], _ => rfl
  | x :: l, h => by rw [List.filterMap_cons, List.filterMap_cons, h x List.mem_cons_self, fm_congr fun y hy => h y (List.mem_cons_of_mem _ hy)]
theorem range_items {α : Type} (L : List α) : (List.range L.length).filterMap (fun i => L[i]?) = L := by
  have key : ∀ n, n ≤ L.length → (List.range n).filterMap (fun i => L[i]?) = L.take n := fun n => by
    induction n with
    | zero => intro _; rfl
    | succ n ih =>
      intro l
      rw [List.range_succ, List.filterMap_append, ih (by omega), List.take_add_one]
      congr 1
  rw [key _ (Nat.le_refl _), List.take_length]
theorem lay_rows {w : World} {L : List EN} {es : Array (Int × Value)} (e : es.toList = rwN w L) {ord : Array Nat} (p : ord.toList.Perm (List.range L.length)) :
    ∃ L2, (ord.filterMap (es[·]?)).toList = rwN w L2 ∧ L2.Perm L ∧ L2.map (hN w) = ord.toList.map fun i => (es.map (·.1)).getD i 0 := by
  have row : ∀ i : Nat, es[i]? = (L[i]?).map fun x => (hN w x, Value.ref x.1) := fun i => by
    have : es.toList[i]? = (L[i]?).map fun x => (hN w x, Value.ref x.1) := by
      rw [e]
      exact List.getElem?_map ..
    rwa [Array.getElem?_toList] at this
  refine ⟨ord.toList.filterMap fun i => L[i]?, ?_, ?_, ?_⟩
  · rw [Array.toList_filterMap]
    unfold rwN
    rw [List.map_filterMap]
    exact fm_congr fun i _ => row i
  · have := p.filterMap fun i => L[i]?
    rwa [range_items] at this
  · rw [List.map_filterMap, ← List.filterMap_eq_map]
    refine fm_congr fun i hi => ?_
    have il : i < L.length := List.mem_range.mp (p.mem_iff.mp hi)
    have s : (es.map (·.1))[i]? = some (hN w L[i]) := by
      rw [Array.getElem?_map, row, List.getElem?_eq_getElem il]
      rfl
    rw [List.getElem?_eq_getElem il]
    show some (hN w L[i]) = some ((es.map (·.1)).getD i 0)
    congr 1
    simp [Array.getD_eq_getD_getElem?, s]
section
variable {P : Program} {w : World} {A : Around} {E : Value → Shared → Prop} {s : Shared} {a : Addr} {L : List EN} {es : Array (Int × Value)} {ep : Nat} {t : SetTable}
/-- a tuple is not the set, so it stays -/
theorem TupK.stay {h h' : Heap} {k : NestedKey} {b : Addr} {o : Obj} (x : TupK h k b) (ho : h.get? a = some o) (hd : o.data = .set es ep t) (sb : Heap.SameBut a h h') : TupK h' k b :=
  x.mv fun c u vs n hc hv => (sb.2 c fun e => by
    subst e
    rw [ho] at hc
    cases hc
    rw [hd] at hv
    cases hv).trans hc
/-- the table laid anew, with more room -/
theorem wider {o : Obj} (ho : s.heap.get? a = some o) (hex : o.ExactSet) (hd : o.data = .set es ep t) (en : es.toList = rwN w L) (tb : TabOk t (L.map (hN w))) (lt : L.length ≤ t.mask) (nd : (L.map (·.2)).Nodup) (pl : t.plain = true)
    (ld : w.params.followText "set-order" = true ∨ t.led = true) (fw : L.length < 77) {wanted M : Nat} (hw : SetTable.sizeAbove wanted - 1 = M) (hM : MaskOk M) (h128 : SetTable.sizeAbove wanted ≤ 128) (rm : L.length * 5 < M * 3) {Q : Unit → Shared → Prop}
    (q : ∀ h' L' es' ep' t', Heap.SameBut a s.heap h' → SetN1 w h' a L' es' ep' t' → L'.Perm L → Q () { s with heap := h' }) : wpAny (model P w) A (setRelay a wanted) Q E s := by
  have sz := rwN_len en
  obtain ⟨t', ord, e1, p1, T', m1, l1, pl1, d1⟩ := relaid_ok t (hs := es.map (·.1)) (wanted := wanted) hw hM (by rw [Array.size_map, sz]; omega)
  rw [Array.size_map, sz] at p1
  obtain ⟨L2, r1, r2, r3⟩ := lay_rows en p1
  rw [← r3] at T'
  have sz2 : (ord.filterMap (es[·]?)).size = es.size := by rw [rwN_len r1, r2.length_eq, sz]
  rw [setRelay_eq]
  refine wpAny_bind (wpAny_setState_of ho hd (fits_of tb (by rw [sz, List.length_map]) (by rw [sz]; exact lt)) ?_)
  dsimp only
  refine wp_if_neg (by rw [sizeLine_eq]; omega) ?_
  try refine wpAny_bind (wpAny_pure ?_)
  rw [e1]
  dsimp only
  refine wpAny_bind (wp_if_neg (by rw [sz2]; simp) ?_)
  try refine wpAny_bind (wpAny_pure ?_)
  refine wpAny_pure ?_
  dsimp only
  refine wpAny_storeSet_of ho hd (q _ L2 _ (ep + 1) t' (Heap.SameBut.update ..) ⟨⟨_, store_at ho hd, ⟨hex.1, hex.2.1, hex.2.2⟩, rfl⟩, r1, T', (r2.map (·.2)).nodup_iff.mpr nd, by rw [pl1]; exact pl, by rw [l1]; exact ld, by rw [r2.length_eq, m1]; exact rm, by rw [r2.length_eq]; exact fw⟩ r2) (by rw [sz2, sz, sizeLine_eq]; omega)
/-- a tuple is put in -/
theorem putIn {k : NestedKey} {x : Addr} (R : SetN1 w s.heap a L es ep t) (TL : TupL s.heap L) (hx : TupK s.heap k x) (hu : A.units + 8 < cLine) (few : L.length + 1 < 77) {Q : Bool → Shared → Prop}
    (q : ∀ b h' L' es' ep' t', Heap.SameBut a s.heap h' → SetN1 w h' a L' es' ep' t' → (k ∈ L.map (·.2) → L' = L) → (k ∉ L.map (·.2) → L'.Perm ((x, k) :: L)) → Q b { s with heap := h' }) :
    wpAny (model P w) A (setAddHashed a (.ref x) (k.hash w)) Q E s := by
  obtain ⟨o, ho, hex, hd⟩ := R.ob
  have sz := rwN_len R.en
  have rm := R.rm
  unfold setAddHashed
  refine wpAny_holding ?_
  rw [show (100000 : Nat) = 99999 + 1 from rfl, setAddHashedIn_succ]
  refine wpAny_bind (wpAny_setState_of ho hd R.fits ?_)
  dsimp only
  refine wp_if_neg (by simp [byScan, Value.scannable]) ?_
  try refine wpAny_bind (wpAny_pure ?_)
  refine wpAny_bind (look_at R TL hx hu (fun m => wpAny_pure (q false s.heap L es ep t (Heap.SameBut.refl a s.heap) R (fun _ => rfl) fun z => absurd m z)) fun K nm out ins => ?_)
  dsimp only
  refine wpAny_bind (wpAny_setState_of ho hd R.fits ?_)
  dsimp only
  obtain ⟨c1, c2, T1, c4, c5, c6, c7, c8, c9⟩ := R.tb.put out ins
  have p1 : (t.put (way t.mask (k.hash w) K)).1.plain = true := by rw [c6]; exact R.pl
  generalize t.put (way t.mask (k.hash w) K) = tp at c1 T1 c4 c5 c6 c7 c8 c9 p1 ⊢
  obtain ⟨t1, p⟩ := tp
  dsimp only at c1 T1 c4 c5 c6 c7 c8 c9 p1 ⊢
  subst c1
  generalize SetTable.below t.place (way t.mask (k.hash w) K) = p at c2 T1 ⊢
  first
    | refine wpAny_bind (wp_if_pos p1 (byVal 8 _ _ hx.is hx.num hx.low _ _ _ ?_))
    | refine wp_if_pos p1 (wpAny_bind (byVal 8 _ _ hx.is hx.num hx.low _ _ _ ?_))
  simp only [if_true]
  have pm : (L.take p ++ (x, k) :: L.drop p).Perm ((x, k) :: L) := by
    have := List.perm_middle (a := (x, k)) (l₁ := L.take p) (l₂ := L.drop p)
    rwa [List.take_append_drop] at this
  have en1 : (SetTable.insertAt es p (k.hash w, Value.ref x)).toList = rwN w (L.take p ++ (x, k) :: L.drop p) := by
    rw [SetTable.toList_insertAt, R.en]
    unfold rwN
    rw [List.map_append, List.map_cons, List.map_take, List.map_drop]
  have hs1 : (L.map (hN w)).take p ++ k.hash w :: (L.map (hN w)).drop p = (L.take p ++ (x, k) :: L.drop p).map (hN w) := by rw [List.map_append, List.map_cons, List.map_take, List.map_drop]
  rw [hs1] at T1
  generalize SetTable.insertAt es p (k.hash w, Value.ref x) = es1 at en1 ⊢
  generalize L.take p ++ (x, k) :: L.drop p = L1 at pm en1 T1
  have len1 : L1.length = L.length + 1 := pm.length_eq
  have sz1 := rwN_len en1
  have nd1 : (L1.map (·.2)).Nodup := (pm.map (·.2)).nodup_iff.mpr (List.nodup_cons.mpr ⟨nm, R.nd⟩)
  refine wpAny_bind (wpAny_storeSet_of ho hd ?_ (by rw [sz1, len1, sizeLine_eq]; omega))
  have sb : Heap.SameBut a s.heap (s.heap.update a (Obj.putSet es1 t1)) := Heap.SameBut.update ..
  have ho1 := store_at (es' := es1) (t' := t1) ho hd
  generalize s.heap.update a (Obj.putSet es1 t1) = h1 at sb ho1 ⊢
  have ld1 : w.params.followText "set-order" = true ∨ t1.led = true := by rw [c5]; exact R.ld
  have full : t1.tooFull = true ↔ (L.length + 1) * 5 ≥ t1.mask * 3 := by
    unfold SetTable.tooFull
    rw [decide_eq_true_eq, c9, List.length_map]
  by_cases hf : t1.tooFull = true
  · have big := full.mp hf
    first
      | (refine wpAny_bind ?_; refine wp_if_pos (by simp [hf]) ?_)
      | (refine wp_if_pos (by simp [hf]) ?_; refine wpAny_bind ?_)
    have two : (t.mask = 7 ∧ L.length = 4) ∨ (t.mask = 31 ∧ L.length = 18) := by
      rw [c4] at big
      rcases R.tb.mok with e | e | e <;> rw [e] at big rm
      · exact .inl ⟨e, by omega⟩
      · exact .inr ⟨e, by omega⟩
      · omega
    rw [sz]
    have lay : ∀ M, SetTable.sizeAbove (SetTable.grown (L.length + 1)) - 1 = M → MaskOk M → SetTable.sizeAbove (SetTable.grown (L.length + 1)) ≤ 128 → (L.length + 1) * 5 < M * 3 →
        wpAny (model P w) A (setRelay a (SetTable.grown (L.length + 1))) (fun _ s' => wpAny (model P w) A (pure true) Q E s') E { s with heap := h1 } := fun M m1 m2 m3 m4 =>
      wider (s := { s with heap := h1 }) ho1 ⟨hex.1, hex.2.1, hex.2.2⟩ rfl en1 T1 (by rw [len1, c4]; rcases two with ⟨e, e2⟩ | ⟨e, e2⟩ <;> omega) nd1 p1 ld1 (by rw [len1]; exact few) m1 m2 m3 (by rw [len1]; exact m4)
        fun h2 L2 es2 ep2 t2 sb2 R2 pm2 => wpAny_pure (q true h2 L2 es2 ep2 t2 (sb.trans sb2) R2 (fun z => absurd z nm) fun _ => pm2.trans pm)
    rcases two with ⟨_, e2⟩ | ⟨_, e2⟩
    · exact lay 31 (by rw [e2, size_20]) (.inr (.inl rfl)) (by rw [e2, size_20]; decide) (by omega)
    · exact lay 127 (by rw [e2, size_76]) (.inr (.inr rfl)) (by rw [e2, size_76]; decide) (by omega)
  · first
      | refine wp_if_neg (by simp [hf]) ?_
      | (refine wpAny_bind ?_; refine wp_if_neg (by simp [hf]) ?_; refine wpAny_pure ?_)
    refine wpAny_pure (q true h1 L1 es1 (ep + 1) t1 sb ⟨⟨_, ho1, ⟨hex.1, hex.2.1, hex.2.2⟩, rfl⟩, en1, T1, nd1, p1, ld1, ?_, by rw [len1]; exact few⟩ (fun z => absurd z nm) fun _ => pm)
    have : ¬ ((L.length + 1) * 5 ≥ t1.mask * 3) := fun c => hf (full.mpr c)
    rw [len1]
    omega
/-! ### set(xs) -/
/-- what the set has of the first i items -/
structure HasGot (ks : List EN) (i : Nat) (L : List EN) : Prop where
  sub : ∀ e ∈ L, e ∈ ks.take i
  all : ∀ e ∈ ks.take i, e.2 ∈ L.map (·.2)
  len : L.length ≤ i
theorem HasGot.next {ks L L' : List EN} {i : Nat} {x : EN} (g : HasGot ks i L) (h : ks[i]? = some x) (c1 : x.2 ∈ L.map (·.2) → L' = L) (c2 : x.2 ∉ L.map (·.2) → L'.Perm ((x.1, x.2) :: L)) : HasGot ks (i + 1) L' := by
  have nx : ks.take (i + 1) = ks.take i ++ [x] := by rw [List.take_add_one, h]; rfl
  by_cases c : x.2 ∈ L.map (·.2)
  · rw [c1 c]
    refine ⟨fun e he => by rw [nx]; exact List.mem_append_left _ (g.sub e he), fun e he => ?_, Nat.le_succ_of_le g.len⟩
    rw [nx] at he
    rcases List.mem_append.mp he with z | z
    · exact g.all e z
    · rw [List.mem_singleton.mp z]; exact c
  · have pm := c2 c
    refine ⟨fun e he => ?_, fun e he => ?_, by rw [pm.length_eq, List.length_cons]; exact Nat.succ_le_succ g.len⟩
    · rw [nx]
      rcases List.mem_cons.mp (pm.mem_iff.mp he) with z | z
      · rw [z]; exact List.mem_append_right _ (List.mem_singleton.mpr rfl)
      · exact List.mem_append_left _ (g.sub e z)
    · rw [(pm.map (·.2)).mem_iff, List.map_cons]
      rw [nx] at he
      rcases List.mem_append.mp he with z | z
      · exact List.mem_cons_of_mem _ (g.all e z)
      · rw [List.mem_singleton.mp z]; exact List.mem_cons_self
theorem SetN1.keep {h h' : Heap} (R : SetN1 w h a L es ep t) (ha : ∀ o, h.get? a = some o → h'.get? a = some o) : SetN1 w h' a L es ep t := by
  obtain ⟨o, ho, r⟩ := R.ob
  exact ⟨⟨o, ha o ho, r⟩, R.en, R.tb, R.nd, R.pl, R.ld, R.rm, R.fw⟩
theorem setN1_new {h : Heap} {b : Addr} (ho : h.get? b = some (freshSet w)) : SetN1 w h b [] #[] 0 (.fresh 0 0 (!w.params.followText "set-order")) := by
  have T : TabOk (.fresh 0 0 (!w.params.followText "set-order")) [] := ⟨List.Pairwise.nil, rfl, rfl, .inl rfl, (fun x hx => by cases hx), fun i y j hi => by simp at hi⟩
  refine ⟨⟨_, ho, ⟨rfl, rfl, rfl⟩, rfl⟩, rfl, T, List.nodup_nil, rfl, ?_, (by show 0 * 5 < 7 * 3; decide), by show 0 < 77; decide⟩
  show _ ∨ (!w.params.followText "set-order") = true
  cases w.params.followText "set-order" <;> simp
/-- the loop of set.update -/
theorem fillN {I : Addr} {fp wr : List Addr} {G : Array GenState → Array GenState → Prop} {n : Nat} {Pv : Nat → Value → Prop} {St : Nat → Shared → Prop} {R : Result → Shared → Prop}
    (W : WalksS P w A.in1 I fp wr G n Pv St) (S : Addr) (nf : S ∉ fp) (ks : List EN) (hn : n = ks.length) (few : ks.length < 77) (val : ∀ i v, Pv i v → ∃ e, ks[i]? = some e ∧ v = .ref e.1)
    (h0 : Heap) (tk : TupL h0 ks) (S0 : h0.get? S = none) (w0 : ∀ b ∈ wr, h0.get? b = none) (hu : A.units + 1 + 8 < cLine) :
    ∀ (m i : Nat) (s : Shared), n - i = m → i ≤ n → St i s → (∀ b o, h0.get? b = some o → s.heap.get? b = some o) → (∃ L es ep t, SetN1 w s.heap S L es ep t ∧ HasGot ks i L) →
      (∀ s' L es ep t, Moved (S :: wr) G s s' → SetN1 w s'.heap S L es ep t → HasGot ks n L → (∀ b o, h0.get? b = some o → s'.heap.get? b = some o) → R (.ok (.ret .none)) s') →
      codeAny (model P w) A (.builtin "set.update.loop" ⟨[.ref S, .ref I], []⟩) R s := by
  have Sw : S ∉ wr := fun h => nf (W.sub _ h)
  have up : ∀ b ∈ wr, b ∈ S :: wr := fun b hb => List.mem_cons_of_mem _ hb
  have on : ∀ {u v : Shared}, Moved wr G u v → (∀ b o, h0.get? b = some o → u.heap.get? b = some o) → ∀ b o, h0.get? b = some o → v.heap.get? b = some o := fun mv k b o e =>
    mv.heap b o (fun hb => by rw [w0 b hb] at e; cases e) (k b o e)
  have tups : ∀ {h : Heap}, (∀ b o, h0.get? b = some o → h.get? b = some o) → ∀ {e : EN}, e ∈ ks → TupK h e.2 e.1 := fun {h} k {e} he => (tk e he).mv fun c o vs n' hc _ => k c o hc
  intro m
  induction m with
  | zero =>
    intro i s hm hi hst kp ⟨L, es, ep, t, hS, g⟩ hR
    obtain rfl : i = n := by omega
    refine codeAny_builtin F.entry_set_update_loop ?_
    rw [Around.under_plainId F.plain_set_update_loop _]
    show wpAny _ A.in1 (pyNext (.ref I) >>= _) _ _ s
    refine wpAny_bind (W.done s _ _ hst fun s' mv => ?_)
    show wpAny _ A.in1 (ret Value.none) _ _ s'
    exact wpAny_pure (hR s' L es ep t (mv.mono up) (hS.keep fun o e => mv.heap S o Sw e) g (on mv kp))
  | succ m ih =>
    intro i s hm hi hst kp ⟨L, es, ep, t, hS, g⟩ hR
    have lt : i < n := by omega
    refine codeAny_builtin F.entry_set_update_loop ?_
    rw [Around.under_plainId F.plain_set_update_loop _]
    show wpAny _ A.in1 (pyNext (.ref I) >>= _) _ _ s
    refine wpAny_bind (W.item i s _ _ lt hst fun v s' hP hst' mv => ?_)
    obtain ⟨e, he, rfl⟩ := val i v hP
    have kp' := on mv kp
    have TL' : TupL s'.heap L := fun x hx => tups kp' (List.mem_of_mem_take (g.sub x hx))
    have hS' : SetN1 w s'.heap S L es ep t := hS.keep fun o z => mv.heap S o Sw z
    have hx : TupK s'.heap e.2 e.1 := tups kp' (List.mem_of_getElem? he)
    show wpAny _ A.in1 (holding [Value.ref e.1] (setAdd S (.ref e.1)) >>= _) _ _ s'
    refine wpAny_bind (wpAny_holding ?_)
    unfold setAdd
    refine wpAny_holding (wpAny_bind ((nestedKind P w).pyHash (show A.in1.units + 8 < cLine from hu) hx.hk ?_))
    refine putIn (s := { s' with toks := s'.toks + e.2.draws }) hS' TL' hx (show A.in1.units + 8 < cLine from hu) (by have := g.len; omega) fun b h' L' es' ep' t' sb hS2 c1 c2 => ?_
    have kp2 : ∀ b o, h0.get? b = some o → h'.get? b = some o := fun b o z => (sb.2 b fun q => by rw [q, S0] at z; cases z).trans (kp' b o z)
    refine wpAny_pure ⟨plainId_quiet F.plain_set_update_loop _, ih (i + 1) _ (by omega) lt (W.frame _ s' _ _ hst' (Nat.le_add_right _ _) fun b hb o z => ?_) kp2 ⟨L', es', ep', t', hS2, g.next he c1 c2⟩ fun s2 L2 es2 ep2 t2 mv2 hS3 g3 kp3 => ?_⟩
    · rw [sb.2 b fun q : b = S => nf (by rw [← q]; exact hb)]; exact z
    · refine hR s2 L2 es2 ep2 t2 (Moved.trans W.gtrans ((mv.mono up).then_heap (Nat.le_add_right _ _) fun b o hb z => ?_) mv2) hS3 g3 kp3
      rw [sb.2 b fun q : b = S => hb (by rw [q]; exact List.mem_cons_self)]; exact z
/-- set(xs) -/
theorem setOfN {l : Addr} {its : Array Value} (ks : List EN) {Q : Value → Shared → Prop} (quiet : A.handled = none) (lst : s.heap.IsList l its) (iv : its.toList = ks.map fun e => Value.ref e.1) (tk : TupL s.heap ks) (few : ks.length < 77) (hu : A.units + 16 < cLine)
    (next : ∀ (h' : Heap) (tk : Nat) L es ep t, SetN1 w h' s.heap.objs.size L es ep t → HasGot ks ks.length L → (∀ b o, s.heap.get? b = some o → h'.get? b = some o) → Q (.ref s.heap.objs.size) { s with heap := h', toks := tk }) :
    wpAny (model P w) A (call (.type "set") [.ref l]) Q E s := by
  have many : its.size = ks.length := by rw [← Array.length_toList, iv, List.length_map]
  have f1 := F.called_set.mro
  obtain ⟨c, tl, hmro⟩ := f1
  have f2 := F.called_set.made
  have f3 := F.called_set.sub
  refine wpAny_call (codeAny_of_tree ?_)
  show wpAny _ _ (callAny (.type "set") _) _ _ _
  refine wpAny_pure ⟨Code.quiet_builtin _ (by decide +kernel), codeAny_builtin F.entry_type_call ?_⟩
  rw [Around.under_plain (weight_type_call_type "set" [.ref l] []) rfl]
  have f4 := F.called_set.notType
  have f5 := F.called_set.canCreate
  have f6 := F.typeCall_set_1 (.ref l)
  repeat (any_goals (first | assumption | wp_step))
  generalize hN : s.heap.objs.size = N
  refine codeAny_mono (code_set_led1 (.ref l) (E := E)
    (Q₁ := fun v t => v = .ref N ∧ t = { s with heap := s.heap.push (freshSet w) }) ⟨by rw [hN], rfl⟩) fun r s₁ hr => ?_
  rcases r with e | fl
  · exact hr
  · cases fl
    case ret v =>
      obtain ⟨rfl, rfl⟩ := hr
      have got : (s.heap.push (freshSet w)).get? N = some (freshSet w) := by
        rw [← hN]
        exact Heap.get?_push_size _ rfl
      have ty : Shared.TypeIs { s with heap := s.heap.push (freshSet w) } (.ref N) "set" := ⟨_, got, rfl⟩
      have g1 := F.called_set.init.lookup
      have g2 := F.called_set.init.bind (.ref N)
      repeat (any_goals (first | assumption | wp_step))
      refine codeAny_mono (codeAny_call_builtin (R := wants (fun v t => v = .none ∧ ∃ h' tk L es ep t', t = { s with heap := h', toks := tk } ∧
          SetN1 w h' N L es ep t' ∧ HasGot ks ks.length L ∧ (∀ b o, s.heap.get? b = some o → h'.get? b = some o)) E)
          F.called_set.init.plain F.entry_set_init (check_set_init_1 ty ?_)) fun r₂ s₂ hr₂ => ?_
      · obtain ⟨ol, hol, hcl, nl, hdl⟩ := lst
        obtain ⟨ocls, odict, odata, oslots⟩ := ol
        simp only at hcl hdl
        subst hcl
        subst hdl
        have hol' : (s.heap.push (freshSet w)).get? l = some { cls := .type "list", dict := odict, data := .seq its nl, slots := oslots } :=
          Heap.get?_push_of_some _ hol
        have k1 := F.sub_list_set
        have k2 := F.sub_list_frozenset
        have k3 : (Value.type "list" == Value.type "dict") = false := by decide
        have lst1 : (s.heap.push (freshSet w)).IsList l its := ⟨_, hol', rfl, nl, rfl⟩
        unfold Builtin.«set.__init__» noKeywords Builtin.Frozenset.updateFrom
        generalize hPI : pyIter = PI
        wp_walk
        subst hPI
        refine wpAny_pyIter_list lst1 (wpAny_bind (wpAny_runValue ?_))
        have lN : l < N := by
          rw [← hN]
          exact Heap.lt_size hol
        have quiet3 : A.in1.in1.in1.handled = none := by simp [quiet]
        have size1 : (s.heap.push (freshSet w)).objs.size = N + 1 := by rw [Heap.size_push, hN]
        have l1 : l ≠ (s.heap.push (freshSet w)).objs.size := by
          rw [size1]
          exact Nat.ne_of_lt (Nat.lt_succ_of_lt lN)
        have n1 : N ∉ [(s.heap.push (freshSet w)).objs.size, l] := by
          rw [size1]
          simp only [List.mem_cons, List.not_mem_nil, or_false, not_or]
          exact ⟨Nat.ne_of_lt (Nat.lt_succ_self _), Nat.ne_of_gt lN⟩
        have no : ∀ b, N ≤ b → s.heap.get? b = none := fun b hb => by
          cases q : s.heap.get? b with
          | none => rfl
          | some u => exact absurd (Heap.lt_size q) (by rw [hN]; exact Nat.not_lt.mpr hb)
        refine fillN ((Walks.list quiet3 _ l l1 its).toS) N n1 ks many few (fun i v hv => ?_) s.heap tk (no N (Nat.le_refl _)) (fun b hb => no b ?_) (by simp [Around.in1]; omega) (its.size - 0) 0 _ (by omega) (Nat.zero_le _)
          ⟨⟨_, Heap.get?_push_size _ rfl, rfl, rfl⟩, lst1.push _⟩ (fun b o e => Heap.get?_push_of_some _ (Heap.get?_push_of_some _ e)) ⟨[], #[], 0, _, setN1_new (Heap.get?_push_of_some _ got), ⟨(fun e he => by cases he), (fun e he => by simp at he), Nat.le_refl _⟩⟩ fun s' L es ep t mv hS' g' kp => ?_
        · have : its.toList[i]? = some v := by rw [Array.getElem?_toList]; exact hv
          rw [iv, List.getElem?_map] at this
          obtain ⟨e, e1, e2⟩ := Option.map_eq_some_iff.mp this
          exact ⟨e, e1, e2.symm⟩
        · rw [List.mem_singleton.mp hb, size1]
          exact Nat.le_succ _
        · obtain ⟨h', g2, d', tk', os'⟩ := s'
          obtain rfl : g2 = s.gens := mv.gens
          obtain rfl : d' = s.drawn := mv.drawn
          obtain rfl : os' = s.os := mv.os
          show wpAny _ _ _ _ _ _
          refine wpAny_pure ?_
          show wpAny _ _ (ret Value.none) _ _ _
          rw [many] at g'
          exact wpAny_pure ⟨rfl, h', tk', L, es, ep, t, rfl, hS', g', kp⟩
      · rcases r₂ with e | fl₂
        · exact hr₂
        · cases fl₂
          case ret r =>
            obtain ⟨rfl, h', tk, L, es, ep, t, rfl, hS', g', kp⟩ := hr₂
            repeat (any_goals (first | assumption | wp_step))
            subst hN
            exact next _ _ _ _ _ _ hS' g' kp
          all_goals exact hr₂.elim
    all_goals exact hr.elim
end
end Fw

set_option maxRecDepth 100000
set_option maxHeartbeats 4000000
/-! sorted(set) of tuples within tuples -/
namespace Fw
open PySem PySem.Spec PyProof.Rows L2
theorem perm_map_ex {α β : Type} {f : α → β} {l m : List β} (p : l.Perm m) : ∀ L : List α, m = L.map f → ∃ L' : List α, L'.Perm L ∧ l = L'.map f := by
  induction p with
  | nil => intro L e; exact ⟨[], by rw [List.map_eq_nil_iff.mp e.symm], rfl⟩
  | @cons x l1 l2 _ ih =>
    intro L e
    cases L with
    | nil => cases e
    | cons y L =>
      rw [List.map_cons] at e
      obtain ⟨e1, e2⟩ := List.cons.inj e
      obtain ⟨L', p', e'⟩ := ih L e2
      exact ⟨y :: L', p'.cons y, by rw [List.map_cons, e1, e']⟩
  | swap x y l =>
    intro L e
    match L, e with
    | [], e => cases e
    | [_], e => simp at e
    | a :: b :: L, e =>
      simp only [List.map_cons, List.cons.injEq] at e
      exact ⟨b :: a :: L, List.Perm.swap .., by simp only [List.map_cons]; rw [e.1, e.2.1, e.2.2]⟩
  | trans _ _ ih1 ih2 =>
    intro L e
    obtain ⟨L2, p2, e2⟩ := ih2 L e
    obtain ⟨L1, p1, e1⟩ := ih1 L2 e2
    exact ⟨L1, p1.trans p2, e1⟩
section
variable {P : Program} {w : World} {A : Around} {E : Value → Shared → Prop} {s : Shared} {a : Addr} {L : List EN} {es : Array (Int × Value)} {ep : Nat} {t : SetTable}
theorem sortedOf (Ord : List Value → Prop) (R : SetN1 w s.heap a L es ep t) (quiet : A.handled = none)
    (srt : ∀ (s1 : Shared) (b : Addr) (vs : List Value) (Q : Value → Shared → Prop), s1.heap.get? b = some (seqObj "list" vs.toArray 0) → (∀ c o, s.heap.get? c = some o → c ≠ b ∧ s1.heap.get? c = some o) → vs.Perm (L.map fun e => Value.ref e.1) →
      (∀ out : List Value, out.Perm vs → Ord out → Q .none { s1 with heap := sortedHeap s1.heap b vs out.toArray }) → wpAny (model P w) A.in1 (call (.builtin "list.sort") [.ref b]) Q E s1)
    {Q : Value → Shared → Prop} (q : ∀ (s' : Shared) (p c : Nat) (L' : List EN), (∀ b o, s.heap.get? b = some o → s'.heap.get? b = some o) → s'.gens = s.gens → s'.os = s.os → s.heap.objs.size ≤ p →
      s'.heap.get? p = some (seqObj "list" (L'.map fun e => Value.ref e.1).toArray c) → L'.Perm L → Ord (L'.map fun e => Value.ref e.1) → Q (.ref p) s') :
    wpAny (model P w) A (call (.builtin "sorted") [.ref a]) Q E s := by
  obtain ⟨o, ho, hex, hd⟩ := R.ob
  have sz := rwN_len R.en
  have fw := R.fw
  refine Calls.call_function_entry kind_sorted plain_sorted entry_sorted (args_sorted1 _) ?_
  unfold Builtin.«sorted»
  refine wpAny_bind (m := checkCount "sorted" 1 1 _) (wpAny_pure ?_)
  refine wpAny_bind (collect_set (A := A.in1) quiet ⟨o, ho, hex.1, hd⟩ R.fits (by rw [sz]; unfold scanBound; omega) R.tb.ris R.ld fun s1 vs k1 z1 g1 o1 pm => ?_)
  have pm' : vs.Perm (L.map fun e => Value.ref e.1) := by
    have : es.toList.map (·.2) = L.map fun e => Value.ref e.1 := by
      rw [R.en]
      unfold rwN
      rw [List.map_map]
      rfl
    rwa [this] at pm
  have vl : vs.length < 77 := by rw [pm'.length_eq, List.length_map]; exact fw
  refine wpAny_bind (wpAny_newList ?_ (by rw [sizeLine_eq]; omega))
  have hb : (s1.heap.push (seqObj "list" vs.toArray 0)).get? s1.heap.objs.size = some (seqObj "list" vs.toArray 0) := Heap.get?_push_size _ rfl
  refine wpAny_bind (wpAny_holding (srt { s1 with heap := s1.heap.push (seqObj "list" vs.toArray 0) } _ vs _ hb (fun c u e => ⟨Nat.ne_of_lt (Heap.lt_size (k1 c u e)), Heap.get?_push_of_some _ (k1 c u e)⟩) pm' fun out po oo => ?_))
  obtain ⟨c, hc⟩ := sortedHeap_at (vs := vs) (out := out.toArray) hb
  obtain ⟨L', pL, eL⟩ := perm_map_ex (po.trans pm') L rfl
  subst eL
  refine wpAny_pure ⟨_, rfl, q _ s1.heap.objs.size c L' (fun b u e => ?_) g1 o1 z1 hc pL oo⟩
  have l := Heap.lt_size (k1 b u e)
  show (sortedHeap (s1.heap.push (seqObj "list" vs.toArray 0)) s1.heap.objs.size vs _).get? b = some u
  rw [sortedHeap_old (Nat.ne_of_lt l) (by rw [size_push']; exact Nat.lt_succ_of_lt l)]
  exact Heap.get?_push_of_some _ (k1 b u e)
/-- list.sort of tuples of whole numbers, of any lengths -/
theorem sort_flat {b : Addr} {vs : List Value} {Q : Value → Shared → Prop} (hu : A.units + 8 < cLine) (hb : s.heap.get? b = some (seqObj "list" vs.toArray 0)) (hz : vs.length ≤ sizeLine) (k : Value → List Int) (hp : ∀ v ∈ vs, IsInts s.heap v (k v))
    (q : ∀ out : List Value, out.Perm vs → SrtO.Srtd (fun v u => HT.lexLt (k v) (k u)) out → Q .none { s with heap := sortedHeap s.heap b vs out.toArray }) : wpAny (model P w) A (call (.builtin "list.sort") [.ref b]) Q E s := by
  refine wpAny_call_entry slot_list_sort ⟨_, hb, rfl⟩ entry_list_sort (SrtO.list_sort_ord (swoL k) hb hz (fun h2 => ?_) fun out so st => ⟨_, rfl, q out st.perm so⟩) (args_list_sort _)
  refine ints_sortableO (by omega) (by first | omega | (simp [Around.in1]; omega)) hp fun o e => ?_
  rw [hb] at e
  cases e
  exact fun c => absurd (Value.type.inj c) (by decide)
open PySem.W in
/-- list.sort of tuples within tuples that are alike -/
theorem sort_deep {b : Addr} {vs : List Value} {L : List EN} {Q : Value → Shared → Prop} (hu : A.units + 16 < cLine) (hb : s.heap.get? b = some (seqObj "list" vs.toArray 0)) (few : L.length < 77) (pm : vs.Perm (L.map fun e => Value.ref e.1)) (rd : ∀ e ∈ L, Reads s.heap (.ref e.1) e.2.data [])
    (low : ∀ e ∈ L, e.2.data.depth ≤ 8) (al : ∀ e ∈ L, ∀ e' ∈ L, alike e.2.data e'.2.data = true) (ne : ∀ e ∈ L, ∃ x r, e.2.data = .tuple (x :: r))
    (q : ∀ out : List Value, out.Perm vs → Q .none { s with heap := sortedHeap s.heap b vs out.toArray }) : wpAny (model P w) A (call (.builtin "list.sort") [.ref b]) Q E s := by
  obtain ⟨L', pL, rfl⟩ := perm_map_ex pm L rfl
  have m : ∀ {e}, e ∈ L' → e ∈ L := fun h => pL.mem_iff.mp h
  have each : ∀ M : List EN, (∀ e ∈ M, e ∈ L) → EachIs (fun v (e : EN) => v = Value.ref e.1) (M.map fun e => Value.ref e.1) M := fun M => by
    induction M with
    | nil => intro _; exact .nil
    | cons e M ih => exact fun h => .cons rfl (ih fun x hx => h x (List.mem_cons_of_mem _ hx))
  have E1 := each L' fun e he => m he
  refine list_sort_data (bs := L') (enc := fun e => e.2.data) (R := fun v e => v = Value.ref e.1) hb E1 ?_ ?_ ?_ (by rw [pL.length_eq, sizeLine_eq]; omega) (fun e he => by have := low e (m he); omega) fun out hl eo => ?_
  · exact (each_mem E1).mono fun v e ⟨z, he⟩ => ⟨[], by rw [z]; exact rd e (m he), fun h => by cases h⟩
  · intro d hd d' hd'
    obtain ⟨e, he, rfl⟩ := List.mem_map.mp hd
    obtain ⟨e', he', rfl⟩ := List.mem_map.mp hd'
    exact al e (m he) e' (m he')
  · refine .inl fun d hd => ?_
    obtain ⟨e, he, rfl⟩ := List.mem_map.mp hd
    exact ne e (m he)
  · refine q out ?_
    have : out = (L'.mergeSort (dataLe false fun e => e.2.data)).map fun e => Value.ref e.1 := by
      clear q hl
      generalize L'.mergeSort (dataLe false fun e => e.2.data) = M at eo
      induction eo with
      | nil => rfl
      | cons h _ ih => rw [List.map_cons, ← ih, h]
    rw [this]
    exact (List.mergeSort_perm _ _).map _
end
end Fw

set_option maxRecDepth 100000
set_option maxHeartbeats 2000000
/-! Two clauses of a comprehension over any walks; x in a tuple, deep; what is kept of tuples. -/
namespace Fw
open PySem PySem.Spec PyProof.Rows L2
section
variable {X : Cx}
def rInT (K : PySem.W.Frag) : R2 := fun x y H Q => ∃ d ds, Dp K H x d ∧ Dp K H y (.tuple ds) ∧ SeqAt.shaped d = true ∧ SeqAt.shaped (.tuple ds) = true ∧ Q (.bl (ds.any fun z => PyData.eqv z d)) H
theorem op_inT (hu : X.A.units + 64 < cLine) : OpR X (compareOp .In) (rInT X.K) := by
  intro pins s σ H x y v u Q I rx ry h
  obtain ⟨d, ds, hd, he, sd, se, q⟩ := h
  obtain ⟨as, r1⟩ := Dp.reads I d x v hd rx
  obtain ⟨bs, r2⟩ := Dp.reads I (.tuple ds) y u he ry
  have hz := SeqAt.shaped
  have : X.A.units + 1 + min (PyData.depthAll ds) d.depth < cLine := by
    have e : (PyData.canLay0 (.tuple ds) && decide (PyData.depth (.tuple ds) ≤ 64)) = true := se
    have := of_decide_eq_true (Bool.and_eq_true_iff.mp e).2
    simp only [PyData.depth] at this
    omega
  exact SeqAt.in_tuple_reads r2 r1 (SeqAt.canLay_of_shaped se) (SeqAt.canLay_of_shaped sd) this ⟨.bl _, H, I, rfl, q⟩
def rNotInL (K : PySem.W.Frag) : R2 := fun x y H Q => ∃ d ds, Dp K H x d ∧ Dp K H y (.list ds) ∧ SeqAt.shaped d = true ∧ SeqAt.shaped (.list ds) = true ∧ Q (.bl (!ds.any fun z => PyData.eqv z d)) H
theorem op_notInL (hu : X.A.units + 64 < cLine) : OpR X (compareOp .NotIn) (rNotInL X.K) := by
  intro pins s σ H x y v u Q I rx ry h
  obtain ⟨d, ds, hd, he, sd, se, q⟩ := h
  obtain ⟨as, r1⟩ := Dp.reads I d x v hd rx
  obtain ⟨bs, r2⟩ := Dp.reads I (.list ds) y u he ry
  have : X.A.units + 1 + min (PyData.depthAll ds) d.depth < cLine := by
    have e : (PyData.canLay0 (.list ds) && decide (PyData.depth (.list ds) ≤ 64)) = true := se
    have := of_decide_eq_true (Bool.and_eq_true_iff.mp e).2
    simp only [PyData.depth] at this
    omega
  exact SeqAt.notIn_list_reads r2 r1 (SeqAt.canLay_of_shaped se) (SeqAt.canLay_of_shaped sd) this ⟨.bl _, H, I, rfl, q⟩
end
theorem in2_it {J : It} {n : Nat} {G : Hp → Prop} {Y : Nat → Hp → V → Hp → Prop} (w : Walk J n G Y) {g : TG} {tt : TT} {te : TE} {vs : List Nat} {σ : L2.St} {H1 : Hp} {D : Addr} {Nx : Hp → Prop} (Pv : Nat → Hp → Prop) (h0 : Pv 0 H1) (hG : ∀ i H, i ≤ n → Pv i H → G H)
    (hs : ∀ i x H H', i < n → Pv i H → Y i H x H' → g x (wipe σ vs) H' fun σ2 H2 => wipe σ2 vs = wipe σ vs ∧ tt σ2 H2 fun b H3 =>
      if b = true then te σ2 H3 fun y H4 => ∃ acc, H4 D = some (.lst acc) ∧ acc.length < sizeLine ∧ Pv (i + 1) (upd H4 D (.lst (acc ++ [y]))) else Pv (i + 1) H3) (hd : ∀ H, Pv n H → Nx H) :
    ∃ W : Nat → Nat → Hp → Prop, (∃ m, W 0 m H1) ∧ ∀ i m H, W i m H →
      (J.stop i H ∧ Nx H) ∨ (J.go i H ∧ ∃ Nx1 : Hp → Prop, (∀ H', Nx1 H' → ∃ m', m' < m ∧ W (i + 1) m' H') ∧ ∀ x H', J.yld i H x H' → g x (wipe σ vs) H' fun σ2 H2 => wipe σ2 vs = wipe σ vs ∧ tt σ2 H2 fun b H3 =>
        if b = true then te σ2 H3 fun y H4 => ∃ acc, H4 D = some (.lst acc) ∧ acc.length < sizeLine ∧ Nx1 (upd H4 D (.lst (acc ++ [y]))) else Nx1 H3) := by
  refine ⟨fun i m H => m = n - i ∧ i ≤ n ∧ Pv i H, ⟨n, by simp, Nat.zero_le _, h0⟩, ?_⟩
  rintro i m H ⟨rfl, hi, p⟩
  have q := hG i H hi p
  by_cases hlt : i < n
  · refine .inr ⟨w.goes i H hlt q, Pv (i + 1), fun H' p' => ⟨n - (i + 1), by omega, rfl, hlt, p'⟩, fun x H' y => hs i x H H' hlt p (w.yields i H x H' hlt q y)⟩
  · have e : i = n := by omega
    subst e
    exact .inl ⟨w.stops H q, hd H p⟩
theorem lc2_it {J : It} {n : Nat} {G : Hp → Prop} {Y : Nat → Hp → V → Hp → Prop} (w : Walk J n G Y) {wi1 : TI} {g g1 : TG} {tt tt1 : TT} {te : TE} {vs vs1 : List Nat} {σ : L2.St} {H1 : Hp} {D : Addr} {Qd : Hp → Prop} (Pv : Nat → Hp → Prop) (h0 : Pv 0 (upd H1 D (.lst []))) (hG : ∀ i H, i ≤ n → Pv i H → G H)
    (hs : ∀ i x H H', i < n → Pv i H → Y i H x H' → g x (wipe σ vs) H' fun σ2 H2 => wipe σ2 vs = wipe σ vs ∧ tt σ2 H2 fun b H3 =>
      if b = true then wi1 σ2 H3 fun J1 H4 => ∃ W1 : Nat → Nat → Hp → Prop, (∃ m, W1 0 m H4) ∧ ∀ j k H, W1 j k H →
        (J1.stop j H ∧ Pv (i + 1) H) ∨ (J1.go j H ∧ ∃ Nx1 : Hp → Prop, (∀ H', Nx1 H' → ∃ k', k' < k ∧ W1 (j + 1) k' H') ∧ ∀ x H', J1.yld j H x H' → g1 x (wipe σ2 vs1) H' fun σ3 H5 => wipe σ3 vs1 = wipe σ2 vs1 ∧ tt1 σ3 H5 fun b H6 =>
          if b = true then te σ3 H6 fun y H7 => ∃ acc, H7 D = some (.lst acc) ∧ acc.length < sizeLine ∧ Nx1 (upd H7 D (.lst (acc ++ [y]))) else Nx1 H6)
      else Pv (i + 1) H3) (hd : ∀ H, Pv n H → Qd H) :
    ∃ W : Nat → Nat → Hp → Prop, (∃ m, W 0 m (upd H1 D (.lst []))) ∧ ∀ i m H, W i m H →
      (J.stop i H ∧ Qd H) ∨ (J.go i H ∧ ∃ Nx : Hp → Prop, (∀ H', Nx H' → ∃ m', m' < m ∧ W (i + 1) m' H') ∧ ∀ x H', J.yld i H x H' → g x (wipe σ vs) H' fun σ2 H2 => wipe σ2 vs = wipe σ vs ∧ tt σ2 H2 fun b H3 =>
        if b = true then wi1 σ2 H3 fun J1 H4 => ∃ W1 : Nat → Nat → Hp → Prop, (∃ m, W1 0 m H4) ∧ ∀ j k H, W1 j k H →
          (J1.stop j H ∧ Nx H) ∨ (J1.go j H ∧ ∃ Nx1 : Hp → Prop, (∀ H', Nx1 H' → ∃ k', k' < k ∧ W1 (j + 1) k' H') ∧ ∀ x H', J1.yld j H x H' → g1 x (wipe σ2 vs1) H' fun σ3 H5 => wipe σ3 vs1 = wipe σ2 vs1 ∧ tt1 σ3 H5 fun b H6 =>
            if b = true then te σ3 H6 fun y H7 => ∃ acc, H7 D = some (.lst acc) ∧ acc.length < sizeLine ∧ Nx1 (upd H7 D (.lst (acc ++ [y]))) else Nx1 H6)
        else Nx H3) := by
  refine ⟨fun i m H => m = n - i ∧ i ≤ n ∧ Pv i H, ⟨n, by simp, Nat.zero_le _, h0⟩, ?_⟩
  rintro i m H ⟨rfl, hi, p⟩
  have q := hG i H hi p
  by_cases hlt : i < n
  · refine .inr ⟨w.goes i H hlt q, Pv (i + 1), fun H' p' => ⟨n - (i + 1), by omega, rfl, hlt, p'⟩, fun x H' y => hs i x H H' hlt p (w.yields i H x H' hlt q y)⟩
  · have e : i = n := by omega
    subst e
    exact .inl ⟨w.stops H q, hd H p⟩
/-- tuples are as they were -/
def TKp (K : PySem.W.Frag) (H H' : Hp) : Prop := ∀ a xs, SqT K H a xs → SqT K H' a xs
theorem TKp.refl (K : PySem.W.Frag) (H : Hp) : TKp K H H := fun _ _ h => h
theorem TKp.trans {K : PySem.W.Frag} {H H1 H2 : Hp} (a : TKp K H H1) (b : TKp K H1 H2) : TKp K H H2 := fun c xs h => b c xs (a c xs h)
theorem TKp.put {K : PySem.W.Frag} {H : Hp} {d : Addr} {o o' : HO} (e : H d = some o) (n1 : ∀ xs, o ≠ .tup xs) (n2 : ∀ u xs, o ≠ .frz u (.tup xs)) : TKp K H (upd H d o') := by
  intro a xs h
  rcases h with h | h
  · rcases h with h | ⟨u, h⟩
    · exact .inl (.inl (by rw [upd_ne (ne_of h e (n1 _).symm)]; exact h))
    · exact .inl (.inr ⟨u, by rw [upd_ne (ne_of h e (n2 _ _).symm)]; exact h⟩)
  · exact .inr h
theorem TKp.lst {K : PySem.W.Frag} {H : Hp} {d : Addr} {ys : List V} {o' : HO} (e : H d = some (.lst ys)) : TKp K H (upd H d o') := TKp.put e (fun _ z => by cases z) (fun _ _ z => by cases z)
theorem TKp.ext {K : PySem.W.Frag} {H : Hp} {d : Addr} {p : Heap → Prop} {o' : HO} (e : H d = some (.ext p)) : TKp K H (upd H d o') := TKp.put e (fun _ z => by cases z) (fun _ _ z => by cases z)
theorem TKp.ins {K : PySem.W.Frag} {H : Hp} {d C dx : Addr} {fs : List (Str × V)} {o' : HO} (e : H d = some (.ins C dx fs)) : TKp K H (upd H d o') := TKp.put e (fun _ z => by cases z) (fun _ _ z => by cases z)
end Fw

set_option maxRecDepth 100000
set_option maxHeartbeats 4000000
/-! comprehensions of sets, one clause or two, of whole numbers or of tuples -/
namespace Fw
open PySem PySem.Spec PyProof.Rows L2
/-- what putting a value into the set at an address asks: the value, the address, the heap, and what is wished of the heap behind it -/
abbrev AddT := V → Addr → Hp → (Hp → Prop) → Prop
def AddOk (X : Cx) (add : AddT) : Prop := ∀ (pins : List (Addr × Obj)) (σ : L2.St) (H : Hp) (s : Shared) (E : Value → Shared → Prop) (D : Addr) (y : V) (z : Value) (N : Hp → Prop) (Q : Value → Shared → Prop),
  Inv X pins σ H s → RelV y z → add y D H N → (∀ s' H', Inv X pins σ H' s' → N H' → Q .none s') → wpAny (model X.prog X.w) X.A (call (.builtin "set.add") [.ref D, z]) Q E s
def AddSelf (X : Cx) (add : AddT) : Prop := ∀ X' : Cx, X'.prog = X.prog → X'.w = X.w → X'.K = X.K → X'.A = X.A → AddOk X' add
/-- a new set is such an object -/
def NewSet (w : World) (o0 : Addr → HO) : Prop := ∀ (P : Program) (H : Hp) (h : Heap), ObjOk P w H (h.push (freshSet w)) h.objs.size (o0 h.objs.size)
def tScG (o0 : Addr → HO) (add : AddT) (wi : TI) (g : TG) (tt : TT) (te : TE) (vs : List Nat) : TE := fun σ H Q => wi σ H fun J H1 => ∀ D, H1 D = none →
  ∃ W : Nat → Nat → Hp → Prop, (∃ m, W 0 m (upd H1 D (o0 D))) ∧ ∀ i m H, W i m H →
    (J.stop i H ∧ Q (.ref D) H) ∨ (J.go i H ∧ ∃ Nx : Hp → Prop, (∀ H', Nx H' → ∃ m', m' < m ∧ W (i + 1) m' H') ∧
      ∀ x H', J.yld i H x H' → g x (wipe σ vs) H' fun σ2 H2 => wipe σ2 vs = wipe σ vs ∧ tt σ2 H2 fun b H3 =>
        if b = true then te σ2 H3 fun y H4 => add y D H4 Nx else Nx H3)
def tSc2G (o0 : Addr → HO) (add : AddT) (wi : TI) (g : TG) (tt : TT) (wi1 : TI) (g1 : TG) (tt1 : TT) (te : TE) (vs vs1 : List Nat) : TE := fun σ H Q => wi σ H fun J H1 => ∀ D, H1 D = none →
  ∃ W : Nat → Nat → Hp → Prop, (∃ m, W 0 m (upd H1 D (o0 D))) ∧ ∀ i m H, W i m H →
    (J.stop i H ∧ Q (.ref D) H) ∨ (J.go i H ∧ ∃ Nx : Hp → Prop, (∀ H', Nx H' → ∃ m', m' < m ∧ W (i + 1) m' H') ∧
      ∀ x H', J.yld i H x H' → g x (wipe σ vs) H' fun σ2 H2 => wipe σ2 vs = wipe σ vs ∧ tt σ2 H2 fun b H3 =>
        if b = true then wi1 σ2 H3 fun J1 H4 => ∃ W1 : Nat → Nat → Hp → Prop, (∃ m, W1 0 m H4) ∧ ∀ j k H, W1 j k H →
          (J1.stop j H ∧ Nx H) ∨ (J1.go j H ∧ ∃ Nx1 : Hp → Prop, (∀ H', Nx1 H' → ∃ k', k' < k ∧ W1 (j + 1) k' H') ∧ ∀ x H', J1.yld j H x H' → g1 x (wipe σ2 vs1) H' fun σ3 H5 => wipe σ3 vs1 = wipe σ2 vs1 ∧ tt1 σ3 H5 fun b H6 =>
            if b = true then te σ3 H6 fun y H7 => add y D H7 Nx1 else Nx1 H6)
        else Nx H3)
section
variable {P : Program} {w : World} {A : Around} {R : Result → Shared → Prop} {s : Shared} {elt t0 i0 t1 i1 : Expr} {ifs0 ifs1 : List Expr} {scope : Scope} {pos : Pos} {it acc : Value} {env : Env}
theorem turnS_out (elt t0 i0 t1 i1 : Expr) (ifs0 ifs1 : List Expr) (scope : Scope) (pos : Pos) (it acc : Value) (env : Env) :
    compTurn (.SetComp elt [⟨t0, i0, ifs0, 0⟩, ⟨t1, i1, ifs1, 0⟩] scope pos) 0 it acc env = (do
      standAt i0.pos
      match ← pyNext it with
      | none => pure (.done .next)
      | some u =>
        letOwnedTupleGo t0 it u
        assign t0 env u
        let mut good := true
        for c in ifs0 do
          if good then good ← isTrue c env (eval c env)
        if good then
          let y ← eval i1 env
          standAt i1.pos
          let y ← foldedSetIterable i1 env y
          let _ ← runOwn (.compStart (.SetComp elt [⟨t0, i0, ifs0, 0⟩, ⟨t1, i1, ifs1, 0⟩] scope pos) 1 (← holding [y] (pyIter y)) acc env) env
        again (.compLoop (.SetComp elt [⟨t0, i0, ifs0, 0⟩, ⟨t1, i1, ifs1, 0⟩] scope pos) 0 it acc env)) := by rfl
theorem turnS_in (elt t0 i0 t1 i1 : Expr) (ifs0 ifs1 : List Expr) (scope : Scope) (pos : Pos) (it acc : Value) (env : Env) :
    compTurn (.SetComp elt [⟨t0, i0, ifs0, 0⟩, ⟨t1, i1, ifs1, 0⟩] scope pos) 1 it acc env = (do
      standAt i1.pos
      match ← pyNext it with
      | none => pure (.done .next)
      | some u =>
        letOwnedTupleGo t1 it u
        assign t1 env u
        let mut good := true
        for c in ifs1 do
          if good then good ← isTrue c env (eval c env)
        if good then
          (do let v ← eval elt env; standAt elt.pos; let _ ← call (.builtin "set.add") [acc, v])
        again (.compLoop (.SetComp elt [⟨t0, i0, ifs0, 0⟩, ⟨t1, i1, ifs1, 0⟩] scope pos) 1 it acc env)) := by rfl
/-- what a turn's error is told to -/
abbrev erS (P : Program) (w : World) (A : Around) (env : Env) (R : Result → Shared → Prop) : Value → Shared → Prop := notedBy (model P w) A env fun e s' => R (.error e) s'
theorem loopS_out (hs : ∀ x, foldedSetIterable i1 env x = pure x) (I : Nat → Shared → Prop)
    (turn : ∀ n s, I n s → wpAny (model P w) A (pyNext it) (fun r s₁ => match r with
      | none => R (.ok .next) s₁
      | some v => wpAny (model P w) A (letOwnedTupleGo t0 it v) (fun _ s₁' => wpAny (model P w) A (assign t0 env v) (fun _ s₂ =>
          wpAny (model P w) A (forIn ifs0 true fun c r => if r = true then do let ok ← isTrue c env (eval c env); pure (ForInStep.yield ok) else pure (ForInStep.yield r)) (fun ok s₃ =>
            if ok = true then wpAny (model P w) A (eval i1 env) (fun x s₄ => wpAny (model P w) A (pyIter x) (fun it1 s₅ =>
              codeAny (model P w) A (.compStart (.SetComp elt [⟨t0, i0, ifs0, 0⟩, ⟨t1, i1, ifs1, 0⟩] scope pos) 1 it1 acc env) (fun r s' => match r with
                | .ok _ => ∃ m, m < n ∧ I m s'
                | .error _ => False) s₅) (erS P w A env R) s₄) (erS P w A env R) s₃
            else ∃ m, m < n ∧ I m s₃) (erS P w A env R) s₂) (erS P w A env R) s₁') (erS P w A env R) s₁) (erS P w A env R) s)
    (n : Nat) (h : I n s) : codeAny (model P w) A (.compLoop (.SetComp elt [⟨t0, i0, ifs0, 0⟩, ⟨t1, i1, ifs1, 0⟩] scope pos) 0 it acc env) R s := by
  refine codeAny_loop rfl I (fun n s hI => ?_) n h
  show wpAny _ A ((compTurn (.SetComp elt [⟨t0, i0, ifs0, 0⟩, ⟨t1, i1, ifs1, 0⟩] scope pos) 0 it acc env).onRaise (fun x => do noteFrame x env; theTreesLotGoes x)) _ _ s
  refine wpAny_noted ?_
  rw [turnS_out]
  refine wpAny_bind (wpAny_standAt (wpAny_bind (wpAny_mono (turn n s hI) (fun r s₁ h₁ => ?_) fun _ _ e => e)))
  cases r with
  | none => exact wpAny_pure h₁
  | some v =>
    refine wpAny_bind (wpAny_mono h₁ (fun _ s₂ h₂ => wpAny_bind (wpAny_mono h₂ (fun _ s₃ h₃ => wpAny_bind (wpAny_mono h₃ (fun ok s₄ h₄ => ?_) fun _ _ e => e)) fun _ _ e => e)) fun _ _ e => e)
    cases ok with
    | false => exact wpAny_pure ⟨rfl, h₄⟩
    | true =>
      refine wpAny_bind (wpAny_mono h₄ (fun x s₅ h₅ => wpAny_bind (wpAny_standAt (wpAny_bind (wpAny_of_eq (hs x) (wpAny_bind (wpAny_holding (wpAny_mono h₅ (fun it1 s₆ h₆ => wpAny_bind (wpAny_runOwn ?_)) fun _ _ e => e))))))) fun _ _ e => e)
      rw [Around.mark_none]
      refine codeAny_mono h₆ fun r s' hr => ?_
      cases r with
      | ok f =>
        first
          | exact wpAny_pure ⟨rfl, hr⟩
          | exact wpAny_bind (wpAny_pure (wpAny_pure ⟨rfl, hr⟩))
      | error e => exact hr.elim
theorem loopS_in (I : Nat → Shared → Prop)
    (turn : ∀ n s, I n s → wpAny (model P w) A (pyNext it) (fun r s₁ => match r with
      | none => R (.ok .next) s₁
      | some v => wpAny (model P w) A (letOwnedTupleGo t1 it v) (fun _ s₁' => wpAny (model P w) A (assign t1 env v) (fun _ s₂ =>
          wpAny (model P w) A (forIn ifs1 true fun c r => if r = true then do let ok ← isTrue c env (eval c env); pure (ForInStep.yield ok) else pure (ForInStep.yield r)) (fun ok s₃ =>
            if ok = true then wpAny (model P w) A (eval elt env) (fun x s₄ =>
              wpAny (model P w) A (call (.builtin "set.add") [acc, x]) (fun _ s₅ => ∃ m, m < n ∧ I m s₅) (erS P w A env R) s₄) (erS P w A env R) s₃
            else ∃ m, m < n ∧ I m s₃) (erS P w A env R) s₂) (erS P w A env R) s₁') (erS P w A env R) s₁) (erS P w A env R) s)
    (n : Nat) (h : I n s) : codeAny (model P w) A (.compLoop (.SetComp elt [⟨t0, i0, ifs0, 0⟩, ⟨t1, i1, ifs1, 0⟩] scope pos) 1 it acc env) R s := by
  refine codeAny_loop rfl I (fun n s hI => ?_) n h
  show wpAny _ A ((compTurn (.SetComp elt [⟨t0, i0, ifs0, 0⟩, ⟨t1, i1, ifs1, 0⟩] scope pos) 1 it acc env).onRaise (fun x => do noteFrame x env; theTreesLotGoes x)) _ _ s
  refine wpAny_noted ?_
  rw [turnS_in]
  refine wpAny_bind (wpAny_standAt (wpAny_bind (wpAny_mono (turn n s hI) (fun r s₁ h₁ => ?_) fun _ _ e => e)))
  cases r with
  | none => exact wpAny_pure h₁
  | some v =>
    refine wpAny_bind (wpAny_mono h₁ (fun _ s₂ h₂ => wpAny_bind (wpAny_mono h₂ (fun _ s₃ h₃ => wpAny_bind (wpAny_mono h₃ (fun ok s₄ h₄ => ?_) fun _ _ e => e)) fun _ _ e => e)) fun _ _ e => e)
    cases ok with
    | false => exact wpAny_pure ⟨rfl, h₄⟩
    | true =>
      exact wpAny_bind (wpAny_bind (wpAny_mono h₄ (fun x s₅ h₅ => wpAny_bind (wpAny_standAt (wpAny_bind (wpAny_mono h₅ (fun _ s₆ h₆ => wpAny_pure (wpAny_pure ⟨rfl, h₆⟩)) fun _ _ e => e)))) fun _ _ e => e))
theorem startS1 (h0 : codeAny (model P w) A (.compLoop (.SetComp elt [⟨t0, i0, ifs0, 0⟩, ⟨t1, i1, ifs1, 0⟩] scope pos) 1 it acc env) R s)
    (h : wpAny (model P w) A (pyIter it) (fun it' s' => codeAny (model P w) A (.compLoop (.SetComp elt [⟨t0, i0, ifs0, 0⟩, ⟨t1, i1, ifs1, 0⟩] scope pos) 1 it' acc env) R s') (erS P w A env R) s) :
    codeAny (model P w) A (.compStart (.SetComp elt [⟨t0, i0, ifs0, 0⟩, ⟨t1, i1, ifs1, 0⟩] scope pos) 1 it acc env) R s := by
  refine codeAny_of_tree ?_
  show wpAny _ _ ((compStart (.SetComp elt [⟨t0, i0, ifs0, 0⟩, ⟨t1, i1, ifs1, 0⟩] scope pos) 1 it acc env).onRaise (fun x => do noteFrame x env; standAt theWindowsPlace)) _ _ s
  refine wpAny_notedAt ?_
  unfold compStart
  show wpAny _ _ (ask >>= _) _ _ s
  refine wpAny_bind (wpAny_askSetting (wpAny_ite ?_))
  split
  · first
      | exact wpAny_bind (wpAny_pure (wpAny_pure (And.intro rfl h0)))
      | exact wpAny_pure (And.intro rfl h0)
  · first
      | exact wpAny_bind (wpAny_rule (wpAny_bind (wpAny_standAt (wpAny_bind (wpAny_mono h (fun it' s' h' => wpAny_pure (And.intro rfl h')) fun _ _ x => x)))))
      | (refine wpAny_bind (wpAny_rule ?_); show wpAny _ _ (standAt i1.pos >>= _) _ _ s; exact wpAny_bind (wpAny_standAt (wpAny_bind (wpAny_mono h (fun it' s' h' => wpAny_pure (And.intro rfl h')) fun _ _ x => x))))
end
section
variable {X : Cx}
theorem comp1G {pins : List (Addr × Obj)} {s : Shared} {σ : L2.St} {H : Hp} {Q : VK} {elt tg iter : Expr} {ifs : List Expr} {scope : Scope} {own : List (PySem.Str × Nat)} {pos pos' : Pos} {wi : TI} {g : TG} {tt : TT} {te : TE}
    {use : Option (Value → Sem Unit)} {Qf : Value → Shared → Prop} {o0 : Addr → HO} {add : AddT} (fresh : NewSet X.w o0) (put : AddSelf X add)
    (quiet : X.calm = true) (nd : X.N.Nodup) (I : Inv X pins σ H s) (ii : PI X tg iter wi) (blk : BlkOk X.N X.env.scope scope own)
    (gg : ∀ s H C cl fp, PG (X.blk s H scope (compEnvC scope cl C X.env) fp) tg g)
    (tts : ∀ s H C cl fp, PTs (X.blk s H scope (compEnvC scope cl C X.env) fp) ifs tt)
    (ee : ∀ s H C cl fp, PE (X.blk s H scope (compEnvC scope cl C X.env) fp) elt te)
    (fold : ∀ x, foldedSetIterable iter X.env x = pure x) (h : tScG o0 add wi g tt te (own.map (·.2)) σ H Q)
    (fin : ∀ D C s' m H', Inv X pins σ H' s' → Q (.ref D) H' → s'.heap.Ns C m → FpOk X pins H' C →
      compPost (model X.prog X.w) X.A X.xe use Qf (.ref D) C (.ok .next) s') :
    wpAny (model X.prog X.w) X.A (comprehension (.SetComp elt [⟨tg, iter, ifs, 0⟩] scope pos) scope X.env pos' (newSet (.type "set")) false (eval iter X.env) use) Qf X.xe s := by
  have clo : ∀ y ∈ scope.names, y.2 = .free → ∃ c, X.env.cells.lookup y.1 = some c := fun y hy e =>
    (blk.free y hy e).elim (fun k => I.ok.has _ (.inl k)) fun k => I.ok.has _ (.inr k)
  refine wpAny_comprehension_free (use := use) rfl fold (closure_ok clo) blk.kind (fun y hy e => by rw [blk.uniq y hy, e])
    (thn (ii.run pins s σ H _ I h) fun xv s1 hx => thn hx fun itv s2 h2 => ?_)
  obtain ⟨it, fp, tn, J, H2, rfl, I2, T, t0, fp2, q⟩ := h2
  refine PpSet.newSet_ok (newEnv_comp ?_)
  generalize eD : s2.heap.objs.size = D
  obtain ⟨W, ⟨m0, w0⟩, turn⟩ := q D (I2.hok.fresh (Nat.le_of_eq eD))
  generalize e3 : ({ s2 with heap := s2.heap.push (freshSet X.w) } : Shared) = s3
  have heap3 : s3.heap = s2.heap.push (freshSet X.w) := by rw [← e3]
  have up3 : ∀ b o, s2.heap.get? b = some o → s3.heap.get? b = some o := fun b o e => by
    rw [heap3]
    exact Heap.get?_push_of_some _ e
  generalize eH : upd H2 D (o0 D) = H3 at w0
  have I3 : Inv X pins σ H3 s3 := by
    rw [← eH, ← e3, ← eD]
    exact I2.laid (t' := s2.toks) (fun b o e => Heap.get?_push_of_some _ e) (Nat.le_refl _) (fresh X.prog _ _)
  have fp3 : ∀ b ∈ fp, FpOk X pins H3 b ∧ b < s3.heap.objs.size := fun b hb => by
    obtain ⟨o, e, _⟩ := T.obj _ _ t0 b hb
    have lt := Heap.lt_size e
    refine ⟨⟨?_, (fp2 b hb).2⟩, ?_⟩
    · rw [← eH, upd_ne (show b ≠ D by rw [← eD]; exact Nat.ne_of_lt lt)]
      exact (fp2 b hb).1
    · rw [heap3, Heap.size_push]
      exact Nat.lt_succ_of_lt lt
  have t3 : tn 0 s3.heap := T.keep _ _ _ t0 fun b _ o e => up3 b o e
  have I4 := block_start I3 blk nd fp3
  have g4 := gg s3 H3 s3.heap.objs.size (cellsFrom (s3.heap.objs.size + 1) scope.names (cloFrom X.env.cells scope.names [])) fp
  have t4 := tts s3 H3 s3.heap.objs.size (cellsFrom (s3.heap.objs.size + 1) scope.names (cloFrom X.env.cells scope.names [])) fp
  have e4 := ee s3 H3 s3.heap.objs.size (cellsFrom (s3.heap.objs.size + 1) scope.names (cloFrom X.env.cells scope.names [])) fp
  show codeAny _ _ (.compStart (.SetComp elt [⟨tg, iter, ifs, 0⟩] scope pos) 0 (.ref it) (.ref D)
      (compEnvC scope (cellsFrom (s3.heap.objs.size + 1) scope.names (cloFrom X.env.cells scope.names [])) s3.heap.objs.size X.env))
    (compPost (model X.prog X.w) X.A X.xe use Qf (.ref D) s3.heap.objs.size) { s3 with heap := pushCells (s3.heap.push { cls := .type "dict", data := .dict #[] }) scope.names }
  generalize eC : compEnvC scope (cellsFrom (s3.heap.objs.size + 1) scope.names (cloFrom X.env.cells scope.names [])) s3.heap.objs.size X.env = ce at I4 g4 t4 e4 ⊢
  have locs : ce.locals = s3.heap.objs.size := by
    subst eC
    rfl
  generalize eS : ({ s3 with heap := pushCells (s3.heap.push { cls := .type "dict", data := .dict #[] }) scope.names } : Shared) = s4 at I4 ⊢
  have ts4 : tn 0 s4.heap := T.keep _ _ _ t3 fun b _ o e => by
    rw [← eS]
    exact pushCells_keeps _ _ _ _ (Heap.get?_push_of_some _ e)
  have held : ∀ {σ' : L2.St} {H' : Hp} {s' : Shared}, Inv (X.blk s3 H3 scope ce fp) [] σ' H' s' → (∀ b ∈ fp, H' b = none) →
      ∀ b ∈ fp, FpOk (X.blk s3 H3 scope ce fp) [] H' b := fun {σ' H' s'} I' hn b hb =>
    have x := I'.ok.exf b hb
    ⟨hn b hb, x.1, I'.ok.exfs b hb, .inl hb, fun y c e => x.2 y c e, fun p hp => by cases hp⟩
  have put' : AddOk (X.blk s3 H3 scope ce fp) add := put _ rfl rfl rfl rfl
  have body : codeAny (model X.prog X.w) X.A (.compLoop (.SetComp elt [⟨tg, iter, ifs, 0⟩] scope pos) 0 (.ref it) (.ref D) ce)
      (compPost (model X.prog X.w) X.A X.xe use Qf (.ref D) s3.heap.objs.size) s4 := by
    refine PpSet.compLoopS_any (fun n t => ∃ i G, Inv (X.blk s3 H3 scope ce fp) [] (wipe σ (own.map (·.2))) G t ∧ tn i t.heap ∧ (∀ b ∈ fp, G b = none) ∧ W i n G)
      ?_ m0 ⟨0, H3, I4, ts4, fun b hb => (fp3 b hb).1.1, w0⟩
    rintro n s5 ⟨i, H5, I5, t5, free5, w5⟩
    rcases turn i n H5 w5 with ⟨stop, qq⟩ | ⟨go, Nx, dec, step⟩
    · refine thnF (T.done (X.blk s3 H3 scope ce fp) rfl rfl rfl quiet i [] s5 _ H5 (fun _ _ => False) I5 (held I5 free5) t5 stop) fun r s6 ⟨hr, I6⟩ => ?_
      subst hr
      have free6 : H5 ce.locals = none := I6.free
      obtain ⟨m, ns6, _⟩ := I6.loc
      have ns6' : s6.heap.Ns ce.locals m := ns6
      rw [locs] at free6 ns6'
      have I7 : Inv X pins σ H5 s6 := I3.call' (ch := fp) I6.os I6.base I6.hok I6.bare fun b hb =>
        have z := (fp3 b hb).1
        ⟨z.2.2.2.1, z.2.1, z.2.2.2.2.1, z.2.2.2.2.2⟩
      exact fin D s3.heap.objs.size s6 m H5 I7 qq ns6' (I3.fpOk (Nat.le_refl _) free6)
    · refine thnF (T.item (X.blk s3 H3 scope ce fp) rfl rfl rfl quiet i [] s5 _ H5 (fun _ _ => False) I5 (held I5 free5) t5 go) fun r s6 ⟨u, hr, h6⟩ => ?_
      subst hr
      refine thnF h6 fun _ s7 ⟨x, H7, I7, rx, y7, t7, free7⟩ => ?_
      refine thnF (g4.run _ s7 _ H7 x u _ (I7.pinned (held I7 free7) (T.obj _ _ t7)) rx (step x H7 y7)) fun _ s8 ⟨σ8, H8, I8, wi8, q8⟩ => ?_
      refine thnF (t4.run _ s8 σ8 H8 _ I8 q8) fun b s9 ⟨H9, I9, q9⟩ => ?_
      have over : ∀ {t : Shared} {G : Hp}, Inv (X.blk s3 H3 scope ce fp) ([] ++ pinsAt fp s7.heap) σ8 G t → Nx G →
          ∃ m, m < n ∧ ∃ i G, Inv (X.blk s3 H3 scope ce fp) [] (wipe σ (own.map (·.2))) G t ∧ tn i t.heap ∧ (∀ b ∈ fp, G b = none) ∧ W i m G := fun {t G} It nx => by
        obtain ⟨m', lt, w'⟩ := dec G nx
        have same : ∀ b ∈ fp, ∀ o, s7.heap.get? b = some o → t.heap.get? b = some o ∧ G b = none := fun b hb o e =>
          have z := It.pin (b, o) (List.mem_append_right _ (List.mem_append_right _ (mem_pinsAt hb e)))
          ⟨z.1, z.2.1⟩
        refine ⟨m', lt, i + 1, G, (It.unpinned (pins := [])).weak (by rw [← wi8, wipe_length]) (fun j v e => ?_), T.keep _ _ _ t7 fun b hb o e => (same b hb o e).1, fun b hb => ?_, w'⟩
        · rw [← wi8] at e
          exact (wipe_some e).1
        · obtain ⟨o, e, _⟩ := T.obj _ _ t7 b hb
          exact (same b hb o e).2
      cases b
      · simp only [Bool.false_eq_true, if_false] at q9 ⊢
        exact over I9 q9
      · simp only [if_true] at q9 ⊢
        refine thnF (e4.run _ s9 σ8 H9 _ I9 q9) fun z s10 ⟨yv, H10, I10, rz, ad⟩ => ?_
        exact put' _ _ _ _ _ _ _ _ _ _ I10 rz ad fun s11 H11 I11 nx => over I11 nx
  exact PpSet.codeAny_compStart_set body (T.self X.A 0 _ _ _ ts4 body)
theorem comp2G {pins : List (Addr × Obj)} {s : Shared} {σ : L2.St} {H : Hp} {Q : VK} {elt tg iter tg1 iter1 : Expr} {ifs ifs1 : List Expr} {scope : Scope} {own : List (PySem.Str × Nat)} {vs1 : List Nat} {pos pos' : Pos} {wi wi1 : TI} {g g1 : TG} {tt tt1 : TT} {te : TE}
    {use : Option (Value → Sem Unit)} {Qf : Value → Shared → Prop} {o0 : Addr → HO} {add : AddT} (fresh : NewSet X.w o0) (put : AddSelf X add)
    (quiet : X.calm = true) (nd : X.N.Nodup) (I : Inv X pins σ H s) (ii : PI X tg iter wi) (blk : BlkOk X.N X.env.scope scope own) (hv : ∀ i ∈ vs1, i ∈ own.map (·.2))
    (gg : ∀ s H C cl fp, PG (X.blk s H scope (compEnvC scope cl C X.env) fp) tg g)
    (tts : ∀ s H C cl fp, PTs (X.blk s H scope (compEnvC scope cl C X.env) fp) ifs tt)
    (ee : ∀ s H C cl fp, PE (X.blk s H scope (compEnvC scope cl C X.env) fp) elt te)
    (fold : ∀ x, foldedSetIterable iter X.env x = pure x)
    (ii1 : ∀ s H C cl fp, PI (X.blk s H scope (compEnvC scope cl C X.env) fp) tg1 iter1 wi1)
    (gg1 : ∀ s H C cl fp, PG (X.blk s H scope (compEnvC scope cl C X.env) fp) tg1 g1)
    (tts1 : ∀ s H C cl fp, PTs (X.blk s H scope (compEnvC scope cl C X.env) fp) ifs1 tt1)
    (fold1 : ∀ env x, foldedSetIterable iter1 env x = pure x) (h : tSc2G o0 add wi g tt wi1 g1 tt1 te (own.map (·.2)) vs1 σ H Q)
    (fin : ∀ D C s' m H', Inv X pins σ H' s' → Q (.ref D) H' → s'.heap.Ns C m → FpOk X pins H' C →
      compPost (model X.prog X.w) X.A X.xe use Qf (.ref D) C (.ok .next) s') :
    wpAny (model X.prog X.w) X.A (comprehension (.SetComp elt [⟨tg, iter, ifs, 0⟩, ⟨tg1, iter1, ifs1, 0⟩] scope pos) scope X.env pos' (newSet (.type "set")) false (eval iter X.env) use) Qf X.xe s := by
  have clo : ∀ y ∈ scope.names, y.2 = .free → ∃ c, X.env.cells.lookup y.1 = some c := fun y hy e =>
    (blk.free y hy e).elim (fun k => I.ok.has _ (.inl k)) fun k => I.ok.has _ (.inr k)
  refine wpAny_comprehension_free (use := use) rfl fold (closure_ok clo) blk.kind (fun y hy e => by rw [blk.uniq y hy, e])
    (thn (ii.run pins s σ H _ I h) fun xv s1 hx => thn hx fun itv s2 h2 => ?_)
  obtain ⟨it, fp, tn, J, H2, rfl, I2, T, t0, fp2, q⟩ := h2
  refine PpSet.newSet_ok (newEnv_comp ?_)
  generalize eD : s2.heap.objs.size = D
  obtain ⟨W, ⟨m0, w0⟩, turn⟩ := q D (I2.hok.fresh (Nat.le_of_eq eD))
  generalize e3 : ({ s2 with heap := s2.heap.push (freshSet X.w) } : Shared) = s3
  have heap3 : s3.heap = s2.heap.push (freshSet X.w) := by rw [← e3]
  have up3 : ∀ b o, s2.heap.get? b = some o → s3.heap.get? b = some o := fun b o e => by
    rw [heap3]
    exact Heap.get?_push_of_some _ e
  generalize eH : upd H2 D (o0 D) = H3 at w0
  have I3 : Inv X pins σ H3 s3 := by
    rw [← eH, ← e3, ← eD]
    exact I2.laid (t' := s2.toks) (fun b o e => Heap.get?_push_of_some _ e) (Nat.le_refl _) (fresh X.prog _ _)
  have fp3 : ∀ b ∈ fp, FpOk X pins H3 b ∧ b < s3.heap.objs.size := fun b hb => by
    obtain ⟨o, e, _⟩ := T.obj _ _ t0 b hb
    have lt := Heap.lt_size e
    refine ⟨⟨?_, (fp2 b hb).2⟩, ?_⟩
    · rw [← eH, upd_ne (show b ≠ D by rw [← eD]; exact Nat.ne_of_lt lt)]
      exact (fp2 b hb).1
    · rw [heap3, Heap.size_push]
      exact Nat.lt_succ_of_lt lt
  have t3 : tn 0 s3.heap := T.keep _ _ _ t0 fun b _ o e => up3 b o e
  have I4 := block_start I3 blk nd fp3
  have g4 := gg s3 H3 s3.heap.objs.size (cellsFrom (s3.heap.objs.size + 1) scope.names (cloFrom X.env.cells scope.names [])) fp
  have t4 := tts s3 H3 s3.heap.objs.size (cellsFrom (s3.heap.objs.size + 1) scope.names (cloFrom X.env.cells scope.names [])) fp
  have e4 := ee s3 H3 s3.heap.objs.size (cellsFrom (s3.heap.objs.size + 1) scope.names (cloFrom X.env.cells scope.names [])) fp
  have i14 := ii1 s3 H3 s3.heap.objs.size (cellsFrom (s3.heap.objs.size + 1) scope.names (cloFrom X.env.cells scope.names [])) fp
  have g14 := gg1 s3 H3 s3.heap.objs.size (cellsFrom (s3.heap.objs.size + 1) scope.names (cloFrom X.env.cells scope.names [])) fp
  have t14 := tts1 s3 H3 s3.heap.objs.size (cellsFrom (s3.heap.objs.size + 1) scope.names (cloFrom X.env.cells scope.names [])) fp
  show codeAny _ _ (.compStart (.SetComp elt [⟨tg, iter, ifs, 0⟩, ⟨tg1, iter1, ifs1, 0⟩] scope pos) 0 (.ref it) (.ref D)
      (compEnvC scope (cellsFrom (s3.heap.objs.size + 1) scope.names (cloFrom X.env.cells scope.names [])) s3.heap.objs.size X.env))
    (compPost (model X.prog X.w) X.A X.xe use Qf (.ref D) s3.heap.objs.size) { s3 with heap := pushCells (s3.heap.push { cls := .type "dict", data := .dict #[] }) scope.names }
  generalize eC : compEnvC scope (cellsFrom (s3.heap.objs.size + 1) scope.names (cloFrom X.env.cells scope.names [])) s3.heap.objs.size X.env = ce at I4 g4 t4 e4 i14 g14 t14 ⊢
  have locs : ce.locals = s3.heap.objs.size := by
    subst eC
    rfl
  generalize eS : ({ s3 with heap := pushCells (s3.heap.push { cls := .type "dict", data := .dict #[] }) scope.names } : Shared) = s4 at I4 ⊢
  have ts4 : tn 0 s4.heap := T.keep _ _ _ t3 fun b _ o e => by
    rw [← eS]
    exact pushCells_keeps _ _ _ _ (Heap.get?_push_of_some _ e)
  have held : ∀ {σ' : L2.St} {H' : Hp} {s' : Shared}, Inv (X.blk s3 H3 scope ce fp) [] σ' H' s' → (∀ b ∈ fp, H' b = none) →
      ∀ b ∈ fp, FpOk (X.blk s3 H3 scope ce fp) [] H' b := fun {σ' H' s'} I' hn b hb =>
    have x := I'.ok.exf b hb
    ⟨hn b hb, x.1, I'.ok.exfs b hb, .inl hb, fun y c e => x.2 y c e, fun p hp => by cases hp⟩
  have put' : AddOk (X.blk s3 H3 scope ce fp) add := put _ rfl rfl rfl rfl
  have body : codeAny (model X.prog X.w) X.A (.compLoop (.SetComp elt [⟨tg, iter, ifs, 0⟩, ⟨tg1, iter1, ifs1, 0⟩] scope pos) 0 (.ref it) (.ref D) ce)
      (compPost (model X.prog X.w) X.A X.xe use Qf (.ref D) s3.heap.objs.size) s4 := by
    refine loopS_out (fold1 ce) (fun n t => ∃ i G, Inv (X.blk s3 H3 scope ce fp) [] (wipe σ (own.map (·.2))) G t ∧ tn i t.heap ∧ (∀ b ∈ fp, G b = none) ∧ W i n G)
      ?_ m0 ⟨0, H3, I4, ts4, fun b hb => (fp3 b hb).1.1, w0⟩
    rintro n s5 ⟨i, H5, I5, t5, free5, w5⟩
    rcases turn i n H5 w5 with ⟨stop, qq⟩ | ⟨go, Nx, dec, step⟩
    · refine thnF (T.done (X.blk s3 H3 scope ce fp) rfl rfl rfl quiet i [] s5 _ H5 (fun _ _ => False) I5 (held I5 free5) t5 stop) fun r s6 ⟨hr, I6⟩ => ?_
      subst hr
      have free6 : H5 ce.locals = none := I6.free
      obtain ⟨m, ns6, _⟩ := I6.loc
      have ns6' : s6.heap.Ns ce.locals m := ns6
      rw [locs] at free6 ns6'
      have I7 : Inv X pins σ H5 s6 := I3.call' (ch := fp) I6.os I6.base I6.hok I6.bare fun b hb =>
        have z := (fp3 b hb).1
        ⟨z.2.2.2.1, z.2.1, z.2.2.2.2.1, z.2.2.2.2.2⟩
      exact fin D s3.heap.objs.size s6 m H5 I7 qq ns6' (I3.fpOk (Nat.le_refl _) free6)
    · refine thnF (T.item (X.blk s3 H3 scope ce fp) rfl rfl rfl quiet i [] s5 _ H5 (fun _ _ => False) I5 (held I5 free5) t5 go) fun r s6 ⟨u, hr, h6⟩ => ?_
      subst hr
      refine thnF h6 fun _ s7 ⟨x, H7, I7, rx, y7, t7, free7⟩ => ?_
      refine thnF (g4.run _ s7 _ H7 x u _ (I7.pinned (held I7 free7) (T.obj _ _ t7)) rx (step x H7 y7)) fun _ s8 ⟨σ8, H8, I8, wi8, q8⟩ => ?_
      refine thnF (t4.run _ s8 σ8 H8 _ I8 q8) fun b s9 ⟨H9, I9, q9⟩ => ?_
      have over : ∀ {σ9 : L2.St} {t : Shared} {G : Hp}, Inv (X.blk s3 H3 scope ce fp) ([] ++ pinsAt fp s7.heap) σ9 G t → (wipe σ (own.map (·.2))).length = σ9.length → (∀ (j : Nat) v, (wipe σ (own.map (·.2)))[j]? = some (some v) → σ9[j]? = some (some v)) → Nx G →
          ∃ m, m < n ∧ ∃ i G, Inv (X.blk s3 H3 scope ce fp) [] (wipe σ (own.map (·.2))) G t ∧ tn i t.heap ∧ (∀ b ∈ fp, G b = none) ∧ W i m G := fun {σ9 t G} It ln sm nx => by
        obtain ⟨m', lt, w'⟩ := dec G nx
        have same : ∀ b ∈ fp, ∀ o, s7.heap.get? b = some o → t.heap.get? b = some o ∧ G b = none := fun b hb o e =>
          have z := It.pin (b, o) (List.mem_append_right _ (List.mem_append_right _ (mem_pinsAt hb e)))
          ⟨z.1, z.2.1⟩
        refine ⟨m', lt, i + 1, G, (It.unpinned (pins := [])).weak ln sm, T.keep _ _ _ t7 fun b hb o e => (same b hb o e).1, fun b hb => ?_, w'⟩
        obtain ⟨o, e, _⟩ := T.obj _ _ t7 b hb
        exact (same b hb o e).2
      have ln8 : (wipe σ (own.map (·.2))).length = σ8.length := by rw [← wi8, wipe_length]
      have sm8 : ∀ (j : Nat) v, (wipe σ (own.map (·.2)))[j]? = some (some v) → σ8[j]? = some (some v) := fun j v e => by
        rw [← wi8] at e
        exact (wipe_some e).1
      have sm9 : ∀ (j : Nat) v, (wipe σ (own.map (·.2)))[j]? = some (some v) → (wipe σ8 vs1)[j]? = some (some v) := fun j v e => by
        rw [← wi8] at e
        obtain ⟨a1, a2⟩ := wipe_some e
        rw [wipe_out fun z => a2 (hv j z)]
        exact a1
      cases b
      · simp only [Bool.false_eq_true, if_false] at q9 ⊢
        exact over I9 ln8 sm8 q9
      · simp only [if_true] at q9 ⊢
        refine thnF (i14.run _ s9 σ8 H9 _ I9 q9) fun xv s10 hx => thnF hx fun itv s11 h11 => ?_
        obtain ⟨it1, fp1, tn1, J1, H11, rfl, I11, T1, t11, fr11, W1, ⟨m1, w1⟩, turn1⟩ := h11
        have held1 : ∀ {H' : Hp}, (∀ b ∈ fp1, H' b = none) → ∀ b ∈ fp1, FpOk (X.blk s3 H3 scope ce fp) ([] ++ pinsAt fp s7.heap) H' b := fun hn b hb => ⟨hn b hb, (fr11 b hb).2⟩
        have body1 : codeAny (model X.prog X.w) X.A (.compLoop (.SetComp elt [⟨tg, iter, ifs, 0⟩, ⟨tg1, iter1, ifs1, 0⟩] scope pos) 1 (.ref it1) (.ref D) ce)
            (fun r s' => match r with
              | .ok _ => ∃ m, m < n ∧ ∃ i G, Inv (X.blk s3 H3 scope ce fp) [] (wipe σ (own.map (·.2))) G s' ∧ tn i s'.heap ∧ (∀ b ∈ fp, G b = none) ∧ W i m G
              | .error _ => False) s11 := by
          refine loopS_in (fun k t => ∃ j G, Inv (X.blk s3 H3 scope ce fp) ([] ++ pinsAt fp s7.heap) (wipe σ8 vs1) G t ∧ tn1 j t.heap ∧ (∀ b ∈ fp1, G b = none) ∧ W1 j k G) ?_ m1
            ⟨0, H11, I11.weak (wipe_length _ _) (fun j v e => (wipe_some e).1), t11, fun b hb => (fr11 b hb).1, w1⟩
          rintro k s12 ⟨j, H12, I12, t12, fr12, w12⟩
          rcases turn1 j k H12 w12 with ⟨stop1, nx1⟩ | ⟨go1, Nx1, dec1, step1⟩
          · refine thnF (T1.done (X.blk s3 H3 scope ce fp) rfl rfl rfl quiet j _ s12 (wipe σ8 vs1) H12 (fun _ _ => False) I12 (held1 fr12) t12 stop1) fun r s13 ⟨hr, I13⟩ => ?_
            subst hr
            exact over I13 (ln8.trans (wipe_length σ8 vs1).symm) sm9 nx1
          · refine thnF (T1.item (X.blk s3 H3 scope ce fp) rfl rfl rfl quiet j _ s12 (wipe σ8 vs1) H12 (fun _ _ => False) I12 (held1 fr12) t12 go1) fun r s13 ⟨u1, hr, h13⟩ => ?_
            subst hr
            refine thnF h13 fun _ s14 ⟨x1, H14, I14, rx1, y14, t1s, fr14⟩ => ?_
            refine thnF (g14.run _ s14 (wipe σ8 vs1) H14 x1 u1 _ (I14.pinned (held1 fr14) (T1.obj _ _ t1s)) rx1 (step1 x1 H14 y14)) fun _ s15 ⟨σ15, H15, I15, wi15, q15⟩ => ?_
            refine thnF (t14.run _ s15 σ15 H15 _ I15 q15) fun b1 s16 ⟨H16, I16, q16⟩ => ?_
            have over1 : ∀ {t : Shared} {G : Hp}, Inv (X.blk s3 H3 scope ce fp) (([] ++ pinsAt fp s7.heap) ++ pinsAt fp1 s14.heap) σ15 G t → Nx1 G → ∃ m, m < k ∧ ∃ j G, Inv (X.blk s3 H3 scope ce fp) ([] ++ pinsAt fp s7.heap) (wipe σ8 vs1) G t ∧ tn1 j t.heap ∧ (∀ b ∈ fp1, G b = none) ∧ W1 j m G := fun {t G} It nx => by
              obtain ⟨m', lt, w'⟩ := dec1 G nx
              have same : ∀ b ∈ fp1, ∀ o, s14.heap.get? b = some o → t.heap.get? b = some o ∧ G b = none := fun b hb o e =>
                have z := It.pin (b, o) (List.mem_append_right _ (List.mem_append_right _ (mem_pinsAt hb e)))
                ⟨z.1, z.2.1⟩
              refine ⟨m', lt, j + 1, G, It.unpinned.weak (by rw [← wi15, wipe_length]) (fun j v e => by rw [← wi15] at e; exact (wipe_some e).1), T1.keep _ _ _ t1s fun b hb o e => (same b hb o e).1, fun b hb => ?_, w'⟩
              obtain ⟨o, e, _⟩ := T1.obj _ _ t1s b hb
              exact (same b hb o e).2
            cases b1
            · simp only [Bool.false_eq_true, if_false] at q16 ⊢
              exact over1 I16 q16
            · simp only [if_true] at q16 ⊢
              refine thnF (e4.run _ s16 σ15 H16 _ I16 q16) fun z s17 ⟨yv, H17, I17, rz, ad⟩ => ?_
              exact put' _ _ _ _ _ _ _ _ _ _ I17 rz ad fun s18 H18 I18 nx => over1 I18 nx
        exact startS1 body1 (T1.self X.A 0 _ _ _ t11 body1)
  exact PpSet.codeAny_compStart_set body (T.self X.A 0 _ _ _ ts4 body)
theorem pe_sc1 {o0 : Addr → HO} {add : AddT} (fresh : NewSet X.w o0) (put : AddSelf X add) {elt tg iter : Expr} {ifs : List Expr} {scope : Scope} {own : List (PySem.Str × Nat)} {pos : Pos} {wi : TI} {g : TG} {tt : TT} {te : TE} (quiet : X.calm = true) (nd : X.N.Nodup) (ii : PI X tg iter wi) (blk : BlkOk X.N X.env.scope scope own)
    (gg : ∀ (s : Shared) (H : Hp) (C : Addr) (cl : List (PySem.Str × Addr)) (fp : List Addr), PG (X.blk s H scope (compEnvC scope cl C X.env) fp) tg g)
    (tts : ∀ (s : Shared) (H : Hp) (C : Addr) (cl : List (PySem.Str × Addr)) (fp : List Addr), PTs (X.blk s H scope (compEnvC scope cl C X.env) fp) ifs tt)
    (ee : ∀ (s : Shared) (H : Hp) (C : Addr) (cl : List (PySem.Str × Addr)) (fp : List Addr), PE (X.blk s H scope (compEnvC scope cl C X.env) fp) elt te)
    (fold : ∀ x, foldedSetIterable iter X.env x = pure x := by intro _; rfl) : PE X (.SetComp elt [⟨tg, iter, ifs, 0⟩] scope pos) (tScG o0 add wi g tt te (own.map (·.2))) := by
  constructor
  intro pins s σ H Q I h
  rw [PpSet.eval_SetComp]
  refine comp1G fresh put quiet nd I ii blk gg tts ee fold h fun D C s' m H' I' q hn f => ⟨m, hn, fun h'' sb => ⟨.ref D, H', ?_, rfl, q⟩⟩
  exact I'.turned (t' := s'.toks) (fun b o hb e => (sb.2 b hb).trans e) f.1 f.2.1 f.2.2.2.1 f.2.2.2.2.1 f.2.2.2.2.2
theorem pe_sc2 {o0 : Addr → HO} {add : AddT} (fresh : NewSet X.w o0) (put : AddSelf X add) {elt tg iter tg1 iter1 : Expr} {ifs ifs1 : List Expr} {scope : Scope} {own : List (PySem.Str × Nat)} {vs1 : List Nat} {pos : Pos} {wi wi1 : TI} {g g1 : TG} {tt tt1 : TT} {te : TE} (quiet : X.calm = true) (nd : X.N.Nodup) (ii : PI X tg iter wi) (blk : BlkOk X.N X.env.scope scope own) (hv : ∀ i ∈ vs1, i ∈ own.map (·.2))
    (gg : ∀ (s : Shared) (H : Hp) (C : Addr) (cl : List (PySem.Str × Addr)) (fp : List Addr), PG (X.blk s H scope (compEnvC scope cl C X.env) fp) tg g)
    (tts : ∀ (s : Shared) (H : Hp) (C : Addr) (cl : List (PySem.Str × Addr)) (fp : List Addr), PTs (X.blk s H scope (compEnvC scope cl C X.env) fp) ifs tt)
    (ii1 : ∀ (s : Shared) (H : Hp) (C : Addr) (cl : List (PySem.Str × Addr)) (fp : List Addr), PI (X.blk s H scope (compEnvC scope cl C X.env) fp) tg1 iter1 wi1)
    (gg1 : ∀ (s : Shared) (H : Hp) (C : Addr) (cl : List (PySem.Str × Addr)) (fp : List Addr), PG (X.blk s H scope (compEnvC scope cl C X.env) fp) tg1 g1)
    (tts1 : ∀ (s : Shared) (H : Hp) (C : Addr) (cl : List (PySem.Str × Addr)) (fp : List Addr), PTs (X.blk s H scope (compEnvC scope cl C X.env) fp) ifs1 tt1)
    (ee : ∀ (s : Shared) (H : Hp) (C : Addr) (cl : List (PySem.Str × Addr)) (fp : List Addr), PE (X.blk s H scope (compEnvC scope cl C X.env) fp) elt te)
    (fold : ∀ x, foldedSetIterable iter X.env x = pure x := by intro _; rfl) (fold1 : ∀ env x, foldedSetIterable iter1 env x = pure x := by intro _ _; rfl) : PE X (.SetComp elt [⟨tg, iter, ifs, 0⟩, ⟨tg1, iter1, ifs1, 0⟩] scope pos) (tSc2G o0 add wi g tt wi1 g1 tt1 te (own.map (·.2)) vs1) := by
  constructor
  intro pins s σ H Q I h
  rw [PpSet.eval_SetComp]
  refine comp2G fresh put quiet nd I ii blk hv gg tts ee fold ii1 gg1 tts1 fold1 h fun D C s' m H' I' q hn f => ⟨m, hn, fun h'' sb => ⟨.ref D, H', ?_, rfl, q⟩⟩
  exact I'.turned (t' := s'.toks) (fun b o hb e => (sb.2 b hb).trans e) f.1 f.2.1 f.2.2.2.1 f.2.2.2.2.1 f.2.2.2.2.2
end
end Fw

set_option maxRecDepth 100000
set_option maxHeartbeats 2000000
/-! x in a list, deep -/
namespace Fw
open PySem PySem.Spec PyProof.Rows L2
def rInL (K : PySem.W.Frag) : R2 := fun x y H Q => ∃ d ds, Dp K H x d ∧ Dp K H y (.list ds) ∧ SeqAt.shaped d = true ∧ SeqAt.shaped (.list ds) = true ∧ Q (.bl (ds.any fun z => PyData.eqv z d)) H
theorem op_inL {X : Cx} (hu : X.A.units + 64 < cLine) : OpR X (compareOp .In) (rInL X.K) := by
  intro pins s σ H x y v u Q I rx ry h
  obtain ⟨d, ds, hd, he, sd, se, q⟩ := h
  obtain ⟨as, r1⟩ := Dp.reads I d x v hd rx
  obtain ⟨bs, r2⟩ := Dp.reads I (.list ds) y u he ry
  have : X.A.units + 1 + min (PyData.depthAll ds) d.depth < cLine := by
    have e : (PyData.canLay0 (.list ds) && decide (PyData.depth (.list ds) ≤ 64)) = true := se
    have := of_decide_eq_true (Bool.and_eq_true_iff.mp e).2
    simp only [PyData.depth] at this
    omega
  exact SeqAt.in_list_reads r2 r1 (SeqAt.canLay_of_shaped se) (SeqAt.canLay_of_shaped sd) this ⟨.bl _, H, I, rfl, q⟩
def pD (p : Int × Int) : PyData := .tuple [.int p.1, .int p.2]
theorem pD_eqv (p q : Int × Int) : PyData.eqv (pD p) (pD q) = decide (p = q) := by
  obtain ⟨a, b⟩ := p
  obtain ⟨c, d⟩ := q
  simp only [pD, PyData.eqv, PyData.eqvAll, Prod.mk.injEq, Bool.and_true]
  by_cases h1 : a = c <;> by_cases h2 : b = d <;> simp [h1, h2, PyData.eqv]
theorem pD_any (p : Int × Int) (ps : List (Int × Int)) : ((ps.map pD).any fun z => PyData.eqv z (pD p)) = decide (p ∈ ps) := by
  induction ps with
  | nil => simp
  | cons q ps ih =>
    rw [List.map_cons, List.any_cons, ih, pD_eqv]
    by_cases h1 : q = p
    · subst h1; simp
    · have h2 : ¬ p = q := fun e => h1 e.symm
      simp [h1, h2]
theorem pD_shaped (p : Int × Int) : SeqAt.shaped (pD p) = true := by simp [SeqAt.shaped, pD, PyData.canLay0, PyData.canLayAll0, PyData.depth, PyData.depthAll]
theorem pD_lay (ps : List (Int × Int)) : PyData.canLayAll0 (ps.map pD) = true := by
  induction ps with
  | nil => simp [PyData.canLayAll0]
  | cons q ps ih => simp [PyData.canLayAll0, pD, PyData.canLay0] at ih ⊢; exact ih
theorem pD_dep (ps : List (Int × Int)) : PyData.depthAll (ps.map pD) ≤ 2 := by
  induction ps with
  | nil => simp [PyData.depthAll]
  | cons q ps ih => simp [PyData.depthAll, pD, PyData.depth] at ih ⊢; omega
theorem pDs_shaped (ps : List (Int × Int)) : SeqAt.shaped (.list (ps.map pD)) = true := by
  have := pD_dep ps
  simp [SeqAt.shaped, PyData.canLay0, pD_lay, PyData.depth]
  omega
theorem pDs_same (ps : List (Int × Int)) : PyData.eqv (.list (ps.map pD)) (.list (ps.map pD)) = true := SeqAt.eqv_refl _ (by simp [PyData.canLay0, pD_lay])
end Fw

set_option maxRecDepth 100000
set_option maxHeartbeats 4000000
/-! sets of whole numbers and of tuples: rules for the walk -/
namespace Fw
open PySem PySem.Spec PyProof.Rows L2
def addI (w : World) : AddT := fun y D H N => ∃ (k : Int) (S : Int → Bool) (n : Nat), y = .int k ∧ H D = some (SetO w D S n) ∧ n + 1 < scanBound ∧ N (upd H D (SetO w D (fun j => S j || decide (j = k)) (if S k = true then n else n + 1)))
def newI (w : World) (D : Addr) : HO := SetO w D (fun _ => false) 0
theorem newI_ok (w : World) : NewSet w (newI w) := fun P H h => setO_new (setR_fresh w)
theorem addI_ok (X : Cx) : AddSelf X (addI X.w) := by
  intro X' e1 e2 e3 e4 pins σ H s E D y z N Q I r h nx
  obtain ⟨k, S, n, rfl, hD, room, q⟩ := h
  obtain ⟨tk, rfl⟩ : ∃ tk, z = Value.int k tk := r
  rw [← e2] at hD q
  exact addInt I hD room fun s' I' => nx s' _ I' q
/-- a set of tuples, by their places and what they are -/
def SetN0 (w : World) (h : Heap) (a : Addr) (L : List EN) : Prop := ∃ es ep t, SetN1 w h a L es ep t
def SetNO (w : World) (a : Addr) (L : List EN) : HO := .ext fun h => SetN0 w h a L
theorem setNO_new {P : Program} {w : World} {H : Hp} {h : Heap} {a : Addr} {L : List EN} (R : SetN0 w h a L) : ObjOk P w H h a (SetNO w a L) := by
  refine ⟨R, ?_, fun h1 h2 q k => ?_⟩
  · obtain ⟨es, ep, t, ⟨⟨o, ho, _⟩, _⟩⟩ := R
    exact ⟨o, ho⟩
  · obtain ⟨es, ep, t, q⟩ := q
    exact ⟨es, ep, t, q.keep fun o e => k o e⟩
/-- a tuple of whole numbers, within tuples too -/
structure KN (K : PySem.W.Frag) (H : Hp) (e : EN) : Prop where
  is : KIs K H (.ref e.1) e.2
  low : e.2.depth ≤ 8
  num : nmK e.2 = true
theorem KN.map {K : PySem.W.Frag} {H H' : Hp} (s : ∀ a xs, SqT K H a xs → SqT K H' a xs) {e : EN} (h : KN K H e) : KN K H' e := ⟨KIs.map s h.is, h.low, h.num⟩
theorem KN.real {X : Cx} {pins : List (Addr × Obj)} {σ : L2.St} {H : Hp} {s : Shared} (I : Inv X pins σ H s) {e : EN} (h : KN X.K H e) : TupK s.heap e.2 e.1 := ⟨kis_real I h.is rfl, h.low, h.num⟩
def newN (w : World) (D : Addr) : HO := SetNO w D []
theorem newN_ok (w : World) : NewSet w (newN w) := fun P H h => setNO_new ⟨_, _, _, setN1_new (Heap.get?_push_size _ rfl)⟩
def addN (w : World) (K : PySem.W.Frag) : AddT := fun y D H N => ∃ (e : EN) (L : List EN), y = .ref e.1 ∧ H D = some (SetNO w D L) ∧ KN K H e ∧ (∀ x ∈ L, KN K H x) ∧ L.length + 1 < 77 ∧
  ∀ L', (e.2 ∈ L.map (·.2) → L' = L) → (e.2 ∉ L.map (·.2) → L'.Perm (e :: L)) → N (upd H D (SetNO w D L'))
theorem addN_ok (X : Cx) (hu : X.A.units + 64 < cLine) : AddSelf X (addN X.w X.K) := by
  intro X' e1 e2 e3 e4 pins σ H s E D y z N Q I r h nx
  obtain ⟨e, L, rfl, hD, ke, kL, few, q⟩ := h
  obtain rfl : z = Value.ref e.1 := r
  rw [← e2] at hD q
  rw [← e3] at ke kL
  obtain ⟨es, ep, t, R⟩ := (I.hok D _ hD).1
  have hx := ke.real I
  refine wpAny_call_entry F.slot_set_add (by obtain ⟨o, ho, hex, _⟩ := R.ob; exact ⟨o, ho, hex.1⟩) F.entry_set_add ?_ (F.args_set_add_2 _ _)
  unfold Builtin.«set.add» Builtin.Frozenset.oneOther
  simp only [List.isEmpty_nil, bind_assoc]
  unfold Builtin.Frozenset.addrOf setAdd
  refine wpAny_bind (wpAny_pure ?_)
  try dsimp only
  refine wpAny_bind (wpAny_pure ?_)
  try dsimp only
  refine wpAny_bind (wpAny_holding (wpAny_bind ((nestedKind X'.prog X'.w).pyHash (by show _ + 8 < cLine; rw [e4]; simp [Around.in1]; omega) hx.hk ?_)))
  refine putIn (s := { s with toks := s.toks + e.2.draws }) R (fun x hx => (kL x hx).real I) hx (by rw [e4]; simp [Around.in1]; omega) few fun b h' L' es' ep' t' sb R' c1 c2 => ?_
  have there : ∃ u, h'.get? D = some u := by
    obtain ⟨o, ho, _⟩ := R'.ob
    exact ⟨o, ho⟩
  have I' : Inv X' pins σ (upd H D (SetNO X'.w D L')) { s with heap := h', toks := s.toks + e.2.draws } :=
    I.write (e := D) (t' := s.toks + e.2.draws) (by rw [hD]; trivial) (.inl rfl) (fun b u hb hu => (sb.2 b hb).trans hu) there (setNO_new ⟨es', ep', t', R'⟩)
  first
    | exact wpAny_pure ⟨_, rfl, nx _ _ I' (q L' c1 c2)⟩
    | exact wpAny_bind (wpAny_pure (wpAny_pure ⟨_, rfl, nx _ _ I' (q L' c1 c2)⟩))
    | exact wpAny_pure ⟨rfl, nx _ _ I' (q L' c1 c2)⟩
theorem refs_vals : ∀ {ks : List EN} {us : List Value}, Vals (ks.map fun e => V.ref e.1) us → us = ks.map fun e => Value.ref e.1
  | [], _, .nil => rfl
  | e :: ks, _, .cons r t => by
    obtain rfl : _ = Value.ref e.1 := r
    rw [refs_vals t]
    rfl
theorem vals_refs : ∀ ks : List EN, Vals (ks.map fun e => V.ref e.1) (ks.map fun e => Value.ref e.1)
  | [] => .nil
  | e :: ks => .cons rfl (vals_refs ks)
section
variable {X : Cx}
/-- set(xs), xs a list of tuples -/
def rSetTN (K : PySem.W.Frag) (w : World) : List V → Hp → VK → Prop := fun xs H Q => ∃ (l : Addr) (ks : List EN), xs = [V.ref l] ∧ SqL K H l (ks.map fun e => V.ref e.1) ∧ (∀ e ∈ ks, KN K H e) ∧ ks.length < 77 ∧
  ∀ a L, H a = none → (∀ e ∈ L, e ∈ ks) → (∀ e ∈ ks, e.2 ∈ L.map (·.2)) → (L.map (·.2)).Nodup → Q (.ref a) (upd H a (SetNO w a L))
theorem cr_setN (quiet : X.calm = true) (hu : X.A.units + 64 < cLine) : CallR X (.type "set") (rSetTN X.K X.w) := by
  intro pins s σ H xs us Q I r h
  obtain ⟨l, ks, rfl, hl, kk, few, q⟩ := h
  rw [Vals.ref1 r]
  obtain ⟨its, rv, pl, _⟩ := I.list hl
  refine setOfN (P := X.prog) (w := X.w) ks (I.ok.hd quiet) pl.isList (by simpa using refs_vals rv) (fun e he => (kk e he).real I) few (by omega) fun h' tk L es ep t R g kp => ?_
  refine ⟨.ref s.heap.objs.size, upd H s.heap.objs.size (SetNO X.w s.heap.objs.size L), I.laid (t' := tk) kp (Nat.le_refl _) (setNO_new ⟨es, ep, t, R⟩), rfl, q _ L (I.hok.fresh (Nat.le_refl _)) (fun e he => List.mem_of_mem_take (g.sub e he)) (fun e he => g.all e (by rw [List.take_length]; exact he)) R.nd⟩
/-- sorted(set) -/
theorem sorted_core (Ord : List Value → Prop) {pins : List (Addr × Obj)} {σ : L2.St} {H : Hp} {s : Shared} {E : Value → Shared → Prop} {a : Addr} {L : List EN} {Q : Value → Shared → Prop} (quiet : X.calm = true) (I : Inv X pins σ H s) (hD : H a = some (SetNO X.w a L))
    (srt : ∀ (s1 : Shared) (b : Addr) (vs : List Value) (Q : Value → Shared → Prop), s1.heap.get? b = some (seqObj "list" vs.toArray 0) → (∀ c o, s.heap.get? c = some o → c ≠ b ∧ s1.heap.get? c = some o) → vs.Perm (L.map fun e => Value.ref e.1) → L.length < 77 →
      (∀ out : List Value, out.Perm vs → Ord out → Q .none { s1 with heap := sortedHeap s1.heap b vs out.toArray }) → wpAny (model X.prog X.w) X.A.in1 (call (.builtin "list.sort") [.ref b]) Q E s1)
    (q : ∀ (L' : List EN) (p : Addr) (s' : Shared), L'.Perm L → Ord (L'.map fun e => Value.ref e.1) → H p = none → Inv X pins σ (upd H p (.lst (L'.map fun e => V.ref e.1))) s' → Q (.ref p) s') :
    wpAny (model X.prog X.w) X.A (call (.builtin "sorted") [.ref a]) Q E s := by
  obtain ⟨es, ep, t, R⟩ := (I.hok a _ hD).1
  refine sortedOf Ord R (I.ok.hd quiet) (fun s1 b vs Q1 h1 h2 h3 h4 => srt s1 b vs Q1 h1 h2 h3 R.fw h4) fun s' p c L' kp g o sz hp pm oo => ?_
  have hn : H p = none := I.hok.fresh sz
  have hl : (L'.map fun e => V.ref e.1).length ≤ sizeLine := by
    have := R.fw
    rw [List.length_map, pm.length_eq, sizeLine_eq]
    omega
  exact q L' p s' pm oo hn (I.call' (ch := []) o (Un.laid kp sz hn) (I.hok.laid kp sz ⟨hl, _, c, vals_refs L', hp⟩) (by rw [g]; exact I.bare) (fun _ z => nomatch z))
def fK (ns : List Int) : NestedKey := .tup (ns.map .num)
theorem fK_inj {ns ms : List Int} (h : fK ns = fK ms) : ns = ms := (List.map_inj_right fun a b e => NestedKey.num.inj e).mp (NestedKey.tup.inj h)
/-- sorted(set), tuples of whole numbers of any lengths -/
def rSortF (K : PySem.W.Frag) (w : World) : List V → Hp → VK → Prop := fun vs H Q => ∃ (a : Addr) (L : List EN) (f : EN → List Int), vs = [V.ref a] ∧ H a = some (SetNO w a L) ∧ (∀ e ∈ L, SqT K H e.1 ((f e).map V.int) ∧ KIs K H (.ref e.1) e.2 ∧ e.2 = fK (f e)) ∧
  ∀ (L' : List EN) p, L'.Perm L → L'.Pairwise (fun e e' => HT.lexLt (f e') (f e) = false) → H p = none → Q (.ref p) (upd H p (.lst (L'.map fun e => V.ref e.1)))
theorem cr_sortF (quiet : X.calm = true) (hu : X.A.units + 64 < cLine) : CallR X (.builtin "sorted") (rSortF X.K X.w) := by
  intro pins s σ H vs us Q I r h
  obtain ⟨a, L, f, rfl, hD, kf, q⟩ := h
  rw [Vals.ref1 r]
  have one : ∀ e ∈ L, ∀ e' ∈ L, e.1 = e'.1 → f e = f e' := fun e he e' he' z => by
    have k1 := kis_real (s := s) I (kf e he).2.1 (u := .ref e.1) rfl
    have k2 := kis_real (s := s) I (kf e' he').2.1 (u := .ref e'.1) rfl
    rw [← z] at k2
    have := NestedIs.inj _ _ _ k1 k2
    rw [(kf e he).2.2, (kf e' he').2.2] at this
    exact fK_inj this
  have kof : ∀ e ∈ L, (fun v => if h : ∃ e ∈ L, v = Value.ref e.1 then f h.choose else []) (Value.ref e.1) = f e := fun e he => by
    have hh : ∃ e' ∈ L, Value.ref e.1 = Value.ref e'.1 := ⟨e, he, rfl⟩
    show (if h : ∃ e' ∈ L, Value.ref e.1 = Value.ref e'.1 then f h.choose else []) = f e
    rw [dif_pos hh]
    obtain ⟨m, ev⟩ := hh.choose_spec
    exact one _ m _ he (Value.ref.inj ev).symm
  generalize (fun v => if h : ∃ e ∈ L, v = Value.ref e.1 then f h.choose else []) = k at kof
  refine sorted_core (SrtO.Srtd fun v u => HT.lexLt (k v) (k u)) quiet I hD (fun s1 b vs Q1 hb kp pm few n => ?_) fun L' p s' pm oo hn I' => ⟨.ref p, _, I', rfl, q L' p pm ?_ hn⟩
  · refine sort_flat (by simp [Around.in1]; omega) hb (by rw [pm.length_eq, List.length_map, sizeLine_eq]; omega) k (fun v hv => ?_) n
    obtain ⟨e, m, rfl⟩ := List.mem_map.mp (pm.mem_iff.mp hv)
    rw [kof e m]
    obtain ⟨its, rv, ⟨o, ho, hc, n', hd⟩, _⟩ := I.tuple (kf e m).1
    exact ⟨e.1, o, its.toArray, n', rfl, (kp _ _ ho).2, hc, hd, by simpa using ints_vals rv⟩
  · have o2 := List.pairwise_map.mp oo
    refine List.Pairwise.imp_of_mem (fun {e e'} he he' z => ?_) o2
    rw [← kof e (pm.mem_iff.mp he), ← kof e' (pm.mem_iff.mp he')]
    exact z
mutual
theorem kis_reads {pins : List (Addr × Obj)} {σ : L2.St} {H : Hp} {s : Shared} (I : Inv X pins σ H s) : ∀ {v : V} {k : NestedKey} {u : Value}, KIs X.K H v k → RelV v u → Reads s.heap u k.data []
  | _, _, _, .int i, r => by
    obtain ⟨t, rfl⟩ : ∃ t, _ = Value.int i t := r
    exact .int i t
  | _, _, _, .str x, r => by
    obtain ⟨t, rfl⟩ : ∃ t, _ = Value.str x t := r
    exact .str x t
  | _, _, _, .tup h all, r => by
    obtain rfl : _ = Value.ref _ := r
    obtain ⟨its, rv, ⟨o, e, c, n, d⟩, _⟩ := I.tuple h
    exact .tuple e c d (by simpa using kall_reads I all rv)
theorem kall_reads {pins : List (Addr × Obj)} {σ : L2.St} {H : Hp} {s : Shared} (I : Inv X pins σ H s) : ∀ {vs : List V} {ks : List NestedKey} {us : List Value}, KAll X.K H vs ks → Vals vs us → ReadsAll s.heap us (NestedKey.datas ks) []
  | _, _, _, .nil, .nil => .nil
  | _, _, _, .cons h r, .cons a b => .cons (kis_reads I h a) (kall_reads I r b)
end
theorem reads_mv {h h' : Heap} (k : ∀ b o, h.get? b = some o → h'.get? b = some o) {v : Value} {d : PyData} {as : List Addr} (r : Reads h v d as) : Reads h' v d as := PyProof.Rows.Reads.keeps (fun b o e => k b o e) r
open PySem.W in
/-- sorted(set), tuples within tuples that are alike: in some order -/
def rSortD (K : PySem.W.Frag) (w : World) : List V → Hp → VK → Prop := fun vs H Q => ∃ (a : Addr) (L : List EN), vs = [V.ref a] ∧ H a = some (SetNO w a L) ∧ (∀ e ∈ L, KIs K H (.ref e.1) e.2) ∧ (∀ e ∈ L, e.2.data.depth ≤ 8) ∧ (∀ e ∈ L, ∀ e' ∈ L, alike e.2.data e'.2.data = true) ∧
  (∀ e ∈ L, ∃ x r, e.2.data = .tuple (x :: r)) ∧ ∀ (L' : List EN) p, L'.Perm L → H p = none → Q (.ref p) (upd H p (.lst (L'.map fun e => V.ref e.1)))
theorem cr_sortD (quiet : X.calm = true) (hu : X.A.units + 64 < cLine) : CallR X (.builtin "sorted") (rSortD X.K X.w) := by
  intro pins s σ H vs us Q I r h
  obtain ⟨a, L, rfl, hD, kk, low, al, ne, q⟩ := h
  rw [Vals.ref1 r]
  refine sorted_core (fun _ => True) quiet I hD (fun s1 b vs Q1 hb kp pm few n => ?_) fun L' p s' pm _ hn I' => ⟨.ref p, _, I', rfl, q L' p pm hn⟩
  exact sort_deep (by simp [Around.in1]; omega) hb few pm (fun e he => reads_mv (fun c o z => (kp c o z).2) (kis_reads I (kk e he) rfl)) low al ne fun out po => n out po trivial
end
end Fw

set_option maxRecDepth 100000
set_option maxHeartbeats 2000000
namespace Fw
open PySem PySem.Spec PyProof.Rows L2
theorem scG_it {J : It} {n : Nat} {G : Hp → Prop} {Y : Nat → Hp → V → Hp → Prop} (wk : Walk J n G Y) {o0 : Addr → HO} {add : AddT} {g : TG} {tt : TT} {te : TE} {vs : List Nat} {σ : L2.St} {H1 : Hp} {D : Addr} {Qd : Hp → Prop} (Pv : Nat → Hp → Prop)
    (h0 : Pv 0 (upd H1 D (o0 D))) (hG : ∀ i H, i ≤ n → Pv i H → G H)
    (hs : ∀ i x H H', i < n → Pv i H → Y i H x H' → g x (wipe σ vs) H' fun σ2 H2 => wipe σ2 vs = wipe σ vs ∧ tt σ2 H2 fun b H3 =>
      if b = true then te σ2 H3 fun y H4 => add y D H4 (Pv (i + 1)) else Pv (i + 1) H3) (hd : ∀ H, Pv n H → Qd H) :
    ∃ W : Nat → Nat → Hp → Prop, (∃ m, W 0 m (upd H1 D (o0 D))) ∧ ∀ i m H, W i m H →
      (J.stop i H ∧ Qd H) ∨ (J.go i H ∧ ∃ Nx : Hp → Prop, (∀ H', Nx H' → ∃ m', m' < m ∧ W (i + 1) m' H') ∧ ∀ x H', J.yld i H x H' → g x (wipe σ vs) H' fun σ2 H2 => wipe σ2 vs = wipe σ vs ∧ tt σ2 H2 fun b H3 =>
        if b = true then te σ2 H3 fun y H4 => add y D H4 Nx else Nx H3) := by
  refine ⟨fun i m H => m = n - i ∧ i ≤ n ∧ Pv i H, ⟨n, by simp, Nat.zero_le _, h0⟩, ?_⟩
  rintro i m H ⟨rfl, hi, p⟩
  have q := hG i H hi p
  by_cases lt : i < n
  · exact .inr ⟨wk.goes i H lt q, Pv (i + 1), fun H' p' => ⟨n - (i + 1), by omega, rfl, lt, p'⟩, fun x H' y => hs i x H H' lt p (wk.yields i H x H' lt q y)⟩
  · obtain rfl : i = n := by omega
    exact .inl ⟨wk.stops H q, hd H p⟩
/-- the inner clause -/
theorem inG_it {J : It} {n : Nat} {G : Hp → Prop} {Y : Nat → Hp → V → Hp → Prop} (wk : Walk J n G Y) {add : AddT} {g : TG} {tt : TT} {te : TE} {vs : List Nat} {σ : L2.St} {H1 : Hp} {D : Addr} {Nx : Hp → Prop} (Pv : Nat → Hp → Prop) (h0 : Pv 0 H1) (hG : ∀ i H, i ≤ n → Pv i H → G H)
    (hs : ∀ i x H H', i < n → Pv i H → Y i H x H' → g x (wipe σ vs) H' fun σ2 H2 => wipe σ2 vs = wipe σ vs ∧ tt σ2 H2 fun b H3 =>
      if b = true then te σ2 H3 fun y H4 => add y D H4 (Pv (i + 1)) else Pv (i + 1) H3) (hd : ∀ H, Pv n H → Nx H) :
    ∃ W : Nat → Nat → Hp → Prop, (∃ m, W 0 m H1) ∧ ∀ i m H, W i m H →
      (J.stop i H ∧ Nx H) ∨ (J.go i H ∧ ∃ Nx1 : Hp → Prop, (∀ H', Nx1 H' → ∃ m', m' < m ∧ W (i + 1) m' H') ∧ ∀ x H', J.yld i H x H' → g x (wipe σ vs) H' fun σ2 H2 => wipe σ2 vs = wipe σ vs ∧ tt σ2 H2 fun b H3 =>
        if b = true then te σ2 H3 fun y H4 => add y D H4 Nx1 else Nx1 H3) := by
  refine ⟨fun i m H => m = n - i ∧ i ≤ n ∧ Pv i H, ⟨n, by simp, Nat.zero_le _, h0⟩, ?_⟩
  rintro i m H ⟨rfl, hi, p⟩
  have q := hG i H hi p
  by_cases lt : i < n
  · exact .inr ⟨wk.goes i H lt q, Pv (i + 1), fun H' p' => ⟨n - (i + 1), by omega, rfl, lt, p'⟩, fun x H' y => hs i x H H' lt p (wk.yields i H x H' lt q y)⟩
  · obtain rfl : i = n := by omega
    exact .inl ⟨wk.stops H q, hd H p⟩
theorem sc2G_it {J : It} {n : Nat} {G : Hp → Prop} {Y : Nat → Hp → V → Hp → Prop} (wk : Walk J n G Y) {o0 : Addr → HO} {add : AddT} {wi1 : TI} {g g1 : TG} {tt tt1 : TT} {te : TE} {vs vs1 : List Nat} {σ : L2.St} {H1 : Hp} {D : Addr} {Qd : Hp → Prop} (Pv : Nat → Hp → Prop)
    (h0 : Pv 0 (upd H1 D (o0 D))) (hG : ∀ i H, i ≤ n → Pv i H → G H)
    (hs : ∀ i x H H', i < n → Pv i H → Y i H x H' → g x (wipe σ vs) H' fun σ2 H2 => wipe σ2 vs = wipe σ vs ∧ tt σ2 H2 fun b H3 =>
      if b = true then wi1 σ2 H3 fun J1 H4 => ∃ W1 : Nat → Nat → Hp → Prop, (∃ m, W1 0 m H4) ∧ ∀ j k H, W1 j k H →
        (J1.stop j H ∧ Pv (i + 1) H) ∨ (J1.go j H ∧ ∃ Nx1 : Hp → Prop, (∀ H', Nx1 H' → ∃ k', k' < k ∧ W1 (j + 1) k' H') ∧ ∀ x H', J1.yld j H x H' → g1 x (wipe σ2 vs1) H' fun σ3 H5 => wipe σ3 vs1 = wipe σ2 vs1 ∧ tt1 σ3 H5 fun b H6 =>
          if b = true then te σ3 H6 fun y H7 => add y D H7 Nx1 else Nx1 H6)
      else Pv (i + 1) H3) (hd : ∀ H, Pv n H → Qd H) :
    ∃ W : Nat → Nat → Hp → Prop, (∃ m, W 0 m (upd H1 D (o0 D))) ∧ ∀ i m H, W i m H →
      (J.stop i H ∧ Qd H) ∨ (J.go i H ∧ ∃ Nx : Hp → Prop, (∀ H', Nx H' → ∃ m', m' < m ∧ W (i + 1) m' H') ∧ ∀ x H', J.yld i H x H' → g x (wipe σ vs) H' fun σ2 H2 => wipe σ2 vs = wipe σ vs ∧ tt σ2 H2 fun b H3 =>
        if b = true then wi1 σ2 H3 fun J1 H4 => ∃ W1 : Nat → Nat → Hp → Prop, (∃ m, W1 0 m H4) ∧ ∀ j k H, W1 j k H →
          (J1.stop j H ∧ Nx H) ∨ (J1.go j H ∧ ∃ Nx1 : Hp → Prop, (∀ H', Nx1 H' → ∃ k', k' < k ∧ W1 (j + 1) k' H') ∧ ∀ x H', J1.yld j H x H' → g1 x (wipe σ2 vs1) H' fun σ3 H5 => wipe σ3 vs1 = wipe σ2 vs1 ∧ tt1 σ3 H5 fun b H6 =>
            if b = true then te σ3 H6 fun y H7 => add y D H7 Nx1 else Nx1 H6)
        else Nx H3) := by
  refine ⟨fun i m H => m = n - i ∧ i ≤ n ∧ Pv i H, ⟨n, by simp, Nat.zero_le _, h0⟩, ?_⟩
  rintro i m H ⟨rfl, hi, p⟩
  have q := hG i H hi p
  by_cases lt : i < n
  · exact .inr ⟨wk.goes i H lt q, Pv (i + 1), fun H' p' => ⟨n - (i + 1), by omega, rfl, lt, p'⟩, fun x H' y => hs i x H H' lt p (wk.yields i H x H' lt q y)⟩
  · obtain rfl : i = n := by omega
    exact .inl ⟨wk.stops H q, hd H p⟩
end Fw

set_option maxRecDepth 100000
set_option maxHeartbeats 4000000
namespace Fw
open PySem PySem.Spec PyProof.Rows L2
def tTru (K : PySem.W.Frag) (ta : TE) : TT := fun σ H Q => ta σ H fun x H' => ∃ k, TruV K x H' k ∧ Q k H'
def halfs (c : Nat) (ps : List Nat) : List Nat := ps.flatMap fun p => [p &&& c, wo p c]
theorem halfs_len (c : Nat) (ps : List Nat) : (halfs c ps).length = 2 * ps.length := by
  induction ps with
  | nil => rfl
  | cons p ps ih =>
    unfold halfs at ih ⊢
    rw [List.flatMap_cons, List.length_append, ih, List.length_cons, List.length_cons, List.length_cons, List.length_nil]
    omega
theorem halfs_snoc (c p : Nat) (ps : List Nat) : halfs c (ps ++ [p]) = halfs c ps ++ [p &&& c, wo p c] := by
  unfold halfs
  rw [List.flatMap_append]
  simp
theorem Pcs.len {n b : Nat} {cs ps : List Nat} (h : Pcs b cs ps) (hb : ∀ s, tb b s → s < n) : ps.length ≤ n := by
  have nd : (ps.map lsb).Nodup := by
    rw [List.nodup_iff_pairwise_ne, List.pairwise_map]
    refine h.dis.imp_of_mem fun {x y} hx hy d e => d _ (lsb_ok (h.ne x hx)).1 (by rw [e]; exact (lsb_ok (h.ne y hy)).1)
  have := L2.nat_nodup_len (ps.map lsb) (List.range n) nd fun x hx => by
    obtain ⟨p, hp, rfl⟩ := List.mem_map.mp hx
    exact List.mem_range.mpr (hb _ (h.sub p hp _ (lsb_ok (h.ne p hp)).1))
  rwa [List.length_map, List.length_range] at this
theorem nats_nth {ms : List Nat} {i : Nat} {x : V} (h : (ms.map fun m => V.int ((m : Nat) : Int))[i]? = some x) : ∃ m, ms[i]? = some m ∧ x = .int ((m : Nat) : Int) := by
  rw [List.getElem?_map] at h
  cases e : ms[i]? with
  | none => rw [e] at h; cases h
  | some m => rw [e] at h; exact ⟨m, rfl, (Option.some.inj h).symm⟩
section
variable {P : Program} {w : World} {K : PySem.W.Frag} {mg : Str → Option Value} {base : Heap} {C J B WC NC : Addr}
def spLeast : Sp := fun vs H Q _ => ∃ m : Nat, vs = [.int (m : Nat)] ∧ m ≠ 0 ∧ Q (.int ((2 ^ lsb m : Nat) : Int)) H
theorem ok_least_of {f : Addr} {fd : FuncData} (FF : Fun K "least_of" "least_of" s_least_of f fd) : FnOk P w K mg base CX0 1 f fd a_least_of spLeast := by
  refine FF.ok sc_least_of (fun vs H Q E h => ?_) (fun cdv A outer s H vs Q E hr h => ?_)
  · obtain ⟨m, rfl, _⟩ := h
    rfl
  · obtain ⟨m, rfl, hm, k⟩ := h
    refine ⟨_, (pss_one (ps_ret (pe_op op_and (pv 0) (pe_un un_neg (pv 0))))), ?_⟩
    obtain ⟨_, _, l3, l4⟩ := lsb_ok hm
    refine ⟨.int (m : Nat), rfl, .int (m : Nat), rfl, _, rfl, _, _, rfl, rfl, ?_⟩
    have e : (fun i j : Int => V.int (Builtin.bitAnd i j)) ((m : Nat) : Int) (-((m : Nat) : Int)) = V.int ((2 ^ lsb m : Nat) : Int) := by
      show V.int _ = _
      rw [low_nat l3 l4]
    rw [e]
    exact k
def spCut : Sp := fun vs H Q _ => ∃ (n b : Nat) (ca : Addr) (cs : List Nat), vs = [.int (b : Nat), .ref ca] ∧ MsAt H ca cs ∧ b ≠ 0 ∧ (∀ s, tb b s → s < n) ∧ n ≤ 400 ∧
  ∀ l H', Same H H' → H l = none → MsAt H' l (cutUp b cs) → Q (.ref l) H'
theorem ok_cut_up {f : Addr} {fd : FuncData} (FF : Fun K "cut_up" "cut_up" s_cut_up f fd) : FnOk P w K mg base CX0 1 f fd a_cut_up spCut := by
  refine FF.ok sc_cut_up (fun vs H Q E h => ?_) (fun cdv A outer s H vs Q E hr h => ?_)
  · obtain ⟨n, b, ca, cs, rfl, _⟩ := h
    rfl
  · obtain ⟨n, b, ca, cs, rfl, hca, hb, hbn, hn, k⟩ := h
    refine ⟨_, (pss_cons (ps_set (i := 2) sc_cut_up.nd rfl (.inl rfl) (pe_lst (pa_cons (pv 0) pa_nil)))
      (pss_cons (ps_for PassesOwn.never rfl (pi_list (pv 1)) (pg_name (i := 3) sc_cut_up.nd rfl (.inr rfl)) (pss_cons (ps_setLc2 (i := 4) (own := [("piece", 5), ("half", 6)]) (vs1 := [6]) rfl sc_cut_up.nd rfl rfl (sw_true rfl rfl rfl (by decide +kernel)) (pi_list (pv 2)) (blkOk_by (own := [("piece", 5), ("half", 6)]) (N := n_cut_up) (sc := defScope s_cut_up) (by decide +kernel)) (by decide) (fun _ _ _ _ _ => (pg_name (i := 5) sc_cut_up.nd rfl (.inl rfl))) (fun _ _ _ _ _ => pts_nil) (fun _ _ _ _ _ => (@id (PI _ _ _ (iTup K _)) (pi_tup (pe_tup (pa_cons (pe_op op_and (pv 5) (pv 3)) (pa_cons (pe_op op_and (pv 5) (pe_un un_inv (pv 3))) pa_nil)))))) (fun _ _ _ _ _ => (pg_name (i := 6) sc_cut_up.nd rfl (.inl rfl))) (fun _ _ _ _ _ => pts_nil) (fun _ _ _ _ _ => (pv 6)))
      (pss_one (ps_setLc (i := 2) (own := [("half", 6)]) (g := gName 6) rfl sc_cut_up.nd rfl rfl (sw_true rfl rfl rfl (by decide +kernel)) (pi_list (pv 4)) (blkOk_by (own := [("half", 6)]) (N := n_cut_up) (sc := defScope s_cut_up) (by decide +kernel)) (fun _ _ _ _ _ => (pg_name (i := 6) sc_cut_up.nd rfl (.inl rfl))) (fun _ _ _ _ _ => (pts_one (@id (PT _ _ (tTru K _)) (pt_truth (pv 6) (by intro _; rfl))))) (fun _ _ _ _ _ => (pv 6))))))
      (pss_one (ps_ret (pv 2))))), ?_⟩
    refine ⟨.int (b : Nat), rfl, by show 1 ≤ sizeLine; decide, fun l0 hl0 => ?_⟩
    have s0 := Same.new (o := .lst [V.int ((b : Nat) : Int)]) hl0
    have g0 : MsAt (upd H l0 (.lst [V.int ((b : Nat) : Int)])) l0 (cutUp b (cs.take 0)) := upd_same
    refine ⟨.ref ca, rfl, ca, rfl, ⟨_, SqL.of (s0 _ _ hca)⟩, for_list (xs := cs.map fun m => V.int ((m : Nat) : Int)) (fun i σ G => ∃ (l : Addr) (y3 y4 y5 y6 : Option V), σ = [some (.int (b : Nat)), some (.ref ca), some (.ref l), y3, y4, y5, y6] ∧ Same H G ∧ H l = none ∧ MsAt G l (cutUp b (cs.take i)))
      ⟨l0, none, none, none, none, rfl, s0, hl0, g0⟩ (fun i σ G _ ⟨_, _, _, _, _, _, sG, _⟩ => SqL.of (sG _ _ hca)) ?_ ?_⟩
    · rintro i x σ G hx ⟨l, y3, y4, y5, y6, rfl, sG, nl, gl⟩
      obtain ⟨c, hc, rfl⟩ := nats_nth hx
      have len := (cutUp_ok hb (cs.take i)).len hbn
      have nx : cutUp b (cs.take (i + 1)) = cut1 c (cutUp b (cs.take i)) := by rw [List.take_add_one, hc, Option.toList_some, cutUp_snoc]
      generalize cutUp b (cs.take i) = ps at gl len nx
      refine ⟨.ref l, rfl, l, rfl, ⟨_, SqL.of gl⟩, fun D hD => ?_⟩
      refine lc2_it walk_list (fun i G' => Same G G' ∧ MsAt G' D (halfs c (ps.take i))) ⟨Same.new hD, upd_same⟩ (fun i G' _ q => SqL.of (q.1 _ _ gl)) ?_ ?_
      · rintro j x GX G0 hj ⟨s1, gD⟩ ⟨rfl, hx1⟩
        obtain ⟨p, hp, rfl⟩ := nats_nth hx1
        rw [List.length_map] at hj
        have nx1 : halfs c (ps.take (j + 1)) = halfs c (ps.take j) ++ [p &&& c, wo p c] := by rw [List.take_add_one, hp, Option.toList_some, halfs_snoc]
        have hl2 : (halfs c (ps.take j)).length ≤ 2 * n := by rw [halfs_len, List.length_take]; omega
        have e1 : (fun i j : Int => V.int (Builtin.bitAnd i j)) ((p : Nat) : Int) ((c : Nat) : Int) = V.int ((p &&& c : Nat) : Int) := by show V.int _ = _; rw [and_nat]
        have e2 : (fun i j : Int => V.int (Builtin.bitAnd i j)) ((p : Nat) : Int) (Builtin.bitNot ((c : Nat) : Int)) = V.int ((wo p c : Nat) : Int) := by show V.int _ = _; rw [wo_nat]
        refine ⟨rfl, .int (p : Nat), rfl, .int (c : Nat), rfl, _, _, rfl, rfl, .int (p : Nat), rfl, .int (c : Nat), rfl, _, rfl, _, _, rfl, rfl, by show 2 ≤ sizeLine; decide, fun tp htp => ?_⟩
        rw [e1, e2]
        have s2 := Same.new (o := .tup [V.int ((p &&& c : Nat) : Int), V.int ((wo p c : Nat) : Int)]) htp
        have gt : (upd G0 tp (.tup [V.int ((p &&& c : Nat) : Int), V.int ((wo p c : Nat) : Int)])) tp = some (.tup [V.int ((p &&& c : Nat) : Int), V.int ((wo p c : Nat) : Int)]) := upd_same
        have gD1 := s2 _ _ gD
        have s12 := s1.trans s2
        generalize upd G0 tp (.tup [V.int ((p &&& c : Nat) : Int), V.int ((wo p c : Nat) : Int)]) = G1 at s2 gt gD1 s12
        refine ⟨tp, rfl, ⟨_, SqT.of gt⟩, ?_⟩
        refine in2_it walk_tup (fun q G2 => Same G G2 ∧ G2 tp = some (.tup [V.int ((p &&& c : Nat) : Int), V.int ((wo p c : Nat) : Int)]) ∧ MsAt G2 D (halfs c (ps.take j) ++ [p &&& c, wo p c].take q)) ⟨s12, gt, by rw [List.take_zero, List.append_nil]; exact gD1⟩ (fun _ _ _ q => SqT.of q.2.1) ?_ ?_
        · rintro q x G2 G3 hq ⟨s3, gt3, gD3⟩ ⟨rfl, hx3⟩
          have hq2 : q < 2 := hq
          obtain ⟨z, hz, rfl⟩ : ∃ z, [p &&& c, wo p c][q]? = some z ∧ x = .int ((z : Nat) : Int) := nats_nth (ms := [p &&& c, wo p c]) hx3
          refine ⟨rfl, .int (z : Nat), rfl, _, gD3, ?_, fun b o e => ?_, ?_, ?_⟩
          · rw [List.length_map, List.length_append, List.length_take]
            exact small1000 (by simp; omega)
          · rw [upd_ne (ne_of_none e hD)]
            exact s3 b o e
          · rw [upd_ne (ne_of gt3 gD3 (by intro z; cases z))]; exact gt3
          · show _ = _
            rw [upd_same, List.take_add_one, hz, Option.toList_some]
            simp only [List.map_append, List.append_assoc]
            rfl
        · rintro G2 ⟨s3, gt3, gD3⟩
          exact ⟨s3, by rw [nx1]; exact gD3⟩
      · rintro G1 ⟨s1, gD⟩
        rw [List.length_map, List.take_length] at gD
        refine ⟨.ref D, rfl, D, rfl, ⟨_, SqL.of gD⟩, fun D2 hD2 => ?_⟩
        refine lc_list (xs := (halfs c ps).map fun m => V.int ((m : Nat) : Int)) (fun j G2 => Same G1 G2 ∧ MsAt G2 D2 (((halfs c ps).take j).filter fun h => h != 0)) ⟨Same.new hD2, upd_same⟩ (fun j G2 _ q => SqL.of (q.1 _ _ gD)) ?_ ?_
        · rintro j x G2 hx2 ⟨s2, gD2⟩
          obtain ⟨z, hz, rfl⟩ := nats_nth hx2
          have hl3 : (((halfs c ps).take j).filter fun h => h != 0).length ≤ 2 * n := by
            have h1 := List.length_filter_le (fun h : Nat => h != 0) ((halfs c ps).take j)
            rw [List.length_take, halfs_len] at h1
            omega
          have tk : ((halfs c ps).take (j + 1)).filter (fun h => h != 0) = ((halfs c ps).take j).filter (fun h => h != 0) ++ if (z != 0) = true then [z] else [] := by
            rw [List.take_add_one, hz, Option.toList_some, List.filter_append]
            congr 1
            cases h : (z != 0) <;> simp [h]
          have tz : (((z : Nat) : Int) != 0) = (z != 0) := by
            cases z with
            | zero => rfl
            | succ z => simp [bne_iff_ne]; omega
          refine ⟨rfl, .int (z : Nat), rfl, (((z : Nat) : Int) != 0), rfl, ?_⟩
          rw [tz]
          cases hz0 : (z != 0) with
          | true =>
            refine iteT ⟨.int (z : Nat), rfl, _, gD2, by rw [List.length_map]; exact small1000 (by omega), fun b o e => by rw [upd_ne (ne_of_none e hD2)]; exact s2 b o e, ?_⟩
            show _ = _
            rw [upd_same, tk, hz0, if_pos rfl, List.map_append]
            rfl
          | false =>
            refine iteF ⟨s2, ?_⟩
            rw [tk, hz0, if_neg Bool.false_ne_true, List.append_nil]
            exact gD2
        · rintro G2 ⟨s2, gD2⟩
          rw [List.length_map, List.take_length] at gD2
          refine ⟨D2, _, _, _, _, rfl, sG.trans (s1.trans s2), ?_, ?_⟩
          · cases e : H D2 with
            | none => rfl
            | some u => rw [s1 _ _ (sG _ _ e)] at hD2; cases hD2
          · rw [nx]
            exact gD2
    · rintro σ G ⟨l, y3, y4, y5, y6, rfl, sG, nl, gl⟩
      rw [List.length_map, List.take_length] at gl
      exact ⟨.ref l, rfl, k l G sG nl gl⟩
end
end Fw

set_option maxRecDepth 100000
set_option maxHeartbeats 4000000
/-! max(xs, default=d) of whole numbers; name = {k: v for ..} on one line; a dict comprehension over any walk -/
namespace Fw
open PySem PySem.Spec PyProof.Rows L2
theorem reads_ints {h : Heap} : ∀ {its : List Value} {ns : List Int}, IntsAre its ns → ReadsAll h its (ns.map PyData.int) []
  | _, _, .nil => .nil
  | _, _, .cons k t r => by
    have := ReadsAll.cons (Reads.int (h := h) k t) (reads_ints r)
    exact this
theorem alike_ints (ns : List Int) : PySem.W.AlikeAll (ns.map PyData.int) := by
  refine ⟨fun x hx y hy => ?_, fun x hx => ?_⟩
  · obtain ⟨a, _, rfl⟩ := List.mem_map.mp hx
    obtain ⟨b, _, rfl⟩ := List.mem_map.mp hy
    simp [PySem.W.alike]
  · obtain ⟨a, _, rfl⟩ := List.mem_map.mp hx
    intro e
    cases e
theorem depth_ints : ∀ ns : List Int, PyData.depthAll (ns.map PyData.int) = 0
  | [] => by simp [PyData.depthAll]
  | n :: ns => by simp [PyData.depthAll, PyData.depth, depth_ints ns]
theorem fold_max (n : Int) : ∀ ns : List Int, ns.foldl max n ∈ n :: ns ∧ ∀ y ∈ n :: ns, y ≤ ns.foldl max n
  | [] => by simp
  | k :: r => by
    obtain ⟨h1, h2⟩ := fold_max (max n k) r
    rw [List.foldl_cons]
    refine ⟨?_, fun y hy => ?_⟩
    · rcases List.mem_cons.mp h1 with e | e
      · rw [e]
        rcases Int.le_total n k with q | q
        · rw [Int.max_eq_right q]
          exact List.mem_cons_of_mem _ List.mem_cons_self
        · rw [Int.max_eq_left q]
          exact List.mem_cons_self
      · exact List.mem_cons_of_mem _ (List.mem_cons_of_mem _ e)
    · have top := h2 (max n k) List.mem_cons_self
      rcases List.mem_cons.mp hy with rfl | hy
      · exact Int.le_trans (Int.le_max_left _ _) top
      · rcases List.mem_cons.mp hy with rfl | hy
        · exact Int.le_trans (Int.le_max_right _ _) top
        · exact h2 y (List.mem_cons_of_mem _ hy)
theorem reads_int {h : Heap} {v : Value} {n : Int} {bs : List Addr} (r : Reads h v (.int n) bs) : ∃ t, v = .int n t := by
  cases r
  exact ⟨_, rfl⟩
section
variable {X : Cx}
def rMaxDf (K : PySem.W.Frag) : List V → List V → Hp → VK → Prop := fun vs zs H Q => ∃ (a : Addr) (ns : List Int) (d : Int), vs = [V.ref a] ∧ zs = [V.int d] ∧ SqL K H a (ns.map V.int) ∧
  ∀ m : Int, ((ns = [] ∧ m = d) ∨ (m ∈ ns ∧ ∀ y ∈ ns, y ≤ m)) → Q (.int m) H
theorem cr_maxDf (calm : X.calm = true) (room : X.A.units + 1 < cLine) : CallRK X (.builtin "max") [PySem.Str.ofString "default"] (rMaxDf X.K) := by
  intro pins s σ H vs zs us ws Q I r rz h
  obtain ⟨a, ns, d, rfl, rfl, hs, q⟩ := h
  obtain ⟨its, rv, hl, _⟩ := I.list hs
  rw [Vals.ref1 r]
  obtain ⟨w, rfl, ew⟩ := vals1 rz
  obtain ⟨td, rfl⟩ : ∃ t, w = Value.int d t := ew
  have iv := intsOfVals rv
  refine PySem.W.max_list_default (I.ok.hd calm) hl.isList (reads_ints iv) (alike_ints ns) (by rw [depth_ints]; exact room) (fun e h' tk kp => ?_) (fun y ys i v h' tk bs e hi rd kp => ?_)
  · have e' : ns = [] := List.map_eq_nil_iff.mp e
    exact ⟨.int d, H, I.kept kp, ⟨_, rfl⟩, q d (.inl ⟨e', rfl⟩)⟩
  · cases ns with
    | nil => cases e
    | cons n ns =>
      rw [List.map_cons] at e
      injection e with e1 e2
      subst e1
      subst e2
      rw [PySem.W.maxD_ints] at rd
      obtain ⟨t, rfl⟩ := reads_int rd
      exact ⟨.int _, H, I.kept kp, ⟨_, rfl⟩, q _ (.inr (fold_max n ns))⟩
/-- name = {..} on one line, the name a local -/
theorem ps_setDc {i : Nat} {y : PySem.Str} {py : Pos} {kx vx tg iter : Expr} {ifs : List Expr} {scope : Scope} {own : List (PySem.Str × Nat)} {pos spos : Pos} {wi : TI} {g : TG} {tt : TT} {tk tv : TE}
    (calm : X.calm = true) (nd : X.N.Nodup) (hy : X.N[i]? = some y) (loc : X.env.scope.names.lookup y = some .local)
    (sw : swapsWith (.DictComp kx vx [⟨tg, iter, ifs, 0⟩] scope pos) (some (.Name y py)) spos.line X.env = pure true) (walk : PI X tg iter wi) (blk : BlkOk X.N X.env.scope scope own)
    (gg : ∀ s H C cl fp, PG (X.blk s H scope (compEnvC scope cl C X.env) fp) tg g)
    (tts : ∀ s H C cl fp, PTs (X.blk s H scope (compEnvC scope cl C X.env) fp) ifs tt)
    (kk : ∀ s H C cl fp, PE (X.blk s H scope (compEnvC scope cl C X.env) fp) kx tk)
    (vv : ∀ s H C cl fp, PE (X.blk s H scope (compEnvC scope cl C X.env) fp) vx tv)
    (fold : ∀ x, foldedSetIterable iter X.env x = pure x := by intro _; rfl) :
    PS X (.Assign [.Name y py] (.DictComp kx vx [⟨tg, iter, ifs, 0⟩] scope pos) spos) (tAsg (tDc wi g tt tk tv (own.map (·.2))) (gName i)) := by
  refine ⟨fun pins s σ H D I asked => ?_⟩
  rw [exec_Assign_Name_used _ _ _ _ sw]
  refine wpAny_bind (wpAny_standAt (wpAny_bind ?_))
  show wpAny _ X.A (do
    let _ ← comprehension (.DictComp kx vx [⟨tg, iter, ifs, 0⟩] scope pos) scope X.env (firstIterPos [⟨tg, iter, ifs, 0⟩] pos) newDict false (eval iter X.env) (some (assign (.Name y py) X.env))) _ _ s
  have asked' : tDc wi g tt tk tv (own.map (·.2)) σ H (fun x H1 => gName i x σ H1 D.nx) := asked
  refine wpAny_bind (thn (dc_core (Qf := fun _ z => SP X pins D .next z) calm nd I walk blk gg tts kk vv fold asked' fun L C z m G I' q ns f => ?_) fun _ z hq => wpAny_pure (wpAny_pure hq))
  show wpAny _ _ (assign (.Name y py) X.env (.ref L)) _ _ _
  refine wpAny_assign_Name (store_ok2 (v := V.ref L) I' nd hy (.inl loc) rfl (fun z2 I2 told => ?_) (.inr loc))
  obtain ⟨a, sb, ha⟩ := told
  obtain ⟨f0, f1, f2, f3, f4, f5⟩ := f
  have other : C ≠ a := ha.elim (fun e => by rw [e]; exact f1) fun e q => f4 y a e q.symm
  refine ⟨m, ns.sameBut sb other, fun h3 sb3 => ⟨_, G, ?_, q⟩⟩
  exact I2.turned (t' := z2.toks) (fun b o hb e => (sb3.2 b hb).trans e) f0 f1 f3 f4 f5
theorem swD_true {kx vx : Expr} {gs : List Comprehension} {scope : Scope} {pos py : Pos} {y : PySem.Str} {l : Nat} {env : Env} (hk : env.scope.kind = .function) (hy : env.scope.names.lookup y = some .local) (hl : (py.line == pos.line) = true)
    (ha : (scope.names.any fun (n, k) => n == y && (k == .local || k == .cell)) = false) : swapsWith (.DictComp kx vx gs scope pos) (some (.Name y py)) l env = pure true := by
  have k1 : env.kindOf y = some .local := hy
  have k2 : env.blockKind = .function := by
    unfold Env.blockKind
    rw [hk]
    rfl
  unfold swapsWith
  simp only [k2, k1, ha, Expr.pos, hl]
  rfl
end
/-- over any walk: Pv by the turn and the heap -/
theorem dc_it {J : It} {n : Nat} {G : Hp → Prop} {Y : Nat → Hp → V → Hp → Prop} (w : Walk J n G Y) {g : TG} {tt : TT} {tk tv : TE} {vs : List Nat} {σ : L2.St} {H1 : Hp} {D : Addr} {Qd : Hp → Prop} (Pv : Nat → Hp → Prop)
    (h0 : Pv 0 (upd H1 D (.dK []))) (hG : ∀ i H, i ≤ n → Pv i H → G H)
    (hs : ∀ i x H H', i < n → Pv i H → Y i H x H' → g x (wipe σ vs) H' fun σ2 H2 => wipe σ2 vs = wipe σ vs ∧ tt σ2 H2 fun b H3 =>
      if b = true then tk σ2 H3 fun y H4 => tv σ2 H4 fun z H5 => ∃ kvs k, y = kV k ∧ H5 D = some (.dK kvs) ∧ kvs.length < sizeLine ∧ Pv (i + 1) (upd H5 D (.dK (putK kvs k z))) else Pv (i + 1) H3) (hd : ∀ H, Pv n H → Qd H) :
    ∃ Wm : Nat → Nat → Hp → Prop, (∃ m, Wm 0 m (upd H1 D (.dK []))) ∧ ∀ i m H, Wm i m H →
      (J.stop i H ∧ Qd H) ∨ (J.go i H ∧ ∃ Nx : Hp → Prop, (∀ H', Nx H' → ∃ m', m' < m ∧ Wm (i + 1) m' H') ∧
        ∀ x H', J.yld i H x H' → g x (wipe σ vs) H' fun σ2 H2 => wipe σ2 vs = wipe σ vs ∧ tt σ2 H2 fun b H3 =>
        if b = true then tk σ2 H3 fun y H4 => tv σ2 H4 fun z H5 => ∃ kvs k, y = kV k ∧ H5 D = some (.dK kvs) ∧ kvs.length < sizeLine ∧ Nx (upd H5 D (.dK (putK kvs k z))) else Nx H3) := by
  refine ⟨fun i m H => m + i = n ∧ Pv i H, ⟨n, rfl, h0⟩, fun i m H hW => ?_⟩
  obtain ⟨e, p⟩ := hW
  have q := hG i H (by omega) p
  cases m with
  | zero =>
    have e2 : i = n := by omega
    subst e2
    exact .inl ⟨w.stops H q, hd H p⟩
  | succ m =>
    have lt : i < n := by omega
    exact .inr ⟨w.goes i H lt q, Pv (i + 1), fun H' p' => ⟨m, Nat.lt_succ_self m, by omega, p'⟩, fun x H' y => hs i x H H' lt p (w.yields i H x H' lt q y)⟩
end Fw

set_option maxRecDepth 100000
set_option maxHeartbeats 4000000
/-! dict comprehensions over anything that is walked; dicts of marks -/
namespace Fw
open PySem PySem.Spec PyProof.Rows L2
/-- numbers marked -/
def kvT (S : List Int) : List (Key × V) := S.map fun n => ((Sum.inl n : Key), V.bl true)
theorem valV_T {x : Int} : ∀ {S : List Int}, valV (kvT S) (Sum.inl x) = if x ∈ S then some (V.bl true) else none
  | [] => rfl
  | n :: S => by
    have ih := valV_T (x := x) (S := S)
    by_cases c : n = x
    · subst c
      rw [if_pos List.mem_cons_self]
      exact valV_pos rfl
    · rw [show valV (kvT (n :: S)) (Sum.inl x) = valV (kvT S) (Sum.inl x) from valV_neg fun e => c (Sum.inl.inj e), ih]
      by_cases m : x ∈ S
      · rw [if_pos m, if_pos (List.mem_cons_of_mem _ m)]
      · rw [if_neg m, if_neg fun z => (List.mem_cons.mp z).elim (fun e => c e.symm) m]
def addT (S : List Int) (x : Int) : List Int := if x ∈ S then S else S ++ [x]
theorem put_T (S : List Int) (x : Int) : putK (kvT S) (Sum.inl x) (.bl true) = kvT (addT S x) := by
  unfold putK addT
  rw [valV_any, valV_T]
  by_cases m : x ∈ S
  · rw [if_pos m, if_pos m]
    simp only [Option.isSome_some, if_true]
    unfold kvT
    rw [List.map_map]
    refine List.map_congr_left fun n hn => ?_
    simp only [Function.comp]
    split <;> rfl
  · rw [if_neg m, if_neg m]
    simp only [Option.isSome_none, Bool.false_eq_true, if_false]
    unfold kvT
    rw [List.map_append]
    rfl
theorem addT_new {S : List Int} {x : Int} (h : x ∉ S) : addT S x = S ++ [x] := if_neg h
theorem addT_mem {S : List Int} {x y : Int} : y ∈ addT S x ↔ y ∈ S ∨ y = x := by
  unfold addT
  split
  · rename_i m
    exact ⟨.inl, fun h => h.elim id fun e => by rw [e]; exact m⟩
  · rw [List.mem_append, List.mem_singleton]
theorem addT_nodup {S : List Int} {x : Int} (h : S.Nodup) : (addT S x).Nodup := by
  unfold addT
  split
  · exact h
  · rename_i m
    exact List.nodup_append.mpr ⟨h, by simp, fun a ha b hb e => m (by rw [← List.mem_singleton.mp hb, ← e]; exact ha)⟩
theorem kvT_len (S : List Int) : (kvT S).length = S.length := by simp [kvT]
/-- numbers, each with a list of its own -/
def kvW (ns : List Int) (la : Int → Addr) : List (Key × V) := ns.map fun n => ((Sum.inl n : Key), V.ref (la n))
theorem valV_W {la : Int → Addr} {x : Int} : ∀ {ns : List Int}, valV (kvW ns la) (Sum.inl x) = if x ∈ ns then some (.ref (la x)) else none
  | [] => rfl
  | n :: ns => by
    have ih := valV_W (la := la) (x := x) (ns := ns)
    by_cases c : n = x
    · subst c
      rw [if_pos List.mem_cons_self]
      exact valV_pos rfl
    · rw [show valV (kvW (n :: ns) la) (Sum.inl x) = valV (kvW ns la) (Sum.inl x) from valV_neg fun e => c (Sum.inl.inj e), ih]
      by_cases m : x ∈ ns
      · rw [if_pos m, if_pos (List.mem_cons_of_mem _ m)]
      · rw [if_neg m, if_neg fun z => (List.mem_cons.mp z).elim (fun e => c e.symm) m]
theorem kvW_snoc {ns : List Int} {la : Int → Addr} {x : Int} {a : Addr} (h : x ∉ ns) : putK (kvW ns la) (Sum.inl x) (.ref a) = kvW (ns ++ [x]) (fun y => if y = x then a else la y) := by
  unfold putK
  rw [valV_any, valV_W, if_neg h]
  simp only [Option.isSome_none, Bool.false_eq_true, if_false]
  unfold kvW
  rw [List.map_append]
  congr 1
  · refine List.map_congr_left fun n hn => ?_
    show ((Sum.inl n : Key), V.ref (la n)) = (Sum.inl n, V.ref (if n = x then a else la n))
    rw [if_neg fun e => h (by rw [← e]; exact hn)]
  · show _ = [((Sum.inl x : Key), V.ref (if x = x then a else la x))]
    rw [if_pos rfl]
theorem kvW_len (ns : List Int) (la : Int → Addr) : (kvW ns la).length = ns.length := by simp [kvW]
end Fw

set_option maxRecDepth 100000
set_option maxHeartbeats 8000000
namespace Fw
open PySem PySem.Spec PyProof.Rows L2 GxR
theorem filter_moreD {S : Int → Bool} {k : Int} : ∀ {l : List Int}, l.Nodup → k ∈ l → (l.filter fun j => S j || decide (j = k)).length = if S k = true then (l.filter S).length else (l.filter S).length + 1
  | [], _, h => by cases h
  | a :: l, nd, h => by
    have nd' := List.nodup_cons.mp nd
    by_cases e : a = k
    · subst e
      have same : (l.filter fun j => S j || decide (j = a)) = l.filter S := by
        refine List.filter_congr fun x hx => ?_
        have : x ≠ a := fun q => nd'.1 (q ▸ hx)
        simp [this]
      by_cases hs : S a = true
      · simp [List.filter_cons, hs, same]
      · simp [List.filter_cons, hs, same]
    · have hk : k ∈ l := (List.mem_cons.mp h).resolve_left fun q => e q.symm
      have ih := filter_moreD (S := S) nd'.2 hk
      by_cases ha : S a = true
      · simp only [List.filter_cons, ha, Bool.true_or, if_true, List.length_cons, ih]
        split <;> rfl
      · have ha' : S a = false := by simpa using ha
        simp only [List.filter_cons, ha', Bool.false_or, decide_eq_false e, Bool.false_eq_true, if_false, ih]
theorem none_lenD (l : List Int) : 0 = (l.filter fun _ => false).length := by
  induction l with
  | nil => rfl
  | cons a l ih => simpa [List.filter_cons] using ih
theorem rng_nodup (n : Nat) : (rng n).Nodup := by
  unfold rng
  exact List.Pairwise.map _ (fun a b h => by intro e; exact h (Int.ofNat.inj e)) (List.nodup_range (n := n))
structure TxtRo (K : PySem.W.Frag) (RC : Addr) : Prop where
  cl : Cls K RC
  nM : NoAttr K RC "_many"
  nB : NoAttr K RC "_before"
  nK : NoAttr K RC "_blocks"
  nF : NoAttr K RC "_fresh"
theorem tb_maskOf {X : List Int} (h : ∀ x ∈ X, 0 ≤ x) (s : Nat) : tb (maskOf X) s ↔ (s : Int) ∈ X := by
  have := maskOf_in (X := X) h (s := (s : Int)) (Int.natCast_nonneg s)
  unfold mIn at this
  rw [Int.toNat_natCast] at this
  unfold tb
  rw [this, sIn_iff]
theorem mem_bef {ss : List T3} {s l x : Int} : x ∈ befS ss s l ↔ ((x, l, s) : T3) ∈ ss := by
  unfold befS
  rw [List.mem_map]
  constructor
  · rintro ⟨⟨a, b, c⟩, h, rfl⟩
    obtain ⟨h1, h2⟩ := List.mem_filter.mp h
    simp only [Bool.and_eq_true, decide_eq_true_eq] at h2
    rw [← h2.1, ← h2.2]
    exact h1
  · intro h
    exact ⟨(x, l, s), List.mem_filter.mpr ⟨h, by simp⟩, rfl⟩
/-- the states with a step by l into a block -/
def cutW (W : Wd) (l : Int) (b : Nat) : Nat := unionOf W.n (rowsM (fun s => befS W.steps s l) W.n) b
theorem cutW_ok {W : Wd} (hin : W.In) {ls : List Int} (hl : ∀ p ∈ W.steps, p.2.1 ∈ ls) : CutOk W ls (cutW W) := by
  refine ⟨hl, fun l _ b hb s hs => ?_⟩
  unfold cutW unionOf tb
  rw [orAll_bit, List.any_eq_true]
  constructor
  · rintro ⟨m, hm, e⟩
    obtain ⟨i, hi, rfl⟩ := List.mem_map.mp hm
    obtain ⟨⟨i0, i1⟩, ib⟩ := mem_bits.mp hi
    obtain ⟨j, rfl⟩ := Int.eq_ofNat_of_zero_le i0
    rw [Int.toNat_natCast, List.getD_eq_getElem?_getD, rowsM_get (by omega)] at e
    have e2 := (tb_maskOf (X := befS W.steps (j : Int) l) (fun x hx => (hin _ (mem_bef.mp hx)).1) s).mp e
    exact ⟨(j : Int), mem_beh.mpr (mem_bef.mp e2), by rw [Int.toNat_natCast]; exact ib⟩
  · rintro ⟨y, hy, yb⟩
    have y' := hin.beh hy
    obtain ⟨j, rfl⟩ := Int.eq_ofNat_of_zero_le y'.1
    refine ⟨maskOf (befS W.steps (j : Int) l), List.mem_map.mpr ⟨(j : Int), mem_bits.mpr ⟨⟨y'.1, y'.2.1⟩, yb⟩, ?_⟩, ?_⟩
    · rw [Int.toNat_natCast, List.getD_eq_getElem?_getD, rowsM_get (by omega)]
      rfl
    · exact (tb_maskOf (X := befS W.steps (j : Int) l) (fun x hx => (hin _ (mem_bef.mp hx)).1) s).mpr (mem_bef.mpr y'.2.2)
theorem cutW_lt {W : Wd} (hin : W.In) (l : Int) (b : Nat) : cutW W l b < 2 ^ W.n := by
  unfold cutW unionOf
  refine orAll_lt fun x hx => ?_
  obtain ⟨i, hi, rfl⟩ := List.mem_map.mp hx
  obtain ⟨⟨i0, i1⟩, _⟩ := mem_bits.mp hi
  rw [List.getD_eq_getElem?_getD, rowsM_get (by omega)]
  exact maskOf_lt fun x hx => ⟨(hin _ (mem_bef.mp hx)).1, (hin _ (mem_bef.mp hx)).2.1⟩
theorem rowsM_lt {W : Wd} (hin : W.In) (l : Int) : ∀ x ∈ rowsM (fun s => befS W.steps s l) W.n, x < 2 ^ W.n := fun x hx => by
  unfold rowsM at hx
  obtain ⟨i, _, rfl⟩ := List.mem_map.mp hx
  exact maskOf_lt fun x hx => ⟨(hin _ (mem_bef.mp hx)).1, (hin _ (mem_bef.mp hx)).2.1⟩
theorem Blk.below {n : Nat} {R : Nat → Nat → Prop} {bs : List Nat} (B : Blk n R bs) {b : Nat} (hb : b ∈ bs) : b < 2 ^ n := Nat.lt_pow_two_of_testBit b fun i hi => by
  cases e : b.testBit i with
  | false => rfl
  | true => exact absurd (B.lt b hb i e) (by omega)
theorem start_blk {Xs : List (List Int)} {ss : List T3} {Ks : List (List Int)} (nd : Ks.Nodup) (mem : ∀ X, X ∈ Ks ↔ X ∈ Xs) : Blk (Wd.n ⟨Xs, ss⟩) (Lk ⟨Xs, ss⟩ 0) (Ks.map (clsM Xs Xs.length)) := by
  have at_ : ∀ {j : Nat}, j < Xs.length → ∃ X, Xs[j]? = some X ∧ Wd.at ⟨Xs, ss⟩ (j : Int) = X := fun {j} hj => ⟨Xs[j], List.getElem?_eq_getElem hj, by unfold Wd.at; rw [Int.toNat_natCast, List.getElem?_eq_getElem hj]; rfl⟩
  refine ⟨fun b hb => ?_, fun b hb s hs => ?_, fun b hb s t hs => ?_, fun s hs => ?_, ?_⟩
  · obtain ⟨X, hX, rfl⟩ := List.mem_map.mp hb
    obtain ⟨j, hj, e⟩ := List.getElem_of_mem ((mem X).mp hX)
    intro z
    have := cls_bit (Xs := Xs) (i := Xs.length) (X := X) (j := j) |>.mpr ⟨hj, by rw [List.getElem?_eq_getElem hj, e]⟩
    rw [z, Nat.zero_testBit] at this
    cases this
  · obtain ⟨X, hX, rfl⟩ := List.mem_map.mp hb
    exact (cls_bit.mp hs).1
  · obtain ⟨X, hX, rfl⟩ := List.mem_map.mp hb
    obtain ⟨s1, s2⟩ := cls_bit.mp hs
    obtain ⟨Y, y1, y2⟩ := at_ s1
    rw [y1] at s2
    cases s2
    show (clsM Xs Xs.length X).testBit t = true ↔ t < Xs.length ∧ Wd.at ⟨Xs, ss⟩ (s : Int) = Wd.at ⟨Xs, ss⟩ (t : Int)
    rw [cls_bit]
    constructor
    · rintro ⟨t1, t2⟩
      obtain ⟨Z, z1, z2⟩ := at_ t1
      rw [z1] at t2
      cases t2
      exact ⟨t1, by rw [y2, z2]⟩
    · rintro ⟨t1, t2⟩
      obtain ⟨Z, z1, z2⟩ := at_ t1
      rw [y2, z2] at t2
      rw [t2]
      exact ⟨t1, z1⟩
  · obtain ⟨Y, y1, y2⟩ := at_ hs
    exact ⟨_, List.mem_map.mpr ⟨Y, (mem Y).mpr (List.mem_of_getElem? y1), rfl⟩, cls_bit.mpr ⟨hs, y1⟩⟩
  · rw [List.pairwise_map]
    refine nd.imp fun {X Y} ne s h1 h2 => ne ?_
    have a := (cls_bit.mp h1).2
    rw [(cls_bit.mp h2).2] at a
    exact (Option.some.inj a).symm
/-- where the parts of the rounds' object are -/
structure RA where
  (p dx ba la fa : Addr)
structure Rst (RC : Addr) (H : Hp) (a : RA) (bas : List Addr) (W : Wd) (ls : List Int) (r : Nat) (bs fr : List Nat) : Prop where
  ob : H a.p = some (.ins RC a.dx [("_many", .int ((W.n : Nat) : Int)), ("_before", .ref a.ba), ("_blocks", .ref a.la), ("_fresh", .ref a.fa)])
  b : H a.ba = some (.lst (bas.map V.ref))
  len : bas.length = ls.length
  rows : ∀ (i : Nat) (c : Addr) (l : Int), bas[i]? = some c → ls[i]? = some l → MsAt H c (rowsM (fun s => befS W.steps s l) W.n)
  l : MsAt H a.la bs
  f : MsAt H a.fa fr
  ri : RI W ls (cutW W) r bs fr
  cut : CutOk W ls (cutW W)
  lsz : ls.length ≤ 4
  frl : fr.length ≤ bs.length
theorem Rst.same {RC : Addr} {H H' : Hp} {a : RA} {bas : List Addr} {W : Wd} {ls : List Int} {r : Nat} {bs fr : List Nat} (z : Same H H') (h : Rst RC H a bas W ls r bs fr) : Rst RC H' a bas W ls r bs fr :=
  ⟨z _ _ h.ob, z _ _ h.b, h.len, fun i c l e1 e2 => z _ _ (h.rows i c l e1 e2), z _ _ h.l, z _ _ h.f, h.ri, h.cut, h.lsz, h.frl⟩
section
variable {P : Program} {w : World} {K : PySem.W.Frag} {mg : Str → Option Value} {base : Heap} {C J B WC NC RC : Addr}
def spRo (K : PySem.W.Frag) (RC : Addr) : Sp := fun vs H Q _ => ∃ (p dx ta tb : Addr) (ras as : List Addr) (W : Wd), vs = [.ref p, .ref ta, .ref tb] ∧ H p = some (.ins RC dx []) ∧ SqT K H ta (ras.map V.ref) ∧ RTp H ras W.facts ∧ SqT K H tb (as.map V.ref) ∧ PAt H as W.steps ∧
  W.In ∧ (∀ p ∈ W.steps, 0 ≤ p.2.1 ∧ p.2.1 < 4) ∧ W.n ≤ 15 ∧
  ∀ (a : RA) (bas : List Addr) (ls : List Int) (bs : List Nat) H', a.p = p → But p H H' → Rst RC H' a bas W ls 0 bs bs → Q .non H'
theorem ok_Rounds_init {f : Addr} {fd : FuncData} (FF : Fun K "__init__" "Rounds.__init__" s_Rounds_init f fd) (T : Txt K mg C J B) (TN : TxtRo K RC) (h_step_masks : Has P w K mg base "step_masks" 1 a_step_masks (spSM K))
    (h_like_at_once : Has P w K mg base "like_at_once" 1 a_like_at_once (spLike K)) : FnOk P w K mg base CX0 2 f fd a_Rounds_init (spRo K RC) := by
  refine FF.ok sc_Rounds_init (fun vs H Q E h => ?_) (fun cdv A outer s H vs Q E hr h => ?_)
  · obtain ⟨p, dx, ta, tb, ras, as, W, rfl, _⟩ := h
    rfl
  · obtain ⟨p, dx, ta, tb, ras, as, W, rfl, g0, hta, rt, htb, pat, hin, hlb, hn, k⟩ := h
    refine ⟨_, (pss_cons (ps_fld (pv 0) (pe_callB call_len_seq rfl T.z_len (by decide +kernel) (pa_cons (pv 1) pa_nil)) rfl)
      (pss_cons (ps_set (i := 3) sc_Rounds_init.nd rfl (.inl rfl) (pe_callB (cr_sortedSet rfl) rfl T.z_sorted (by decide +kernel) (pa_cons (pe_sci (own := [("_", 5), ("label", 4), ("_", 5)]) rfl sc_Rounds_init.nd (pi_tup (pv 2)) (blkOk_by (own := [("_", 5), ("label", 4), ("_", 5)]) (N := n_Rounds_init) (sc := defScope s_Rounds_init) (by decide +kernel)) (fun _ _ _ _ _ => (show PG _ _ (gTup K 3 _) from pg_tup rfl (pgs_cons (pg_name (i := 5) sc_Rounds_init.nd rfl (.inl rfl)) (pgs_cons (pg_name (i := 4) sc_Rounds_init.nd rfl (.inl rfl)) (pgs_cons (pg_name (i := 5) sc_Rounds_init.nd rfl (.inl rfl)) pgs_nil))))) (fun _ _ _ _ _ => pts_nil) (fun _ _ _ _ _ => (pv 4))) pa_nil)))
      (pss_cons (ps_fld (pv 0) (pe_lc (own := [("label", 4)]) (g := gName 4) rfl sc_Rounds_init.nd (pi_list (pv 3)) (blkOk_by (own := [("label", 4)]) (N := n_Rounds_init) (sc := defScope s_Rounds_init) (by decide +kernel)) (fun _ _ _ _ _ => (pg_name (i := 4) sc_Rounds_init.nd rfl (.inl rfl))) (fun _ _ _ _ _ => pts_nil) (fun _ _ _ _ _ => (pe_ix (@id (IxR _ (rIxT K)) ix_tup) (pe_callH h_step_masks (hr.mono (by omega)) (pa_cons (pe_callB (@id (CallR _ _ (rLenS K)) call_len_seq) rfl T.z_len (by decide +kernel) (pa_cons (pv 1) pa_nil)) (pa_cons (pv 2) (pa_cons (pv 4) pa_nil)))) pe_int (fun _ _ => rfl)))) rfl)
      (pss_cons (ps_fld (pv 0) (pe_callH h_like_at_once (hr.mono (by omega)) (pa_cons (pv 1) pa_nil)) rfl)
      (pss_one (ps_fld (pv 0) (pe_fld (pv 0) rfl) rfl)))))), ?_⟩
    have st_ : ∀ {G : Hp} {o : HO}, But p H G → But p H (upd G p o) := fun B b o n e => by rw [upd_ne n]; exact B b o n e
    have sm_ : ∀ {G F : Hp}, But p H G → Same G F → But p H F := fun B s b o n e => s b o (B b o n e)
    refine ⟨.ref ta, rfl, ta, _, rfl, .inr hta, ?_⟩
    rw [List.length_map, rt.1]
    refine ⟨.ref p, rfl, p, RC, dx, _, rfl, g0, TN.cl, TN.nM, by show 0 < 1000; decide, ?_⟩
    rw [show putF "_many" (V.int ((W.facts.length : Nat) : Int)) ([] : List (Str × V)) = ([("_many", V.int ((W.n : Nat) : Int))] : List (Str × V)) from rfl]
    have B1 := st_ (o := .ins RC dx [("_many", V.int ((W.n : Nat) : Int))]) (But.refl p H)
    have g1 : (upd H p (.ins RC dx [("_many", V.int ((W.n : Nat) : Int))])) p = some (.ins RC dx [("_many", V.int ((W.n : Nat) : Int))]) := upd_same
    generalize upd H p (.ins RC dx [("_many", V.int ((W.n : Nat) : Int))]) = H1 at B1 g1
    have tk_ : ∀ {G : Hp}, But p H G → SqT K G ta (ras.map V.ref) ∧ RTp G ras W.facts ∧ SqT K G tb (as.map V.ref) ∧ PAt G as W.steps := fun B =>
      ⟨SqT.butO g0 B hta, rt.map fun b ys e => B _ _ (ne_of e g0 (by intro z; cases z)) e, SqT.butO g0 B htb, pat.butO g0 B⟩
    obtain ⟨hta1, rt1, htb1, pat1⟩ := tk_ B1
    refine ⟨.ref tb, rfl, tb, rfl, ⟨_, htb1⟩, fun D hD => ?_⟩
    refine sci_it walk_tup (fun i G => Same H1 G ∧ ∃ S m, G D = some (SetO w D S m) ∧ m = ((rng 4).filter S).length ∧ ∀ x, S x = true ↔ ∃ q ∈ W.steps.take i, q.2.1 = x)
      ⟨Same.new hD, fun _ => false, 0, upd_same, none_lenD _, fun x => by simp⟩ (fun i G _ q => SqT.same q.1 htb1) ?_ ?_
    · rintro i x G0 G hi ⟨sG, S, m, hS, rfl, hSx⟩ ⟨rfl, hx⟩
      obtain ⟨b, q, rfl, hb, hq, at_⟩ := (pat1.same sG).nth hx
      have lab := hlb _ (List.mem_of_getElem? hq)
      obtain ⟨q1, q2, q3⟩ := q
      simp only at at_ lab
      have l16 := List.length_filter_le S (rng 4)
      rw [rng_len] at l16
      refine ⟨b, _, rfl, SqT.of at_, rfl, .int q1, _, rfl, .int q2, _, rfl, .int q3, _, rfl, rfl, rfl, .int q2, rfl, q2, S, _, rfl, hS, Nat.lt_of_le_of_lt (show _ ≤ 64 by omega) (by decide), fun c o e => by rw [upd_ne (ne_of_none e hD)]; exact sG c o e, _, _, upd_same, (filter_moreD (rng_nodup 4) (rng_mem.mpr lab)).symm, fun y => ?_⟩
      rw [Bool.or_eq_true, decide_eq_true_eq, hSx y, List.take_add_one, hq, Option.toList_some]
      constructor
      · rintro (⟨q, h1, h2⟩ | rfl)
        · exact ⟨q, List.mem_append_left _ h1, h2⟩
        · exact ⟨_, List.mem_append_right _ (List.mem_singleton.mpr rfl), rfl⟩
      · rintro ⟨q, h1, h2⟩
        rcases List.mem_append.mp h1 with h1 | h1
        · exact .inl ⟨q, h1, h2⟩
        · rw [List.mem_singleton.mp h1] at h2
          exact .inr h2.symm
    rintro G ⟨sG, S, m, hS, rfl, hSx⟩
    have l16 := List.length_filter_le S (rng 4)
    rw [rng_len] at l16
    refine ⟨D, S, _, rfl, hS, by omega, fun ls lb asc mem len hlbn => ?_⟩
    rw [List.length_map, pat1.1, List.take_length] at hSx
    have mem' : ∀ x, x ∈ ls ↔ ∃ q ∈ W.steps, q.2.1 = x := fun x => (mem x).trans (hSx x)
    have lsl : ls.length ≤ 4 := by omega
    have slb := Same.new (o := .lst (ls.map V.int)) hlbn
    have gls : IL (upd G lb (.lst (ls.map V.int))) lb ls := upd_same
    have s2 := sG.trans slb
    generalize upd G lb (.lst (ls.map V.int)) = H2 at gls s2
    have B2 := sm_ B1 s2
    have g2 := s2 _ _ g1
    obtain ⟨hta2, rt2, htb2, pat2⟩ := tk_ B2
    refine ⟨.ref lb, rfl, lb, rfl, ⟨_, SqL.of gls⟩, fun L hL => ?_⟩
    refine lc_list (xs := ls.map V.int) (fun i G => Same H2 G ∧ ∃ bas : List Addr, G L = some (.lst (bas.map V.ref)) ∧ bas.length = i ∧ ∀ (j : Nat) (c : Addr) (l : Int), bas[j]? = some c → ls[j]? = some l → MsAt G c (rowsM (fun s => befS W.steps s l) W.n) ∧ c ≠ L)
      ⟨Same.new hL, [], upd_same, rfl, fun j c l e => by simp at e⟩ (fun i G _ q => SqL.of (q.1 _ _ gls)) ?_ ?_
    · rintro i x G hx ⟨sG, bas, gL, bl, hb⟩
      obtain ⟨l, hl, rfl⟩ := ints_nth hx
      have il := (List.getElem?_eq_some_iff.mp hl).1
      have B3 := sm_ B2 sG
      obtain ⟨hta3, rt3, htb3, pat3⟩ := tk_ B3
      refine ⟨rfl, .ref ta, rfl, _, _, rfl, .inr hta3, ?_⟩
      rw [List.length_map, rt.1]
      refine ⟨.ref tb, rfl, .int l, rfl, W.n, tb, l, as, W.steps, rfl, htb3, pat3, hin, by omega, fun r ba fa G' s3 nr nb nf gr gb gf => ?_⟩
      refine ⟨r, _, _, .ref fa, rfl, rfl, SqT.of gr, atI_nat (j := 1) rfl, ?_⟩
      have nfL : fa ≠ L := fun e => by rw [e] at nf; rw [gL] at nf; cases nf
      refine ⟨_, s3 _ _ gL, by rw [List.length_map]; exact small1000 (by omega), fun b o e => by rw [upd_ne (ne_of_none e hL)]; exact s3 _ _ (sG b o e), bas ++ [fa], by rw [upd_same, List.map_append]; rfl, by rw [List.length_append, List.length_singleton, bl], fun j c l' e1 e2 => ?_⟩
      rcases get_snoc e1 with e3 | ⟨e3, rfl⟩
      · obtain ⟨h1, h2⟩ := hb j c l' e3 e2
        exact ⟨by show _ = _; rw [upd_ne h2]; exact s3 _ _ h1, h2⟩
      · rw [e3, bl, hl] at e2
        cases e2
        exact ⟨by show _ = _; rw [upd_ne nfL]; exact gf, nfL⟩
    rintro G3 ⟨s3, bas, gL, bl, hb⟩
    rw [List.length_map] at bl
    have B3 := sm_ B2 s3
    have g3 := s3 _ _ g2
    have npL : L ≠ p := (ne_of_none g2 hL).symm
    refine ⟨.ref p, rfl, p, RC, dx, _, rfl, g3, TN.cl, TN.nB, by show 1 < 1000; decide, ?_⟩
    rw [show putF "_before" (V.ref L) ([("_many", V.int ((W.n : Nat) : Int))] : List (Str × V)) = ([("_many", V.int ((W.n : Nat) : Int)), ("_before", .ref L)] : List (Str × V)) from rfl]
    have B4 := st_ (o := .ins RC dx [("_many", V.int ((W.n : Nat) : Int)), ("_before", .ref L)]) B3
    have g4 : (upd G3 p (.ins RC dx [("_many", V.int ((W.n : Nat) : Int)), ("_before", .ref L)])) p = some (.ins RC dx [("_many", V.int ((W.n : Nat) : Int)), ("_before", .ref L)]) := upd_same
    have gL4 : (upd G3 p (.ins RC dx [("_many", V.int ((W.n : Nat) : Int)), ("_before", .ref L)])) L = some (.lst (bas.map V.ref)) := by rw [upd_ne npL]; exact gL
    have hb4 : ∀ (j : Nat) (c : Addr) (l : Int), bas[j]? = some c → ls[j]? = some l → MsAt (upd G3 p (.ins RC dx [("_many", V.int ((W.n : Nat) : Int)), ("_before", .ref L)])) c (rowsM (fun s => befS W.steps s l) W.n) ∧ c ≠ p := fun j c l e1 e2 => by
      have h1 := (hb j c l e1 e2).1
      have ne : c ≠ p := ne_of h1 g3 (by intro z; cases z)
      exact ⟨by show _ = _; rw [upd_ne ne]; exact h1, ne⟩
    generalize upd G3 p (.ins RC dx [("_many", V.int ((W.n : Nat) : Int)), ("_before", .ref L)]) = H4 at B4 g4 gL4 hb4
    clear B3 g3 gL hb
    obtain ⟨hta4, rt4, htb4, pat4⟩ := tk_ B4
    refine ⟨.ref ta, rfl, ta, ras, W.facts, rfl, hta4, rt4, by show W.n ≤ 900; omega, fun la Ks H5 s5 nla gla nd mm => ?_⟩
    have B5 := sm_ B4 s5
    have g5 := s5 _ _ g4
    have npl : la ≠ p := (ne_of_none g4 nla).symm
    refine ⟨.ref p, rfl, p, RC, dx, _, rfl, g5, TN.cl, TN.nK, by show 2 < 1000; decide, ?_⟩
    rw [show putF "_blocks" (V.ref la) ([("_many", V.int ((W.n : Nat) : Int)), ("_before", .ref L)] : List (Str × V)) = ([("_many", V.int ((W.n : Nat) : Int)), ("_before", .ref L), ("_blocks", .ref la)] : List (Str × V)) from rfl]
    have B6 := st_ (o := .ins RC dx [("_many", V.int ((W.n : Nat) : Int)), ("_before", .ref L), ("_blocks", .ref la)]) B5
    have g6 : (upd H5 p (.ins RC dx [("_many", V.int ((W.n : Nat) : Int)), ("_before", .ref L), ("_blocks", .ref la)])) p = some (.ins RC dx [("_many", V.int ((W.n : Nat) : Int)), ("_before", .ref L), ("_blocks", .ref la)]) := upd_same
    refine ⟨.ref p, rfl, p, RC, dx, _, .ref la, rfl, g6, TN.cl, TN.nK, rfl, ?_⟩
    refine ⟨.ref p, rfl, p, RC, dx, _, rfl, g6, TN.cl, TN.nF, by show 3 < 1000; decide, ?_⟩
    rw [show putF "_fresh" (V.ref la) ([("_many", V.int ((W.n : Nat) : Int)), ("_before", .ref L), ("_blocks", .ref la)] : List (Str × V)) = ([("_many", V.int ((W.n : Nat) : Int)), ("_before", .ref L), ("_blocks", .ref la), ("_fresh", .ref la)] : List (Str × V)) from rfl]
    have two : ∀ {o o' : HO}, upd (upd H5 p o) p o' = upd H5 p o' := fun {o o'} => by
      funext b
      by_cases c : b = p
      · subst c; rw [upd_same, upd_same]
      · rw [upd_ne c, upd_ne c, upd_ne c]
    rw [two]
    have blk0 := start_blk (ss := W.steps) nd mm
    have I0 : RI W ls (cutW W) 0 (Ks.map (clsM W.facts W.facts.length)) (Ks.map (clsM W.facts W.facts.length)) := ⟨blk0, fun b h => h, fun b h n => absurd h n⟩
    refine k ⟨p, dx, L, la, la⟩ bas ls _ _ rfl (st_ B5) ⟨upd_same, by rw [upd_ne npL]; exact s5 _ _ gL4, bl, fun i c l e1 e2 => ?_, by show _ = _; rw [upd_ne npl]; exact gla, by show _ = _; rw [upd_ne npl]; exact gla, I0, cutW_ok hin fun q hq => (mem' _).mpr ⟨q, hq, rfl⟩, lsl, Nat.le_refl _⟩
    obtain ⟨h1, h2⟩ := hb4 i c l e1 e2
    show _ = _
    rw [upd_ne h2]
    exact s5 _ _ h1
end
end Fw

set_option maxRecDepth 100000
set_option maxHeartbeats 8000000
namespace Fw
open PySem PySem.Spec PyProof.Rows L2 GxR
theorem keptB_snoc {bs cs : List Nat} {b : Nat} : keptB (bs ++ [b]) cs = keptB bs cs ++ if (cutUp b cs).length = 1 then [b] else [] := by
  unfold keptB
  rw [List.filter_append]
  congr 1
  by_cases h : (cutUp b cs).length = 1 <;> simp [h]
theorem freshB_snoc {bs cs : List Nat} {b : Nat} : freshB (bs ++ [b]) cs = freshB bs cs ++ if (cutUp b cs).length = 1 then [] else cutUp b cs := by
  unfold freshB
  rw [List.flatMap_append]
  simp
theorem keptB_len (bs cs : List Nat) : (keptB bs cs).length ≤ bs.length := List.length_filter_le _ _
section
variable {P : Program} {w : World} {K : PySem.W.Frag} {mg : Str → Option Value} {base : Heap} {C J B WC NC RC : Addr}
def spAdv (RC : Addr) : Sp := fun vs H Q _ => ∃ (a : RA) (bas : List Addr) (W : Wd) (ls : List Int) (r : Nat) (bs fr : List Nat), vs = [.ref a.p] ∧ Rst RC H a bas W ls r bs fr ∧ W.In ∧ W.n ≤ 15 ∧
  ∀ (a' : RA) (cs : List Nat) H', a'.p = a.p → But a.p H H' → Rst RC H' a' bas W ls (r + 1) (keptB bs cs ++ freshB bs cs) (freshB bs cs) → (∀ c, c ∈ cs ↔ ∃ l ∈ ls, ∃ b ∈ fr, c = cutW W l b) → Q (.bl (decide (0 < (freshB bs cs).length))) H'
theorem ok_Rounds_advance {f : Addr} {fd : FuncData} (FF : Fun K "advance" "Rounds.advance" s_Rounds_advance f fd) (T : Txt K mg C J B) (TN : TxtRo K RC) (h_led : Has P w K mg base "led" 2 a_led spLed)
    (h_cut_up : Has P w K mg base "cut_up" 1 a_cut_up spCut) : FnOk P w K mg base CX0 3 f fd a_Rounds_advance (spAdv RC) := by
  refine FF.ok sc_Rounds_advance (fun vs H Q E h => ?_) (fun cdv A outer s H vs Q E hr h => ?_)
  · obtain ⟨a, bas, W, ls, r, bs, fr, rfl, _⟩ := h
    rfl
  · obtain ⟨a, bas, W, ls, r, bs, fr, rfl, R, hin, hn, k⟩ := h
    refine ⟨_, (pss_cons (ps_set (i := 2) sc_Rounds_advance.nd rfl (.inl rfl) (pe_callB (cr_sortedSet rfl) rfl T.z_sorted (by decide +kernel) (pa_cons (pe_sc2 (newI_ok w) (show AddSelf _ (addI w) from addI_ok _) (own := [("before", 6), ("block", 1)]) (vs1 := [1]) rfl sc_Rounds_advance.nd (pi_list (pe_fld (pv 0) rfl)) (blkOk_by (own := [("before", 6), ("block", 1)]) (N := n_Rounds_advance) (sc := defScope s_Rounds_advance) (by decide +kernel)) (by decide) (fun _ _ _ _ _ => (pg_name (i := 6) sc_Rounds_advance.nd rfl (.inl rfl))) (fun _ _ _ _ _ => pts_nil) (fun _ _ _ _ _ => (@id (PI _ _ _ (iList K _)) (pi_list (show PE _ _ (tFld K _ "_fresh") from pe_fld (pv 0) rfl)))) (fun _ _ _ _ _ => (pg_name (i := 1) sc_Rounds_advance.nd rfl (.inl rfl))) (fun _ _ _ _ _ => pts_nil) (fun _ _ _ _ _ => (pe_callH h_led (hr.mono (by omega)) (pa_cons (pv 6) (pa_cons (pv 1) pa_nil))))) pa_nil)))
      (pss_cons (ps_set (i := 3) sc_Rounds_advance.nd rfl (.inl rfl) (pe_lst pa_nil))
      (pss_cons (ps_set (i := 4) sc_Rounds_advance.nd rfl (.inl rfl) (pe_lst pa_nil))
      (pss_cons (ps_for PassesOwn.never rfl (pi_list (pe_fld (pv 0) rfl)) (pg_name (i := 1) sc_Rounds_advance.nd rfl (.inl rfl)) (pss_cons (ps_set (i := 5) sc_Rounds_advance.nd rfl (.inl rfl) (pe_callH h_cut_up (hr.mono (by omega)) (pa_cons (pv 1) (pa_cons (pv 2) pa_nil))))
      (pss_one (ps_if (pt_cmpR op_eq (pe_callB call_len_seq rfl T.z_len (by decide +kernel) (pa_cons (pv 5) pa_nil)) pe_int (nomark _)) (pss_one (ps_expr (pe_bm PySem.F.plainAttrs_list PySem.F.slot_list_append PySem.F.type_list_append mt_append (pv 3) (pa_cons (pv 1) pa_nil)))) (pss_one (ps_expr (pe_bm PySem.F.plainAttrs_list PySem.F.slot_list_extend PySem.F.type_list_extend mt_extend (pv 4) (pa_cons (pv 5) pa_nil))))))))
      (pss_cons (ps_fld (pv 0) (pe_op op_cat (pv 3) (pv 4)) rfl)
      (pss_cons (ps_fld (pv 0) (pv 4) rfl)
      (pss_one (ps_ret (pe_cmpR op_gt (pe_callB call_len_seq rfl T.z_len (by decide +kernel) (pa_cons (pv 4) pa_nil)) pe_int (nomark _)))))))))), ?_⟩
    have E0 := Lk.eqv W r W.n
    have bl : bs.length ≤ 15 := Nat.le_trans (R.ri.blk.len E0) hn
    have fl15 : fr.length ≤ 15 := Nat.le_trans R.frl bl
    have nat_ : ∀ l b, 0 ≤ ((cutW W l b : Nat) : Int) := fun l b => Int.natCast_nonneg _
    refine ⟨.ref a.p, rfl, a.p, RC, a.dx, _, .ref a.ba, rfl, R.ob, TN.cl, TN.nB, rfl, a.ba, rfl, ⟨_, SqL.of R.b⟩, fun D hD => ?_⟩
    refine sc2G_it walk_list (fun i G => Same H G ∧ ∃ S m, G D = some (SetO w D S m) ∧ m ≤ i * fr.length ∧ ∀ x, S x = true ↔ ∃ l ∈ ls.take i, ∃ b ∈ fr, x = ((cutW W l b : Nat) : Int))
      ⟨Same.new hD, fun _ => false, 0, upd_same, Nat.zero_le _, fun x => by simp⟩ (fun i G _ q => SqL.of (q.1 _ _ R.b)) ?_ ?_
    · rintro i x GX G hi ⟨sG, S, m, gD, hm, hS⟩ ⟨rfl, hx⟩
      rw [List.length_map] at hi
      rw [List.getElem?_map, List.getElem?_eq_getElem hi] at hx
      obtain rfl := Option.some.inj hx
      have hc : bas[i]? = some bas[i] := List.getElem?_eq_getElem hi
      have il : i < ls.length := by rw [← R.len]; exact hi
      have hl : ls[i]? = some ls[i] := List.getElem?_eq_getElem il
      have row := R.rows i _ _ hc hl
      have i4 : i < 4 := Nat.lt_of_lt_of_le il R.lsz
      generalize bas[i] = c at hc row
      generalize ls[i] = l at hl row
      refine ⟨rfl, .ref a.p, rfl, a.p, RC, a.dx, _, .ref a.fa, rfl, sG _ _ R.ob, TN.cl, TN.nF, rfl, a.fa, rfl, ⟨_, SqL.of (sG _ _ R.f)⟩, ?_⟩
      refine inG_it walk_list (fun j G => Same H G ∧ ∃ S m, G D = some (SetO w D S m) ∧ m ≤ i * fr.length + j ∧ ∀ x, S x = true ↔ (∃ l ∈ ls.take i, ∃ b ∈ fr, x = ((cutW W l b : Nat) : Int)) ∨ ∃ b ∈ fr.take j, x = ((cutW W l b : Nat) : Int))
        ⟨sG, S, m, gD, hm, fun x => by rw [hS]; simp⟩ (fun i G _ q => SqL.of (q.1 _ _ R.f)) ?_ ?_
      · rintro j x GX G1 hj ⟨s1, S1, m1, gD1, hm1, hS1⟩ ⟨rfl, hx1⟩
        obtain ⟨b, hb, rfl⟩ := nats_nth hx1
        rw [List.length_map] at hj
        have mb := R.ri.sub b (List.mem_of_getElem? hb)
        have fl2 : i * fr.length ≤ 3 * 15 := Nat.mul_le_mul (by omega) fl15
        refine ⟨rfl, .ref c, rfl, .int (b : Nat), rfl, W.n, b, c, _, rfl, s1 _ _ row, rowsM_len _ _, by omega, R.ri.blk.below mb, rowsM_lt hin l, fun G2 s2 => ?_⟩
        refine ⟨_, S1, m1, rfl, s2 _ _ gD1, Nat.lt_of_le_of_lt (show _ ≤ 100 by omega) (by decide), fun b o e => by rw [upd_ne (ne_of_none e hD)]; exact s2 _ _ (s1 b o e), _, _, upd_same, by split <;> omega, fun y => ?_⟩
        rw [Bool.or_eq_true, decide_eq_true_eq, hS1, List.take_add_one, hb, Option.toList_some, or_assoc]
        refine or_congr Iff.rfl ?_
        constructor
        · rintro (⟨b', h1, h2⟩ | rfl)
          · exact ⟨b', List.mem_append_left _ h1, h2⟩
          · exact ⟨b, List.mem_append_right _ (List.mem_singleton.mpr rfl), rfl⟩
        · rintro ⟨b', h1, h2⟩
          rcases List.mem_append.mp h1 with h1 | h1
          · exact .inl ⟨b', h1, h2⟩
          · rw [List.mem_singleton.mp h1] at h2
            exact .inr h2
      · rintro G1 ⟨s1, S1, m1, gD1, hm1, hS1⟩
        rw [List.length_map] at hm1 hS1
        rw [List.take_length] at hS1
        refine ⟨s1, S1, m1, gD1, by rw [Nat.add_mul, Nat.one_mul]; exact hm1, fun y => ?_⟩
        rw [hS1, List.take_add_one, hl, Option.toList_some]
        constructor
        · rintro (⟨l', h1, h2⟩ | h)
          · exact ⟨l', List.mem_append_left _ h1, h2⟩
          · exact ⟨l, List.mem_append_right _ (List.mem_singleton.mpr rfl), h⟩
        · rintro ⟨l', h1, h2⟩
          rcases List.mem_append.mp h1 with h1 | h1
          · exact .inl ⟨l', h1, h2⟩
          · rw [List.mem_singleton.mp h1] at h2
            exact .inr h2
    rintro G ⟨sG, S, m, gD, hm, hS⟩
    rw [List.length_map, R.len] at hm hS
    rw [List.take_length] at hS
    have m60 : m ≤ 4 * 15 := Nat.le_trans hm (Nat.mul_le_mul R.lsz fl15)
    refine ⟨D, S, _, rfl, gD, by omega, fun ns cl asc mem len hcl => ?_⟩
    have s1 := Same.new (o := .lst (ns.map V.int)) hcl
    obtain ⟨cs, rfl⟩ : ∃ cs : List Nat, ns = cs.map fun c => ((c : Nat) : Int) := by
      refine ⟨ns.map Int.toNat, ?_⟩
      rw [List.map_map]
      symm
      refine (List.map_congr_left fun x hx => ?_).trans (List.map_id _)
      obtain ⟨l, _, b, _, rfl⟩ := (hS x).mp ((mem x).mp hx)
      simp
    have hcs : ∀ c, c ∈ cs ↔ ∃ l ∈ ls, ∃ b ∈ fr, c = cutW W l b := fun c => by
      have h1 : c ∈ cs ↔ ((c : Nat) : Int) ∈ cs.map fun c => ((c : Nat) : Int) := by
        rw [List.mem_map]
        exact ⟨fun h => ⟨c, h, rfl⟩, fun ⟨d, h, e⟩ => by rw [← Int.ofNat.inj e]; exact h⟩
      rw [h1, mem, hS]
      exact ⟨fun ⟨l, hl, b, hb, e⟩ => ⟨l, hl, b, hb, Int.ofNat.inj e⟩, fun ⟨l, hl, b, hb, e⟩ => ⟨l, hl, b, hb, by rw [e]⟩⟩
    have gcl : MsAt (upd G cl (.lst ((cs.map fun c => ((c : Nat) : Int)).map V.int))) cl cs := by
      show _ = _
      rw [upd_same, List.map_map]
      rfl
    have sH1 := sG.trans s1
    generalize upd G cl (.lst ((cs.map fun c => ((c : Nat) : Int)).map V.int)) = H1 at gcl sH1
    clear sG s1 gD hcl
    refine ⟨Nat.zero_le _, fun kl hkl => ?_⟩
    have s2 := Same.new (o := .lst []) hkl
    have gk2 : MsAt (upd H1 kl (.lst [])) kl [] := upd_same
    have nHk : H kl = none := by
      cases e : H kl with
      | none => rfl
      | some u => rw [sH1 _ _ e] at hkl; cases hkl
    have sH2 := sH1.trans s2
    have gcl2 := s2 _ _ gcl
    have nck : cl ≠ kl := ne_of_none gcl hkl
    generalize upd H1 kl (.lst []) = H2 at gk2 sH2 gcl2
    clear s2 hkl
    refine ⟨Nat.zero_le _, fun fl hfl => ?_⟩
    have s3 := Same.new (o := .lst []) hfl
    have gf3 : MsAt (upd H2 fl (.lst [])) fl [] := upd_same
    have nHf : H fl = none := by
      cases e : H fl with
      | none => rfl
      | some u => rw [sH2 _ _ e] at hfl; cases hfl
    have sH3 := sH2.trans s3
    have gcl3 := s3 _ _ gcl2
    have gk3 := s3 _ _ gk2
    have nkf : kl ≠ fl := ne_of_none gk2 hfl
    have ncf : cl ≠ fl := ne_of_none gcl2 hfl
    generalize upd H2 fl (.lst []) = H3 at gf3 sH3 gcl3 gk3
    clear s3 hfl sH2 gcl2 gk2 sH1 gcl
    have nz : ∀ b ∈ bs, b ≠ 0 := R.ri.blk.ne
    refine ⟨.ref a.p, rfl, a.p, RC, a.dx, _, .ref a.la, rfl, sH3 _ _ R.ob, TN.cl, TN.nK, rfl, a.la, rfl, ⟨_, SqL.of (sH3 _ _ R.l)⟩, for_list (xs := bs.map fun m => V.int ((m : Nat) : Int)) (fun i σ G => ∃ y1 y5 y6, σ = [some (.ref a.p), y1, some (.ref cl), some (.ref kl), some (.ref fl), y5, y6] ∧ Same H G ∧ MsAt G cl cs ∧ MsAt G kl (keptB (bs.take i) cs) ∧ MsAt G fl (freshB (bs.take i) cs))
      ⟨none, none, none, rfl, sH3, gcl3, gk3, gf3⟩ (fun i σ G _ ⟨_, _, _, _, sG, _⟩ => SqL.of (sG _ _ R.l)) ?_ ?_⟩
    · rintro i x σ G hx ⟨y1, y5, y6, rfl, sG, gc, gk, gf⟩
      obtain ⟨b, hb, rfl⟩ := nats_nth hx
      have mb := List.mem_of_getElem? hb
      have B1 := split_len (cs := cs) (bs := bs.take i) fun x hx => nz x (List.mem_of_mem_take hx)
      have Bk := (R.ri.blk.cut cs)
      have nx1 : keptB (bs.take (i + 1)) cs = keptB (bs.take i) cs ++ if (cutUp b cs).length = 1 then [b] else [] := by rw [List.take_add_one, hb, Option.toList_some, keptB_snoc]
      have nx2 : freshB (bs.take (i + 1)) cs = freshB (bs.take i) cs ++ if (cutUp b cs).length = 1 then [] else cutUp b cs := by rw [List.take_add_one, hb, Option.toList_some, freshB_snoc]
      have lk := keptB_len (bs.take i) cs
      have lti : (bs.take i).length ≤ 15 := by rw [List.length_take]; omega
      have lf : (freshB (bs.take (i + 1)) cs).length ≤ 15 := by
        have h1 : freshB bs cs = freshB (bs.take (i + 1)) cs ++ freshB (bs.drop (i + 1)) cs := by
          unfold freshB
          rw [← List.flatMap_append, List.take_append_drop]
        have E1 := Lk.eqv W (r + 1) W.n
        have h2 := (R.ri.step hin R.cut hcs).blk.len E1
        rw [h1, List.length_append, List.length_append] at h2
        omega
      refine ⟨.int (b : Nat), rfl, .ref cl, rfl, W.n, b, cl, cs, rfl, gc, nz b mb, R.ri.blk.lt b mb, by omega, fun pl G2 s2 npl gp => ?_⟩
      refine ⟨.ref pl, rfl, pl, _, rfl, .inl (SqL.of gp), ?_⟩
      rw [List.length_map]
      have gk2 := s2 _ _ gk
      have gf2 := s2 _ _ gf
      have gc2 := s2 _ _ gc
      have sG2 := sG.trans s2
      refine ⟨rfl, _, rfl, ite2 (fun c => ?_) (fun c => ?_)⟩
      · have c1 : (cutUp b cs).length = 1 := by
          have := V.int.inj (of_decide_eq_true c)
          omega
        rw [if_pos c1] at nx1 nx2
        refine ⟨.ref kl, rfl, .inl ⟨rfl, _, SqL.of gk2⟩, .int (b : Nat), rfl, kl, _, _, rfl, rfl, gk2, by rw [List.length_map]; exact small1000 (by omega), _, _, _, rfl, fun o u e => by rw [upd_ne (ne_of_none e nHk)]; exact sG2 o u e, by show _ = _; rw [upd_ne nck]; exact gc2, ?_, ?_⟩
        · show _ = _
          rw [upd_same, nx1, List.map_append]
          rfl
        · show _ = _
          rw [upd_ne nkf.symm, nx2, List.append_nil]
          exact gf2
      · have c1 : ¬ (cutUp b cs).length = 1 := fun e => c (decide_eq_true (by rw [e]; rfl))
        rw [if_neg c1] at nx1 nx2
        have l2 : (freshB (bs.take i) cs).length + (cutUp b cs).length ≤ 15 := by rw [nx2, List.length_append] at lf; exact lf
        refine ⟨.ref fl, rfl, .inl ⟨rfl, _, SqL.of gf2⟩, .ref pl, rfl, fl, pl, _, _, rfl, rfl, gf2, gp, ?_, _, _, _, rfl, fun o u e => by rw [upd_ne (ne_of_none e nHf)]; exact sG2 o u e, by show _ = _; rw [upd_ne ncf]; exact gc2, ?_, ?_⟩
        · rw [List.length_map, List.length_map]
          exact Nat.le_trans l2 (by decide)
        · show _ = _
          rw [upd_ne nkf, nx1, List.append_nil]
          exact gk2
        · show _ = _
          rw [upd_same, nx2, List.map_append]
    · rintro σ G ⟨y1, y5, y6, rfl, sG, gc, gk, gf⟩
      rw [List.length_map, List.take_length] at gk gf
      have J := R.ri.step hin R.cut hcs
      have jl := J.blk.len (Lk.eqv W (r + 1) W.n)
      rw [List.length_append] at jl
      refine ⟨.ref kl, rfl, .ref fl, rfl, kl, fl, _, _, rfl, rfl, gk, gf, ?_, fun q hq => ?_⟩
      · rw [List.length_map, List.length_map]
        exact Nat.le_trans (Nat.le_trans jl hn) (by decide)
      have nHq : H q = none := by
        cases e : H q with
        | none => rfl
        | some u => rw [sG _ _ e] at hq; cases hq
      have s4 := Same.new (o := .lst ((keptB bs cs).map (fun m => V.int ((m : Nat) : Int)) ++ (freshB bs cs).map fun m => V.int ((m : Nat) : Int))) hq
      have gq : MsAt (upd G q (.lst ((keptB bs cs).map (fun m => V.int ((m : Nat) : Int)) ++ (freshB bs cs).map fun m => V.int ((m : Nat) : Int)))) q (keptB bs cs ++ freshB bs cs) := by
        show _ = _
        rw [upd_same, List.map_append]
      have gf4 := s4 _ _ gf
      have s5 := sG.trans s4
      generalize upd G q (.lst ((keptB bs cs).map (fun m => V.int ((m : Nat) : Int)) ++ (freshB bs cs).map fun m => V.int ((m : Nat) : Int))) = G4 at gq gf4 s5
      have ob5 := s5 _ _ R.ob
      have nqp : q ≠ a.p := (ne_of_none R.ob nHq).symm
      have nfp : fl ≠ a.p := (ne_of_none R.ob nHf).symm
      refine ⟨.ref a.p, rfl, a.p, RC, a.dx, _, rfl, ob5, TN.cl, TN.nK, by show 4 < 1000; decide, ?_⟩
      rw [show putF "_blocks" (V.ref q) ([("_many", V.int ((W.n : Nat) : Int)), ("_before", .ref a.ba), ("_blocks", .ref a.la), ("_fresh", .ref a.fa)] : List (Str × V)) = ([("_many", V.int ((W.n : Nat) : Int)), ("_before", .ref a.ba), ("_blocks", .ref q), ("_fresh", .ref a.fa)] : List (Str × V)) from rfl]
      refine ⟨.ref fl, rfl, .ref a.p, rfl, a.p, RC, a.dx, _, rfl, upd_same, TN.cl, TN.nF, by show 4 < 1000; decide, ?_⟩
      rw [show putF "_fresh" (V.ref fl) ([("_many", V.int ((W.n : Nat) : Int)), ("_before", .ref a.ba), ("_blocks", .ref q), ("_fresh", .ref a.fa)] : List (Str × V)) = ([("_many", V.int ((W.n : Nat) : Int)), ("_before", .ref a.ba), ("_blocks", .ref q), ("_fresh", .ref fl)] : List (Str × V)) from rfl]
      have two : ∀ {o o' : HO}, upd (upd G4 a.p o) a.p o' = upd G4 a.p o' := fun {o o'} => by
        funext b
        by_cases c : b = a.p
        · subst c; rw [upd_same, upd_same]
        · rw [upd_ne c, upd_ne c, upd_ne c]
      rw [two]
      have gf5 : MsAt (upd G4 a.p (.ins RC a.dx [("_many", V.int ((W.n : Nat) : Int)), ("_before", .ref a.ba), ("_blocks", .ref q), ("_fresh", .ref fl)])) fl (freshB bs cs) := by show _ = _; rw [upd_ne nfp]; exact gf4
      refine ⟨.ref fl, rfl, fl, _, rfl, .inl (SqL.of gf5), ?_⟩
      rw [List.length_map]
      have nbp : a.ba ≠ a.p := ne_of R.b R.ob (by intro z; cases z)
      have R5 : Rst RC (upd G4 a.p (.ins RC a.dx [("_many", V.int ((W.n : Nat) : Int)), ("_before", .ref a.ba), ("_blocks", .ref q), ("_fresh", .ref fl)])) ⟨a.p, a.dx, a.ba, q, fl⟩ bas W ls (r + 1) (keptB bs cs ++ freshB bs cs) (freshB bs cs) := by
        refine ⟨upd_same, by show _ = _; rw [upd_ne nbp]; exact s5 _ _ R.b, R.len, fun i c l e1 e2 => ?_, by show _ = _; rw [upd_ne nqp]; exact gq, gf5, J, R.cut, R.lsz, by rw [List.length_append]; omega⟩
        have h1 := R.rows i c l e1 e2
        have ne : c ≠ a.p := ne_of h1 R.ob (by intro z; cases z)
        show _ = _
        rw [upd_ne ne]
        exact s5 _ _ h1
      have kk := k ⟨a.p, a.dx, a.ba, q, fl⟩ cs _ rfl (fun o u n e => by rw [upd_ne n]; exact s5 o u e) R5 hcs
      have e0 : decide ((0 : Int) < (((freshB bs cs).length : Nat) : Int)) = decide (0 < (freshB bs cs).length) := by
        by_cases c : 0 < (freshB bs cs).length
        · rw [decide_eq_true c, decide_eq_true (by omega)]
        · rw [decide_eq_false c, decide_eq_false (by omega)]
      refine ⟨_, _, rfl, rfl, ?_⟩
      show Q (V.bl (decide ((0 : Int) < (((freshB bs cs).length : Nat) : Int)))) _
      rw [e0]
      exact kk
def kfn_least_of (x : Int) : Int := ((2 ^ lsb x.toNat : Nat) : Int)
def okn_least_of (x : Int) : Prop := ∃ m : Nat, m ≠ 0 ∧ x = ((m : Nat) : Int)
theorem sk_least_of : ∀ n, okn_least_of n → ∀ (G : Hp) (Q : VK) (E : XK), Q (.int (kfn_least_of n)) G → spLeast [.int n] G Q E := by
  rintro n ⟨m, hm, rfl⟩ G Q E q
  refine ⟨m, rfl, hm, ?_⟩
  unfold kfn_least_of at q
  rwa [Int.toNat_natCast] at q
/-- the numbers told so far: by the first i blocks -/
def NumAt (n : Nat) (Bs : List Nat) (i : Nat) (L : List Int) : Prop := L.length = n ∧ ∀ k b, k < i → Bs[k]? = some b → ∀ s, tb b s → L[s]? = some (k : Int)
theorem NumAt.cls {W : Wd} {r : Nat} {Bs : List Nat} (Bk : Blk W.n (Lk W r) Bs) (up : Bs.Pairwise fun x y => lsb x ≤ lsb y) {L : List Int} (h : NumAt W.n Bs Bs.length L) : L = clsN (Lk W r) W.n := by
  have E := Lk.eqv W r W.n
  have so := Bk.sorted E up
  refine List.ext_getElem? fun s => ?_
  unfold clsN
  rw [List.getElem?_map]
  by_cases hs : s < W.n
  · obtain ⟨b, hb, sb⟩ := Bk.all s hs
    obtain ⟨k, hk, e⟩ := List.getElem_of_mem hb
    have hk' : Bs[k]? = some b := by rw [List.getElem?_eq_getElem hk, e]
    rw [h.2 k b hk hk' s sb, List.getElem?_range hs]
    show some _ = some _
    congr 2
    have l1 : (ldrs (Lk W r) W.n)[k]? = some (lsb b) := by rw [← so, List.getElem?_map, hk']; rfl
    rw [← num_of E l1, ← Bk.lead E hb sb]
    unfold numC
    rw [ldr_ldr E hs]
  · rw [List.getElem?_eq_none (by rw [h.1]; omega), List.getElem?_eq_none (by rw [List.length_range]; omega)]
    rfl
def spNums (RC : Addr) : Sp := fun vs H Q _ => ∃ (a : RA) (bas : List Addr) (W : Wd) (ls : List Int) (r : Nat) (bs fr : List Nat), vs = [.ref a.p] ∧ Rst RC H a bas W ls r bs fr ∧ W.n ≤ 15 ∧
  ∀ t H', Same H H' → H t = none → H' t = some (.tup ((clsN (Lk W r) W.n).map V.int)) → Q (.ref t) H'
theorem ok_Rounds_numbers {f : Addr} {fd : FuncData} (FF : Fun K "numbers" "Rounds.numbers" s_Rounds_numbers f fd) (T : Txt K mg C J B) (TN : TxtRo K RC) (h_states_in : Has P w K mg base "states_in" 1 a_states_in spSt)
    (h_least_of : Has P w K mg base "least_of" 1 a_least_of spLeast) : FnOk P w K mg base CX0 4 f fd a_Rounds_numbers (spNums RC) := by
  obtain ⟨ql, fdl, mk_least_of, kpl, bk_least_of, fk_least_of⟩ := h_least_of
  refine FF.ok sc_Rounds_numbers (fun vs H Q E h => ?_) (fun cdv A outer s H vs Q E hr h => ?_)
  · obtain ⟨a, bas, W, ls, r, bs, fr, rfl, _⟩ := h
    rfl
  · obtain ⟨a, bas, W, ls, r, bs, fr, rfl, R, hn, k⟩ := h
    refine ⟨_, (pss_cons (ps_set (i := 1) sc_Rounds_numbers.nd rfl (.inl rfl) (pe_op op_rep (pe_lst (pa_cons pe_int pa_nil)) (pe_fld (pv 0) rfl)))
      (pss_cons (ps_for PassesOwn.never rfl (pi_enum rfl T.z_enumerate (pa_cons (pe_callBK (cr_sortedKf hr.units (keyFn_of (kf := kfn_least_of) (ok := okn_least_of) fk_least_of (show Room 3 _ from hr.mono (by omega)).in1.in1 bk_least_of sk_least_of)) rfl T.z_sorted (by decide +kernel) (pa_cons (pe_fld (pv 0) rfl) pa_nil) (pk_cons (pe_glob rfl mk_least_of (show RelV (.ref _) _ from rfl)) pk_nil)) pa_nil)) (pg_tup rfl (pgs_cons (pg_name (i := 2) sc_Rounds_numbers.nd rfl (.inl rfl)) (pgs_cons (pg_name (i := 3) sc_Rounds_numbers.nd rfl (.inl rfl)) pgs_nil))) (pss_one (ps_for PassesOwn.never rfl (pi_list (pe_callH h_states_in (hr.mono (by omega)) (pa_cons (pv 3) pa_nil))) (pg_name (i := 4) sc_Rounds_numbers.nd rfl (.inl rfl)) (pss_one (ps_asg (pv 2) (pg_sub (pv 1) (pv 4) set_list))))))
      (pss_one (ps_ret (pe_callTy call_tuple_of rfl T.z_tuple (by decide +kernel) (pa_cons (pv 1) pa_nil)))))), ?_⟩
    refine ⟨by show 1 ≤ sizeLine; decide, fun z0 hz0 => ?_⟩
    have s1 := Same.new (o := .lst [.int 0]) hz0
    refine ⟨.ref a.p, rfl, a.p, RC, a.dx, _, .int ((W.n : Nat) : Int), rfl, s1 _ _ R.ob, TN.cl, TN.nM, rfl, ?_⟩
    refine ⟨z0, W.n, _, rfl, rfl, upd_same, by omega, by omega, Nat.le_trans (Nat.le_of_eq (show 1 * ((W.n : Nat) : Int).toNat = W.n by omega)) (Nat.le_trans hn (by decide)), fun na hna => ?_⟩
    have e0 : (List.replicate ((W.n : Nat) : Int).toNat [V.int 0]).flatten = (List.replicate W.n (0 : Int)).map V.int := by
      rw [Int.toNat_natCast]
      clear k R hn hna s1 hz0
      generalize W.n = n
      induction n with
      | zero => rfl
      | succ n ih => rw [List.replicate_succ, List.flatten_cons, ih, List.replicate_succ]; rfl
    rw [e0]
    have s2 := s1.trans (Same.new (o := .lst ((List.replicate W.n (0 : Int)).map V.int)) hna)
    have gn : (upd (upd H z0 (.lst [.int 0])) na (.lst ((List.replicate W.n (0 : Int)).map V.int))) na = some (.lst ((List.replicate W.n (0 : Int)).map V.int)) := upd_same
    have nHn : H na = none := by
      cases e : H na with
      | none => rfl
      | some u => rw [s1 _ _ e] at hna; cases hna
    generalize upd (upd H z0 (.lst [.int 0])) na (.lst ((List.replicate W.n (0 : Int)).map V.int)) = H2 at s2 gn
    clear s1 hz0 hna e0
    have bk := R.ri.blk
    refine ⟨.ref a.p, rfl, a.p, RC, a.dx, _, .ref a.la, rfl, s2 _ _ R.ob, TN.cl, TN.nK, rfl, ?_⟩
    refine ⟨a.la, bs.map fun b => ((b : Nat) : Int), rfl, rfl, SqL.of (by rw [List.map_map]; exact s2 _ _ R.l), fun x hx => ?_, fun ns q H3 pm up nq gq s3 => ?_⟩
    · obtain ⟨b, hb, rfl⟩ := List.mem_map.mp hx
      exact ⟨b, bk.ne b hb, rfl⟩
    obtain ⟨Bs, pB, rfl⟩ := perm_map_ex pm bs rfl
    have bkB := bk.perm pB
    have upB : Bs.Pairwise fun x y => lsb x ≤ lsb y := (List.pairwise_map.mp up).imp fun {x y} h => by
      unfold kfn_least_of at h
      rw [Int.toNat_natCast, Int.toNat_natCast] at h
      exact (Nat.pow_le_pow_iff_right (show 1 < 2 by decide)).mp (Int.ofNat_le.mp h)
    have sH3 : Same H H3 := fun b o e => s3 _ _ (s2 _ _ e)
    have gn3 := s3 _ _ gn
    rw [List.map_map] at gq
    have nqn : q ≠ na := fun e => by rw [e, gn] at nq; cases nq
    refine ⟨q, _, rfl, SqL.of gq, for_it walk_enum (fun i σ G => ∃ (y2 y3 y4 : Option V) (L : List Int), σ = [some (.ref a.p), some (.ref na), y2, y3, y4] ∧ Same H G ∧ G q = some (.lst (Bs.map (V.int ∘ fun b => ((b : Nat) : Int)))) ∧ G na = some (.lst (L.map V.int)) ∧ NumAt W.n Bs i L)
      ⟨none, none, none, _, rfl, sH3, gq, gn3, List.length_replicate, fun k b h => absurd h (Nat.not_lt_zero _)⟩ (fun i σ G _ ⟨_, _, _, _, _, _, g, _⟩ => SqL.of g) ?_ ?_⟩
    · rintro i x σ G0 G hi ⟨y2, y3, y4, L, rfl, sG, gq, gn, nm⟩ ⟨tp, x1, x2, rfl, htp, rfl, e1, e2⟩
      rw [List.length_map] at hi
      cases (show some (V.int ((i : Nat) : Int)) = some x1 from e1)
      have hb : Bs[i]? = some Bs[i] := List.getElem?_eq_getElem hi
      have e2' : (Bs.map (V.int ∘ fun b => ((b : Nat) : Int)))[i]? = some x2 := e2
      rw [List.getElem?_map, hb] at e2'
      obtain rfl := Option.some.inj e2'
      have mb := List.mem_of_getElem? hb
      have st := Same.new (o := .tup [V.int ((i : Nat) : Int), (V.int ∘ fun b => ((b : Nat) : Int)) Bs[i]]) htp
      have tT : SqT K (upd G0 tp (.tup [V.int ((i : Nat) : Int), (V.int ∘ fun b => ((b : Nat) : Int)) Bs[i]])) tp [V.int ((i : Nat) : Int), (V.int ∘ fun b => ((b : Nat) : Int)) Bs[i]] := SqT.of upd_same
      have sG1 := sG.trans st
      have gq1 := st _ _ gq
      have gn1 := st _ _ gn
      generalize upd G0 tp (.tup [V.int ((i : Nat) : Int), (V.int ∘ fun b => ((b : Nat) : Int)) Bs[i]]) = G at tT sG1 gq1 gn1
      generalize Bs[i] = b at hb mb tT
      refine ⟨tp, _, rfl, tT, rfl, .int ((i : Nat) : Int), _, rfl, .int ((b : Nat) : Int), _, rfl, rfl, ?_⟩
      refine ⟨.int ((b : Nat) : Int), rfl, W.n, b, rfl, bkB.below mb, by omega, fun sl G2 s4 nsl gsl => ?_⟩
      have nsn : sl ≠ na := fun e => by rw [e, gn1] at nsl; cases nsl
      have nsq : sl ≠ q := fun e => by rw [e, gq1] at nsl; cases nsl
      refine ⟨sl, rfl, ⟨_, SqL.of gsl⟩, for_list (xs := (bitsOf W.n b).map V.int) (fun j σ G => ∃ (y4 : Option V) (L : List Int), σ = [some (.ref a.p), some (.ref na), some (.int ((i : Nat) : Int)), some (.int ((b : Nat) : Int)), y4] ∧ Same H G ∧ G q = some (.lst (Bs.map (V.int ∘ fun b => ((b : Nat) : Int)))) ∧ G sl = some (.lst ((bitsOf W.n b).map V.int)) ∧ G na = some (.lst (L.map V.int)) ∧ NumAt W.n Bs i L ∧ ∀ s ∈ (bitsOf W.n b).take j, L[s.toNat]? = some ((i : Nat) : Int))
        ⟨y4, L, rfl, sG1.trans s4, s4 _ _ gq1, gsl, s4 _ _ gn1, nm, fun s hs => by simp at hs⟩ (fun j σ G _ ⟨_, _, _, _, _, g, _⟩ => SqL.of g) ?_ ?_⟩
      · rintro j x σ G3 hx ⟨y4, L3, rfl, sG3, gq3, gs3, gn3, nm3, done⟩
        obtain ⟨z, hz, rfl⟩ := ints_nth hx
        have mz := mem_bits.mp (List.mem_of_getElem? hz)
        obtain ⟨u, rfl⟩ := Int.eq_ofNat_of_zero_le mz.1.1
        have un : u < W.n := by omega
        have ub : tb b u := by have := mz.2; rw [Int.toNat_natCast] at this; exact this
        refine ⟨.int ((i : Nat) : Int), rfl, .ref na, rfl, .int ((u : Nat) : Int), rfl, na, _, _, u, rfl, rfl, gn3, ixN_nat (by rw [List.length_map, nm3.1]; exact un), some (.int ((u : Nat) : Int)), L3.set u ((i : Nat) : Int), rfl, fun o v e => by rw [upd_ne (ne_of_none e nHn)]; exact sG3 o v e, by rw [upd_ne nqn]; exact gq3, by rw [upd_ne nsn]; exact gs3, by rw [upd_same, List.map_set], ⟨by rw [List.length_set]; exact nm3.1, fun k b' hk hb' s hs => ?_⟩, fun s hs => ?_⟩
        · rw [List.getElem?_set]
          split
          · rename_i e
            subst e
            have dis := bkB.dis
            have hbi := List.getElem?_eq_some_iff.mp hb
            have hbk := List.getElem?_eq_some_iff.mp hb'
            have := List.pairwise_iff_getElem.mp dis k i hbk.1 hbi.1 hk u (by rw [hbk.2]; exact hs) (by rw [hbi.2]; exact ub)
            exact this.elim
          · exact nm3.2 k b' hk hb' s hs
        · rw [List.take_add_one, hz, Option.toList_some] at hs
          rw [List.getElem?_set]
          split
          · rename_i e
            rw [if_pos (by rw [nm3.1]; exact un)]
          · rename_i e
            rcases List.mem_append.mp hs with h | h
            · exact done s h
            · rw [List.mem_singleton.mp h] at e
              exact absurd (by simp) e
      · rintro σ G3 ⟨y4, L3, rfl, sG3, gq3, gs3, gn3, nm3, done⟩
        rw [List.length_map, List.take_length] at done
        refine ⟨_, _, _, L3, rfl, sG3, gq3, gn3, nm3.1, fun k b' hk hb' s hs => ?_⟩
        rcases Nat.lt_succ_iff_lt_or_eq.mp hk with h | rfl
        · exact nm3.2 k b' h hb' s hs
        · rw [hb] at hb'
          cases hb'
          have := done (s : Int) (mem_bits.mpr ⟨⟨Int.natCast_nonneg s, by have := bkB.lt b mb s hs; omega⟩, by rw [Int.toNat_natCast]; exact hs⟩)
          rwa [Int.toNat_natCast] at this
    · rintro σ G ⟨y2, y3, y4, L, rfl, sG, gq, gn, nm⟩
      rw [List.length_map] at nm
      have eL := NumAt.cls bkB upB nm
      refine ⟨.ref na, rfl, na, _, rfl, .inl ⟨SqL.of gn, fun t ht => ?_⟩⟩
      refine k t _ (sG.trans (Same.new ht)) ?_ (by rw [upd_same, eL])
      cases e : H t with
      | none => rfl
      | some u => rw [sG _ _ e] at ht; cases ht
end
end Fw

set_option maxRecDepth 100000
set_option maxHeartbeats 8000000
namespace Fw
open PySem PySem.Spec PyProof.Rows L2 GxR
/-- likeness -/
def LkF (W : Wd) : Nat → Nat → Prop := Lk W (W.n + 1)
theorem LkF.eqv (W : Wd) : Eqv W.n (LkF W) := Lk.eqv W _ _
noncomputable def cN (W : Wd) (s : Int) : Int := ((numC (LkF W) s.toNat : Nat) : Int)
noncomputable def fRows (W : Wd) : List (List Int) := (ldrs (LkF W) W.n).map fun l : Nat => W.at ((l : Nat) : Int)
noncomputable def fStep (W : Wd) (p : T3) : T3 := (cN W p.1, p.2.1, cN W p.2.2)
theorem cN_nat (W : Wd) (s : Nat) : cN W (s : Int) = ((numC (LkF W) s : Nat) : Int) := by unfold cN; rw [Int.toNat_natCast]
theorem cN_lt {W : Wd} {s : Int} (h0 : 0 ≤ s) (h1 : s < (W.n : Int)) : 0 ≤ cN W s ∧ cN W s < ((fRows W).length : Nat) := by
  unfold cN fRows
  rw [List.length_map]
  have := num_lt (LkF.eqv W) (s := s.toNat) (by omega)
  omega
theorem lex_three (a b c x y z : Int) : HT.lexLt [a, b, c] [x, y, z] = lex3 (a, b, c) (x, y, z) := by
  rw [HT.lexLt_cons, HT.lexLt_cons, HT.lexLt_cons]
  unfold lex3
  by_cases h1 : a = x
  · rw [if_pos h1, if_pos h1]
    by_cases h2 : b = y
    · rw [if_pos h2, if_pos h2]
      by_cases h3 : c = z
      · rw [if_pos h3]
        show false = _
        exact (decide_eq_false (by show ¬ c < z; omega)).symm
      · rw [if_neg h3]
    · rw [if_neg h2, if_neg h2]
  · rw [if_neg h1, if_neg h1]
def of3 (p : T3) : List Int := [p.1, p.2.1, p.2.2]
theorem of3_inj {p q : T3} (h : of3 p = of3 q) : p = q := by
  obtain ⟨a, b, c⟩ := p
  obtain ⟨x, y, z⟩ := q
  simp only [of3, List.cons.injEq, and_true] at h
  rw [h.1, h.2.1, h.2.2]
theorem kall_ints (K : PySem.W.Frag) (H : Hp) : ∀ ns : List Int, KAll K H (ns.map V.int) (ns.map .num)
  | [] => .nil
  | n :: ns => .cons (.int n) (kall_ints K H ns)
theorem kis_fK {K : PySem.W.Frag} {H : Hp} {a : Addr} {ns : List Int} (h : SqT K H a (ns.map V.int)) : KIs K H (.ref a) (fK ns) := .tup h (kall_ints K H ns)
theorem nums_low : ∀ ns : List Int, NestedKey.depthAll (ns.map .num) = 0
  | [] => rfl
  | n :: ns => by simp only [List.map_cons, NestedKey.depthAll, NestedKey.depth, nums_low ns]; rfl
theorem nums_nm : ∀ ns : List Int, nmKs (ns.map .num) = true
  | [] => rfl
  | n :: ns => by simp only [List.map_cons, nmKs, nmK, nums_nm ns]; rfl
theorem kn_fK {K : PySem.W.Frag} {H : Hp} {a : Addr} {ns : List Int} (h : SqT K H a (ns.map V.int)) : KN K H (a, fK ns) :=
  ⟨kis_fK h, by show NestedKey.depthAll _ + 1 ≤ 8; rw [nums_low]; decide, nums_nm ns⟩
def toT (ns : List Int) : T3 := (ns.getD 0 0, ns.getD 1 0, ns.getD 2 0)
theorem toT_of3 (q : T3) : toT (of3 q) = q := rfl
def unK : NestedKey → List Int
  | .tup ks => ks.map fun k => match k with | .num i => i | _ => 0
  | _ => []
theorem unK_fK (ns : List Int) : unK (fK ns) = ns := by
  show (ns.map NestedKey.num).map _ = ns
  rw [List.map_map]
  exact List.map_id _
end Fw

set_option maxRecDepth 100000
set_option maxHeartbeats 2000000
/-! index of keys within lists and tuples; tuples that are known exactly; orders of keys -/
namespace Fw
open PySem PySem.Spec PyProof.Rows L2
section
variable {X : Cx}
/-- either rule -/
def rOr (r r' : List V → Hp → VK → Prop) : List V → Hp → VK → Prop := fun vs H Q => r vs H Q ∨ r' vs H Q
theorem cr_or {f : Value} {r r' : List V → Hp → VK → Prop} (h : CallR X f r) (h' : CallR X f r') : CallR X f (rOr r r') := by
  intro pins s σ H xs us Q I rx q
  rcases q with q | q
  · exact h pins s σ H xs us Q I rx q
  · exact h' pins s σ H xs us Q I rx q
/-- l.index(x), keys of whole numbers and tuples -/
def rIndexN (K : PySem.W.Frag) : V → List V → Hp → VK → Prop := fun x xs H Q => ∃ (a : Addr) (y : V) (k : NestedKey) (vs : List V) (ks : List NestedKey), x = V.ref a ∧ xs = [y] ∧ SqL K H a vs ∧ KAll K H vs ks ∧ KIs K H y k ∧ k ∈ ks ∧ k.depth ≤ 8 ∧ Q (.int ((ks.idxOf k : Nat) : Int)) H
theorem mt_indexN (hu : X.A.units + 64 < cLine) : MtR X "list.index" (rIndexN X.K) := by
  intro pins s σ H x xs v us Q I rx rxs h
  obtain ⟨a, y, k, vs, ks, rfl, rfl, hl, ka, ky, mem, low, q⟩ := h
  cases rx
  obtain ⟨u, rfl, ru⟩ := Vals.one rxs
  obtain ⟨its, rv, pl, hz⟩ := I.list hl
  have na := kall_real I ka rv
  have hn := NestedAll.length _ _ na
  have hv := rv.length
  exact SeqAt.call_list_index pl.isList (.nested na (kis_real I ky ru) (by show _ + 1 + _ < _; omega)) (by omega) mem ⟨.int _, H, I.tok _, ⟨_, rfl⟩, q⟩
/-- a tuple whose object is known -/
def FzT (H : Hp) (a : Addr) (xs : List V) : Prop := ∃ o : Obj, o.cls = .type "tuple" ∧ o.dict = none ∧ H a = some (.frz o (.tup xs))
theorem FzT.sq {K : PySem.W.Frag} {H : Hp} {a : Addr} {xs : List V} (h : FzT H a xs) : SqT K H a xs := .inl (.inr (h.imp fun o z => z.2.2))
theorem FzT.same {H H' : Hp} {a : Addr} {xs : List V} (h : FzT H a xs) (s : ∀ b u, H b = some u → H' b = some u) : FzT H' a xs := by
  obtain ⟨o, c, d, e⟩ := h
  exact ⟨o, c, d, s _ _ e⟩
/-- tuple(l), l a list: the tuple is known -/
def rTupFz (K : PySem.W.Frag) : List V → Hp → VK → Prop := fun xs H Q => ∃ p ys, xs = [.ref p] ∧ SqL K H p ys ∧ ∀ (l : Addr) (o : Obj), H l = none → o.cls = .type "tuple" → o.dict = none → Q (.ref l) (upd H l (.frz o (.tup ys)))
theorem call_tuple_fz : CallR X (.type "tuple") (rTupFz X.K) := by
  intro pins s σ H xs us Q I r h
  obtain ⟨p, ys, rfl, hq, q⟩ := h
  rw [Vals.ref1 r]
  obtain ⟨its, r', pl, hz⟩ := I.list hq
  have hlen := r'.length
  refine call_tuple_list pl.isList (fun h' kp => ?_) (by simp only [List.size_toArray] <;> omega)
  have I1 : Inv X pins σ H { s with heap := h' } := I.kept (t' := s.toks) kp
  have I2 : Inv X pins σ (upd H h'.objs.size (.frz { cls := .type "tuple", data := .seq its.toArray } (.tup ys))) { s with heap := h'.push { cls := .type "tuple", data := .seq its.toArray } } :=
    I1.laid (t' := s.toks) (fun b o e => Heap.get?_push_of_some _ e) (Nat.le_refl _) (show ObjOk X.prog X.w _ _ _ (.frz _ (.tup ys)) from ⟨Heap.get?_push_size _ rfl, hz, its, r', IsTup.new _ _⟩)
  exact ⟨.ref h'.objs.size, _, I2, rfl, q _ _ (I1.hok.fresh (Nat.le_refl _)) rfl rfl⟩
/-- t.index(x), whole numbers -/
def tTIx (K : PySem.W.Frag) (to : TE) (t : TA) : TE := fun σ H Q => to σ H fun x H1 => ∃ (a : Addr) (ns : List Int), x = V.ref a ∧ FzT H1 a (ns.map V.int) ∧ t σ H1 fun ys H2 => ∃ n : Int, ys = [.int n] ∧ FzT H2 a (ns.map V.int) ∧ n ∈ ns ∧ Q (.int ((ns.idxOf n : Nat) : Int)) H2
variable {o : Expr} {es : List Expr} {e : Expr} {to : TE} {t : TA} {apos cpos : Pos}
theorem pe_tindex (ho : PE X o to) (ha : PA X (e :: es) t)
    (hbase : attributeBase o "index" X.env (eval o X.env) = eval o X.env := by rfl)
    (hfew : ((backTo cpos (starEach (e :: es) X.env)).all (fun x => !x.1) && (backToKw cpos (keywordEach [] X.env)).all (fun x => x.1.isSome)
      && decide ((e :: es).length + ([] : List Keyword).length + (if ([] : List Keyword).isEmpty then 0 else 1) < 30)) = true := by rfl)
    (hline : (apos.endLine == cpos.line) = true := by rfl) (hs : starEach (e :: es) X.env = (false, eval e X.env) :: starEach es X.env := by rfl) (hplain : (backTo cpos (starEach es X.env)).any (·.1) = false := by rfl) :
    PE X (.Call (.Attribute o "index" apos) (e :: es) [] cpos) (tTIx X.K to t) := by
  refine ⟨fun pins s σ H Q I h => ?_⟩
  refine wpAny_Call_method_late hbase hfew hline rfl (thn (ho.run pins s σ H _ I h) fun v s1 ⟨x, H1, I1, r1, a, ns, ex, fz, q1⟩ => ?_)
  subst ex
  cases r1
  obtain ⟨ob, oc, od, eo⟩ := fz
  have hob := (I1.hok a _ eo).1
  refine ⟨"tuple", "tuple.index", F.plainAttrs_tuple, F.slot_tuple_index, F.type_tuple_index, ⟨ob, hob, oc⟩, fun b eb => ?_, ?_⟩
  · cases eb
    exact ⟨ob, hob, od⟩
  have hA := ha.run cpos pins s1 σ H1 _ I1 q1
  rw [hs] at hA ⊢
  refine Calls.callWith_builtin (by show (false || (backTo cpos (starEach es X.env)).any (·.1)) = false; rw [hplain] <;> rfl) (Calls.evalArgs_plain ?_)
  refine thn hA fun us s2 ⟨vs, H2, I2, r2, q2⟩ => ?_
  obtain ⟨n, rfl, fz2, mem, q⟩ := q2
  obtain ⟨u, rfl, ru⟩ := Vals.one r2
  obtain ⟨tk, rfl⟩ : ∃ tk, u = Value.int n tk := ru
  obtain ⟨its, rv, tp, hz⟩ := I2.tuple (fz2.sq (K := X.K))
  exact SeqAt.tuple_index_ints tp (ints_vals rv) mem ⟨.int _, H2, I2.tok _, ⟨_, rfl⟩, q⟩
/-- max(t), a tuple of whole numbers -/
def rMaxT (K : PySem.W.Frag) : List V → Hp → VK → Prop := fun vs H Q => ∃ (a : Addr) (ns : List Int), vs = [V.ref a] ∧ SqT K H a (ns.map V.int) ∧ 0 < ns.length ∧ ∀ m, m ∈ ns → (∀ y, y ∈ ns → y ≤ m) → Q (.int m) H
theorem maxOf_ok (x : Int) (xs : List Int) : PySem.W.maxOf x xs ∈ x :: xs ∧ ∀ y ∈ x :: xs, y ≤ PySem.W.maxOf x xs := by
  unfold PySem.W.maxOf
  induction xs generalizing x with
  | nil => exact ⟨List.mem_cons_self, fun y hy => by rw [List.mem_singleton.mp hy]; exact Int.le_refl _⟩
  | cons z zs ih =>
    rw [List.foldl_cons]
    by_cases c : x < z
    · have e : PySem.W.DatumOrd.lt x z = true := decide_eq_true c
      rw [if_pos e]
      obtain ⟨h1, h2⟩ := ih z
      refine ⟨List.mem_cons_of_mem _ h1, fun y hy => ?_⟩
      have hz := h2 z List.mem_cons_self
      rcases List.mem_cons.mp hy with rfl | hy
      · omega
      · exact h2 y hy
    · have e : ¬ PySem.W.DatumOrd.lt x z = true := fun q => c (of_decide_eq_true q)
      rw [if_neg e]
      obtain ⟨h1, h2⟩ := ih x
      have hx := h2 x List.mem_cons_self
      refine ⟨?_, fun y hy => ?_⟩
      · rcases List.mem_cons.mp h1 with q | q
        · rw [q]; exact List.mem_cons_self
        · exact List.mem_cons_of_mem _ (List.mem_cons_of_mem _ q)
      · rcases List.mem_cons.mp hy with rfl | hy
        · exact hx
        · rcases List.mem_cons.mp hy with rfl | hy
          · omega
          · exact h2 y (List.mem_cons_of_mem _ hy)
theorem cr_maxT (quiet : X.calm = true) (hu : X.A.units + 64 < cLine) : CallR X (.builtin "max") (rMaxT X.K) := by
  intro pins s σ H vs us Q I r h
  obtain ⟨a, ns, rfl, ht, pos, q⟩ := h
  rw [Vals.ref1 r]
  obtain ⟨its, rv, tp, hz⟩ := I.tuple ht
  cases ns with
  | nil => exact absurd pos (Nat.lt_irrefl _)
  | cons x xs =>
    have ho : PySem.W.HoldAll s.heap its.toArray.toList (x :: xs) := PySem.W.HoldAll.of_ints (by simpa using ints_vals rv)
    refine PySem.W.max_tuple_datum (I.ok.hd quiet) tp ho (by show _ + 1 + 0 < _; omega) fun i v h' tk hi hh k => ?_
    obtain ⟨as, rd⟩ := hh
    obtain ⟨t, rfl⟩ : ∃ t, v = Value.int (PySem.W.maxOf x xs) t := by
      have rd' : Reads h' v (.int (PySem.W.maxOf x xs)) as := rd
      cases rd'
      exact ⟨_, rfl⟩
    have m := maxOf_ok x xs
    exact ⟨.int _, H, I.kept k, ⟨_, rfl⟩, q _ m.1 m.2⟩
end
end Fw

set_option maxRecDepth 100000
set_option maxHeartbeats 2000000
/-! what a state is told by, in a round, and its sign -/
namespace Fw
open PySem PySem.Spec PyProof.Rows L2
def numK : NestedKey → Int | .num i => i | _ => 0
def keyL : NestedKey → List Int | .num i => [i] | .tup ks => ks.map numK | _ => []
theorem keyL_fK (ns : List Int) : keyL (fK ns) = ns := by
  show (ns.map NestedKey.num).map _ = ns
  rw [List.map_map]
  exact List.map_id _
/-- a key of that kind: a number, a tuple of numbers -/
def Kd (b : Bool) (k : NestedKey) : Prop := if b = true then ∃ i, k = .num i else ∃ ns, k = fK ns
theorem Kd.inj {b : Bool} {x y : NestedKey} (hx : Kd b x) (hy : Kd b y) (e : keyL x = keyL y) : x = y := by
  cases b with
  | true =>
    obtain ⟨i, rfl⟩ := hx
    obtain ⟨j, rfl⟩ := hy
    have : [i] = [j] := e
    cases this
    rfl
  | false =>
    obtain ⟨i, rfl⟩ := hx
    obtain ⟨j, rfl⟩ := hy
    rw [keyL_fK, keyL_fK] at e
    rw [e]
theorem lexL_anti : ∀ {a b : List Int}, HT.lexLt a b = false → HT.lexLt b a = false → a = b
  | [], [], _, _ => rfl
  | [], _ :: _, h, _ => by cases h
  | _ :: _, [], _, h => by cases h
  | x :: a, y :: b, h1, h2 => by
    rw [HT.lexLt_cons] at h1 h2
    by_cases e : x = y
    · subst e
      rw [if_pos rfl] at h1 h2
      rw [lexL_anti h1 h2]
    · rw [if_neg e, decide_eq_false_iff_not] at h1
      rw [if_neg (fun z => e z.symm), decide_eq_false_iff_not] at h2
      omega
/-- the members of src, once each, in order -/
structure Cn (us src : List NestedKey) : Prop where
  nd : us.Nodup
  mem : ∀ x, x ∈ us ↔ x ∈ src
  up : us.Pairwise fun x y => HT.lexLt (keyL y) (keyL x) = false
theorem Cn.one {b : Bool} {us vs xs ys : List NestedKey} (h : Cn us xs) (k : Cn vs ys) (hx : ∀ x ∈ xs, Kd b x) (e : ∀ x, x ∈ xs ↔ x ∈ ys) : us = vs := by
  have p : us.Perm vs := (List.perm_ext_iff_of_nodup h.nd k.nd).mpr fun x => by rw [h.mem, k.mem, e]
  refine List.Perm.eq_of_pairwise (le := fun x y => HT.lexLt (keyL y) (keyL x) = false) (fun x y hx' hy' h1 h2 => ?_) h.up k.up p
  have m1 := (h.mem x).mp hx'
  have m2 := (e y).mpr ((k.mem y).mp hy')
  exact (hx x m1).inj (hx y m2) (lexL_anti h2 h1)
theorem Cn.iff {b : Bool} {us vs xs ys : List NestedKey} (h : Cn us xs) (k : Cn vs ys) (hx : ∀ x ∈ xs, Kd b x) : us = vs ↔ ∀ x, x ∈ xs ↔ x ∈ ys :=
  ⟨fun e x => by rw [← h.mem, ← k.mem, e], h.one k hx⟩
/-- the sign of a state -/
def sgK (k : NestedKey) (b0 b1 b2 : List NestedKey) : NestedKey := .tup [k, .tup [.tup b0, .tup b1, .tup b2]]
theorem sgK_inj {k k' : NestedKey} {a b c a' b' c' : List NestedKey} : sgK k a b c = sgK k' a' b' c' ↔ k = k' ∧ a = a' ∧ b = b' ∧ c = c' := by
  unfold sgK
  constructor
  · intro h
    injection h with h
    injection h with h1 h
    injection h with h _
    injection h with h
    injection h with h2 h
    injection h with h3 h
    injection h with h4 _
    injection h2 with h2
    injection h3 with h3
    injection h4 with h4
    exact ⟨h1, h2, h3, h4⟩
  · rintro ⟨rfl, rfl, rfl, rfl⟩
    rfl
/-! ### alike -/
theorem alikeAll_of : ∀ {xs ys : List PyData}, (∀ x ∈ xs, ∀ y ∈ ys, PySem.W.alike x y = true) → PySem.W.alikeAll xs ys = true
  | [], _, _ => by unfold PySem.W.alikeAll; rfl
  | _ :: _, [], _ => by unfold PySem.W.alikeAll; rfl
  | x :: xs, y :: ys, h => by
    unfold PySem.W.alikeAll
    rw [h x List.mem_cons_self y List.mem_cons_self, alikeAll_of fun a ha b hb => h a (List.mem_cons_of_mem _ ha) b (List.mem_cons_of_mem _ hb)]
    rfl
theorem datas_map : ∀ ks : List NestedKey, NestedKey.datas ks = ks.map NestedKey.data
  | [] => rfl
  | k :: ks => by rw [NestedKey.datas, datas_map ks]; rfl
theorem data_tup (ks : List NestedKey) : (NestedKey.tup ks).data = .tuple (ks.map NestedKey.data) := by rw [NestedKey.data, datas_map]
theorem alike_tup {ks ls : List NestedKey} (h : ∀ x ∈ ks, ∀ y ∈ ls, PySem.W.alike x.data y.data = true) : PySem.W.alike (NestedKey.tup ks).data (NestedKey.tup ls).data = true := by
  rw [data_tup, data_tup]
  unfold PySem.W.alike
  refine alikeAll_of fun x hx y hy => ?_
  obtain ⟨k, hk, rfl⟩ := List.mem_map.mp hx
  obtain ⟨l, hl, rfl⟩ := List.mem_map.mp hy
  exact h k hk l hl
theorem alike_num (i j : Int) : PySem.W.alike (NestedKey.num i).data (NestedKey.num j).data = true := by
  simp only [NestedKey.data]
  unfold PySem.W.alike
  rfl
theorem alike_kd {b : Bool} {x y : NestedKey} (hx : Kd b x) (hy : Kd b y) : PySem.W.alike x.data y.data = true := by
  cases b with
  | true =>
    obtain ⟨i, rfl⟩ := hx
    obtain ⟨j, rfl⟩ := hy
    exact alike_num i j
  | false =>
    obtain ⟨i, rfl⟩ := hx
    obtain ⟨j, rfl⟩ := hy
    refine alike_tup fun x hx y hy => ?_
    obtain ⟨k, _, rfl⟩ := List.mem_map.mp hx
    obtain ⟨l, _, rfl⟩ := List.mem_map.mp hy
    exact alike_num k l
structure SgOk (b : Bool) (k : NestedKey) (b0 b1 b2 : List NestedKey) : Prop where
  k : Kd b k
  b0 : ∀ x ∈ b0, Kd b x
  b1 : ∀ x ∈ b1, Kd b x
  b2 : ∀ x ∈ b2, Kd b x
theorem alike_sg {b : Bool} {k k' : NestedKey} {a c d a' c' d' : List NestedKey} (h : SgOk b k a c d) (h' : SgOk b k' a' c' d') : PySem.W.alike (sgK k a c d).data (sgK k' a' c' d').data = true := by
  have t : ∀ {xs ys : List NestedKey}, (∀ x ∈ xs, Kd b x) → (∀ x ∈ ys, Kd b x) → PySem.W.alike (NestedKey.tup xs).data (NestedKey.tup ys).data = true := fun hx hy => alike_tup fun x mx y my => alike_kd (hx x mx) (hy y my)
  unfold sgK
  rw [data_tup, data_tup]
  simp only [List.map_cons, List.map_nil]
  unfold PySem.W.alike PySem.W.alikeAll PySem.W.alikeAll
  rw [alike_kd h.k h'.k, alike_tup (ks := [.tup a, .tup c, .tup d]) (ls := [.tup a', .tup c', .tup d'])]
  · rfl
  · intro x hx y hy
    simp only [List.mem_cons, List.not_mem_nil, or_false] at hx hy
    rcases hx with rfl | rfl | rfl <;> rcases hy with rfl | rfl | rfl
    all_goals first
      | exact t h.b0 h'.b0 | exact t h.b0 h'.b1 | exact t h.b0 h'.b2
      | exact t h.b1 h'.b0 | exact t h.b1 h'.b1 | exact t h.b1 h'.b2
      | exact t h.b2 h'.b0 | exact t h.b2 h'.b1 | exact t h.b2 h'.b2
theorem kd_low {b : Bool} {x : NestedKey} (h : Kd b x) : x.depth ≤ 1 := by
  cases b with
  | true => obtain ⟨i, rfl⟩ := h; simp only [NestedKey.depth]; omega
  | false =>
    obtain ⟨ns, rfl⟩ := h
    have : ∀ ns : List Int, NestedKey.depthAll (ns.map .num) = 0 := fun ns => by
      induction ns with
      | nil => rfl
      | cons n ns ih => simp only [List.map_cons, NestedKey.depthAll, NestedKey.depth, ih]; rfl
    show NestedKey.depthAll _ + 1 ≤ 1
    rw [this]
    exact Nat.le_refl _
theorem kds_low {b : Bool} : ∀ {xs : List NestedKey}, (∀ x ∈ xs, Kd b x) → NestedKey.depthAll xs ≤ 1
  | [], _ => by simp only [NestedKey.depthAll]; omega
  | x :: xs, h => by
    simp only [NestedKey.depthAll]
    have := kd_low (h x List.mem_cons_self)
    have := kds_low (xs := xs) fun y hy => h y (List.mem_cons_of_mem _ hy)
    omega
theorem sg_low {b : Bool} {k : NestedKey} {a c d : List NestedKey} (h : SgOk b k a c d) : (sgK k a c d).depth ≤ 4 := by
  have h0 := kd_low h.k
  have h1 := kds_low h.b0
  have h2 := kds_low h.b1
  have h3 := kds_low h.b2
  unfold sgK
  simp only [NestedKey.depth, NestedKey.depthAll]
  omega
theorem nmKs_of : ∀ {xs : List NestedKey}, (∀ x ∈ xs, nmK x = true) → nmKs xs = true
  | [], _ => rfl
  | x :: xs, h => by
    unfold nmKs
    rw [h x List.mem_cons_self, nmKs_of fun y hy => h y (List.mem_cons_of_mem _ hy)]
    rfl
theorem kd_nm {b : Bool} {x : NestedKey} (h : Kd b x) : nmK x = true := by
  cases b with
  | true => obtain ⟨i, rfl⟩ := h; rfl
  | false =>
    obtain ⟨ns, rfl⟩ := h
    refine nmKs_of fun x hx => ?_
    obtain ⟨i, _, rfl⟩ := List.mem_map.mp hx
    rfl
theorem tup_nm {xs : List NestedKey} (h : ∀ x ∈ xs, nmK x = true) : nmK (.tup xs) = true := nmKs_of h
theorem sg_nm {b : Bool} {k : NestedKey} {a c d : List NestedKey} (h : SgOk b k a c d) : nmK (sgK k a c d) = true := by
  refine tup_nm fun x hx => ?_
  simp only [List.mem_cons, List.not_mem_nil, or_false] at hx
  rcases hx with rfl | rfl
  · exact kd_nm h.k
  · refine tup_nm fun x hx => ?_
    simp only [List.mem_cons, List.not_mem_nil, or_false] at hx
    rcases hx with rfl | rfl | rfl
    · exact tup_nm fun x hx => kd_nm (h.b0 x hx)
    · exact tup_nm fun x hx => kd_nm (h.b1 x hx)
    · exact tup_nm fun x hx => kd_nm (h.b2 x hx)
/-! ### likeness by signs -/
/-- what the states behind s by l are told by -/
def srcK (W : Wd) (kf : Nat → NestedKey) (s : Nat) (l : Int) : List NestedKey := (W.beh (s : Int) l).map fun y => kf y.toNat
theorem sg_iff {W : Wd} {b : Bool} {r : Nat} {kf : Nat → NestedKey} {B : Nat → Nat → List NestedKey} (hin : W.In) (lb : ∀ p ∈ W.steps, 0 ≤ p.2.1 ∧ p.2.1 < 3) (kd : ∀ s, s < W.n → Kd b (kf s)) (R : ∀ s t, s < W.n → t < W.n → (kf s = kf t ↔ Lk W r s t))
    (C : ∀ s l, s < W.n → l < 3 → Cn (B s l) (srcK W kf s (l : Nat))) {s t : Nat} (hs : s < W.n) (ht : t < W.n) : sgK (kf s) (B s 0) (B s 1) (B s 2) = sgK (kf t) (B t 0) (B t 1) (B t 2) ↔ Lk W (r + 1) s t := by
  have kds : ∀ s l, ∀ x ∈ srcK W kf s l, Kd b x := fun s l x hx => by
    obtain ⟨y, hy, rfl⟩ := List.mem_map.mp hx
    have := hin.beh hy
    exact kd _ (by omega)
  have ms : ∀ s t : Nat, ∀ l : Int, s < W.n → t < W.n → ((∀ x, x ∈ srcK W kf s l ↔ x ∈ srcK W kf t l) ↔ (∀ y ∈ W.beh (s : Int) l, ∃ z ∈ W.beh (t : Int) l, Lk W r y.toNat z.toNat) ∧ (∀ z ∈ W.beh (t : Int) l, ∃ y ∈ W.beh (s : Int) l, Lk W r y.toNat z.toNat)) := fun s t l hs ht => by
    constructor
    · intro h
      refine ⟨fun y hy => ?_, fun z hz => ?_⟩
      · obtain ⟨z, hz, e⟩ := List.mem_map.mp ((h _).mp (List.mem_map.mpr ⟨y, hy, rfl⟩))
        have hy' := hin.beh hy
        have hz' := hin.beh hz
        exact ⟨z, hz, (R _ _ (by omega) (by omega)).mp e.symm⟩
      · obtain ⟨y, hy, e⟩ := List.mem_map.mp ((h _).mpr (List.mem_map.mpr ⟨z, hz, rfl⟩))
        have hy' := hin.beh hy
        have hz' := hin.beh hz
        exact ⟨y, hy, (R _ _ (by omega) (by omega)).mp e⟩
    · rintro ⟨h1, h2⟩ x
      constructor
      · intro hx
        obtain ⟨y, hy, rfl⟩ := List.mem_map.mp hx
        obtain ⟨z, hz, e⟩ := h1 y hy
        have hy' := hin.beh hy
        have hz' := hin.beh hz
        exact List.mem_map.mpr ⟨z, hz, ((R _ _ (by omega) (by omega)).mpr e).symm⟩
      · intro hx
        obtain ⟨z, hz, rfl⟩ := List.mem_map.mp hx
        obtain ⟨y, hy, e⟩ := h2 z hz
        have hy' := hin.beh hy
        have hz' := hin.beh hz
        exact List.mem_map.mpr ⟨y, hy, (R _ _ (by omega) (by omega)).mpr e⟩
  rw [sgK_inj, R s t hs ht, (C s 0 hs (by decide)).iff (C t 0 ht (by decide)) (kds s _), (C s 1 hs (by decide)).iff (C t 1 ht (by decide)) (kds s _), (C s 2 hs (by decide)).iff (C t 2 ht (by decide)) (kds s _),
    ms s t _ hs ht, ms s t _ hs ht, ms s t _ hs ht]
  constructor
  · rintro ⟨h, h0, h1, h2⟩
    refine ⟨h, fun l => ?_⟩
    by_cases c : 0 ≤ l ∧ l < 3
    · obtain rfl | rfl | rfl : l = 0 ∨ l = 1 ∨ l = 2 := by omega
      · exact h0
      · exact h1
      · exact h2
    · have no : ∀ {s : Int} {y : Int}, y ∉ W.beh s l := fun {s y} hy => c (lb _ (hin.beh hy).2.2)
      exact ⟨fun y hy => absurd hy no, fun z hz => absurd hz no⟩
  · rintro ⟨h, k⟩
    exact ⟨h, k _, k _, k _⟩
/-! ### the last: numbers by first places -/
/-- the values, once each, in the order they come -/
theorem first_nums {n : Nat} {R : Nat → Nat → Prop} (E : Eqv n R) {c : Nat → Int} (h : ∀ s t, s < n → t < n → (c s = c t ↔ R s t)) :
    (∀ i, i < n → (c i ∈ (ldrs R i).map c ↔ ldr R i ≠ i)) ∧ ∀ s, s < n → c s ∈ (ldrs R n).map c ∧ ((ldrs R n).map c).idxOf (c s) = numC R s := by
  refine ⟨fun i hi => ?_, fun s hs => ?_⟩
  · have o := ldr_ok E hi
    rw [List.mem_map]
    constructor
    · rintro ⟨t, ht, e⟩ z
      have m := mem_ldrs.mp ht
      have r := (h t i (by omega) hi).mp e
      have := o.2.2 t r (by omega)
      omega
    · intro ne
      have l : ldr R i < i := by omega
      exact ⟨ldr R i, mem_ldrs.mpr ⟨l, ldr_ldr E hi⟩, (h _ _ (by omega) hi).mpr o.2.1⟩
  · have at_ := num_at E hs
    have lt := num_lt E hs
    have ln := ldr_lt E hs
    have o := ldr_ok E hs
    have e1 : c (ldr R s) = c s := (h _ _ ln hs).mpr o.2.1
    have at2 : ((ldrs R n).map c)[numC R s]? = some (c s) := by rw [List.getElem?_map, at_, Option.map_some, e1]
    refine ⟨List.mem_of_getElem? at2, ?_⟩
    have mm := List.mem_of_getElem? at2
    have il : ((ldrs R n).map c).idxOf (c s) < ((ldrs R n).map c).length := List.idxOf_lt_length_iff.mpr mm
    have at3 : ((ldrs R n).map c)[((ldrs R n).map c).idxOf (c s)]? = some (c s) := by
      rw [List.getElem?_eq_getElem il, List.getElem_idxOf]
    rw [List.getElem?_map] at at3
    cases e : (ldrs R n)[((ldrs R n).map c).idxOf (c s)]? with
    | none => rw [e] at at3; cases at3
    | some l =>
      rw [e] at at3
      have e2 : c l = c s := Option.some.inj at3
      have ml := mem_ldrs.mp (List.mem_of_getElem? e)
      have r := (h l s ml.1 hs).mp e2
      rw [← num_of E e]
      exact (num_eq E ml.1 hs).mpr r
end Fw

set_option maxRecDepth 100000
set_option maxHeartbeats 4000000
namespace Fw
open PySem PySem.Spec PyProof.Rows L2 GxR
theorem kall_nums {K : PySem.W.Frag} {H : Hp} : ∀ {vs : List V} {ks : List NestedKey}, KAll K H vs ks → (∀ k ∈ ks, Kd true k) → vs = (ks.map numK).map V.int ∧ ks = (ks.map numK).map NestedKey.num
  | _, _, .nil, _ => ⟨rfl, rfl⟩
  | _, _, .cons (k := k) h r, kd => by
    obtain ⟨i, rfl⟩ := kd k List.mem_cons_self
    cases h
    have := kall_nums r fun k hk => kd k (List.mem_cons_of_mem _ hk)
    refine ⟨?_, ?_⟩
    · rw [List.map_cons, List.map_cons, ← this.1]; rfl
    · rw [List.map_cons, List.map_cons, ← this.2]; rfl
theorem kall_en {K : PySem.W.Frag} {H : Hp} : ∀ {vs : List V} {ks : List NestedKey}, KAll K H vs ks → (∀ k ∈ ks, Kd false k) → ∃ es : List EN, vs = es.map (fun e => V.ref e.1) ∧ ks = es.map (·.2) ∧ ∀ e ∈ es, KIs K H (.ref e.1) e.2
  | _, _, .nil, _ => ⟨[], rfl, rfl, fun e h => by cases h⟩
  | _, _, .cons (k := k) h r, kd => by
    obtain ⟨es, e1, e2, e3⟩ := kall_en r fun k hk => kd k (List.mem_cons_of_mem _ hk)
    obtain ⟨ns, rfl⟩ := kd k List.mem_cons_self
    cases h with
    | @tup a xs ks hs ha =>
      refine ⟨(a, fK ns) :: es, by rw [e1]; rfl, by rw [e2]; rfl, fun e he => ?_⟩
      rcases List.mem_cons.mp he with h | h
      · rw [h]; exact .tup hs ha
      · exact e3 e h
theorem kall_of {K : PySem.W.Frag} {H : Hp} : ∀ {es : List EN}, (∀ e ∈ es, KIs K H (.ref e.1) e.2) → KAll K H (es.map fun e => V.ref e.1) (es.map (·.2))
  | [], _ => .nil
  | e :: es, h => .cons (h e List.mem_cons_self) (kall_of fun x hx => h x (List.mem_cons_of_mem _ hx))
theorem kis_fK_inv {K : PySem.W.Frag} {H : Hp} {a : Addr} {ns : List Int} (h : KIs K H (.ref a) (fK ns)) : SqT K H a (ns.map V.int) := by
  cases h with
  | tup hs ha =>
    have := kall_nums ha fun k hk => by
      obtain ⟨i, _, rfl⟩ := List.mem_map.mp hk
      exact ⟨i, rfl⟩
    have e : (ns.map NestedKey.num).map numK = ns := by rw [List.map_map]; exact List.map_id _
    rw [e] at this
    rw [← this.1]
    exact hs
theorem kis_tup_inv {K : PySem.W.Frag} {H : Hp} {a : Addr} {ks : List NestedKey} (h : KIs K H (.ref a) (.tup ks)) : ∃ xs, SqT K H a xs ∧ KAll K H xs ks := by
  cases h with
  | tup hs ha => exact ⟨_, hs, ha⟩
theorem lex_one {i j : Int} : HT.lexLt [j] [i] = false ↔ i ≤ j := by
  rw [HT.lexLt_cons]
  by_cases e : j = i
  · rw [if_pos e]; subst e; exact ⟨fun _ => Int.le_refl _, fun _ => rfl⟩
  · rw [if_neg e, decide_eq_false_iff_not]; omega
theorem KIs.same {K : PySem.W.Frag} {H H' : Hp} {v : V} {k : NestedKey} (s : Same H H') (h : KIs K H v k) : KIs K H' v k := h.map fun _ _ => SqT.same s
theorem KAll.same {K : PySem.W.Frag} {H H' : Hp} {v : List V} {k : List NestedKey} (s : Same H H') (h : KAll K H v k) : KAll K H' v k := h.map fun _ _ => SqT.same s
theorem sqt_lst {K : PySem.W.Frag} {H : Hp} {l a : Addr} {xs ys : List V} {o : HO} (hl : H l = some (.lst ys)) (h : SqT K H a xs) : SqT K (upd H l o) a xs := by
  rcases h with (h | ⟨u, h⟩) | h
  · exact .inl (.inl (by rw [upd_ne (ne_of h hl (by intro z; cases z))]; exact h))
  · exact .inl (.inr ⟨u, by rw [upd_ne (ne_of h hl (by intro z; cases z))]; exact h⟩)
  · exact .inr h
theorem KAll.snoc {K : PySem.W.Frag} {H : Hp} {v : V} {k : NestedKey} (h : KIs K H v k) : ∀ {vs : List V} {ks : List NestedKey}, KAll K H vs ks → KAll K H (vs ++ [v]) (ks ++ [k])
  | _, _, .nil => .cons h .nil
  | _, _, .cons a r => .cons a (KAll.snoc h r)
theorem data_depth : ∀ (n : Nat) (k : NestedKey), k.depth ≤ n → k.data.depth ≤ n
  | n, .none, _ => by simp only [NestedKey.data, PyData.depth]; omega
  | n, .num i, _ => by simp only [NestedKey.data, PyData.depth]; omega
  | n, .text x, _ => by simp only [NestedKey.data, PyData.depth]; omega
  | 0, .tup ks, h => by simp only [NestedKey.depth] at h; omega
  | n + 1, .tup ks, h => by
    simp only [NestedKey.depth] at h
    rw [data_tup]
    simp only [PyData.depth]
    have : ∀ ks : List NestedKey, NestedKey.depthAll ks ≤ n → PyData.depthAll (ks.map NestedKey.data) ≤ n := fun ks => by
      induction ks with
      | nil => intro _; simp only [List.map_nil, PyData.depthAll]; omega
      | cons k ks ih =>
        intro h
        simp only [NestedKey.depthAll] at h
        simp only [List.map_cons, PyData.depthAll]
        have h1 := data_depth n k (by omega)
        have h2 := ih (by omega)
        omega
    have := this ks (by omega)
    omega
section
variable {P : Program} {w : World} {K : PySem.W.Frag} {mg : Str → Option Value} {base : Heap} {C J B WC NC RC cA tA : Addr}
/-- tuple(sorted(set(l))) -/
theorem inner_set {H : Hp} {Q : VK} {l : Addr} {zs : List V} {ms : List NestedKey} {b : Bool} (hl : SqL K H l zs) (ka : KAll K H zs ms) (kd : ∀ k ∈ ms, Kd b k) (few : ms.length ≤ 76) (few' : ∃ Vs : List Int, Vs.length ≤ 60 ∧ ∀ i, NestedKey.num i ∈ ms → i ∈ Vs)
    (k : ∀ (T : Addr) (us : List V) (ns : List NestedKey) (H' : Hp), Same H H' → H T = none → H' T = some (.tup us) → KAll K H' us ns → Cn ns ms → Q (.ref T) H') :
    rOr (rSetL K w) (rSetTN K w) [.ref l] H fun v H1 => rOr (rSortedSet w) (rSortF K w) [v] H1 fun u H2 => rTupOf K [u] H2 Q := by
  cases b with
  | true =>
    obtain ⟨e1, e2⟩ := kall_nums ka kd
    generalize ms.map numK = ns at e1 e2
    subst e1 e2
    obtain ⟨Vs, v1, v2⟩ := few'
    refine .inl ⟨l, ns, rfl, hl, by rw [List.length_map] at few; omega, fun p c hp hc hV => .inl ⟨p, _, c, rfl, upd_same, ?_, fun out q up mem len hq => ⟨q, _, rfl, .inl ⟨SqL.of upd_same, fun T hT => ?_⟩⟩⟩⟩
    · have := hV Vs fun x hx => v2 x (List.mem_map.mpr ⟨x, hx, rfl⟩)
      omega
    · have s1 := Same.new (o := SetO w p (fun j => decide (j ∈ ns)) c) hp
      have s2 := Same.new (o := .lst (out.map V.int)) hq
      have s3 := Same.new (o := .tup (out.map V.int)) hT
      have s := (s1.trans s2).trans s3
      have hT0 : H T = none := by
        cases e : H T with
        | none => rfl
        | some u => rw [s2 _ _ (s1 _ _ e)] at hT; cases hT
      refine k T _ (out.map .num) _ s hT0 upd_same (kall_ints K _ out) ⟨?_, fun x => ?_, ?_⟩
      · rw [List.nodup_iff_pairwise_ne, List.pairwise_map]
        exact up.imp fun {x y} h e => by have := NestedKey.num.inj e; omega
      · rw [List.mem_map, List.mem_map]
        constructor
        · rintro ⟨i, hi, rfl⟩
          exact ⟨i, of_decide_eq_true ((mem i).mp hi), rfl⟩
        · rintro ⟨i, hi, rfl⟩
          exact ⟨i, (mem i).mpr (decide_eq_true hi), rfl⟩
      · rw [List.pairwise_map]
        exact up.imp fun {x y} h => lex_one.mpr (by omega)
  | false =>
    obtain ⟨es, rfl, rfl, ke⟩ := kall_en ka kd
    have kn : ∀ e ∈ es, KN K H e := fun e he => by
      have kde := kd e.2 (List.mem_map.mpr ⟨e, he, rfl⟩)
      exact ⟨ke e he, by have := kd_low kde; omega, kd_nm kde⟩
    refine .inr ⟨l, es, rfl, hl, kn, by rw [List.length_map] at few; omega, fun a L ha sub all nd => .inr ⟨a, L, fun e => keyL e.2, rfl, upd_same, fun e he => ?_, fun L' p pm up hp => ⟨p, _, rfl, .inl ⟨SqL.of upd_same, fun T hT => ?_⟩⟩⟩⟩
    · have he' := sub e he
      obtain ⟨ns, e2⟩ := kd e.2 (List.mem_map.mpr ⟨e, he', rfl⟩)
      have kk := (ke e he').same (Same.new (o := SetNO w a L) ha)
      show SqT K _ e.1 ((keyL e.2).map V.int) ∧ _ ∧ e.2 = fK (keyL e.2)
      refine ⟨?_, kk, ?_⟩
      · rw [e2] at kk ⊢
        rw [keyL_fK]
        exact kis_fK_inv kk
      · rw [e2, keyL_fK]
    · have s1 := Same.new (o := SetNO w a L) ha
      have s2 := Same.new (o := .lst (L'.map fun e => V.ref e.1)) hp
      have s3 := Same.new (o := .tup (L'.map fun e => V.ref e.1)) hT
      have s := (s1.trans s2).trans s3
      have hT0 : H T = none := by
        cases e : H T with
        | none => rfl
        | some u => rw [s2 _ _ (s1 _ _ e)] at hT; cases hT
      refine k T _ (L'.map (·.2)) _ s hT0 upd_same (kall_of fun e he => (ke e (sub e (pm.mem_iff.mp he))).same s) ⟨(pm.map _).nodup_iff.mpr nd, fun x => ?_, ?_⟩
      · rw [(pm.map (·.2)).mem_iff]
        constructor
        · intro hx
          obtain ⟨e, he, rfl⟩ := List.mem_map.mp hx
          exact List.mem_map.mpr ⟨e, sub e he, rfl⟩
        · intro hx
          obtain ⟨e, he, rfl⟩ := List.mem_map.mp hx
          exact all e he
      · rw [List.pairwise_map]
        exact up
def spIsInt : Sp := fun vs H Q _ => ∃ n : Int, vs = [.int n] ∧ Q (.bl true) H
theorem ok_law_is_integer {f : Addr} {fd : FuncData} (FF : Fun K "_law_is_integer" "_law_is_integer" s_law_is_integer f fd) (T : Txt K mg C J B) : FnOk P w K mg base CX0 1 f fd a_law_is_integer spIsInt := by
  refine FF.ok sc_law_is_integer (fun vs H Q E h => ?_) (fun cdv A outer s H vs Q E hr h => ?_)
  · obtain ⟨n, rfl, _⟩ := h
    rfl
  · obtain ⟨n, rfl, k⟩ := h
    refine ⟨_, (pss_one (ps_ret (pe_and (pe_callB call_isi rfl T.z_isinstance (by decide +kernel) (pa_cons (pv 0) (pa_cons (pe_bltn (v := .ty "int") (u := .type "int") rfl T.z_int (by decide +kernel) rfl) pa_nil))) (pe_one (pe_not (pe_callB call_isi rfl T.z_isinstance (by decide +kernel) (pa_cons (pv 0) (pa_cons (pe_bltn (v := .ty "bool") (u := .type "bool") rfl T.z_bool (by decide +kernel) rfl) pa_nil)))))))), ?_⟩
    refine ⟨.int n, rfl, .int n, .ty "int", .type "int", .type "int", true, rfl, .ty "int", .base (.int n), kit_ty (by decide +kernel), true, rfl, iteT ?_⟩
    exact ⟨.int n, rfl, .int n, .ty "bool", .type "int", .type "bool", false, rfl, .ty "bool", .base (.int n), kit_ty (by decide +kernel), false, rfl, k⟩
def spNumb (K : PySem.W.Frag) : Sp := fun vs H Q _ => ∃ (a : Addr) (ns : List Int), vs = [.ref a, .int (ns.length : Nat), .int 0] ∧ H a = some (.tup (ns.map V.int)) ∧ (∀ n ∈ ns, 0 ≤ n) ∧ Q (.bl true) H
theorem ok_law_numbers {f : Addr} {fd : FuncData} (FF : Fun K "_law_numbers" "_law_numbers" s_law_numbers f fd) (T : Txt K mg C J B) (h_law_is_integer : Has P w K mg base "_law_is_integer" 1 a_law_is_integer spIsInt) : FnOk P w K mg base CX0 2 f fd a_law_numbers (spNumb K) := by
  refine FF.ok sc_law_numbers (fun vs H Q E h => ?_) (fun cdv A outer s H vs Q E hr h => ?_)
  · obtain ⟨a, ns, rfl, _⟩ := h
    rfl
  · obtain ⟨a, ns, rfl, ha, pos, k⟩ := h
    refine ⟨_, (pss_cons (ps_if (PW.pt (pw_or (pt_not (pt_val (pe_callB call_isi rfl T.z_isinstance (by decide +kernel) (pa_cons (pv 0) (pa_cons (pe_bltn (v := .ty "tuple") (u := .type "tuple") rfl T.z_tuple (by decide +kernel) rfl) pa_nil))))) (pw_or1 (pt_cmpR op_ne (pe_callB call_len_seq rfl T.z_len (by decide +kernel) (pa_cons (pv 0) pa_nil)) (pv 1) (nomark _))))) (pss_one (ps_ret pe_bl)) pss_nil)
      (pss_cons (ps_for PassesOwn.never rfl (pi_tup (pv 0)) (pg_name (i := 3) sc_law_numbers.nd rfl (.inl rfl)) (pss_one (ps_if (PW.pt (pw_or (pt_not (pt_val (pe_callH h_law_is_integer (hr.mono (by omega)) (pa_cons (pv 3) pa_nil)))) (pw_or1 (pt_cmpR op_lt (pv 3) (pv 2) (nomark _))))) (pss_one (ps_ret pe_bl)) pss_nil)))
      (pss_one (ps_ret pe_bl)))), ?_⟩
    refine ⟨.ref a, rfl, .ref a, .ty "tuple", .type "tuple", .type "tuple", true, rfl, .ty "tuple", .base (.tup ha), kit_ty (by decide +kernel), true, rfl, ?_⟩
    refine iteF ⟨.ref a, rfl, a, _, rfl, .inr (SqT.of ha), .int (ns.length : Nat), rfl, ?_⟩
    rw [List.length_map]
    refine ⟨rfl, false, congrArg V.bl (by simp), iteF ?_⟩
    refine ⟨.ref a, rfl, a, rfl, ⟨_, SqT.of ha⟩, for_it walk_tup (fun i σ G => ∃ y, σ = [some (.ref a), some (.int (ns.length : Nat)), some (.int 0), y] ∧ G = H) ⟨none, rfl, rfl⟩ (fun i σ G _ ⟨y, _, e⟩ => by rw [e]; exact SqT.of ha) ?_ ?_⟩
    · rintro i x σ G G' hi ⟨y, rfl, rfl⟩ ⟨rfl, hx⟩
      rw [List.getElem?_map] at hx
      cases e : ns[i]? with
      | none => rw [e] at hx; cases hx
      | some n =>
        rw [e] at hx
        obtain rfl := Option.some.inj hx
        have p := pos n (List.mem_of_getElem? e)
        refine ⟨.int n, rfl, n, rfl, true, rfl, iteF ?_⟩
        refine ⟨.int n, rfl, .int 0, rfl, n, 0, rfl, rfl, _, rfl, ?_⟩
        rw [decide_eq_false (by omega)]
        exact iteF ⟨_, rfl, rfl⟩
    · rintro σ G ⟨y, rfl, rfl⟩
      exact k
end
end Fw

set_option maxRecDepth 100000
set_option maxHeartbeats 4000000
namespace Fw
open PySem PySem.Spec PyProof.Rows L2
theorem cutV_one (xs : List V) : cutV xs (some 1) none = xs.drop 1 := by
  unfold cutV
  rw [show HT.sIx xs.length 0 (some 1) = min 1 xs.length from HT.sIx_nat _ _ 1, HT.sIx_none]
  rcases Nat.le_total 1 xs.length with h | h
  · rw [Nat.min_eq_left h, List.take_of_length_le (by rw [List.length_drop]; exact Nat.le_refl _)]
  · rw [Nat.min_eq_right h, List.drop_length, List.drop_eq_nil_of_le h]
    simp
section
variable {P : Program} {w : World} {K : PySem.W.Frag} {mg : Str → Option Value} {base : Heap} {C J B NC FE OD : Addr}
def spSz (K : PySem.W.Frag) : Nat → Sp
  | 0 => fun _ _ _ _ => False
  | n + 1 => fun vs H Q _ => ∃ (v : V) (t : F), vs = [v] ∧ IsF K H v t ∧ t.depth ≤ n + 1 ∧ ∀ H', Same H H' → Q (.int (t.size : Nat)) H'
theorem kids_size (t : F) : (t.kids.map F.size).sum + 1 = t.size := by cases t <;> simp [F.kids, F.size]
theorem sum_cast : ∀ l : List Nat, (l.map fun (n : Nat) => (n : Int)).sum = (l.sum : Nat)
  | [] => rfl
  | a :: l => by simp [sum_cast l]
/-! ### is it a statement -/
def NN : F → Prop
  | .nul _ => True
  | .leaf _ n => 0 ≤ n
  | .two _ f g => NN f ∧ NN g
  | .one _ n f => 0 ≤ n ∧ NN f
theorem NN.kid {t f : F} (h : NN t) (hf : f ∈ t.kids) : NN f := by
  cases t with
  | nul b => cases hf
  | leaf k n => cases hf
  | two b x y =>
    simp only [F.kids, List.mem_cons, List.not_mem_nil, or_false] at hf
    rcases hf with rfl | rfl
    · exact h.1
    · exact h.2
  | one k n x =>
    simp only [F.kids, List.mem_cons, List.not_mem_nil, or_false] at hf
    subst hf
    exact h.2
def arity : Hd → Int
  | .nul _ => 1
  | .leaf _ _ => 2
  | .two _ => 3
  | .one _ _ => 3
def isNum : Hd → Bool
  | .leaf _ _ => true
  | .one _ _ => true
  | _ => false
theorem in_seven (h : Hd) : inV (.str (hw h)) [.str "has", .str "lacks", .str "var", .str "some", .str "all", .str "least", .str "most"] = isNum h := by
  cases h with
  | nul b => cases b <;> rfl
  | leaf k n => cases k <;> rfl
  | two b => cases b <;> rfl
  | one k n => cases k <;> rfl
abbrev sizesK : List (Key × V) := mergeK [] [(Sum.inr "true", V.int 1), (Sum.inr "false", V.int 1), (Sum.inr "has", V.int 2), (Sum.inr "lacks", V.int 2), (Sum.inr "var", V.int 2), (Sum.inr "and", V.int 3), (Sum.inr "or", V.int 3), (Sum.inr "some", V.int 3), (Sum.inr "all", V.int 3), (Sum.inr "least", V.int 3), (Sum.inr "most", V.int 3)]
theorem sizes_at (h : Hd) : valV sizesK (Sum.inr (hw h)) = some (.int (arity h)) := by
  cases h with
  | nul b => cases b <;> rfl
  | leaf k n => cases k <;> rfl
  | two b => cases b <;> rfl
  | one k n => cases k <;> rfl
def spIs (K : PySem.W.Frag) : Nat → Sp
  | 0 => fun _ _ _ _ => False
  | n + 1 => fun vs H Q _ => ∃ (v : V) (t : F) (d : Int), vs = [v, .int d] ∧ IsF K H v t ∧ t.depth ≤ n + 1 ∧ (t.depth : Int) ≤ d ∧ NN t ∧ ∀ H', Same H H' → Q (.bl true) H'
theorem ok_law_is_statement {f : Addr} {fd : FuncData} (n : Nat) (FF : Fun K "_law_is_statement" "_law_is_statement" s_law_is_statement f fd) (T : Txt K mg C J B) (h_law_is_integer : Has P w K mg base "_law_is_integer" 1 a_law_is_integer spIsInt)
    (h_law_is_statement : Has P w K mg base "_law_is_statement" (n + 1) a_law_is_statement (spIs K n)) : FnOk P w K mg base CX0 (n + 2) f fd a_law_is_statement (spIs K (n + 1)) := by
  refine FF.ok sc_law_is_statement (fun vs H Q E h => ?_) (fun cdv A outer s H vs Q E hr h => ?_)
  · obtain ⟨v, t, d, rfl, _⟩ := h
    rfl
  · obtain ⟨v, t, d, rfl, ht, hdep, hd, nn, k⟩ := h
    have hu := hu_of hr
    refine ⟨_, (pss_cons (ps_if (PW.pt (pw_or (pt_not (pt_val (pe_callB call_isi rfl T.z_isinstance (by decide +kernel) (pa_cons (pv 0) (pa_cons (pe_bltn (v := .ty "tuple") (u := .type "tuple") rfl T.z_tuple (by decide +kernel) rfl) pa_nil))))) (pw_or (pt_cmpR op_eq (pe_callB call_len_seq rfl T.z_len (by decide +kernel) (pa_cons (pv 0) pa_nil)) pe_int (nomark _)) (pw_or1 (pt_cmpR op_eq (pv 1) pe_int (nomark _)))))) (pss_one (ps_ret pe_bl)) pss_nil)
      (pss_cons (ps_set (i := 2) sc_law_is_statement.nd rfl (.inl rfl) (pe_disp (pps_cons pe_str pe_int (pps_cons pe_str pe_int (pps_cons pe_str pe_int (pps_cons pe_str pe_int (pps_cons pe_str pe_int (pps_cons pe_str pe_int (pps_cons pe_str pe_int (pps_cons pe_str pe_int (pps_cons pe_str pe_int (pps_cons pe_str pe_int (pps_cons pe_str pe_int pps_nil))))))))))) (by rfl) (by rfl) (fun z => by cases z) (by decide)))
      (pss_cons (ps_if (PW.pt (pw_or (pt_cmp (pc_dnotin hu (pe_ix ix_tup (pv 0) pe_int (fun _ _ => rfl)) (pv 2))) (pw_or1 (pt_cmpR op_ne (pe_callB call_len_seq rfl T.z_len (by decide +kernel) (pa_cons (pv 0) pa_nil)) (pe_dget hu (pv 2) (pe_ix ix_tup (pv 0) pe_int (fun _ _ => rfl)) (fun _ _ => rfl)) (nomark _))))) (pss_one (ps_ret pe_bl)) pss_nil)
      (pss_cons (ps_set (i := 3) sc_law_is_statement.nd rfl (.inl rfl) (pe_slice sl_tupA (pv 0) (po_some pe_int) po_none))
      (pss_cons (ps_if (pt_cmpR op_in_seq (pe_ix ix_tup (pv 0) pe_int (fun _ _ => rfl)) (pe_tup (pa_cons pe_str (pa_cons pe_str (pa_cons pe_str (pa_cons pe_str (pa_cons pe_str (pa_cons pe_str (pa_cons pe_str pa_nil)))))))) (by rfl)) (pss_cons (ps_if (PW.pt (pw_or (pt_not (pt_val (pe_callH h_law_is_integer (hr.mono (by omega)) (pa_cons (pe_ix ix_tup (pv 0) pe_int (fun _ _ => rfl)) pa_nil)))) (pw_or1 (pt_cmpR op_lt (pe_ix ix_tup (pv 0) pe_int (fun _ _ => rfl)) pe_int (nomark _))))) (pss_one (ps_ret pe_bl)) pss_nil)
      (pss_one (ps_set (i := 3) sc_law_is_statement.nd rfl (.inl rfl) (pe_slice sl_tupA (pv 0) (po_some pe_int) po_none)))) pss_nil)
      (pss_one (ps_ret (pe_cmpR op_eq (pe_callB call_len_seq rfl T.z_len (by decide +kernel) (pa_cons (pe_lc (own := [("part", 4)]) (g := gName 4) rfl sc_law_is_statement.nd (pi_tup (pv 3)) (blkOk_by (own := [("part", 4)]) (N := n_law_is_statement) (sc := defScope s_law_is_statement) (by decide +kernel)) (fun _ _ _ _ _ => (pg_name (i := 4) sc_law_is_statement.nd rfl (.inl rfl))) (fun _ _ _ _ _ => (pts_one (pt_not (pt_val (pe_callH h_law_is_statement (hr.mono (by omega)) (pa_cons (pv 4) (pa_cons (pe_op op_sub (pv 1) pe_int) pa_nil))))))) (fun _ _ _ _ _ => (pv 4))) pa_nil)) pe_int (nomark _))))))))), ?_⟩
    obtain ⟨a, ks, rfl, sq, ak⟩ := ht.open
    have hl := hv_len t.hd
    have al := ak.len
    have klen : t.kids.length + (hv t.hd).length = (arity t.hd).toNat ∧ 0 < arity t.hd := by cases t <;> simp [F.kids, F.hd, hv, arity]
    have at0 : atI (hv t.hd ++ ks) 0 = some (.str (hw t.hd)) := atI_nat (j := 0) (by rw [List.getElem?_append_left (by rcases hv_len t.hd with e | e <;> omega)]; exact hv_head _)
    have dpos : 0 < t.depth := by cases t <;> simp [F.depth]
    have len : ((hv t.hd ++ ks).length : Int) = arity t.hd := by rw [List.length_append]; omega
    -- the first test
    refine ⟨.ref a, rfl, .ref a, .ty "tuple", .type "tuple", .type "tuple", true, rfl, .ty "tuple", isTup sq, kit_ty (by decide +kernel), true, rfl, iteF ?_⟩
    refine ⟨.ref a, rfl, a, _, rfl, .inr sq, rfl, _, rfl, ?_⟩
    rw [len]
    refine (if_neg (by rw [decide_eq_false (fun e : V.int (arity t.hd) = V.int 0 => by have := V.int.inj e; omega)]; exact Bool.false_ne_true)).mpr ?_
    refine ⟨.int d, rfl, rfl, _, rfl, ?_⟩
    refine (if_neg (by rw [decide_eq_false (fun e : V.int d = V.int 0 => by have := V.int.inj e; omega)]; exact Bool.false_ne_true)).mpr ?_
    -- sizes
    intro p hp
    refine ⟨upd_same, [(Sum.inr "true", V.int 1), (Sum.inr "false", V.int 1), (Sum.inr "has", V.int 2), (Sum.inr "lacks", V.int 2), (Sum.inr "var", V.int 2), (Sum.inr "and", V.int 3), (Sum.inr "or", V.int 3), (Sum.inr "some", V.int 3), (Sum.inr "all", V.int 3), (Sum.inr "least", V.int 3), (Sum.inr "most", V.int 3)], rfl, by decide, ?_⟩
    have s1 : Same H (upd (upd H p (.dK [])) p (.dK sizesK)) := fun b o e => by
      rw [upd_ne (ne_of_none e hp), upd_ne (ne_of_none e hp)]
      exact e
    have hD : (upd (upd H p (.dK [])) p (.dK sizesK)) p = some (.dK sizesK) := upd_same
    generalize upd (upd H p (.dK [])) p (.dK sizesK) = H1 at s1 hD
    have sq1 := SqT.same s1 sq
    have hget := DGet.k (k := Sum.inr (hw t.hd)) hD
    rw [sizes_at] at hget
    refine ⟨.ref a, rfl, a, _, _, _, rfl, rfl, sq1, at0, .ref p, rfl, p, _, rfl, hget, _, rfl, iteF ?_⟩
    refine ⟨.ref a, rfl, a, _, rfl, .inr sq1, .ref p, rfl, .ref a, rfl, a, _, _, _, rfl, rfl, sq1, at0, p, _, rfl, hget, rfl, _, rfl, ?_⟩
    rw [len]
    refine (if_neg (by rw [decide_eq_true (rfl : V.int (arity t.hd) = V.int (arity t.hd))]; exact Bool.false_ne_true)).mpr ?_
    -- inner = actual[1:]
    refine ⟨.ref a, rfl, 1, rfl, a, _, rfl, sq1, fun whole => ?_, fun _ ia1 hia1 => ?_⟩
    · exfalso
      rw [show HT.sIx (hv t.hd ++ ks).length 0 (some 1) = min 1 (hv t.hd ++ ks).length from HT.sIx_nat _ _ 1, List.length_append] at whole
      omega
    rw [cutV_one]
    have s2 := Same.new (o := .tup ((hv t.hd ++ ks).drop 1)) hia1
    have iT : SqT K (upd H1 ia1 (.tup ((hv t.hd ++ ks).drop 1))) ia1 ((hv t.hd ++ ks).drop 1) := SqT.of upd_same
    generalize upd H1 ia1 (.tup ((hv t.hd ++ ks).drop 1)) = H2 at s2 iT
    have sq2 := SqT.same s2 sq1
    refine ⟨.ref a, rfl, a, _, _, _, rfl, rfl, sq2, at0, by show 7 ≤ sizeLine; decide, fun p3 hp3 => ⟨p3, _, rfl, .inr (SqT.of upd_same), rfl, rfl, _, rfl, ?_⟩⟩
    rw [if_neg Bool.false_ne_true, in_seven]
    have s3 := Same.new (o := .tup [.str "has", .str "lacks", .str "var", .str "some", .str "all", .str "least", .str "most"]) hp3
    have iT3 := SqT.same s3 iT
    generalize upd H2 p3 (.tup [.str "has", .str "lacks", .str "var", .str "some", .str "all", .str "least", .str "most"]) = H3 at s3 iT3
    have sq3 := SqT.same s3 sq2
    have s123 := s1.trans (s2.trans s3)
    cases hn : isNum t.hd with
    | false =>
      refine iteF ?_
      have ed : (hv t.hd ++ ks).drop 1 = ks := by
        cases t with
        | nul b => rfl
        | two b f g => rfl
        | leaf k n => cases hn
        | one k n f => cases hn
      rw [ed] at iT3
      obtain ⟨ia, eia⟩ : ∃ ia : Addr, ia = ia1 := ⟨_, rfl⟩
      subst eia
      have sG := s123
      have iG := iT3
      generalize H3 = G at sG iG
      refine ⟨.ref ia, rfl, ia, rfl, ⟨_, iG⟩, fun D hD => ?_⟩
      have akG := ak.lk (LKp.same sG)
      refine lc_tup (xs := ks) (fun i G' => Same G G' ∧ G' D = some (.lst [])) ⟨Same.new hD, upd_same⟩ (fun i G' _ q => SqT.same q.1 iG) ?_ ?_
      · rintro i x G' hx ⟨sG', gD⟩
        have il := (List.getElem?_eq_some_iff.mp hx).1
        obtain ⟨f, hf⟩ : ∃ f, t.kids[i]? = some f := ⟨t.kids[i]'(by omega), by simp⟩
        have fmem := List.mem_of_getElem? hf
        have fm := kid_small fmem
        obtain ⟨m', rfl⟩ : ∃ m', n = m' + 1 := by
          cases n with
          | zero => exact absurd hdep (by have : 0 < f.depth := (by cases f <;> simp [F.depth]); omega)
          | succ m' => exact ⟨m', rfl⟩
        refine ⟨rfl, x, rfl, .int d, rfl, d, 1, rfl, rfl, x, f, d - 1, rfl, (akG.get hx hf).same sG', by omega, by omega, nn.kid fmem, fun H' s' => ⟨true, rfl, ?_⟩⟩
        refine iteF ⟨sG'.trans s', s' _ _ gD⟩
      · rintro G' ⟨sG', gD⟩
        refine ⟨D, _, rfl, .inl (SqL.of gD), rfl, ?_⟩
        exact k G' (sG.trans sG')
    | true =>
      refine iteT ?_
      have num : ∃ m : Int, atI (hv t.hd ++ ks) 1 = some (.int m) ∧ 0 ≤ m ∧ (hv t.hd ++ ks).drop 2 = ks ∧ 2 ≤ (hv t.hd).length := by
        cases t with
        | nul b => cases hn
        | two b f g => cases hn
        | leaf k m => exact ⟨m, atI_nat (j := 1) rfl, nn, rfl, Nat.le_refl 2⟩
        | one k m f => exact ⟨m, atI_nat (j := 1) rfl, nn.1, rfl, Nat.le_refl 2⟩
      obtain ⟨m, at1, m0, ed, l2⟩ := num
      refine ⟨.ref a, rfl, a, _, 1, .int m, rfl, rfl, sq3, at1, m, rfl, true, rfl, iteF ?_⟩
      refine ⟨.ref a, rfl, a, _, 1, .int m, rfl, rfl, sq3, at1, _, _, rfl, rfl, _, rfl, ?_⟩
      refine (if_neg (by rw [decide_eq_false (show ¬ m < 0 by omega)]; exact Bool.false_ne_true)).mpr ?_
      refine ⟨.ref a, rfl, 2, rfl, a, _, rfl, sq3, fun whole => ?_, fun _ ia hia => ?_⟩
      · exfalso
        rw [show HT.sIx (hv t.hd ++ ks).length 0 (some 2) = min 2 (hv t.hd ++ ks).length from HT.sIx_nat _ _ 2, List.length_append] at whole
        omega
      have e2 : cutV (hv t.hd ++ ks) (some 2) none = ks := by
        unfold cutV
        rw [show HT.sIx (hv t.hd ++ ks).length 0 (some 2) = min 2 (hv t.hd ++ ks).length from HT.sIx_nat _ _ 2, HT.sIx_none, Nat.min_eq_left (by rw [List.length_append]; omega), List.take_of_length_le (by rw [List.length_drop]; exact Nat.le_refl _)]
        exact ed
      rw [e2]
      have s4 := Same.new (o := .tup ks) hia
      have iG : SqT K (upd H3 ia (.tup ks)) ia ks := SqT.of upd_same
      have sG := s123.trans s4
      generalize upd H3 ia (.tup ks) = G at sG iG
      refine ⟨.ref ia, rfl, ia, rfl, ⟨_, iG⟩, fun D hD => ?_⟩
      have akG := ak.lk (LKp.same sG)
      refine lc_tup (xs := ks) (fun i G' => Same G G' ∧ G' D = some (.lst [])) ⟨Same.new hD, upd_same⟩ (fun i G' _ q => SqT.same q.1 iG) ?_ ?_
      · rintro i x G' hx ⟨sG', gD⟩
        have il := (List.getElem?_eq_some_iff.mp hx).1
        obtain ⟨f, hf⟩ : ∃ f, t.kids[i]? = some f := ⟨t.kids[i]'(by omega), by simp⟩
        have fmem := List.mem_of_getElem? hf
        have fm := kid_small fmem
        obtain ⟨m', rfl⟩ : ∃ m', n = m' + 1 := by
          cases n with
          | zero => exact absurd hdep (by have : 0 < f.depth := (by cases f <;> simp [F.depth]); omega)
          | succ m' => exact ⟨m', rfl⟩
        refine ⟨rfl, x, rfl, .int d, rfl, d, 1, rfl, rfl, x, f, d - 1, rfl, (akG.get hx hf).same sG', by omega, by omega, nn.kid fmem, fun H' s' => ⟨true, rfl, ?_⟩⟩
        refine iteF ⟨sG'.trans s', s' _ _ gD⟩
      · rintro G' ⟨sG', gD⟩
        refine ⟨D, _, rfl, .inl (SqL.of gD), rfl, ?_⟩
        exact k G' (sG.trans sG')
theorem all_is {f : Addr} {fd : FuncData} (FF : Fun K "_law_is_statement" "_law_is_statement" s_law_is_statement f fd) (b : Binds K fd a_law_is_statement []) (m : mg "_law_is_statement" = some (.ref f)) (T : Txt K mg C J B)
    (h : Has P w K mg base "_law_is_integer" 1 a_law_is_integer spIsInt) : ∀ n, Has P w K mg base "_law_is_statement" (n + 1) a_law_is_statement (spIs K n)
  | 0 => ⟨f, fd, m, FF.kp, b, noneOk⟩
  | n + 1 => ⟨f, fd, m, FF.kp, b, ok_law_is_statement n FF T h (all_is FF b m T h n)⟩
end
end Fw

/-! Statements joined in pairs, level by level. Pure mathematics. -/
namespace Fw
def lvB (b : Bool) : List F → List F
  | x :: y :: r => .two b x y :: lvB b r
  | r => r
theorem lvB_len (b : Bool) : ∀ L : List F, (lvB b L).length = (L.length + 1) / 2
  | [] => by show 0 = (0 + 1) / 2; rfl
  | [x] => by show 1 = (1 + 1) / 2; rfl
  | x :: y :: r => by
    show (lvB b r).length + 1 = (r.length + 1 + 1 + 1) / 2
    rw [lvB_len b r]
    omega
theorem lvB_fv {b : Bool} : ∀ {L : List F}, (∀ f ∈ L, fv f = []) → ∀ f ∈ lvB b L, fv f = []
  | [], h, f, hf => by cases hf
  | [x], h, f, hf => h f hf
  | x :: y :: r, h, f, hf => by
    rcases List.mem_cons.mp hf with e | hf
    · subst e
      show fv x ++ fv y = []
      rw [h x List.mem_cons_self, h y (List.mem_cons_of_mem _ List.mem_cons_self)]
      rfl
    · exact lvB_fv (fun g hg => h g (List.mem_cons_of_mem _ (List.mem_cons_of_mem _ hg))) f hf
theorem two_and {W : Wd} {e : Int → List Int} {f g : F} {s : Int} (h0 : 0 ≤ s) (h1 : s < (W.n : Int)) : sIn (val W (.two true f g) e) s = (sIn (val W g e) s && sIn (val W f e) s) := by
  show sIn (if true = true then flt W.n (fun s => sIn (val W g e) s && sIn (val W f e) s) else _) s = _
  rw [if_pos rfl, sIn_flt h0 h1]
theorem two_or {W : Wd} {e : Int → List Int} {f g : F} {s : Int} (h0 : 0 ≤ s) (h1 : s < (W.n : Int)) : sIn (val W (.two false f g) e) s = (sIn (val W g e) s || sIn (val W f e) s) := by
  show sIn (if false = true then _ else flt W.n (fun s => sIn (val W g e) s || sIn (val W f e) s)) s = _
  rw [if_neg Bool.false_ne_true, sIn_flt h0 h1]
theorem lvB_all {W : Wd} {e : Int → List Int} {s : Int} (h0 : 0 ≤ s) (h1 : s < (W.n : Int)) : ∀ L : List F, (lvB true L).all (fun f => sIn (val W f e) s) = L.all fun f => sIn (val W f e) s
  | [] => rfl
  | [x] => rfl
  | x :: y :: r => by
    show (sIn (val W (.two true x y) e) s && (lvB true r).all _) = (sIn (val W x e) s && (sIn (val W y e) s && r.all _))
    rw [lvB_all h0 h1 r, two_and h0 h1]
    cases sIn (val W x e) s <;> cases sIn (val W y e) s <;> rfl
theorem lvB_any {W : Wd} {e : Int → List Int} {s : Int} (h0 : 0 ≤ s) (h1 : s < (W.n : Int)) : ∀ L : List F, (lvB false L).any (fun f => sIn (val W f e) s) = L.any fun f => sIn (val W f e) s
  | [] => rfl
  | [x] => rfl
  | x :: y :: r => by
    show (sIn (val W (.two false x y) e) s || (lvB false r).any _) = (sIn (val W x e) s || (sIn (val W y e) s || r.any _))
    rw [lvB_any h0 h1 r, two_or h0 h1]
    cases sIn (val W x e) s <;> cases sIn (val W y e) s <;> rfl
end Fw

/-! Statements without variables that part states, and statements joined. Pure mathematics. -/
namespace Fw
/-! ### joined level by level -/
structure Lv (b : Bool) (L M : List F) : Prop where
  pr : ∀ Pr : F → Prop, (∀ f g, Pr f → Pr g → Pr (.two b f g)) → (∀ f ∈ L, Pr f) → ∀ f ∈ M, Pr f
  al : b = true → ∀ (W : Wd) (e : Int → List Int) (s : Int), 0 ≤ s → s < (W.n : Int) → (M.all fun f => sIn (val W f e) s) = L.all fun f => sIn (val W f e) s
  an : b = false → ∀ (W : Wd) (e : Int → List Int) (s : Int), 0 ≤ s → s < (W.n : Int) → (M.any fun f => sIn (val W f e) s) = L.any fun f => sIn (val W f e) s
  dp : ∀ d j, (∀ f ∈ L, f.depth ≤ d) → L.length ≤ 2 ^ j → ∃ i, i ≤ j ∧ M.length ≤ 2 ^ (j - i) ∧ ∀ f ∈ M, f.depth ≤ d + i
  sz : ((M.map fun f => f.size + 1).sum) = (L.map fun f => f.size + 1).sum
  ln : M.length ≤ L.length ∧ (L ≠ [] → M ≠ [])
theorem Lv.refl (b : Bool) (L : List F) : Lv b L L := ⟨fun _ _ h => h, fun _ _ _ _ _ _ => rfl, fun _ _ _ _ _ _ => rfl, fun d j h l => ⟨0, Nat.zero_le _, l, h⟩, rfl, Nat.le_refl _, fun h => h⟩
theorem lvB_pr {b : Bool} {Pr : F → Prop} (h2 : ∀ f g, Pr f → Pr g → Pr (.two b f g)) : ∀ {L : List F}, (∀ f ∈ L, Pr f) → ∀ f ∈ lvB b L, Pr f
  | [], h, f, hf => by cases hf
  | [x], h, f, hf => h f hf
  | x :: y :: r, h, f, hf => by
    rcases List.mem_cons.mp hf with e | hf
    · subst e
      exact h2 x y (h x List.mem_cons_self) (h y (List.mem_cons_of_mem _ List.mem_cons_self))
    · exact lvB_pr h2 (fun g hg => h g (List.mem_cons_of_mem _ (List.mem_cons_of_mem _ hg))) f hf
theorem lvB_dep {b : Bool} {d : Nat} : ∀ {L : List F}, (∀ f ∈ L, f.depth ≤ d) → ∀ f ∈ lvB b L, f.depth ≤ d + 1
  | [], h, f, hf => by cases hf
  | [x], h, f, hf => Nat.le_succ_of_le (h f hf)
  | x :: y :: r, h, f, hf => by
    rcases List.mem_cons.mp hf with e | hf
    · subst e
      have h1 := h x List.mem_cons_self
      have h2 := h y (List.mem_cons_of_mem _ List.mem_cons_self)
      show max x.depth y.depth + 1 ≤ d + 1
      omega
    · exact lvB_dep (fun g hg => h g (List.mem_cons_of_mem _ (List.mem_cons_of_mem _ hg))) f hf
theorem lvB_sz {b : Bool} : ∀ L : List F, ((lvB b L).map fun f => f.size + 1).sum = (L.map fun f => f.size + 1).sum
  | [] => rfl
  | [x] => rfl
  | x :: y :: r => by
    show (x.size + y.size + 1 + 1) + ((lvB b r).map fun f => f.size + 1).sum = (x.size + 1) + ((y.size + 1) + (r.map fun f => f.size + 1).sum)
    rw [lvB_sz r]
    omega
theorem Lv.step {b : Bool} {L M : List F} (h : Lv b L M) (l : 1 < M.length) : Lv b L (lvB b M) := by
  refine ⟨fun Pr h2 hL => lvB_pr h2 (h.pr Pr h2 hL), fun eb W e s h0 h1 => ?_, fun eb W e s h0 h1 => ?_, fun d j hd hl => ?_, by rw [lvB_sz, h.sz], ?_, fun _ e => ?_⟩
  · subst eb
    rw [lvB_all h0 h1, h.al rfl W e s h0 h1]
  · subst eb
    rw [lvB_any h0 h1, h.an rfl W e s h0 h1]
  · obtain ⟨i, hi, hm, hf⟩ := h.dp d j hd hl
    have lt : i < j := by
      rcases Nat.lt_or_ge i j with z | z
      · exact z
      · rw [show j - i = 0 by omega] at hm
        omega
    refine ⟨i + 1, lt, ?_, fun f q => Nat.le_trans (lvB_dep hf f q) (by omega)⟩
    rw [lvB_len]
    have : 2 ^ (j - i) = 2 * 2 ^ (j - (i + 1)) := by
      rw [show j - i = (j - (i + 1)) + 1 by omega, Nat.pow_succ, Nat.mul_comm]
    omega
  · have := h.ln.1
    rw [lvB_len]
    omega
  · have := lvB_len b M
    rw [e] at this
    simp at this
    omega
/-- one statement for a list -/
structure JnB (b : Bool) (L : List F) (f : F) : Prop where
  pr : ∀ Pr : F → Prop, Pr (.nul b) → (∀ f g, Pr f → Pr g → Pr (.two b f g)) → (∀ g ∈ L, Pr g) → Pr f
  al : b = true → ∀ (W : Wd) (e : Int → List Int) (s : Int), 0 ≤ s → s < (W.n : Int) → sIn (val W f e) s = L.all fun f => sIn (val W f e) s
  an : b = false → ∀ (W : Wd) (e : Int → List Int) (s : Int), 0 ≤ s → s < (W.n : Int) → sIn (val W f e) s = L.any fun f => sIn (val W f e) s
  dp : ∀ d j, 1 ≤ d → (∀ g ∈ L, g.depth ≤ d) → L.length ≤ 2 ^ j → f.depth ≤ d + j
  sz : f.size + 1 ≤ (L.map fun f => f.size + 1).sum + (if L = [] then 2 else 0)
theorem Lv.done {b : Bool} {L : List F} {f : F} (h : Lv b L [f]) (ne : L ≠ []) : JnB b L f := by
  refine ⟨fun Pr _ h2 hL => h.pr Pr h2 hL f List.mem_cons_self, fun eb W e s h0 h1 => ?_, fun eb W e s h0 h1 => ?_, fun d j _ hd hl => ?_, ?_⟩
  · rw [← h.al eb W e s h0 h1]
    simp
  · rw [← h.an eb W e s h0 h1]
    simp
  · obtain ⟨i, hi, _, hf⟩ := h.dp d j hd hl
    have := hf f List.mem_cons_self
    omega
  · have := h.sz
    rw [if_neg ne, ← this]
    simp
theorem sIn_rng {W : Wd} {s : Int} (h0 : 0 ≤ s) (h1 : s < (W.n : Int)) : sIn (rng W.n) s = true := decide_eq_true (rng_mem.mpr ⟨h0, h1⟩)
theorem JnB.nil (b : Bool) : JnB b [] (.nul b) := by
  refine ⟨fun Pr h _ _ => h, fun eb W e s h0 h1 => ?_, fun eb W e s h0 h1 => ?_, fun d j h1 _ _ => ?_, by simp [F.size]⟩
  · subst eb
    show sIn (if true = true then rng W.n else []) s = true
    rw [if_pos rfl, sIn_rng h0 h1]
  · subst eb
    show sIn (if false = true then rng W.n else []) s = false
    rw [if_neg Bool.false_ne_true]
    rfl
  · show 1 ≤ d + j
    omega
/-! ### statements without variables -/
/-- without binders and variables, its numbers not below 0 -/
def Mo : F → Prop
  | .nul _ => True
  | .leaf k n => k ≠ .var ∧ 0 ≤ n
  | .two _ f g => Mo f ∧ Mo g
  | .one k n f => k.bind = false ∧ 0 ≤ n ∧ Mo f
theorem Mo.fv : ∀ {f : F}, Mo f → fv f = []
  | .nul _, _ => rfl
  | .leaf k n, h => by
    cases k with
    | var => exact absurd rfl h.1
    | has => rfl
    | lacks => rfl
  | .two b f g, h => by
    show Fw.fv f ++ Fw.fv g = []
    rw [Mo.fv h.1, Mo.fv h.2]
    rfl
  | .one k n f, h => by
    have := Mo.fv h.2.2
    cases k with
    | some => exact this
    | all => exact this
    | least => cases h.1
    | most => cases h.1
/-- true at a state -/
def tru (W : Wd) (f : F) (u : Nat) : Prop := sIn (val W f fun _ => []) (u : Int) = true
theorem tru_two_and {W : Wd} {f g : F} {u : Nat} (hu : u < W.n) : tru W (.two true f g) u ↔ tru W f u ∧ tru W g u := by
  unfold tru
  rw [two_and (by omega) (by omega), Bool.and_eq_true]
  exact and_comm
theorem tru_two_or {W : Wd} {f g : F} {u : Nat} (hu : u < W.n) : tru W (.two false f g) u ↔ tru W f u ∨ tru W g u := by
  unfold tru
  rw [two_or (by omega) (by omega), Bool.or_eq_true]
  exact or_comm
theorem tru_some {W : Wd} {l : Int} {f : F} {u : Nat} (hu : u < W.n) : tru W (.one .some l f) u ↔ ∃ y ∈ W.beh (u : Int) l, sIn (val W f fun _ => []) y = true := by
  unfold tru
  show sIn (flt W.n fun s => decide (0 < (((W.beh s l).filter (sIn (val W f fun _ => []))).length : Int))) (u : Int) = true ↔ _
  rw [sIn_flt (by omega) (by omega), decide_eq_true_eq]
  constructor
  · intro h
    have : 0 < ((W.beh (u : Int) l).filter (sIn (val W f fun _ => []))).length := by omega
    obtain ⟨y, hy⟩ := List.exists_mem_of_length_pos this
    exact ⟨y, (List.mem_filter.mp hy).1, (List.mem_filter.mp hy).2⟩
  · rintro ⟨y, hy, e⟩
    have := List.length_pos_of_mem (List.mem_filter.mpr ⟨hy, e⟩)
    omega
theorem tru_all {W : Wd} {l : Int} {f : F} {u : Nat} (hu : u < W.n) : tru W (.one .all l f) u ↔ ∀ y ∈ W.beh (u : Int) l, sIn (val W f fun _ => []) y = true := by
  unfold tru
  show sIn (flt W.n fun s => decide ((((W.beh s l).filter (fun k => !sIn (val W f fun _ => []) k)).length : Int) = 0)) (u : Int) = true ↔ _
  rw [sIn_flt (by omega) (by omega), decide_eq_true_eq]
  constructor
  · intro h y hy
    cases e : sIn (val W f fun _ => []) y with
    | true => rfl
    | false =>
      have m : y ∈ (W.beh (u : Int) l).filter (fun k => !sIn (val W f fun _ => []) k) := List.mem_filter.mpr ⟨hy, by rw [e]; rfl⟩
      have := List.length_pos_of_mem m
      omega
  · intro h
    have : (W.beh (u : Int) l).filter (fun k => !sIn (val W f fun _ => []) k) = [] := List.filter_eq_nil_iff.mpr fun y hy => by rw [h y hy]; exact Bool.false_ne_true
    rw [this]
    rfl
/-- like states have the same truth -/
theorem Mo.like {W : Wd} (hin : W.In) {R : Nat → Nat → Prop} (r0 : ∀ s t, s < W.n → t < W.n → R s t → W.at (s : Int) = W.at (t : Int)) (rs : ∀ s t, s < W.n → t < W.n → R s t → R t s)
    (rn : ∀ s t, s < W.n → t < W.n → R s t → ∀ l : Int, ∀ y ∈ W.beh (s : Int) l, ∃ z ∈ W.beh (t : Int) l, R y.toNat z.toNat) : ∀ {f : F}, Mo f → ∀ {s t : Nat}, s < W.n → t < W.n → R s t → tru W f s → tru W f t
  | .nul b, _, s, t, hs, ht, _, h => by
    unfold tru at h ⊢
    cases b with
    | true => exact sIn_rng (by omega) (by omega)
    | false => exact absurd (show sIn [] (s : Int) = true from h) Bool.false_ne_true
  | .leaf .has n, _, s, t, hs, ht, r, h => by
    unfold tru at h ⊢
    rw [show val W (.leaf .has n) (fun _ => []) = flt W.n fun s => sIn (W.at s) n from rfl, sIn_flt (by omega) (by omega)] at h ⊢
    rw [← r0 s t hs ht r]
    exact h
  | .leaf .lacks n, _, s, t, hs, ht, r, h => by
    unfold tru at h ⊢
    rw [show val W (.leaf .lacks n) (fun _ => []) = flt W.n fun s => !sIn (W.at s) n from rfl, sIn_flt (by omega) (by omega)] at h ⊢
    rw [← r0 s t hs ht r]
    exact h
  | .leaf .var n, m, _, _, _, _, _, _ => absurd rfl m.1
  | .two true f g, m, s, t, hs, ht, r, h => by
    rw [tru_two_and hs] at h
    rw [tru_two_and ht]
    exact ⟨Mo.like hin r0 rs rn m.1 hs ht r h.1, Mo.like hin r0 rs rn m.2 hs ht r h.2⟩
  | .two false f g, m, s, t, hs, ht, r, h => by
    rw [tru_two_or hs] at h
    rw [tru_two_or ht]
    exact h.imp (Mo.like hin r0 rs rn m.1 hs ht r) (Mo.like hin r0 rs rn m.2 hs ht r)
  | .one .some l f, m, s, t, hs, ht, r, h => by
    rw [tru_some hs] at h
    rw [tru_some ht]
    obtain ⟨y, hy, e⟩ := h
    obtain ⟨z, hz, q⟩ := rn s t hs ht r l y hy
    have y' := hin.beh hy
    have z' := hin.beh hz
    have := Mo.like hin r0 rs rn m.2.2 (s := y.toNat) (t := z.toNat) (by omega) (by omega) q (by unfold tru; rw [Int.toNat_of_nonneg y'.1]; exact e)
    unfold tru at this
    rw [Int.toNat_of_nonneg z'.1] at this
    exact ⟨z, hz, this⟩
  | .one .all l f, m, s, t, hs, ht, r, h => by
    rw [tru_all hs] at h
    rw [tru_all ht]
    intro z hz
    obtain ⟨y, hy, q⟩ := rn t s ht hs (rs s t hs ht r) l z hz
    have y' := hin.beh hy
    have z' := hin.beh hz
    have := Mo.like hin r0 rs rn m.2.2 (s := y.toNat) (t := z.toNat) (by omega) (by omega) (rs _ _ (by omega) (by omega) q) (by unfold tru; rw [Int.toNat_of_nonneg y'.1]; exact h y hy)
    unfold tru at this
    rw [Int.toNat_of_nonneg z'.1] at this
    exact this
  | .one .least x f, m, _, _, _, _, _, _ => Bool.noConfusion m.1
  | .one .most x f, m, _, _, _, _, _, _ => Bool.noConfusion m.1
/-! ### what parts two states -/
/-- a bound of sizes by rounds -/
def zB (n : Nat) : Nat → Nat
  | 0 => 1
  | r + 1 => n * (zB n r + 1) + 2
theorem zB_up {n r k : Nat} (h : r ≤ k) (hn : 1 ≤ n) : zB n r ≤ zB n k := by
  induction k with
  | zero => rw [Nat.le_zero.mp h]; exact Nat.le_refl _
  | succ k ih =>
    rcases Nat.lt_succ_iff_lt_or_eq.mp (Nat.lt_succ_of_le h) with l | rfl
    · have := ih (by omega)
      show zB n r ≤ n * (zB n k + 1) + 2
      have : zB n k + 1 ≤ n * (zB n k + 1) := Nat.le_mul_of_pos_left _ hn
      omega
    · exact Nat.le_refl _
/-- parted in round r, not before -/
structure Rd1 (W : Wd) (r s t : Nat) : Prop where
  no : ¬ Lk W r s t
  yes : ∀ r', r' < r → Lk W r' s t
theorem Rd1.le {W : Wd} {r k s t : Nat} (h : Rd1 W r s t) (no : ¬ Lk W k s t) : r ≤ k := Nat.le_of_not_lt fun z => no (h.yes k z)
theorem Rd1.one {W : Wd} {r k s t : Nat} (h : Rd1 W r s t) (h' : Rd1 W k s t) : r = k := Nat.le_antisymm (h.le h'.no) (h'.le h.no)
/-- a statement, and where it is true, that parts s from t in round r -/
structure Sep (W : Wd) (r s t : Nat) (f : F) (mk : Nat) : Prop where
  mo : Mo f
  tr : ∀ u, u < W.n → (tb mk u ↔ tru W f u)
  lt : mk < 2 ^ W.n
  yes : tru W f s
  no : ¬ tru W f t
  rd : Rd1 W r s t
  dp : f.depth ≤ 1 + 4 * r
  sz : f.size ≤ zB W.n r
theorem tb_lt {m n u : Nat} (h : m < 2 ^ n) (b : tb m u) : u < n := by
  rcases Nat.lt_or_ge u n with z | z
  · exact z
  · have := Nat.testBit_lt_two_pow (Nat.lt_of_lt_of_le h (Nat.pow_le_pow_right (by decide) z))
    unfold tb at b
    rw [this] at b
    cases b
/-- the others among all -/
def oth (n m : Nat) : Nat := 2 ^ n - 1 - m
theorem tb_all {n u : Nat} : tb (2 ^ n - 1) u ↔ u < n := by
  unfold tb
  rw [Nat.testBit_two_pow_sub_one, decide_eq_true_eq]
theorem all_and {n m : Nat} (h : m < 2 ^ n) : (2 ^ n - 1) &&& m = m := tb_ext fun s => by
  rw [tb_and, tb_all]
  exact ⟨fun z => z.2, fun z => ⟨tb_lt h z, z⟩⟩
theorem oth_wo {n m : Nat} (h : m < 2 ^ n) : oth n m = wo (2 ^ n - 1) m := by
  unfold oth wo
  rw [all_and h]
theorem tb_oth {n m u : Nat} (h : m < 2 ^ n) : tb (oth n m) u ↔ u < n ∧ ¬ tb m u := by rw [oth_wo h, tb_wo, tb_all]
theorem oth_lt (n m : Nat) : oth n m < 2 ^ n := by
  unfold oth
  have := Nat.two_pow_pos n
  omega
open PySem in
theorem xor_all {n m : Nat} (h : m < 2 ^ n) : Builtin.bitXor ((2 ^ n - 1 : Nat) : Int) (m : Int) = ((oth n m : Nat) : Int) := by
  have o := or_add (2 ^ n - 1) m
  show Builtin.bitOr _ _ - Builtin.bitAnd _ _ = _
  rw [or_nat, and_nat, all_and h]
  rw [all_and h] at o
  unfold oth
  omega
/-- where a some with l of what is true at a mask is true -/
def Befs (W : Wd) (l : Int) (m c : Nat) : Prop := c < 2 ^ W.n ∧ ∀ u, u < W.n → (tb c u ↔ ∃ y ∈ W.beh (u : Int) l, tb m y.toNat)
theorem tru_nat {W : Wd} {f : F} {y : Int} (h : 0 ≤ y) : tru W f y.toNat ↔ sIn (val W f fun _ => []) y = true := by
  unfold tru
  rw [Int.toNat_of_nonneg h]
section
variable {W : Wd} {l : Int} {f : F} {m c : Nat}
theorem Befs.some (hin : W.In) (h : Befs W l m c) (tr : ∀ u, u < W.n → (tb m u ↔ tru W f u)) : ∀ u, u < W.n → (tb c u ↔ tru W (.one .some l f) u) := fun u hu => by
  rw [h.2 u hu, tru_some hu]
  constructor
  · rintro ⟨y, hy, b⟩
    have y' := hin.beh hy
    exact ⟨y, hy, (tru_nat y'.1).mp ((tr _ (by omega)).mp b)⟩
  · rintro ⟨y, hy, b⟩
    have y' := hin.beh hy
    exact ⟨y, hy, (tr _ (by omega)).mpr ((tru_nat y'.1).mpr b)⟩
theorem Befs.all (hin : W.In) (hm : m < 2 ^ W.n) (h : Befs W l (oth W.n m) c) (tr : ∀ u, u < W.n → (tb m u ↔ tru W f u)) : ∀ u, u < W.n → (tb (oth W.n c) u ↔ tru W (.one .all l f) u) := fun u hu => by
  rw [tb_oth h.1, h.2 u hu, tru_all hu]
  constructor
  · rintro ⟨_, no⟩ y hy
    have y' := hin.beh hy
    refine (tru_nat y'.1).mp ((tr _ (by omega)).mp (Classical.byContradiction fun nb => no ⟨y, hy, (tb_oth hm).mpr ⟨by omega, nb⟩⟩))
  · intro a
    refine ⟨hu, ?_⟩
    rintro ⟨y, hy, b⟩
    have y' := hin.beh hy
    exact ((tb_oth hm).mp b).2 ((tr _ (by omega)).mpr ((tru_nat y'.1).mpr (a y hy)))
end
/-! ### plans -/
/-- which of a goal's two ends is looked at -/
def ot (ex : Bool) (g : Nat × Nat) : Nat := if ex then g.2 else g.1
def pvg (ex : Bool) (g : Nat × Nat) : Nat := if ex then g.1 else g.2
/-- how a (at a some) or b (at an all) is parted from the other one: R: likeness to the last -/
structure PlanOk (W : Wd) (R : Nat → Nat → Prop) (r a b : Nat) (ex : Bool) (l : Int) (p : Nat) (gs : List (Nat × Nat)) : Prop where
  pn : p < W.n
  src : ∃ y ∈ W.beh ((if ex then a else b : Nat) : Int) l, R y.toNat p
  piv : ∀ g ∈ gs, pvg ex g = p
  cov : ∀ z ∈ W.beh ((if ex then b else a : Nat) : Int) l, ∃ g ∈ gs, R z.toNat (ot ex g)
  ok : ∀ g ∈ gs, g.1 < W.n ∧ g.2 < W.n ∧ ¬ Lk W r g.1 g.2
  len : gs.length ≤ W.n
theorem PlanOk.perm {W : Wd} {R : Nat → Nat → Prop} {r a b : Nat} {ex : Bool} {l : Int} {p : Nat} {gs gs' : List (Nat × Nat)} (h : PlanOk W R r a b ex l p gs) (q : gs'.Perm gs) : PlanOk W R r a b ex l p gs' :=
  ⟨h.pn, h.src, fun g hg => h.piv g (q.mem_iff.mp hg), fun z hz => (h.cov z hz).imp fun g ⟨hg, x⟩ => ⟨q.mem_iff.mpr hg, x⟩, fun g hg => h.ok g (q.mem_iff.mp hg), by rw [q.length_eq]; exact h.len⟩
structure Chosen (W : Wd) (r : Nat) (ex : Bool) (p : Nat) (gs : List (Nat × Nat)) (fs : List F) (mk : Nat) (left : List (Nat × Nat)) : Prop where
  mo : ∀ f ∈ fs, Mo f ∧ f.depth ≤ 1 + 4 * r ∧ f.size ≤ zB W.n r
  tr : ∀ u, u < W.n → (tb mk u ↔ if ex then ∀ f ∈ fs, tru W f u else ∃ f ∈ fs, tru W f u)
  lt : mk < 2 ^ W.n
  pv : tb mk p ↔ ex = true
  dn : ∀ g ∈ gs, g ∈ left ∨ (tb mk (ot ex g) ↔ ex = false)
  sub : ∀ g ∈ left, g ∈ gs
  len : fs.length + left.length ≤ gs.length
theorem Chosen.start {W : Wd} {r : Nat} {ex : Bool} {p : Nat} {gs : List (Nat × Nat)} (hp : p < W.n) : Chosen W r ex p gs [] (if ex then 2 ^ W.n - 1 else 0) gs := by
  have p2 := Nat.two_pow_pos W.n
  refine ⟨fun f hf => (List.not_mem_nil hf).elim, fun u hu => ?_, ?_, ?_, fun g hg => .inl hg, fun g hg => hg, by simp⟩
  · cases ex with
    | true => exact ⟨fun _ f hf => (List.not_mem_nil hf).elim, fun _ => tb_all.mpr hu⟩
    | false => exact ⟨fun h => absurd h (tb_zero u), fun ⟨f, hf, _⟩ => (List.not_mem_nil hf).elim⟩
  · cases ex with
    | true => show 2 ^ W.n - 1 < _; omega
    | false => exact p2
  · cases ex with
    | true => exact ⟨fun _ => rfl, fun _ => tb_all.mpr hp⟩
    | false => exact ⟨fun h => absurd h (tb_zero p), fun h => by cases h⟩
theorem tb_or {a b s : Nat} : tb (a ||| b) s ↔ tb a s ∨ tb b s := by
  unfold tb
  rw [Nat.testBit_or, Bool.or_eq_true]
def mk2 (ex : Bool) (a b : Nat) : Nat := if ex then a &&& b else a ||| b
/-- the goals that are left behind a mask -/
def leftB (ex : Bool) (mk : Nat) (left : List (Nat × Nat)) : List (Nat × Nat) := left.filter fun g => if ex then mk.testBit g.2 else !mk.testBit g.1
theorem mem_leftB {ex : Bool} {mk : Nat} {left : List (Nat × Nat)} {g : Nat × Nat} : g ∈ leftB ex mk left ↔ g ∈ left ∧ (tb mk (ot ex g) ↔ ex = true) := by
  unfold leftB
  rw [List.mem_filter]
  unfold ot tb
  cases ex with
  | true => simp
  | false => simp
theorem Chosen.step {W : Wd} {r r' : Nat} {ex : Bool} {p : Nat} {gs : List (Nat × Nat)} {fs : List F} {mk m' : Nat} {g : Nat × Nat} {left : List (Nat × Nat)} {f : F} (h : Chosen W r ex p gs fs mk (g :: left)) (hp : p < W.n) (hg : g.1 < W.n ∧ g.2 < W.n) (pg : Fw.pvg ex g = p)
    (S : Sep W r' g.1 g.2 f m') (hr : r' ≤ r) : Chosen W r ex p gs (fs ++ [f]) (mk2 ex mk m') (leftB ex (mk2 ex mk m') (g :: left)) ∧ (leftB ex (mk2 ex mk m') (g :: left)).length ≤ left.length := by
  have y1 : tb m' g.1 := (S.tr _ hg.1).mpr S.yes
  have n1 : ¬ tb m' g.2 := fun z => S.no ((S.tr _ hg.2).mp z)
  have gone : ¬ (tb (mk2 ex mk m') (ot ex g) ↔ ex = true) := by
    cases ex with
    | true => exact fun z => n1 (tb_and.mp (z.mpr rfl)).2
    | false => exact fun z => Bool.noConfusion (z.mp (tb_or.mpr (.inr y1)))
  have le : (leftB ex (mk2 ex mk m') (g :: left)).length ≤ left.length := by
    have : leftB ex (mk2 ex mk m') (g :: left) = leftB ex (mk2 ex mk m') left := by
      unfold leftB
      rw [List.filter_cons_of_neg]
      intro z
      apply gone
      have := (mem_leftB (ex := ex) (mk := mk2 ex mk m') (left := g :: left) (g := g)).mp (List.mem_filter.mpr ⟨List.mem_cons_self, z⟩)
      exact this.2
    rw [this]
    unfold leftB
    exact List.length_filter_le _ _
  refine ⟨⟨fun x hx => ?_, fun u hu => ?_, ?_, ?_, fun x hx => ?_, fun x hx => h.sub x (mem_leftB.mp hx).1, ?_⟩, le⟩
  · rcases List.mem_append.mp hx with hx | hx
    · exact h.mo x hx
    · rw [List.mem_singleton.mp hx]
      exact ⟨S.mo, Nat.le_trans S.dp (by omega), Nat.le_trans S.sz (zB_up hr (by omega))⟩
  · have t := h.tr u hu
    have q := S.tr u hu
    cases ex with
    | true =>
      show tb (mk &&& m') u ↔ ∀ x ∈ fs ++ [f], tru W x u
      rw [tb_and, t, q]
      constructor
      · rintro ⟨a, b⟩ x hx
        rcases List.mem_append.mp hx with hx | hx
        · exact a x hx
        · rw [List.mem_singleton.mp hx]; exact b
      · exact fun a => ⟨fun x hx => a x (List.mem_append_left _ hx), a f (List.mem_append_right _ (List.mem_singleton.mpr rfl))⟩
    | false =>
      show tb (mk ||| m') u ↔ ∃ x ∈ fs ++ [f], tru W x u
      rw [tb_or, t, q]
      constructor
      · rintro (⟨x, hx, a⟩ | b)
        · exact ⟨x, List.mem_append_left _ hx, a⟩
        · exact ⟨f, List.mem_append_right _ (List.mem_singleton.mpr rfl), b⟩
      · rintro ⟨x, hx, a⟩
        rcases List.mem_append.mp hx with hx | hx
        · exact .inl ⟨x, hx, a⟩
        · rw [List.mem_singleton.mp hx] at a; exact .inr a
  · cases ex with
    | true => exact Nat.lt_of_le_of_lt (and_le mk m') h.lt
    | false => exact Nat.or_lt_two_pow h.lt S.lt
  · have v := h.pv
    cases ex with
    | true =>
      have e : g.1 = p := pg
      show tb (mk &&& m') p ↔ _
      rw [tb_and]
      exact ⟨fun _ => rfl, fun _ => ⟨v.mpr rfl, by rw [← e]; exact y1⟩⟩
    | false =>
      have e : g.2 = p := pg
      show tb (mk ||| m') p ↔ _
      rw [tb_or]
      refine ⟨fun z => ?_, fun z => by cases z⟩
      rcases z with z | z
      · exact v.mp z
      · rw [← e] at z; exact absurd z n1
  · rcases h.dn x hx with z | z
    · by_cases c : tb (mk2 ex mk m') (ot ex x) ↔ ex = true
      · exact .inl (mem_leftB.mpr ⟨z, c⟩)
      · refine .inr ?_
        cases ex with
        | true => exact ⟨fun t => absurd ⟨fun _ => rfl, fun _ => t⟩ c, fun t => by cases t⟩
        | false => exact ⟨fun _ => rfl, fun _ => Classical.byContradiction fun t => c ⟨fun q => absurd q t, fun q => by cases q⟩⟩
    · refine .inr ?_
      cases ex with
      | true => exact ⟨fun t => z.mp (tb_and.mp t).1, fun t => by cases t⟩
      | false => exact ⟨fun _ => rfl, fun _ => tb_or.mpr (.inl (z.mpr rfl))⟩
  · have := h.len
    rw [List.length_append, List.length_singleton]
    rw [List.length_cons] at this
    omega
def wEx (ex : Bool) : One := if ex then .some else .all
theorem sum_le {α : Type} {g : α → Nat} {z : Nat} : ∀ {L : List α}, (∀ x ∈ L, g x ≤ z) → (L.map g).sum ≤ L.length * z
  | [], _ => by simp
  | x :: L, h => by
    have h1 := h x List.mem_cons_self
    have h2 := sum_le (L := L) fun y hy => h y (List.mem_cons_of_mem _ hy)
    rw [List.map_cons, List.sum_cons, List.length_cons, Nat.succ_mul]
    omega
/-- what was chosen parts a from b -/
theorem Chosen.sep {W : Wd} {R : Nat → Nat → Prop} {r a b : Nat} {ex : Bool} {l : Int} {p : Nat} {gs : List (Nat × Nat)} {fs : List F} {mk c : Nat} {f : F} (h : Chosen W r ex p gs fs mk []) (P : PlanOk W R r a b ex l p gs) (hin : W.In) (n8 : W.n ≤ 8) (ha : a < W.n) (hb : b < W.n) (hl : 0 ≤ l)
    (like : ∀ {f : F}, Mo f → ∀ {s t : Nat}, s < W.n → t < W.n → R s t → (tru W f s ↔ tru W f t)) (rd : Rd1 W (r + 1) a b) (J : JnB ex fs f) (hc : Befs W l (if ex then mk else oth W.n mk) c) : Sep W (r + 1) a b (.one (wEx ex) l f) (if ex then c else oth W.n c) := by
  have mf : Mo f := J.pr Mo trivial (fun _ _ x y => ⟨x, y⟩) fun g hg => (h.mo g hg).1
  have tf : ∀ u, u < W.n → (tb mk u ↔ tru W f u) := fun u hu => by
    rw [h.tr u hu]
    cases ex with
    | true =>
      have := J.al rfl W (fun _ => []) (u : Int) (by omega) (by omega)
      unfold tru
      rw [this, List.all_eq_true]
      exact Iff.rfl
    | false =>
      have := J.an rfl W (fun _ => []) (u : Int) (by omega) (by omega)
      unfold tru
      rw [this, List.any_eq_true]
      exact Iff.rfl
  have tw : ∀ u, u < W.n → (tb (if ex then c else oth W.n c) u ↔ tru W (.one (wEx ex) l f) u) := by
    cases ex with
    | true => exact hc.some hin tf
    | false => exact Befs.all hin h.lt hc tf
  have hlen : fs.length ≤ W.n := by have := h.len; have := P.len; omega
  refine ⟨⟨by cases ex <;> rfl, hl, mf⟩, tw, ?_, ?_, ?_, rd, ?_, ?_⟩
  · cases ex with
    | true => exact hc.1
    | false => exact oth_lt _ _
  · cases ex with
    | true =>
      obtain ⟨y, hy, ry⟩ := P.src
      have y' := hin.beh hy
      refine (tru_some ha).mpr ⟨y, hy, (tru_nat y'.1).mp ((like mf (by omega) P.pn ry).mpr ((tf _ P.pn).mp (h.pv.mpr rfl)))⟩
    | false =>
      refine (tru_all ha).mpr fun y hy => ?_
      have y' := hin.beh hy
      obtain ⟨g, hg, rg⟩ := P.cov y hy
      have gn := (P.ok g hg).1
      have := ((h.dn g hg).resolve_left List.not_mem_nil).mpr rfl
      exact (tru_nat y'.1).mp ((like mf (by omega) gn rg).mpr ((tf _ gn).mp this))
  · cases ex with
    | true =>
      intro z
      obtain ⟨y, hy, e⟩ := (tru_some hb).mp z
      have y' := hin.beh hy
      obtain ⟨g, hg, rg⟩ := P.cov y hy
      have gn := (P.ok g hg).2.1
      have no : ¬ tb mk g.2 := fun t => Bool.noConfusion (((h.dn g hg).resolve_left List.not_mem_nil).mp t)
      exact no ((tf _ gn).mpr ((like mf (by omega) gn rg).mp ((tru_nat y'.1).mpr e)))
    | false =>
      intro z
      obtain ⟨y, hy, ry⟩ := P.src
      have y' := hin.beh hy
      have e := (tru_all hb).mp z y hy
      have no : ¬ tb mk p := fun t => Bool.noConfusion (h.pv.mp t)
      exact no ((tf _ P.pn).mpr ((like mf (by omega) P.pn ry).mp ((tru_nat y'.1).mpr e)))
  · have := J.dp (1 + 4 * r) 3 (by omega) (fun g hg => (h.mo g hg).2.1) (by show _ ≤ 8; omega)
    show f.depth + 1 ≤ _
    omega
  · have s1 := J.sz
    have s2 := sum_le (g := fun f : F => f.size + 1) (z := zB W.n r + 1) fun g hg => Nat.succ_le_succ (h.mo g hg).2.2
    have s3 : fs.length * (zB W.n r + 1) ≤ W.n * (zB W.n r + 1) := Nat.mul_le_mul_right _ hlen
    show f.size + 1 ≤ W.n * (zB W.n r + 1) + 2
    split at s1 <;> omega
/-- there is a plan for each pair that a round parts -/
theorem plan_there {W : Wd} {r a b : Nat} (h : Rd1 W (r + 1) a b) : ∃ l : Int, (∃ y ∈ W.beh (a : Int) l, ∀ z ∈ W.beh (b : Int) l, ¬ Lk W r y.toNat z.toNat) ∨ (∃ z ∈ W.beh (b : Int) l, ∀ y ∈ W.beh (a : Int) l, ¬ Lk W r y.toNat z.toNat) := by
  refine Classical.byContradiction fun no => h.no ⟨h.yes r (Nat.lt_succ_self r), fun l => ?_⟩
  refine ⟨fun y hy => ?_, fun z hz => ?_⟩
  · refine Classical.byContradiction fun q => no ⟨l, .inl ⟨y, hy, fun z hz e => q ⟨z, hz, e⟩⟩⟩
  · refine Classical.byContradiction fun q => no ⟨l, .inr ⟨z, hz, fun y hy e => q ⟨y, hy, e⟩⟩⟩
/-! ### parted by facts -/
theorem sep_has {W : Wd} {a b : Nat} {x : Int} {mk : Nat} (ha : a < W.n) (hb : b < W.n) (x0 : 0 ≤ x) (h1 : x ∈ W.at (a : Int)) (h2 : x ∉ W.at (b : Int)) (lt : mk < 2 ^ W.n) (hm : ∀ u, u < W.n → (tb mk u ↔ x ∈ W.at (u : Int))) : Sep W 0 a b (.leaf .has x) mk := by
  have tr : ∀ u, u < W.n → (tru W (.leaf .has x) u ↔ x ∈ W.at (u : Int)) := fun u hu => by
    unfold tru
    rw [show val W (.leaf .has x) (fun _ => []) = flt W.n fun s => sIn (W.at s) x from rfl, sIn_flt (by omega) (by omega)]
    exact decide_eq_true_iff
  exact ⟨⟨(by intro z; cases z), x0⟩, fun u hu => (hm u hu).trans (tr u hu).symm, lt, (tr a ha).mpr h1, fun z => h2 ((tr b hb).mp z), ⟨fun z => h2 (by rw [← show W.at (a : Int) = W.at (b : Int) from z]; exact h1), fun r' h => absurd h (Nat.not_lt_zero _)⟩, Nat.le_refl _, Nat.le_refl _⟩
theorem sep_lacks {W : Wd} {a b : Nat} {x : Int} {mk : Nat} (ha : a < W.n) (hb : b < W.n) (x0 : 0 ≤ x) (h1 : x ∉ W.at (a : Int)) (h2 : x ∈ W.at (b : Int)) (lt : mk < 2 ^ W.n) (hm : ∀ u, u < W.n → (tb mk u ↔ x ∈ W.at (u : Int))) : Sep W 0 a b (.leaf .lacks x) (oth W.n mk) := by
  have tr : ∀ u, u < W.n → (tru W (.leaf .lacks x) u ↔ x ∉ W.at (u : Int)) := fun u hu => by
    unfold tru
    rw [show val W (.leaf .lacks x) (fun _ => []) = flt W.n fun s => !sIn (W.at s) x from rfl, sIn_flt (by omega) (by omega)]
    simp [sIn]
  exact ⟨⟨(by intro z; cases z), x0⟩, fun u hu => by rw [tb_oth lt, hm u hu, tr u hu]; exact ⟨fun z => z.2, fun z => ⟨hu, z⟩⟩, oth_lt _ _, (tr a ha).mpr h1, fun z => (tr b hb).mp z h2, ⟨fun z => h1 (by rw [show W.at (a : Int) = W.at (b : Int) from z]; exact h2), fun r' h => absurd h (Nat.not_lt_zero _)⟩, Nat.le_refl _, Nat.le_refl _⟩
end Fw

set_option maxRecDepth 100000
set_option maxHeartbeats 4000000
/-! sorted(xs, key=f[, reverse=b]), xs a list of any things, f a def of the program or a method of an object, with whole numbers as keys: some order -/
namespace Fw
open PySem PySem.Spec PyProof.Rows L2
open PySem.W in
/-- the sort's end: what the heap is then, in full -/
theorem key_endB {b : Bool} {prog : Program} {w : World} {A : Around} {E : Value → Shared → Prop} {s : Shared} {a kS : Addr} {vs : List Value} {keys : Array Value} {e e1 : Nat} {P : PySem.Fin → Shared → Prop} {κ : PyProof.Rows.KeyKind}
    (nk : s.heap.get? kS = some (seqObj "list" keys e)) (na : s.heap.get? a = some (seqObj "list" #[] e1)) (hka : kS ≠ a) (S : SortsAt prog w A s κ keys.toList) (hsz : keys.size = vs.length) (hZ : vs.length ≤ sizeLine)
    (h : ∀ tk, P (.done (.ret .none)) { s with heap := (s.heap.update kS (Obj.mapSeq fun _ => (#[] : Array Value))).update a (Obj.mapSeq fun _ => (sortVals κ b keys.toList vs).toArray), toks := tk }) :
    wpAny (model prog w) A (ksk_end a b vs.toArray e1 (.ref kS) keys) P E s := by
  obtain ⟨kd, h1, h2⟩ := S.kind
  have hK : PyProof.Rows.KeysOf κ (keys.zip vs.toArray) := keysOf_zip S.keys
  have tl : keys.toList.length = vs.length := by rw [Array.length_toList]; exact hsz
  have ol : (sortVals κ b keys.toList vs).length = vs.length := sortVals_length b tl
  have zs : (keys.zip vs.toArray).size = vs.length := by rw [Array.size_zip, hsz, List.size_toArray, Nat.min_self]
  have hstart : (if b = true then (keys.zip vs.toArray).reverse else keys.zip vs.toArray).Perm (keys.zip vs.toArray) := by
    cases b with
    | false => exact Array.Perm.refl _
    | true => exact Array.perm_iff_toList_perm.mpr (by rw [if_pos rfl, Array.toList_reverse]; exact List.reverse_perm _)
  have hss : (if b = true then (keys.zip vs.toArray).reverse else keys.zip vs.toArray).size = vs.length := by rw [hstart.size_eq, zs]
  have outOf : ∀ st' : SortSt, (arrOf st').Perm (if b = true then (keys.zip vs.toArray).reverse else keys.zip vs.toArray) → SortedToK κ (arrOf st') (if b = true then (keys.zip vs.toArray).reverse else keys.zip vs.toArray).size → Stable κ (arrOf st') (if b = true then (keys.zip vs.toArray).reverse else keys.zip vs.toArray) → (if b = true then ((arrOf st').map (·.2)).reverse else (arrOf st').map (·.2)) = (sortVals κ b keys.toList vs).toArray := fun st' p so sta => by
    have z := sort_out (rev := b) (keys := keys) (items := vs.toArray) (xs := arrOf st') (κ := κ) hK p so sta
    have z2 := congrArg List.toArray z
    rw [Array.toArray_toList] at z2
    exact z2
  have tail : ∀ st' : SortSt, failedOf st' = none → (if b = true then ((arrOf st').map (·.2)).reverse else (arrOf st').map (·.2)) = (sortVals κ b keys.toList vs).toArray → wpAny (model prog w) A (ksk_tail a b e1 (.ref kS) st') P E s := fun st' fl eo => by
    have na1 : (s.heap.update kS (Obj.mapSeq fun _ => (#[] : Array Value))).get? a = some (seqObj "list" #[] e1) := ((Heap.SameBut.update s.heap kS (Obj.mapSeq fun _ => (#[] : Array Value))).2 a hka.symm).trans na
    unfold ksk_tail
    try dsimp only
    rw [eo]
    refine wpAny_bind (listUpdate_at nk rfl ?_ (by rw [hsz]; exact hZ) (Nat.zero_le _))
    refine wpAny_bind (wpAny_letGo ?_)
    refine wpAny_bind (seqEpoch_at na1 rfl ?_)
    refine wpAny_bind (listUpdate_at na1 rfl ?_ (Nat.zero_le _) (by rw [List.size_toArray, ol]; exact Nat.le_succ_of_le hZ))
    rw [fl]
    simp only [bne_self_eq_false, Bool.false_eq_true, if_false]
    exact wpAny_pure (h s.toks)
  have step : ∀ t : Sem PySem.Fin, wpAny (model prog w) A t P E s → wpAny (model prog w) A (if b = true then (do let _ ← rule "list.sort.reverse"; t) else t) P E s := by
    intro t ht
    split
    · exact wpAny_bind (wpAny_rule ht)
    · exact ht
  unfold ksk_end
  try dsimp only
  refine step _ ?_
  by_cases two : vs.toArray.size < 2
  · rw [if_pos two, if_pos two]
    refine wpAny_bind (wpAny_pure ?_)
    rw [StateT.run_pure]
    refine wpAny_bind (wpAny_pure ?_)
    try dsimp only
    refine tail (SortSt.mk' general' (if b = true then (keys.zip vs.toArray).reverse else keys.zip vs.toArray) #[] 7 none) rfl (outOf _ (Array.Perm.refl _) ?_ (Stable.refl _))
    intro i j ij hj
    rw [hss] at hj
    rw [List.size_toArray] at two
    obtain rfl : i = j := by omega
    exact KeyOrd.kle_refl _
  · rw [if_neg two, if_neg two]
    rw [List.size_toArray] at two
    refine wpAny_bind (h2 (by omega) _ ?_)
    refine wpAny_bind (wpAny_mono (H.wpS_sortRunsSt (κ := κ) (kd := kd) (a₀ := if b = true then (keys.zip vs.toArray).reverse else keys.zip vs.toArray) (st := SortSt.mk' kd (if b = true then (keys.zip vs.toArray).reverse else keys.zip vs.toArray) #[] 7 none)
      (Q := fun _ st' => failedOf st' = none ∧ (if b = true then ((arrOf st').map (·.2)).reverse else (arrOf st').map (·.2)) = (sortVals κ b keys.toList vs).toArray)
      h1 (hK.perm hstart) ⟨Array.Perm.refl _, rfl, rfl⟩ rfl (Stable.refl _) (by rw [hss]; omega) fun st' a1 a2 a3 a4 => ⟨a2, outOf st' a1 a3 a4⟩) ?_ fun _ _ z => z)
    rintro ⟨⟨⟩, st'⟩ s' ⟨rfl, hf, ho⟩
    try dsimp only at ho ⊢
    exact tail st' hf ho
/-- what a callable asks to be a key: a whole number for each thing, nothing changed -/
def KeyFnV (X : Cx) (f : Value) (kf : V → Int) (ok : Hp → V → Prop) : Prop := ∀ (pins : List (Addr × Obj)) (σ : L2.St) (G : Hp) (s : Shared) (v : V) (u : Value), ok G v → RelV v u → Inv X pins σ G s →
  wpAny (model X.prog X.w) X.A.in1.in1 (call f [u]) (fun r s' => (∃ tk, r = .int (kf v) tk) ∧ Inv X pins σ G s') (fun _ _ => False) s
theorem each_rel {xs : List V} {its : List Value} (r : Vals xs its) : PySem.W.EachIs (fun v x => RelV x v) its xs := by
  induction r with
  | nil => exact .nil
  | cons h _ ih => exact .cons h ih
theorem vals_each {xs : List V} {its : List Value} (r : PySem.W.EachIs (fun v x => RelV x v) its xs) : Vals xs its := by
  induction r with
  | nil => exact .nil
  | cons h _ ih => exact .cons h ih
open PySem.W in
theorem sorted_keyV {X : Cx} {b : Bool} {pins : List (Addr × Obj)} {σ : L2.St} {H : Hp} {s : Shared} {l q0 : Addr} {kw : List (PySem.Str × Value)} {xs : List V} {kf : V → Int} {ok : Hp → V → Prop} {Q : VK} (hu : X.A.units + 64 < cLine) (I : Inv X pins σ H s) (hs : SqL X.K H l xs)
    (ha1 : argsOk "sorted" ⟨[.ref l], kw⟩) (ha2 : ∀ x, argsOk "list.sort" ⟨[.ref x], kw⟩) (ht : ∀ x, Builtin.«list.sort» ⟨[.ref x], kw⟩ = ksk_tree x (.ref q0) b)
    (hok : ∀ v ∈ xs, ∀ G, Same H G → ok G v) (F : KeyFnV X (.ref q0) kf ok)
    (q : ∀ (ys : List V) (p : Addr) (H' : Hp), ys.Perm xs → H p = none → H' p = some (.lst ys) → Same H H' → Q (.ref p) H') :
    wpAny (model X.prog X.w) X.A (call (.builtin "sorted") [.ref l] kw) (EP X pins σ Q) X.xe s := by
  obtain ⟨its, rv, hl, hz⟩ := I.list hs
  have il : its.length = xs.length := by rw [← rv.length]
  have hZ : its.length ≤ sizeLine := by rw [← rv.length]; exact hz
  refine sorted_of_sort hl.isList hZ ha1 ha2 fun E' => ?_
  generalize ea : s.heap.objs.size + 1 = a
  have hat : (copyHeap s.heap its).get? a = some (seqObj "list" its.toArray 0) := by rw [← ea]; exact copyHeap_at s.heap its
  have Ha : H a = none := I.hok.fresh (by rw [← ea]; exact Nat.le_succ _)
  have I1 : Inv X pins σ (upd H a (.lst xs)) { s with heap := copyHeap s.heap its } :=
    I.laid (t' := s.toks) (fun b o e => copyHeap_old e) (by rw [← ea]; exact Nat.le_succ _) ⟨hz, its, 0, rv, hat⟩
  rw [ht]
  unfold ksk_tree
  refine wpAny_bind (listItems_at hat rfl ?_)
  refine wpAny_bind (listUpdate_at hat rfl ?_ (by rw [List.size_toArray]; exact hZ) (Nat.zero_le _))
  obtain ⟨e1, h1⟩ : ∃ e1, ((copyHeap s.heap its).update a (Obj.mapSeq fun _ => (#[] : Array Value))).get? a = some (seqObj "list" #[] e1) := ⟨_, get?_update_seq hat fun _ => #[]⟩
  refine wpAny_bind (seqEpoch_at h1 rfl ?_)
  have I2 : Inv X pins σ (upd H a (.ext fun h => h.get? a = some (seqObj "list" #[] e1))) { s with heap := (copyHeap s.heap its).update a (Obj.mapSeq fun _ => (#[] : Array Value)) } := by
    have := I1.write (x := a) (e := a) (o := .ext fun h => h.get? a = some (seqObj "list" #[] e1)) (h' := (copyHeap s.heap its).update a (Obj.mapSeq fun _ => (#[] : Array Value))) (t' := s.toks) (by rw [upd_same]; trivial) (.inl rfl)
      (fun b u hb z => ((Heap.SameBut.update (copyHeap s.heap its) a (Obj.mapSeq fun _ => (#[] : Array Value))).2 b hb).trans z) ⟨_, h1⟩ ⟨h1, ⟨_, h1⟩, fun h1 h2 p k => k _ p⟩
    have e : upd (upd H a (.lst xs)) a (.ext fun h => h.get? a = some (seqObj "list" #[] e1)) = upd H a (.ext fun h => h.get? a = some (seqObj "list" #[] e1)) := by
      funext b
      by_cases c : b = a
      · subst c; rw [upd_same, upd_same]
      · rw [upd_ne c, upd_ne c, upd_ne c]
    rw [e] at this
    exact this
  refine wpAny_bind (wpAny_newTuple ?_ hZ)
  generalize (copyHeap s.heap its).update a (Obj.mapSeq fun _ => (#[] : Array Value)) = h2 at h1 I2 ⊢
  have I3 : Inv X pins σ (upd H a (.ext fun h => h.get? a = some (seqObj "list" #[] e1))) { s with heap := h2.push (seqObj "tuple" its.toArray 0) } := I2.kept (t' := s.toks) fun b o z => Heap.get?_push_of_some _ z
  refine wpAny_bind (wpAny_newList ?_ (Nat.zero_le _))
  show wpAny _ _ _ _ _ { s with heap := (h2.push (seqObj "tuple" its.toArray 0)).push (seqObj "list" #[] 0) }
  generalize eK : (h2.push (seqObj "tuple" its.toArray 0)).objs.size = kS
  have Hk : (upd H a (.ext fun h => h.get? a = some (seqObj "list" #[] e1))) kS = none := I3.hok.fresh (Nat.le_of_eq eK)
  have nka : kS ≠ a := fun z => by rw [z, upd_same] at Hk; cases Hk
  have I4 : Inv X pins σ (upd (upd H a (.ext fun h => h.get? a = some (seqObj "list" #[] e1))) kS (.lst [])) { s with heap := (h2.push (seqObj "tuple" its.toArray 0)).push (seqObj "list" #[] 0) } := by
    rw [← eK]
    exact I3.laid (t' := s.toks) (fun b o z => Heap.get?_push_of_some _ z) (Nat.le_refl _) ⟨Nat.zero_le _, [], 0, .nil, Heap.get?_push_size _ rfl⟩
  have sm : ∀ u : HO, Same H (upd (upd H a (.ext fun h => h.get? a = some (seqObj "list" #[] e1))) kS u) := fun u b o z => by
    have c1 : b ≠ a := fun c => by rw [c, Ha] at z; cases z
    have c2 : b ≠ kS := fun c => by rw [c] at z; rw [upd_ne nka, z] at Hk; cases Hk
    rw [upd_ne c2, upd_ne c1]
    exact z
  refine wpAny_holding ?_
  unfold ksk_rest
  refine wpAny_bind (wpAny_rule ?_)
  first
    | rw [List.forIn_toArray]
    | (rw [← Array.forIn_toList]; simp only [List.toList_toArray])
  refine wpAny_bind (ksk_fold (fun i s' => Inv X pins σ (upd (upd H a (.ext fun h => h.get? a = some (seqObj "list" #[] e1))) kS (.lst ((xs.take i).map fun v => V.int (kf v)))) s' ∧ s'.os = s.os) its 0 _ ⟨I4, rfl⟩ ?_ ?_)
  · rintro j x s' hx ⟨I5, os5⟩
    rw [Nat.zero_add] at I5 ⊢
    have jl : j < xs.length := by rw [← il]; exact (List.getElem?_eq_some_iff.mp hx).1
    obtain ⟨u, hu1, hr⟩ := rv.get (i := j) (x := xs[j]) (List.getElem?_eq_getElem jl)
    rw [hx] at hu1
    obtain rfl : x = u := Option.some.inj hu1
    refine wpAny_bind (wpAny_attempt (wpAny_mono (F pins σ _ s' xs[j] x (hok _ (List.getElem_mem jl) _ (sm _)) hr I5) (fun u s'' hu' => ?_) fun _ _ z => z.elim))
    obtain ⟨⟨tk, rfl⟩, I6⟩ := hu'
    try dsimp only
    have gk : (upd (upd H a (.ext fun h => h.get? a = some (seqObj "list" #[] e1))) kS (.lst ((xs.take j).map fun v => V.int (kf v)))) kS = some (.lst ((xs.take j).map fun v => V.int (kf v))) := upd_same
    obtain ⟨kz, kits, kn, kr, ke⟩ := I6.hok kS _ gk
    have klen : kits.length = j := by rw [← kr.length, List.length_map, List.length_take]; omega
    refine wpAny_bind (listUpdate_at ke rfl ?_ (by rw [List.size_toArray, klen]; omega) (by rw [Array.size_push, List.size_toArray, klen]; omega))
    have nx : (xs.take (j + 1)).map (fun v => V.int (kf v)) = (xs.take j).map (fun v => V.int (kf v)) ++ [V.int (kf xs[j])] := by rw [List.take_add_one, List.getElem?_eq_getElem jl, List.map_append]; rfl
    have I7 := I6.lstUpd (its' := kits ++ [.int (kf xs[j]) tk]) (n' := kn + 1) (f := Obj.mapSeq (·.push (.int (kf xs[j]) tk))) (ys := (xs.take (j + 1)).map fun v => V.int (kf v)) gk ke (by simp [Obj.mapSeq]) (by rw [nx]; exact kr.append (.cons ⟨tk, rfl⟩ .nil)) (by rw [List.length_map, List.length_take]; omega) s''.toks
    refine wpAny_pure ⟨rfl, ?_, ?_⟩
    · have e : ∀ o o' : HO, upd (upd (upd H a (.ext fun h => h.get? a = some (seqObj "list" #[] e1))) kS o) kS o' = upd (upd H a (.ext fun h => h.get? a = some (seqObj "list" #[] e1))) kS o' := fun o o' => by
        funext b
        by_cases c : b = kS
        · subst c; rw [upd_same, upd_same]
        · rw [upd_ne c, upd_ne c, upd_ne c]
      rw [e] at I7
      exact I7
    · exact I6.os.trans (I5.os.symm.trans os5)
  · rintro s' ⟨I5, os5⟩
    rw [Nat.zero_add, List.take_of_length_le (Nat.le_of_eq il.symm)] at I5
    have gk : (upd (upd H a (.ext fun h => h.get? a = some (seqObj "list" #[] e1))) kS (.lst (xs.map fun v => V.int (kf v)))) kS = some (.lst (xs.map fun v => V.int (kf v))) := upd_same
    obtain ⟨kz, kits, kn, kr, ke⟩ := I5.hok kS _ gk
    have ga : (upd (upd H a (.ext fun h => h.get? a = some (seqObj "list" #[] e1))) kS (.lst (xs.map fun v => V.int (kf v)))) a = some (.ext fun h => h.get? a = some (seqObj "list" #[] e1)) := by rw [upd_ne nka.symm, upd_same]
    have na := (I5.hok a _ ga).1
    have klen : kits.length = its.length := by rw [← kr.length, List.length_map, il]
    try dsimp only
    refine wpAny_bind (listItems_at ke rfl ?_)
    have kr' : Vals ((xs.map kf).map V.int) kits := by rw [List.map_map]; exact kr
    have er : EachIs (fun v k => ∃ as, Reads s'.heap v k as) kits (xs.map fun n => PyData.int (kf n)) := by
      have z := each_ints kr'
      clear kr' kr klen ke
      generalize hm : xs.map kf = ms at z
      have em : xs.map (fun n => PyData.int (kf n)) = ms.map PyData.int := by rw [← hm, List.map_map]; rfl
      rw [em]
      clear em hm
      induction z with
      | nil => exact .nil
      | cons h _ ih => exact .cons (by obtain ⟨t, rfl⟩ := h; exact ⟨[], .int _ _⟩) ih
    have hal : AllAlike (xs.map fun n => PyData.int (kf n)) := AllAlike.of fun _ _ => rfl
    refine key_endB (b := b) (κ := dataKind s'.heap (xs.map fun n => PyData.int (kf n))) ke na nka (SortsAt.data er hal (Sortable.others fun n => ⟨(fun z => nomatch z), fun xs z => nomatch z⟩) fun d hd => ?_) (by rw [List.size_toArray, klen]) hZ fun tk => ⟨rfl, ?_⟩
    · obtain ⟨n, _, rfl⟩ := List.mem_map.mp hd
      simp only [PyData.depth]
      simp [Around.in1]
      omega
    have eo := keyedOut_each (R := fun v x => RelV x v) (fun n => PyData.int (kf n)) (⟨s'.heap, kits, hal, rfl, er⟩ : KeyedOut b (xs.map fun n => PyData.int (kf n)) its _) (each_rel rv)
    generalize ho : sortVals (dataKind s'.heap (xs.map fun n => PyData.int (kf n))) b kits its = out at eo
    have ov := vals_each eo
    have pm := List.mergeSort_perm xs (dataLe b fun n => PyData.int (kf n))
    generalize xs.mergeSort (dataLe b fun n => PyData.int (kf n)) = M at ov pm
    have I6 := I5.lstUpd (its' := []) (f := Obj.mapSeq fun _ => (#[] : Array Value)) (ys := []) gk ke rfl .nil (Nat.zero_le _) tk
    have na1 : (s'.heap.update kS (Obj.mapSeq fun _ => (#[] : Array Value))).get? a = some (seqObj "list" #[] e1) := ((Heap.SameBut.update s'.heap kS (Obj.mapSeq fun _ => (#[] : Array Value))).2 a nka.symm).trans na
    obtain ⟨e2, h3⟩ : ∃ e2, ((s'.heap.update kS (Obj.mapSeq fun _ => (#[] : Array Value))).update a (Obj.mapSeq fun _ => out.toArray)).get? a = some (seqObj "list" out.toArray e2) := ⟨_, get?_update_seq na1 fun _ => out.toArray⟩
    have ml : M.length ≤ sizeLine := by rw [pm.length_eq]; exact hz
    have I7 := I6.write (x := a) (e := a) (o := .lst M) (h' := (s'.heap.update kS (Obj.mapSeq fun _ => (#[] : Array Value))).update a (Obj.mapSeq fun _ => out.toArray)) (t' := tk) (by rw [upd_ne nka.symm, ga]; trivial) (.inl rfl)
      (fun b u hb z => ((Heap.SameBut.update (s'.heap.update kS (Obj.mapSeq fun _ => (#[] : Array Value))) a (Obj.mapSeq fun _ => out.toArray)).2 b hb).trans z) ⟨_, h3⟩ ⟨ml, out, e2, ov, h3⟩
    refine ⟨.ref a, _, I7, rfl, q M a _ pm Ha upd_same fun b o z => ?_⟩
    have c1 : b ≠ a := fun c => by rw [c, Ha] at z; cases z
    have c2 : b ≠ kS := fun c => by rw [c] at z; rw [upd_ne nka, z] at Hk; cases Hk
    rw [upd_ne c1, upd_ne c2, upd_ne c2, upd_ne c1]
    exact z
/-- a def of the program as a key -/
theorem keyFnV_of {X : Cx} {k : Nat} {q0 : Addr} {fd : FuncData} {ps : List PySem.Str} {sp : Sp} {kf : V → Int} {ok : Hp → V → Prop} (F : FnOk X.prog X.w X.K X.mg X.base CX0 k q0 fd ps sp) (hr : Room k X.A.in1.in1) (hb : Binds X.K fd ps [])
    (hs : ∀ G v, ok G v → ∀ (Q : VK) (E : XK), Q (.int (kf v)) G → sp [v] G Q E) : KeyFnV X (.ref q0) kf ok := by
  intro pins σ G s v u hn ru I
  have sp1 := hs G v hn (fun v' G' => v' = V.int (kf v) ∧ G' = G) (fun _ _ _ => False) ⟨rfl, rfl⟩
  have hl : ([u] ++ ([] : List Value)).length = ps.length := by have := F.len _ _ _ _ sp1; simpa using this
  refine wpAny_call (codeAny_mono (F.run X.A.in1.in1 X.stack s G ⟨[u], []⟩ ([u] ++ []) [v] (fun v' G' => v' = V.int (kf v) ∧ G' = G) (fun _ _ _ => False) hr I.env0.in1.in1 (hb s [u] I.kIn hl) (.cons ru .nil) sp1) fun r s' hq => ?_)
  cases r with
  | error e => exact hq.elim
  | ok fl =>
    cases fl with
    | ret u' =>
      have hq' : CE X.stack X.prog X.w G s (fun v' G' => v' = V.int (kf v) ∧ G' = G) u' s' := hq
      obtain ⟨v', G', I', rv, rfl, rfl⟩ := I.after hq'
      obtain ⟨tk, rfl⟩ : ∃ tk, u' = Value.int (kf v) tk := rv
      exact ⟨⟨tk, rfl⟩, I'⟩
    | next => exact False.elim hq
    | brk => exact False.elim hq
    | cont => exact False.elim hq
/-- a bound method as a key -/
theorem keyFnM_of {X : Cx} {k : Nat} {q0 f x : Addr} {fd : FuncData} {ps : List PySem.Str} {sp : Sp} {kf : V → Int} {ok : Hp → V → Prop} (F : FnOk X.prog X.w X.K X.mg X.base CX0 k f fd ps sp) (hr : Room k X.A.in1.in1) (hb : Binds X.K fd ps [])
    (hm : ∀ G v, ok G v → G q0 = some (.met f x)) (hs : ∀ G v, ok G v → ∀ (Q : VK) (E : XK), Q (.int (kf v)) G → sp [.ref x, v] G Q E) : KeyFnV X (.ref q0) kf ok := by
  intro pins σ G s v u hn ru I
  have sp1 := hs G v hn (fun v' G' => v' = V.int (kf v) ∧ G' = G) (fun _ _ _ => False) ⟨rfl, rfl⟩
  have hl : ([Value.ref x, u] ++ ([] : List Value)).length = ps.length := by have := F.len _ _ _ _ sp1; simpa using this
  refine wpAny_call (call_met I (hm G v hn) (codeAny_mono (F.run X.A.in1.in1 X.stack s G ⟨[.ref x, u], []⟩ ([.ref x, u] ++ []) [.ref x, v] (fun v' G' => v' = V.int (kf v) ∧ G' = G) (fun _ _ _ => False) hr I.env0.in1.in1 (hb s [.ref x, u] I.kIn hl) (.cons (show RelV (.ref x) (.ref x) from rfl) (.cons ru .nil)) sp1) fun r s' hq => ?_))
  cases r with
  | error e => exact hq.elim
  | ok fl =>
    cases fl with
    | ret u' =>
      have hq' : CE X.stack X.prog X.w G s (fun v' G' => v' = V.int (kf v) ∧ G' = G) u' s' := hq
      obtain ⟨v', G', I', rv, rfl, rfl⟩ := I.after hq'
      obtain ⟨tk, rfl⟩ : ∃ tk, u' = Value.int (kf v) tk := rv
      exact ⟨⟨tk, rfl⟩, I'⟩
    | next => exact False.elim hq
    | brk => exact False.elim hq
    | cont => exact False.elim hq
/-- sorted(xs, key=f), f a def of the program -/
def rSortedD (K : PySem.W.Frag) (q0 : Addr) (sp : Sp) : List V → List V → Hp → VK → Prop := fun vs zs H Q => ∃ (l : Addr) (xs : List V) (kf : V → Int) (ok : Hp → V → Prop), vs = [V.ref l] ∧ zs = [V.ref q0] ∧ SqL K H l xs ∧ (∀ v ∈ xs, ∀ G, Same H G → ok G v) ∧
  (∀ G v, ok G v → ∀ (Q : VK) (E : XK), Q (.int (kf v)) G → sp [v] G Q E) ∧ ∀ (ys : List V) (p : Addr) (H' : Hp), ys.Perm xs → H p = none → H' p = some (.lst ys) → Same H H' → Q (.ref p) H'
theorem cr_sortedD {X : Cx} {k : Nat} {q0 : Addr} {fd : FuncData} {ps : List PySem.Str} {sp : Sp} (hu : X.A.units + 64 < cLine) (F : FnOk X.prog X.w X.K X.mg X.base CX0 k q0 fd ps sp) (hr : Room k X.A.in1.in1) (hb : Binds X.K fd ps []) :
    CallRK X (.builtin "sorted") [PySem.Str.ofString "key"] (rSortedD X.K q0 sp) := by
  intro pins s σ H vs zs us ws Q I r rz h
  obtain ⟨l, xs, kf, ok, rfl, rfl, hs, hok, hsp, q⟩ := h
  rw [Vals.ref1 r, Vals.ref1 rz]
  exact sorted_keyV (b := false) hu I hs (PyProof.Rows.ksk_s1 _ _) (fun _ => PyProof.Rows.ksk_l1 _ _) (fun x => PyProof.Rows.ksk_t1 _ _) hok (keyFnV_of F hr hb hsp) q
/-- sorted(xs, key=x.m, reverse=True), m a method -/
def rSortedM (K : PySem.W.Frag) (g : Addr) (sp : Sp) : List V → List V → Hp → VK → Prop := fun vs zs H Q => ∃ (l q0 x : Addr) (xs : List V) (kf : V → Int) (ok : Hp → V → Prop), vs = [V.ref l] ∧ zs = [V.ref q0, .bl true] ∧ SqL K H l xs ∧ (∀ v ∈ xs, ∀ G, Same H G → ok G v) ∧
  (∀ G v, ok G v → G q0 = some (.met g x)) ∧ (∀ G v, ok G v → ∀ (Q : VK) (E : XK), Q (.int (kf v)) G → sp [.ref x, v] G Q E) ∧ ∀ (ys : List V) (p : Addr) (H' : Hp), ys.Perm xs → H p = none → H' p = some (.lst ys) → Same H H' → Q (.ref p) H'
theorem cr_sortedM {X : Cx} {k : Nat} {g : Addr} {fd : FuncData} {ps : List PySem.Str} {sp : Sp} (hu : X.A.units + 64 < cLine) (F : FnOk X.prog X.w X.K X.mg X.base CX0 k g fd ps sp) (hr : Room k X.A.in1.in1) (hb : Binds X.K fd ps []) :
    CallRK X (.builtin "sorted") [PySem.Str.ofString "key", PySem.Str.ofString "reverse"] (rSortedM X.K g sp) := by
  intro pins s σ H vs zs us ws Q I r rz h
  obtain ⟨l, q0, x, xs, kf, ok, rfl, rfl, hs, hok, hm, hsp, q⟩ := h
  obtain ⟨w1, w2, rfl, e1, e2⟩ := vals2 rz
  obtain rfl : w1 = Value.ref q0 := e1
  obtain rfl : w2 = Value.bool true := e2
  rw [Vals.ref1 r]
  exact sorted_keyV (b := true) hu I hs (PyProof.Rows.ksk_s2 _ _ _) (fun _ => PyProof.Rows.ksk_l2 _ _ _) (fun x => PyProof.Rows.ksk_t2 _ _ _) hok (keyFnM_of F hr hb hm hsp) q
/-- o.m as a value, m a method -/
def tBnd (C g : Addr) (te : TE) (m : PySem.Str) : TE := fun σ H Q => te σ H fun x H1 => ∃ a dx fs, x = .ref a ∧ H1 a = some (.ins C dx fs) ∧ fs.lookup m = none ∧ ∀ p, H1 p = none → Q (.ref p) (upd H1 p (.met g a))
theorem pe_bnd {X : Cx} {C g : Addr} {e : Expr} {m : PySem.Str} {pos : Pos} {te : TE} (he : PE X e te) (c : Cls X.K C) (k : BMeth X.K C m g) (hb : attributeBase e m X.env (eval e X.env) = eval e X.env := by rfl) : PE X (.Attribute e m pos) (tBnd C g te m) := by
  refine ⟨fun pins s σ H Q I h => ?_⟩
  refine attr_of hb (thn (he.run pins s σ H _ I h) fun u s1 ⟨x, H1, I1, rx, a, dx, fs, ex, ea, l, q⟩ => ?_)
  subst ex
  obtain rfl : u = Value.ref a := rx
  exact getbound_ok I1 ea c k l fun p s' hp I' => ⟨.ref p, _, I', rfl, q p hp⟩
/-! ### slices with a step of two -/
def evs {α : Type} : List α → List α
  | [] => []
  | [x] => [x]
  | x :: _ :: r => x :: evs r
def ods {α : Type} : List α → List α
  | [] => []
  | [_] => []
  | _ :: y :: r => y :: ods r
theorem evs_len {α : Type} : ∀ xs : List α, (evs xs).length = (xs.length + 1) / 2
  | [] => by simp [evs]
  | [x] => by simp [evs]
  | x :: y :: r => by
    show (evs r).length + 1 = (r.length + 1 + 1 + 1) / 2
    rw [evs_len r]; omega
theorem ods_len {α : Type} : ∀ xs : List α, (ods xs).length = xs.length / 2
  | [] => by simp [ods]
  | [x] => by simp [ods]
  | x :: y :: r => by
    show (ods r).length + 1 = (r.length + 1 + 1) / 2
    rw [ods_len r]; omega
theorem evs_at {α : Type} : ∀ (xs : List α) (k : Nat), (evs xs)[k]? = xs[2 * k]?
  | [], k => by simp [evs]
  | [x], 0 => rfl
  | [x], k + 1 => by simp [evs]
  | x :: y :: r, 0 => rfl
  | x :: y :: r, k + 1 => by
    show (evs r)[k]? = (x :: y :: r)[2 * k + 2]?
    rw [evs_at r k]; rfl
theorem ods_at {α : Type} : ∀ (xs : List α) (k : Nat), (ods xs)[k]? = xs[2 * k + 1]?
  | [], k => by simp [ods]
  | [x], k => by simp [ods]
  | x :: y :: r, 0 => rfl
  | x :: y :: r, k + 1 => by
    show (ods r)[k]? = (x :: y :: r)[2 * k + 3]?
    rw [ods_at r k]; rfl
theorem pick_by {α : Type} {xs ys : List α} {f : Nat → Nat} (h : ∀ k, ys[k]? = xs[f k]?) : ((List.range ys.length).map f).filterMap (xs[·]?) = ys := by
  have : ∀ m, m ≤ ys.length → ((List.range m).map f).filterMap (xs[·]?) = ys.take m := fun m => by
    induction m with
    | zero => intro _; rfl
    | succ m ih =>
      intro hm
      have e : ys[m]? = some ys[m] := List.getElem?_eq_getElem (by omega)
      rw [List.range_succ, List.map_append, List.filterMap_append, ih (by omega), List.take_add_one, e]
      congr 1
      show List.filterMap (xs[·]?) [f m] = _
      rw [List.filterMap_cons, ← h m, e]
      rfl
  rw [this _ (Nat.le_refl _), List.take_length]
theorem range_step2 {a n : Nat} (hn : a ≤ n) : PySem.sliceRange (a : Int) (n : Int) 2 = (List.range ((n - a + 1) / 2)).map fun k => a + 2 * k := by
  unfold PySem.sliceRange
  by_cases c : (n : Int) > (a : Int)
  · have e : (((n : Int) - (a : Int) + 2 - 1) / 2).toNat = (n - a + 1) / 2 := by omega
    simp only [show (2 : Int) > 0 by decide, if_true, c]
    rw [e]
    refine List.map_congr_left fun k _ => ?_
    omega
  · have e : n = a := by omega
    subst e
    simp
open PyProof in
theorem pick_evs (items : Array Value) : slicePick items none none (some 2) = (evs items.toList).toArray := by
  unfold slicePick
  have e : sliceBounds none none (some 2) items.size = (((0 : Nat) : Int), (items.size : Int), 2) := by simp [sliceBounds]
  rw [e]
  show ((PySem.sliceRange ((0 : Nat) : Int) (items.size : Int) 2).filterMap (items[·]?)).toArray = _
  rw [range_step2 (Nat.zero_le _), show (items.size - 0 + 1) / 2 = (evs items.toList).length by rw [evs_len, Array.length_toList]; rfl]
  congr 1
  refine Eq.trans ?_ (pick_by (xs := items.toList) (ys := evs items.toList) (f := fun k => 0 + 2 * k) fun k => by rw [evs_at, Nat.zero_add])
  simp
open PyProof in
theorem pick_ods (items : Array Value) : slicePick items (some 1) none (some 2) = (ods items.toList).toArray := by
  unfold slicePick
  by_cases z : items.size = 0
  · have e : items = #[] := Array.eq_empty_of_size_eq_zero z
    subst e
    rfl
  · have e : sliceBounds (some 1) none (some 2) items.size = (((1 : Nat) : Int), (items.size : Int), 2) := by simp [sliceBounds]; omega
    rw [e]
    show ((PySem.sliceRange ((1 : Nat) : Int) (items.size : Int) 2).filterMap (items[·]?)).toArray = _
    rw [range_step2 (by omega), show (items.size - 1 + 1) / 2 = (ods items.toList).length by rw [ods_len, Array.length_toList]; omega]
    congr 1
    refine Eq.trans ?_ (pick_by (xs := items.toList) (ys := ods items.toList) (f := fun k => 1 + 2 * k) fun k => by rw [ods_at, Nat.add_comm])
    simp
theorem Vals.evs : ∀ {xs : List V} {us : List Value}, Vals xs us → Vals (Fw.evs xs) (Fw.evs us)
  | _, _, .nil => .nil
  | _, _, .cons h .nil => .cons h .nil
  | _, _, .cons h (.cons _ t) => .cons h (Vals.evs t)
theorem Vals.ods : ∀ {xs : List V} {us : List Value}, Vals xs us → Vals (Fw.ods xs) (Fw.ods us)
  | _, _, .nil => .nil
  | _, _, .cons _ .nil => .nil
  | _, _, .cons _ (.cons h t) => .cons h (Vals.ods t)
/-- xs[::2] -/
def tEvs (K : PySem.W.Frag) (te : TE) : TE := fun σ H Q => te σ H fun x H1 => ∃ a xs, x = .ref a ∧ SqL K H1 a xs ∧ ∀ p, H1 p = none → Q (.ref p) (upd H1 p (.lst (evs xs)))
/-- xs[1::2] -/
def tOds (K : PySem.W.Frag) (te : TE) : TE := fun σ H Q => te σ H fun x H1 => ∃ a xs, x = .ref a ∧ SqL K H1 a xs ∧ ∀ p, H1 p = none → Q (.ref p) (upd H1 p (.lst (ods xs)))
theorem pe_evs {X : Cx} {e : Expr} {te : TE} {k : Nat} {p1 p3 pos : Pos} (he : PE X e te) : PE X (.Subscript e (.Slice none none (some (.Constant (.int 2) k p1)) p3) pos) (tEvs X.K te) := by
  refine ⟨fun pins s σ H Q I h => ?_⟩
  refine Subscript_ (thn (he.run pins s σ H _ I h) fun v s1 ⟨x, H1, I1, r1, q1⟩ => ?_)
  obtain ⟨a, xs, ex, hx, q⟩ := q1
  subst ex
  cases r1
  have hst : PO X (some (.Constant (.int 2) k p1)) (tPart (tC (.int 2))) := po_some pe_int
  refine wpAny_Slice (thn (po_none.run pins s1 σ H1 (fun o H2 => o = none ∧ H2 = H1) I1 ⟨rfl, rfl⟩) fun vl s2 ⟨l, H2, I2, pl, el, e2⟩ => ?_)
  subst el e2
  refine thn (po_none.run pins s2 σ H2 (fun o H3 => o = none ∧ H3 = H2) I2 ⟨rfl, rfl⟩) fun vu s3 ⟨u, H3, I3, pu, eu, e3⟩ => ?_
  subst eu e3
  refine thn (hst.run pins s3 σ H3 (fun o H4 => o = some 2 ∧ H4 = H3) I3 ⟨2, rfl, rfl, rfl⟩) fun vs s4 ⟨o, H4, I4, ps, eo, e4⟩ => ?_
  subst eo e4
  have I5 : Inv X pins σ H4 { s4 with heap := s4.heap.push { cls := .type "slice", data := .fields #[vl, vu, vs] } } := I4.kept (t' := s4.toks) fun b ob q => Heap.get?_push_of_some _ q
  obtain ⟨its, r, ht, hz⟩ := I5.list hx
  have hlen := r.length
  refine tail_any (ops := [.ref a, .ref s4.heap.objs.size]) ht.isList.typeIs (PySem.slot_list_getitem.lookup) ?_ (by with_unfolding_all rfl)
  refine wpAny_getItem_list_slice ht.isList (Heap.IsSliceOf.new _ vl vu vs) pl pu ps (by decide) ?_ (by rw [List.size_toArray]; omega)
  rw [pick_evs]
  refine ⟨.ref _, _, I5.laid (t' := s4.toks) (o := .lst (evs xs)) (fun b ob q => Heap.get?_push_of_some _ q) (Nat.le_refl _) ?_, rfl, q _ (I5.hok.fresh (Nat.le_refl _))⟩
  exact ⟨by rw [evs_len]; omega, _, 0, Vals.evs r, Heap.get?_push_size _ rfl⟩
theorem pe_ods {X : Cx} {e : Expr} {te : TE} {k k2 : Nat} {p1 p2 p3 pos : Pos} (he : PE X e te) : PE X (.Subscript e (.Slice (some (.Constant (.int 1) k2 p2)) none (some (.Constant (.int 2) k p1)) p3) pos) (tOds X.K te) := by
  refine ⟨fun pins s σ H Q I h => ?_⟩
  refine Subscript_ (thn (he.run pins s σ H _ I h) fun v s1 ⟨x, H1, I1, r1, q1⟩ => ?_)
  obtain ⟨a, xs, ex, hx, q⟩ := q1
  subst ex
  cases r1
  have hst : PO X (some (.Constant (.int 2) k p1)) (tPart (tC (.int 2))) := po_some pe_int
  have hlo : PO X (some (.Constant (.int 1) k2 p2)) (tPart (tC (.int 1))) := po_some pe_int
  refine wpAny_Slice (thn (hlo.run pins s1 σ H1 (fun o H2 => o = some 1 ∧ H2 = H1) I1 ⟨1, rfl, rfl, rfl⟩) fun vl s2 ⟨l, H2, I2, pl, el, e2⟩ => ?_)
  subst el e2
  refine thn (po_none.run pins s2 σ H2 (fun o H3 => o = none ∧ H3 = H2) I2 ⟨rfl, rfl⟩) fun vu s3 ⟨u, H3, I3, pu, eu, e3⟩ => ?_
  subst eu e3
  refine thn (hst.run pins s3 σ H3 (fun o H4 => o = some 2 ∧ H4 = H3) I3 ⟨2, rfl, rfl, rfl⟩) fun vs s4 ⟨o, H4, I4, ps, eo, e4⟩ => ?_
  subst eo e4
  have I5 : Inv X pins σ H4 { s4 with heap := s4.heap.push { cls := .type "slice", data := .fields #[vl, vu, vs] } } := I4.kept (t' := s4.toks) fun b ob q => Heap.get?_push_of_some _ q
  obtain ⟨its, r, ht, hz⟩ := I5.list hx
  have hlen := r.length
  refine tail_any (ops := [.ref a, .ref s4.heap.objs.size]) ht.isList.typeIs (PySem.slot_list_getitem.lookup) ?_ (by with_unfolding_all rfl)
  refine wpAny_getItem_list_slice ht.isList (Heap.IsSliceOf.new _ vl vu vs) pl pu ps (by decide) ?_ (by rw [List.size_toArray]; omega)
  rw [pick_ods]
  refine ⟨.ref _, _, I5.laid (t' := s4.toks) (o := .lst (ods xs)) (fun b ob q => Heap.get?_push_of_some _ q) (Nat.le_refl _) ?_, rfl, q _ (I5.hok.fresh (Nat.le_refl _))⟩
  exact ⟨by rw [ods_len]; omega, _, 0, Vals.ods r, Heap.get?_push_size _ rfl⟩
end Fw

set_option maxRecDepth 100000
set_option maxHeartbeats 800000
namespace Fw
open PySem PySem.Spec PyProof.Rows L2 GxR
theorem wT_ne : (wT true : Str) ≠ wT false := by decide
/-- pairs of neighbours -/
theorem AllF.app {K : PySem.W.Frag} {H : Hp} : ∀ {vs ws : List V} {ts us : List F}, AllF K H vs ts → AllF K H ws us → AllF K H (vs ++ ws) (ts ++ us)
  | _, _, _, _, .nil, b => b
  | _, _, _, _, .cons h t, b => .cons h (AllF.app t b)
theorem AllF.same {K : PySem.W.Frag} {H H' : Hp} (s : Same H H') {vs : List V} {ts : List F} (h : AllF K H vs ts) : AllF K H' vs ts := by
  induction h with
  | nil => exact .nil
  | cons h _ ih => exact .cons (h.same s) ih
def tw (b : Bool) : List F → List F
  | x :: y :: r => .two b x y :: tw b r
  | _ => []
theorem tw_len (b : Bool) : ∀ L : List F, (tw b L).length = L.length / 2
  | [] => by simp [tw]
  | [x] => by simp [tw]
  | x :: y :: r => by
    show (tw b r).length + 1 = (r.length + 1 + 1) / 2
    rw [tw_len b r]; omega
theorem tw_at (b : Bool) : ∀ (L : List F) (i : Nat), (tw b L)[i]? = (L[2 * i]?).bind fun x => (L[2 * i + 1]?).map fun y => .two b x y
  | [], i => by simp [tw]
  | [x], i => by cases i <;> simp [tw]
  | x :: y :: r, 0 => rfl
  | x :: y :: r, i + 1 => by
    show (tw b r)[i]? = ((x :: y :: r)[2 * i + 2]?).bind fun x' => ((x :: y :: r)[2 * i + 3]?).map fun y' => .two b x' y'
    rw [tw_at b r i]; rfl
theorem lvB_tw (b : Bool) : ∀ L : List F, lvB b L = tw b L ++ L.drop (2 * (tw b L).length)
  | [] => rfl
  | [x] => rfl
  | x :: y :: r => by
    show F.two b x y :: lvB b r = F.two b x y :: (tw b r ++ (x :: y :: r).drop (2 * ((tw b r).length + 1)))
    rw [lvB_tw b r]
    rfl
theorem AllF.get2 {K : PySem.W.Frag} {H : Hp} {vs : List V} {ts : List F} (h : AllF K H vs ts) {m : Nat} {y : V} (e : vs[m]? = some y) : ∃ f, ts[m]? = some f ∧ IsF K H y f := by
  have l := h.len
  obtain ⟨f, hf⟩ : ∃ f, ts[m]? = some f := ⟨_, List.getElem?_eq_getElem (by rw [← l]; exact (List.getElem?_eq_some_iff.mp e).1)⟩
  exact ⟨f, hf, h.get e hf⟩
theorem AllF.drop {K : PySem.W.Frag} {H : Hp} : ∀ {vs : List V} {ts : List F} (n : Nat), AllF K H vs ts → AllF K H (vs.drop n) (ts.drop n)
  | _, _, 0, h => h
  | _, _, n + 1, .nil => .nil
  | _, _, n + 1, .cons _ t => AllF.drop n t
theorem cutV_from (xs : List V) {n : Nat} (h : n ≤ xs.length) : cutV xs (some (n : Int)) none = xs.drop n := by
  unfold cutV
  rw [HT.sIx_none, show HT.sIx xs.length 0 (some (n : Int)) = min n xs.length from HT.sIx_nat _ _ n, Nat.min_eq_left h]
  exact List.take_of_length_le (by rw [List.length_drop]; exact Nat.le_refl _)
section
variable {P : Program} {w : World} {K : PySem.W.Frag} {mg : Str → Option Value} {base : Heap} {C J B : Addr}
def spBal (K : PySem.W.Frag) : Sp := fun vs H Q _ => ∃ (la na : Addr) (b : Bool) (ks : List V) (L : List F), vs = [.str (wT b), .ref la, .ref na] ∧ SqL K H la ks ∧ AllF K H ks L ∧ L.length ≤ 400 ∧ SqT K H na [.str (wN b)] ∧
  ∀ v f H', Same H H' → IsF K H' v f → JnB b L f → Q v H'
theorem ok_balanced {f : Addr} {fd : FuncData} (FF : Fun K "balanced" "balanced" s_balanced f fd) (T : Txt K mg C J B) : FnOk P w K mg base CX0 1 f fd a_balanced (spBal K) := by
  refine FF.ok sc_balanced (fun vs H Q E h => ?_) (fun cdv A outer s0 H vs Q E hr h => ?_)
  · obtain ⟨la, na, b, ks, L, rfl, _⟩ := h
    rfl
  · obtain ⟨la, na, b, ks, L, rfl, sq, ak, l400, sn, k⟩ := h
    refine ⟨_, (pss_cons (ps_if (pt_not (pt_truth (pv 1) (by intro _; rfl))) (pss_one (ps_ret (pv 2))) pss_nil)
      (pss_cons (ps_set (i := 3) sc_balanced.nd rfl (.inl rfl) (pe_callTy call_list_of rfl T.z_list (by decide +kernel) (pa_cons (pv 1) pa_nil)))
      (pss_cons (ps_while PassesOwn.never (pt_cmpR op_gt (pe_callB call_len_seq rfl T.z_len (by decide +kernel) (pa_cons (pv 3) pa_nil)) pe_int (nomark _)) (pss_cons (ps_setLc (i := 4) (own := [("left", 5), ("right", 6)]) rfl sc_balanced.nd rfl rfl (sw_true rfl rfl rfl (by decide +kernel)) (pi_zip rfl T.z_zip (pa_cons (pe_evs (pv 3)) (pa_cons (pe_ods (pv 3)) pa_nil))) (blkOk_by (own := [("left", 5), ("right", 6)]) (N := n_balanced) (sc := defScope s_balanced) (by decide +kernel)) (fun _ _ _ _ _ => (show PG _ _ (gTup K 2 _) from pg_tup rfl (pgs_cons (pg_name (i := 5) sc_balanced.nd rfl (.inl rfl)) (pgs_cons (pg_name (i := 6) sc_balanced.nd rfl (.inl rfl)) pgs_nil)))) (fun _ _ _ _ _ => pts_nil) (fun _ _ _ _ _ => (pe_tup (pa_cons (pv 0) (pa_cons (pv 5) (pa_cons (pv 6) pa_nil))))))
      (pss_one (ps_set (i := 3) sc_balanced.nd rfl (.inl rfl) (pe_op op_cat (pv 4) (pe_slice sl_list (pv 3) (po_some (pe_op op_mul pe_int (pe_callB call_len_seq rfl T.z_len (by decide +kernel) (pa_cons (pv 4) pa_nil)))) po_none))))))
      (pss_one (ps_ret (pe_ix ix_list (pv 3) pe_int (fun _ _ => rfl))))))), ?_⟩
    have kl := ak.len
    refine ⟨.ref la, rfl, !ks.isEmpty, .inl ⟨ks, sq, rfl⟩, ?_⟩
    cases L with
    | nil =>
      cases ak
      refine iteT ⟨.ref na, rfl, ?_⟩
      exact k (.ref na) (.nul b) H (Same.refl H) (.nul sn) (JnB.nil b)
    | cons F0 L0 =>
      generalize hL : F0 :: L0 = L at ak l400 k kl
      have ne : L ≠ [] := by rw [← hL]; exact List.cons_ne_nil _ _
      have kne : ks.isEmpty = false := by
        cases ks with
        | nil => rw [← hL] at kl; cases kl
        | cons => rfl
      rw [kne]
      refine iteF ⟨.ref la, rfl, la, ks, rfl, .inl sq, fun l0 hl0 => ?_⟩
      have s1 := Same.new (o := .lst ks) hl0
      have g1 : (upd H l0 (.lst ks)) l0 = some (.lst ks) := upd_same
      have ak1 := ak.same s1
      generalize upd H l0 (.lst ks) = H1 at s1 g1 ak1
      refine ⟨fun d σ G => ∃ (lv : Addr) (ms : List V) (M : List F) (y4 y5 y6 : Option V), σ = [some (.str (wT b)), some (.ref la), some (.ref na), some (.ref lv), y4, y5, y6] ∧ Same H G ∧ G lv = some (.lst ms) ∧ AllF K G ms M ∧ Lv b L M ∧ d = M.length, ⟨_, l0, ks, L, none, none, none, rfl, s1, g1, ak1, Lv.refl b L, rfl⟩, ?_⟩
      rintro d σ G ⟨lv, ms, M, y4, y5, y6, rfl, sG, glv, am, LV, rfl⟩
      have ml := am.len
      have mle := LV.ln.1
      have mne := LV.ln.2 ne
      refine ⟨.ref lv, rfl, lv, ms, rfl, .inl (SqL.of glv), (ms.length : Int), 1, rfl, rfl, _, rfl, ?_⟩
      by_cases c : 1 < ms.length
      · rw [decide_eq_true (show (1 : Int) < (ms.length : Int) by omega)]
        refine iteT ⟨fun σ' G' => ∃ (lv' : Addr) (ms' : List V) (M' : List F) (y4 y5 y6 : Option V), σ' = [some (.str (wT b)), some (.ref la), some (.ref na), some (.ref lv'), y4, y5, y6] ∧ Same H G' ∧ G' lv' = some (.lst ms') ∧ AllF K G' ms' M' ∧ Lv b L M' ∧ M'.length < M.length, ?_, ?_⟩
        · rintro σ' G' ⟨lv', ms', M', y4', y5', y6', rfl, h1, h2, h3, h4, h5⟩
          exact ⟨M'.length, h5, lv', ms', M', y4', y5', y6', rfl, h1, h2, h3, h4, rfl⟩
        refine ⟨.ref lv, rfl, lv, ms, rfl, SqL.of glv, fun ea hea => ?_⟩
        have sa := Same.new (o := .lst (evs ms)) hea
        have ga : (upd G ea (.lst (evs ms))) ea = some (.lst (evs ms)) := upd_same
        have glva := sa _ _ glv
        have ama := am.same sa
        generalize upd G ea (.lst (evs ms)) = G1 at sa ga glva ama
        refine ⟨.ref lv, rfl, lv, ms, rfl, SqL.of glva, fun oa hoa => ?_⟩
        have sb := Same.new (o := .lst (ods ms)) hoa
        have gb : (upd G1 oa (.lst (ods ms))) oa = some (.lst (ods ms)) := upd_same
        have gab := sb _ _ ga
        have glvb := sb _ _ glva
        have amb := ama.same sb
        generalize upd G1 oa (.lst (ods ms)) = G2 at sb gb gab glvb amb
        have sG2 := sG.trans (sa.trans sb)
        refine ⟨ea, oa, evs ms, ods ms, rfl, SqL.of gab, SqL.of gb, fun D hD => ?_⟩
        refine lc_it (walk_zip (n := (tw b M).length) (xs := evs ms) (ys := ods ms) (by rw [evs_len, ods_len, tw_len]; omega)) (fun i G' => Same G2 G' ∧ ∃ ps, G' D = some (.lst ps) ∧ AllF K G' ps ((tw b M).take i)) ⟨Same.new hD, [], upd_same, by rw [List.take_zero]; exact .nil⟩ (fun i G' _ q => ⟨SqL.of (q.1 _ _ gab), SqL.of (q.1 _ _ gb)⟩) ?_ ?_
        · rintro i x G3 G4 hi ⟨s3, ps, gD, ap⟩ ⟨tp, x1, x2, rfl, htp, rfl, e1, e2⟩
          have s4 := Same.new (o := .tup [x1, x2]) htp
          have e1' : (evs ms)[i]? = some x1 := e1
          have e2' : (ods ms)[i]? = some x2 := e2
          rw [evs_at] at e1'
          rw [ods_at] at e2'
          have amx := (amb.same s3).same s4
          obtain ⟨f1, h1, i1⟩ := amx.get2 e1'
          obtain ⟨f2, h2, i2⟩ := amx.get2 e2'
          have tT : SqT K (upd G3 tp (.tup [x1, x2])) tp [x1, x2] := SqT.of upd_same
          have gD' := s4 _ _ gD
          have ap' := ap.same s4
          have s34 := s3.trans s4
          generalize upd G3 tp (.tup [x1, x2]) = G5 at s4 tT gD' ap' s34 i1 i2 amx
          have tk : (tw b M)[i]? = some (.two b f1 f2) := by rw [tw_at, h1, h2]; rfl
          refine ⟨tp, _, rfl, tT, rfl, x1, _, rfl, x2, _, rfl, rfl, rfl, .str (wT b), rfl, x1, rfl, x2, rfl, by show 3 ≤ sizeLine; decide, fun q hq => ?_⟩
          have s6 := Same.new (o := .tup [.str (wT b), x1, x2]) hq
          have nf : IsF K (upd G5 q (.tup [.str (wT b), x1, x2])) (.ref q) (.two b f1 f2) := .two (SqT.of upd_same) (i1.same s6) (i2.same s6)
          refine ⟨ps, s6 _ _ gD', ?_, fun bb o e => ?_, ps ++ [.ref q], upd_same, ?_⟩
          · have := ap.len
            rw [this, List.length_take, tw_len]
            exact small1000 (by omega)
          · have z := (s34.trans s6) _ _ e
            rw [upd_ne (ne_of_none e hD)]
            exact z
          · have lk : LKp (upd G5 q (.tup [.str (wT b), x1, x2])) (upd (upd G5 q (.tup [.str (wT b), x1, x2])) D (.lst (ps ++ [.ref q]))) := LKp.upd (s6 _ _ gD')
            rw [List.take_add_one, tk]
            exact ((ap'.same s6).lk lk).app (.cons (nf.lk lk) .nil)
        · rintro G3 ⟨s3, ps, gD, ap⟩
          rw [List.take_length] at ap
          have pl := ap.len
          have glv3 := s3 _ _ glvb
          have am3 := amb.same s3
          refine ⟨.ref D, rfl, .ref lv, rfl, .ref D, rfl, D, ps, rfl, .inl (SqL.of gD), 2, (ps.length : Int), rfl, rfl, ?_⟩
          have p2 : 2 * ps.length ≤ ms.length := by rw [pl, tw_len]; omega
          refine ⟨by constructor <;> omega, 2 * (ps.length : Int), rfl, lv, ms, rfl, SqL.of glv3, fun r hr => ?_⟩
          rw [show (2 : Int) * (ps.length : Int) = ((2 * ps.length : Nat) : Int) by omega, cutV_from ms p2]
          have s4 := Same.new (o := .lst (ms.drop (2 * ps.length))) hr
          have gr : (upd G3 r (.lst (ms.drop (2 * ps.length)))) r = some (.lst (ms.drop (2 * ps.length))) := upd_same
          have gD4 := s4 _ _ gD
          have ap4 := ap.same s4
          have am4 := am3.same s4
          generalize upd G3 r (.lst (ms.drop (2 * ps.length))) = G4 at s4 gr gD4 ap4 am4
          refine ⟨D, r, ps, _, rfl, rfl, gD4, gr, ?_, fun q hq => ?_⟩
          · rw [List.length_drop]
            exact Nat.le_trans (show ps.length + (ms.length - 2 * ps.length) ≤ 1000 by omega) (by decide)
          have s5 := Same.new (o := .lst (ps ++ ms.drop (2 * ps.length))) hq
          refine ⟨q, ps ++ ms.drop (2 * ps.length), lvB b M, _, _, _, rfl, ((sG2.trans s3).trans s4).trans s5, upd_same, ?_, LV.step (by omega), ?_⟩
          · rw [lvB_tw, ← pl]
            exact (ap4.app (am4.drop _)).same s5
          · rw [lvB_len]; omega
      · rw [decide_eq_false (show ¬ (1 : Int) < (ms.length : Int) by omega)]
        refine iteF ⟨.ref lv, rfl, ?_⟩
        cases M with
        | nil => exact absurd rfl mne
        | cons f0 M' =>
          cases M' with
          | cons _ _ => rw [ml] at c; exact absurd (by simp) c
          | nil =>
            cases am with
            | @cons x _ _ _ hx hn =>
              cases hn
              exact ⟨lv, [x], 0, x, rfl, rfl, SqL.of glv, rfl, k x f0 G sG hx (LV.done ne)⟩
def spJoin (K : PySem.W.Frag) (b : Bool) : Sp := fun vs H Q _ => ∃ (la : Addr) (ks : List V) (L : List F), vs = [.ref la] ∧ SqL K H la ks ∧ AllF K H ks L ∧ L.length ≤ 400 ∧ ∀ v f H', Same H H' → IsF K H' v f → JnB b L f → Q v H'
theorem ok_all_of {f : Addr} {fd : FuncData} (FF : Fun K "all_of" "all_of" s_all_of f fd) (h_balanced : Has P w K mg base "balanced" 1 a_balanced (spBal K)) : FnOk P w K mg base CX0 2 f fd a_all_of (spJoin K true) := by
  refine FF.ok sc_all_of (fun vs H Q E h => ?_) (fun cdv A outer s0 H vs Q E hr h => ?_)
  · obtain ⟨la, ks, L, rfl, _⟩ := h
    rfl
  · obtain ⟨la, ks, L, rfl, sq, ak, l400, k⟩ := h
    refine ⟨_, (pss_one (ps_ret (pe_callH h_balanced (hr.mono (by omega)) (pa_cons pe_str (pa_cons (pv 0) (pa_cons (pe_tup (pa_cons pe_str pa_nil)) pa_nil)))))), ?_⟩
    refine ⟨.ref la, rfl, by show 1 ≤ sizeLine; decide, fun q hq => ?_⟩
    have s1 := Same.new (o := .tup [.str "true"]) hq
    exact ⟨la, q, true, ks, L, rfl, s1.seq sq, ak.same s1, l400, SqT.of upd_same, fun v f H' s' hf J => k v f H' (s1.trans s') hf J⟩
theorem ok_any_of {f : Addr} {fd : FuncData} (FF : Fun K "any_of" "any_of" s_any_of f fd) (h_balanced : Has P w K mg base "balanced" 1 a_balanced (spBal K)) : FnOk P w K mg base CX0 2 f fd a_any_of (spJoin K false) := by
  refine FF.ok sc_any_of (fun vs H Q E h => ?_) (fun cdv A outer s0 H vs Q E hr h => ?_)
  · obtain ⟨la, ks, L, rfl, _⟩ := h
    rfl
  · obtain ⟨la, ks, L, rfl, sq, ak, l400, k⟩ := h
    refine ⟨_, (pss_one (ps_ret (pe_callH h_balanced (hr.mono (by omega)) (pa_cons pe_str (pa_cons (pv 0) (pa_cons (pe_tup (pa_cons pe_str pa_nil)) pa_nil)))))), ?_⟩
    refine ⟨.ref la, rfl, by show 1 ≤ sizeLine; decide, fun q hq => ?_⟩
    have s1 := Same.new (o := .tup [.str "false"]) hq
    exact ⟨la, q, false, ks, L, rfl, s1.seq sq, ak.same s1, l400, SqT.of upd_same, fun v f H' s' hf J => k v f H' (s1.trans s') hf J⟩
end
end Fw

set_option maxRecDepth 100000
set_option maxHeartbeats 2000000
/-! sorted(set) of tuples within tuples: in one order; keys of more and more rounds -/
namespace Fw
open PySem PySem.Spec PyProof.Rows L2
/-- the order of data -/
def dlt (x y : NestedKey) : Bool := PyProof.Rows.lexLt itemOrd (PySem.W.keyToks x.data) (PySem.W.keyToks y.data)
mutual
theorem eqv_data : ∀ (x y : NestedKey), nmK x = true → nmK y = true → PyData.eqv x.data y.data = true → x = y
  | .num i, .num j, _, _, e => by
    simp only [NestedKey.data, PyData.eqv] at e
    have : i = j := by simpa using e
    rw [this]
  | .num i, .tup ys, _, _, e => by simp [NestedKey.data, PyData.eqv] at e
  | .tup xs, .num j, _, _, e => by simp [NestedKey.data, PyData.eqv] at e
  | .tup xs, .tup ys, hx, hy, e => by
    simp only [NestedKey.data, PyData.eqv] at e
    rw [eqv_datas xs ys hx hy e]
  | .none, _, h, _, _ => by cases h
  | .text _, _, h, _, _ => by cases h
  | .num _, .none, _, h, _ => by cases h
  | .num _, .text _, _, h, _ => by cases h
  | .tup _, .none, _, h, _ => by cases h
  | .tup _, .text _, _, h, _ => by cases h
theorem eqv_datas : ∀ (xs ys : List NestedKey), nmKs xs = true → nmKs ys = true → PyData.eqvAll (NestedKey.datas xs) (NestedKey.datas ys) = true → xs = ys
  | [], [], _, _, _ => rfl
  | [], _ :: _, _, _, e => by simp [NestedKey.datas, PyData.eqvAll] at e
  | _ :: _, [], _, _, e => by simp [NestedKey.datas, PyData.eqvAll] at e
  | x :: xs, y :: ys, hx, hy, e => by
    simp only [nmKs, Bool.and_eq_true] at hx hy
    simp only [NestedKey.datas, PyData.eqvAll, Bool.and_eq_true] at e
    rw [eqv_data x y hx.1 hy.1 e.1, eqv_datas xs ys hx.2 hy.2 e.2]
end
theorem toks_inj {x y : NestedKey} (hx : nmK x = true) (hy : nmK y = true) (al : PySem.W.alike x.data y.data = true) (e : PySem.W.keyToks x.data = PySem.W.keyToks y.data) : x = y := by
  refine eqv_data x y hx hy ?_
  cases c : PyData.eqv x.data y.data with
  | true => rfl
  | false =>
    have := (PySem.W.toks_eqv x.data y.data al).2 c [] [.inl 0]
    rw [e, PySem.W.lex_pre] at this
    rw [show PyProof.Rows.lexLt itemOrd (PySem.W.keyToks y.data) (PySem.W.keyToks y.data) = false from lex_irrefl _] at this
    cases this
theorem dlt_anti {x y : NestedKey} (hx : nmK x = true) (hy : nmK y = true) (al : PySem.W.alike x.data y.data = true) (h1 : dlt x y = false) (h2 : dlt y x = false) : x = y :=
  toks_inj hx hy al (lex_total (O := itemOrd) _ _ h1 h2)
section
variable {P : Program} {w : World} {A : Around} {E : Value → Shared → Prop} {s : Shared} {a : Addr} {L : List EN} {es : Array (Int × Value)} {ep : Nat} {t : SetTable}
open PySem.W in
theorem sort_deepO {b : Addr} {vs : List Value} {L : List EN} {Q : Value → Shared → Prop} (hu : A.units + 16 < cLine) (hb : s.heap.get? b = some (seqObj "list" vs.toArray 0)) (few : L.length < 77) (pm : vs.Perm (L.map fun e => Value.ref e.1)) (rd : ∀ e ∈ L, Reads s.heap (.ref e.1) e.2.data [])
    (low : ∀ e ∈ L, e.2.data.depth ≤ 8) (al : ∀ e ∈ L, ∀ e' ∈ L, alike e.2.data e'.2.data = true) (ne : ∀ e ∈ L, ∃ x r, e.2.data = .tuple (x :: r))
    (q : ∀ (out : List Value) (L' : List EN), L'.Perm L → out = L'.map (fun e => Value.ref e.1) → L'.Pairwise (fun e e' => dlt e'.2 e.2 = false) → Q .none { s with heap := sortedHeap s.heap b vs out.toArray }) : wpAny (model P w) A (call (.builtin "list.sort") [.ref b]) Q E s := by
  obtain ⟨L', pL, rfl⟩ := perm_map_ex pm L rfl
  have m : ∀ {e}, e ∈ L' → e ∈ L := fun h => pL.mem_iff.mp h
  have each : ∀ M : List EN, (∀ e ∈ M, e ∈ L) → EachIs (fun v (e : EN) => v = Value.ref e.1) (M.map fun e => Value.ref e.1) M := fun M => by
    induction M with
    | nil => intro _; exact .nil
    | cons e M ih => exact fun h => .cons rfl (ih fun x hx => h x (List.mem_cons_of_mem _ hx))
  have E1 := each L' fun e he => m he
  refine list_sort_data (bs := L') (enc := fun e => e.2.data) (R := fun v e => v = Value.ref e.1) hb E1 ?_ ?_ ?_ (by rw [pL.length_eq, sizeLine_eq]; omega) (fun e he => by have := low e (m he); omega) fun out hl eo => ?_
  · exact (each_mem E1).mono fun v e ⟨z, he⟩ => ⟨[], by rw [z]; exact rd e (m he), fun h => by cases h⟩
  · intro d hd d' hd'
    obtain ⟨e, he, rfl⟩ := List.mem_map.mp hd
    obtain ⟨e', he', rfl⟩ := List.mem_map.mp hd'
    exact al e (m he) e' (m he')
  · refine .inl fun d hd => ?_
    obtain ⟨e, he, rfl⟩ := List.mem_map.mp hd
    exact ne e (m he)
  · have : out = (L'.mergeSort (dataLe false fun e => e.2.data)).map fun e => Value.ref e.1 := by
      clear q hl
      generalize L'.mergeSort (dataLe false fun e => e.2.data) = M at eo
      induction eo with
      | nil => rfl
      | cons h _ ih => rw [List.map_cons, ← ih, h]
    refine q out _ ((List.mergeSort_perm _ _).trans pL) this ?_
    exact (sort_pairwise (sortLe_total (listOrd itemOrd) false fun e : EN => keyToks e.2.data) L').imp fun {e e'} z => by
      have z' : (!PyProof.Rows.lexLt itemOrd (keyToks e'.2.data) (keyToks e.2.data)) = true := z
      exact Bool.not_eq_true' _ ▸ z'
end
section
variable {X : Cx}
/-- sorted(set), tuples within tuples that are alike: in order -/
def rSortN (K : PySem.W.Frag) (w : World) : List V → Hp → VK → Prop := fun vs H Q => ∃ (a : Addr) (L : List EN), vs = [V.ref a] ∧ H a = some (SetNO w a L) ∧ (∀ e ∈ L, KIs K H (.ref e.1) e.2) ∧ (∀ e ∈ L, e.2.data.depth ≤ 8) ∧ (∀ e ∈ L, ∀ e' ∈ L, PySem.W.alike e.2.data e'.2.data = true) ∧
  (∀ e ∈ L, ∃ x r, e.2.data = .tuple (x :: r)) ∧ ∀ (L' : List EN) p, L'.Perm L → L'.Pairwise (fun e e' => dlt e'.2 e.2 = false) → H p = none → Q (.ref p) (upd H p (.lst (L'.map fun e => V.ref e.1)))
theorem cr_sortN (quiet : X.calm = true) (hu : X.A.units + 64 < cLine) : CallR X (.builtin "sorted") (rSortN X.K X.w) := by
  intro pins s σ H vs us Q I r h
  obtain ⟨a, L, rfl, hD, kk, low, al, ne, q⟩ := h
  rw [Vals.ref1 r]
  have one : ∀ e ∈ L, ∀ e' ∈ L, e.1 = e'.1 → e.2 = e'.2 := fun e he e' he' z => by
    have k1 := kis_real (s := s) I (kk e he) (u := .ref e.1) rfl
    have k2 := kis_real (s := s) I (kk e' he') (u := .ref e'.1) rfl
    rw [← z] at k2
    exact NestedIs.inj _ _ _ k1 k2
  refine sorted_core (fun out => ∃ L'' : List EN, L''.Perm L ∧ out = L''.map (fun e => Value.ref e.1) ∧ L''.Pairwise fun e e' => dlt e'.2 e.2 = false) quiet I hD (fun s1 b vs Q1 hb kp pm few n => ?_) fun L' p s' pm oo hn I' => ⟨.ref p, _, I', rfl, q L' p pm ?_ hn⟩
  · exact sort_deepO (by simp [Around.in1]; omega) hb few pm (fun e he => reads_mv (fun c o z => (kp c o z).2) (kis_reads I (kk e he) rfl)) low al ne fun out L'' pL eo up => n out (by rw [eo]; exact (pL.map _).trans pm.symm) ⟨L'', pL, eo, up⟩
  · obtain ⟨L'', pL, eo, up⟩ := oo
    have : L' = L'' := by
      have key : ∀ (xs ys : List EN), (∀ e ∈ xs, e ∈ L) → (∀ e ∈ ys, e ∈ L) → xs.map (fun e => Value.ref e.1) = ys.map (fun e => Value.ref e.1) → xs = ys := fun xs => by
        induction xs with
        | nil => intro ys _ _ e; exact (List.map_eq_nil_iff.mp e.symm).symm
        | cons x xs ih =>
          intro ys hx hy e
          cases ys with
          | nil => cases e
          | cons y ys =>
            rw [List.map_cons, List.map_cons] at e
            obtain ⟨e1, e2⟩ := List.cons.inj e
            have e1' := Value.ref.inj e1
            have e3 := one x (hx x List.mem_cons_self) y (hy y List.mem_cons_self) e1'
            rw [ih ys (fun z hz => hx z (List.mem_cons_of_mem _ hz)) (fun z hz => hy z (List.mem_cons_of_mem _ hz)) e2]
            rw [Prod.ext e1' e3]
      exact key L' L'' (fun e he => pm.mem_iff.mp he) (fun e he => pL.mem_iff.mp he) eo
    rw [this]
    exact up
end
/-- l.index(x), keys of whole numbers and tuples, deeper -/
def rIndexM (K : PySem.W.Frag) : V → List V → Hp → VK → Prop := fun x xs H Q => ∃ (a : Addr) (y : V) (k : NestedKey) (vs : List V) (ks : List NestedKey), x = V.ref a ∧ xs = [y] ∧ SqL K H a vs ∧ KAll K H vs ks ∧ KIs K H y k ∧ k ∈ ks ∧ k.depth ≤ 12 ∧ Q (.int ((ks.idxOf k : Nat) : Int)) H
section
variable {X : Cx}
theorem mt_indexM (hu : X.A.units + 64 < cLine) : MtR X "list.index" (rIndexM X.K) := by
  intro pins s σ H x xs v us Q I rx rxs h
  obtain ⟨a, y, k, vs, ks, rfl, rfl, hl, ka, ky, mem, low, q⟩ := h
  cases rx
  obtain ⟨u, rfl, ru⟩ := Vals.one rxs
  obtain ⟨its, rv, pl, hz⟩ := I.list hl
  have na := kall_real I ka rv
  have hn := NestedAll.length _ _ na
  have hv := rv.length
  exact SeqAt.call_list_index pl.isList (.nested na (kis_real I ky ru) (by show _ + 1 + _ < _; omega)) (by omega) mem ⟨.int _, H, I.tok _, ⟨_, rfl⟩, q⟩
end
/-! keys as data -/
mutual
theorem dp_key {K : PySem.W.Frag} {H : Hp} : ∀ {v : V} {k : NestedKey}, KIs K H v k → Dp K H v k.data
  | _, _, .int i => .int i
  | _, _, .str x => .str x
  | _, _, .tup h all => .tup h (dp_keys all)
theorem dp_keys {K : PySem.W.Frag} {H : Hp} : ∀ {vs : List V} {ks : List NestedKey}, KAll K H vs ks → DpAll K H vs (NestedKey.datas ks)
  | _, _, .nil => .nil
  | _, _, .cons h r => .cons (dp_key h) (dp_keys r)
end
mutual
theorem nm_lay : ∀ k : NestedKey, nmK k = true → k.data.canLay0 = true ∧ k.data.plain = true
  | .num i, _ => ⟨rfl, rfl⟩
  | .tup ks, h => by
    simp only [NestedKey.data, PyData.canLay0, PyData.plain]
    exact nms_lay ks h
  | .none, h => by cases h
  | .text _, h => by cases h
theorem nms_lay : ∀ ks : List NestedKey, nmKs ks = true → PyData.canLayAll0 (NestedKey.datas ks) = true ∧ PyData.plainAll (NestedKey.datas ks) = true
  | [], _ => ⟨rfl, rfl⟩
  | k :: ks, h => by
    simp only [nmKs, Bool.and_eq_true] at h
    obtain ⟨a, b⟩ := nm_lay k h.1
    obtain ⟨c, d⟩ := nms_lay ks h.2
    simp only [NestedKey.datas, PyData.canLayAll0, PyData.plainAll, a, b, c, d, Bool.and_self, and_self]
end
theorem data_low : ∀ (n : Nat) (k : NestedKey), k.depth ≤ n → k.data.depth ≤ n
  | n, .none, _ => by simp only [NestedKey.data, PyData.depth]; omega
  | n, .num i, _ => by simp only [NestedKey.data, PyData.depth]; omega
  | n, .text x, _ => by simp only [NestedKey.data, PyData.depth]; omega
  | 0, .tup ks, h => by simp only [NestedKey.depth] at h; omega
  | n + 1, .tup ks, h => by
    simp only [NestedKey.depth] at h
    rw [data_tup]
    simp only [PyData.depth]
    have : ∀ ks : List NestedKey, NestedKey.depthAll ks ≤ n → PyData.depthAll (ks.map NestedKey.data) ≤ n := fun ks => by
      induction ks with
      | nil => intro _; simp only [List.map_nil, PyData.depthAll]; omega
      | cons k ks ih =>
        intro h
        simp only [NestedKey.depthAll] at h
        simp only [List.map_cons, PyData.depthAll]
        have h1 := data_low n k (by omega)
        have h2 := ih (by omega)
        omega
    have := this ks (by omega)
    omega
theorem datas_low {n : Nat} {ks : List NestedKey} (h : ∀ k ∈ ks, k.depth ≤ n) : PyData.depthAll (NestedKey.datas ks) ≤ n := by
  induction ks with
  | nil => simp only [NestedKey.datas, PyData.depthAll]; omega
  | cons k ks ih =>
    simp only [NestedKey.datas, PyData.depthAll]
    have h1 := data_low n k (h k List.mem_cons_self)
    have h2 := ih fun x hx => h x (List.mem_cons_of_mem _ hx)
    omega
theorem shaped_key {k : NestedKey} (h : nmK k = true) (d : k.depth ≤ 12) : SeqAt.shaped k.data = true := by
  unfold SeqAt.shaped
  rw [(nm_lay k h).1, Bool.true_and, decide_eq_true_eq]
  have := data_low 12 k d
  omega
theorem nms_of {ks : List NestedKey} (h : ∀ k ∈ ks, nmK k = true) : nmKs ks = true := by
  induction ks with
  | nil => rfl
  | cons k ks ih =>
    simp only [nmKs, Bool.and_eq_true]
    exact ⟨h k List.mem_cons_self, ih fun x hx => h x (List.mem_cons_of_mem _ hx)⟩
theorem shaped_keys {ks : List NestedKey} (h : ∀ k ∈ ks, nmK k = true) (d : ∀ k ∈ ks, k.depth ≤ 12) : SeqAt.shaped (.list (NestedKey.datas ks)) = true := by
  have l : (PyData.list (NestedKey.datas ks)).canLay0 = true := by
    simp only [PyData.canLay0]
    exact (nms_lay ks (nms_of h)).1
  have := datas_low d
  have e : (PyData.list (NestedKey.datas ks)).depth ≤ 64 := by
    simp only [PyData.depth]
    omega
  unfold SeqAt.shaped
  rw [l, decide_eq_true e]
  rfl
theorem any_key {k : NestedKey} (hk : nmK k = true) : ∀ {ks : List NestedKey}, (∀ x ∈ ks, nmK x = true) → (NestedKey.datas ks).any (fun z => PyData.eqv z k.data) = decide (k ∈ ks)
  | [], _ => rfl
  | x :: xs, h => by
    have ih := any_key hk (ks := xs) fun y hy => h y (List.mem_cons_of_mem _ hy)
    have hx := h x List.mem_cons_self
    rw [NestedKey.datas, List.any_cons, ih]
    by_cases e : x = k
    · subst e
      rw [SeqAt.eqv_refl_plain _ (nm_lay x hx).2, decide_eq_true List.mem_cons_self, Bool.true_or]
    · have : PyData.eqv x.data k.data = false := by
        cases c : PyData.eqv x.data k.data with
        | false => rfl
        | true => exact absurd (eqv_data x k hx hk c) e
      rw [this, Bool.false_or]
      exact decide_eq_decide.mpr ⟨fun m => List.mem_cons_of_mem _ m, fun m => (List.mem_cons.mp m).resolve_left fun z => e z.symm⟩
/-! ### keys of r rounds -/
def KdL : Nat → NestedKey → Prop
  | 0, k => ∃ ns, k = fK ns
  | r + 1, k => ∃ f b0 b1 b2, k = sgK (fK f) b0 b1 b2 ∧ (∀ x ∈ b0, KdL r x) ∧ (∀ x ∈ b1, KdL r x) ∧ ∀ x ∈ b2, KdL r x
theorem fK_kd (ns : List Int) : Kd false (fK ns) := ⟨ns, rfl⟩
theorem alike_kdL : ∀ {r : Nat} {x y : NestedKey}, KdL r x → KdL r y → PySem.W.alike x.data y.data = true
  | 0, x, y, hx, hy => alike_kd (b := false) hx hy
  | r + 1, _, _, ⟨f, a, c, d, rfl, ha, hc, hd⟩, ⟨f', a', c', d', rfl, ha', hc', hd'⟩ => by
    have t : ∀ {xs ys : List NestedKey}, (∀ x ∈ xs, KdL r x) → (∀ x ∈ ys, KdL r x) → PySem.W.alike (NestedKey.tup xs).data (NestedKey.tup ys).data = true := fun hx hy => alike_tup fun x mx y my => alike_kdL (hx x mx) (hy y my)
    unfold sgK
    rw [data_tup, data_tup]
    simp only [List.map_cons, List.map_nil]
    unfold PySem.W.alike PySem.W.alikeAll PySem.W.alikeAll
    rw [alike_kd (fK_kd f) (fK_kd f'), alike_tup (ks := [.tup a, .tup c, .tup d]) (ls := [.tup a', .tup c', .tup d'])]
    · rfl
    · intro x hx y hy
      simp only [List.mem_cons, List.not_mem_nil, or_false] at hx hy
      rcases hx with rfl | rfl | rfl <;> rcases hy with rfl | rfl | rfl
      all_goals first
        | exact t ha ha' | exact t ha hc' | exact t ha hd'
        | exact t hc ha' | exact t hc hc' | exact t hc hd'
        | exact t hd ha' | exact t hd hc' | exact t hd hd'
theorem depthAll_le {n : Nat} : ∀ {xs : List NestedKey}, (∀ x ∈ xs, x.depth ≤ n) → NestedKey.depthAll xs ≤ n
  | [], _ => by simp only [NestedKey.depthAll]; omega
  | x :: xs, h => by
    simp only [NestedKey.depthAll]
    have := h x List.mem_cons_self
    have := depthAll_le (xs := xs) fun y hy => h y (List.mem_cons_of_mem _ hy)
    omega
theorem kdL_low : ∀ {r : Nat} {x : NestedKey}, KdL r x → x.depth ≤ 3 * r + 1
  | 0, x, h => kd_low (b := false) h
  | r + 1, _, ⟨f, a, c, d, rfl, ha, hc, hd⟩ => by
    have h0 := kd_low (fK_kd f)
    have h1 := depthAll_le fun x hx => kdL_low (ha x hx)
    have h2 := depthAll_le fun x hx => kdL_low (hc x hx)
    have h3 := depthAll_le fun x hx => kdL_low (hd x hx)
    unfold sgK
    simp only [NestedKey.depth, NestedKey.depthAll] at h0 ⊢
    omega
theorem kdL_nm : ∀ {r : Nat} {x : NestedKey}, KdL r x → nmK x = true
  | 0, x, h => kd_nm (b := false) h
  | r + 1, _, ⟨f, a, c, d, rfl, ha, hc, hd⟩ => by
    refine tup_nm fun x hx => ?_
    simp only [List.mem_cons, List.not_mem_nil, or_false] at hx
    rcases hx with rfl | rfl
    · exact kd_nm (fK_kd f)
    · refine tup_nm fun x hx => ?_
      simp only [List.mem_cons, List.not_mem_nil, or_false] at hx
      rcases hx with rfl | rfl | rfl
      · exact tup_nm fun x hx => kdL_nm (ha x hx)
      · exact tup_nm fun x hx => kdL_nm (hc x hx)
      · exact tup_nm fun x hx => kdL_nm (hd x hx)
/-- the order at each round -/
def ltL : Nat → NestedKey → NestedKey → Bool
  | 0, x, y => HT.lexLt (keyL x) (keyL y)
  | _ + 1, x, y => dlt x y
theorem ltL_anti {r : Nat} {x y : NestedKey} (hx : KdL r x) (hy : KdL r y) (h1 : ltL r x y = false) (h2 : ltL r y x = false) : x = y := by
  cases r with
  | zero => exact Kd.inj (b := false) hx hy (lexL_anti h1 h2)
  | succ r => exact dlt_anti (kdL_nm hx) (kdL_nm hy) (alike_kdL hx hy) h1 h2
structure CnL (r : Nat) (us src : List NestedKey) : Prop where
  nd : us.Nodup
  mem : ∀ x, x ∈ us ↔ x ∈ src
  up : us.Pairwise fun x y => ltL r y x = false
theorem CnL.one {r : Nat} {us vs xs ys : List NestedKey} (h : CnL r us xs) (k : CnL r vs ys) (hx : ∀ x ∈ xs, KdL r x) (e : ∀ x, x ∈ xs ↔ x ∈ ys) : us = vs := by
  have p : us.Perm vs := (List.perm_ext_iff_of_nodup h.nd k.nd).mpr fun x => by rw [h.mem, k.mem, e]
  refine List.Perm.eq_of_pairwise (le := fun x y => ltL r y x = false) (fun x y hx' hy' h1 h2 => ?_) h.up k.up p
  exact ltL_anti (hx x ((h.mem x).mp hx')) (hx y ((e y).mpr ((k.mem y).mp hy'))) h2 h1
theorem CnL.iff {r : Nat} {us vs xs ys : List NestedKey} (h : CnL r us xs) (k : CnL r vs ys) (hx : ∀ x ∈ xs, KdL r x) : us = vs ↔ ∀ x, x ∈ xs ↔ x ∈ ys :=
  ⟨fun e x => by rw [← h.mem, ← k.mem, e], h.one k hx⟩
/-- at first alike, and each step's ends alike: alike a round on -/
theorem Lk.of_steps {W : Wd} : ∀ {r s t}, Lk W 0 s t → (∀ l : Int, (∀ y ∈ W.beh (s : Int) l, ∃ z ∈ W.beh (t : Int) l, Lk W r y.toNat z.toNat) ∧ (∀ z ∈ W.beh (t : Int) l, ∃ y ∈ W.beh (s : Int) l, Lk W r y.toNat z.toNat)) → Lk W (r + 1) s t
  | 0, s, t, h, k => ⟨h, k⟩
  | r + 1, s, t, h, k => ⟨Lk.of_steps h fun l => ⟨fun y hy => ((k l).1 y hy).imp fun z q => ⟨q.1, q.2.1⟩, fun z hz => ((k l).2 z hz).imp fun y q => ⟨q.1, q.2.1⟩⟩, k⟩
theorem sg_iffL {W : Wd} {r : Nat} {kf : Nat → NestedKey} {B : Nat → Nat → List NestedKey} (hin : W.In) (lb : ∀ p ∈ W.steps, 0 ≤ p.2.1 ∧ p.2.1 < 3) (kd : ∀ s, s < W.n → KdL r (kf s)) (R : ∀ s t, s < W.n → t < W.n → (kf s = kf t ↔ Lk W r s t))
    (C : ∀ s l, s < W.n → l < 3 → CnL r (B s l) (srcK W kf s (l : Nat))) {s t : Nat} (hs : s < W.n) (ht : t < W.n) : sgK (fK (W.at (s : Int))) (B s 0) (B s 1) (B s 2) = sgK (fK (W.at (t : Int))) (B t 0) (B t 1) (B t 2) ↔ Lk W (r + 1) s t := by
  have kds : ∀ s l, ∀ x ∈ srcK W kf s l, KdL r x := fun s l x hx => by
    obtain ⟨y, hy, rfl⟩ := List.mem_map.mp hx
    have := hin.beh hy
    exact kd _ (by omega)
  have ms : ∀ s t : Nat, ∀ l : Int, s < W.n → t < W.n → ((∀ x, x ∈ srcK W kf s l ↔ x ∈ srcK W kf t l) ↔ (∀ y ∈ W.beh (s : Int) l, ∃ z ∈ W.beh (t : Int) l, Lk W r y.toNat z.toNat) ∧ (∀ z ∈ W.beh (t : Int) l, ∃ y ∈ W.beh (s : Int) l, Lk W r y.toNat z.toNat)) := fun s t l hs ht => by
    constructor
    · intro h
      refine ⟨fun y hy => ?_, fun z hz => ?_⟩
      · obtain ⟨z, hz, e⟩ := List.mem_map.mp ((h _).mp (List.mem_map.mpr ⟨y, hy, rfl⟩))
        have hy' := hin.beh hy
        have hz' := hin.beh hz
        exact ⟨z, hz, (R _ _ (by omega) (by omega)).mp e.symm⟩
      · obtain ⟨y, hy, e⟩ := List.mem_map.mp ((h _).mpr (List.mem_map.mpr ⟨z, hz, rfl⟩))
        have hy' := hin.beh hy
        have hz' := hin.beh hz
        exact ⟨y, hy, (R _ _ (by omega) (by omega)).mp e⟩
    · rintro ⟨h1, h2⟩ x
      constructor
      · intro hx
        obtain ⟨y, hy, rfl⟩ := List.mem_map.mp hx
        obtain ⟨z, hz, e⟩ := h1 y hy
        have hy' := hin.beh hy
        have hz' := hin.beh hz
        exact List.mem_map.mpr ⟨z, hz, ((R _ _ (by omega) (by omega)).mpr e).symm⟩
      · intro hx
        obtain ⟨z, hz, rfl⟩ := List.mem_map.mp hx
        obtain ⟨y, hy, e⟩ := h2 z hz
        have hy' := hin.beh hy
        have hz' := hin.beh hz
        exact List.mem_map.mpr ⟨y, hy, (R _ _ (by omega) (by omega)).mpr e⟩
  rw [sgK_inj, (C s 0 hs (by decide)).iff (C t 0 ht (by decide)) (kds s _), (C s 1 hs (by decide)).iff (C t 1 ht (by decide)) (kds s _), (C s 2 hs (by decide)).iff (C t 2 ht (by decide)) (kds s _),
    ms s t _ hs ht, ms s t _ hs ht, ms s t _ hs ht]
  constructor
  · rintro ⟨h, h0, h1, h2⟩
    refine Lk.of_steps (fK_inj h) fun l => ?_
    by_cases c : 0 ≤ l ∧ l < 3
    · obtain rfl | rfl | rfl : l = 0 ∨ l = 1 ∨ l = 2 := by omega
      · exact h0
      · exact h1
      · exact h2
    · have no : ∀ {s : Int} {y : Int}, y ∉ W.beh s l := fun {s y} hy => c (lb _ (hin.beh hy).2.2)
      exact ⟨fun y hy => absurd hy no, fun z hz => absurd hz no⟩
  · rintro ⟨h, k⟩
    exact ⟨congrArg fK (Lk.pred (Nat.zero_le r) h), k _, k _, k _⟩
end Fw

set_option maxRecDepth 100000
set_option maxHeartbeats 8000000
namespace Fw
open PySem PySem.Spec PyProof.Rows L2 GxR
/-- what the states are told by, after r rounds -/
structure NowI (K : PySem.W.Frag) (H : Hp) (W : Wd) (r : Nat) (l : Addr) (vf : Nat → V) (kf : Nat → NestedKey) : Prop where
  at_ : H l = some (.lst ((List.range W.n).map vf))
  ks : ∀ s, s < W.n → KIs K H (vf s) (kf s)
  kd : ∀ s, s < W.n → KdL r (kf s)
  rel : ∀ s t, s < W.n → t < W.n → (kf s = kf t ↔ Lk W r s t)
theorem NowI.same {K : PySem.W.Frag} {H H' : Hp} {W : Wd} {r : Nat} {l : Addr} {vf : Nat → V} {kf : Nat → NestedKey} (s : Same H H') (h : NowI K H W r l vf kf) : NowI K H' W r l vf kf :=
  ⟨s _ _ h.at_, fun t ht => (h.ks t ht).same s, h.kd, h.rel⟩
theorem rmap_at {α : Type} {f : Nat → α} {n i : Nat} (h : i < n) : ((List.range n).map f)[i]? = some (f i) := by rw [List.getElem?_map, List.getElem?_range h]; rfl
theorem kall_map {K : PySem.W.Frag} {H : Hp} {α : Type} {f : α → V} {g : α → NestedKey} : ∀ {ys : List α}, (∀ y ∈ ys, KIs K H (f y) (g y)) → KAll K H (ys.map f) (ys.map g)
  | [], _ => .nil
  | y :: ys, h => .cons (h y List.mem_cons_self) (kall_map fun z hz => h z (List.mem_cons_of_mem _ hz))
theorem KAll.length {K : PySem.W.Frag} {H : Hp} : ∀ {vs : List V} {ks : List NestedKey}, KAll K H vs ks → vs.length = ks.length
  | _, _, .nil => rfl
  | _, _, .cons _ r => by rw [List.length_cons, List.length_cons, KAll.length r]
theorem beh_len (W : Wd) (s l : Int) : (W.beh s l).length ≤ W.steps.length := by
  unfold Wd.beh
  rw [List.length_map]
  exact List.length_filter_le _ _
/-- the first places of keys -/
theorem first_keys {n : Nat} {R : Nat → Nat → Prop} (E : Eqv n R) {c : Nat → NestedKey} (h : ∀ s t, s < n → t < n → (c s = c t ↔ R s t)) :
    (∀ i, i < n → (c i ∈ (ldrs R i).map c ↔ ldr R i ≠ i)) ∧ ∀ s, s < n → c s ∈ (ldrs R n).map c ∧ ((ldrs R n).map c).idxOf (c s) = numC R s := by
  refine ⟨fun i hi => ?_, fun s hs => ?_⟩
  · have o := ldr_ok E hi
    rw [List.mem_map]
    constructor
    · rintro ⟨t, ht, e⟩ z
      have m := mem_ldrs.mp ht
      have r := (h t i (by omega) hi).mp e
      have := o.2.2 t r (by omega)
      omega
    · intro ne
      have l : ldr R i < i := by omega
      exact ⟨ldr R i, mem_ldrs.mpr ⟨l, ldr_ldr E hi⟩, (h _ _ (by omega) hi).mpr o.2.1⟩
  · have at_ := num_at E hs
    have lt := num_lt E hs
    have ln := ldr_lt E hs
    have o := ldr_ok E hs
    have e1 : c (ldr R s) = c s := (h _ _ ln hs).mpr o.2.1
    have at2 : ((ldrs R n).map c)[numC R s]? = some (c s) := by rw [List.getElem?_map, at_, Option.map_some, e1]
    refine ⟨List.mem_of_getElem? at2, ?_⟩
    have mm := List.mem_of_getElem? at2
    have il : ((ldrs R n).map c).idxOf (c s) < ((ldrs R n).map c).length := List.idxOf_lt_length_iff.mpr mm
    have at3 : ((ldrs R n).map c)[((ldrs R n).map c).idxOf (c s)]? = some (c s) := by
      rw [List.getElem?_eq_getElem il, List.getElem_idxOf]
    rw [List.getElem?_map] at at3
    cases e : (ldrs R n)[((ldrs R n).map c).idxOf (c s)]? with
    | none => rw [e] at at3; cases at3
    | some l =>
      rw [e] at at3
      have e2 : c l = c s := Option.some.inj at3
      have ml := mem_ldrs.mp (List.mem_of_getElem? e)
      have r := (h l s ml.1 hs).mp e2
      rw [← num_of E e]
      exact (num_eq E ml.1 hs).mpr r
theorem KdL.tup {r : Nat} {k : NestedKey} (h : KdL r k) : ∃ zs, k = .tup zs := by
  cases r with
  | zero => obtain ⟨ns, rfl⟩ := h; exact ⟨_, rfl⟩
  | succ r => obtain ⟨_, _, _, _, rfl, _⟩ := h; exact ⟨_, rfl⟩
theorem kall_enL {K : PySem.W.Frag} {H : Hp} : ∀ {vs : List V} {ks : List NestedKey}, KAll K H vs ks → (∀ k ∈ ks, ∃ zs, k = .tup zs) → ∃ es : List EN, vs = es.map (fun e => V.ref e.1) ∧ ks = es.map (·.2) ∧ ∀ e ∈ es, KIs K H (.ref e.1) e.2
  | _, _, .nil, _ => ⟨[], rfl, rfl, fun e h => by cases h⟩
  | _, _, .cons (k := k) h r, kd => by
    obtain ⟨es, e1, e2, e3⟩ := kall_enL r fun k hk => kd k (List.mem_cons_of_mem _ hk)
    obtain ⟨ns, rfl⟩ := kd k List.mem_cons_self
    cases h with
    | @tup a xs ks hs ha =>
      refine ⟨(a, .tup ns) :: es, by rw [e1]; rfl, by rw [e2]; rfl, fun e he => ?_⟩
      rcases List.mem_cons.mp he with h | h
      · rw [h]; exact .tup hs ha
      · exact e3 e h
section
variable {P : Program} {w : World} {K : PySem.W.Frag} {mg : Str → Option Value} {base : Heap} {C J B WC NC RC cA tA : Addr}
/-- tuple(sorted(set(l))) -/
theorem inner_setL {H : Hp} {Q : VK} {l : Addr} {zs : List V} {ms : List NestedKey} {r : Nat} (hl : SqL K H l zs) (ka : KAll K H zs ms) (kd : ∀ k ∈ ms, KdL r k) (r2 : r ≤ 2) (few : ms.length ≤ 76)
    (k : ∀ (T : Addr) (us : List V) (ns : List NestedKey) (H' : Hp), Same H H' → H T = none → H' T = some (.tup us) → KAll K H' us ns → CnL r ns ms → Q (.ref T) H') :
    rSetTN K w [.ref l] H fun v H1 => rOr (rSortF K w) (rSortN K w) [v] H1 fun u H2 => rTupOf K [u] H2 Q := by
  obtain ⟨es, rfl, rfl, ke⟩ := kall_enL ka fun k hk => (kd k hk).tup
  have kdE : ∀ e ∈ es, KdL r e.2 := fun e he => kd e.2 (List.mem_map.mpr ⟨e, he, rfl⟩)
  have kn : ∀ e ∈ es, KN K H e := fun e he => ⟨ke e he, by have := kdL_low (kdE e he); omega, kdL_nm (kdE e he)⟩
  refine ⟨l, es, rfl, hl, kn, by rw [List.length_map] at few; omega, fun a L ha sub all nd => ?_⟩
  have fin : ∀ (L' : List EN) (p : Addr), L'.Perm L → L'.Pairwise (fun e e' => ltL r e'.2 e.2 = false) → (upd H a (SetNO w a L)) p = none → rTupOf K [.ref p] (upd (upd H a (SetNO w a L)) p (.lst (L'.map fun e => V.ref e.1))) Q := fun L' p pm up hp => by
    refine ⟨p, _, rfl, .inl ⟨SqL.of upd_same, fun T hT => ?_⟩⟩
    have s1 := Same.new (o := SetNO w a L) ha
    have s2 := Same.new (o := .lst (L'.map fun e => V.ref e.1)) hp
    have s3 := Same.new (o := .tup (L'.map fun e => V.ref e.1)) hT
    have s := (s1.trans s2).trans s3
    have hT0 : H T = none := by
      cases e : H T with
      | none => rfl
      | some u => rw [s2 _ _ (s1 _ _ e)] at hT; cases hT
    refine k T _ (L'.map (·.2)) _ s hT0 upd_same (kall_of fun e he => (ke e (sub e (pm.mem_iff.mp he))).same s) ⟨(pm.map _).nodup_iff.mpr nd, fun x => ?_, ?_⟩
    · rw [(pm.map (·.2)).mem_iff]
      constructor
      · intro hx
        obtain ⟨e, he, rfl⟩ := List.mem_map.mp hx
        exact List.mem_map.mpr ⟨e, sub e he, rfl⟩
      · intro hx
        obtain ⟨e, he, rfl⟩ := List.mem_map.mp hx
        exact all e he
    · rw [List.pairwise_map]
      exact up
  cases r with
  | zero =>
    refine .inl ⟨a, L, fun e => keyL e.2, rfl, upd_same, fun e he => ?_, fun L' p pm up hp => fin L' p pm up hp⟩
    have he' := sub e he
    obtain ⟨ns, e2⟩ := kdE e he'
    have kk := (ke e he').same (Same.new (o := SetNO w a L) ha)
    show SqT K _ e.1 ((keyL e.2).map V.int) ∧ _ ∧ e.2 = fK (keyL e.2)
    refine ⟨?_, kk, ?_⟩
    · rw [e2] at kk ⊢
      rw [keyL_fK]
      exact kis_fK_inv kk
    · rw [e2, keyL_fK]
  | succ r =>
    refine .inr ⟨a, L, rfl, upd_same, fun e he => (ke e (sub e he)).same (Same.new ha), fun e he => data_depth _ _ (kn e (sub e he)).low, fun e he e' he' => alike_kdL (kdE e (sub e he)) (kdE e' (sub e' he')), fun e he => ?_, fun L' p pm up hp => fin L' p pm up hp⟩
    obtain ⟨f, b0, b1, b2, e1, _⟩ := kdE e (sub e he)
    refine ⟨(fK f).data, [(NestedKey.tup [.tup b0, .tup b1, .tup b2]).data], ?_⟩
    rw [e1]
    unfold sgK
    rw [data_tup]
    rfl
def spLRo (K : PySem.W.Frag) : Sp := fun vs H Q _ => ∃ (wa sa pa : Addr) (fas pas : List Addr) (W : Wd) (m : Nat), vs = [.ref wa, .int (m : Nat)] ∧ WAx H wa sa pa fas pas W ∧ W.In ∧ (∀ p ∈ W.steps, 0 ≤ p.2.1 ∧ p.2.1 < 3) ∧ W.n ≤ 60 ∧ W.steps.length ≤ 76 ∧ m ≤ 3 ∧
  ∀ (nt : Addr) H', Same H H' → H' nt = some (.tup ((clsN (Lk W m) W.n).map V.int)) → Q (.ref nt) H'
theorem ok_law_rounds {f : Addr} {fd : FuncData} (FF : Fun K "_law_rounds" "_law_rounds" s_law_rounds f fd) (T : Txt K mg C J B) (h_law_behind : Has P w K mg base "_law_behind" 1 a_law_behind (spBehind K)) : FnOk P w K mg base CX0 2 f fd a_law_rounds (spLRo K) := by
  refine FF.ok sc_law_rounds (fun vs H Q E h => ?_) (fun cdv A outer s0 H vs Q E hr h => ?_)
  · obtain ⟨wa, sa, pa, fas, pas, W, m, rfl, _⟩ := h
    rfl
  · obtain ⟨wa, sa, pa, fas, pas, W, m, rfl, X, hin, lb, n60, st, m3, k⟩ := h
    refine ⟨_, (pss_cons (ps_set (i := 2) sc_law_rounds.nd rfl (.inl rfl) (pe_callB call_len_seq rfl T.z_len (by decide +kernel) (pa_cons (pe_ix ix_tup (pv 0) pe_int (fun _ _ => rfl)) pa_nil)))
      (pss_cons (ps_set (i := 4) sc_law_rounds.nd rfl (.inr rfl) (pe_lc (own := [("state", 3)]) (g := gName 3) rfl sc_law_rounds.nd (pi_range1 rfl T.z_range (pa_cons (pv 2) pa_nil)) (blkOk_by (own := [("state", 3)]) (N := n_law_rounds) (sc := defScope s_law_rounds) (by decide +kernel)) (fun _ _ _ _ _ => (pg_name (i := 3) sc_law_rounds.nd rfl (.inl rfl))) (fun _ _ _ _ _ => pts_nil) (fun _ _ _ _ _ => (pe_callTy (@id (CallR _ (.type "tuple") (rTupOf K)) call_tuple_of) rfl T.z_tuple (by decide +kernel) (pa_cons (pe_ix (@id (IxR _ (rIxL K)) ix_list) (pe_ix (@id (IxR _ (rIxT K)) ix_tup) (pv 0) pe_int (fun _ _ => rfl)) (pv 3) (fun _ _ => rfl)) pa_nil)))))
      (pss_cons (ps_for PassesOwn.never rfl (pi_range1 rfl T.z_range (pa_cons (pv 1) pa_nil)) (pg_name (i := 5) sc_law_rounds.nd rfl (.inl rfl)) (pss_cons (ps_set (i := 6) sc_law_rounds.nd rfl (.inl rfl) (pe_lst pa_nil))
      (pss_cons (ps_for PassesOwn.never rfl (pi_range1 rfl T.z_range (pa_cons (pv 2) pa_nil)) (pg_name (i := 3) sc_law_rounds.nd rfl (.inr rfl)) (pss_cons (ps_setLc (i := 7) (own := [("label", 10)]) (g := gName 10) rfl sc_law_rounds.nd rfl rfl (sw_true rfl rfl rfl (by decide +kernel)) (pi_range1 rfl T.z_range (pa_cons pe_int pa_nil)) (blkOk_by (own := [("label", 10)]) (N := n_law_rounds) (sc := defScope s_law_rounds) (by decide +kernel)) (fun _ _ _ _ _ => (pg_name (i := 10) sc_law_rounds.nd rfl (.inl rfl))) (fun _ _ _ _ _ => pts_nil) (fun _ _ _ _ _ => (pe_callTy (@id (CallR _ (.type "tuple") (rTupOf K)) call_tuple_of) rfl T.z_tuple (by decide +kernel) (pa_cons (pe_callB (show CallR _ _ (rOr (rSortF K w) (rSortN K w)) from cr_or (cr_sortF rfl hr.units) (cr_sortN rfl hr.units)) rfl T.z_sorted (by decide +kernel) (pa_cons (pe_callTy (show CallR _ _ (rSetTN K w) from cr_setN rfl hr.units) rfl T.z_set (by decide +kernel) (pa_cons (pe_lc (own := [("other", 11)]) (g := gName 11) rfl sc_law_rounds.nd (@id (PI _ _ _ (iList K _)) (pi_list (pe_callH h_law_behind (hr.mono (by omega)) (pa_cons (pv 0) (pa_cons (pv 3) (pa_cons (pv 10) pa_nil)))))) (blkOk_by (own := [("other", 11)]) (N := n_law_rounds) (sc := { kind := PySem.ScopeKind.function, names := [ (PySem.Str.ofString ".0", PySem.NameKind.local), (PySem.Str.ofString "label", PySem.NameKind.local), (PySem.Str.ofString "tuple", PySem.NameKind.globalImplicit), (PySem.Str.ofString "sorted", PySem.NameKind.globalImplicit), (PySem.Str.ofString "set", PySem.NameKind.globalImplicit), (PySem.Str.ofString "_law_behind", PySem.NameKind.globalImplicit), (PySem.Str.ofString "now", PySem.NameKind.cell), (PySem.Str.ofString "state", PySem.NameKind.cell), (PySem.Str.ofString "world", PySem.NameKind.cell)], isGenerator := false, isCoroutine := false, more := [] : PySem.Scope }) (by decide +kernel)) (fun _ _ _ _ _ => (pg_name (i := 11) sc_law_rounds.nd rfl (.inl rfl))) (fun _ _ _ _ _ => pts_nil) (fun _ _ _ _ _ => (pe_ix (@id (IxR _ (rIxL K)) ix_list) (pv 4) (pv 11) (fun _ _ => rfl)))) pa_nil)) pa_nil)) pa_nil))))
      (pss_one (ps_expr (pe_bm PySem.F.plainAttrs_list PySem.F.slot_list_append PySem.F.type_list_append mt_append (pv 6) (pa_cons (pe_tup (pa_cons (pe_callTy call_tuple_of rfl T.z_tuple (by decide +kernel) (pa_cons (pe_ix ix_list (pe_ix ix_tup (pv 0) pe_int (fun _ _ => rfl)) (pv 3) (fun _ _ => rfl)) pa_nil)) (pa_cons (pe_callTy call_tuple_of rfl T.z_tuple (by decide +kernel) (pa_cons (pv 7) pa_nil)) pa_nil))) pa_nil))))))
      (pss_one (ps_set (i := 4) sc_law_rounds.nd rfl (.inr rfl) (pv 6))))))
      (pss_cons (ps_set (i := 8) sc_law_rounds.nd rfl (.inr rfl) (pe_lst pa_nil))
      (pss_cons (ps_for PassesOwn.never rfl (pi_list (pv 4)) (pg_name (i := 9) sc_law_rounds.nd rfl (.inl rfl)) (pss_one (ps_if (pt_cmpR (op_notInL hr.units) (pv 9) (pv 8) (by rfl)) (pss_one (ps_expr (pe_bm PySem.F.plainAttrs_list PySem.F.slot_list_append PySem.F.type_list_append mt_append (pv 8) (pa_cons (pv 9) pa_nil)))) pss_nil)))
      (pss_one (ps_ret (pe_callTy call_tuple_of rfl T.z_tuple (by decide +kernel) (pa_cons (pe_lc (own := [("sign", 9)]) (g := gName 9) rfl sc_law_rounds.nd (pi_list (pv 4)) (blkOk_by (own := [("sign", 9)]) (N := n_law_rounds) (sc := defScope s_law_rounds) (by decide +kernel)) (fun _ _ _ _ _ => (pg_name (i := 9) sc_law_rounds.nd rfl (.inl rfl))) (fun _ _ _ _ _ => pts_nil) (fun _ _ _ _ _ => (show PE _ _ (tBM K "list" (rIndexM K) _ _) from pe_bm PySem.F.plainAttrs_list PySem.F.slot_list_index PySem.F.type_list_index (mt_indexM hr.units) (pv 8) (pa_cons (pv 9) pa_nil)))) pa_nil))))))))), ?_⟩
    have fl : fas.length = W.n := X.f.1
    refine ⟨.ref wa, rfl, wa, _, _, .ref sa, rfl, rfl, SqT.of X.w, rfl, sa, fas.map V.ref, rfl, .inl (SqL.of X.s), ?_⟩
    rw [List.length_map, fl]
    refine ⟨.int (W.n : Nat), rfl, _, rfl, by omega, by omega, fun D hD => ?_⟩
    rw [Int.toNat_natCast]
    refine lc_it walk_range (fun i G => Same H G ∧ H D = none ∧ ∃ ts : List Addr, G D = some (.lst (ts.map V.ref)) ∧ RTp G ts (W.facts.take i)) ⟨Same.new hD, hD, [], upd_same, ⟨rfl, fun i a X e _ => by simp at e⟩⟩ (fun _ _ _ _ => trivial) ?_ ?_
    · rintro i x GX G hi ⟨sG, _, ts, gD, rt⟩ ⟨rfl, rfl⟩
      have e0 : (fun i : Nat => V.int (0 + (i : Int))) i = V.int (i : Nat) := by show V.int _ = _; rw [Int.zero_add]
      rw [e0]
      have hfi : W.facts[i]? = some W.facts[i] := List.getElem?_eq_getElem hi
      obtain ⟨a, ha⟩ : ∃ a, fas[i]? = some a := ⟨_, List.getElem?_eq_getElem (by rw [fl]; exact hi)⟩
      have gl := X.f.2 i a _ ha hfi
      refine ⟨rfl, .ref wa, rfl, wa, _, _, .ref sa, rfl, rfl, SqT.of (sG _ _ X.w), rfl, .int ((i : Nat) : Int), rfl, sa, _, _, .ref a, rfl, rfl, SqL.of (sG _ _ X.s), atI_nat (j := i) (by rw [List.getElem?_map, ha]; rfl), a, _, rfl, .inl ⟨SqL.of (sG _ _ gl), fun t ht => ?_⟩⟩
      have s1 := Same.new (o := .tup (W.facts[i].map V.int)) ht
      have tl : ts.length ≤ 60 := by have := rt.1; rw [List.length_take] at this; omega
      have tne : t ≠ D := fun e => by rw [e, gD] at ht; cases ht
      refine ⟨_, s1 _ _ gD, by rw [List.length_map]; exact small1000 (by omega), fun b o e => by rw [upd_ne (ne_of_none e hD)]; exact s1 _ _ (sG _ _ e), hD, ts ++ [t], by rw [upd_same, List.map_append]; rfl, ?_⟩
      rw [List.take_add_one, hfi]
      refine RTp.snoc (rt.map fun b ys e => ?_) (by rw [upd_ne tne]; exact upd_same)
      rw [upd_ne (ne_of e gD (by intro z; cases z))]
      exact s1 _ _ e
    · rintro G ⟨sG, _, ts, gD, rt⟩
      rw [show W.n = W.facts.length from rfl, List.take_length] at rt
      have tl : ts.length = W.n := rt.1
      have N0 : NowI K G W 0 D (fun s => .ref (ts.getD s 0)) (fun s => fK (W.at (s : Nat))) := by
        have get : ∀ s, s < W.n → ts[s]? = some (ts.getD s 0) := fun s hs => by
          rw [List.getD_eq_getElem?_getD, List.getElem?_eq_getElem (by omega)]; rfl
        refine ⟨?_, fun s hs => ?_, fun s hs => ⟨_, rfl⟩, fun s t hs ht => ⟨fun e => fK_inj e, fun e => congrArg fK e⟩⟩
        · rw [gD]
          congr 2
          refine List.ext_getElem? fun i => ?_
          rw [List.getElem?_map, List.getElem?_map]
          by_cases hi : i < W.n
          · rw [get i hi, List.getElem?_range hi]; rfl
          · rw [List.getElem?_eq_none (by omega), List.getElem?_eq_none (by rw [List.length_range]; omega)]; rfl
        · refine kis_fK (SqT.of (rt.2 s _ _ (get s hs) ?_))
          unfold Wd.at
          rw [Int.toNat_natCast, List.getElem?_eq_getElem hs]
          rfl
      generalize (fun s => V.ref (ts.getD s 0)) = vf0 at N0
      generalize (fun s : Nat => fK (W.at (s : Nat))) = kf0 at N0
      clear gD rt tl
      refine ⟨.int (m : Nat), rfl, _, rfl, by omega, by omega, ?_⟩
      rw [Int.toNat_natCast]
      refine for_range (lo := 0) (n := m) (fun r σ G => ∃ (y3 y5 y6 y7 y8 y9 : Option V) (l : Addr) (vf : Nat → V) (kf : Nat → NestedKey), σ = [some (.ref wa), some (.int (m : Nat)), some (.int (W.n : Nat)), y3, some (.ref l), y5, y6, y7, y8, y9, none, none] ∧ Same H G ∧ NowI K G W r l vf kf)
        ⟨none, none, none, none, none, none, D, vf0, kf0, rfl, sG, N0⟩ ?_ ?_
      · rintro r σ G1 hr' ⟨y3, y5, y6, y7, y8, y9, l, vf, kf, rfl, sG1, N⟩
        clear sG N0
        refine ⟨Nat.zero_le _, fun LS hLS => ?_⟩
        have gL0 : (upd G1 LS (.lst [])) LS = some (.lst (([] : List EN).map fun e => V.ref e.1)) := upd_same
        have s2 := Same.new (o := .lst []) hLS
        generalize upd G1 LS (.lst []) = G2 at gL0 s2
        refine ⟨.int (W.n : Nat), rfl, _, rfl, by omega, by omega, ?_⟩
        rw [Int.toNat_natCast]
        refine for_range (lo := 0) (n := W.n) (fun j σ G => ∃ (y3 y7 : Option V) (es : List EN) (B : Nat → Nat → List NestedKey), σ = [some (.ref wa), some (.int (m : Nat)), some (.int (W.n : Nat)), y3, some (.ref l), some (.int (0 + (r : Int))), some (.ref LS), y7, y8, y9, none, none] ∧ Same G1 G ∧
            G LS = some (.lst (es.map fun e => V.ref e.1)) ∧ es.length = j ∧ (∀ e ∈ es, KIs K G (.ref e.1) e.2) ∧ (∀ (i : Nat) e, es[i]? = some e → e.2 = sgK (fK (W.at (i : Int))) (B i 0) (B i 1) (B i 2)) ∧ ∀ i c, i < j → c < 3 → CnL r (B i c) (srcK W kf i (c : Nat)))
          ⟨y3, y7, [], fun _ _ => [], rfl, s2, gL0, rfl, (fun e h => by cases h), (fun i e h => by simp at h), fun i c h => absurd h (Nat.not_lt_zero _)⟩ ?_ ?_
        · rintro j σ G hj ⟨y3', y7', es, B, rfl, sG, gL, el, ek, eb, cn⟩
          have N' := N.same sG
          have sH := sG1.trans sG
          refine ⟨3, rfl, by omega, by omega, fun LB hLB => ?_⟩
          refine lc_it walk_range (fun c G' => Same G G' ∧ ∃ (Ts : List Addr) (Bs : List (List NestedKey)), G' LB = some (.lst (Ts.map V.ref)) ∧ Ts.length = c ∧ KAll K G' (Ts.map V.ref) (Bs.map NestedKey.tup) ∧ ∀ (q : Nat) Z, Bs[q]? = some Z → CnL r Z (srcK W kf j (q : Nat)))
            ⟨Same.new hLB, [], [], upd_same, rfl, .nil, fun m Z h => by simp at h⟩ (fun _ _ _ _ => trivial) ?_ ?_
          · rintro c x GX G3 hc ⟨s3, Ts, Bs, gB, tl, ka, cs⟩ ⟨rfl, rfl⟩
            have e0 : (fun i : Nat => V.int (0 + (i : Int))) c = V.int (c : Nat) := by show V.int _ = _; rw [Int.zero_add]
            rw [e0]
            have hc3 : c < 3 := hc
            have sH3 := sH.trans s3
            refine ⟨rfl, .ref wa, rfl, .int (0 + (j : Int)), rfl, .int ((c : Nat) : Int), rfl, .ref wa, W, 0 + (j : Int), ((c : Nat) : Int), rfl, ⟨wa, sa, pa, fas, pas, rfl, (X.same sH3).gen⟩, by omega, fun ba G4 s4 hba gba => ?_⟩
            rw [Int.zero_add] at gba
            refine ⟨ba, rfl, ⟨_, SqL.of gba⟩, fun LC hLC => ?_⟩
            have s34 := s3.trans s4
            refine lc_list (xs := (W.beh ((j : Nat) : Int) ((c : Nat) : Int)).map V.int) (fun i G' => Same G4 G' ∧ G' LC = some (.lst (((W.beh ((j : Nat) : Int) ((c : Nat) : Int)).take i).map fun y => vf y.toNat))) ⟨Same.new hLC, upd_same⟩ (fun i G' _ q => SqL.of (q.1 _ _ gba)) ?_ ?_
            · rintro i x G5 hx ⟨s5, gC⟩
              obtain ⟨y, hy, rfl⟩ : ∃ y, (W.beh ((j : Nat) : Int) ((c : Nat) : Int))[i]? = some y ∧ V.int y = x := by
                rw [List.getElem?_map] at hx
                cases e : (W.beh ((j : Nat) : Int) ((c : Nat) : Int))[i]? with
                | none => rw [e] at hx; cases hx
                | some y => rw [e] at hx; exact ⟨y, rfl, Option.some.inj hx⟩
              have iny := hin.beh (List.mem_of_getElem? hy)
              have N5 := (N'.same (s34.trans s5)).at_
              have yn : y.toNat < W.n := by omega
              refine ⟨rfl, .ref l, rfl, .int y, rfl, l, _, _, vf y.toNat, rfl, rfl, SqL.of N5, ?_, _, gC, ?_, fun b o e => by rw [upd_ne (ne_of_none e hLC)]; exact s5 b o e, ?_⟩
              · have := atI_nat (j := y.toNat) (rmap_at (f := vf) yn)
                rwa [Int.toNat_of_nonneg iny.1] at this
              · rw [List.length_map, List.length_take]
                exact small1000 (by have := beh_len W ((j : Nat) : Int) ((c : Nat) : Int); omega)
              · rw [upd_same, List.take_add_one, hy, List.map_append]
                rfl
            · rintro G5 ⟨s5, gC⟩
              rw [List.length_map, List.take_length] at gC
              have N5 := N'.same (s34.trans s5)
              have s35 := s34.trans s5
              dsimp only [tNil]
              refine inner_setL (K := K) (w := w) (r := r) (ms := srcK W kf j ((c : Nat) : Int)) (SqL.of gC) (kall_map fun y hy => ?_) (fun x hx => ?_) (by omega) ?_ fun T us ns G6 s6 nT gT kaT cnT => ?_
              · have iny := hin.beh hy
                exact N5.ks _ (by omega)
              · obtain ⟨y, hy, rfl⟩ := List.mem_map.mp hx
                have iny := hin.beh hy
                exact N5.kd _ (by omega)
              · unfold srcK
                rw [List.length_map]
                have := beh_len W ((j : Nat) : Int) ((c : Nat) : Int)
                omega
              · have s36 := s35.trans s6
                have s4' : Same G3 G6 := (s4.trans s5).trans s6
                have gB6 := s4' _ _ gB
                have ka6 := KAll.snoc (KIs.tup (SqT.of gT) kaT) (ka.same s4')
                refine ⟨_, gB6, by rw [List.length_map]; exact small1000 (by omega), fun b o e => by rw [upd_ne (ne_of_none e hLB)]; exact s36 b o e, Ts ++ [T], Bs ++ [ns], by rw [upd_same, List.map_append]; rfl, by rw [List.length_append, tl]; rfl, ?_, fun q Z hm => ?_⟩
                · rw [List.map_append, List.map_append]
                  exact ka6.map fun _ _ => sqt_lst gB6
                · rcases get_snoc hm with e1 | ⟨e1, rfl⟩
                  · exact cs q Z e1
                  · have bl := ka.length
                    rw [List.length_map, List.length_map] at bl
                    obtain rfl : q = c := by omega
                    exact cnT
          · rintro G3 ⟨s3, Ts, Bs, gB, tl, ka, cs⟩
            have bl : Bs.length = 3 := by
              have := ka.length
              rw [List.length_map, List.length_map, tl] at this
              exact this.symm
            have gL3 := s3 _ _ gL
            have N3 := N'.same s3
            have X3 := X.same (sH.trans s3)
            have hfi : W.facts[j]? = some W.facts[j] := List.getElem?_eq_getElem hj
            obtain ⟨a, ha⟩ : ∃ a, fas[j]? = some a := ⟨_, List.getElem?_eq_getElem (by rw [fl]; exact hj)⟩
            have gl := X3.f.2 j a _ ha hfi
            refine ⟨.ref LS, rfl, .inl ⟨rfl, _, SqL.of gL3⟩, .ref wa, rfl, wa, _, _, .ref sa, rfl, rfl, SqT.of X3.w, rfl, .int (0 + (j : Int)), rfl, sa, _, _, .ref a, rfl, rfl, SqL.of X3.s, by rw [Int.zero_add]; exact atI_nat (j := j) (by rw [List.getElem?_map, ha]; rfl), a, _, rfl, .inl ⟨SqL.of gl, fun tf htf => ?_⟩⟩
            have s4 := Same.new (o := .tup (W.facts[j].map V.int)) htf
            have kF : KIs K (upd G3 tf (.tup (W.facts[j].map V.int))) (.ref tf) (fK W.facts[j]) := kis_fK (SqT.of upd_same)
            have gB4 := s4 _ _ gB
            have ka4 := ka.same s4
            generalize upd G3 tf (.tup (W.facts[j].map V.int)) = G4 at s4 kF gB4 ka4
            refine ⟨.ref LB, rfl, LB, _, rfl, .inl ⟨SqL.of gB4, fun TB hTB => ⟨by show 2 ≤ sizeLine; decide, fun te hte => ?_⟩⟩⟩
            have s5 := Same.new (o := .tup (Ts.map V.ref)) hTB
            have kT : KIs K (upd G4 TB (.tup (Ts.map V.ref))) (.ref TB) (.tup (Bs.map .tup)) := .tup (SqT.of upd_same) (ka4.same s5)
            have kF5 := kF.same s5
            generalize upd G4 TB (.tup (Ts.map V.ref)) = G5 at s5 kT hte kF5
            have s6 := Same.new (o := .tup [.ref tf, .ref TB]) hte
            have kS : KIs K (upd G5 te (.tup [.ref tf, .ref TB])) (.ref te) (.tup [fK W.facts[j], .tup (Bs.map .tup)]) := .tup (SqT.of upd_same) (.cons (kF5.same s6) (.cons (kT.same s6) .nil))
            generalize upd G5 te (.tup [.ref tf, .ref TB]) = G6 at s6 kS
            have s36 := (s3.trans s4).trans (s5.trans s6)
            have gL6 := s36 _ _ gL
            have atj : W.at (j : Int) = W.facts[j] := by
              unfold Wd.at
              rw [Int.toNat_natCast, hfi]
              rfl
            refine ⟨LS, _, _, rfl, rfl, gL6, by rw [List.length_map]; exact small1000 (by omega), ?_⟩
            refine ⟨_, _, es ++ [(te, .tup [fK W.facts[j], .tup (Bs.map .tup)])], fun i c => if i = j then Bs.getD c [] else B i c, rfl, fun b o e => by rw [upd_ne (ne_of_none e hLS)]; exact s36 _ _ (sG _ _ e), by rw [upd_same, List.map_append]; rfl, by rw [List.length_append, el]; rfl, fun e he => ?_, fun i e he => ?_, fun i c hi hc => ?_⟩
            · rcases List.mem_append.mp he with h | h
              · exact ((ek e h).same s36).map fun _ _ => sqt_lst gL6
              · rw [List.mem_singleton.mp h]
                exact kS.map fun _ _ => sqt_lst gL6
            · rcases get_snoc he with e1 | ⟨e1, rfl⟩
              · have := eb i e e1
                have il := get_len e1
                have ne : i ≠ j := by omega
                simp only [if_neg ne]
                exact this
              · have ij : i = j := by omega
                subst ij
                simp only [if_pos rfl]
                rw [atj]
                obtain ⟨Z0, Z1, Z2, rfl⟩ : ∃ a b c, Bs = [a, b, c] := by
                  match Bs, bl with
                  | [a, b, c], _ => exact ⟨a, b, c, rfl⟩
                rfl
            · by_cases ij : i = j
              · subst ij
                simp only [if_pos rfl]
                have hc' : c < Bs.length := by omega
                have := cs c Bs[c] (List.getElem?_eq_getElem hc')
                rw [List.getD_eq_getElem?_getD, List.getElem?_eq_getElem hc']
                exact this
              · simp only [if_neg ij]
                exact cn i c (by omega) hc
        · rintro σ G ⟨y3', y7', es, B, rfl, sG, gL, el, ek, eb, cn⟩
          have N' := N.same sG
          have sub : ∀ s c, s < W.n → c < 3 → ∀ x ∈ B s c, KdL r x := fun s c hs hc x hx => by
            obtain ⟨y, hy, rfl⟩ := List.mem_map.mp (((cn s c hs hc).mem x).mp hx)
            have iny := hin.beh hy
            exact N.kd _ (by omega)
          refine ⟨.ref LS, rfl, _, _, _, _, _, _, LS, fun s => .ref (es.getD s (0, .none)).1, fun s => sgK (fK (W.at (s : Int))) (B s 0) (B s 1) (B s 2), rfl, sG1.trans sG, ?_⟩
          have get : ∀ s, s < W.n → es[s]? = some (es.getD s (0, .none)) := fun s hs => by
            rw [List.getD_eq_getElem?_getD, List.getElem?_eq_getElem (by omega)]; rfl
          refine ⟨?_, fun s hs => ?_, fun s hs => ⟨_, _, _, _, rfl, sub s 0 hs (by decide), sub s 1 hs (by decide), sub s 2 hs (by decide)⟩, fun s t hs ht => sg_iffL hin lb N.kd N.rel cn hs ht⟩
          · rw [gL]
            congr 2
            refine List.ext_getElem? fun i => ?_
            rw [List.getElem?_map, List.getElem?_map]
            by_cases hi : i < W.n
            · rw [get i hi, List.getElem?_range hi]; rfl
            · rw [List.getElem?_eq_none (by omega), List.getElem?_eq_none (by rw [List.length_range]; omega)]; rfl
          · have g := get s hs
            have e2 := eb s _ g
            rw [← e2]
            exact ek _ (List.mem_of_getElem? g)
      · rintro σ G1 ⟨y3, y5, y6, y7, y8, y9, l, vf, kf, rfl, sG1, N⟩
        clear sG N0
        have fn := first_keys (Lk.eqv W m W.n) N.rel
        have nm : ∀ s, s < W.n → nmK (kf s) = true := fun s hs => kdL_nm (N.kd s hs)
        have dp12 : ∀ s, s < W.n → (kf s).depth ≤ 12 := fun s hs => by have := kdL_low (N.kd s hs); omega
        have lm : ∀ {i x}, i ≤ W.n → x ∈ (ldrs (Lk W m) i).map kf → nmK x = true ∧ x.depth ≤ 12 := fun {i x} hi hx => by
          obtain ⟨t, ht, rfl⟩ := List.mem_map.mp hx
          have := (mem_ldrs.mp ht).1
          exact ⟨nm t (by omega), dp12 t (by omega)⟩
        refine ⟨Nat.zero_le _, fun OL hOL => ?_⟩
        have s2 := Same.new (o := .lst []) hOL
        have gO0 : (upd G1 OL (.lst [])) OL = some (.lst (([] : List Nat).map vf)) := upd_same
        generalize upd G1 OL (.lst []) = G2 at s2 gO0
        have kaO : ∀ {G i}, Same G1 G → i ≤ W.n → KAll K G ((ldrs (Lk W m) i).map vf) ((ldrs (Lk W m) i).map kf) := fun {G i} sG hi => kall_map fun t ht => ((N.same sG).ks t (by have := (mem_ldrs.mp ht).1; omega))
        refine ⟨.ref l, rfl, l, rfl, ⟨_, SqL.of (N.same s2).at_⟩, for_list (xs := (List.range W.n).map vf) (fun i σ G => ∃ y9, σ = [some (.ref wa), some (.int (m : Nat)), some (.int (W.n : Nat)), y3, some (.ref l), y5, y6, y7, some (.ref OL), y9, none, none] ∧ Same G1 G ∧ G OL = some (.lst ((ldrs (Lk W m) i).map vf)))
          ⟨y9, rfl, s2, gO0⟩ (fun i σ G _ ⟨_, _, sG, _⟩ => SqL.of (N.same sG).at_) ?_ ?_⟩
        · rintro i x σ G hx ⟨y9, rfl, sG, gO⟩
          have hi : i < W.n := by have := get_len hx; rwa [List.length_map, List.length_range] at this
          rw [rmap_at hi] at hx
          obtain rfl := Option.some.inj hx
          have ki := (N.same sG).ks i hi
          refine ⟨vf i, rfl, .ref OL, rfl, _, _, dp_key ki, .lst (SqL.of gO) (dp_keys (kaO sG (Nat.le_of_lt hi))), shaped_key (nm i hi) (dp12 i hi), shaped_keys (fun x hx => (lm (Nat.le_of_lt hi) hx).1) (fun x hx => (lm (Nat.le_of_lt hi) hx).2), _, rfl, ?_⟩
          rw [any_key (nm i hi) fun x hx => (lm (Nat.le_of_lt hi) hx).1]
          have ls : ldrs (Lk W m) (i + 1) = ldrs (Lk W m) i ++ if ldr (Lk W m) i = i then [i] else [] := ldrs_succ
          by_cases c : ldr (Lk W m) i = i
          · rw [decide_eq_false (fun z => (fn.1 i hi).mp z c)]
            refine iteT ⟨.ref OL, rfl, .inl ⟨rfl, _, SqL.of gO⟩, vf i, rfl, OL, _, _, rfl, rfl, gO, ?_, ?_⟩
            · rw [List.length_map]
              exact small1000 (by have := ldrs_len (R := Lk W m) (n := i); omega)
            · refine ⟨_, rfl, fun b o z => by rw [upd_ne (ne_of_none z hOL)]; exact sG b o z, ?_⟩
              rw [upd_same, ls, if_pos c, List.map_append]
              rfl
          · rw [decide_eq_true ((fn.1 i hi).mpr c)]
            refine iteF ⟨_, rfl, sG, ?_⟩
            rw [ls, if_neg c, List.append_nil]
            exact gO
        · rintro σ G ⟨y9, rfl, sG, gO⟩
          rw [List.length_map, List.length_range] at gO
          have NG := N.same sG
          refine ⟨.ref l, rfl, l, rfl, ⟨_, SqL.of NG.at_⟩, fun D' hD' => ?_⟩
          refine lc_list (xs := (List.range W.n).map vf) (fun i G' => Same G G' ∧ G' D' = some (.lst ((clsN (Lk W m) i).map V.int))) ⟨Same.new hD', upd_same⟩ (fun i G' _ q => SqL.of (q.1 _ _ NG.at_)) ?_ ?_
          · rintro i x G5 hx ⟨s5, gD⟩
            have hi : i < W.n := by have := get_len hx; rwa [List.length_map, List.length_range] at this
            rw [rmap_at hi] at hx
            obtain rfl := Option.some.inj hx
            have gO5 := s5 _ _ gO
            obtain ⟨m1, m2⟩ := fn.2 i hi
            refine ⟨rfl, .ref OL, rfl, .inl ⟨rfl, _, SqL.of gO5⟩, vf i, rfl, OL, vf i, kf i, _, _, rfl, rfl, SqL.of gO5, kaO (sG.trans s5) (Nat.le_refl _), (NG.same s5).ks i hi, m1, dp12 i hi, ?_⟩
            rw [m2]
            refine ⟨_, gD, ?_, fun b o z => by rw [upd_ne (ne_of_none z hD')]; exact s5 b o z, ?_⟩
            · unfold clsN
              rw [List.length_map, List.length_map, List.length_range]
              exact small1000 (by omega)
            · rw [upd_same]
              unfold clsN
              rw [List.range_succ, List.map_append, List.map_append]
              rfl
          · rintro G5 ⟨s5, gD⟩
            rw [List.length_map, List.length_range] at gD
            exact ⟨D', _, rfl, .inl ⟨SqL.of gD, fun nt hnt => k nt _ ((sG1.trans (sG.trans s5)).trans (Same.new hnt)) upd_same⟩⟩
end
end Fw

/-! What is seen in so many steps, told by statements. Pure mathematics. -/
namespace Fw
def fsg (X : List Int) (n : Nat) : List F := (List.range n).map fun i => .leaf (if ((i : Nat) : Int) ∈ X then .has else .lacks) (i : Nat)
/-- ends, one of each class -/
structure EsOk (W : Wd) (s : Nat) (l : Int) (c : Nat → Int) (Es : List Nat) : Prop where
  sub : ∀ z ∈ Es, ((z : Nat) : Int) ∈ W.beh (s : Int) l
  all : ∀ y ∈ W.beh (s : Int) l, ∃ z ∈ Es, c z = c y.toNat
  nd : (Es.map c).Nodup
/-- what tells of the steps by the labels below i -/
inductive Ss (W : Wd) (s : Nat) (c : Nat → Int) (fs : Nat → F) : Nat → List F → Prop
  | nil : Ss W s c fs 0 []
  | snoc {i : Nat} {L : List F} {Es : List Nat} {g : F} : Ss W s c fs i L → EsOk W s (i : Int) c Es → JnB false (Es.map fs) g → Ss W s c fs (i + 1) (L ++ Es.map (fun z => .one .some (i : Int) (fs z)) ++ [.one .all (i : Int) g])
/-- V is the first part of B -/
structure EmbB (V B : Wd) (L Fc : Nat) : Prop where
  hin : B.In
  n : V.n ≤ B.n
  at_ : ∀ s, s < V.n → B.at (s : Int) = V.at (s : Int)
  beh : ∀ s, s < V.n → ∀ l y, y ∈ B.beh (s : Int) l ↔ y ∈ V.beh (s : Int) l
  lb : ∀ p ∈ B.steps, 0 ≤ p.2.1 ∧ p.2.1 < (L : Int)
  rows : ∀ X ∈ B.facts, X.Pairwise (· < ·) ∧ ∀ x ∈ X, 0 ≤ x ∧ x < (Fc : Int)
theorem EmbB.lk {V B : Wd} {L Fc : Nat} (E : EmbB V B L Fc) (hin : V.In) : ∀ {k s t}, s < V.n → t < V.n → (Lk B k s t ↔ Lk V k s t)
  | 0, s, t, hs, ht => by
    show B.at _ = B.at _ ↔ V.at _ = V.at _
    rw [E.at_ s hs, E.at_ t ht]
  | k + 1, s, t, hs, ht => by
    have lt : ∀ {s l y}, y ∈ V.beh s l → y.toNat < V.n := fun hy => by have := hin.beh hy; omega
    constructor
    · rintro ⟨h, q⟩
      refine ⟨(E.lk hin hs ht).mp h, fun l => ⟨fun y hy => ?_, fun z hz => ?_⟩⟩
      · obtain ⟨z, hz, r⟩ := (q l).1 y ((E.beh s hs l y).mpr hy)
        have hz := (E.beh t ht l z).mp hz
        exact ⟨z, hz, (E.lk hin (lt hy) (lt hz)).mp r⟩
      · obtain ⟨y, hy, r⟩ := (q l).2 z ((E.beh t ht l z).mpr hz)
        have hy := (E.beh s hs l y).mp hy
        exact ⟨y, hy, (E.lk hin (lt hy) (lt hz)).mp r⟩
    · rintro ⟨h, q⟩
      refine ⟨(E.lk hin hs ht).mpr h, fun l => ⟨fun y hy => ?_, fun z hz => ?_⟩⟩
      · have hy := (E.beh s hs l y).mp hy
        obtain ⟨z, hz, r⟩ := (q l).1 y hy
        exact ⟨z, (E.beh t ht l z).mpr hz, (E.lk hin (lt hy) (lt hz)).mpr r⟩
      · have hz := (E.beh t ht l z).mp hz
        obtain ⟨y, hy, r⟩ := (q l).2 z hz
        exact ⟨y, (E.beh s hs l y).mpr hy, (E.lk hin (lt hy) (lt hz)).mpr r⟩
theorem tru_has {W : Wd} {x : Int} {u : Nat} (hu : u < W.n) : tru W (.leaf .has x) u ↔ x ∈ W.at (u : Int) := by
  unfold tru
  rw [show val W (.leaf .has x) (fun _ => []) = flt W.n fun s => sIn (W.at s) x from rfl, sIn_flt (by omega) (by omega)]
  exact decide_eq_true_iff
theorem tru_lacks {W : Wd} {x : Int} {u : Nat} (hu : u < W.n) : tru W (.leaf .lacks x) u ↔ x ∉ W.at (u : Int) := by
  unfold tru
  rw [show val W (.leaf .lacks x) (fun _ => []) = flt W.n fun s => !sIn (W.at s) x from rfl, sIn_flt (by omega) (by omega), Bool.not_eq_true']
  exact decide_eq_false_iff_not
theorem upI {a b : List Int} (ha : a.Pairwise (· < ·)) (hb : b.Pairwise (· < ·)) (h : ∀ x, x ∈ a ↔ x ∈ b) : a = b := by
  have na : a.Nodup := ha.imp fun z e => by omega
  have nb : b.Nodup := hb.imp fun z e => by omega
  exact List.Perm.eq_of_pairwise (le := fun x y : Int => x < y) (fun x y _ _ h1 h2 => by omega) ha hb ((List.perm_ext_iff_of_nodup na nb).mpr h)
theorem at_row {W : Wd} {s : Nat} (hs : s < W.n) : W.at (s : Int) ∈ W.facts := by
  unfold Wd.at
  rw [Int.toNat_natCast, List.getElem?_eq_getElem hs]
  exact List.getElem_mem _
theorem fsg_tru {V B : Wd} {L Fc : Nat} (E : EmbB V B L Fc) {e u : Nat} (he : e < V.n) (hu : u < B.n) : (∀ g ∈ fsg (V.at (e : Int)) Fc, tru B g u) ↔ Lk B 0 e u := by
  have hx := E.rows _ (at_row (W := B) (s := e) (Nat.lt_of_lt_of_le he E.n))
  have hy := E.rows _ (at_row hu)
  show _ ↔ B.at _ = B.at _
  rw [← E.at_ e he]
  constructor
  · intro h
    refine upI hx.1 hy.1 fun x => ?_
    by_cases c : 0 ≤ x ∧ x < (Fc : Int)
    · obtain ⟨i, rfl⟩ := Int.eq_ofNat_of_zero_le c.1
      have := h _ (List.mem_map.mpr ⟨i, List.mem_range.mpr (by omega), rfl⟩)
      by_cases m : ((i : Nat) : Int) ∈ B.at (e : Int)
      · rw [if_pos m, tru_has hu] at this
        exact ⟨fun _ => this, fun _ => m⟩
      · rw [if_neg m, tru_lacks hu] at this
        exact ⟨fun z => absurd z m, fun z => absurd z this⟩
    · exact ⟨fun z => absurd (hx.2 x z) c, fun z => absurd (hy.2 x z) c⟩
  · intro h g hg
    obtain ⟨i, _, rfl⟩ := List.mem_map.mp hg
    by_cases m : ((i : Nat) : Int) ∈ B.at (e : Int)
    · rw [if_pos m, tru_has hu, ← h]; exact m
    · rw [if_neg m, tru_lacks hu, ← h]; exact m
/-- what a sign of k steps is -/
structure Sg (V : Wd) (L Fc k e : Nat) (f : F) : Prop where
  mo : Mo f
  dp : f.depth ≤ 2 + 7 * k
  tr : ∀ B, EmbB V B L Fc → ∀ u, u < B.n → (tru B f u ↔ Lk B k e u)
theorem tru_join {B : Wd} {L : List F} {f : F} {u : Nat} (hu : u < B.n) (J : JnB true L f) : tru B f u ↔ ∀ g ∈ L, tru B g u := by
  unfold tru
  rw [J.al rfl B _ _ (by omega) (by omega), List.all_eq_true]
theorem tru_any {B : Wd} {L : List F} {f : F} {u : Nat} (hu : u < B.n) (J : JnB false L f) : tru B f u ↔ ∃ g ∈ L, tru B g u := by
  unfold tru
  rw [J.an rfl B _ _ (by omega) (by omega), List.any_eq_true]
def Cnd (B : Wd) (k e u : Nat) (l : Int) : Prop := (∀ y ∈ B.beh (e : Int) l, ∃ z ∈ B.beh (u : Int) l, Lk B k y.toNat z.toNat) ∧ (∀ z ∈ B.beh (u : Int) l, ∃ y ∈ B.beh (e : Int) l, Lk B k y.toNat z.toNat)
theorem Ss.tru {V B : Wd} {L Fc k e : Nat} {c : Nat → Int} {fs : Nat → F} (E : EmbB V B L Fc) (hin : V.In) (he : e < V.n) (sg : ∀ z, z < V.n → Sg V L Fc k z (fs z)) (hc : ∀ s t, s < V.n → t < V.n → (c s = c t ↔ Lk V k s t)) {u : Nat} (hu : u < B.n) :
    ∀ {i : Nat} {M : List F}, Ss V e c fs i M → ((∀ g ∈ M, Fw.tru B g u) ↔ ∀ l : Nat, l < i → Cnd B k e u (l : Int)) := by
  intro i M h
  induction h with
  | nil => exact ⟨fun _ l hl => absurd hl (Nat.not_lt_zero _), fun _ g hg => by cases hg⟩
  | @snoc i M Es g S eo J ih =>
    have zlt : ∀ z ∈ Es, z < V.n := fun z hz => by have := hin.beh (eo.sub z hz); omega
    have blt : ∀ {y : Int} {l : Int}, y ∈ B.beh (u : Int) l → 0 ≤ y ∧ y.toNat < B.n := fun hy => by have := E.hin.beh hy; omega
    have h1 : (∀ f ∈ Es.map (fun z => F.one .some (i : Int) (fs z)), Fw.tru B f u) ↔ ∀ y ∈ B.beh (e : Int) (i : Int), ∃ z ∈ B.beh (u : Int) (i : Int), Lk B k y.toNat z.toNat := by
      constructor
      · intro h y hy
        have hy' := (E.beh e he _ y).mp hy
        have y3 := hin.beh hy'
        obtain ⟨z, hz, ez⟩ := eo.all y hy'
        have hz' := zlt z hz
        have l1 := (E.lk hin hz' (by omega)).mpr ((hc z y.toNat hz' (by omega)).mp ez)
        have := h _ (List.mem_map.mpr ⟨z, hz, rfl⟩)
        rw [tru_some hu] at this
        obtain ⟨w, hw, tw⟩ := this
        have w2 := blt hw
        exact ⟨w, hw, l1.symm.trans (((sg z hz').tr B E w.toNat w2.2).mp ((tru_nat w2.1).mpr tw))⟩
      · intro h f hf
        obtain ⟨z, hz, rfl⟩ := List.mem_map.mp hf
        rw [tru_some hu]
        obtain ⟨w, hw, lw⟩ := h _ ((E.beh e he _ _).mpr (eo.sub z hz))
        have w2 := blt hw
        rw [Int.toNat_natCast] at lw
        exact ⟨w, hw, (tru_nat w2.1).mp (((sg z (zlt z hz)).tr B E w.toNat w2.2).mpr lw)⟩
    have h2 : Fw.tru B (.one .all (i : Int) g) u ↔ ∀ z ∈ B.beh (u : Int) (i : Int), ∃ y ∈ B.beh (e : Int) (i : Int), Lk B k y.toNat z.toNat := by
      rw [tru_all hu]
      constructor
      · intro h w hw
        have w2 := blt hw
        have := (tru_any w2.2 J).mp ((tru_nat w2.1).mpr (h w hw))
        obtain ⟨f, hf, tf⟩ := this
        obtain ⟨z, hz, rfl⟩ := List.mem_map.mp hf
        refine ⟨(z : Int), (E.beh e he _ _).mpr (eo.sub z hz), ?_⟩
        rw [Int.toNat_natCast]
        exact ((sg z (zlt z hz)).tr B E w.toNat w2.2).mp tf
      · intro h w hw
        have w2 := blt hw
        refine (tru_nat w2.1).mp ((tru_any w2.2 J).mpr ?_)
        obtain ⟨y, hy, ly⟩ := h w hw
        have hy' := (E.beh e he _ y).mp hy
        have y3 := hin.beh hy'
        obtain ⟨z, hz, ez⟩ := eo.all y hy'
        have hz' := zlt z hz
        have l1 := (E.lk hin hz' (by omega)).mpr ((hc z y.toNat hz' (by omega)).mp ez)
        exact ⟨_, List.mem_map.mpr ⟨z, hz, rfl⟩, ((sg z hz').tr B E w.toNat w2.2).mpr (l1.trans ly)⟩
    constructor
    · intro h l hl
      rcases Nat.lt_succ_iff_lt_or_eq.mp hl with q | rfl
      · exact ih.mp (fun g hg => h g (List.mem_append_left _ (List.mem_append_left _ hg))) l q
      · exact ⟨h1.mp fun f hf => h f (List.mem_append_left _ (List.mem_append_right _ hf)), h2.mp (h _ (List.mem_append_right _ List.mem_cons_self))⟩
    · intro h g hg
      have hi := h i (Nat.lt_succ_self i)
      rcases List.mem_append.mp hg with q | q
      · rcases List.mem_append.mp q with q | q
        · exact ih.mpr (fun l hl => h l (Nat.lt_succ_of_lt hl)) g q
        · exact h1.mpr hi.1 g q
      · rw [List.mem_singleton.mp q]
        exact h2.mpr hi.2
theorem EsOk.len {W : Wd} {s : Nat} {l : Int} {c : Nat → Int} {Es : List Nat} (hin : W.In) (h : EsOk W s l c Es) : Es.length ≤ W.n := by
  have nd : Es.Nodup := List.Pairwise.imp (fun q e => q (by rw [e])) (List.pairwise_map.mp (List.nodup_iff_pairwise_ne.mp h.nd))
  have := L2.nat_nodup_len Es (List.range W.n) nd fun z hz => List.mem_range.mpr (by have := hin.beh (h.sub z hz); omega)
  rwa [List.length_range] at this
theorem Ss.few {W : Wd} {s : Nat} {c : Nat → Int} {fs : Nat → F} (hin : W.In) (hz : ∀ z, z < W.n → Mo (fs z)) {D : Nat} (hd : ∀ z, z < W.n → (fs z).depth ≤ D) (n4 : W.n ≤ 4) (d1 : 1 ≤ D) : ∀ {i : Nat} {M : List F}, Ss W s c fs i M → M.length ≤ 5 * i ∧ ∀ g ∈ M, Mo g ∧ g.depth ≤ D + 3 := by
  intro i M h
  induction h with
  | nil => exact ⟨Nat.zero_le _, fun g hg => by cases hg⟩
  | @snoc i M Es g S eo J ih =>
    have el := eo.len hin
    have zlt : ∀ z ∈ Es, z < W.n := fun z hz => by have := hin.beh (eo.sub z hz); omega
    have gm : Mo g := J.pr Mo trivial (fun f g a b => ⟨a, b⟩) fun f hf => by
      obtain ⟨z, h1, rfl⟩ := List.mem_map.mp hf
      exact hz z (zlt z h1)
    have gd : g.depth ≤ D + 2 := J.dp D 2 d1 (fun f hf => by
      obtain ⟨z, h1, rfl⟩ := List.mem_map.mp hf
      exact hd z (zlt z h1)) (by rw [List.length_map]; show _ ≤ 4; omega)
    refine ⟨by simp only [List.length_append, List.length_map, List.length_cons, List.length_nil]; omega, fun f hf => ?_⟩
    rcases List.mem_append.mp hf with q | q
    · rcases List.mem_append.mp q with q | q
      · exact ih.2 f q
      · obtain ⟨z, h1, rfl⟩ := List.mem_map.mp q
        have := hd z (zlt z h1)
        exact ⟨⟨rfl, Int.natCast_nonneg _, hz z (zlt z h1)⟩, by show (fs z).depth + 1 ≤ _; omega⟩
    · rw [List.mem_singleton.mp q]
      exact ⟨⟨rfl, Int.natCast_nonneg _, gm⟩, by show g.depth + 1 ≤ _; omega⟩
theorem fsg_mo {X : List Int} {n : Nat} : ∀ g ∈ fsg X n, Mo g ∧ g.depth = 1 := fun g hg => by
  obtain ⟨i, _, rfl⟩ := List.mem_map.mp hg
  refine ⟨⟨?_, Int.natCast_nonneg _⟩, rfl⟩
  split <;> intro z <;> cases z
theorem fsg_len {X : List Int} {n : Nat} : (fsg X n).length = n := by simp [fsg]
theorem Sg.zero {V : Wd} {L Fc e : Nat} {f : F} (f2 : Fc ≤ 2) (he : e < V.n) (J : JnB true (fsg (V.at (e : Int)) Fc) f) : Sg V L Fc 0 e f :=
  ⟨J.pr Mo trivial (fun f g a b => ⟨a, b⟩) fun g hg => (fsg_mo g hg).1, J.dp 1 1 (Nat.le_refl _) (fun g hg => by rw [(fsg_mo g hg).2]; exact Nat.le_refl _) (by rw [fsg_len]; exact f2), fun B E u hu => (tru_join hu J).trans (fsg_tru E he hu)⟩
theorem Sg.step {V : Wd} {Fc k e : Nat} {c : Nat → Int} {fs : Nat → F} {M : List F} {f : F} (hin : V.In) (n4 : V.n ≤ 4) (f2 : Fc ≤ 2) (he : e < V.n) (sg : ∀ z, z < V.n → Sg V 2 Fc k z (fs z)) (hc : ∀ s t, s < V.n → t < V.n → (c s = c t ↔ Lk V k s t))
    (S : Ss V e c fs 2 M) (J : JnB true (fsg (V.at (e : Int)) Fc ++ M) f) : Sg V 2 Fc (k + 1) e f := by
  have few := S.few hin (fun z hz => (sg z hz).mo) (fun z hz => (sg z hz).dp) n4 (by omega)
  refine ⟨J.pr Mo trivial (fun f g a b => ⟨a, b⟩) fun g hg => ?_, ?_, fun B E u hu => ?_⟩
  · rcases List.mem_append.mp hg with q | q
    · exact (fsg_mo g q).1
    · exact (few.2 g q).1
  · have := J.dp (2 + 7 * k + 3) 4 (by omega) (fun g hg => by
      rcases List.mem_append.mp hg with q | q
      · rw [(fsg_mo g q).2]; omega
      · exact (few.2 g q).2) (by rw [List.length_append, fsg_len]; show _ ≤ 16; omega)
    omega
  · rw [tru_join hu J]
    have key : (∀ g ∈ fsg (V.at (e : Int)) Fc ++ M, tru B g u) ↔ Lk B 0 e u ∧ ∀ l : Nat, l < 2 → Cnd B k e u (l : Int) := by
      rw [← fsg_tru E he hu, ← S.tru E hin he sg hc hu]
      exact ⟨fun h => ⟨fun g hg => h g (List.mem_append_left _ hg), fun g hg => h g (List.mem_append_right _ hg)⟩, fun h g hg => (List.mem_append.mp hg).elim (h.1 g) (h.2 g)⟩
    rw [key]
    constructor
    · rintro ⟨h0, h1⟩
      refine Lk.of_steps h0 fun l => ?_
      by_cases q : 0 ≤ l ∧ l < ((2 : Nat) : Int)
      · obtain ⟨j, rfl⟩ := Int.eq_ofNat_of_zero_le q.1
        exact h1 j (by omega)
      · have no : ∀ {s : Int} {y : Int}, y ∉ B.beh s l := fun {s y} hy => q (E.lb _ (E.hin.beh hy).2.2)
        exact ⟨fun y hy => absurd hy no, fun z hz => absurd hz no⟩
    · rintro ⟨h0, h1⟩
      exact ⟨Lk.pred (Nat.zero_le k) h0, fun l _ => h1 l⟩
end Fw

set_option maxRecDepth 100000
set_option maxHeartbeats 4000000
/-! list(d.values()), the dict's keys being numbers or texts -/
namespace Fw
open PySem PySem.Spec PyProof.Rows L2
def tListValsK (te : TE) : TE := fun σ H Q => te σ H fun x H1 => ∃ (d : Addr) (kvs : List (Key × V)), x = .ref d ∧ H1 d = some (.dK kvs) ∧ ∀ p, H1 p = none → Q (.ref p) (upd H1 p (.lst (kvs.map fun e => e.2)))
theorem pairs_val {prog : Program} {w : World} {κ : Type} [DecidableEq κ] {knd : KeyKind prog w κ} {es : List DictEntry} {kvs : List (κ × Value)} (h : Pairs knd es kvs) : es.map (fun e => e.val) = kvs.map fun e => e.2 := by
  induction h with
  | nil => rfl
  | cons _ e _ ih => rw [List.map_cons, List.map_cons, ih, e]
theorem vals_secondK {kvs : List (Key × V)} {xs : List (Key × Value)} (h : KV kvs xs) : Vals (kvs.map fun e => e.2) (xs.map fun e => e.2) := by
  induction h with
  | nil => exact .nil
  | cons a _ ih => exact .cons a.2 ih
section
variable {X : Cx} {e : Expr} {te : TE} {p apos cpos pos : Pos}
theorem pe_listValsK (hc : X.calm = true) (he : PE X e te) (hg : Gl X "list") (hm : X.mg "list" = none) (hv : bootBuiltins "list" = some (.type "list")) (hbase : attributeBase e "values" X.env (eval e X.env) = eval e X.env := by rfl) (hline : (apos.endLine == cpos.line) = true := by rfl)
    (hs : starEach [.Call (.Attribute e "values" apos) [] [] cpos] X.env = (false, eval (.Call (.Attribute e "values" apos) [] [] cpos) X.env) :: starEach [] X.env := by rfl) :
    PE X (.Call (.Name "list" p) [.Call (.Attribute e "values" apos) [] [] cpos] [] pos) (tListValsK te) := by
  refine ⟨fun pins s σ H Q I hq => ?_⟩
  refine wpAny_Call_Name_kw (ld_blt I hg hm hv ?_)
  refine PyProof.Rows.callWith_type1 ?_ hs rfl
  rw [hs]
  show wpAny _ _ (spliced ((false, eval (.Call (.Attribute e "values" apos) [] [] cpos) X.env) :: backTo pos (starEach [] X.env))) _ _ s
  refine Calls.spliced_cons ?_
  refine wpAny_Call_method (T := "dict") (id := "dict.values") hbase rfl hline F.plainAttrs_dict F.slot_dict_values F.type_dict_values (thn (he.run pins s σ H _ I hq) fun u s1 ⟨x, H1, I1, rx, d, kvs, ex, hd, q⟩ => ?_)
  subst ex
  obtain rfl : u = Value.ref d := rx
  obtain ⟨z, hs0, ks, pr, o, es, ep, ho, hx, hdt, hko, hp, hn⟩ := I1.hok d _ hd
  have raw : s1.heap.DictRaw d es ep := ⟨o, ho, hx, hdt⟩
  have I2 : Inv X pins σ H1 { s1 with heap := s1.heap.push { cls := .type "dict_values", data := .fields #[.ref d] } } := I1.kept (t' := s1.toks) fun b ob q => Heap.get?_push_of_some _ q
  refine ⟨raw.typeIs, fun b y => ?_, ?_⟩
  · cases y
    exact ⟨o, ho, hx.2.1⟩
  show wpAny _ _ (callWith cpos (.builtin "dict.values") [.ref d] [] []) _ X.xe s1
  refine method_meetsIn F.slot_dict_values F.entry_dict_values rfl (PySem.evalArgs_none ⟨rfl, raw.typeIs, F.args_dict_values_1 _, _, meets_dict_values_raw d hs0, ⟨⟨es, ep, raw⟩, ?_⟩⟩)
  refine Calls.spliced_nil ?_
  have l1 : es.size = ks.length := by rw [← Array.length_toList]; exact hp.length
  have l2 : kvs.length = ks.length := Paired.length pr
  refine PySem.W.kdl_call (src_vals (es := es) (ep := ep)) (I1.ok.hd hc) ⟨⟨_, Heap.get?_push_size _ rfl, rfl, rfl⟩, raw.at fun o y => Heap.get?_push_of_some _ y⟩ (by omega) fun h' tk acc c kp hS hacc => ?_
  have ea : acc.toList = ks.map fun y => y.2 := by
    rw [← pairs_val hp]
    have hl : acc.toList.length = es.toList.length := by rw [Array.length_toList, hacc.1, Array.length_toList]
    refine List.ext_getElem? fun j => ?_
    rw [List.getElem?_map]
    cases hj : acc.toList[j]? with
    | none =>
      have := List.getElem?_eq_none_iff.mp hj
      rw [List.getElem?_eq_none (by omega)]
      rfl
    | some v =>
      obtain ⟨hi, hv'⟩ := hacc.2 j v (by rw [← Array.getElem?_toList]; exact hj)
      rw [Array.getElem?_toList, Array.getElem?_eq_getElem hi, hv']
      rfl
  have rv : Vals (kvs.map fun y => y.2) acc.toList := by
    rw [ea]
    exact vals_secondK pr
  refine ⟨.ref _, _, I2.laid (t' := tk) (o := .lst (kvs.map fun y => y.2)) kp (Nat.le_refl _) ⟨?_, acc.toList, c, rv, by rw [Array.toArray_toList]; exact hS⟩, rfl, q _ (I2.hok.fresh (Nat.le_refl _))⟩
  rw [List.length_map]
  exact z
end
end Fw

set_option maxRecDepth 100000
set_option maxHeartbeats 1600000
namespace Fw
open PySem PySem.Spec PyProof.Rows L2 GxR
structure WdK (W : Wd) : Prop where
  in_ : W.In
  lb : ∀ p ∈ W.steps, 0 ≤ p.2.1 ∧ p.2.1 < 4
  n1 : 1 ≤ W.n
  n15 : W.n ≤ 15
section
variable {P : Program} {w : World} {K : PySem.W.Frag} {mg : Str → Option Value} {base : Heap} {C J B WC NC RC cA tA : Addr}
def spLis (K : PySem.W.Frag) (WC : Addr) : Sp := fun vs H Q _ => ∃ (p dx : Addr) (l f : Int) (ta tb d : Addr) (ras as : List Addr) (H0 : Hp) (W : Wd) (m : Nat), vs = [.ref p, .int (m : Nat)] ∧ WoE K WC H0 H p dx l f ta tb d ras as W.facts W.steps ∧ RTp H ras W.facts ∧ WdK W ∧
  ∀ t H', Same H H' → H t = none → H' t = some (.tup ((clsN (Lk W m) W.n).map V.int)) → Q (.ref t) H'
theorem ok_like_in_steps {f fA fU : Addr} {fd fdA fdU : FuncData} (FF : Fun K "like_in_steps" "like_in_steps" s_like_in_steps f fd) (T : Txt K mg C J B) (TC : TxtC K WC) (TN : TxtRo K RC) (h_Rounds : HasC P w K mg base "Rounds" RC 2 a_Rounds_init (spRo K RC))
    (m_Rounds_advance : Meth K RC "advance" fA) (g_Rounds_advance : FnOk P w K mg base CX0 3 fA fdA a_Rounds_advance (spAdv RC)) (b_Rounds_advance : L2.Binds K fdA a_Rounds_advance [])
    (m_Rounds_numbers : Meth K RC "numbers" fU) (g_Rounds_numbers : FnOk P w K mg base CX0 4 fU fdU a_Rounds_numbers (spNums RC)) (b_Rounds_numbers : L2.Binds K fdU a_Rounds_numbers []) : FnOk P w K mg base CX0 6 f fd a_like_in_steps (spLis K WC) := by
  refine FF.ok sc_like_in_steps (fun vs H Q E h => ?_) (fun cdv A outer s0 H vs Q E hr h => ?_)
  · obtain ⟨p, dx, l, f, ta, tb, d, ras, as, H0, W, m, rfl, _⟩ := h
    rfl
  · obtain ⟨wp, wdx, l, f, ta, tb, d, ras, as, H0, W, m, rfl, WE, rt, fo, k⟩ := h
    have hin := fo.in_
    have n15 := fo.n15
    refine ⟨_, (pss_cons (ps_set (i := 2) sc_like_in_steps.nd rfl (.inl rfl) (pe_makeH h_Rounds (hr.mono (by omega)) (pa_cons (pe_fld (pv 0) rfl) (pa_cons (pe_fld (pv 0) rfl) pa_nil))))
      (pss_cons (ps_set (i := 3) sc_like_in_steps.nd rfl (.inl rfl) (pv 1))
      (pss_cons (ps_while PassesOwn.never (PW.pt (pw_and (pt_cmpR op_gt (pv 3) pe_int (nomark _)) (pw_and1 (pt_val (pe_meth0 (pv 2) TN.cl m_Rounds_advance g_Rounds_advance (hr.mono (by omega)) b_Rounds_advance .nil pass0))))) (pss_one (ps_aug (i := 3) sc_like_in_steps.nd rfl (.inl rfl) pe_int ip_sub)))
      (pss_one (ps_ret (pe_meth0 (pv 2) TN.cl m_Rounds_numbers g_Rounds_numbers (hr.mono (by omega)) b_Rounds_numbers .nil pass0)))))), ?_⟩
    refine ⟨.ref wp, rfl, wp, WC, wdx, _, .ref ta, rfl, WE.ob, TC.cl, TC.nS, rfl, .ref wp, rfl, wp, WC, wdx, _, .ref tb, rfl, WE.ob, TC.cl, TC.nT, rfl, fun p dx hp hdx ndp => ?_⟩
    have sp1 : Same H (upd (upd H dx (.own p)) p (.ins RC dx [])) := fun b o e => by rw [upd_ne (ne_of_none e hp), upd_ne (ne_of_none e hdx)]; exact e
    have gp1 : (upd (upd H dx (.own p)) p (.ins RC dx [])) p = some (.ins RC dx []) := upd_same
    generalize upd (upd H dx (.own p)) p (.ins RC dx []) = H1 at sp1 gp1
    refine ⟨p, dx, ta, tb, ras, as, W, rfl, gp1, SqT.same sp1 WE.st, rt.map fun b ys e => sp1 _ _ e, SqT.same sp1 WE.sp, WE.tr.same sp1, hin, fo.lb, n15, fun a bas ls bs H2 ea b2 R2 => ⟨rfl, ?_⟩⟩
    subst ea
    have same_ : ∀ {G : Hp}, But a.p H1 G → Same H G := fun B b o e => B b o (ne_of_none e hp) (sp1 b o e)
    have sH2 := same_ b2
    refine ⟨.int (m : Nat), rfl, ?_⟩
    refine ⟨fun d σ G => ∃ (a' : RA) (r : Nat) (bs' fr' : List Nat), a'.p = a.p ∧ σ = [some (.ref wp), some (.int (m : Nat)), some (.ref a.p), some (.int (((m - r : Nat) : Nat) : Int))] ∧ Same H G ∧ Rst RC G a' bas W ls r bs' fr' ∧ r ≤ m ∧ d = m - r, ⟨_, a, 0, bs, bs, rfl, rfl, sH2, R2, Nat.zero_le _, rfl⟩, ?_⟩
    rintro d σ G ⟨a', r, bs', fr', ea, rfl, sG, R, rm, rfl⟩
    have nHp : H a'.p = none := by rw [ea]; exact hp
    refine ⟨.int _, rfl, _, 0, rfl, rfl, _, rfl, ?_⟩
    by_cases c : r = m
    · subst c
      rw [decide_eq_false (by omega)]
      refine iteF (iteF ?_)
      refine ⟨.ref a.p, rfl, a.p, a'.dx, _, rfl, by rw [← ea]; exact R.ob, rfl, a', bas, W, ls, r, bs', fr', by rw [ea]; rfl, R, n15, fun t G3 s3 nt gt => ?_⟩
      refine k t G3 (sG.trans s3) ?_ gt
      cases e : H t with
      | none => rfl
      | some u => rw [sG _ _ e] at nt; cases nt
    · rw [decide_eq_true (by omega)]
      refine iteT ⟨.ref a.p, rfl, a.p, a'.dx, _, rfl, by rw [← ea]; exact R.ob, rfl, a', bas, W, ls, r, bs', fr', by rw [ea]; rfl, R, hin, n15, fun a2 cs G2 e2 bG R' hcs => ⟨_, rfl, ?_⟩⟩
      have sG2 : Same H G2 := fun b o e => bG b o (ne_of_none e nHp) (sG b o e)
      by_cases fn : freshB bs' cs = []
      · have e0 : decide (0 < (freshB bs' cs).length) = false := by rw [fn]; rfl
        rw [e0]
        refine iteF ?_
        refine ⟨.ref a.p, rfl, a.p, a2.dx, _, rfl, by rw [← ea, ← e2]; exact R'.ob, rfl, a2, bas, W, ls, r + 1, _, _, by rw [e2, ea]; rfl, R', n15, fun t G3 s3 nt gt => ?_⟩
        have rest := R.ri.rest hin R.cut hcs fn
        refine k t G3 (sG2.trans s3) ?_ ?_
        · cases e : H t with
          | none => rfl
          | some u => rw [sG2 _ _ e] at nt; cases nt
        · rw [gt, clsN_congr (Lk.eqv W (r + 1) W.n) (R' := Lk W m) fun s t hs ht => ⟨fun h => Lk.rest hin rest (by omega) hs ht h.1, fun h => Lk.pred (by omega) h⟩]
      · have e0 : decide (0 < (freshB bs' cs).length) = true := decide_eq_true (List.length_pos_iff.mpr fn)
        rw [e0]
        refine iteT ⟨fun σ G => ∃ (a' : RA) (bs'' fr' : List Nat), a'.p = a.p ∧ σ = [some (.ref wp), some (.int (m : Nat)), some (.ref a.p), some (.int (((m - (r + 1) : Nat) : Nat) : Int))] ∧ Same H G ∧ Rst RC G a' bas W ls (r + 1) bs'' fr', ?_, ?_⟩
        · rintro σ' G' ⟨a3, bs3, fr3, e3, rfl, s3, R3⟩
          exact ⟨m - (r + 1), by omega, a3, r + 1, bs3, fr3, e3, rfl, s3, R3, by omega, rfl⟩
        refine ⟨.int _, rfl, _, 1, rfl, rfl, a2, _, _, e2.trans ea, ?_, sG2, R'⟩
        show [some (V.ref wp), some (V.int (m : Nat)), some (V.ref a.p), some (V.int (((m - r : Nat) : Int) - 1))] = _
        rw [show ((m - r : Nat) : Int) - 1 = ((m - (r + 1) : Nat) : Int) by omega]
def spFs (K : PySem.W.Frag) : Sp := fun vs H Q _ => ∃ (ra : Addr) (X : List Int) (n : Nat), vs = [.ref ra, .int (n : Nat)] ∧ SqT K H ra (X.map V.int) ∧ n ≤ 6 ∧ ∀ la ks H', Same H H' → H la = none → H' la = some (.lst ks) → AllF K H' ks (fsg X n) → Q (.ref la) H'
theorem ok_fact_signs {f : Addr} {fd : FuncData} (FF : Fun K "fact_signs" "fact_signs" s_fact_signs f fd) (T : Txt K mg C J B) : FnOk P w K mg base CX0 1 f fd a_fact_signs (spFs K) := by
  refine FF.ok sc_fact_signs (fun vs H Q E h => ?_) (fun cdv A outer s0 H vs Q E hr h => ?_)
  · obtain ⟨ra, X, n, rfl, _⟩ := h
    rfl
  · obtain ⟨ra, X, n, rfl, hX, n6, k⟩ := h
    refine ⟨_, (pss_one (ps_ret (pe_lc (own := [("fact", 2)]) (g := gName 2) rfl sc_fact_signs.nd (pi_range1 rfl T.z_range (pa_cons (pv 1) pa_nil)) (blkOk_by (own := [("fact", 2)]) (N := n_fact_signs) (sc := defScope s_fact_signs) (by decide +kernel)) (fun _ _ _ _ _ => (pg_name (i := 2) sc_fact_signs.nd rfl (.inl rfl))) (fun _ _ _ _ _ => pts_nil) (fun _ _ _ _ _ => (pe_tup (pa_cons (pe_ifExp (pt_cmpR (@id (OpR _ _ (rIn K false)) op_in_seq) (pv 2) (pv 0) (by rfl)) pe_str pe_str) (pa_cons (pv 2) pa_nil))))))), ?_⟩
    refine ⟨.int (n : Nat), rfl, _, rfl, by omega, by omega, fun D hD => ?_⟩
    rw [Int.toNat_natCast]
    refine lc_it walk_range (fun i G => Same H G ∧ ∃ ks, G D = some (.lst ks) ∧ AllF K G ks (fsg X i)) ⟨Same.new hD, [], upd_same, .nil⟩ (fun _ _ _ _ => trivial) ?_ ?_
    · rintro i x GX G hi ⟨sG, ks, gD, ak⟩ ⟨rfl, rfl⟩
      have e0 : (fun i : Nat => V.int (0 + (i : Int))) i = V.int (i : Nat) := by show V.int _ = _; rw [Int.zero_add]
      rw [e0]
      have kl := ak.len
      rw [fsg_len] at kl
      refine ⟨rfl, .int (i : Nat), rfl, .ref ra, rfl, ra, _, rfl, .inr (SqT.same sG hX), rfl, flat_ints _, ?_⟩
      rw [if_neg Bool.false_ne_true, in_ints]
      have snoc : fsg X (i + 1) = fsg X i ++ [.leaf (if ((i : Nat) : Int) ∈ X then .has else .lacks) (i : Nat)] := by
        unfold fsg
        rw [List.range_succ, List.map_append]
        rfl
      have go : ∀ kd : Leaf, (if ((i : Nat) : Int) ∈ X then Leaf.has else Leaf.lacks) = kd → ∀ tp, G tp = none → ∃ acc, (upd G tp (.tup [.str (wL kd), .int (i : Nat)])) D = some (.lst acc) ∧ acc.length < sizeLine ∧ Same H (upd (upd G tp (.tup [.str (wL kd), .int (i : Nat)])) D (.lst (acc ++ [.ref tp]))) ∧
          ∃ ks, (upd (upd G tp (.tup [.str (wL kd), .int (i : Nat)])) D (.lst (acc ++ [.ref tp]))) D = some (.lst ks) ∧ AllF K (upd (upd G tp (.tup [.str (wL kd), .int (i : Nat)])) D (.lst (acc ++ [.ref tp]))) ks (fsg X (i + 1)) := fun kd ek tp htp => by
        have s1 := Same.new (o := .tup [.str (wL kd), .int (i : Nat)]) htp
        have gD1 := s1 _ _ gD
        have lk : LKp (upd G tp (.tup [.str (wL kd), .int (i : Nat)])) (upd (upd G tp (.tup [.str (wL kd), .int (i : Nat)])) D (.lst (ks ++ [.ref tp]))) := LKp.upd gD1
        refine ⟨ks, gD1, small1000 (by omega), fun b o e => by rw [upd_ne (ne_of_none e hD)]; exact s1 _ _ (sG b o e), ks ++ [.ref tp], upd_same, ?_⟩
        rw [snoc, ek]
        exact ((ak.same s1).lk lk).app (.cons ((IsF.leaf (SqT.of upd_same)).lk lk) .nil)
      by_cases c : ((i : Nat) : Int) ∈ X
      · rw [decide_eq_true c]
        exact ⟨_, rfl, iteT ⟨.int (i : Nat), rfl, by show 2 ≤ sizeLine; decide, fun tp htp => go .has (if_pos c) tp htp⟩⟩
      · rw [decide_eq_false c]
        exact ⟨_, rfl, iteF ⟨.int (i : Nat), rfl, by show 2 ≤ sizeLine; decide, fun tp htp => go .lacks (if_neg c) tp htp⟩⟩
    · rintro G ⟨sG, ks, gD, ak⟩
      exact k D ks G sG hD gD ak
end
end Fw

set_option maxRecDepth 100000
set_option maxHeartbeats 1600000
namespace Fw
open PySem PySem.Spec PyProof.Rows L2 GxR
section
variable {P : Program} {w : World} {K : PySem.W.Frag} {mg : Str → Option Value} {base : Heap} {C J B WC NC RC cA tA : Addr}
def kvE (c : Nat → Int) (vf : Nat → V) (Es : List Nat) : List (Key × V) := Es.map fun z => (Sum.inl (c z), vf z)
theorem kvE_vals (c : Nat → Int) (vf : Nat → V) (Es : List Nat) : (kvE c vf Es).map (fun e => e.2) = Es.map vf := by
  unfold kvE
  rw [List.map_map]
  rfl
theorem kvE_keys (c : Nat → Int) (vf : Nat → V) (Es : List Nat) : (kvE c vf Es).map (·.1) = Es.map fun z => (Sum.inl (c z) : Key) := by
  unfold kvE
  rw [List.map_map]
  rfl
def spSS (K : PySem.W.Frag) (WC : Addr) : Sp := fun vs H Q _ => ∃ (p dx : Addr) (l f : Int) (ta tb d : Addr) (ras as : List Addr) (H0 : Hp) (W : Wd) (s L : Nat) (sga na : Addr) (vf : Nat → V) (fs : Nat → F) (c : Nat → Int), vs = [.ref p, .int (s : Nat), .int (L : Nat), .ref sga, .ref na] ∧
  WoE K WC H0 H p dx l f ta tb d ras as W.facts W.steps ∧ W.In ∧ W.n ≤ 15 ∧ s < W.n ∧ L ≤ 3 ∧ SqL K H sga ((List.range W.n).map vf) ∧ (∀ z, z < W.n → IsF K H (vf z) (fs z)) ∧ SqT K H na ((List.range W.n).map fun z => V.int (c z)) ∧
  ∀ la ks M H', Same H H' → H la = none → H' la = some (.lst ks) → AllF K H' ks M → Ss W s c fs L M → M.length ≤ 16 * L → Q (.ref la) H'
theorem ok_step_signs {f : Addr} {fd : FuncData} (FF : Fun K "step_signs" "step_signs" s_step_signs f fd) (T : Txt K mg C J B) (h_followers : Has P w K mg base "followers" 1 a_followers (spFol K WC))
    (h_any_of : Has P w K mg base "any_of" 2 a_any_of (spJoin K false)) : FnOk P w K mg base CX0 3 f fd a_step_signs (spSS K WC) := by
  refine FF.ok sc_step_signs (fun vs H Q E h => ?_) (fun cdv A outer s0 H vs Q E hr h => ?_)
  · obtain ⟨p, dx, l, f, ta, tb, d, ras, as, H0, W, s, L, sga, na, vf, fs, c, rfl, _⟩ := h
    rfl
  · obtain ⟨p, dx, l, f, ta, tb, d, ras, as, H0, W, s, L, sga, na, vf, fs, c, rfl, WE, hin, n15, hs, L3, hsg, hF, hna, k⟩ := h
    refine ⟨_, (pss_cons (ps_set (i := 5) sc_step_signs.nd rfl (.inl rfl) (pe_lst pa_nil))
      (pss_cons (ps_for PassesOwn.never rfl (pi_range1 rfl T.z_range (pa_cons (pv 2) pa_nil)) (pg_name (i := 6) sc_step_signs.nd rfl (.inr rfl)) (pss_cons (ps_set (i := 7) sc_step_signs.nd rfl (.inl rfl) pe_dnewK)
      (pss_cons (ps_for PassesOwn.never rfl (pi_list (pe_callH h_followers (hr.mono (by omega)) (pa_cons (pv 0) (pa_cons (pv 1) (pa_cons (pv 6) pa_nil))))) (pg_name (i := 8) sc_step_signs.nd rfl (.inl rfl)) (pss_one (ps_expr (pe_dsetd (pv 7) (pe_ix ix_tup (pv 4) (pv 8) (fun _ _ => rfl)) (pe_ix ix_list (pv 3) (pv 8) (fun _ _ => rfl)) ⟨rfl, rfl, rfl, rfl⟩))))
      (pss_cons (ps_set (i := 9) sc_step_signs.nd rfl (.inl rfl) (pe_listValsK rfl (pv 7) rfl T.z_list (by decide +kernel)))
      (pss_cons (ps_expr (pe_bm PySem.F.plainAttrs_list PySem.F.slot_list_extend PySem.F.type_list_extend mt_extend (pv 5) (pa_cons (pe_lc (own := [("sign", 10)]) (g := gName 10) rfl sc_step_signs.nd (pi_list (pv 9)) (blkOk_by (own := [("sign", 10)]) (N := n_step_signs) (sc := defScope s_step_signs) (by decide +kernel)) (fun _ _ _ _ _ => (pg_name (i := 10) sc_step_signs.nd rfl (.inl rfl))) (fun _ _ _ _ _ => pts_nil) (fun _ _ _ _ _ => (pe_tup (pa_cons pe_str (pa_cons (pv 6) (pa_cons (pv 10) pa_nil)))))) pa_nil)))
      (pss_one (ps_expr (pe_bm PySem.F.plainAttrs_list PySem.F.slot_list_append PySem.F.type_list_append mt_append (pv 5) (pa_cons (pe_tup (pa_cons pe_str (pa_cons (pv 6) (pa_cons (pe_callH h_any_of (hr.mono (by omega)) (pa_cons (pv 9) pa_nil)) pa_nil)))) pa_nil)))))))))
      (pss_one (ps_ret (pv 5))))), ?_⟩
    refine ⟨Nat.zero_le _, fun fo hfo => ?_⟩
    have s1 := Same.new (o := .lst []) hfo
    have gf1 : (upd H fo (.lst [])) fo = some (.lst []) := upd_same
    generalize upd H fo (.lst []) = H1 at s1 gf1
    refine ⟨.int (L : Nat), rfl, _, rfl, by omega, by omega, ?_⟩
    rw [Int.toNat_natCast]
    refine for_range (lo := 0) (n := L) (fun i σ G => ∃ (y6 y7 y8 y9 : Option V) (ks : List V) (M : List F), σ = [some (.ref p), some (.int (s : Nat)), some (.int (L : Nat)), some (.ref sga), some (.ref na), some (.ref fo), y6, y7, y8, y9, none] ∧ Same H G ∧ G fo = some (.lst ks) ∧ AllF K G ks M ∧ Ss W s c fs i M ∧ M.length ≤ 16 * i)
      ⟨none, none, none, none, [], [], rfl, s1, gf1, .nil, .nil, Nat.zero_le _⟩ ?_ ?_
    · rintro i σ G hi ⟨y6, y7, y8, y9, ks, M, rfl, sG, gfo, ak, S, ml⟩
      refine fun cd hcd => ?_
      have s2 := Same.new (o := .dK []) hcd
      have gcd : (upd G cd (.dK [])) cd = some (.dK (kvE c vf [])) := upd_same
      generalize upd G cd (.dK []) = G2 at s2 gcd
      have sG2 := sG.trans s2
      refine ⟨.ref p, rfl, .int (s : Nat), rfl, .int (0 + (i : Int)), rfl, H0, p, dx, l, f, ta, tb, d, ras, as, W.facts, W.steps, (s : Nat), 0 + (i : Int), rfl, WE.same sG2, fun b G3 s3 hb gb => ?_⟩
      rw [Int.zero_add] at gb ⊢
      have gcd3 := s3 _ _ gcd
      have ncd : ∀ {a o}, G a = some o → a ≠ cd := fun e z => by rw [z, hcd] at e; cases e
      have nH : ∀ {a o}, H a = some o → a ≠ cd := fun e => ncd (sG _ _ e)
      refine ⟨b, rfl, ⟨_, SqL.of gb⟩, for_list (xs := (begS W.steps (s : Nat) (i : Nat)).map V.int) (fun j σ F' => ∃ (y8 : Option V) (Es : List Nat), σ = [some (.ref p), some (.int (s : Nat)), some (.int (L : Nat)), some (.ref sga), some (.ref na), some (.ref fo), some (.int (i : Nat)), some (.ref cd), y8, y9, none] ∧ Same G F' ∧ F' cd = some (.dK (kvE c vf Es)) ∧ F' b = some (.lst ((begS W.steps (s : Nat) (i : Nat)).map V.int)) ∧
          (∀ z ∈ Es, ((z : Nat) : Int) ∈ W.beh (s : Int) (i : Int)) ∧ (∀ y ∈ (begS W.steps (s : Nat) (i : Nat)).take j, ∃ z ∈ Es, c z = c y.toNat) ∧ (Es.map c).Nodup)
        ⟨y8, [], rfl, s2.trans s3, gcd3, gb, (fun z h => by cases h), (fun y h => by simp at h), List.nodup_nil⟩ (fun j σ F' _ ⟨_, _, _, _, _, g, _⟩ => SqL.of g) ?_ ?_⟩
      · rintro j x σ F' hx ⟨y8', Es, rfl, sF, gc, gbF, sub, all, nd⟩
        obtain ⟨y, hy, rfl⟩ : ∃ y, (begS W.steps (s : Nat) (i : Nat))[j]? = some y ∧ V.int y = x := by
          rw [List.getElem?_map] at hx
          cases e : (begS W.steps (s : Nat) (i : Nat))[j]? with
          | none => rw [e] at hx; cases hx
          | some y => rw [e] at hx; exact ⟨y, rfl, Option.some.inj hx⟩
        have ym : y ∈ W.beh (s : Int) (i : Int) := List.mem_of_getElem? hy
        have y3 := hin.beh ym
        have yn : y.toNat < W.n := by omega
        have sHF := sG.trans sF
        have eo : EsOk W s (i : Int) c Es → Es.length ≤ W.n := fun h => h.len hin
        have el : Es.length ≤ W.n := by
          have nd' : Es.Nodup := List.Pairwise.imp (fun q e => q (by rw [e])) (List.pairwise_map.mp (List.nodup_iff_pairwise_ne.mp nd))
          have := L2.nat_nodup_len Es (List.range W.n) nd' fun z hz => List.mem_range.mpr (by have := hin.beh (sub z hz); omega)
          rwa [List.length_range] at this
        have aty : atI ((List.range W.n).map fun z => V.int (c z)) y = some (.int (c y.toNat)) := by
          have := atI_nat (j := y.toNat) (rmap_at (f := fun z => V.int (c z)) yn)
          rwa [Int.toNat_of_nonneg y3.1] at this
        have atv : atI ((List.range W.n).map vf) y = some (vf y.toNat) := by
          have := atI_nat (j := y.toNat) (rmap_at (f := vf) yn)
          rwa [Int.toNat_of_nonneg y3.1] at this
        refine ⟨.ref cd, rfl, cd, rfl, .inl ⟨_, .inl gc⟩, .ref na, rfl, .int y, rfl, na, _, y, .int (c y.toNat), rfl, rfl, SqT.same sHF hna, aty, .ref sga, rfl, .int y, rfl, sga, _, y, vf y.toNat, rfl, rfl, sHF.seq hsg, atv, kvE c vf Es, Sum.inl (c y.toNat), gc, rfl, ?_, fun v hv => ?_, fun hv => ?_⟩
        · unfold kvE
          rw [List.length_map]
          exact small1000 (by omega)
        · refine ⟨_, Es, rfl, sF, gc, gbF, sub, fun u hu => ?_, nd⟩
          rw [List.take_add_one, hy] at hu
          rcases List.mem_append.mp hu with q | q
          · exact all u q
          · rw [List.mem_singleton.mp q]
            have := valV_in hv
            rw [kvE_keys] at this
            obtain ⟨z, hz, e⟩ := List.mem_map.mp this
            exact ⟨z, hz, Sum.inl.inj e⟩
        · have new := valV_not hv
          rw [kvE_keys] at new
          rw [putK_new _ hv]
          refine ⟨_, Es ++ [y.toNat], rfl, fun a o e => by rw [upd_ne (ncd e)]; exact sF _ _ e, ?_, ?_, fun z hz => ?_, fun u hu => ?_, ?_⟩
          · rw [upd_same]
            unfold kvE
            rw [List.map_append]
            rfl
          · rw [upd_ne (ne_of gbF gc (by intro z; cases z))]
            exact gbF
          · rcases List.mem_append.mp hz with q | q
            · exact sub z q
            · rw [List.mem_singleton.mp q, Int.toNat_of_nonneg y3.1]
              exact ym
          · rw [List.take_add_one, hy] at hu
            rcases List.mem_append.mp hu with q | q
            · obtain ⟨z, hz, e⟩ := all u q
              exact ⟨z, List.mem_append_left _ hz, e⟩
            · rw [List.mem_singleton.mp q]
              exact ⟨_, List.mem_append_right _ List.mem_cons_self, rfl⟩
          · rw [List.map_append, List.map_cons, List.map_nil]
            refine List.nodup_append.mpr ⟨nd, List.pairwise_singleton _ _, fun a ha b hb e => ?_⟩
            rw [List.mem_singleton.mp hb] at e
            obtain ⟨z, hz, e2⟩ := List.mem_map.mp ha
            exact new (List.mem_map.mpr ⟨z, hz, by rw [e2, e]⟩)
      · rintro σ F' ⟨y8', Es, rfl, sF, gc, gbF, sub, all, nd⟩
        rw [List.length_map, List.take_length] at all
        have eo : EsOk W s (i : Int) c Es := ⟨sub, all, nd⟩
        have el := eo.len hin
        have zlt : ∀ z ∈ Es, z < W.n := fun z hz => by have := hin.beh (sub z hz); omega
        clear sub all nd gbF gb gcd3 gcd
        refine ⟨.ref cd, rfl, cd, _, rfl, gc, fun ea hea => ?_⟩
        rw [kvE_vals]
        have s4 := Same.new (o := .lst (Es.map vf)) hea
        have ge : (upd F' ea (.lst (Es.map vf))) ea = some (.lst (Es.map vf)) := upd_same
        generalize upd F' ea (.lst (Es.map vf)) = G4 at s4 ge
        have sG4 := sF.trans s4
        have sH4 := sG.trans sG4
        have gfo4 := sG4 _ _ gfo
        have ak4 := ak.same sG4
        have eaF : AllF K G4 (Es.map vf) (Es.map fs) := by
          have : ∀ (Zs : List Nat), (∀ z ∈ Zs, z < W.n) → AllF K G4 (Zs.map vf) (Zs.map fs) := fun Zs => by
            induction Zs with
            | nil => intro _; exact .nil
            | cons z Zs ih => exact fun h => .cons ((hF z (h z List.mem_cons_self)).same sH4) (ih fun x hx => h x (List.mem_cons_of_mem _ hx))
          exact this Es zlt
        refine ⟨.ref fo, rfl, .inl ⟨rfl, _, SqL.of gfo4⟩, .ref ea, rfl, ea, rfl, ⟨_, SqL.of ge⟩, fun D hD => ?_⟩
        refine lc_list (xs := Es.map vf) (fun j F2 => Same G4 F2 ∧ ∃ zs, F2 D = some (.lst zs) ∧ AllF K F2 zs ((Es.take j).map fun z => F.one .some (i : Int) (fs z))) ⟨Same.new hD, [], upd_same, .nil⟩ (fun j F2 _ q => SqL.of (q.1 _ _ ge)) ?_ ?_
        · rintro j x F2 hx ⟨s5, zs, gD, az⟩
          obtain ⟨z, hz, rfl⟩ : ∃ z, Es[j]? = some z ∧ vf z = x := by
            rw [List.getElem?_map] at hx
            cases e : Es[j]? with
            | none => rw [e] at hx; cases hx
            | some z => rw [e] at hx; exact ⟨z, rfl, Option.some.inj hx⟩
          have zn := zlt z (List.mem_of_getElem? hz)
          have az' := az.len
          rw [List.length_map, List.length_take] at az'
          refine ⟨rfl, .int (i : Nat), rfl, vf z, rfl, by show 3 ≤ sizeLine; decide, fun tp htp => ?_⟩
          have s6 := Same.new (o := .tup [.str (wO .some), .int (i : Nat), vf z]) htp
          have gD6 := s6 _ _ gD
          have nf : IsF K (upd F2 tp (.tup [.str (wO .some), .int (i : Nat), vf z])) (.ref tp) (.one .some (i : Nat) (fs z)) := .one (SqT.of upd_same) ((hF z zn).same ((sH4.trans s5).trans s6))
          have lk : LKp (upd F2 tp (.tup [.str (wO .some), .int (i : Nat), vf z])) (upd (upd F2 tp (.tup [.str (wO .some), .int (i : Nat), vf z])) D (.lst (zs ++ [.ref tp]))) := LKp.upd gD6
          refine ⟨zs, gD6, small1000 (by omega), fun b o e => by rw [upd_ne (ne_of_none e hD)]; exact s6 _ _ (s5 b o e), zs ++ [.ref tp], upd_same, ?_⟩
          rw [List.take_add_one, hz, List.map_append]
          exact ((az.same s6).lk lk).app (.cons (nf.lk lk) .nil)
        · rintro F2 ⟨s5, zs, gD, az⟩
          rw [List.length_map, List.take_length] at az
          have zl := az.len
          rw [List.length_map] at zl
          have gfo5 := s5 _ _ gfo4
          have ak5 := ak4.same s5
          have kl := ak.len
          refine ⟨fo, D, ks, zs, rfl, rfl, gfo5, gD, Nat.le_trans (show ks.length + zs.length ≤ 1000 by omega) (by decide), ?_⟩
          have lk1 : LKp F2 (upd F2 fo (.lst (ks ++ zs))) := LKp.upd gfo5
          have ak6 : AllF K (upd F2 fo (.lst (ks ++ zs))) (ks ++ zs) (M ++ Es.map fun z => F.one .some (i : Int) (fs z)) := (ak5.lk lk1).app (az.lk lk1)
          have gfo6 : (upd F2 fo (.lst (ks ++ zs))) fo = some (.lst (ks ++ zs)) := upd_same
          have nfo : ea ≠ fo := fun e => by rw [e] at hea; have := sF _ _ gfo; rw [this] at hea; cases hea
          have ge6 : (upd F2 fo (.lst (ks ++ zs))) ea = some (.lst (Es.map vf)) := by rw [upd_ne nfo]; exact s5 _ _ ge
          have eaF6 : AllF K (upd F2 fo (.lst (ks ++ zs))) (Es.map vf) (Es.map fs) := (eaF.same s5).lk lk1
          have sH6 : Same H (upd F2 fo (.lst (ks ++ zs))) := fun b o e => by rw [upd_ne (ne_of_none e hfo)]; exact s5 _ _ (sH4 b o e)
          generalize upd F2 fo (.lst (ks ++ zs)) = G6 at ak6 gfo6 ge6 eaF6 sH6
          refine ⟨.ref fo, rfl, .inl ⟨rfl, _, SqL.of gfo6⟩, .int (i : Nat), rfl, .ref ea, rfl, ea, Es.map vf, Es.map fs, rfl, SqL.of ge6, eaF6, by rw [List.length_map]; omega, fun v g G7 s7 hg Jg => ⟨by show 3 ≤ sizeLine; decide, fun tp htp => ?_⟩⟩
          have s8 := Same.new (o := .tup [.str (wO .all), .int (i : Nat), v]) htp
          have nf : IsF K (upd G7 tp (.tup [.str (wO .all), .int (i : Nat), v])) (.ref tp) (.one .all (i : Nat) g) := .one (SqT.of upd_same) (hg.same s8)
          have gfo8 := s8 _ _ (s7 _ _ gfo6)
          have ak8 := ak6.same (s7.trans s8)
          have sH8 := sH6.trans (s7.trans s8)
          refine ⟨fo, _, _, rfl, rfl, gfo8, small1000 (by have e1 := List.length_append (as := ks) (bs := zs); omega), ?_⟩
          have lk2 : LKp (upd G7 tp (.tup [.str (wO .all), .int (i : Nat), v])) (upd (upd G7 tp (.tup [.str (wO .all), .int (i : Nat), v])) fo (.lst ((ks ++ zs) ++ [.ref tp]))) := LKp.upd gfo8
          refine ⟨_, _, _, _, _, _, rfl, fun b o e => by rw [upd_ne (ne_of_none e hfo)]; exact sH8 b o e, upd_same, (ak8.lk lk2).app (.cons (nf.lk lk2) .nil), S.snoc eo Jg, ?_⟩
          simp only [List.length_append, List.length_map, List.length_cons, List.length_nil]
          omega
    · rintro σ G ⟨y6, y7, y8, y9, ks, M, rfl, sG, gfo, ak, S, ml⟩
      exact ⟨.ref fo, rfl, k fo ks M G sG hfo gfo ak S ml⟩
end
end Fw

set_option maxRecDepth 100000
set_option maxHeartbeats 1600000
namespace Fw
open PySem PySem.Spec PyProof.Rows L2 GxR
/-- signs of k steps, of all states -/
structure SgsAt (K : PySem.W.Frag) (H : Hp) (W : Wd) (Fc k : Nat) (a : Addr) (vf : Nat → V) (fs : Nat → F) : Prop where
  at_ : H a = some (.lst ((List.range W.n).map vf))
  is : ∀ z, z < W.n → IsF K H (vf z) (fs z)
  sg : ∀ z, z < W.n → Sg W 2 Fc k z (fs z)
theorem SgsAt.same {K : PySem.W.Frag} {H H' : Hp} {W : Wd} {Fc k : Nat} {a : Addr} {vf : Nat → V} {fs : Nat → F} (s : Same H H') (h : SgsAt K H W Fc k a vf fs) : SgsAt K H' W Fc k a vf fs := ⟨s _ _ h.at_, fun z hz => (h.is z hz).same s, h.sg⟩
theorem SgsAt.of {K : PySem.W.Frag} {H : Hp} {W : Wd} {Fc k : Nat} {a : Addr} {gs : List V} {fl : List F} (h : H a = some (.lst gs)) (ak : AllF K H gs fl) (len : fl.length = W.n) (sg : ∀ (j : Nat) f, fl[j]? = some f → Sg W 2 Fc k j f) : ∃ vf fs, SgsAt K H W Fc k a vf fs := by
  have gl := ak.len
  have g1 : ∀ z, z < W.n → gs[z]? = some (gs.getD z .non) := fun z hz => by rw [List.getD_eq_getElem?_getD, List.getElem?_eq_getElem (by omega)]; rfl
  have g2 : ∀ z, z < W.n → fl[z]? = some (fl.getD z (.nul true)) := fun z hz => by rw [List.getD_eq_getElem?_getD, List.getElem?_eq_getElem (by omega)]; rfl
  refine ⟨fun z => gs.getD z .non, fun z => fl.getD z (.nul true), ?_, fun z hz => ak.get (g1 z hz) (g2 z hz), fun z hz => sg z _ (g2 z hz)⟩
  rw [h]
  congr 2
  refine List.ext_getElem? fun i => ?_
  rw [List.getElem?_map]
  by_cases hi : i < W.n
  · rw [g1 i hi, List.getElem?_range hi]; rfl
  · rw [List.getElem?_eq_none (by omega), List.getElem?_eq_none (by rw [List.length_range]; omega)]; rfl
section
variable {P : Program} {w : World} {K : PySem.W.Frag} {mg : Str → Option Value} {base : Heap} {C J B WC NC RC cA tA : Addr}
def spGli (K : PySem.W.Frag) (WC : Addr) : Sp := fun vs H Q _ => ∃ (p dx : Addr) (l f : Int) (ta tb d : Addr) (ras as : List Addr) (H0 : Hp) (W : Wd) (s Fc m : Nat), vs = [.ref p, .int (s : Nat), .int 2, .int (Fc : Nat), .int (m : Nat)] ∧
  WoE K WC H0 H p dx l f ta tb d ras as W.facts W.steps ∧ RTp H ras W.facts ∧ WdK W ∧ W.n ≤ 4 ∧ Fc ≤ 2 ∧ s < W.n ∧ m ≤ 3 ∧ ∀ v g H', Same H H' → IsF K H' v g → Sg W 2 Fc m s g → Q v H'
theorem ok_glimpse {f : Addr} {fd : FuncData} (FF : Fun K "glimpse" "glimpse" s_glimpse f fd) (T : Txt K mg C J B) (TC : TxtC K WC) (h_like_in_steps : Has P w K mg base "like_in_steps" 6 a_like_in_steps (spLis K WC)) (h_fact_signs : Has P w K mg base "fact_signs" 1 a_fact_signs (spFs K))
    (h_step_signs : Has P w K mg base "step_signs" 3 a_step_signs (spSS K WC)) (h_all_of : Has P w K mg base "all_of" 2 a_all_of (spJoin K true)) : FnOk P w K mg base CX0 7 f fd a_glimpse (spGli K WC) := by
  refine FF.ok sc_glimpse (fun vs H Q E h => ?_) (fun cdv A outer s0 H vs Q E hr h => ?_)
  · obtain ⟨p, dx, l, f, ta, tb, d, ras, as, H0, W, s, Fc, m, rfl, _⟩ := h
    rfl
  · obtain ⟨wp, wdx, l, f, ta, tb, d, ras, as, H0, W, s, Fc, m, rfl, WE, rt, fo, n4, f2, hs, m3, k⟩ := h
    have hin := fo.in_
    have n1 := fo.n1
    have rl : ras.length = W.n := rt.1
    refine ⟨_, (pss_cons (ps_set (i := 5) sc_glimpse.nd rfl (.inr rfl) (pe_lc (own := [("row", 9)]) (g := gName 9) rfl sc_glimpse.nd (pi_tup (pe_fld (pv 0) rfl)) (blkOk_by (own := [("row", 9)]) (N := n_glimpse) (sc := defScope s_glimpse) (by decide +kernel)) (fun _ _ _ _ _ => (pg_name (i := 9) sc_glimpse.nd rfl (.inl rfl))) (fun _ _ _ _ _ => pts_nil) (fun _ _ _ _ _ => (pe_callH h_fact_signs (hr.mono (by omega)) (pa_cons (pv 9) (pa_cons (pv 3) pa_nil))))))
      (pss_cons (ps_set (i := 6) sc_glimpse.nd rfl (.inr rfl) (pe_lc (own := [("statements", 10)]) (g := gName 10) rfl sc_glimpse.nd (pi_list (pv 5)) (blkOk_by (own := [("statements", 10)]) (N := n_glimpse) (sc := defScope s_glimpse) (by decide +kernel)) (fun _ _ _ _ _ => (pg_name (i := 10) sc_glimpse.nd rfl (.inl rfl))) (fun _ _ _ _ _ => pts_nil) (fun _ _ _ _ _ => (pe_callH h_all_of (hr.mono (by omega)) (pa_cons (pv 10) pa_nil)))))
      (pss_cons (ps_for PassesOwn.never rfl (pi_range1 rfl T.z_range (pa_cons (pv 4) pa_nil)) (pg_name (i := 7) sc_glimpse.nd rfl (.inl rfl)) (pss_cons (ps_set (i := 8) sc_glimpse.nd rfl (.inr rfl) (pe_callH h_like_in_steps (hr.mono (by omega)) (pa_cons (pv 0) (pa_cons (pv 7) pa_nil))))
      (pss_one (ps_set (i := 6) sc_glimpse.nd rfl (.inr rfl) (pe_lc (own := [("at", 11)]) (g := gName 11) rfl sc_glimpse.nd (pi_range1 rfl T.z_range (pa_cons (pe_callB call_len_seq rfl T.z_len (by decide +kernel) (pa_cons (pe_fld (pv 0) rfl) pa_nil)) pa_nil)) (blkOk_by (own := [("at", 11)]) (N := n_glimpse) (sc := defScope s_glimpse) (by decide +kernel)) (fun _ _ _ _ _ => (pg_name (i := 11) sc_glimpse.nd rfl (.inl rfl))) (fun _ _ _ _ _ => pts_nil) (fun _ _ _ _ _ => (pe_callH h_all_of (hr.mono (by omega)) (pa_cons (pe_op op_cat (pe_ix (@id (IxR _ (rIxL K)) ix_list) (pv 5) (pv 11) (fun _ _ => rfl)) (pe_callH h_step_signs (hr.mono (by omega)) (pa_cons (pv 0) (pa_cons (pv 11) (pa_cons (pv 2) (pa_cons (pv 6) (pa_cons (pv 8) pa_nil))))))) pa_nil))))))))
      (pss_one (ps_ret (pe_ix ix_list (pv 6) (pv 1) (fun _ _ => rfl))))))), ?_⟩
    refine ⟨.ref wp, rfl, wp, WC, wdx, _, .ref ta, rfl, WE.ob, TC.cl, TC.nS, rfl, ta, rfl, ⟨_, WE.st⟩, fun D1 hD1 => ?_⟩
    refine lc_it (walk_tup (xs := ras.map V.ref)) (fun i G => Same H G ∧ ∃ hs : List Addr, G D1 = some (.lst (hs.map V.ref)) ∧ hs.length = i ∧ ∀ (j : Nat) a, hs[j]? = some a → a ≠ D1 ∧ ∃ ks, G a = some (.lst ks) ∧ AllF K G ks (fsg (W.at (j : Int)) Fc)) ⟨Same.new hD1, [], upd_same, rfl, fun j a e => by simp at e⟩ (fun i G _ q => SqT.same q.1 WE.st) ?_ ?_
    · rintro i x G0 G hi ⟨sG, hs', gD, hl, hh⟩ ⟨rfl, hx⟩
      have hi' : i < W.n := by rw [List.length_map] at hi; omega
      obtain ⟨a, ha, rfl⟩ : ∃ a, ras[i]? = some a ∧ V.ref a = x := by
        rw [List.getElem?_map] at hx
        cases e : ras[i]? with
        | none => rw [e] at hx; cases hx
        | some a => rw [e] at hx; exact ⟨a, rfl, Option.some.inj hx⟩
      have hfi : W.facts[i]? = some (W.at (i : Int)) := by
        unfold Wd.at
        rw [Int.toNat_natCast, List.getElem?_eq_getElem hi']
        rfl
      have ga := sG _ _ (rt.2 i a _ ha hfi)
      refine ⟨rfl, .ref a, rfl, .int (Fc : Nat), rfl, a, W.at (i : Int), Fc, rfl, SqT.of ga, by omega, fun la ks G2 s2 nl gl ak => ?_⟩
      have gD2 := s2 _ _ gD
      have nlD : la ≠ D1 := fun e => by rw [e, gD] at nl; cases nl
      have lk : LKp G2 (upd G2 D1 (.lst (hs'.map V.ref ++ [.ref la]))) := LKp.upd gD2
      refine ⟨_, gD2, by rw [List.length_map]; exact small1000 (by omega), fun b o e => by rw [upd_ne (ne_of_none e hD1)]; exact s2 _ _ (sG b o e), hs' ++ [la], by rw [upd_same, List.map_append]; rfl, by rw [List.length_append, List.length_singleton, hl], fun j b e => ?_⟩
      rcases get_snoc e with e1 | ⟨e1, rfl⟩
      · obtain ⟨h1, ks', h2, h3⟩ := hh j b e1
        exact ⟨h1, ks', by rw [upd_ne h1]; exact s2 _ _ h2, (h3.same s2).lk lk⟩
      · rw [show (j : Int) = (i : Int) by omega]
        exact ⟨nlD, ks, by rw [upd_ne nlD]; exact gl, ak.lk lk⟩
    rintro G1 ⟨s1, hs', gD1, hl, hh⟩
    rw [List.length_map, rl] at hl
    have hget : ∀ {G : Hp} {i : Nat}, Same G1 G → i < W.n → ∃ a ks, hs'[i]? = some a ∧ G a = some (.lst ks) ∧ AllF K G ks (fsg (W.at (i : Int)) Fc) := fun {G i} sG hi => by
      have e : hs'[i]? = some hs'[i] := List.getElem?_eq_getElem (by omega)
      obtain ⟨_, ks, h2, h3⟩ := hh i _ e
      exact ⟨_, ks, e, sG _ _ h2, h3.same sG⟩
    clear hh
    refine ⟨.ref D1, rfl, D1, rfl, ⟨_, SqL.of gD1⟩, fun D2 hD2 => ?_⟩
    refine lc_list (xs := hs'.map V.ref) (fun i G => Same G1 G ∧ ∃ gs fl, G D2 = some (.lst gs) ∧ AllF K G gs fl ∧ fl.length = i ∧ ∀ (j : Nat) f, fl[j]? = some f → Sg W 2 Fc 0 j f) ⟨Same.new hD2, [], [], upd_same, .nil, rfl, fun j f e => by simp at e⟩ (fun i G _ q => SqL.of (q.1 _ _ gD1)) ?_ ?_
    · rintro i x G hx ⟨sG, gs, fl, gD, ak, fll, sg⟩
      have hi : i < W.n := by have := get_len hx; rwa [List.length_map, hl] at this
      obtain ⟨a, ks, ea, ga, aF⟩ := hget sG hi
      rw [List.getElem?_map, ea] at hx
      obtain rfl := Option.some.inj hx
      refine ⟨rfl, .ref a, rfl, a, ks, _, rfl, SqL.of ga, aF, by rw [fsg_len]; omega, fun v g G2 s2 hg Jg => ?_⟩
      have gD2 := s2 _ _ gD
      have lk : LKp G2 (upd G2 D2 (.lst (gs ++ [v]))) := LKp.upd gD2
      have gl := ak.len
      refine ⟨gs, gD2, small1000 (by omega), fun b o e => by rw [upd_ne (ne_of_none e hD2)]; exact s2 _ _ (sG b o e), gs ++ [v], fl ++ [g], upd_same, ((ak.same s2).lk lk).app (.cons (hg.lk lk) .nil), by rw [List.length_append, List.length_singleton, fll], fun j f e => ?_⟩
      rcases get_snoc e with e1 | ⟨e1, rfl⟩
      · exact sg j f e1
      · rw [show j = i by omega]
        exact Sg.zero f2 hi Jg
    rintro G2 ⟨s2, gs, fl, gD2, ak, fll, sg⟩
    rw [List.length_map, hl] at fll
    obtain ⟨vf0, fs0, S0⟩ := SgsAt.of gD2 ak fll sg
    clear gs fl gD2 ak fll sg
    refine ⟨.int (m : Nat), rfl, _, rfl, by omega, by omega, ?_⟩
    rw [Int.toNat_natCast]
    refine for_range (lo := 0) (n := m) (fun r σ G => ∃ (y7 y8 : Option V) (sa : Addr) (vf : Nat → V) (fs : Nat → F), σ = [some (.ref wp), some (.int (s : Nat)), some (.int 2), some (.int (Fc : Nat)), some (.int (m : Nat)), some (.ref D1), some (.ref sa), y7, y8, none, none, none] ∧ Same G1 G ∧ SgsAt K G W Fc r sa vf fs)
      ⟨none, none, D2, vf0, fs0, rfl, s2, S0⟩ ?_ ?_
    · rintro r σ G hr' ⟨y7, y8, sa, vf, fs, rfl, sG, S⟩
      have sHG := s1.trans sG
      refine ⟨.ref wp, rfl, .int (0 + (r : Int)), rfl, wp, wdx, l, f, ta, tb, d, ras, as, H0, W, r, by rw [Int.zero_add]; rfl, WE.same sHG, rt.map fun b ys e => sHG _ _ e, fo, fun na G3 s3 nn gn => ?_⟩
      have sHG3 := sHG.trans s3
      have S3 := S.same s3
      have gD13 := s3 _ _ (sG _ _ gD1)
      have hc : ∀ u v, u < W.n → v < W.n → ((((numC (Lk W r) u : Nat) : Int) = ((numC (Lk W r) v : Nat) : Int)) ↔ Lk W r u v) := fun u v hu hv => by
        rw [← num_eq (Lk.eqv W r W.n) hu hv]
        omega
      have gn' : SqT K G3 na ((List.range W.n).map fun z => V.int ((numC (Lk W r) z : Nat) : Int)) := by
        have := SqT.of (K := K) gn
        unfold clsN at this
        rw [List.map_map] at this
        exact this
      have WE3 := WE.same sHG3
      refine ⟨.ref wp, rfl, wp, WC, wdx, _, .ref ta, rfl, WE3.ob, TC.cl, TC.nS, rfl, ta, _, rfl, .inr WE3.st, ?_⟩
      rw [List.length_map, rl]
      refine ⟨_, rfl, by omega, by omega, fun D3 hD3 => ?_⟩
      rw [Int.toNat_natCast]
      refine lc_it walk_range (fun i G => Same G3 G ∧ ∃ gs fl, G D3 = some (.lst gs) ∧ AllF K G gs fl ∧ fl.length = i ∧ ∀ (j : Nat) f, fl[j]? = some f → Sg W 2 Fc (r + 1) j f) ⟨Same.new hD3, [], [], upd_same, .nil, rfl, fun j f e => by simp at e⟩ (fun _ _ _ _ => trivial) ?_ ?_
      · rintro i x GX G4 hi ⟨s4, gs, fl, gD, ak, fll, sg⟩ ⟨rfl, rfl⟩
        have e0 : (fun i : Nat => V.int (0 + (i : Int))) i = V.int (i : Nat) := by show V.int _ = _; rw [Int.zero_add]
        rw [e0]
        have s14 := (sG.trans s3).trans s4
        obtain ⟨a, ks, ea, ga, aF⟩ := hget s14 hi
        have S4 := S3.same s4
        refine ⟨rfl, .ref D1, rfl, .int (i : Nat), rfl, D1, _, (i : Nat), .ref a, rfl, rfl, SqL.of (s4 _ _ gD13), atI_nat (j := i) (by rw [List.getElem?_map, ea]; rfl), .ref wp, rfl, .int (i : Nat), rfl, .int 2, rfl, .ref sa, rfl, .ref na, rfl, wp, wdx, l, f, ta, tb, d, ras, as, H0, W, i, 2, sa, na, vf, fs, fun z => ((numC (Lk W r) z : Nat) : Int), rfl, WE3.same s4, hin, by omega, hi, by decide, SqL.of S4.at_, S4.is, SqT.same s4 gn', fun la ks2 M G5 s5 nl gl ak2 SS ml => ?_⟩
        have aF5 := aF.same s5
        have kl := aF.len
        have kl2 := ak2.len
        rw [fsg_len] at kl
        refine ⟨a, la, ks, ks2, rfl, rfl, s5 _ _ ga, gl, Nat.le_trans (show ks.length + ks2.length ≤ 1000 by omega) (by decide), fun q hq => ?_⟩
        have s6 := Same.new (o := .lst (ks ++ ks2)) hq
        have gq : (upd G5 q (.lst (ks ++ ks2))) q = some (.lst (ks ++ ks2)) := upd_same
        refine ⟨q, ks ++ ks2, fsg (W.at (i : Int)) Fc ++ M, rfl, SqL.of gq, (aF5.same s6).app (ak2.same s6), by rw [List.length_append, fsg_len]; omega, fun v g G7 s7 hg Jg => ?_⟩
        have s47 := (s5.trans s6).trans s7
        have gD7 := s47 _ _ gD
        have lk : LKp G7 (upd G7 D3 (.lst (gs ++ [v]))) := LKp.upd gD7
        have gl' := ak.len
        refine ⟨gs, gD7, small1000 (by omega), fun b o e => by rw [upd_ne (ne_of_none e hD3)]; exact s47 _ _ (s4 b o e), gs ++ [v], fl ++ [g], upd_same, ((ak.same s47).lk lk).app (.cons (hg.lk lk) .nil), by rw [List.length_append, List.length_singleton, fll], fun j f e => ?_⟩
        rcases get_snoc e with e1 | ⟨e1, rfl⟩
        · exact sg j f e1
        · rw [show j = i by omega]
          exact Sg.step hin n4 f2 hi S.sg hc SS Jg
      · rintro G4 ⟨s4, gs, fl, gD, ak, fll, sg⟩
        obtain ⟨vf', fs', S'⟩ := SgsAt.of gD ak fll sg
        exact ⟨_, _, D3, vf', fs', rfl, (sG.trans s3).trans s4, S'⟩
    · rintro σ G ⟨y7, y8, sa, vf, fs, rfl, sG, S⟩
      exact ⟨.ref sa, rfl, .int (s : Nat), rfl, sa, _, (s : Nat), vf s, rfl, rfl, SqL.of S.at_, atI_nat (j := s) (rmap_at hs), k (vf s) (fs s) G (s1.trans sG) (S.is s hs) (S.sg s hs)⟩
end
end Fw

set_option maxRecDepth 100000
set_option maxHeartbeats 1600000
namespace Fw
open PySem PySem.Spec PyProof.Rows L2 GxR
theorem var_word {hd : Hd} (nv : ∀ x, hd ≠ .leaf .var x) : V.str (hw hd) ≠ V.str "var" := by
  cases hd with
  | nul b => exact nv_N b
  | two b => exact nv_T b
  | one k _ => exact nv_O k
  | leaf k x =>
    cases k with
    | var => exact absurd rfl (nv x)
    | has => exact nv_has
    | lacks => exact nv_lacks
theorem PAt.app {H : Hp} {as bs : List Addr} {Xs Ys : List T3} (h : PAt H as Xs) (h2 : PAt H bs Ys) : PAt H (as ++ bs) (Xs ++ Ys) :=
  ⟨by rw [List.length_append, List.length_append, h.1, h2.1], fun i a X e1 e2 => by
    by_cases c : i < as.length
    · rw [List.getElem?_append_left c] at e1
      rw [List.getElem?_append_left (by rw [← h.1]; exact c)] at e2
      exact h.2 i a X e1 e2
    · rw [List.getElem?_append_right (by omega)] at e1
      rw [List.getElem?_append_right (by have := h.1; omega), ← h.1] at e2
      exact h2.2 _ a X e1 e2⟩
theorem mvS_take {n : Int} {ss : List T3} {i : Nat} {q : T3} (h : ss[i]? = some q) : mvS n (ss.take (i + 1)) = mvS n (ss.take i) ++ [(q.1 + n, q.2.1, q.2.2 + n)] := by
  rw [List.take_add_one, h]
  unfold mvS
  rw [List.map_append]
  rfl
theorem FAt.app {H : Hp} {as bs : List Addr} {Xs Ys : List (List Int)} (h : FAt H as Xs) (h2 : FAt H bs Ys) : FAt H (as ++ bs) (Xs ++ Ys) :=
  ⟨by rw [List.length_append, List.length_append, h.1, h2.1], fun i a X e1 e2 => by
    by_cases c : i < as.length
    · rw [List.getElem?_append_left c] at e1
      rw [List.getElem?_append_left (by rw [← h.1]; exact c)] at e2
      exact h.2 i a X e1 e2
    · rw [List.getElem?_append_right (by omega)] at e1
      rw [List.getElem?_append_right (by have := h.1; omega), ← h.1] at e2
      exact h2.2 _ a X e1 e2⟩
theorem Mo.nnG : ∀ {t : F}, Mo t → NN t
  | .nul _, _ => trivial
  | .leaf _ _, h => h.2
  | .two _ f g, h => ⟨Mo.nnG h.1, Mo.nnG h.2⟩
  | .one _ _ f, h => ⟨h.2.1, Mo.nnG h.2.2⟩
theorem Mo.kidG {t f : F} (h : Mo t) (m : f ∈ t.kids) : Mo f := by
  cases t with
  | nul b => cases m
  | leaf k n => cases m
  | two b g g' =>
    simp only [F.kids, List.mem_cons, List.not_mem_nil, or_false] at m
    rcases m with rfl | rfl
    · exact h.1
    · exact h.2
  | one k n g =>
    simp only [F.kids, List.mem_cons, List.not_mem_nil, or_false] at m
    rw [m]
    exact h.2.2
def besW (V1 V2 : Wd) : Wd := ⟨V1.facts ++ V2.facts, V1.steps ++ mvS V1.n V2.steps⟩
theorem dInts_shaped (ns : List Int) : SeqAt.shaped (.tuple (ns.map PyData.int)) = true := by
  unfold SeqAt.shaped
  simp [PyData.canLay0, PyData.depth, ints_lay, ints_depth]
theorem dInts_same (ns : List Int) : PyData.eqv (.tuple (ns.map PyData.int)) (.tuple (ns.map PyData.int)) = true := SeqAt.eqv_refl _ (by simp [PyData.canLay0, ints_lay])
section
variable {P : Program} {w : World} {K : PySem.W.Frag} {mg : Str → Option Value} {base : Heap} {C J B WC NC RC cA tA : Addr}
def spFrM (K : PySem.W.Frag) : Nat → Sp
  | 0 => fun _ _ _ _ => False
  | n + 1 => fun vs H Q _ => ∃ (v : V) (t : F) (ba : Addr), vs = [v, .ref ba] ∧ IsF K H v t ∧ t.depth ≤ n + 1 ∧ Mo t ∧ IL H ba [] ∧ ∀ l H', Same H H' → IL H' l [] → Q (.ref l) H'
theorem ok_law_free {f : Addr} {fd : FuncData} (n : Nat) (FF : Fun K "_law_free" "_law_free" s_law_free f fd) (T : Txt K mg C J B) (h_law_inner : Has P w K mg base "_law_inner" 1 a_law_inner (spInner K))
    (h_law_free : Has P w K mg base "_law_free" (n + 1) a_law_free (spFrM K n)) : FnOk P w K mg base CX0 (n + 2) f fd a_law_free (spFrM K (n + 1)) := by
  refine FF.ok sc_law_free (fun vs H Q E h => ?_) (fun cdv A outer s H vs Q E hr h => ?_)
  · obtain ⟨v, t, ba, rfl, _⟩ := h
    rfl
  · obtain ⟨v, t, ba, rfl, ht, hdep, mo, hB, k⟩ := h
    refine ⟨_, (pss_cons (ps_if (pt_cmpR op_eq (pe_ix ix_tup (pv 0) pe_int (fun _ _ => rfl)) pe_str (nomark _)) (pss_one (ps_ret (pe_ifExp (pt_cmpR op_notIn_seq (pe_ix ix_tup (pv 0) pe_int (fun _ _ => rfl)) (pv 1) (by rfl)) (pe_lst (pa_cons (pe_ix ix_tup (pv 0) pe_int (fun _ _ => rfl)) pa_nil)) (pe_lst pa_nil)))) pss_nil)
      (pss_cons (ps_if (pt_cmpR op_in_seq (pe_ix ix_tup (pv 0) pe_int (fun _ _ => rfl)) (pe_tup (pa_cons pe_str (pa_cons pe_str pa_nil))) (by rfl)) (pss_one (ps_ret (pe_callH h_law_free (hr.mono (by omega)) (pa_cons (pe_ix ix_tup (pv 0) pe_int (fun _ _ => rfl)) (pa_cons (pe_op op_cat (pv 1) (pe_lst (pa_cons (pe_ix ix_tup (pv 0) pe_int (fun _ _ => rfl)) pa_nil))) pa_nil))))) pss_nil)
      (pss_cons (ps_set (i := 2) sc_law_free.nd rfl (.inl rfl) (pe_lst pa_nil))
      (pss_cons (ps_for PassesOwn.never rfl (pi_list (pe_callH h_law_inner (hr.mono (by omega)) (pa_cons (pv 0) pa_nil))) (pg_name (i := 3) sc_law_free.nd rfl (.inl rfl)) (pss_one (ps_set (i := 2) sc_law_free.nd rfl (.inl rfl) (pe_op op_cat (pv 2) (pe_callH h_law_free (hr.mono (by omega)) (pa_cons (pv 3) (pa_cons (pv 1) pa_nil)))))))
      (pss_one (ps_ret (pv 2))))))), ?_⟩
    obtain ⟨a, ks, rfl, sq, ak⟩ := ht.open
    have at0 : atI (hv t.hd ++ ks) 0 = some (.str (hw t.hd)) := atI_nat (j := 0) (by rw [List.getElem?_append_left (by rcases hv_len t.hd with e | e <;> omega)]; exact hv_head _)
    refine ⟨.ref a, rfl, a, _, _, _, rfl, rfl, sq, at0, rfl, _, rfl, ?_⟩
    have hvar : ¬ ∃ x, t = .leaf .var x := by rintro ⟨x, rfl⟩; exact mo.1 rfl
    have hb : isB t = false := by
      cases t with
      | one kd n f => exact mo.1
      | _ => rfl
    refine (if_neg (by rw [decide_eq_false (var_word (hd := t.hd) fun x e => hvar ⟨x, by cases t <;> cases e; rfl⟩)]; exact Bool.false_ne_true)).mpr ?_
    refine ⟨.ref a, rfl, a, _, _, _, rfl, rfl, sq, at0, by show 2 ≤ sizeLine; decide, fun p hp => ⟨p, _, rfl, .inr (SqT.of upd_same), rfl, rfl, _, rfl, ?_⟩⟩
    rw [if_neg Bool.false_ne_true, in_binders, isB_hdJ]
    have s1 := Same.new (o := .tup [.str "least", .str "most"]) hp
    generalize upd H p (.tup [.str "least", .str "most"]) = H1 at s1
    have sq1 := SqT.same s1 sq
    have ak1 := ak.lk (LKp.same s1)
    have hB1 := s1 _ _ hB
    rw [hb]
    refine iteF ?_
    refine ⟨Nat.zero_le _, fun fo hfo => ?_⟩
    have s2 := Same.new (o := .lst []) hfo
    refine ⟨.ref a, rfl, .ref a, t, rfl, (ht.same s1).same s2, fun l ks' H3 s3 hl ak3 => ⟨l, rfl, ⟨_, SqL.of hl⟩, ?_⟩⟩
    have s123 := s1.trans (s2.trans s3)
    have lk3 := ak3.len
    refine for_list (xs := ks') (fun i σ G => ∃ (fo' : Addr) (y3 : Option V), σ = [some (.ref a), some (.ref ba), some (.ref fo'), y3] ∧ Same H3 G ∧ IL G fo' [])
      ⟨fo, none, rfl, Same.refl _, s3 _ _ (by rw [upd_same]; rfl)⟩ (fun i σ G _ ⟨_, _, _, sG, _⟩ => SqL.of (sG _ _ hl)) ?_ ?_
    · rintro i x σ G hx ⟨fo', y3, rfl, sG, gf⟩
      have il := (List.getElem?_eq_some_iff.mp hx).1
      obtain ⟨f, hf⟩ : ∃ f, t.kids[i]? = some f := ⟨t.kids[i]'(by omega), by simp⟩
      have fm := kid_small (List.mem_of_getElem? hf)
      have fmo := mo.kidG (List.mem_of_getElem? hf)
      obtain ⟨m, rfl⟩ : ∃ m, n = m + 1 := by
        cases n with
        | zero => exact absurd hdep (by have : 0 < f.depth := (by cases f <;> simp [F.depth]); omega)
        | succ m => exact ⟨m, rfl⟩
      have isf := (ak3.get hx hf).same sG
      refine ⟨.ref fo', rfl, x, rfl, .ref ba, rfl, x, f, ba, rfl, isf, by omega, fmo, sG _ _ (s3 _ _ (s2 _ _ hB1)), fun l2 H5 s5 hl2 => ?_⟩
      refine ⟨fo', l2, _, _, rfl, rfl, s5 _ _ gf, hl2, by show 0 ≤ sizeLine; decide, fun q hq => ?_⟩
      exact ⟨q, _, rfl, sG.trans (s5.trans (Same.new hq)), upd_same⟩
    · rintro σ G ⟨fo', y3, rfl, sG, gf⟩
      exact ⟨_, rfl, k fo' G (s123.trans sG) gf⟩
theorem all_freeM {f : Addr} {fd : FuncData} (FF : Fun K "_law_free" "_law_free" s_law_free f fd) (b : Binds K fd a_law_free []) (m : mg "_law_free" = some (.ref f)) (T : Txt K mg C J B)
    (h_law_inner : Has P w K mg base "_law_inner" 1 a_law_inner (spInner K)) : ∀ n, Has P w K mg base "_law_free" (n + 1) a_law_free (spFrM K n)
  | 0 => ⟨f, fd, m, FF.kp, b, noneOk⟩
  | n + 1 => ⟨f, fd, m, FF.kp, b, ok_law_free n FF T h_law_inner (all_freeM FF b m T h_law_inner n)⟩
def spBes (K : PySem.W.Frag) : Sp := fun vs H Q _ => ∃ (wa sa pa : Addr) (fas pas : List Addr) (V1 : Wd) (wb sb pb : Addr) (fbs pbs : List Addr) (V2 : Wd), vs = [.ref wa, .ref wb] ∧ WAx H wa sa pa fas pas V1 ∧ WAx H wb sb pb fbs pbs V2 ∧ V1.Fit ∧ V2.Fit ∧
  ∀ (r x2 y2 : Addr) (qs ps : List Addr) H', Same H H' → WAx H' r x2 y2 qs ps (besW V1 V2) → Q (.ref r) H'
theorem ok_law_beside {f : Addr} {fd : FuncData} (FF : Fun K "_law_beside" "_law_beside" s_law_beside f fd) (T : Txt K mg C J B) : FnOk P w K mg base CX0 1 f fd a_law_beside (spBes K) := by
  refine FF.ok sc_law_beside (fun vs H Q E h => ?_) (fun cdv A outer s H vs Q E hr h => ?_)
  · obtain ⟨wa, sa, pa, fas, pas, V1, wb, sb, pb, fbs, pbs, V2, rfl, _⟩ := h
    rfl
  · obtain ⟨wa, sa, pa, fas, pas, V1, wb, sb, pb, fbs, pbs, V2, rfl, X, Y, fit1, fit2, k⟩ := h
    refine ⟨_, (pss_cons (ps_set (i := 2) sc_law_beside.nd rfl (.inr rfl) (pe_callB call_len_seq rfl T.z_len (by decide +kernel) (pa_cons (pe_ix ix_tup (pv 0) pe_int (fun _ _ => rfl)) pa_nil)))
      (pss_cons (ps_setLc (i := 3) (own := [("step", 4)]) (g := gName 4) rfl sc_law_beside.nd rfl rfl (sw_true rfl rfl rfl (by decide +kernel)) (pi_list (pe_ix ix_tup (pv 1) pe_int (fun _ _ => rfl))) (blkOk_by (own := [("step", 4)]) (N := n_law_beside) (sc := defScope s_law_beside) (by decide +kernel)) (fun _ _ _ _ _ => (pg_name (i := 4) sc_law_beside.nd rfl (.inl rfl))) (fun _ _ _ _ _ => pts_nil) (fun _ _ _ _ _ => (pe_tup (pa_cons (pe_op op_add (pe_ix (@id (IxR _ (rIxT K)) ix_tup) (pv 4) pe_int (fun _ _ => rfl)) (pv 2)) (pa_cons (pe_ix (@id (IxR _ (rIxT K)) ix_tup) (pv 4) pe_int (fun _ _ => rfl)) (pa_cons (pe_op op_add (pe_ix (@id (IxR _ (rIxT K)) ix_tup) (pv 4) pe_int (fun _ _ => rfl)) (pv 2)) pa_nil))))))
      (pss_one (ps_ret (pe_tup (pa_cons (pe_op op_cat (pe_callTy call_list_of rfl T.z_list (by decide +kernel) (pa_cons (pe_ix ix_tup (pv 0) pe_int (fun _ _ => rfl)) pa_nil)) (pe_callTy call_list_of rfl T.z_list (by decide +kernel) (pa_cons (pe_ix ix_tup (pv 1) pe_int (fun _ _ => rfl)) pa_nil))) (pa_cons (pe_op op_cat (pe_callTy call_list_of rfl T.z_list (by decide +kernel) (pa_cons (pe_ix ix_tup (pv 0) pe_int (fun _ _ => rfl)) pa_nil)) (pv 3)) pa_nil))))))), ?_⟩
    refine ⟨.ref wa, rfl, wa, _, _, .ref sa, rfl, rfl, SqT.of X.w, rfl, sa, _, rfl, .inl (SqL.of X.s), ?_⟩
    have eN : ((fas.map V.ref).length : Int) = (V1.n : Int) := by rw [List.length_map, X.f.1]; rfl
    rw [eN]
    refine ⟨.ref wb, rfl, wb, _, _, .ref pb, rfl, rfl, SqT.of Y.w, rfl, pb, rfl, ⟨_, SqL.of Y.p⟩, fun D hD => ?_⟩
    refine lc_list (xs := pbs.map V.ref) (fun i G => ∃ qs : List Addr, Same H G ∧ G D = some (.lst (qs.map V.ref)) ∧ PAt G qs (mvS V1.n (V2.steps.take i))) ⟨[], Same.new hD, upd_same, PAt.nil _⟩ (fun i G _ ⟨_, sG, _⟩ => SqL.of (sG _ _ Y.p)) ?_ ?_
    · rintro i x G hx ⟨qs, sG, gD, pat⟩
      obtain ⟨a, q, rfl, ha, hq, at_⟩ := (Y.t.same sG).nth hx
      have sq := SqT.of (K := K) at_
      refine ⟨rfl, .ref a, rfl, a, _, _, .int q.1, rfl, rfl, sq, rfl, .int V1.n, rfl, q.1, V1.n, rfl, rfl, .ref a, rfl, a, _, _, .int q.2.1, rfl, rfl, sq, rfl, .ref a, rfl, a, _, _, .int q.2.2, rfl, rfl, sq, rfl, .int V1.n, rfl, q.2.2, V1.n, rfl, rfl, by show 3 ≤ sizeLine; decide, fun t ht => ?_⟩
      have s1 := Same.new (o := .tup [.int (q.1 + V1.n), .int q.2.1, .int (q.2.2 + V1.n)]) ht
      have lt : i < V2.steps.length := (List.getElem?_eq_some_iff.mp hq).1
      have := fit2.st
      refine ⟨_, s1 _ _ gD, by rw [List.length_map, pat.1]; unfold mvS; rw [List.length_map, List.length_take]; exact small1000 (by omega), qs ++ [t], fun b o e => by rw [upd_ne (ne_of_none e hD)]; exact s1 _ _ (sG b o e), by rw [upd_same, List.map_append]; rfl, ?_⟩
      rw [mvS_take hq]
      refine PAt.snoc (pat.map fun a' o' hm e => ?_) (by rw [upd_ne (ne_of_none gD ht).symm, upd_same])
      obtain ⟨j, hj, ej⟩ := List.getElem_of_mem hm
      have := pat.2 j a' _ (by rw [List.getElem?_eq_getElem hj, ej]) (List.getElem?_eq_getElem (by rw [← pat.1]; exact hj))
      rw [upd_ne (ne_of this gD (by intro z; cases z))]
      exact s1 _ _ e
    rintro G1 ⟨qs, sG, gD, pat⟩
    rw [List.length_map, Y.t.1, List.take_length] at pat
    have n1 : fas.length ≤ 8 := by rw [X.f.1]; exact fit1.n8
    have n2 : fbs.length ≤ 8 := by rw [Y.f.1]; exact fit2.n8
    have st1 := fit1.st
    have st2 := fit2.st
    have lq : qs.length = V2.steps.length := by rw [pat.1]; unfold mvS; rw [List.length_map]
    refine ⟨.ref wa, rfl, wa, _, _, .ref sa, rfl, rfl, SqT.of (sG _ _ X.w), rfl, sa, _, rfl, .inl (SqL.of (sG _ _ X.s)), fun L1 h1 => ?_⟩
    have s1 := Same.new (o := .lst (fas.map V.ref)) h1
    have s1' := sG.trans s1
    refine ⟨.ref wb, rfl, wb, _, _, .ref sb, rfl, rfl, SqT.of (s1' _ _ Y.w), rfl, sb, _, rfl, .inl (SqL.of (s1' _ _ Y.s)), fun L2 h2 => ?_⟩
    have s2 := Same.new (o := .lst (fbs.map V.ref)) h2
    refine ⟨L1, L2, _, _, rfl, rfl, s2 _ _ upd_same, upd_same, by rw [List.length_map, List.length_map]; exact Nat.le_of_lt (small1000 (by omega)), fun L3 h3 => ?_⟩
    have s3 := Same.new (o := .lst (fas.map V.ref ++ fbs.map V.ref)) h3
    have s13 := s1'.trans (s2.trans s3)
    have gD3 := s3 _ _ (s2 _ _ (s1 _ _ gD))
    have pat3 := pat.same (s1.trans (s2.trans s3))
    have gL3 : (upd (upd (upd G1 L1 (.lst (fas.map V.ref))) L2 (.lst (fbs.map V.ref))) L3 (.lst (fas.map V.ref ++ fbs.map V.ref))) L3 = some (.lst (fas.map V.ref ++ fbs.map V.ref)) := upd_same
    generalize upd (upd (upd G1 L1 (.lst (fas.map V.ref))) L2 (.lst (fbs.map V.ref))) L3 (.lst (fas.map V.ref ++ fbs.map V.ref)) = G3 at s13 gD3 pat3 gL3
    refine ⟨.ref wa, rfl, wa, _, _, .ref pa, rfl, rfl, SqT.of (s13 _ _ X.w), rfl, pa, _, rfl, .inl (SqL.of (s13 _ _ X.p)), fun L4 h4 => ?_⟩
    have s4 := Same.new (o := .lst (pas.map V.ref)) h4
    refine ⟨.ref D, rfl, L4, D, _, _, rfl, rfl, upd_same, s4 _ _ gD3, by rw [List.length_map, List.length_map, X.t.1, lq]; exact Nat.le_of_lt (small1000 (by omega)), fun L5 h5 => ?_⟩
    have s5 := Same.new (o := .lst (pas.map V.ref ++ qs.map V.ref)) h5
    refine ⟨by show 2 ≤ sizeLine; decide, fun r hr => ?_⟩
    have s6 := Same.new (o := .tup [.ref L3, .ref L5]) hr
    have s46 := s4.trans (s5.trans s6)
    refine k r L3 L5 (fas ++ fbs) (pas ++ qs) _ (s13.trans s46) ⟨upd_same, by rw [List.map_append]; exact s46 _ _ gL3, by rw [List.map_append]; exact s6 _ _ upd_same, (X.f.same (s13.trans s46)).app (Y.f.same (s13.trans s46)), (X.t.same (s13.trans s46)).app (pat3.same s46)⟩
end
end Fw

set_option maxRecDepth 100000
set_option maxHeartbeats 8000000
namespace Fw
open PySem PySem.Spec PyProof.Rows L2 GxR
theorem cls_rowG {W : Wd} {r u : Nat} (hu : u < W.n) : ((clsN (Lk W r) W.n).map V.int)[u]? = some (.int ((numC (Lk W r) u : Nat) : Int)) := by
  unfold clsN
  rw [List.map_map, List.getElem?_map, List.getElem?_range hu]
  rfl
theorem cls_lenG {W : Wd} {r : Nat} : (clsN (Lk W r) W.n).length = W.n := by unfold clsN; rw [List.length_map, List.length_range]
theorem steps3 {ss : List T3} {n : Nat} (up : ss.Pairwise fun x y => lex3 x y = true) (h : ∀ p ∈ ss, 0 ≤ p.1 ∧ p.1 < (n : Int) ∧ 0 ≤ p.2.1 ∧ p.2.1 < 2 ∧ 0 ≤ p.2.2 ∧ p.2.2 < (n : Int)) (n6 : n ≤ 3) : ss.length ≤ 18 := by
  have nd : (ss.map fun p => (p.1 * 6 + p.2.1 * 3 + p.2.2).toNat).Nodup := by
    rw [List.nodup_iff_pairwise_ne, List.pairwise_map]
    refine up.imp_of_mem fun {x y} hx hy l e => ?_
    have a := h x hx
    have b := h y hy
    rw [lex3_iff] at l
    unfold Lt3 at l
    omega
  have := L2.nat_nodup_len _ (List.range 18) nd fun x hx => by
    obtain ⟨p, hp, rfl⟩ := List.mem_map.mp hx
    have a := h p hp
    exact List.mem_range.mpr (by omega)
  rwa [List.length_map, List.length_range] at this
theorem steps5 {ss : List T3} {n : Nat} (up : ss.Pairwise fun x y => lex3 x y = true) (h : ∀ p ∈ ss, 0 ≤ p.1 ∧ p.1 < (n : Int) ∧ 0 ≤ p.2.1 ∧ p.2.1 < 2 ∧ 0 ≤ p.2.2 ∧ p.2.2 < (n : Int)) (n6 : n ≤ 5) : ss.length ≤ 50 := by
  have nd : (ss.map fun p => (p.1 * 10 + p.2.1 * 5 + p.2.2).toNat).Nodup := by
    rw [List.nodup_iff_pairwise_ne, List.pairwise_map]
    refine up.imp_of_mem fun {x y} hx hy l e => ?_
    have a := h x hx
    have b := h y hy
    rw [lex3_iff] at l
    unfold Lt3 at l
    omega
  have := L2.nat_nodup_len _ (List.range 50) nd fun x hx => by
    obtain ⟨p, hp, rfl⟩ := List.mem_map.mp hx
    have a := h p hp
    exact List.mem_range.mpr (by omega)
  rwa [List.length_map, List.length_range] at this
theorem bes_n {V1 V2 : Wd} : (besW V1 V2).n = V1.n + V2.n := List.length_append
theorem up_in {W : Wd} {f : Int} (u : W.Up f) : ∀ p ∈ W.steps, 0 ≤ p.1 ∧ p.1 < (W.n : Int) ∧ 0 ≤ p.2.1 ∧ p.2.1 < 2 ∧ 0 ≤ p.2.2 ∧ p.2.2 < (W.n : Int) := fun p hp => by
  obtain ⟨a, b, c, d, e, g, _⟩ := u.in_ p hp
  exact ⟨a, b, c, d, e, g⟩
theorem bes_in {V1 V2 : Wd} {f : Int} (u1 : V1.Up f) (u2 : V2.Up f) : ∀ p ∈ (besW V1 V2).steps, 0 ≤ p.1 ∧ p.1 < ((besW V1 V2).n : Int) ∧ 0 ≤ p.2.1 ∧ p.2.1 < 2 ∧ 0 ≤ p.2.2 ∧ p.2.2 < ((besW V1 V2).n : Int) := fun p hp => by
  rw [bes_n]
  rcases List.mem_append.mp hp with h | h
  · have := up_in u1 p h
    omega
  · obtain ⟨q, hq, rfl⟩ := List.mem_map.mp h
    have := up_in u2 q hq
    refine ⟨?_, ?_, ?_, ?_, ?_, ?_⟩ <;> dsimp only <;> omega
theorem bes_emb {V1 V2 : Wd} {Fc : Nat} (u1 : V1.Up Fc) (u2 : V2.Up Fc) : EmbB V1 (besW V1 V2) 2 Fc := by
  have E := emb_left (A := V1) (B := V2) (fun p hp => by have := up_in u1 p hp; omega) (fun p hp => by have := up_in u2 p hp; omega)
  have bi := bes_in u1 u2
  refine ⟨fun p hp => by have := bi p hp; omega, by rw [bes_n]; omega, fun s hs => at_left (by omega) (by omega), fun s hs l y => ⟨fun hy => ?_, fun hy => (E.fo s (by omega) (by omega) l y hy).2.2⟩, fun p hp => by have := bi p hp; exact ⟨this.2.2.1, this.2.2.2.1⟩, fun X hX => ?_⟩
  · obtain ⟨j, hj, e⟩ := E.ba s (by omega) (by omega) l y hy
    rw [← e]
    exact hj
  · exact (List.mem_append.mp hX).elim (u1.rows X) (u2.rows X)
noncomputable def goodL (B : Wd) (m s : Nat) : List Int := (rng B.n).filter fun o => decide (numC (Lk B m) s = numC (Lk B m) o.toNat)
theorem rng_up (n : Nat) : (rng n).Pairwise (· < ·) := by
  unfold rng
  rw [List.pairwise_map]
  exact List.pairwise_lt_range.imp fun h => by show Int.ofNat _ < Int.ofNat _; simp only [Int.ofNat_eq_natCast]; omega
theorem flt_upG (n : Nat) (p : Int → Bool) : (flt n p).Pairwise (· < ·) := List.Pairwise.filter _ (rng_up n)
theorem mem_good {B : Wd} {m s : Nat} (hs : s < B.n) {o : Int} : o ∈ goodL B m s ↔ (0 ≤ o ∧ o < (B.n : Int)) ∧ Lk B m s o.toNat := by
  unfold goodL
  rw [List.mem_filter, rng_mem, decide_eq_true_eq]
  constructor
  · rintro ⟨h, e⟩
    exact ⟨h, (num_eq (Lk.eqv B m B.n) hs (by omega)).mp e⟩
  · rintro ⟨h, e⟩
    exact ⟨h, (num_eq (Lk.eqv B m B.n) hs (by omega)).mpr e⟩
theorem look1 {V1 V2 : Wd} {Fc m s : Nat} {g : F} (u1 : V1.Up Fc) (u2 : V2.Up Fc) (hs : s < V1.n) (S : Sg V1 2 Fc m s g) : val V1 g (fun _ => []) = (goodL (besW V1 V2) m s).filter fun o => decide (o < (V1.n : Int)) := by
  have E := emb_left (A := V1) (B := V2) (fun p hp => by have := up_in u1 p hp; omega) (fun p hp => by have := up_in u2 p hp; omega)
  have tr := S.tr _ (bes_emb u1 u2)
  have hsB : s < (besW V1 V2).n := by rw [bes_n]; omega
  rw [val_emb E g (fun _ => []) (fun _ => []) (fun x hx => by rw [S.mo.fv] at hx; cases hx) (fun x hx => by rw [S.mo.fv] at hx; cases hx)]
  refine upI (flt_upG _ _) (List.Pairwise.filter _ (List.Pairwise.filter _ (rng_up _))) fun x => ?_
  unfold pull
  rw [mem_flt, List.mem_filter, mem_good hsB, decide_eq_true_eq, bes_n]
  constructor
  · rintro ⟨h, t⟩
    refine ⟨⟨⟨h.1, by omega⟩, (tr x.toNat (by rw [bes_n]; omega)).mp ((tru_nat h.1).mpr t)⟩, h.2⟩
  · rintro ⟨⟨h, l⟩, h2⟩
    exact ⟨⟨h.1, h2⟩, (tru_nat h.1).mp ((tr x.toNat (by rw [bes_n]; omega)).mpr l)⟩
theorem look2 {V1 V2 : Wd} {Fc m s : Nat} {g : F} (u1 : V1.Up Fc) (u2 : V2.Up Fc) (hs : s < V1.n) (S : Sg V1 2 Fc m s g) : val V2 g (fun _ => []) = ((goodL (besW V1 V2) m s).filter fun o => decide ((V1.n : Int) ≤ o)).map fun o => o - (V1.n : Int) := by
  have E := emb_right (A := V1) (B := V2) (fun p hp => by have := up_in u1 p hp; omega) (fun p hp => by have := up_in u2 p hp; omega)
  have tr := S.tr _ (bes_emb u1 u2)
  have hsB : s < (besW V1 V2).n := by rw [bes_n]; omega
  rw [val_emb E g (fun _ => []) (fun _ => []) (fun x hx => by rw [S.mo.fv] at hx; cases hx) (fun x hx => by rw [S.mo.fv] at hx; cases hx)]
  refine upI (flt_upG _ _) ?_ fun x => ?_
  · rw [List.pairwise_map]
    exact (List.Pairwise.filter _ (List.Pairwise.filter _ (rng_up _))).imp fun h => by omega
  unfold pull
  rw [mem_flt, List.mem_map]
  constructor
  · rintro ⟨h, t⟩
    refine ⟨x + (V1.n : Int), List.mem_filter.mpr ⟨(mem_good hsB).mpr ⟨⟨by omega, by rw [bes_n]; omega⟩, (tr _ (by rw [bes_n]; omega)).mp ((tru_nat (by omega)).mpr t)⟩, decide_eq_true (by omega)⟩, by omega⟩
  · rintro ⟨o, ho, rfl⟩
    obtain ⟨h1, h2⟩ := List.mem_filter.mp ho
    have h2 := of_decide_eq_true h2
    obtain ⟨h3, l⟩ := (mem_good hsB).mp h1
    rw [bes_n] at h3
    refine ⟨by omega, ?_⟩
    show sIn (val (besW V1 V2) g fun _ => []) (o - (V1.n : Int) + (V1.n : Int)) = true
    rw [show o - (V1.n : Int) + (V1.n : Int) = o by omega]
    exact (tru_nat h3.1).mp ((tr o.toNat (by rw [bes_n]; omega)).mpr l)
section
variable {P : Program} {w : World} {K : PySem.W.Frag} {mg : Str → Option Value} {base : Heap} {C J B WC NC RC cA tA : Addr}
theorem WoE.butG {H0 H H' : Hp} {p dx d0 : Addr} {l f : Int} {ta tb d : Addr} {ras as : List Addr} {Xs : List (List Int)} {ss : List T3} (h0 : H0 d0 ≠ none) (dr : Draws H d0) (z : But d0 H H') (h : WoE K WC H0 H p dx l f ta tb d ras as Xs ss) : WoE K WC H0 H' p dx l f ta tb d ras as Xs ss := by
  have lst := dr.lst
  obtain ⟨ds, q⟩ := id dr
  exact ⟨z _ _ (ne_of h.ob q (by intro z; cases z)) h.ob, SqT.but lst z h.st, ⟨h.rw.1, fun i a X e1 e2 => SqT.but lst z (h.rw.2 i a X e1 e2)⟩, SqT.but lst z h.sp, h.tr.butD dr z,
    h.en.map (fun kvs e => z _ _ (ne_of e q (by intro z; cases z)) e) fun a xs n e => z _ _ (fun e2 => h0 (by rw [← e2]; exact n)) e⟩
theorem Draws.tbG {A d : Addr} {H H' : Hp} (g : TabG H A) (t : Tb A H H') (h : Draws H d) : Draws H' d := by
  obtain ⟨ds, q⟩ := h
  exact ⟨ds, t.1 _ _ (g.ne q (by intro _ z; cases z)) q⟩
def spLaw (K : PySem.W.Frag) (tA : Addr) : Sp := fun vs H Q _ => ∃ (a : Addr) (ns : List Int), vs = [.ref a] ∧ SqL K H a (ns.map V.int) ∧ TabG H tA ∧ ns.length ≤ 63 ∧ ∀ H', Q (.bl true) H'
theorem ok_law {f : Addr} {fd : FuncData} (FF : Fun K "law" "law" s_law f fd) (T : Txt K mg C J B) (h_law_draws : Has P w K mg base "_law_draws" 1 a_law_draws (spDraws K)) (h_law_take : Has P w K mg base "_law_take" 1 a_law_take spTake)
    (h_law_world : Has P w K mg base "_law_world" 2 a_law_world spWorld) (h_law_made : HasX P w K mg base "_law_made" 8 a_law_made (spMade K WC tA)) (h_law_rounds : Has P w K mg base "_law_rounds" 2 a_law_rounds (spLRo K)) (h_law_numbers : Has P w K mg base "_law_numbers" 2 a_law_numbers (spNumb K))
    (h_like_in_steps : Has P w K mg base "like_in_steps" 6 a_like_in_steps (spLis K WC)) (h_glimpse : Has P w K mg base "glimpse" 7 a_glimpse (spGli K WC)) (h_law_beside : Has P w K mg base "_law_beside" 1 a_law_beside (spBes K))
    (h_law_is_statement : Has P w K mg base "_law_is_statement" 31 a_law_is_statement (spIs K 30)) (h_law_free : Has P w K mg base "_law_free" 31 a_law_free (spFrM K 30))
    (h_law_truth : Has P w K mg base "_law_truth" 43 a_law_truth (spTruth K)) : FnOk P w K mg base CX0 44 f fd a_law (spLaw K tA) := by
  refine FF.ok sc_law (fun vs H Q E h => ?_) (fun cdv A outer s0 H vs Q E hr h => ?_)
  · obtain ⟨a, ns, rfl, _⟩ := h
    rfl
  · obtain ⟨a, ns, rfl, hS, tg, hlen, k⟩ := h
    refine ⟨_, (pss_cons (ps_set (i := 1) sc_law.nd rfl (.inl rfl) (pe_callH h_law_draws (hr.mono (by omega)) (pa_cons (pv 0) (pa_cons pe_int pa_nil))))
      (pss_cons (ps_set (i := 2) sc_law.nd rfl (.inl rfl) (pe_op op_add pe_int (pe_callH h_law_take (hr.mono (by omega)) (pa_cons (pv 1) (pa_cons pe_int pa_nil)))))
      (pss_cons (ps_set (i := 3) sc_law.nd rfl (.inl rfl) (pe_callH h_law_world (hr.mono (by omega)) (pa_cons (pv 1) (pa_cons pe_int (pa_cons (pv 2) pa_nil)))))
      (pss_cons (ps_set (i := 4) sc_law.nd rfl (.inl rfl) (pe_callH h_law_world (hr.mono (by omega)) (pa_cons (pv 1) (pa_cons pe_int (pa_cons (pv 2) pa_nil)))))
      (pss_cons (ps_set (i := 5) sc_law.nd rfl (.inl rfl) (pe_callH h_law_take (hr.mono (by omega)) (pa_cons (pv 1) (pa_cons pe_int pa_nil))))
      (pss_cons (ps_set (i := 6) sc_law.nd rfl (.inl rfl) (pe_callH h_like_in_steps (hr.mono (by omega)) (pa_cons (pe_callL h_law_made (hr.mono (by omega)) (pa_cons (pv 4) (pa_cons pe_int (pa_cons (pv 2) pa_nil)))) (pa_cons (pv 5) pa_nil))))
      (pss_cons (ps_if (PW.pt (pw_or (pt_not (pt_val (pe_callH h_law_numbers (hr.mono (by omega)) (pa_cons (pv 6) (pa_cons (pe_callB call_len_seq rfl T.z_len (by decide +kernel) (pa_cons (pe_ix ix_tup (pv 4) pe_int (fun _ _ => rfl)) pa_nil)) (pa_cons pe_int pa_nil)))))) (pw_or1 (pt_cmpR (op_neD hr.units) (pe_callTy call_tuple_of rfl T.z_tuple (by decide +kernel) (pa_cons (pv 6) pa_nil)) (pe_callH h_law_rounds (hr.mono (by omega)) (pa_cons (pv 4) (pa_cons (pv 5) pa_nil))) (nomark _))))) (pss_one (ps_ret pe_bl)) pss_nil)
      (pss_cons (ps_set (i := 7) sc_law.nd rfl (.inr rfl) (pe_callH h_law_take (hr.mono (by omega)) (pa_cons (pv 1) (pa_cons (pe_callB call_len_seq rfl T.z_len (by decide +kernel) (pa_cons (pe_ix ix_tup (pv 3) pe_int (fun _ _ => rfl)) pa_nil)) pa_nil))))
      (pss_cons (ps_set (i := 8) sc_law.nd rfl (.inl rfl) (pe_callH h_glimpse (hr.mono (by omega)) (pa_cons (pe_callL h_law_made (hr.mono (by omega)) (pa_cons (pv 3) (pa_cons pe_int (pa_cons (pv 2) pa_nil)))) (pa_cons (pv 7) (pa_cons pe_int (pa_cons (pv 2) (pa_cons (pv 5) pa_nil)))))))
      (pss_cons (ps_if (PW.pt (pw_or (pt_not (pt_val (pe_callH h_law_is_statement (hr.mono (by omega)) (pa_cons (pv 8) (pa_cons pe_int pa_nil))))) (pw_or1 (pt_cmpR op_gt (pe_callB call_len_seq rfl T.z_len (by decide +kernel) (pa_cons (pe_callH h_law_free (hr.mono (by omega)) (pa_cons (pv 8) (pa_cons (pe_lst pa_nil) pa_nil))) pa_nil)) pe_int (nomark _))))) (pss_one (ps_ret pe_bl)) pss_nil)
      (pss_cons (ps_set (i := 9) sc_law.nd rfl (.inr rfl) (pe_callH h_law_rounds (hr.mono (by omega)) (pa_cons (pe_callH h_law_beside (hr.mono (by omega)) (pa_cons (pv 3) (pa_cons (pv 4) pa_nil))) (pa_cons (pv 5) pa_nil))))
      (pss_cons (ps_setLc (i := 10) (own := [("other", 12)]) (g := gName 12) rfl sc_law.nd rfl rfl (sw_true rfl rfl rfl (by decide +kernel)) (pi_range1 rfl T.z_range (pa_cons (pe_callB call_len_seq rfl T.z_len (by decide +kernel) (pa_cons (pv 9) pa_nil)) pa_nil)) (blkOk_by (own := [("other", 12)]) (N := n_law) (sc := defScope s_law) (by decide +kernel)) (fun _ _ _ _ _ => (pg_name (i := 12) sc_law.nd rfl (.inl rfl))) (fun _ _ _ _ _ => (pts_one (pt_cmpR op_eq (pe_ix (@id (IxR _ (rIxT K)) ix_tup) (pv 9) (pv 12) (fun _ _ => rfl)) (pe_ix (@id (IxR _ (rIxT K)) ix_tup) (pv 9) (pv 7) (fun _ _ => rfl)) (nomark _)))) (fun _ _ _ _ _ => (pv 12)))
      (pss_cons (ps_set (i := 11) sc_law.nd rfl (.inr rfl) (pe_callB call_len_seq rfl T.z_len (by decide +kernel) (pa_cons (pe_ix ix_tup (pv 3) pe_int (fun _ _ => rfl)) pa_nil)))
      (pss_cons (ps_if (pt_cmpR (op_neD hr.units) (pe_callH h_law_truth (hr.mono (by omega)) (pa_cons (pv 3) (pa_cons (pv 8) pa_nil))) (pe_lc (own := [("other", 12)]) (g := gName 12) rfl sc_law.nd (pi_list (pv 10)) (blkOk_by (own := [("other", 12)]) (N := n_law) (sc := defScope s_law) (by decide +kernel)) (fun _ _ _ _ _ => (pg_name (i := 12) sc_law.nd rfl (.inl rfl))) (fun _ _ _ _ _ => (pts_one (pt_cmpR op_lt (pv 12) (pv 11) (nomark _)))) (fun _ _ _ _ _ => (pv 12))) (nomark _)) (pss_one (ps_ret pe_bl)) pss_nil)
      (pss_one (ps_ret (pe_cmpR (op_eqD hr.units) (pe_callH h_law_truth (hr.mono (by omega)) (pa_cons (pv 4) (pa_cons (pv 8) pa_nil))) (pe_lc (own := [("other", 12)]) (g := gName 12) rfl sc_law.nd (pi_list (pv 10)) (blkOk_by (own := [("other", 12)]) (N := n_law) (sc := defScope s_law) (by decide +kernel)) (fun _ _ _ _ _ => (pg_name (i := 12) sc_law.nd rfl (.inl rfl))) (fun _ _ _ _ _ => (pts_one (pt_cmpR op_ge (pv 12) (pv 11) (nomark _)))) (fun _ _ _ _ _ => (pe_op op_sub (pv 12) (pv 11)))) (nomark _)))))))))))))))))), ?_⟩
    refine ⟨.ref a, rfl, a, ns, 250, rfl, hS, hlen, by decide, by decide, fun d H1 s1 hd0 d1 => ?_⟩
    have ntd : tA ≠ d := fun e => by obtain ⟨qs, q, _⟩ := tg; rw [e, hd0] at q; cases q
    have tg1 : TabG H1 tA := tg.same s1
    have tgB : ∀ {G G' : Hp}, TabG G tA → But d G G' → TabG G' tA := fun g b => by
      obtain ⟨qs, q, t⟩ := g
      exact ⟨qs, b _ _ ntd q, t⟩
    refine ⟨.ref d, rfl, d, 2, rfl, d1, by decide, fun v H2 v0 v2 b2 d2 => ⟨1, v, rfl, rfl, ?_⟩⟩
    have tg2 := tgB tg1 b2
    obtain ⟨Fc, eFc⟩ := Int.eq_ofNat_of_zero_le (show 0 ≤ 1 + v by omega)
    have f1 : 1 ≤ Fc := by omega
    have f2 : Fc ≤ 2 := by omega
    dsimp only
    rw [eFc]
    clear eFc v0 v2
    refine ⟨.ref d, rfl, .int (Fc : Nat), rfl, d, 3, (Fc : Nat), rfl, d2, by decide, by decide, by omega, by omega, fun wa sa pa fas pas V1 H3 b3 d3 X3 nsd npd nfd fit1 up1 n3 => ?_⟩
    have tg3 := tgB tg2 b3
    refine ⟨.ref d, rfl, .int (Fc : Nat), rfl, d, 5, (Fc : Nat), rfl, d3, by decide, by decide, by omega, by omega, fun wb sb pb fbs pbs V2 H4 b4 d4 Y4 nsd' npd' nfd' fit2 up2 n5 => ?_⟩
    have tg4 := tgB tg3 b4
    have X4 := X3.butD d3 b4 nsd npd nfd
    refine ⟨.ref d, rfl, d, 4, rfl, d4, by decide, fun mI H5 m0 m4 b5 d5 => ?_⟩
    have tg5 := tgB tg4 b5
    have X5 := X4.butD d4 b5 nsd npd nfd
    have Y5 := Y4.butD d4 b5 nsd' npd' nfd'
    obtain ⟨m, rfl⟩ := Int.eq_ofNat_of_zero_le m0
    have m3 : m ≤ 3 := by omega
    clear hS hlen tg s1 hd0 d1 b2 d2 b3 d3 X3 b4 d4 Y4 X4 b5 tg1 tg2 tg3 tg4 m0 m4
    have in1 := up_in up1
    have in2 := up_in up2
    have hin1 : V1.In := fun p hp => by have := in1 p hp; omega
    have hin2 : V2.In := fun p hp => by have := in2 p hp; omega
    have n1 := fit1.one
    have n2 := fit2.one
    have st1 := steps3 up1.steps in1 (by omega)
    have st2 := steps5 up2.steps in2 (by omega)
    have fl1 : fas.length = V1.n := X5.f.1
    have fl2 : fbs.length = V2.n := Y5.f.1
    refine ⟨.ref wb, rfl, .int (Fc : Nat), rfl, wb, sb, pb, fbs, pbs, V2, 2, (Fc : Nat), (Fc : Nat), rfl, Y5, fit2, up2, by decide, by decide, by omega, by omega, by omega, tg5, fun p dx ta tb dd ras as H6 t6 WE6 RT6 => ?_⟩
    have X6 := X5.tb tg5 t6
    have Y6 := Y5.tb tg5 t6
    have d6 := d5.tbG tg5 t6
    have tg6 := t6.2
    refine ⟨.int (m : Nat), rfl, p, dx, 2, (Fc : Nat), ta, tb, dd, ras, as, H5, V2, m, rfl, WE6, RT6, ⟨hin2, fun q hq => by have := in2 q hq; omega, n2, by omega⟩, fun na H7 s7 _ gn => ?_⟩
    have X7 := X6.same s7
    have Y7 := Y6.same s7
    have d7 := d6.same s7
    have tg7 := tg6.same s7
    clear WE6 RT6 X6 Y6 d6 tg6 s7 X5 Y5 t6 tg5 d5
    refine ⟨.ref na, rfl, .ref wb, rfl, wb, _, _, .ref sb, rfl, rfl, SqT.of Y7.w, rfl, sb, fbs.map V.ref, rfl, .inl (SqL.of Y7.s), na, clsN (Lk V2 m) V2.n, by rw [List.length_map, fl2, cls_lenG]; rfl, gn, ?_, true, rfl, iteF ?_⟩
    · intro c hc
      unfold clsN at hc
      obtain ⟨j, _, rfl⟩ := List.mem_map.mp hc
      omega
    refine ⟨.ref na, rfl, na, _, rfl, .inr ⟨SqT.of gn, .ref wb, rfl, .int (m : Nat), rfl, wb, sb, pb, fbs, pbs, V2, m, rfl, Y7, hin2, fun q hq => by have := in2 q hq; omega, by omega, by omega, m3, fun nt H8 s8 gt => ?_⟩⟩
    refine ⟨.tuple ((clsN (Lk V2 m) V2.n).map PyData.int), .tuple ((clsN (Lk V2 m) V2.n).map PyData.int), .tup (SqT.of (s8 _ _ gn)) (dp_ints _), .tup (SqT.of gt) (dp_ints _), dInts_shaped _, dInts_shaped _, _, rfl, ?_⟩
    rw [dInts_same]
    refine iteF ?_
    have X8 := X7.same s8
    have Y8 := Y7.same s8
    have d8 := d7.same s8
    have tg8 := tg7.same s8
    clear X7 Y7 d7 tg7 gn gt s8
    refine ⟨.ref d, rfl, .ref wa, rfl, wa, _, _, .ref sa, rfl, rfl, SqT.of X8.w, rfl, sa, fas.map V.ref, rfl, .inl (SqL.of X8.s), d, (V1.n : Nat), by rw [List.length_map, fl1]; rfl, d8, by omega, fun sI H9 s0' sn b9 d9 => ?_⟩
    obtain ⟨s, rfl⟩ := Int.eq_ofNat_of_zero_le s0'
    have hs : s < V1.n := by omega
    have X9 := X8.butD d8 b9 nsd npd nfd
    have Y9 := Y8.butD d8 b9 nsd' npd' nfd'
    have tg9 := tgB tg8 b9
    clear X8 Y8 d8 tg8 b9 s0' sn
    refine ⟨.ref wa, rfl, .int (Fc : Nat), rfl, wa, sa, pa, fas, pas, V1, 2, (Fc : Nat), (Fc : Nat), rfl, X9, fit1, up1, by decide, by decide, by omega, by omega, by omega, tg9, fun p1 dx1 ta1 tb1 dd1 ras1 as1 H10 t10 WE10 RT10 => ?_⟩
    have X10 := X9.tb tg9 t10
    have Y10 := Y9.tb tg9 t10
    refine ⟨.int (s : Nat), rfl, .int (Fc : Nat), rfl, .int (m : Nat), rfl, p1, dx1, 2, (Fc : Nat), ta1, tb1, dd1, ras1, as1, H9, V1, s, Fc, m, rfl, WE10, RT10, ⟨hin1, fun q hq => by have := in1 q hq; omega, n1, by omega⟩, by omega, f2, hs, m3, fun gv g H11 s11 hg S => ?_⟩
    have X11 := X10.same s11
    have Y11 := Y10.same s11
    clear X10 Y10 WE10 RT10 t10 X9 Y9 s11 d9 tg9
    have gd := S.dp
    have d30 : g.depth ≤ 29 + 1 := by omega
    refine ⟨gv, rfl, gv, g, 100, rfl, hg, d30, by omega, S.mo.nnG, fun H12 s12 => ⟨true, rfl, iteF ?_⟩⟩
    refine ⟨gv, rfl, Nat.zero_le _, fun ba hba => ?_⟩
    have s13 := Same.new (o := .lst []) hba
    refine ⟨gv, g, ba, rfl, (hg.same s12).same s13, d30, S.mo, upd_same, fun fl H14 s14 hfl => ⟨fl, _, rfl, .inl (SqL.of hfl), _, 0, rfl, rfl, _, rfl, ?_⟩⟩
    refine iteF ?_
    have sA := (s12.trans s13).trans s14
    have X14 := X11.same sA
    have Y14 := Y11.same sA
    have hg14 := hg.same sA
    clear X11 Y11 s12 s13 s14 sA hfl hba
    refine ⟨.ref wa, rfl, .ref wb, rfl, wa, sa, pa, fas, pas, V1, wb, sb, pb, fbs, pbs, V2, rfl, X14, Y14, fit1, fit2, fun r x2 y2 qs ps H15 s15 Z15 => ?_⟩
    have bn := bes_n (V1 := V1) (V2 := V2)
    have bi := bes_in up1 up2
    have X15 := X14.same s15
    have Y15 := Y14.same s15
    refine ⟨.int (m : Nat), rfl, r, x2, y2, qs, ps, besW V1 V2, m, rfl, Z15, fun q hq => by have := bi q hq; omega, fun q hq => by have := bi q hq; omega, by omega, ?_, m3, fun nt H16 s16 gt => ?_⟩
    · show (V1.steps ++ mvS V1.n V2.steps).length ≤ 76
      unfold mvS
      rw [List.length_append, List.length_map]
      omega
    have X16 := X15.same s16
    have Y16 := Y15.same s16
    have hg16 := (hg14.same s15).same s16
    clear X14 Y14 X15 Y15 Z15 hg14 s15 s16
    have hsB : s < (besW V1 V2).n := by omega
    refine ⟨.ref nt, rfl, nt, _, rfl, .inr (SqT.of gt), ?_⟩
    rw [List.length_map, cls_lenG]
    refine ⟨_, rfl, by omega, by omega, fun D hD => ?_⟩
    rw [Int.toNat_natCast]
    refine lc_it walk_range (fun i G => Same H16 G ∧ IL G D ((rng i).filter fun o => decide (numC (Lk (besW V1 V2) m) s = numC (Lk (besW V1 V2) m) o.toNat))) ⟨Same.new hD, upd_same⟩ (fun _ _ _ _ => trivial) ?_ ?_
    · rintro i x GX G hi ⟨sG, gD⟩ ⟨rfl, rfl⟩
      have e0 : (fun i : Nat => V.int (0 + (i : Int))) i = V.int (i : Nat) := by show V.int _ = _; rw [Int.zero_add]
      rw [e0]
      have gt' := sG _ _ gt
      refine ⟨rfl, .ref nt, rfl, .int (i : Nat), rfl, nt, _, (i : Nat), .int ((numC (Lk (besW V1 V2) m) i : Nat) : Int), rfl, rfl, SqT.of gt', atI_nat (j := i) (cls_rowG hi), .ref nt, rfl, .int (s : Nat), rfl, nt, _, (s : Nat), .int ((numC (Lk (besW V1 V2) m) s : Nat) : Int), rfl, rfl, SqT.of gt', atI_nat (j := s) (cls_rowG hsB), rfl, _, rfl, ?_⟩
      rw [rng_succ, List.filter_append]
      have ln : (((rng i).filter fun o => decide (numC (Lk (besW V1 V2) m) s = numC (Lk (besW V1 V2) m) o.toNat)).map V.int).length ≤ i := by
        rw [List.length_map]
        refine Nat.le_trans (List.length_filter_le _ _) ?_
        unfold rng
        rw [List.length_map, List.length_range]
        exact Nat.le_refl _
      by_cases c : numC (Lk (besW V1 V2) m) s = numC (Lk (besW V1 V2) m) i
      · rw [decide_eq_true (show V.int ((numC (Lk (besW V1 V2) m) i : Nat) : Int) = V.int ((numC (Lk (besW V1 V2) m) s : Nat) : Int) by rw [c])]
        refine iteT ⟨.int (i : Nat), rfl, _, gD, small1000 (by omega), fun b o e => by rw [upd_ne (ne_of_none e hD)]; exact sG b o e, ?_⟩
        show _ = _
        rw [upd_same, List.filter_cons_of_pos (by rw [Int.toNat_natCast]; exact decide_eq_true c), List.map_append]
        rfl
      · rw [decide_eq_false (show ¬ V.int ((numC (Lk (besW V1 V2) m) i : Nat) : Int) = V.int ((numC (Lk (besW V1 V2) m) s : Nat) : Int) from fun z => c (by have := V.int.inj z; omega))]
        refine iteF ⟨sG, ?_⟩
        rw [List.filter_cons_of_neg (by rw [Int.toNat_natCast]; exact fun z => c (of_decide_eq_true z)), List.filter_nil, List.append_nil]
        exact gD
    rintro G17 ⟨s17, gD⟩
    have gD : IL G17 D (goodL (besW V1 V2) m s) := gD
    have X17 := X16.same s17
    have Y17 := Y16.same s17
    have hg17 := hg16.same s17
    clear X16 Y16 hg16 gt s17
    have gll : (goodL (besW V1 V2) m s).length ≤ 8 := by
      unfold goodL
      refine Nat.le_trans (List.length_filter_le _ _) ?_
      unfold rng
      rw [List.length_map, List.length_range]
      omega
    have gmem : ∀ {o}, o ∈ goodL (besW V1 V2) m s → 0 ≤ o := fun h => ((mem_good hsB).mp h).1.1
    have l1 := look1 up1 up2 hs S
    have l2 := look2 up1 up2 hs S
    generalize goodL (besW V1 V2) m s = gl at gD gll gmem l1 l2
    refine ⟨.ref wa, rfl, wa, _, _, .ref sa, rfl, rfl, SqT.of X17.w, rfl, sa, fas.map V.ref, rfl, .inl (SqL.of X17.s), ?_⟩
    rw [List.length_map, fl1]
    refine ⟨.ref wa, rfl, gv, rfl, .ref wa, gv, V1, g, fun _ => [], rfl, ⟨wa, sa, pa, fas, pas, rfl, X17.gen⟩, ⟨by omega, by omega⟩, hg17, by omega, S.mo.fv, fun ga H18 s18 hga => ?_⟩
    have gD18 := s18 _ _ gD
    have Y18 := Y17.same s18
    have hg18 := hg17.same s18
    refine ⟨.ref D, rfl, D, rfl, ⟨_, SqL.of gD18⟩, fun D2 hD2 => ?_⟩
    refine lc_list (xs := gl.map V.int) (fun i G => Same H18 G ∧ IL G D2 ((gl.take i).filter fun o => decide (o < (V1.n : Int)))) ⟨Same.new hD2, upd_same⟩ (fun i G _ q => SqL.of (q.1 _ _ gD18)) ?_ ?_
    · rintro i x G hx ⟨sG, g2⟩
      obtain ⟨y, hy, rfl⟩ : ∃ y, gl[i]? = some y ∧ V.int y = x := by
        rw [List.getElem?_map] at hx
        cases e : gl[i]? with
        | none => rw [e] at hx; cases hx
        | some y => rw [e] at hx; exact ⟨y, rfl, Option.some.inj hx⟩
      refine ⟨rfl, .int y, rfl, .int (V1.n : Nat), rfl, y, (V1.n : Nat), rfl, rfl, _, rfl, ?_⟩
      rw [List.take_add_one, hy, List.filter_append]
      have ln : (((gl.take i).filter fun o => decide (o < (V1.n : Int))).map V.int).length ≤ 8 := by
        rw [List.length_map]
        refine Nat.le_trans (List.length_filter_le _ _) ?_
        rw [List.length_take]
        omega
      by_cases c : y < (V1.n : Int)
      · rw [decide_eq_true c]
        refine iteT ⟨.int y, rfl, _, g2, small1000 (by omega), fun b o e => by rw [upd_ne (ne_of_none e hD2)]; exact sG b o e, ?_⟩
        show _ = _
        rw [upd_same, Option.toList_some, List.filter_cons_of_pos (p := fun o : Int => decide (o < (V1.n : Int))) (decide_eq_true c), List.map_append]
        rfl
      · rw [decide_eq_false c]
        refine iteF ⟨sG, ?_⟩
        rw [Option.toList_some, List.filter_cons_of_neg (p := fun o : Int => decide (o < (V1.n : Int))) (fun z => c (of_decide_eq_true z)), List.filter_nil, List.append_nil]
        exact g2
    rintro G19 ⟨s19, g2⟩
    rw [List.length_map, List.take_length, ← l1] at g2
    refine ⟨.list ((val V1 g fun _ => []).map PyData.int), .list ((val V1 g fun _ => []).map PyData.int), .lst (SqL.of (s19 _ _ hga)) (dp_ints _), .lst (SqL.of g2) (dp_ints _), ints_shaped _, ints_shaped _, _, rfl, ?_⟩
    rw [ints_same]
    refine iteF ?_
    have Y19 := Y18.same s19
    have hg19 := hg18.same s19
    have gD19 := s19 _ _ gD18
    clear s18 s19 X17 Y17 hg17 hga gD gD18 Y18 hg18 g2
    refine ⟨.ref wb, rfl, gv, rfl, .ref wb, gv, V2, g, fun _ => [], rfl, ⟨wb, sb, pb, fbs, pbs, rfl, Y19.gen⟩, ⟨by omega, by omega⟩, hg19, by omega, S.mo.fv, fun gb H20 s20 hgb => ?_⟩
    have gD20 := s20 _ _ gD19
    refine ⟨.ref D, rfl, D, rfl, ⟨_, SqL.of gD20⟩, fun D3 hD3 => ?_⟩
    refine lc_list (xs := gl.map V.int) (fun i G => Same H20 G ∧ IL G D3 (((gl.take i).filter fun o => decide ((V1.n : Int) ≤ o)).map fun o => o - (V1.n : Int))) ⟨Same.new hD3, upd_same⟩ (fun i G _ q => SqL.of (q.1 _ _ gD20)) ?_ ?_
    · rintro i x G hx ⟨sG, g2⟩
      obtain ⟨y, hy, rfl⟩ : ∃ y, gl[i]? = some y ∧ V.int y = x := by
        rw [List.getElem?_map] at hx
        cases e : gl[i]? with
        | none => rw [e] at hx; cases hx
        | some y => rw [e] at hx; exact ⟨y, rfl, Option.some.inj hx⟩
      refine ⟨rfl, .int y, rfl, .int (V1.n : Nat), rfl, y, (V1.n : Nat), rfl, rfl, _, rfl, ?_⟩
      rw [List.take_add_one, hy, List.filter_append]
      have ln : ((((gl.take i).filter fun o => decide ((V1.n : Int) ≤ o)).map fun o => o - (V1.n : Int)).map V.int).length ≤ 8 := by
        rw [List.length_map, List.length_map]
        refine Nat.le_trans (List.length_filter_le _ _) ?_
        rw [List.length_take]
        omega
      by_cases c : (V1.n : Int) ≤ y
      · rw [decide_eq_true c]
        refine iteT ⟨.int y, rfl, .int (V1.n : Nat), rfl, y, (V1.n : Nat), rfl, rfl, _, g2, small1000 (by omega), fun b o e => by rw [upd_ne (ne_of_none e hD3)]; exact sG b o e, ?_⟩
        show _ = _
        rw [upd_same, Option.toList_some, List.filter_cons_of_pos (p := fun o : Int => decide ((V1.n : Int) ≤ o)) (decide_eq_true c), List.map_append, List.map_append]
        rfl
      · rw [decide_eq_false c]
        refine iteF ⟨sG, ?_⟩
        rw [Option.toList_some, List.filter_cons_of_neg (p := fun o : Int => decide ((V1.n : Int) ≤ o)) (fun z => c (of_decide_eq_true z)), List.filter_nil, List.append_nil]
        exact g2
    rintro G21 ⟨s21, g2⟩
    rw [List.length_map, List.take_length, ← l2] at g2
    refine ⟨.list ((val V2 g fun _ => []).map PyData.int), .list ((val V2 g fun _ => []).map PyData.int), .lst (SqL.of (s21 _ _ hgb)) (dp_ints _), .lst (SqL.of g2) (dp_ints _), ints_shaped _, ints_shaped _, ?_⟩
    rw [ints_same]
    exact k _
end
end Fw

set_option maxRecDepth 100000
set_option maxHeartbeats 4000000
namespace Fw
open PySem PySem.Spec PyProof.Rows L2
theorem exm_own {K : PySem.W.Frag} {S : Addr} (h1 : PySem.W.subIn K (.ref S) (.type "BaseException") = some true) (h2 : PySem.W.hasDictIn K S = true) (h3 : PySem.W.typeIn K (.ref S) = some (.type "type")) (h4 : PySem.W.subIn K (.ref S) (.ref S) = some true) :
    PySem.W.exmOne K (.ref S) (.ref S) = some true := PySem.W.exm_ref h1 h2 h3 h4
/-- what is known of the law where the worlds are tried -/
def Top29 (P : Program) (w : World) (K : PySem.W.Frag) (mg : Str → Option Value) (fa : Addr) : Prop :=
  ∃ (fd : FuncData) (cA tA : Addr), PySem.W.tabIn K "ascends" = some (cA, tA) ∧ K.lookup tA = none ∧ (∀ (s : Shared) (u : Value), BindsTo s fd ⟨[u], []⟩ [("script", u)]) ∧
    ∀ base : Heap, K.In base → base.Ns mainGlobals mg → GxR.TabB base mg cA tA → FnOk P w K mg base CX0 44 fa fd ["script"] (spLaw K tA)
theorem pairK {K : PySem.W.Frag} {J : Addr} {d : Option Addr} {n : Nat} {sl : Array (Option Value)} {t1 t2 : Tok} {x y : Str} (l : K.lookup J = some ⟨.type "tuple", d, .seq #[.str x t1, .str y t2] n, sl⟩) (H : Hp) : SqT K H J [.str x, .str y] :=
  .inr ⟨_, #[.str x t1, .str y t2], n, l, rfl, rfl, by show 2 ≤ sizeLine; decide, .cons ⟨t1, rfl⟩ (.cons ⟨t2, rfl⟩ .nil)⟩
theorem all_mk {P : Program} {w : World} {K : PySem.W.Frag} {h : Heap} {mg : Str → Option Value} {c_ascends t_ascends : Addr}
    {NC : Addr}
    {C_World : Addr}
    {C_Rounds : Addr}
    {fa f0 f1 f2 f3 f4 f5 f6 f7 f8 f9 f10 f11 f12 f13 f14 f15 f16 f17 f18 f19 f20 f21 f22 f23 f24 f25 f26 f27 f28 f29 f30 f31 f32 f33 f34 f35 f36 f37 f38 : Addr}
    {od0 an0 od1 an1 od2 an2 od3 an3 od4 an4 od5 an5 od6 an6 od7 an7 od8 an8 od9 an9 od10 an10 od11 an11 od12 an12 od13 an13 od14 an14 od15 an15 od16 an16 od17 an17 od18 an18 od19 an19 od20 an20 od21 an21 od22 an22 od23 an23 od24 an24 od25 an25 od26 an26 od27 an27 od28 an28 od29 an29 od30 an30 od31 an31 od32 an32 od33 an33 od34 an34 od35 an35 od36 an36 od37 an37 od38 an38 : Option Addr} {sl0 sl1 sl2 sl3 sl4 sl5 sl6 sl7 sl8 sl9 sl10 sl11 sl12 sl13 sl14 sl15 sl16 sl17 sl18 sl19 sl20 sl21 sl22 sl23 sl24 sl25 sl26 sl27 sl28 sl29 sl30 sl31 sl32 sl33 sl34 sl35 sl36 sl37 sl38 : Array (Option Value)} {oc0 kV0 dc0 pm0 cd0 ct0 oc1 kV1 dc1 pm1 cd1 ct1 oc2 kV2 dc2 pm2 cd2 ct2 oc3 kV3 dc3 pm3 cd3 ct3 oc4 kV4 dc4 pm4 cd4 ct4 oc5 kV5 dc5 pm5 cd5 ct5 oc6 kV6 dc6 pm6 cd6 ct6 oc7 kV7 dc7 pm7 cd7 ct7 oc8 kV8 dc8 pm8 cd8 ct8 oc9 kV9 dc9 pm9 cd9 ct9 oc10 kV10 dc10 pm10 cd10 ct10 oc11 kV11 dc11 pm11 cd11 ct11 oc12 kV12 dc12 pm12 cd12 ct12 oc13 kV13 dc13 pm13 cd13 ct13 oc14 kV14 dc14 pm14 cd14 ct14 oc15 kV15 dc15 pm15 cd15 ct15 oc16 kV16 dc16 pm16 cd16 ct16 oc17 kV17 dc17 pm17 cd17 ct17 oc18 kV18 dc18 pm18 cd18 ct18 oc19 kV19 dc19 pm19 cd19 ct19 oc20 kV20 dc20 pm20 cd20 ct20 oc21 kV21 dc21 pm21 cd21 ct21 oc22 kV22 dc22 pm22 cd22 ct22 oc23 kV23 dc23 pm23 cd23 ct23 oc24 kV24 dc24 pm24 cd24 ct24 oc25 kV25 dc25 pm25 cd25 ct25 oc26 kV26 dc26 pm26 cd26 ct26 oc27 kV27 dc27 pm27 cd27 ct27 oc28 kV28 dc28 pm28 cd28 ct28 oc29 kV29 dc29 pm29 cd29 ct29 oc30 kV30 dc30 pm30 cd30 ct30 oc31 kV31 dc31 pm31 cd31 ct31 oc32 kV32 dc32 pm32 cd32 ct32 oc33 kV33 dc33 pm33 cd33 ct33 oc34 kV34 dc34 pm34 cd34 ct34 oc35 kV35 dc35 pm35 cd35 ct35 oc36 kV36 dc36 pm36 cd36 ct36 oc37 kV37 dc37 pm37 cd37 ct37 oc38 kV38 dc38 pm38 cd38 ct38 : Value}
    {t_MOST_LABELS : Tok}
    {t_MOST_FACTS : Tok}
    {t_MOST_STATES : Tok}
    {cc_ascends : Value} {cd_ascends : Option Addr} {cv_ascends : Array Value} {cn_ascends : Array (Option Value)}
    (X : K.In h) (G : h.Ns mainGlobals mg) (hfa : mg "law" = some (.ref fa))
    (aC_Rounds : PySem.W.nsIn K mainGlobals "Rounds" = some (some (.ref C_Rounds)))
    (aC_World : PySem.W.nsIn K mainGlobals "World" = some (some (.ref C_World)))
    (a0 : PySem.W.nsIn K mainGlobals "all_of" = some (some (.ref f0)))
    (l0 : K.lookup f0 = some ⟨oc0, od0, .func (PySem.W.fnOf "all_of" "all_of" (defArgs s_all_of) (defBody s_all_of) (defScope s_all_of) .none kV0 dc0 pm0 an0 cd0 ct0), sl0⟩)
    (c0 : PySem.W.codeIn K cd0 "all_of" = true)
    (k0 : PySem.W.keepIn K (.ref f0) = true)
    (a1 : PySem.W.nsIn K mainGlobals "any_of" = some (some (.ref f1)))
    (l1 : K.lookup f1 = some ⟨oc1, od1, .func (PySem.W.fnOf "any_of" "any_of" (defArgs s_any_of) (defBody s_any_of) (defScope s_any_of) .none kV1 dc1 pm1 an1 cd1 ct1), sl1⟩)
    (c1 : PySem.W.codeIn K cd1 "any_of" = true)
    (k1 : PySem.W.keepIn K (.ref f1) = true)
    (a2 : PySem.W.nsIn K mainGlobals "balanced" = some (some (.ref f2)))
    (l2 : K.lookup f2 = some ⟨oc2, od2, .func (PySem.W.fnOf "balanced" "balanced" (defArgs s_balanced) (defBody s_balanced) (defScope s_balanced) .none kV2 dc2 pm2 an2 cd2 ct2), sl2⟩)
    (c2 : PySem.W.codeIn K cd2 "balanced" = true)
    (k2 : PySem.W.keepIn K (.ref f2) = true)
    (a3 : PySem.W.nsIn K mainGlobals "states_in" = some (some (.ref f3)))
    (l3 : K.lookup f3 = some ⟨oc3, od3, .func (PySem.W.fnOf "states_in" "states_in" (defArgs s_states_in) (defBody s_states_in) (defScope s_states_in) .none kV3 dc3 pm3 an3 cd3 ct3), sl3⟩)
    (c3 : PySem.W.codeIn K cd3 "states_in" = true)
    (k3 : PySem.W.keepIn K (.ref f3) = true)
    (a4 : PySem.W.nsIn K mainGlobals "led" = some (some (.ref f4)))
    (l4 : K.lookup f4 = some ⟨oc4, od4, .func (PySem.W.fnOf "led" "led" (defArgs s_led) (defBody s_led) (defScope s_led) .none kV4 dc4 pm4 an4 cd4 ct4), sl4⟩)
    (c4 : PySem.W.codeIn K cd4 "led" = true)
    (k4 : PySem.W.keepIn K (.ref f4) = true)
    (a5 : PySem.W.nsIn K mainGlobals "step_masks" = some (some (.ref f5)))
    (l5 : K.lookup f5 = some ⟨oc5, od5, .func (PySem.W.fnOf "step_masks" "step_masks" (defArgs s_step_masks) (defBody s_step_masks) (defScope s_step_masks) .none kV5 dc5 pm5 an5 cd5 ct5), sl5⟩)
    (c5 : PySem.W.codeIn K cd5 "step_masks" = true)
    (k5 : PySem.W.keepIn K (.ref f5) = true)
    (a6 : PySem.W.findIn K (.ref C_Rounds) "__init__" = some (some (.ref f6)))
    (i6 : PySem.W.isFn K (.ref f6) = true)
    (l6 : K.lookup f6 = some ⟨oc6, od6, .func (PySem.W.fnOf "__init__" "Rounds.__init__" (defArgs s_Rounds_init) (defBody s_Rounds_init) (defScope s_Rounds_init) .none kV6 dc6 pm6 an6 cd6 ct6), sl6⟩)
    (c6 : PySem.W.codeIn K cd6 "Rounds.__init__" = true)
    (k6 : PySem.W.keepIn K (.ref f6) = true)
    (a7 : PySem.W.findIn K (.ref C_Rounds) "advance" = some (some (.ref f7)))
    (i7 : PySem.W.isFn K (.ref f7) = true)
    (l7 : K.lookup f7 = some ⟨oc7, od7, .func (PySem.W.fnOf "advance" "Rounds.advance" (defArgs s_Rounds_advance) (defBody s_Rounds_advance) (defScope s_Rounds_advance) .none kV7 dc7 pm7 an7 cd7 ct7), sl7⟩)
    (c7 : PySem.W.codeIn K cd7 "Rounds.advance" = true)
    (k7 : PySem.W.keepIn K (.ref f7) = true)
    (a8 : PySem.W.findIn K (.ref C_Rounds) "numbers" = some (some (.ref f8)))
    (i8 : PySem.W.isFn K (.ref f8) = true)
    (l8 : K.lookup f8 = some ⟨oc8, od8, .func (PySem.W.fnOf "numbers" "Rounds.numbers" (defArgs s_Rounds_numbers) (defBody s_Rounds_numbers) (defScope s_Rounds_numbers) .none kV8 dc8 pm8 an8 cd8 ct8), sl8⟩)
    (c8 : PySem.W.codeIn K cd8 "Rounds.numbers" = true)
    (k8 : PySem.W.keepIn K (.ref f8) = true)
    (a9 : PySem.W.nsIn K mainGlobals "like_at_once" = some (some (.ref f9)))
    (l9 : K.lookup f9 = some ⟨oc9, od9, .func (PySem.W.fnOf "like_at_once" "like_at_once" (defArgs s_like_at_once) (defBody s_like_at_once) (defScope s_like_at_once) .none kV9 dc9 pm9 an9 cd9 ct9), sl9⟩)
    (c9 : PySem.W.codeIn K cd9 "like_at_once" = true)
    (k9 : PySem.W.keepIn K (.ref f9) = true)
    (a10 : PySem.W.nsIn K mainGlobals "cut_up" = some (some (.ref f10)))
    (l10 : K.lookup f10 = some ⟨oc10, od10, .func (PySem.W.fnOf "cut_up" "cut_up" (defArgs s_cut_up) (defBody s_cut_up) (defScope s_cut_up) .none kV10 dc10 pm10 an10 cd10 ct10), sl10⟩)
    (c10 : PySem.W.codeIn K cd10 "cut_up" = true)
    (k10 : PySem.W.keepIn K (.ref f10) = true)
    (a11 : PySem.W.nsIn K mainGlobals "least_of" = some (some (.ref f11)))
    (l11 : K.lookup f11 = some ⟨oc11, od11, .func (PySem.W.fnOf "least_of" "least_of" (defArgs s_least_of) (defBody s_least_of) (defScope s_least_of) .none kV11 dc11 pm11 an11 cd11 ct11), sl11⟩)
    (c11 : PySem.W.codeIn K cd11 "least_of" = true)
    (k11 : PySem.W.keepIn K (.ref f11) = true)
    (a12 : PySem.W.nsIn K mainGlobals "is_number" = some (some (.ref f12)))
    (l12 : K.lookup f12 = some ⟨oc12, od12, .func (PySem.W.fnOf "is_number" "is_number" (defArgs s_is_number) (defBody s_is_number) (defScope s_is_number) .none kV12 dc12 pm12 an12 cd12 ct12), sl12⟩)
    (c12 : PySem.W.codeIn K cd12 "is_number" = true)
    (k12 : PySem.W.keepIn K (.ref f12) = true)
    (a13 : PySem.W.nsIn K mainGlobals "ascends" = some (some (.ref f13)))
    (l13 : K.lookup f13 = some ⟨oc13, od13, .func (PySem.W.fnOf "ascends" "ascends" (defArgs s_ascends) (defBody s_ascends) (defScope s_ascends) .none kV13 dc13 pm13 an13 cd13 ct13), sl13⟩)
    (c13 : PySem.W.codeIn K cd13 "ascends" = true)
    (k13 : PySem.W.keepIn K (.ref f13) = true)
    (a14 : PySem.W.findIn K (.ref C_World) "__init__" = some (some (.ref f14)))
    (i14 : PySem.W.isFn K (.ref f14) = true)
    (l14 : K.lookup f14 = some ⟨oc14, od14, .func (PySem.W.fnOf "__init__" "World.__init__" (defArgs s_World_init) (defBody s_World_init) (defScope s_World_init) .none kV14 dc14 pm14 an14 cd14 ct14), sl14⟩)
    (c14 : PySem.W.codeIn K cd14 "World.__init__" = true)
    (k14 : PySem.W.keepIn K (.ref f14) = true)
    (a15 : PySem.W.nsIn K mainGlobals "check_numbers" = some (some (.ref f15)))
    (l15 : K.lookup f15 = some ⟨oc15, od15, .func (PySem.W.fnOf "check_numbers" "check_numbers" (defArgs s_check_numbers) (defBody s_check_numbers) (defScope s_check_numbers) .none kV15 dc15 pm15 an15 cd15 ct15), sl15⟩)
    (c15 : PySem.W.codeIn K cd15 "check_numbers" = true)
    (k15 : PySem.W.keepIn K (.ref f15) = true)
    (a16 : PySem.W.nsIn K mainGlobals "check_states" = some (some (.ref f16)))
    (l16 : K.lookup f16 = some ⟨oc16, od16, .func (PySem.W.fnOf "check_states" "check_states" (defArgs s_check_states) (defBody s_check_states) (defScope s_check_states) .none kV16 dc16 pm16 an16 cd16 ct16), sl16⟩)
    (c16 : PySem.W.codeIn K cd16 "check_states" = true)
    (k16 : PySem.W.keepIn K (.ref f16) = true)
    (a17 : PySem.W.nsIn K mainGlobals "check_steps" = some (some (.ref f17)))
    (l17 : K.lookup f17 = some ⟨oc17, od17, .func (PySem.W.fnOf "check_steps" "check_steps" (defArgs s_check_steps) (defBody s_check_steps) (defScope s_check_steps) .none kV17 dc17 pm17 an17 cd17 ct17), sl17⟩)
    (c17 : PySem.W.codeIn K cd17 "check_steps" = true)
    (k17 : PySem.W.keepIn K (.ref f17) = true)
    (a18 : PySem.W.nsIn K mainGlobals "ends_of" = some (some (.ref f18)))
    (l18 : K.lookup f18 = some ⟨oc18, od18, .func (PySem.W.fnOf "ends_of" "ends_of" (defArgs s_ends_of) (defBody s_ends_of) (defScope s_ends_of) .none kV18 dc18 pm18 an18 cd18 ct18), sl18⟩)
    (c18 : PySem.W.codeIn K cd18 "ends_of" = true)
    (k18 : PySem.W.keepIn K (.ref f18) = true)
    (a19 : PySem.W.nsIn K mainGlobals "followers" = some (some (.ref f19)))
    (l19 : K.lookup f19 = some ⟨oc19, od19, .func (PySem.W.fnOf "followers" "followers" (defArgs s_followers) (defBody s_followers) (defScope s_followers) .none kV19 dc19 pm19 an19 cd19 ct19), sl19⟩)
    (c19 : PySem.W.codeIn K cd19 "followers" = true)
    (k19 : PySem.W.keepIn K (.ref f19) = true)
    (a20 : PySem.W.nsIn K mainGlobals "fact_signs" = some (some (.ref f20)))
    (l20 : K.lookup f20 = some ⟨oc20, od20, .func (PySem.W.fnOf "fact_signs" "fact_signs" (defArgs s_fact_signs) (defBody s_fact_signs) (defScope s_fact_signs) .none kV20 dc20 pm20 an20 cd20 ct20), sl20⟩)
    (c20 : PySem.W.codeIn K cd20 "fact_signs" = true)
    (k20 : PySem.W.keepIn K (.ref f20) = true)
    (a21 : PySem.W.nsIn K mainGlobals "step_signs" = some (some (.ref f21)))
    (l21 : K.lookup f21 = some ⟨oc21, od21, .func (PySem.W.fnOf "step_signs" "step_signs" (defArgs s_step_signs) (defBody s_step_signs) (defScope s_step_signs) .none kV21 dc21 pm21 an21 cd21 ct21), sl21⟩)
    (c21 : PySem.W.codeIn K cd21 "step_signs" = true)
    (k21 : PySem.W.keepIn K (.ref f21) = true)
    (a22 : PySem.W.nsIn K mainGlobals "like_in_steps" = some (some (.ref f22)))
    (l22 : K.lookup f22 = some ⟨oc22, od22, .func (PySem.W.fnOf "like_in_steps" "like_in_steps" (defArgs s_like_in_steps) (defBody s_like_in_steps) (defScope s_like_in_steps) .none kV22 dc22 pm22 an22 cd22 ct22), sl22⟩)
    (c22 : PySem.W.codeIn K cd22 "like_in_steps" = true)
    (k22 : PySem.W.keepIn K (.ref f22) = true)
    (a23 : PySem.W.nsIn K mainGlobals "glimpse" = some (some (.ref f23)))
    (l23 : K.lookup f23 = some ⟨oc23, od23, .func (PySem.W.fnOf "glimpse" "glimpse" (defArgs s_glimpse) (defBody s_glimpse) (defScope s_glimpse) .none kV23 dc23 pm23 an23 cd23 ct23), sl23⟩)
    (c23 : PySem.W.codeIn K cd23 "glimpse" = true)
    (k23 : PySem.W.keepIn K (.ref f23) = true)
    (a24 : PySem.W.nsIn K mainGlobals "_law_draws" = some (some (.ref f24)))
    (l24 : K.lookup f24 = some ⟨oc24, od24, .func (PySem.W.fnOf "_law_draws" "_law_draws" (defArgs s_law_draws) (defBody s_law_draws) (defScope s_law_draws) .none kV24 dc24 pm24 an24 cd24 ct24), sl24⟩)
    (c24 : PySem.W.codeIn K cd24 "_law_draws" = true)
    (k24 : PySem.W.keepIn K (.ref f24) = true)
    (a25 : PySem.W.nsIn K mainGlobals "_law_take" = some (some (.ref f25)))
    (l25 : K.lookup f25 = some ⟨oc25, od25, .func (PySem.W.fnOf "_law_take" "_law_take" (defArgs s_law_take) (defBody s_law_take) (defScope s_law_take) .none kV25 dc25 pm25 an25 cd25 ct25), sl25⟩)
    (c25 : PySem.W.codeIn K cd25 "_law_take" = true)
    (k25 : PySem.W.keepIn K (.ref f25) = true)
    (a26 : PySem.W.nsIn K mainGlobals "_law_is_integer" = some (some (.ref f26)))
    (l26 : K.lookup f26 = some ⟨oc26, od26, .func (PySem.W.fnOf "_law_is_integer" "_law_is_integer" (defArgs s_law_is_integer) (defBody s_law_is_integer) (defScope s_law_is_integer) .none kV26 dc26 pm26 an26 cd26 ct26), sl26⟩)
    (c26 : PySem.W.codeIn K cd26 "_law_is_integer" = true)
    (k26 : PySem.W.keepIn K (.ref f26) = true)
    (a27 : PySem.W.nsIn K mainGlobals "_law_numbers" = some (some (.ref f27)))
    (l27 : K.lookup f27 = some ⟨oc27, od27, .func (PySem.W.fnOf "_law_numbers" "_law_numbers" (defArgs s_law_numbers) (defBody s_law_numbers) (defScope s_law_numbers) .none kV27 dc27 pm27 an27 cd27 ct27), sl27⟩)
    (c27 : PySem.W.codeIn K cd27 "_law_numbers" = true)
    (k27 : PySem.W.keepIn K (.ref f27) = true)
    (a28 : PySem.W.nsIn K mainGlobals "_law_inner" = some (some (.ref f28)))
    (l28 : K.lookup f28 = some ⟨oc28, od28, .func (PySem.W.fnOf "_law_inner" "_law_inner" (defArgs s_law_inner) (defBody s_law_inner) (defScope s_law_inner) .none kV28 dc28 pm28 an28 cd28 ct28), sl28⟩)
    (c28 : PySem.W.codeIn K cd28 "_law_inner" = true)
    (k28 : PySem.W.keepIn K (.ref f28) = true)
    (a29 : PySem.W.nsIn K mainGlobals "_law_free" = some (some (.ref f29)))
    (l29 : K.lookup f29 = some ⟨oc29, od29, .func (PySem.W.fnOf "_law_free" "_law_free" (defArgs s_law_free) (defBody s_law_free) (defScope s_law_free) .none kV29 dc29 pm29 an29 cd29 ct29), sl29⟩)
    (c29 : PySem.W.codeIn K cd29 "_law_free" = true)
    (k29 : PySem.W.keepIn K (.ref f29) = true)
    (a30 : PySem.W.nsIn K mainGlobals "_law_world" = some (some (.ref f30)))
    (l30 : K.lookup f30 = some ⟨oc30, od30, .func (PySem.W.fnOf "_law_world" "_law_world" (defArgs s_law_world) (defBody s_law_world) (defScope s_law_world) .none kV30 dc30 pm30 an30 cd30 ct30), sl30⟩)
    (c30 : PySem.W.codeIn K cd30 "_law_world" = true)
    (k30 : PySem.W.keepIn K (.ref f30) = true)
    (a31 : PySem.W.nsIn K mainGlobals "_law_made" = some (some (.ref f31)))
    (l31 : K.lookup f31 = some ⟨oc31, od31, .func (PySem.W.fnOf "_law_made" "_law_made" (defArgs s_law_made) (defBody s_law_made) (defScope s_law_made) .none kV31 dc31 pm31 an31 cd31 ct31), sl31⟩)
    (c31 : PySem.W.codeIn K cd31 "_law_made" = true)
    (k31 : PySem.W.keepIn K (.ref f31) = true)
    (a32 : PySem.W.nsIn K mainGlobals "_law_behind" = some (some (.ref f32)))
    (l32 : K.lookup f32 = some ⟨oc32, od32, .func (PySem.W.fnOf "_law_behind" "_law_behind" (defArgs s_law_behind) (defBody s_law_behind) (defScope s_law_behind) .none kV32 dc32 pm32 an32 cd32 ct32), sl32⟩)
    (c32 : PySem.W.codeIn K cd32 "_law_behind" = true)
    (k32 : PySem.W.keepIn K (.ref f32) = true)
    (a33 : PySem.W.nsIn K mainGlobals "_law_value" = some (some (.ref f33)))
    (l33 : K.lookup f33 = some ⟨oc33, od33, .func (PySem.W.fnOf "_law_value" "_law_value" (defArgs s_law_value) (defBody s_law_value) (defScope s_law_value) .none kV33 dc33 pm33 an33 cd33 ct33), sl33⟩)
    (c33 : PySem.W.codeIn K cd33 "_law_value" = true)
    (k33 : PySem.W.keepIn K (.ref f33) = true)
    (a34 : PySem.W.nsIn K mainGlobals "_law_truth" = some (some (.ref f34)))
    (l34 : K.lookup f34 = some ⟨oc34, od34, .func (PySem.W.fnOf "_law_truth" "_law_truth" (defArgs s_law_truth) (defBody s_law_truth) (defScope s_law_truth) .none kV34 dc34 pm34 an34 cd34 ct34), sl34⟩)
    (c34 : PySem.W.codeIn K cd34 "_law_truth" = true)
    (k34 : PySem.W.keepIn K (.ref f34) = true)
    (a35 : PySem.W.nsIn K mainGlobals "_law_beside" = some (some (.ref f35)))
    (l35 : K.lookup f35 = some ⟨oc35, od35, .func (PySem.W.fnOf "_law_beside" "_law_beside" (defArgs s_law_beside) (defBody s_law_beside) (defScope s_law_beside) .none kV35 dc35 pm35 an35 cd35 ct35), sl35⟩)
    (c35 : PySem.W.codeIn K cd35 "_law_beside" = true)
    (k35 : PySem.W.keepIn K (.ref f35) = true)
    (a36 : PySem.W.nsIn K mainGlobals "_law_is_statement" = some (some (.ref f36)))
    (l36 : K.lookup f36 = some ⟨oc36, od36, .func (PySem.W.fnOf "_law_is_statement" "_law_is_statement" (defArgs s_law_is_statement) (defBody s_law_is_statement) (defScope s_law_is_statement) .none kV36 dc36 pm36 an36 cd36 ct36), sl36⟩)
    (c36 : PySem.W.codeIn K cd36 "_law_is_statement" = true)
    (k36 : PySem.W.keepIn K (.ref f36) = true)
    (a37 : PySem.W.nsIn K mainGlobals "_law_rounds" = some (some (.ref f37)))
    (l37 : K.lookup f37 = some ⟨oc37, od37, .func (PySem.W.fnOf "_law_rounds" "_law_rounds" (defArgs s_law_rounds) (defBody s_law_rounds) (defScope s_law_rounds) .none kV37 dc37 pm37 an37 cd37 ct37), sl37⟩)
    (c37 : PySem.W.codeIn K cd37 "_law_rounds" = true)
    (k37 : PySem.W.keepIn K (.ref f37) = true)
    (a38 : PySem.W.nsIn K mainGlobals "law" = some (some (.ref f38)))
    (l38 : K.lookup f38 = some ⟨oc38, od38, .func (PySem.W.fnOf "law" "law" (defArgs s_law) (defBody s_law) (defScope s_law) .none kV38 dc38 pm38 an38 cd38 ct38), sl38⟩)
    (c38 : PySem.W.codeIn K cd38 "law" = true)
    (k38 : PySem.W.keepIn K (.ref f38) = true)
    (pg_Rounds : PySem.W.plainGet K C_Rounds Str.empty = true)
    (hd_Rounds : PySem.W.hasDictIn K C_Rounds = true)
    (po_Rounds : PySem.W.plainOver K C_Rounds = true)
    (sa_Rounds : PySem.W.findIn K (.ref C_Rounds) "__setattr__" = some (some (.builtin "object.__setattr__")))
    (mk_Rounds : PySem.W.makesIn K C_Rounds = true)
    (kc_Rounds : PySem.W.keepIn K (.ref C_Rounds) = true)
    (n_Rounds__many : PySem.W.findIn K (.ref C_Rounds) "_many" = some none)
    (n_Rounds__before : PySem.W.findIn K (.ref C_Rounds) "_before" = some none)
    (n_Rounds__blocks : PySem.W.findIn K (.ref C_Rounds) "_blocks" = some none)
    (n_Rounds__fresh : PySem.W.findIn K (.ref C_Rounds) "_fresh" = some none)
    (pg_World : PySem.W.plainGet K C_World Str.empty = true)
    (hd_World : PySem.W.hasDictIn K C_World = true)
    (po_World : PySem.W.plainOver K C_World = true)
    (sa_World : PySem.W.findIn K (.ref C_World) "__setattr__" = some (some (.builtin "object.__setattr__")))
    (mk_World : PySem.W.makesIn K C_World = true)
    (kc_World : PySem.W.keepIn K (.ref C_World) = true)
    (n_World_labels : PySem.W.findIn K (.ref C_World) "labels" = some none)
    (n_World_facts : PySem.W.findIn K (.ref C_World) "facts" = some none)
    (n_World_states : PySem.W.findIn K (.ref C_World) "states" = some none)
    (n_World_steps : PySem.W.findIn K (.ref C_World) "steps" = some none)
    (n_World__ends : PySem.W.findIn K (.ref C_World) "_ends" = some none)
    (z_all : PySem.W.nsIn K mainGlobals "all" = some none)
    (z_bool : PySem.W.nsIn K mainGlobals "bool" = some none)
    (z_enumerate : PySem.W.nsIn K mainGlobals "enumerate" = some none)
    (z_int : PySem.W.nsIn K mainGlobals "int" = some none)
    (z_isinstance : PySem.W.nsIn K mainGlobals "isinstance" = some none)
    (z_len : PySem.W.nsIn K mainGlobals "len" = some none)
    (z_list : PySem.W.nsIn K mainGlobals "list" = some none)
    (z_range : PySem.W.nsIn K mainGlobals "range" = some none)
    (z_set : PySem.W.nsIn K mainGlobals "set" = some none)
    (z_sorted : PySem.W.nsIn K mainGlobals "sorted" = some none)
    (z_tuple : PySem.W.nsIn K mainGlobals "tuple" = some none)
    (z_zip : PySem.W.nsIn K mainGlobals "zip" = some none)
    (aI_MOST_LABELS : PySem.W.nsIn K mainGlobals "MOST_LABELS" = some (some (.int 3 t_MOST_LABELS)))
    (aI_MOST_FACTS : PySem.W.nsIn K mainGlobals "MOST_FACTS" = some (some (.int 6 t_MOST_FACTS)))
    (aI_MOST_STATES : PySem.W.nsIn K mainGlobals "MOST_STATES" = some (some (.int 400 t_MOST_STATES)))
    (e_gC : PySem.W.nsIn K mainGlobals "InvalidWorld" = some (some (.ref NC)))
    (e_xC : PySem.W.excIn K NC [.type "ValueError", .type "Exception", .type "BaseException", .type "object"] "ValueError.__new__" = true)
    (e_kC : PySem.W.keepIn K (.ref NC) = true)
    (e_bC : PySem.W.subIn K (.ref NC) (.type "BaseException") = some true)
    (e_tC : PySem.W.typeIn K (.ref NC) = some (.type "type"))
    (e_sC : PySem.W.subIn K (.ref NC) (.ref NC) = some true)
    (e_xd : PySem.W.hasDictIn K NC = true)
    (hc_ascends : cd13 = .ref c_ascends)
    (lc_ascends : K.lookup c_ascends = some ⟨cc_ascends, cd_ascends, .fields cv_ascends, cn_ascends⟩)
    (pT_ascends : (cv_ascends[11]? : Option Value) = some (.ref t_ascends))
    (nT_ascends : K.lookup t_ascends = none) :
    Top29 P w K mg fa := by
  have e := hfa.symm.trans (PySem.W.mg_of X G a38)
  cases e
  have F_all_of := fun_mk (st := s_all_of) l0 c0 k0
  have b_all_of := F_all_of.binds (ps := a_all_of) fun _ _ _ _ _ _ us hl => match us, hl with | [_], _ => rfl
  have m_all_of := PySem.W.mg_of X G a0
  have F_any_of := fun_mk (st := s_any_of) l1 c1 k1
  have b_any_of := F_any_of.binds (ps := a_any_of) fun _ _ _ _ _ _ us hl => match us, hl with | [_], _ => rfl
  have m_any_of := PySem.W.mg_of X G a1
  have F_balanced := fun_mk (st := s_balanced) l2 c2 k2
  have b_balanced := F_balanced.binds (ps := a_balanced) fun _ _ _ _ _ _ us hl => match us, hl with | [_, _, _], _ => rfl
  have m_balanced := PySem.W.mg_of X G a2
  have F_states_in := fun_mk (st := s_states_in) l3 c3 k3
  have b_states_in := F_states_in.binds (ps := a_states_in) fun _ _ _ _ _ _ us hl => match us, hl with | [_], _ => rfl
  have m_states_in := PySem.W.mg_of X G a3
  have F_led := fun_mk (st := s_led) l4 c4 k4
  have b_led := F_led.binds (ps := a_led) fun _ _ _ _ _ _ us hl => match us, hl with | [_, _], _ => rfl
  have m_led := PySem.W.mg_of X G a4
  have F_step_masks := fun_mk (st := s_step_masks) l5 c5 k5
  have b_step_masks := F_step_masks.binds (ps := a_step_masks) fun _ _ _ _ _ _ us hl => match us, hl with | [_, _, _], _ => rfl
  have m_step_masks := PySem.W.mg_of X G a5
  have F_Rounds_init := fun_mk (st := s_Rounds_init) l6 c6 k6
  have b_Rounds_init := F_Rounds_init.binds (ps := a_Rounds_init) fun _ _ _ _ _ _ us hl => match us, hl with | [_, _, _], _ => rfl
  have F_Rounds_advance := fun_mk (st := s_Rounds_advance) l7 c7 k7
  have b_Rounds_advance := F_Rounds_advance.binds (ps := a_Rounds_advance) fun _ _ _ _ _ _ us hl => match us, hl with | [_], _ => rfl
  have F_Rounds_numbers := fun_mk (st := s_Rounds_numbers) l8 c8 k8
  have b_Rounds_numbers := F_Rounds_numbers.binds (ps := a_Rounds_numbers) fun _ _ _ _ _ _ us hl => match us, hl with | [_], _ => rfl
  have F_like_at_once := fun_mk (st := s_like_at_once) l9 c9 k9
  have b_like_at_once := F_like_at_once.binds (ps := a_like_at_once) fun _ _ _ _ _ _ us hl => match us, hl with | [_], _ => rfl
  have m_like_at_once := PySem.W.mg_of X G a9
  have F_cut_up := fun_mk (st := s_cut_up) l10 c10 k10
  have b_cut_up := F_cut_up.binds (ps := a_cut_up) fun _ _ _ _ _ _ us hl => match us, hl with | [_, _], _ => rfl
  have m_cut_up := PySem.W.mg_of X G a10
  have F_least_of := fun_mk (st := s_least_of) l11 c11 k11
  have b_least_of := F_least_of.binds (ps := a_least_of) fun _ _ _ _ _ _ us hl => match us, hl with | [_], _ => rfl
  have m_least_of := PySem.W.mg_of X G a11
  have F_is_number := fun_mk (st := s_is_number) l12 c12 k12
  have b_is_number := F_is_number.binds (ps := a_is_number) fun _ _ _ _ _ _ us hl => match us, hl with | [_, _, _], _ => rfl
  have m_is_number := PySem.W.mg_of X G a12
  have F_ascends := fun_mk (st := s_ascends) l13 c13 k13
  have b_ascends := F_ascends.binds (ps := a_ascends) fun _ _ _ _ _ _ us hl => match us, hl with | [_], _ => rfl
  have m_ascends := PySem.W.mg_of X G a13
  have F_World_init := fun_mk (st := s_World_init) l14 c14 k14
  have b_World_init := F_World_init.binds (ps := a_World_init) fun _ _ _ _ _ _ us hl => match us, hl with | [_, _, _, _, _], _ => rfl
  have F_check_numbers := fun_mk (st := s_check_numbers) l15 c15 k15
  have b_check_numbers := F_check_numbers.binds (ps := a_check_numbers) fun _ _ _ _ _ _ us hl => match us, hl with | [_, _], _ => rfl
  have m_check_numbers := PySem.W.mg_of X G a15
  have F_check_states := fun_mk (st := s_check_states) l16 c16 k16
  have b_check_states := F_check_states.binds (ps := a_check_states) fun _ _ _ _ _ _ us hl => match us, hl with | [_], _ => rfl
  have m_check_states := PySem.W.mg_of X G a16
  have F_check_steps := fun_mk (st := s_check_steps) l17 c17 k17
  have b_check_steps := F_check_steps.binds (ps := a_check_steps) fun _ _ _ _ _ _ us hl => match us, hl with | [_], _ => rfl
  have m_check_steps := PySem.W.mg_of X G a17
  have F_ends_of := fun_mk (st := s_ends_of) l18 c18 k18
  have b_ends_of := F_ends_of.binds (ps := a_ends_of) fun _ _ _ _ _ _ us hl => match us, hl with | [_], _ => rfl
  have m_ends_of := PySem.W.mg_of X G a18
  have F_followers := fun_mk (st := s_followers) l19 c19 k19
  have b_followers := F_followers.binds (ps := a_followers) fun _ _ _ _ _ _ us hl => match us, hl with | [_, _, _], _ => rfl
  have m_followers := PySem.W.mg_of X G a19
  have F_fact_signs := fun_mk (st := s_fact_signs) l20 c20 k20
  have b_fact_signs := F_fact_signs.binds (ps := a_fact_signs) fun _ _ _ _ _ _ us hl => match us, hl with | [_, _], _ => rfl
  have m_fact_signs := PySem.W.mg_of X G a20
  have F_step_signs := fun_mk (st := s_step_signs) l21 c21 k21
  have b_step_signs := F_step_signs.binds (ps := a_step_signs) fun _ _ _ _ _ _ us hl => match us, hl with | [_, _, _, _, _], _ => rfl
  have m_step_signs := PySem.W.mg_of X G a21
  have F_like_in_steps := fun_mk (st := s_like_in_steps) l22 c22 k22
  have b_like_in_steps := F_like_in_steps.binds (ps := a_like_in_steps) fun _ _ _ _ _ _ us hl => match us, hl with | [_, _], _ => rfl
  have m_like_in_steps := PySem.W.mg_of X G a22
  have F_glimpse := fun_mk (st := s_glimpse) l23 c23 k23
  have b_glimpse := F_glimpse.binds (ps := a_glimpse) fun _ _ _ _ _ _ us hl => match us, hl with | [_, _, _, _, _], _ => rfl
  have m_glimpse := PySem.W.mg_of X G a23
  have F_law_draws := fun_mk (st := s_law_draws) l24 c24 k24
  have b_law_draws := F_law_draws.binds (ps := a_law_draws) fun _ _ _ _ _ _ us hl => match us, hl with | [_, _], _ => rfl
  have m_law_draws := PySem.W.mg_of X G a24
  have F_law_take := fun_mk (st := s_law_take) l25 c25 k25
  have b_law_take := F_law_take.binds (ps := a_law_take) fun _ _ _ _ _ _ us hl => match us, hl with | [_, _], _ => rfl
  have m_law_take := PySem.W.mg_of X G a25
  have F_law_is_integer := fun_mk (st := s_law_is_integer) l26 c26 k26
  have b_law_is_integer := F_law_is_integer.binds (ps := a_law_is_integer) fun _ _ _ _ _ _ us hl => match us, hl with | [_], _ => rfl
  have m_law_is_integer := PySem.W.mg_of X G a26
  have F_law_numbers := fun_mk (st := s_law_numbers) l27 c27 k27
  have b_law_numbers := F_law_numbers.binds (ps := a_law_numbers) fun _ _ _ _ _ _ us hl => match us, hl with | [_, _, _], _ => rfl
  have m_law_numbers := PySem.W.mg_of X G a27
  have F_law_inner := fun_mk (st := s_law_inner) l28 c28 k28
  have b_law_inner := F_law_inner.binds (ps := a_law_inner) fun _ _ _ _ _ _ us hl => match us, hl with | [_], _ => rfl
  have m_law_inner := PySem.W.mg_of X G a28
  have F_law_free := fun_mk (st := s_law_free) l29 c29 k29
  have b_law_free := F_law_free.binds (ps := a_law_free) fun _ _ _ _ _ _ us hl => match us, hl with | [_, _], _ => rfl
  have m_law_free := PySem.W.mg_of X G a29
  have F_law_world := fun_mk (st := s_law_world) l30 c30 k30
  have b_law_world := F_law_world.binds (ps := a_law_world) fun _ _ _ _ _ _ us hl => match us, hl with | [_, _, _], _ => rfl
  have m_law_world := PySem.W.mg_of X G a30
  have F_law_made := fun_mk (st := s_law_made) l31 c31 k31
  have b_law_made := F_law_made.binds (ps := a_law_made) fun _ _ _ _ _ _ us hl => match us, hl with | [_, _, _], _ => rfl
  have m_law_made := PySem.W.mg_of X G a31
  have F_law_behind := fun_mk (st := s_law_behind) l32 c32 k32
  have b_law_behind := F_law_behind.binds (ps := a_law_behind) fun _ _ _ _ _ _ us hl => match us, hl with | [_, _, _], _ => rfl
  have m_law_behind := PySem.W.mg_of X G a32
  have F_law_value := fun_mk (st := s_law_value) l33 c33 k33
  have b_law_value := F_law_value.binds (ps := a_law_value) fun _ _ _ _ _ _ us hl => match us, hl with | [_, _, _], _ => rfl
  have m_law_value := PySem.W.mg_of X G a33
  have F_law_truth := fun_mk (st := s_law_truth) l34 c34 k34
  have b_law_truth := F_law_truth.binds (ps := a_law_truth) fun _ _ _ _ _ _ us hl => match us, hl with | [_, _], _ => rfl
  have m_law_truth := PySem.W.mg_of X G a34
  have F_law_beside := fun_mk (st := s_law_beside) l35 c35 k35
  have b_law_beside := F_law_beside.binds (ps := a_law_beside) fun _ _ _ _ _ _ us hl => match us, hl with | [_, _], _ => rfl
  have m_law_beside := PySem.W.mg_of X G a35
  have F_law_is_statement := fun_mk (st := s_law_is_statement) l36 c36 k36
  have b_law_is_statement := F_law_is_statement.binds (ps := a_law_is_statement) fun _ _ _ _ _ _ us hl => match us, hl with | [_, _], _ => rfl
  have m_law_is_statement := PySem.W.mg_of X G a36
  have F_law_rounds := fun_mk (st := s_law_rounds) l37 c37 k37
  have b_law_rounds := F_law_rounds.binds (ps := a_law_rounds) fun _ _ _ _ _ _ us hl => match us, hl with | [_, _], _ => rfl
  have m_law_rounds := PySem.W.mg_of X G a37
  have F_law := fun_mk (st := s_law) l38 c38 k38
  have T : Txt K mg C_World C_World C_World := ⟨PySem.W.mg_none_of X G z_all, PySem.W.mg_none_of X G z_bool, PySem.W.mg_none_of X G z_enumerate, PySem.W.mg_none_of X G z_int, PySem.W.mg_none_of X G z_isinstance, PySem.W.mg_none_of X G z_len, PySem.W.mg_none_of X G z_list, PySem.W.mg_none_of X G z_range, PySem.W.mg_none_of X G z_set, PySem.W.mg_none_of X G z_sorted, PySem.W.mg_none_of X G z_tuple, PySem.W.mg_none_of X G z_zip⟩
  have TE : TxtEW K mg NC := ⟨PySem.W.mg_of X G e_gC, e_xC, e_kC, e_bC, e_tC, exm_own e_bC e_xd e_tC e_sC⟩
  have TC : TxtC K C_World := ⟨⟨pg_World, hd_World, po_World, sa_World⟩, n_World_labels, n_World_facts, n_World_states, n_World_steps, n_World__ends⟩
  have TD : TxtRo K C_Rounds := ⟨⟨pg_Rounds, hd_Rounds, po_Rounds, sa_Rounds⟩, n_Rounds__many, n_Rounds__before, n_Rounds__blocks, n_Rounds__fresh⟩
  have TR : TxtL mg t_MOST_LABELS t_MOST_FACTS t_MOST_STATES := ⟨PySem.W.mg_of X G aI_MOST_LABELS, PySem.W.mg_of X G aI_MOST_FACTS, PySem.W.mg_of X G aI_MOST_STATES⟩
  subst hc_ascends
  have aT_ascends : PySem.W.tabIn K "ascends" = some (c_ascends, t_ascends) := by
    simp only [PySem.W.tabIn, a13, l13, PySem.W.fnOf, lc_ascends, pT_ascends]
  have FC : FunC K "ascends" "ascends" s_ascends f13 _ c_ascends := ⟨⟨_, _, _, _, _, _, _, _, rfl, l13, c13⟩⟩
  refine ⟨PySem.W.fnOf "law" "law" (defArgs s_law) (defBody s_law) (defScope s_law) .none kV38 dc38 pm38 an38 cd38 ct38, c_ascends, t_ascends, aT_ascends, nT_ascends, fun s u => .of_eq rfl, fun base _ _ TB => ?_⟩
  have h_num : Has P w K mg base "is_number" 1 a_is_number spNum := ⟨_, _, m_is_number, F_is_number.kp, b_is_number, ok_is_number F_is_number T⟩
  have h_asc : Has P w K mg base "ascends" 4 a_ascends (spAsc K t_ascends) := ⟨_, _, m_ascends, F_ascends.kp, b_ascends, ok_ascends FC T TB⟩
  have h_ckn : HasX P w K mg base "check_numbers" 2 a_check_numbers (spCkN NC) := ⟨_, _, m_check_numbers, F_check_numbers.kp, b_check_numbers, ok_check_numbers F_check_numbers T TE TR h_num⟩
  have h_cks : HasX P w K mg base "check_states" 5 a_check_states (spCkS K NC C_World t_ascends) := ⟨_, _, m_check_states, F_check_states.kp, b_check_states, ok_check_states F_check_states T TC TE TR h_num h_asc⟩
  have h_ckt : HasX P w K mg base "check_steps" 5 a_check_steps (spCkT K NC C_World t_ascends) := ⟨_, _, m_check_steps, F_check_steps.kp, b_check_steps, ok_check_steps F_check_steps T TC TE h_num h_asc⟩
  have h_ends : Has P w K mg base "ends_of" 1 a_ends_of (spEnds K) := ⟨_, _, m_ends_of, F_ends_of.kp, b_ends_of, ok_ends_of F_ends_of T⟩
  have h_World : HasCX P w K mg base "World" C_World 6 a_World_init (spWInit K NC C_World t_ascends) := ⟨_, _, PySem.W.mg_of X G aC_World, ⟨mk_World, a14, i14, kc_World⟩, b_World_init, ok_World_init F_World_init T TC h_ckn h_cks h_ckt h_ends⟩
  have h_sti : Has P w K mg base "states_in" 1 a_states_in spSt := ⟨_, _, m_states_in, F_states_in.kp, b_states_in, ok_states_in F_states_in⟩
  have h_led : Has P w K mg base "led" 2 a_led spLed := ⟨_, _, m_led, F_led.kp, b_led, ok_led F_led h_sti⟩
  have h_stm : Has P w K mg base "step_masks" 1 a_step_masks (spSM K) := ⟨_, _, m_step_masks, F_step_masks.kp, b_step_masks, ok_step_masks F_step_masks⟩
  have h_like : Has P w K mg base "like_at_once" 1 a_like_at_once (spLike K) := ⟨_, _, m_like_at_once, F_like_at_once.kp, b_like_at_once, ok_like_at_once F_like_at_once T⟩
  have h_least : Has P w K mg base "least_of" 1 a_least_of spLeast := ⟨_, _, m_least_of, F_least_of.kp, b_least_of, ok_least_of F_least_of⟩
  have h_cut : Has P w K mg base "cut_up" 1 a_cut_up spCut := ⟨_, _, m_cut_up, F_cut_up.kp, b_cut_up, ok_cut_up F_cut_up⟩
  have M_ad : Meth K C_Rounds "advance" f7 := ⟨a7, i7, k7⟩
  have M_nu : Meth K C_Rounds "numbers" f8 := ⟨a8, i8, k8⟩
  have g_ad := ok_Rounds_advance (P := P) (w := w) (mg := mg) (base := base) F_Rounds_advance T TD h_led h_cut
  have g_nu := ok_Rounds_numbers (P := P) (w := w) (mg := mg) (base := base) F_Rounds_numbers T TD h_sti h_least
  have h_Rounds : HasC P w K mg base "Rounds" C_Rounds 2 a_Rounds_init (spRo K C_Rounds) := ⟨_, _, PySem.W.mg_of X G aC_Rounds, ⟨mk_Rounds, a6, i6, kc_Rounds⟩, b_Rounds_init, ok_Rounds_init F_Rounds_init T TD h_stm h_like⟩
  have h_fol : Has P w K mg base "followers" 1 a_followers (spFol K C_World) := ⟨_, _, m_followers, F_followers.kp, b_followers, ok_followers F_followers T TC⟩
  have h_bal : Has P w K mg base "balanced" 1 a_balanced (spBal K) := ⟨_, _, m_balanced, F_balanced.kp, b_balanced, ok_balanced F_balanced T⟩
  have h_allof : Has P w K mg base "all_of" 2 a_all_of (spJoin K true) := ⟨_, _, m_all_of, F_all_of.kp, b_all_of, ok_all_of F_all_of h_bal⟩
  have h_anyof : Has P w K mg base "any_of" 2 a_any_of (spJoin K false) := ⟨_, _, m_any_of, F_any_of.kp, b_any_of, ok_any_of F_any_of h_bal⟩
  have h_draws : Has P w K mg base "_law_draws" 1 a_law_draws (spDraws K) := ⟨_, _, m_law_draws, F_law_draws.kp, b_law_draws, ok_law_draws F_law_draws T⟩
  have h_take : Has P w K mg base "_law_take" 1 a_law_take spTake := ⟨_, _, m_law_take, F_law_take.kp, b_law_take, ok_law_take F_law_take T⟩
  have h_world : Has P w K mg base "_law_world" 2 a_law_world spWorld := ⟨_, _, m_law_world, F_law_world.kp, b_law_world, ok_law_world F_law_world T h_take⟩
  have h_behind : Has P w K mg base "_law_behind" 1 a_law_behind (spBehind K) := ⟨_, _, m_law_behind, F_law_behind.kp, b_law_behind, ok_law_behind F_law_behind T⟩
  have h_made : HasX P w K mg base "_law_made" 8 a_law_made (spMade K C_World t_ascends) := ⟨_, _, m_law_made, F_law_made.kp, b_law_made, ok_law_made F_law_made T h_World⟩
  have h_int : Has P w K mg base "_law_is_integer" 1 a_law_is_integer spIsInt := ⟨_, _, m_law_is_integer, F_law_is_integer.kp, b_law_is_integer, ok_law_is_integer F_law_is_integer T⟩
  have h_is := all_is (P := P) (w := w) (base := base) F_law_is_statement b_law_is_statement m_law_is_statement T h_int 30
  have h_value := all_value (P := P) (w := w) (base := base) F_law_value b_law_value m_law_value T h_behind 40
  have h_truth : Has P w K mg base "_law_truth" 43 a_law_truth (spTruth K) := ⟨_, _, m_law_truth, F_law_truth.kp, b_law_truth, ok_law_truth F_law_truth T h_value⟩
  have h_lis : Has P w K mg base "like_in_steps" 6 a_like_in_steps (spLis K C_World) := ⟨_, _, m_like_in_steps, F_like_in_steps.kp, b_like_in_steps, ok_like_in_steps F_like_in_steps T TC TD h_Rounds M_ad g_ad b_Rounds_advance M_nu g_nu b_Rounds_numbers⟩
  have h_fs : Has P w K mg base "fact_signs" 1 a_fact_signs (spFs K) := ⟨_, _, m_fact_signs, F_fact_signs.kp, b_fact_signs, ok_fact_signs F_fact_signs T⟩
  have h_ss : Has P w K mg base "step_signs" 3 a_step_signs (spSS K C_World) := ⟨_, _, m_step_signs, F_step_signs.kp, b_step_signs, ok_step_signs F_step_signs T h_fol h_anyof⟩
  have h_gli : Has P w K mg base "glimpse" 7 a_glimpse (spGli K C_World) := ⟨_, _, m_glimpse, F_glimpse.kp, b_glimpse, ok_glimpse F_glimpse T TC h_lis h_fs h_ss h_allof⟩
  have h_lro : Has P w K mg base "_law_rounds" 2 a_law_rounds (spLRo K) := ⟨_, _, m_law_rounds, F_law_rounds.kp, b_law_rounds, ok_law_rounds F_law_rounds T h_behind⟩
  have h_lnum : Has P w K mg base "_law_numbers" 2 a_law_numbers (spNumb K) := ⟨_, _, m_law_numbers, F_law_numbers.kp, b_law_numbers, ok_law_numbers F_law_numbers T h_int⟩
  have h_bes : Has P w K mg base "_law_beside" 1 a_law_beside (spBes K) := ⟨_, _, m_law_beside, F_law_beside.kp, b_law_beside, ok_law_beside F_law_beside T⟩
  have h_inner : Has P w K mg base "_law_inner" 1 a_law_inner (spInner K) := ⟨_, _, m_law_inner, F_law_inner.kp, b_law_inner, ok_law_inner F_law_inner T⟩
  have h_free := all_freeM (P := P) (w := w) (base := base) F_law_free b_law_free m_law_free T h_inner 30
  exact ok_law F_law T h_draws h_take h_world h_made h_lro h_lnum h_lis h_gli h_bes h_is h_free h_truth
theorem walk {l : PySem.W.OpenLaw} {q : Program} {loose : List Str} {XP : (Str → Option Value) → Heap → Prop} {YP : World → Heap → Prop} {d dA : DefRec} {K : Params → PySem.W.Frag} (hn : l.most = some 63) (hdf : d.params.defaults = [])
    (hY : ∀ (w : World) (h : Heap), YP w h → (K w.params).In h) (hA : (recsOf q).find? (fun e => e.name == ("ascends" : Str)) = some dA)
    (F : ∀ (w : World) (mg : Str → Option Value) (fa : Addr) (h : Heap), (K w.params).In h → h.Ns mainGlobals mg → mg d.name = some (.ref fa) → Top29 l.prog w (K w.params) mg fa) :
    PySem.W.WalkO q loose XP YP l.row.toRowW d [] (fun f vs => PySem.call f vs) := by
  refine Att.attach_callB hn hdf fun w s₀ s₁ mg mb fa o pm cd doc a vs ns G Y ho hd hcd hmg hobj hints hlen hbits hg => ?_
  have KX := hY w _ Y
  obtain ⟨fd, cA, tA, tA1, nT, hb, hF⟩ := F w mg fa _ KX G.T.g hmg
  obtain ⟨C, hT⟩ := PySem.W.tab_of G.T KX hA tA1
  refine LamX.law_callTs (cs := [(cA, tA)]) (k := 44) (sp := spLaw (K w.params) tA) (CX := CX0) KX G.T.g G.T.b G.T.builtins G.T.nolimit hg (fun p hp => ?_) (fun p hp => ?_) (fun p hp => ?_) G.T.bmain hobj hints (Nat.le_trans hlen (by decide)) ⟨rfl, by decide, by decide⟩ (fun base b1 b2 TB => ?_) hb (fun H hH hS => ?_) fun H e s' z => z
  · rw [List.mem_singleton.mp hp]; exact hT
  · rw [List.mem_singleton.mp hp]; exact nT
  · rw [List.mem_singleton.mp hp]; exact C
  · have tb := TB _ List.mem_cons_self
    exact hF base b1 b2 ⟨tb.code, tb.bm, tb.gP⟩
  · exact ⟨a, ns, rfl, hS, ⟨_, hH _ List.mem_cons_self, trivial⟩, hlen, fun _ => rfl⟩
end Fw

set_option maxRecDepth 100000
open PySem PySem.W PyProof.Rows
set_option maxHeartbeats 0 in
theorem PySem.Challenge.cw_fixworlds_k29_glimpses_holds : PySem.Challenge.rw_fixworlds_k29_glimpses.Holds := by
  w_on; o_law; k_head; (case hw => w_witness2)
  k_fill
  refine Fw.walk (l := PySem.Challenge.rw_fixworlds_k29_glimpses) rfl rfl (fun w h Y => PySem.W.kIn_of Y) rfl ?F
  case F =>
    intro w mg fa h KX G hmg
    refine' Fw.all_mk KX G hmg ?aC_Rounds ?aC_World ?a0 ?l0 ?c0 ?k0 ?a1 ?l1 ?c1 ?k1 ?a2 ?l2 ?c2 ?k2 ?a3 ?l3 ?c3 ?k3 ?a4 ?l4 ?c4 ?k4 ?a5 ?l5 ?c5 ?k5 ?a6 ?i6 ?l6 ?c6 ?k6 ?a7 ?i7 ?l7 ?c7 ?k7 ?a8 ?i8 ?l8 ?c8 ?k8 ?a9 ?l9 ?c9 ?k9 ?a10 ?l10 ?c10 ?k10 ?a11 ?l11 ?c11 ?k11 ?a12 ?l12 ?c12 ?k12 ?a13 ?l13 ?c13 ?k13 ?a14 ?i14 ?l14 ?c14 ?k14 ?a15 ?l15 ?c15 ?k15 ?a16 ?l16 ?c16 ?k16 ?a17 ?l17 ?c17 ?k17 ?a18 ?l18 ?c18 ?k18 ?a19 ?l19 ?c19 ?k19 ?a20 ?l20 ?c20 ?k20 ?a21 ?l21 ?c21 ?k21 ?a22 ?l22 ?c22 ?k22 ?a23 ?l23 ?c23 ?k23 ?a24 ?l24 ?c24 ?k24 ?a25 ?l25 ?c25 ?k25 ?a26 ?l26 ?c26 ?k26 ?a27 ?l27 ?c27 ?k27 ?a28 ?l28 ?c28 ?k28 ?a29 ?l29 ?c29 ?k29 ?a30 ?l30 ?c30 ?k30 ?a31 ?l31 ?c31 ?k31 ?a32 ?l32 ?c32 ?k32 ?a33 ?l33 ?c33 ?k33 ?a34 ?l34 ?c34 ?k34 ?a35 ?l35 ?c35 ?k35 ?a36 ?l36 ?c36 ?k36 ?a37 ?l37 ?c37 ?k37 ?a38 ?l38 ?c38 ?k38 ?pg_Rounds ?hd_Rounds ?po_Rounds ?sa_Rounds ?mk_Rounds ?kc_Rounds ?n_Rounds__many ?n_Rounds__before ?n_Rounds__blocks ?n_Rounds__fresh ?pg_World ?hd_World ?po_World ?sa_World ?mk_World ?kc_World ?n_World_labels ?n_World_facts ?n_World_states ?n_World_steps ?n_World__ends ?z_all ?z_bool ?z_enumerate ?z_int ?z_isinstance ?z_len ?z_list ?z_range ?z_set ?z_sorted ?z_tuple ?z_zip ?aI_MOST_LABELS ?aI_MOST_FACTS ?aI_MOST_STATES ?e_gC ?e_xC ?e_kC ?e_bC ?e_tC ?e_sC ?e_xd ?hc_ascends ?lc_ascends ?pT_ascends ?nT_ascends
    (case aC_Rounds => k_is)
    (case aC_World => k_is)
    (case a0 => k_is)
    (case l0 => k_is)
    (case c0 => k_is)
    (case k0 => k_is)
    (case a1 => k_is)
    (case l1 => k_is)
    (case c1 => k_is)
    (case k1 => k_is)
    (case a2 => k_is)
    (case l2 => k_is)
    (case c2 => k_is)
    (case k2 => k_is)
    (case a3 => k_is)
    (case l3 => k_is)
    (case c3 => k_is)
    (case k3 => k_is)
    (case a4 => k_is)
    (case l4 => k_is)
    (case c4 => k_is)
    (case k4 => k_is)
    (case a5 => k_is)
    (case l5 => k_is)
    (case c5 => k_is)
    (case k5 => k_is)
    (case a6 => k_is)
    (case i6 => k_is)
    (case l6 => k_is)
    (case c6 => k_is)
    (case k6 => k_is)
    (case a7 => k_is)
    (case i7 => k_is)
    (case l7 => k_is)
    (case c7 => k_is)
    (case k7 => k_is)
    (case a8 => k_is)
    (case i8 => k_is)
    (case l8 => k_is)
    (case c8 => k_is)
    (case k8 => k_is)
    (case a9 => k_is)
    (case l9 => k_is)
    (case c9 => k_is)
    (case k9 => k_is)
    (case a10 => k_is)
    (case l10 => k_is)
    (case c10 => k_is)
    (case k10 => k_is)
    (case a11 => k_is)
    (case l11 => k_is)
    (case c11 => k_is)
    (case k11 => k_is)
    (case a12 => k_is)
    (case l12 => k_is)
    (case c12 => k_is)
    (case k12 => k_is)
    (case a13 => k_is)
    (case l13 => k_is)
    (case c13 => k_is)
    (case k13 => k_is)
    (case a14 => k_is)
    (case i14 => k_is)
    (case l14 => k_is)
    (case c14 => k_is)
    (case k14 => k_is)
    (case a15 => k_is)
    (case l15 => k_is)
    (case c15 => k_is)
    (case k15 => k_is)
    (case a16 => k_is)
    (case l16 => k_is)
    (case c16 => k_is)
    (case k16 => k_is)
    (case a17 => k_is)
    (case l17 => k_is)
    (case c17 => k_is)
    (case k17 => k_is)
    (case a18 => k_is)
    (case l18 => k_is)
    (case c18 => k_is)
    (case k18 => k_is)
    (case a19 => k_is)
    (case l19 => k_is)
    (case c19 => k_is)
    (case k19 => k_is)
    (case a20 => k_is)
    (case l20 => k_is)
    (case c20 => k_is)
    (case k20 => k_is)
    (case a21 => k_is)
    (case l21 => k_is)
    (case c21 => k_is)
    (case k21 => k_is)
    (case a22 => k_is)
    (case l22 => k_is)
    (case c22 => k_is)
    (case k22 => k_is)
    (case a23 => k_is)
    (case l23 => k_is)
    (case c23 => k_is)
    (case k23 => k_is)
    (case a24 => k_is)
    (case l24 => k_is)
    (case c24 => k_is)
    (case k24 => k_is)
    (case a25 => k_is)
    (case l25 => k_is)
    (case c25 => k_is)
    (case k25 => k_is)
    (case a26 => k_is)
    (case l26 => k_is)
    (case c26 => k_is)
    (case k26 => k_is)
    (case a27 => k_is)
    (case l27 => k_is)
    (case c27 => k_is)
    (case k27 => k_is)
    (case a28 => k_is)
    (case l28 => k_is)
    (case c28 => k_is)
    (case k28 => k_is)
    (case a29 => k_is)
    (case l29 => k_is)
    (case c29 => k_is)
    (case k29 => k_is)
    (case a30 => k_is)
    (case l30 => k_is)
    (case c30 => k_is)
    (case k30 => k_is)
    (case a31 => k_is)
    (case l31 => k_is)
    (case c31 => k_is)
    (case k31 => k_is)
    (case a32 => k_is)
    (case l32 => k_is)
    (case c32 => k_is)
    (case k32 => k_is)
    (case a33 => k_is)
    (case l33 => k_is)
    (case c33 => k_is)
    (case k33 => k_is)
    (case a34 => k_is)
    (case l34 => k_is)
    (case c34 => k_is)
    (case k34 => k_is)
    (case a35 => k_is)
    (case l35 => k_is)
    (case c35 => k_is)
    (case k35 => k_is)
    (case a36 => k_is)
    (case l36 => k_is)
    (case c36 => k_is)
    (case k36 => k_is)
    (case a37 => k_is)
    (case l37 => k_is)
    (case c37 => k_is)
    (case k37 => k_is)
    (case a38 => k_is)
    (case l38 => k_is)
    (case c38 => k_is)
    (case k38 => k_is)
    (case pg_Rounds => k_is)
    (case hd_Rounds => k_is)
    (case po_Rounds => k_is)
    (case sa_Rounds => k_is)
    (case mk_Rounds => k_is)
    (case kc_Rounds => k_is)
    (case n_Rounds__many => k_is)
    (case n_Rounds__before => k_is)
    (case n_Rounds__blocks => k_is)
    (case n_Rounds__fresh => k_is)
    (case pg_World => k_is)
    (case hd_World => k_is)
    (case po_World => k_is)
    (case sa_World => k_is)
    (case mk_World => k_is)
    (case kc_World => k_is)
    (case n_World_labels => k_is)
    (case n_World_facts => k_is)
    (case n_World_states => k_is)
    (case n_World_steps => k_is)
    (case n_World__ends => k_is)
    (case z_all => k_is)
    (case z_bool => k_is)
    (case z_enumerate => k_is)
    (case z_int => k_is)
    (case z_isinstance => k_is)
    (case z_len => k_is)
    (case z_list => k_is)
    (case z_range => k_is)
    (case z_set => k_is)
    (case z_sorted => k_is)
    (case z_tuple => k_is)
    (case z_zip => k_is)
    (case aI_MOST_LABELS => k_is)
    (case aI_MOST_FACTS => k_is)
    (case aI_MOST_STATES => k_is)
    (case e_gC => k_is)
    (case e_xC => k_exc)
    (case e_kC => k_is)
    (case e_bC => k_is)
    (case e_tC => k_is)
    (case e_sC => first | rfl | k_is)
    (case e_xd => k_is)
    (case hc_ascends => rfl)
    (case lc_ascends => k_is)
    (case pT_ascends => rfl)
    (case nT_ascends => first | rfl | kernel_rfl | decide)

