import PyProof.Rows.All
import Wide.All
import OpenK.AllK
import Wide.FinOn
import PyProof.EqAt
import PyProof.EqKinds
import PyProof.TupleCall
import HandS.ForMost
import HandS.ForExc
import HandS.Strs
import HandS.SetFor
import HandS.SetBool
import HandS.Walk
import HandS.TupAny
import HandS.Rev
import HandS.RevRange
import HandS.IsInst
import HandS.SortInts
import HandS.ExcIs
import HandS.Flow
import PySem.Challenge.RW_fixworlds_k34_whole_likeness_games
import HandS.AnyAll
import HandS.Zip
import PyProof.GenCompD
import HandS.SetKeys
import HandS.SortRule
import PyProof.DictMoreH
import PyProof.Rows.BitMore
import HandS.WideBits
import KE.KDictList
import KE.KDictWalk
import HandS.Conv
import HandS.ListItems
import KE.GoesEnum
import PyProof.EnumMake
import HandS.TupSets
import KE.SortKeyHeap
import HandS.SortKw
import KE.KDictKeyed
import HandS.NamedTupSort
import KE.KSortTupAny
import KE.SortData
import HandS.DictComp
import KE.DataMinMax
import HandS.Style
import HandS.WordsDict
import KE.KIndexOf
import KE.DatumOrd
import HandS.Deep
import HandS.EndTab
set_option Elab.async false
set_option linter.all false
set_option maxRecDepth 100000
set_option maxHeartbeats 4000000
/-! two rules for sets of ints: made of a list, and by a comprehension -/
namespace Fw
open PySem PySem.Spec PyProof.Rows L2
abbrev freshSet (w : World) : Obj :=
  { cls := .type "set", dict := none, data := .set #[] 0 (.fresh 0 0 (!w.params.followText "set-order")) }
section
variable {P : Program} {w : World} {A : Around} {E : Value → Shared → Prop} {s : Shared}
/-- set(xs), xs a list of ints -/
theorem setOfList {l : Addr} {its : Array Value} (ns : List Int) {Q : Value → Shared → Prop}
    (quiet : A.handled = none) (lst : s.heap.IsList l its) (iv : IntsAre its.toList ns) (few : ns.length + 1 < scanBound)
    (next : ∀ (h' : Heap) (tk c : Nat), SetR w h' s.heap.objs.size (fun j => decide (j ∈ ns)) c → c ≤ ns.length →
      (∀ b o, s.heap.get? b = some o → h'.get? b = some o) → Q (.ref s.heap.objs.size) { s with heap := h', toks := tk }) :
    wpAny (model P w) A (call (.type "set") [.ref l]) Q E s := by
  have many : its.size = ns.length := by
    rw [← Array.length_toList]
    exact IntsAre.length iv
  have f1 := F.called_set.mro
  obtain ⟨c, tl, hmro⟩ := f1
  have f2 := F.called_set.made
  have f3 := F.called_set.sub
  refine wpAny_call (codeAny_of_tree ?_)
  show wpAny _ _ (callAny (.type "set") _) _ _ _
  refine wpAny_pure ⟨Code.quiet_builtin _ (by decide +kernel), codeAny_builtin F.entry_type_call ?_⟩
  rw [Around.under_plain (weight_type_call_type "set" [.ref l] []) rfl]
  have f4 := F.called_set.notType
  have f5 := F.called_set.canCreate
  have f6 := F.typeCall_set_1 (.ref l)
  repeat (any_goals (first | assumption | wp_step))
  generalize hN : s.heap.objs.size = N
  refine codeAny_mono (code_set_led1 (.ref l) (E := E)
    (Q₁ := fun v t => v = .ref N ∧ t = { s with heap := s.heap.push (freshSet w) }) ⟨by rw [hN], rfl⟩) fun r s₁ hr => ?_
  rcases r with e | fl
  · exact hr
  · cases fl
    case ret v =>
      obtain ⟨rfl, rfl⟩ := hr
      have got : (s.heap.push (freshSet w)).get? N = some (freshSet w) := by
        rw [← hN]
        exact Heap.get?_push_size _ rfl
      have ty : Shared.TypeIs { s with heap := s.heap.push (freshSet w) } (.ref N) "set" := ⟨_, got, rfl⟩
      have g1 := F.called_set.init.lookup
      have g2 := F.called_set.init.bind (.ref N)
      repeat (any_goals (first | assumption | wp_step))
      refine codeAny_mono (codeAny_call_builtin (R := wants (fun v t => v = .none ∧ ∃ h' tk c, t = { s with heap := h', toks := tk } ∧
          SetR w h' N (fun j => decide (j ∈ ns)) c ∧ c ≤ ns.length ∧ (∀ b o, s.heap.get? b = some o → h'.get? b = some o)) E)
          F.called_set.init.plain F.entry_set_init (check_set_init_1 ty ?_)) fun r₂ s₂ hr₂ => ?_
      · obtain ⟨ol, hol, hcl, nl, hdl⟩ := lst
        obtain ⟨ocls, odict, odata, oslots⟩ := ol
        simp only at hcl hdl
        subst hcl
        subst hdl
        have hol' : (s.heap.push (freshSet w)).get? l = some { cls := .type "list", dict := odict, data := .seq its nl, slots := oslots } :=
          Heap.get?_push_of_some _ hol
        have k1 := F.sub_list_set
        have k2 := F.sub_list_frozenset
        have k3 : (Value.type "list" == Value.type "dict") = false := by decide
        have lst1 : (s.heap.push (freshSet w)).IsList l its := ⟨_, hol', rfl, nl, rfl⟩
        unfold Builtin.«set.__init__» noKeywords Builtin.Frozenset.updateFrom
        generalize hPI : pyIter = PI
        wp_walk
        subst hPI
        refine wpAny_pyIter_list lst1 (wpAny_bind (wpAny_runValue ?_))
        have lN : l < N := by
          rw [← hN]
          exact Heap.lt_size hol
        have quiet3 : A.in1.in1.in1.handled = none := by simp [quiet]
        have size1 : (s.heap.push (freshSet w)).objs.size = N + 1 := by rw [Heap.size_push, hN]
        have l1 : l ≠ (s.heap.push (freshSet w)).objs.size := by
          rw [size1]
          exact Nat.ne_of_lt (Nat.lt_succ_of_lt lN)
        have n1 : N ∉ [(s.heap.push (freshSet w)).objs.size, l] := by
          rw [size1]
          simp only [List.mem_cons, List.not_mem_nil, or_false, not_or]
          exact ⟨Nat.ne_of_lt (Nat.lt_succ_self _), Nat.ne_of_gt lN⟩
        refine set_update_ints ((Walks.list quiet3 _ l l1 its).toS) N n1 ns many few (fun i v hv => ?_) (its.size - 0) 0 _ (by omega) (Nat.zero_le _)
          ⟨⟨_, Heap.get?_push_size _ rfl, rfl, rfl⟩, lst1.push _⟩ ⟨0, Nat.le_refl 0, setR_new_at (Heap.get?_push_of_some _ got)⟩ fun s' c' hm hc' hS' => ?_
        · have hi : i < ns.length := by
            rw [← many]
            exact (Array.getElem?_eq_some_iff.mp hv).1
          obtain ⟨t, e⟩ := PyProof.Rows.IntsAre.int_at iv i v (by rw [Array.getElem?_toList]; exact hv)
          refine ⟨ns[i], t, List.getElem?_eq_getElem hi, ?_⟩
          rw [e, List.getD_eq_getElem?_getD, List.getElem?_eq_getElem hi]
          rfl
        · obtain ⟨h', g2, d', tk', os'⟩ := s'
          obtain rfl : g2 = s.gens := hm.gens
          obtain rfl : d' = s.drawn := hm.drawn
          obtain rfl : os' = s.os := hm.os
          show wpAny _ _ _ _ _ _
          refine wpAny_pure ?_
          show wpAny _ _ (ret Value.none) _ _ _
          rw [many] at hc'
          refine wpAny_pure ⟨rfl, h', tk', c', rfl, hS', hc', fun b o e => ?_⟩
          have bN : b < N := by
            rw [← hN]
            exact Heap.lt_size e
          refine hm.heap b o ?_ (Heap.get?_push_of_some _ (Heap.get?_push_of_some _ e))
          rw [size1]
          simp only [List.mem_cons, List.not_mem_nil, or_false, not_or]
          exact ⟨Nat.ne_of_lt bN, Nat.ne_of_lt (Nat.lt_succ_of_lt bN)⟩
      · rcases r₂ with e | fl₂
        · exact hr₂
        · cases fl₂
          case ret r =>
            obtain ⟨rfl, h', tk, c', rfl, hS', hc', hk'⟩ := hr₂
            repeat (any_goals (first | assumption | wp_step))
            subst hN
            exact next _ _ _ hS' hc' hk'
          all_goals exact hr₂.elim
    all_goals exact hr.elim
end
end Fw

set_option maxRecDepth 100000
set_option maxHeartbeats 4000000
namespace Fw
open PySem PySem.Spec PyProof.Rows L2
theorem intsOfVals : ∀ {ns : List Int} {us : List Value}, Vals (ns.map V.int) us → IntsAre us ns
  | [], _, .nil => .nil
  | k :: _, _, .cons r t => by
    obtain ⟨tk, rfl⟩ := r
    exact .cons k tk (intsOfVals t)
theorem nodup_le : ∀ {l Vs : List Int}, l.Nodup → (∀ x ∈ l, x ∈ Vs) → l.length ≤ Vs.length
  | [], Vs, _, _ => Nat.zero_le _
  | a :: l, Vs, nd, h => by
    have nd' := List.nodup_cons.mp nd
    have ha := h a List.mem_cons_self
    have ih := nodup_le (Vs := Vs.erase a) nd'.2 fun x hx =>
      (List.mem_erase_of_ne (fun e => nd'.1 (by rw [← e]; exact hx))).mpr (h x (List.mem_cons_of_mem _ hx))
    have := List.length_erase_of_mem ha
    have : 0 < Vs.length := List.length_pos_of_mem ha
    rw [List.length_cons]
    omega
section
variable {X : Cx}
/-- set(xs), xs a list of ints -/
def rSetL (K : PySem.W.Frag) (w : World) : List V → Hp → VK → Prop := fun vs H Q => ∃ (l : Addr) (ns : List Int),
  vs = [V.ref l] ∧ SqL K H l (ns.map V.int) ∧ ns.length ≤ 4000 ∧
  ∀ p c, H p = none → c ≤ ns.length → (∀ Vs : List Int, (∀ x ∈ ns, x ∈ Vs) → c ≤ Vs.length) → Q (.ref p) (upd H p (SetO w p (fun j => decide (j ∈ ns)) c))
theorem call_setL (quiet : X.calm = true) : CallR X (.type "set") (rSetL X.K X.w) := by
  intro pins s σ H vs us Q I r h
  obtain ⟨l, ns, rfl, hl, few, q⟩ := h
  obtain ⟨its, rv, pl, _⟩ := I.list hl
  rw [Vals.ref1 r]
  have iv := intsOfVals rv
  have isl : s.heap.IsList l its.toArray := by
    obtain ⟨o, n, e1, e2, e3, e4⟩ := pl
    exact ⟨o, e1, e2, n, e4⟩
  refine setOfList ns (I.ok.hd quiet) isl (by simpa using iv) (Nat.lt_of_le_of_lt (Nat.succ_le_succ few) (by decide)) fun h' tk c R hc kp => ?_
  have fr : H s.heap.objs.size = none := I.hok.fresh (Nat.le_refl _)
  refine ⟨.ref _, _, I.laid (t' := tk) kp (Nat.le_refl _) (setO_new R), rfl, q _ c fr hc fun Vs hV => ?_⟩
  obtain ⟨o, es, ep, t, _, _, _, _, nd, mem, _, _, size, _⟩ := R
  rw [← size, ← Array.length_toList, ← List.length_map (f := keyOf)]
  exact nodup_le nd fun x hx => hV x (of_decide_eq_true ((mem x).mpr hx))
/-- what a comprehension of ints into a set asks: W tells the turns, D is the new set -/
def tSci (w : World) (wi : TI) (g : TG) (tt : TT) (te : TE) (vs : List Nat) : TE := fun σ H Q => wi σ H fun J H1 => ∀ D, H1 D = none →
  ∃ W : Nat → Nat → Hp → Prop, (∃ m, W 0 m (upd H1 D (SetO w D (fun _ => false) 0))) ∧ ∀ i m H, W i m H →
    (J.stop i H ∧ Q (.ref D) H) ∨ (J.go i H ∧ ∃ Nx : Hp → Prop, (∀ H', Nx H' → ∃ m', m' < m ∧ W (i + 1) m' H') ∧
      ∀ x H', J.yld i H x H' → g x (wipe σ vs) H' fun σ2 H2 => wipe σ2 vs = wipe σ vs ∧ tt σ2 H2 fun b H3 =>
        if b = true then te σ2 H3 fun y H4 => ∃ (k : Int) (S : Int → Bool) (n : Nat), y = .int k ∧ H4 D = some (SetO w D S n) ∧ n + 1 < scanBound ∧
          Nx (upd H4 D (SetO w D (fun j => S j || decide (j = k)) (if S k = true then n else n + 1))) else Nx H3)
theorem addInt {pins : List (Addr × Obj)} {σ : L2.St} {H : Hp} {s : Shared} {E : Value → Shared → Prop} {D : Addr} {S : Int → Bool} {n : Nat} {k : Int} {tk : Tok} {Q : Value → Shared → Prop}
    (I : Inv X pins σ H s) (at_ : H D = some (SetO X.w D S n)) (room : n + 1 < scanBound)
    (next : ∀ s', Inv X pins σ (upd H D (SetO X.w D (fun j => S j || decide (j = k)) (if S k = true then n else n + 1))) s' → Q .none s') :
    wpAny (model X.prog X.w) X.A (call (.builtin "set.add") [.ref D, .int k tk]) Q E s := by
  refine setR_add (setO_get I at_) room fun h' sb R => next _ ?_
  have there : ∃ u, h'.get? D = some u := by
    obtain ⟨o, _, _, _, e, _⟩ := id R
    exact ⟨o, e⟩
  exact I.write (e := D) (t' := s.toks + 1) (by rw [at_]; trivial) (.inl rfl) (fun b u hb hu => (sb.2 b hb).trans hu) there (setO_new R)
abbrev inner (X : Cx) (s : Shared) (scope : Scope) : Env :=
  compEnvC scope (cellsFrom (s.heap.objs.size + 1) scope.names (cloFrom X.env.cells scope.names [])) s.heap.objs.size X.env
theorem setComp {pins : List (Addr × Obj)} {s : Shared} {σ : L2.St} {H : Hp} {Q : VK} {elt tg iter : Expr} {ifs : List Expr} {scope : Scope} {own : List (PySem.Str × Nat)} {pos pos' : Pos} {wi : TI} {g : TG} {tt : TT} {te : TE}
    {use : Option (Value → Sem Unit)} {Qf : Value → Shared → Prop}
    (quiet : X.calm = true) (nd : X.N.Nodup) (I : Inv X pins σ H s) (ii : PI X tg iter wi) (blk : BlkOk X.N X.env.scope scope own)
    (gg : ∀ s H C cl fp, PG (X.blk s H scope (compEnvC scope cl C X.env) fp) tg g)
    (tts : ∀ s H C cl fp, PTs (X.blk s H scope (compEnvC scope cl C X.env) fp) ifs tt)
    (ee : ∀ s H C cl fp, PE (X.blk s H scope (compEnvC scope cl C X.env) fp) elt te)
    (fold : ∀ x, foldedSetIterable iter X.env x = pure x) (h : tSci X.w wi g tt te (own.map (·.2)) σ H Q)
    (fin : ∀ D C s' m H', Inv X pins σ H' s' → Q (.ref D) H' → s'.heap.Ns C m → FpOk X pins H' C →
      compPost (model X.prog X.w) X.A X.xe use Qf (.ref D) C (.ok .next) s') :
    wpAny (model X.prog X.w) X.A (comprehension (.SetComp elt [⟨tg, iter, ifs, 0⟩] scope pos) scope X.env pos' (newSet (.type "set")) false (eval iter X.env) use) Qf X.xe s := by
  have clo : ∀ y ∈ scope.names, y.2 = .free → ∃ c, X.env.cells.lookup y.1 = some c := fun y hy e =>
    (blk.free y hy e).elim (fun k => I.ok.has _ (.inl k)) fun k => I.ok.has _ (.inr k)
  refine wpAny_comprehension_free (use := use) rfl fold (closure_ok clo) blk.kind (fun y hy e => by rw [blk.uniq y hy, e])
    (thn (ii.run pins s σ H _ I h) fun xv s1 hx => thn hx fun itv s2 h2 => ?_)
  obtain ⟨it, fp, tn, J, H2, rfl, I2, T, t0, fp2, q⟩ := h2
  refine PpSet.newSet_ok (newEnv_comp ?_)
  generalize eD : s2.heap.objs.size = D
  obtain ⟨W, ⟨m0, w0⟩, turn⟩ := q D (I2.hok.fresh (Nat.le_of_eq eD))
  generalize e3 : ({ s2 with heap := s2.heap.push (freshSet X.w) } : Shared) = s3
  have heap3 : s3.heap = s2.heap.push (freshSet X.w) := by rw [← e3]
  have up3 : ∀ b o, s2.heap.get? b = some o → s3.heap.get? b = some o := fun b o e => by
    rw [heap3]
    exact Heap.get?_push_of_some _ e
  generalize eH : upd H2 D (SetO X.w D (fun _ => false) 0) = H3 at w0
  have I3 : Inv X pins σ H3 s3 := by
    rw [← eH, ← e3, ← eD]
    exact I2.laid (t' := s2.toks) (fun b o e => Heap.get?_push_of_some _ e) (Nat.le_refl _) (setO_new (setR_fresh X.w))
  have fp3 : ∀ b ∈ fp, FpOk X pins H3 b ∧ b < s3.heap.objs.size := fun b hb => by
    obtain ⟨o, e, _⟩ := T.obj _ _ t0 b hb
    have lt := Heap.lt_size e
    refine ⟨⟨?_, (fp2 b hb).2⟩, ?_⟩
    · rw [← eH, upd_ne (show b ≠ D by rw [← eD]; exact Nat.ne_of_lt lt)]
      exact (fp2 b hb).1
    · rw [heap3, Heap.size_push]
      exact Nat.lt_succ_of_lt lt
  have t3 : tn 0 s3.heap := T.keep _ _ _ t0 fun b _ o e => up3 b o e
  have I4 := block_start I3 blk nd fp3
  have g4 := gg s3 H3 s3.heap.objs.size (cellsFrom (s3.heap.objs.size + 1) scope.names (cloFrom X.env.cells scope.names [])) fp
  have t4 := tts s3 H3 s3.heap.objs.size (cellsFrom (s3.heap.objs.size + 1) scope.names (cloFrom X.env.cells scope.names [])) fp
  have e4 := ee s3 H3 s3.heap.objs.size (cellsFrom (s3.heap.objs.size + 1) scope.names (cloFrom X.env.cells scope.names [])) fp
  show codeAny _ _ (.compStart (.SetComp elt [⟨tg, iter, ifs, 0⟩] scope pos) 0 (.ref it) (.ref D)
      (compEnvC scope (cellsFrom (s3.heap.objs.size + 1) scope.names (cloFrom X.env.cells scope.names [])) s3.heap.objs.size X.env))
    (compPost (model X.prog X.w) X.A X.xe use Qf (.ref D) s3.heap.objs.size) { s3 with heap := pushCells (s3.heap.push { cls := .type "dict", data := .dict #[] }) scope.names }
  generalize eC : compEnvC scope (cellsFrom (s3.heap.objs.size + 1) scope.names (cloFrom X.env.cells scope.names [])) s3.heap.objs.size X.env = ce at I4 g4 t4 e4 ⊢
  have locs : ce.locals = s3.heap.objs.size := by
    subst eC
    rfl
  generalize eS : ({ s3 with heap := pushCells (s3.heap.push { cls := .type "dict", data := .dict #[] }) scope.names } : Shared) = s4 at I4 ⊢
  have ts4 : tn 0 s4.heap := T.keep _ _ _ t3 fun b _ o e => by
    rw [← eS]
    exact pushCells_keeps _ _ _ _ (Heap.get?_push_of_some _ e)
  have held : ∀ {σ' : L2.St} {H' : Hp} {s' : Shared}, Inv (X.blk s3 H3 scope ce fp) [] σ' H' s' → (∀ b ∈ fp, H' b = none) →
      ∀ b ∈ fp, FpOk (X.blk s3 H3 scope ce fp) [] H' b := fun {σ' H' s'} I' hn b hb =>
    have x := I'.ok.exf b hb
    ⟨hn b hb, x.1, I'.ok.exfs b hb, .inl hb, fun y c e => x.2 y c e, fun p hp => by cases hp⟩
  have body : codeAny (model X.prog X.w) X.A (.compLoop (.SetComp elt [⟨tg, iter, ifs, 0⟩] scope pos) 0 (.ref it) (.ref D) ce)
      (compPost (model X.prog X.w) X.A X.xe use Qf (.ref D) s3.heap.objs.size) s4 := by
    refine PpSet.compLoopS_any (fun n t => ∃ i G, Inv (X.blk s3 H3 scope ce fp) [] (wipe σ (own.map (·.2))) G t ∧ tn i t.heap ∧ (∀ b ∈ fp, G b = none) ∧ W i n G)
      ?_ m0 ⟨0, H3, I4, ts4, fun b hb => (fp3 b hb).1.1, w0⟩
    rintro n s5 ⟨i, H5, I5, t5, free5, w5⟩
    rcases turn i n H5 w5 with ⟨stop, qq⟩ | ⟨go, Nx, dec, step⟩
    · refine thnF (T.done (X.blk s3 H3 scope ce fp) rfl rfl rfl quiet i [] s5 _ H5 (fun _ _ => False) I5 (held I5 free5) t5 stop) fun r s6 ⟨hr, I6⟩ => ?_
      subst hr
      have free6 : H5 ce.locals = none := I6.free
      obtain ⟨m, ns6, _⟩ := I6.loc
      have ns6' : s6.heap.Ns ce.locals m := ns6
      rw [locs] at free6 ns6'
      have I7 : Inv X pins σ H5 s6 := I3.call' (ch := fp) I6.os I6.base I6.hok I6.bare fun b hb =>
        have z := (fp3 b hb).1
        ⟨z.2.2.2.1, z.2.1, z.2.2.2.2.1, z.2.2.2.2.2⟩
      exact fin D s3.heap.objs.size s6 m H5 I7 qq ns6' (I3.fpOk (Nat.le_refl _) free6)
    · refine thnF (T.item (X.blk s3 H3 scope ce fp) rfl rfl rfl quiet i [] s5 _ H5 (fun _ _ => False) I5 (held I5 free5) t5 go) fun r s6 ⟨u, hr, h6⟩ => ?_
      subst hr
      refine thnF h6 fun _ s7 ⟨x, H7, I7, rx, y7, t7, free7⟩ => ?_
      refine thnF (g4.run _ s7 _ H7 x u _ (I7.pinned (held I7 free7) (T.obj _ _ t7)) rx (step x H7 y7)) fun _ s8 ⟨σ8, H8, I8, wi8, q8⟩ => ?_
      refine thnF (t4.run _ s8 σ8 H8 _ I8 q8) fun b s9 ⟨H9, I9, q9⟩ => ?_
      have over : ∀ {t : Shared} {G : Hp}, Inv (X.blk s3 H3 scope ce fp) ([] ++ pinsAt fp s7.heap) σ8 G t → Nx G →
          ∃ m, m < n ∧ ∃ i G, Inv (X.blk s3 H3 scope ce fp) [] (wipe σ (own.map (·.2))) G t ∧ tn i t.heap ∧ (∀ b ∈ fp, G b = none) ∧ W i m G := fun {t G} It nx => by
        obtain ⟨m', lt, w'⟩ := dec G nx
        have same : ∀ b ∈ fp, ∀ o, s7.heap.get? b = some o → t.heap.get? b = some o ∧ G b = none := fun b hb o e =>
          have z := It.pin (b, o) (List.mem_append_right _ (List.mem_append_right _ (mem_pinsAt hb e)))
          ⟨z.1, z.2.1⟩
        refine ⟨m', lt, i + 1, G, (It.unpinned (pins := [])).weak (by rw [← wi8, wipe_length]) (fun j v e => ?_), T.keep _ _ _ t7 fun b hb o e => (same b hb o e).1, fun b hb => ?_, w'⟩
        · rw [← wi8] at e
          exact (wipe_some e).1
        · obtain ⟨o, e, _⟩ := T.obj _ _ t7 b hb
          exact (same b hb o e).2
      cases b
      · simp only [Bool.false_eq_true, if_false] at q9 ⊢
        exact over I9 q9
      · simp only [if_true] at q9 ⊢
        refine thnF (e4.run _ s9 σ8 H9 _ I9 q9) fun z s10 ⟨yv, H10, I10, rz, k, S0, n0, ey, hD, room, nx⟩ => ?_
        subst ey
        obtain ⟨tk, rfl⟩ : ∃ tk, z = Value.int k tk := rz
        exact addInt (X := X.blk s3 H3 scope ce fp) I10 hD room fun s11 I11 => over I11 nx
  exact PpSet.codeAny_compStart_set body (T.self X.A 0 _ _ _ ts4 body)
/-- {e for target in iter if test}, e an int -/
theorem pe_sci {elt tg iter : Expr} {ifs : List Expr} {scope : Scope} {own : List (PySem.Str × Nat)} {pos : Pos} {wi : TI} {g : TG} {tt : TT} {te : TE} (quiet : X.calm = true) (nd : X.N.Nodup) (ii : PI X tg iter wi) (blk : BlkOk X.N X.env.scope scope own)
    (gg : ∀ (s : Shared) (H : Hp) (C : Addr) (cl : List (PySem.Str × Addr)) (fp : List Addr), PG (X.blk s H scope (compEnvC scope cl C X.env) fp) tg g)
    (tts : ∀ (s : Shared) (H : Hp) (C : Addr) (cl : List (PySem.Str × Addr)) (fp : List Addr), PTs (X.blk s H scope (compEnvC scope cl C X.env) fp) ifs tt)
    (ee : ∀ (s : Shared) (H : Hp) (C : Addr) (cl : List (PySem.Str × Addr)) (fp : List Addr), PE (X.blk s H scope (compEnvC scope cl C X.env) fp) elt te)
    (fold : ∀ x, foldedSetIterable iter X.env x = pure x := by intro _; rfl) :
    PE X (.SetComp elt [⟨tg, iter, ifs, 0⟩] scope pos) (tSci X.w wi g tt te (own.map (·.2))) := by
  constructor
  intro pins s σ H Q I h
  rw [PpSet.eval_SetComp]
  refine setComp quiet nd I ii blk gg tts ee fold h fun D C s' m H' I' q hn f => ⟨m, hn, fun h'' sb => ⟨.ref D, H', ?_, rfl, q⟩⟩
  exact I'.turned (t' := s'.toks) (fun b o hb e => (sb.2 b hb).trans e) f.1 f.2.1 f.2.2.2.1 f.2.2.2.2.1 f.2.2.2.2.2
end
/-- over any walk: Pv by the turn and the heap -/
theorem sci_it {J : It} {n : Nat} {G : Hp → Prop} {Y : Nat → Hp → V → Hp → Prop} (w : Walk J n G Y) {wd : World} {g : TG} {tt : TT} {te : TE} {vs : List Nat} {σ : L2.St} {H1 : Hp} {D : Addr} {Qd : Hp → Prop} (Pv : Nat → Hp → Prop)
    (h0 : Pv 0 (upd H1 D (SetO wd D (fun _ => false) 0))) (hG : ∀ i H, i ≤ n → Pv i H → G H)
    (hs : ∀ i x H H', i < n → Pv i H → Y i H x H' → g x (wipe σ vs) H' fun σ2 H2 => wipe σ2 vs = wipe σ vs ∧ tt σ2 H2 fun b H3 =>
      if b = true then te σ2 H3 fun y H4 => ∃ (k : Int) (S : Int → Bool) (m : Nat), y = .int k ∧ H4 D = some (SetO wd D S m) ∧ m + 1 < scanBound ∧
        Pv (i + 1) (upd H4 D (SetO wd D (fun j => S j || decide (j = k)) (if S k = true then m else m + 1))) else Pv (i + 1) H3) (hd : ∀ H, Pv n H → Qd H) :
    ∃ W : Nat → Nat → Hp → Prop, (∃ m, W 0 m (upd H1 D (SetO wd D (fun _ => false) 0))) ∧ ∀ i m H, W i m H →
      (J.stop i H ∧ Qd H) ∨ (J.go i H ∧ ∃ Nx : Hp → Prop, (∀ H', Nx H' → ∃ m', m' < m ∧ W (i + 1) m' H') ∧ ∀ x H', J.yld i H x H' → g x (wipe σ vs) H' fun σ2 H2 => wipe σ2 vs = wipe σ vs ∧ tt σ2 H2 fun b H3 =>
        if b = true then te σ2 H3 fun y H4 => ∃ (k : Int) (S : Int → Bool) (m : Nat), y = .int k ∧ H4 D = some (SetO wd D S m) ∧ m + 1 < scanBound ∧
          Nx (upd H4 D (SetO wd D (fun j => S j || decide (j = k)) (if S k = true then m else m + 1))) else Nx H3) := by
  refine ⟨fun i m H => m + i = n ∧ Pv i H, ⟨n, rfl, h0⟩, fun i m H hW => ?_⟩
  obtain ⟨e, p⟩ := hW
  have q := hG i H (by omega) p
  cases m with
  | zero =>
    have e2 : i = n := by omega
    subst e2
    exact .inl ⟨w.stops H q, hd H p⟩
  | succ m =>
    have lt : i < n := by omega
    exact .inr ⟨w.goes i H lt q, Pv (i + 1), fun H' p' => ⟨m, Nat.lt_succ_self m, by omega, p'⟩, fun x H' y => hs i x H H' lt p (w.yields i H x H' lt q y)⟩
end Fw

/-! Statements as trees, and what the passes over their parts find. Plain Lean. -/
namespace Fw
inductive Leaf | has | lacks | var
  deriving DecidableEq
inductive One | some | all | least | most
  deriving DecidableEq
def One.bind : One → Bool
  | .least => true
  | .most => true
  | _ => false
inductive F
  | nul (b : Bool)
  | leaf (k : Leaf) (n : Int)
  | two (b : Bool) (f g : F)
  | one (k : One) (n : Int) (f : F)
  deriving DecidableEq
inductive Hd
  | nul (b : Bool)
  | leaf (k : Leaf) (n : Int)
  | two (b : Bool)
  | one (k : One) (n : Int)
  deriving DecidableEq
def F.hd : F → Hd
  | .nul b => .nul b
  | .leaf k n => .leaf k n
  | .two b _ _ => .two b
  | .one k n _ => .one k n
def F.size : F → Nat
  | .nul _ => 1
  | .leaf _ _ => 1
  | .two _ f g => f.size + g.size + 1
  | .one _ _ f => f.size + 1
def F.depth : F → Nat
  | .nul _ => 1
  | .leaf _ _ => 1
  | .two _ f g => max f.depth g.depth + 1
  | .one _ _ f => f.depth + 1
theorem F.size_pos (t : F) : 0 < t.size := by cases t <;> simp [F.size]
theorem F.size_depth : ∀ t : F, t.size + 1 ≤ 2 ^ t.depth
  | .nul _ => by simp [F.size, F.depth]
  | .leaf _ _ => by simp [F.size, F.depth]
  | .two _ f g => by
    have h1 := F.size_depth f
    have h2 := F.size_depth g
    have m1 : 2 ^ f.depth ≤ 2 ^ max f.depth g.depth := Nat.pow_le_pow_right (by decide) (Nat.le_max_left _ _)
    have m2 : 2 ^ g.depth ≤ 2 ^ max f.depth g.depth := Nat.pow_le_pow_right (by decide) (Nat.le_max_right _ _)
    simp only [F.size, F.depth, Nat.pow_succ]
    omega
  | .one _ _ f => by
    have h1 := F.size_depth f
    have h2 := F.size_pos f
    simp only [F.size, F.depth, Nat.pow_succ]
    omega
abbrev Stk := List (Int × Nat)
structure Rec where
  sub : F
  aro : Int
  stk : Stk
def pushS : F → Nat → Stk → Stk
  | .one k n _, i, st => if k.bind then (n, i) :: st else st
  | _, _, st => st
def info : F → Int → Nat → Stk → List Rec
  | .nul b, a, _, st => [⟨.nul b, a, st⟩]
  | .leaf k n, a, _, st => [⟨.leaf k n, a, st⟩]
  | .two b f g, a, i, st => ⟨.two b f g, a, st⟩ :: (info f i (i + 1) st ++ info g i (i + 1 + f.size) st)
  | .one k n f, a, i, st => ⟨.one k n f, a, st⟩ :: info f i (i + 1) (if k.bind then (n, i) :: st else st)
theorem info_len : ∀ (t : F) (a : Int) (i : Nat) (st : Stk), (info t a i st).length = t.size
  | .nul _, _, _, _ => rfl
  | .leaf _ _, _, _, _ => rfl
  | .two _ f g, a, i, st => by simp [info, F.size, info_len f, info_len g]
  | .one k n f, a, i, st => by simp [info, F.size, info_len f]
theorem info_head : ∀ (t : F) (a : Int) (i : Nat) (st : Stk), (info t a i st)[0]? = some ⟨t, a, st⟩
  | .nul _, _, _, _ => rfl
  | .leaf _ _, _, _, _ => rfl
  | .two _ _ _, _, _, _ => rfl
  | .one _ _ _, _, _, _ => rfl
/-! ### a part's record and the one around it -/
theorem info_up : ∀ (t : F) (a : Int) (i : Nat) (st : Stk) (j : Nat) (r : Rec), (info t a i st)[j]? = some r →
    (j = 0 ∧ r = ⟨t, a, st⟩) ∨ ∃ p r', p < j ∧ (info t a i st)[p]? = some r' ∧ r.aro = ((i + p : Nat) : Int) ∧ r.stk = pushS r'.sub (i + p) r'.stk
  | .nul b, a, i, st, j, r, h => by
    cases j with
    | zero => exact .inl ⟨rfl, (Option.some.inj h).symm⟩
    | succ j => simp [info] at h
  | .leaf k n, a, i, st, j, r, h => by
    cases j with
    | zero => exact .inl ⟨rfl, (Option.some.inj h).symm⟩
    | succ j => simp [info] at h
  | .two b f g, a, i, st, j, r, h => by
    cases j with
    | zero => exact .inl ⟨rfl, (Option.some.inj h).symm⟩
    | succ j =>
      simp only [info, List.getElem?_cons_succ] at h
      by_cases lt : j < f.size
      · rw [List.getElem?_append_left (by rw [info_len]; exact lt)] at h
        rcases info_up f i (i + 1) st j r h with ⟨rfl, rfl⟩ | ⟨p, r', hp, e, e1, e2⟩
        · exact .inr ⟨0, ⟨.two b f g, a, st⟩, Nat.succ_pos _, rfl, by simp, rfl⟩
        · refine .inr ⟨p + 1, r', by omega, ?_, by rw [e1]; congr 1; omega, by rw [e2]; congr 1; omega⟩
          simp only [info, List.getElem?_cons_succ]
          rw [List.getElem?_append_left (by rw [info_len]; omega)]
          exact e
      · rw [List.getElem?_append_right (by rw [info_len]; omega), info_len] at h
        rcases info_up g i (i + 1 + f.size) st (j - f.size) r h with ⟨e0, rfl⟩ | ⟨p, r', hp, e, e1, e2⟩
        · exact .inr ⟨0, ⟨.two b f g, a, st⟩, Nat.succ_pos _, rfl, by simp, rfl⟩
        · refine .inr ⟨p + f.size + 1, r', by omega, ?_, by rw [e1]; congr 1; omega, by rw [e2]; congr 1; omega⟩
          simp only [info, List.getElem?_cons_succ]
          rw [List.getElem?_append_right (by rw [info_len]; omega), info_len, show p + f.size - f.size = p by omega]
          exact e
  | .one k n f, a, i, st, j, r, h => by
    cases j with
    | zero => exact .inl ⟨rfl, (Option.some.inj h).symm⟩
    | succ j =>
      simp only [info, List.getElem?_cons_succ] at h
      rcases info_up f i (i + 1) _ j r h with ⟨rfl, rfl⟩ | ⟨p, r', hp, e, e1, e2⟩
      · exact .inr ⟨0, ⟨.one k n f, a, st⟩, Nat.succ_pos _, rfl, by simp, rfl⟩
      · refine .inr ⟨p + 1, r', by omega, ?_, by rw [e1]; congr 1; omega, by rw [e2]; congr 1; omega⟩
        simp only [info, List.getElem?_cons_succ]
        exact e
/-- the whole, seen from its root -/
abbrev infos (t : F) : List Rec := info t (-1) 0 []
theorem infos_stk {t : F} : ∀ (m j : Nat) (r : Rec) (x : Int) (q : Nat) (rest : Stk), j ≤ m → (infos t)[j]? = some r → r.stk = (x, q) :: rest →
    q < j ∧ ∃ k f a, (infos t)[q]? = some ⟨.one k x f, a, rest⟩ ∧ k.bind = true := by
  intro m
  induction m with
  | zero =>
    intro j r x q rest hj h e
    have : j = 0 := by omega
    subst this
    rw [info_head] at h
    cases h
    cases e
  | succ m ih =>
    intro j r x q rest hj h e
    rcases info_up t (-1) 0 [] j r h with ⟨rfl, rfl⟩ | ⟨p, r', hp, e1, _, e2⟩
    · cases e
    · rw [Nat.zero_add] at e2
      obtain ⟨s, a', st'⟩ := r'
      have old : r.stk = st' → q < j ∧ ∃ k f a, (infos t)[q]? = some ⟨.one k x f, a, rest⟩ ∧ k.bind = true := fun e3 => by
        have z := ih p ⟨s, a', st'⟩ x q rest (by omega) e1 (by rw [← e3]; exact e)
        exact ⟨by omega, z.2⟩
      cases s with
      | nul b => exact old e2
      | leaf k n => exact old e2
      | two b f g => exact old e2
      | one k n f =>
        simp only [pushS] at e2
        by_cases hb : k.bind = true
        · rw [if_pos hb, e] at e2
          injection e2 with e3 e4
          injection e3 with e5 e6
          subst e5
          subst e6
          subst e4
          exact ⟨hp, k, f, a', e1, hb⟩
        · rw [if_neg hb] at e2
          exact old e2
/-! ### the parts directly in a part -/
def kidsFrom : List Int → Nat → Nat → List Nat
  | [], _, _ => []
  | a :: r, j, i => if a = (i : Int) then j :: kidsFrom r (j + 1) i else kidsFrom r (j + 1) i
theorem kids_app : ∀ (A B : List Int) (j i : Nat), kidsFrom (A ++ B) j i = kidsFrom A j i ++ kidsFrom B (j + A.length) i
  | [], _, _, _ => by simp [kidsFrom]
  | a :: A, B, j, i => by
    simp only [List.cons_append, kidsFrom, List.length_cons]
    rw [kids_app A B (j + 1) i, show j + 1 + A.length = j + (A.length + 1) by omega]
    split <;> simp
theorem kids_none : ∀ (A : List Int) (j i : Nat), (∀ a ∈ A, a ≠ (i : Int)) → kidsFrom A j i = []
  | [], _, _, _ => rfl
  | a :: A, j, i, h => by
    simp only [kidsFrom]
    rw [if_neg (h a List.mem_cons_self)]
    exact kids_none A _ _ fun b hb => h b (List.mem_cons_of_mem _ hb)
def arounds (I : List Rec) : List Int := I.map Rec.aro
theorem aro_range : ∀ (t : F) (a : Int) (i : Nat) (st : Stk) (x : Int), x ∈ arounds (info t a i st) → x = a ∨ ((i : Int) ≤ x ∧ x < ((i + t.size : Nat) : Int))
  | .nul _, a, i, st, x, h => by
    simp [arounds, info] at h
    exact .inl h
  | .leaf _ _, a, i, st, x, h => by
    simp [arounds, info] at h
    exact .inl h
  | .two b f g, a, i, st, x, h => by
    simp only [arounds, info, List.map_cons, List.map_append, List.mem_cons, List.mem_append] at h
    rcases h with h | h | h
    · exact .inl h
    · have := aro_range f i (i + 1) st x h
      simp only [F.size]
      omega
    · have := aro_range g i (i + 1 + f.size) st x h
      simp only [F.size]
      omega
  | .one k n f, a, i, st, x, h => by
    simp only [arounds, info, List.map_cons, List.mem_cons] at h
    rcases h with h | h
    · exact .inl h
    · have := aro_range f i (i + 1) _ x h
      simp only [F.size]
      omega
/-- where a part's own parts stand among all -/
def Sits (I : List Rec) (i j : Nat) (r : Rec) : Prop :=
  ∃ A B, I = A ++ info r.sub r.aro (i + j) r.stk ++ B ∧ A.length = j ∧ (∀ x ∈ arounds A, x ≠ ((i + j : Nat) : Int)) ∧ (∀ x ∈ arounds B, x < ((i + j : Nat) : Int) ∨ ((i + j + r.sub.size : Nat) : Int) ≤ x) ∧ r.aro < ((i + j : Nat) : Int) ∧
    (∀ x ∈ arounds A, x < ((i + j : Nat) : Int))
theorem info_sits : ∀ (t : F) (a : Int) (i : Nat) (st : Stk) (j : Nat) (r : Rec), a < (i : Int) → (info t a i st)[j]? = some r → Sits (info t a i st) i j r := by
  have zero : ∀ (t : F) (a : Int) (i : Nat) (st : Stk) (r : Rec), a < (i : Int) → (info t a i st)[0]? = some r → Sits (info t a i st) i 0 r := by
    intro t a i st r ha h
    rw [info_head] at h
    cases h
    exact ⟨[], [], by simp, rfl, by simp [arounds], by simp [arounds], by simpa using ha, by simp [arounds]⟩
  intro t
  induction t with
  | nul b =>
    intro a i st j r ha h
    cases j with
    | zero => exact zero _ _ _ _ _ ha h
    | succ j => simp [info] at h
  | leaf k n =>
    intro a i st j r ha h
    cases j with
    | zero => exact zero _ _ _ _ _ ha h
    | succ j => simp [info] at h
  | two b f g ihf ihg =>
    intro a i st j r ha h
    cases j with
    | zero => exact zero _ _ _ _ _ ha h
    | succ j =>
      simp only [info, List.getElem?_cons_succ] at h
      by_cases lt : j < f.size
      · rw [List.getElem?_append_left (by rw [info_len]; exact lt)] at h
        obtain ⟨A, B, e, eA, hA, hB, hr, hA2⟩ := ihf i (i + 1) st j r (by omega) h
        have ee : i + 1 + j = i + (j + 1) := by omega
        rw [ee] at e hA hB hr hA2
        have szr : r.sub.size + j ≤ f.size := by
          have z := congrArg List.length e
          simp only [info_len, List.length_append, eA] at z
          omega
        refine ⟨⟨.two b f g, a, st⟩ :: A, B ++ info g i (i + 1 + f.size) st, by simp [info, e], by simp [eA], ?_, ?_, hr, ?_⟩
        · intro x hx
          simp only [arounds, List.map_cons, List.mem_cons] at hx
          rcases hx with rfl | hx
          · omega
          · exact hA x hx
        · intro x hx
          simp only [arounds, List.map_append, List.mem_append] at hx
          rcases hx with hx | hx
          · exact hB x hx
          · have := aro_range g i (i + 1 + f.size) st x hx
            omega
        · intro x hx
          simp only [arounds, List.map_cons, List.mem_cons] at hx
          rcases hx with rfl | hx
          · omega
          · exact hA2 x hx
      · rw [List.getElem?_append_right (by rw [info_len]; omega), info_len] at h
        obtain ⟨A, B, e, eA, hA, hB, hr, hA2⟩ := ihg i (i + 1 + f.size) st (j - f.size) r (by omega) h
        have ee : i + 1 + f.size + (j - f.size) = i + (j + 1) := by omega
        rw [ee] at e hA hB hr hA2
        refine ⟨⟨.two b f g, a, st⟩ :: (info f i (i + 1) st ++ A), B, by simp [info, e], by simp [eA, info_len]; omega, ?_, hB, hr, ?_⟩
        · intro x hx
          simp only [arounds, List.map_cons, List.map_append, List.mem_cons, List.mem_append] at hx
          rcases hx with rfl | hx | hx
          · omega
          · have := aro_range f i (i + 1) st x hx
            omega
          · exact hA x hx
        · intro x hx
          simp only [arounds, List.map_cons, List.map_append, List.mem_cons, List.mem_append] at hx
          rcases hx with rfl | hx | hx
          · omega
          · have := aro_range f i (i + 1) st x hx
            omega
          · exact hA2 x hx
  | one k n f ih =>
    intro a i st j r ha h
    cases j with
    | zero => exact zero _ _ _ _ _ ha h
    | succ j =>
      simp only [info, List.getElem?_cons_succ] at h
      obtain ⟨A, B, e, eA, hA, hB, hr, hA2⟩ := ih i (i + 1) _ j r (by omega) h
      have ee : i + 1 + j = i + (j + 1) := by omega
      rw [ee] at e hA hB hr hA2
      refine ⟨⟨.one k n f, a, st⟩ :: A, B, by simp [info, e], by simp [eA], ?_, hB, hr, ?_⟩
      · intro x hx
        simp only [arounds, List.map_cons, List.mem_cons] at hx
        rcases hx with rfl | hx
        · omega
        · exact hA x hx
      · intro x hx
        simp only [arounds, List.map_cons, List.mem_cons] at hx
        rcases hx with rfl | hx
        · omega
        · exact hA2 x hx
/-- the places of the parts directly in one -/
def inPlaces : F → Nat → List Nat
  | .two _ f _, i => [i + 1, i + 1 + f.size]
  | .one _ _ _, i => [i + 1]
  | _, _ => []
theorem kids_own : ∀ (t : F) (a : Int) (i : Nat) (st : Stk), a < (i : Int) → kidsFrom (arounds (info t a i st)) i i = inPlaces t i
  | .nul _, a, i, st, ha => by
    simp only [arounds, info, List.map_cons, List.map_nil, kidsFrom, inPlaces]
    rw [if_neg (by omega)]
  | .leaf _ _, a, i, st, ha => by
    simp only [arounds, info, List.map_cons, List.map_nil, kidsFrom, inPlaces]
    rw [if_neg (by omega)]
  | .two b f g, a, i, st, ha => by
    have rest : ∀ (u : F) (j : Nat) (st : Stk), i < j → kidsFrom (arounds (info u i j st)) j i = [j] := by
      intro u j st hj
      have tail : ∀ (I : List Rec), (∀ x ∈ arounds I, (j : Int) ≤ x) → kidsFrom (arounds I) (j + 1) i = [] := fun I hI =>
        kids_none _ _ _ fun x hx => by have := hI x hx; omega
      cases u with
      | nul b => simp [arounds, info, kidsFrom]
      | leaf k n => simp [arounds, info, kidsFrom]
      | two b f g =>
        simp only [arounds, info, List.map_cons, kidsFrom, if_true]
        have := tail (info f j (j + 1) st ++ info g j (j + 1 + f.size) st) (fun x hx => by
          simp only [arounds, List.map_append, List.mem_append] at hx
          rcases hx with hx | hx
          · have := aro_range f j (j + 1) st x hx
            omega
          · have := aro_range g j (j + 1 + f.size) st x hx
            omega)
        rw [arounds] at this
        rw [this]
      | one k n f =>
        simp only [arounds, info, List.map_cons, kidsFrom, if_true]
        have := tail (info f j (j + 1) (if k.bind then (n, j) :: st else st)) (fun x hx => by
          have := aro_range f j (j + 1) _ x hx
          omega)
        rw [arounds] at this
        rw [this]
    have h1 := rest f (i + 1) st (by omega)
    have h2 := rest g (i + 1 + f.size) st (by omega)
    simp only [arounds] at h1 h2
    simp only [arounds, info, List.map_cons, List.map_append, kidsFrom, inPlaces]
    rw [if_neg (by omega), kids_app, h1, List.length_map, info_len, h2]
    rfl
  | .one k n f, a, i, st, ha => by
    have rest : ∀ (u : F) (j : Nat) (st : Stk), i < j → kidsFrom (arounds (info u i j st)) j i = [j] := by
      intro u j st hj
      have tail : ∀ (I : List Rec), (∀ x ∈ arounds I, (j : Int) ≤ x) → kidsFrom (arounds I) (j + 1) i = [] := fun I hI =>
        kids_none _ _ _ fun x hx => by have := hI x hx; omega
      cases u with
      | nul b => simp [arounds, info, kidsFrom]
      | leaf k n => simp [arounds, info, kidsFrom]
      | two b f g =>
        simp only [arounds, info, List.map_cons, kidsFrom, if_true]
        have := tail (info f j (j + 1) st ++ info g j (j + 1 + f.size) st) (fun x hx => by
          simp only [arounds, List.map_append, List.mem_append] at hx
          rcases hx with hx | hx
          · have := aro_range f j (j + 1) st x hx
            omega
          · have := aro_range g j (j + 1 + f.size) st x hx
            omega)
        rw [arounds] at this
        rw [this]
      | one k n f =>
        simp only [arounds, info, List.map_cons, kidsFrom, if_true]
        have := tail (info f j (j + 1) (if k.bind then (n, j) :: st else st)) (fun x hx => by
          have := aro_range f j (j + 1) _ x hx
          omega)
        rw [arounds] at this
        rw [this]
    have h1 := rest f (i + 1) (if k.bind then (n, i) :: st else st) (by omega)
    simp only [arounds] at h1
    simp only [arounds, info, List.map_cons, kidsFrom, inPlaces]
    rw [if_neg (by omega), h1]
theorem kids_at {t : F} {j : Nat} {r : Rec} (h : (infos t)[j]? = some r) : kidsFrom (arounds (infos t)) 0 j = inPlaces r.sub j := by
  obtain ⟨A, B, e, eA, hA, hB, hr, _⟩ := info_sits t (-1) 0 [] j r (by omega) h
  rw [Nat.zero_add] at e hA hB hr
  have ea : arounds (infos t) = arounds A ++ arounds (info r.sub r.aro j r.stk) ++ arounds B := by
    rw [show infos t = _ from e]
    simp [arounds]
  have lA : (arounds A).length = j := by simp [arounds, eA]
  rw [ea, kids_app, kids_app, kids_none _ _ _ hA, Nat.zero_add, lA, kids_own _ _ _ _ hr, kids_none (arounds B)]
  · simp
  · intro x hx
    have := hB x hx
    have := F.size_pos r.sub
    omega
/-- the parts of a part are among all, at their places -/
theorem sub_at {t : F} {j : Nat} {r : Rec} (h : (infos t)[j]? = some r) : ∀ (k : Nat) (q : Rec), (info r.sub r.aro j r.stk)[k]? = some q → (infos t)[j + k]? = some q := by
  intro k q hq
  obtain ⟨A, B, e, eA, _⟩ := info_sits t (-1) 0 [] j r (by omega) h
  rw [Nat.zero_add] at e
  have lt := (List.getElem?_eq_some_iff.mp hq).1
  rw [show infos t = _ from e, List.append_assoc, List.getElem?_append_right (by omega), eA, show j + k - j = k by omega, List.getElem?_append_left lt]
  exact hq

/-! ### the binder around, and the one of a variable -/
def topPos : Stk → Int
  | [] => -1
  | (_, p) :: _ => (p : Int)
def posOf (x : Int) : Stk → Int
  | [] => -1
  | (y, p) :: r => if y = x then (p : Int) else posOf x r
def isB : F → Bool
  | .one k _ _ => k.bind
  | _ => false
theorem pushS_top (s : F) (p : Nat) (st : Stk) : topPos (pushS s p st) = if isB s = true then (p : Int) else topPos st := by
  cases s with
  | one k n f => cases hk : k.bind <;> simp [pushS, isB, topPos, hk]
  | _ => rfl
theorem top_step {t : F} {j : Nat} {r : Rec} (h : (infos t)[j]? = some r) :
    (r.aro = -1 ∧ topPos r.stk = -1 ∧ j = 0) ∨ ∃ p r', p < j ∧ (infos t)[p]? = some r' ∧ r.aro = (p : Int) ∧ topPos r.stk = if isB r'.sub = true then (p : Int) else topPos r'.stk := by
  rcases info_up t (-1) 0 [] j r h with ⟨rfl, rfl⟩ | ⟨p, r', hp, e, e1, e2⟩
  · exact .inl ⟨rfl, rfl, rfl⟩
  · rw [Nat.zero_add] at e1 e2
    exact .inr ⟨p, r', hp, e, e1, by rw [e2, pushS_top]⟩
theorem posOf_ge (x : Int) : ∀ st : Stk, -1 ≤ posOf x st
  | [] => by simp [posOf]
  | (y, p) :: r => by
    simp only [posOf]
    split
    · omega
    · exact posOf_ge x r
theorem posOf_neg (x : Int) : ∀ st : Stk, posOf x st < 0 ↔ x ∉ st.map (·.1)
  | [] => by simp [posOf]
  | (y, p) :: r => by
    have ih := posOf_neg x r
    simp only [posOf, List.map_cons, List.mem_cons, not_or]
    split
    · rename_i e
      constructor
      · intro z
        omega
      · intro z
        exact absurd e.symm z.1
    · rename_i e
      rw [ih]
      constructor
      · exact fun z => ⟨fun q => e q.symm, z⟩
      · exact fun z => z.2
/-! ### free variables -/
def freeL : F → List Int → List Int
  | .nul _, _ => []
  | .leaf .var x, bound => if x ∈ bound then [] else [x]
  | .leaf _ _, _ => []
  | .two _ f g, bound => freeL f bound ++ freeL g bound
  | .one k x f, bound => if k.bind then freeL f (bound ++ [x]) else freeL f bound
theorem free_iff (x : Int) : ∀ (t : F) (bound : List Int) (a : Int) (i : Nat) (st : Stk), (∀ y, y ∈ bound ↔ y ∈ st.map (·.1)) →
    (x ∈ freeL t bound ↔ ∃ r ∈ info t a i st, r.sub = .leaf .var x ∧ x ∉ r.stk.map (·.1))
  | .nul b, bound, a, i, st, hb => by simp [freeL, info]
  | .leaf .has n, bound, a, i, st, hb => by simp [freeL, info]
  | .leaf .lacks n, bound, a, i, st, hb => by simp [freeL, info]
  | .leaf .var n, bound, a, i, st, hb => by
    simp only [freeL, info, List.mem_singleton]
    constructor
    · intro h
      split at h
      · cases h
      · rename_i hn
        rw [List.mem_singleton] at h
        subst h
        exact ⟨_, rfl, rfl, fun z => hn ((hb _).mpr z)⟩
    · rintro ⟨r, rfl, e, hn⟩
      injection e with _ e
      subst e
      rw [if_neg (fun z => hn ((hb _).mp z))]
      exact List.mem_singleton.mpr rfl
  | .two b f g, bound, a, i, st, hb => by
    simp only [freeL, info, List.mem_append, List.mem_cons]
    rw [free_iff x f bound i (i + 1) st hb, free_iff x g bound i (i + 1 + f.size) st hb]
    constructor
    · rintro (⟨r, h1, h2⟩ | ⟨r, h1, h2⟩)
      · exact ⟨r, .inr (.inl h1), h2⟩
      · exact ⟨r, .inr (.inr h1), h2⟩
    · rintro ⟨r, h1, h2, h3⟩
      rcases h1 with rfl | h1 | h1
      · cases h2
      · exact .inl ⟨r, h1, h2, h3⟩
      · exact .inr ⟨r, h1, h2, h3⟩
  | .one k n f, bound, a, i, st, hb => by
    simp only [freeL, info, List.mem_cons]
    have key : ∀ (bound' : List Int) (st' : Stk), (∀ y, y ∈ bound' ↔ y ∈ st'.map (·.1)) →
        (x ∈ freeL f bound' ↔ ∃ r, (r = ⟨.one k n f, a, st⟩ ∨ r ∈ info f i (i + 1) st') ∧ r.sub = .leaf .var x ∧ x ∉ r.stk.map (·.1)) := by
      intro bound' st' h'
      rw [free_iff x f bound' i (i + 1) st' h']
      constructor
      · rintro ⟨r, h1, h2⟩
        exact ⟨r, .inr h1, h2⟩
      · rintro ⟨r, h1, h2, h3⟩
        rcases h1 with rfl | h1
        · cases h2
        · exact ⟨r, h1, h2, h3⟩
    by_cases hk : k.bind = true
    · rw [if_pos hk, if_pos hk]
      refine key _ _ fun y => ?_
      simp only [List.mem_append, hb y, List.map_cons, List.mem_cons, List.not_mem_nil, or_false]
      exact Or.comm
    · rw [if_neg hk, if_neg hk]
      exact key _ _ hb
def Closed (t : F) : Prop := ∀ r ∈ infos t, ∀ x, r.sub = .leaf .var x → x ∈ r.stk.map (·.1)
theorem closed_iff {t : F} : freeL t [] = [] ↔ Closed t := by
  constructor
  · intro h r hr x e
    refine Classical.byContradiction fun hn => ?_
    have := (free_iff x t [] (-1) 0 [] (by simp)).mpr ⟨r, hr, e, hn⟩
    rw [h] at this
    cases this
  · intro h
    refine List.eq_nil_iff_forall_not_mem.mpr fun x hx => ?_
    obtain ⟨r, hr, e, hn⟩ := (free_iff x t [] (-1) 0 [] (by simp)).mp hx
    exact hn (h r hr x e)
/-! ### the same shape, the same places -/
def skel : F → F
  | .nul _ => .nul true
  | .leaf _ _ => .nul true
  | .two _ f g => .two true (skel f) (skel g)
  | .one _ _ f => .one .some 0 (skel f)
theorem skel_size : ∀ t : F, (skel t).size = t.size
  | .nul _ => rfl
  | .leaf _ _ => rfl
  | .two _ f g => by simp [skel, F.size, skel_size f, skel_size g]
  | .one _ _ f => by simp [skel, F.size, skel_size f]
theorem skel_depth : ∀ t : F, (skel t).depth = t.depth
  | .nul _ => rfl
  | .leaf _ _ => rfl
  | .two _ f g => by simp [skel, F.depth, skel_depth f, skel_depth g]
  | .one _ _ f => by simp [skel, F.depth, skel_depth f]
theorem skel_aro : ∀ (t : F) (a : Int) (i : Nat) (st : Stk), arounds (info t a i st) = arounds (info (skel t) a i [])
  | .nul _, _, _, _ => rfl
  | .leaf _ _, _, _, _ => rfl
  | .two _ f g, a, i, st => by
    have h1 := skel_aro f i (i + 1) st
    have h2 := skel_aro g i (i + 1 + f.size) st
    simp only [arounds] at h1 h2
    simp only [arounds, info, skel, List.map_cons, List.map_append, h1, h2, skel_size]
  | .one k n f, a, i, st => by
    have h1 := skel_aro f i (i + 1) (if k.bind then (n, i) :: st else st)
    simp only [arounds] at h1
    simp only [arounds, info, skel, List.map_cons]
    rw [h1]
    rfl
theorem same_aro {t u : F} (h : skel t = skel u) : arounds (infos t) = arounds (infos u) := by
  rw [skel_aro t, skel_aro u, h]
theorem same_size {t u : F} (h : skel t = skel u) : t.size = u.size := by rw [← skel_size t, h, skel_size]
/-! ### the tidy form -/
def tidyF : F → (Int → Int) → Int → F × Int
  | .nul b, _, n => (.nul b, n)
  | .leaf .var x, nm, n => (.leaf .var (nm x), n)
  | .leaf k x, _, n => (.leaf k x, n)
  | .two b f g, nm, n => (.two b (tidyF f nm n).1 (tidyF g nm (tidyF f nm n).2).1, (tidyF g nm (tidyF f nm n).2).2)
  | .one k x f, nm, n =>
    if k.bind then (.one k n (tidyF f (fun y => if y = x then n else nm y) (n + 1)).1, (tidyF f (fun y => if y = x then n else nm y) (n + 1)).2)
    else (.one k x (tidyF f nm n).1, (tidyF f nm n).2)
theorem tidy_skel : ∀ (t : F) (nm : Int → Int) (n : Int), skel (tidyF t nm n).1 = skel t
  | .nul _, _, _ => rfl
  | .leaf .var _, _, _ => rfl
  | .leaf .has _, _, _ => rfl
  | .leaf .lacks _, _, _ => rfl
  | .two _ f g, nm, n => by simp only [tidyF, skel, tidy_skel f, tidy_skel g]
  | .one k x f, nm, n => by
    simp only [tidyF]
    split <;> simp only [skel, tidy_skel f]
def cntB (I : List Rec) : Nat := (I.filter fun r => isB r.sub).length
theorem cntB_app (A B : List Rec) : cntB (A ++ B) = cntB A + cntB B := by simp [cntB]
theorem cntB_cons (r : Rec) (B : List Rec) : cntB (r :: B) = (if isB r.sub = true then 1 else 0) + cntB B := by
  simp only [cntB, List.filter_cons]
  split <;> simp <;> omega
def newHd (ρ : Nat → Int) (q : Nat) (r : Rec) : Hd :=
  match r.sub with
  | .leaf .var x => .leaf .var (ρ (posOf x r.stk).toNat)
  | .one k x _ => if k.bind then .one k (ρ q) else .one k x
  | s => s.hd
theorem tidy_heads (ρ : Nat → Int) : ∀ (t : F) (a : Int) (i : Nat) (st : Stk) (nm : Int → Int) (n : Int),
    (∀ r ∈ info t a i st, ∀ x, r.sub = .leaf .var x → x ∈ r.stk.map (·.1)) → (∀ x ∈ st.map (·.1), nm x = ρ (posOf x st).toNat) →
    (∀ j r, (info t a i st)[j]? = some r → isB r.sub = true → ρ (i + j) = n + (cntB ((info t a i st).take j) : Nat)) →
    (tidyF t nm n).2 = n + (cntB (info t a i st) : Nat) ∧
    ∀ (st' : Stk) (j : Nat) (r : Rec), (info t a i st)[j]? = some r → ((info (tidyF t nm n).1 a i st')[j]?).map (fun r => r.sub.hd) = some (newHd ρ (i + j) r)
  | .nul b, a, i, st, nm, n, hc, hs, hr => by
    refine ⟨by simp [tidyF, info, cntB, isB], fun st' j r h => ?_⟩
    cases j with
    | zero =>
      cases h
      rfl
    | succ j => simp [info] at h
  | .leaf .has b, a, i, st, nm, n, hc, hs, hr => by
    refine ⟨by simp [tidyF, info, cntB, isB], fun st' j r h => ?_⟩
    cases j with
    | zero =>
      cases h
      rfl
    | succ j => simp [info] at h
  | .leaf .lacks b, a, i, st, nm, n, hc, hs, hr => by
    refine ⟨by simp [tidyF, info, cntB, isB], fun st' j r h => ?_⟩
    cases j with
    | zero =>
      cases h
      rfl
    | succ j => simp [info] at h
  | .leaf .var x, a, i, st, nm, n, hc, hs, hr => by
    refine ⟨by simp [tidyF, info, cntB, isB], fun st' j r h => ?_⟩
    cases j with
    | zero =>
      cases h
      have hx : x ∈ st.map (·.1) := hc ⟨.leaf .var x, a, st⟩ (by simp [info]) x rfl
      simp only [tidyF, info, newHd, List.getElem?_cons_zero, Option.map_some, F.hd]
      rw [hs x hx]
    | succ j => simp [info] at h
  | .two b f g, a, i, st, nm, n, hc, hs, hr => by
    have If : ∀ j r, (info f i (i + 1) st)[j]? = some r → (info (.two b f g) a i st)[j + 1]? = some r := fun j r h => by
      simp only [info, List.getElem?_cons_succ]
      rw [List.getElem?_append_left (List.getElem?_eq_some_iff.mp h).1]
      exact h
    have Ig : ∀ j r, (info g i (i + 1 + f.size) st)[j]? = some r → (info (.two b f g) a i st)[f.size + j + 1]? = some r := fun j r h => by
      simp only [info, List.getElem?_cons_succ]
      rw [List.getElem?_append_right (by rw [info_len]; omega), info_len, show f.size + j - f.size = j by omega]
      exact h
    obtain ⟨f1, f2⟩ := tidy_heads ρ f i (i + 1) st nm n (fun r hr' => hc r (by simp [info, hr'])) hs (fun j r h hb => by
      have := hr (j + 1) r (If j r h) hb
      rw [show i + (j + 1) = i + 1 + j by omega] at this
      rw [this]
      simp only [info, List.take_succ_cons, cntB_cons, isB]
      rw [List.take_append_of_le_length (Nat.le_of_lt (List.getElem?_eq_some_iff.mp h).1)]
      simp)
    obtain ⟨g1, g2⟩ := tidy_heads ρ g i (i + 1 + f.size) st nm (tidyF f nm n).2 (fun r hr' => hc r (by simp [info, hr'])) hs (fun j r h hb => by
      have := hr (f.size + j + 1) r (Ig j r h) hb
      rw [show i + (f.size + j + 1) = i + 1 + f.size + j by omega] at this
      rw [this, f1]
      simp only [info, List.take_succ_cons, cntB_cons, isB]
      rw [List.take_append, info_len, List.take_of_length_le (by rw [info_len]; omega), show f.size + j - f.size = j by omega, cntB_app]
      simp
      omega)
    refine ⟨?_, fun st' j r h => ?_⟩
    · simp only [tidyF, info, cntB_cons, cntB_app, isB]
      rw [g1, f1]
      simp
      omega
    · have sz : (tidyF f nm n).1.size = f.size := same_size (tidy_skel f nm n)
      cases j with
      | zero =>
        cases h
        rfl
      | succ j =>
        simp only [info, List.getElem?_cons_succ] at h
        simp only [tidyF, info, List.getElem?_cons_succ]
        by_cases lt : j < f.size
        · rw [List.getElem?_append_left (by rw [info_len]; exact lt)] at h
          rw [List.getElem?_append_left (by rw [info_len, sz]; exact lt), f2 st' j r h, show i + 1 + j = i + (j + 1) by omega]
        · rw [List.getElem?_append_right (by rw [info_len]; omega), info_len] at h
          rw [List.getElem?_append_right (by rw [info_len, sz]; omega), info_len, sz, g2 st' (j - f.size) r h, show i + 1 + f.size + (j - f.size) = i + (j + 1) by omega]
  | .one k x f, a, i, st, nm, n, hc, hs, hr => by
    by_cases hk : k.bind = true
    · have If : ∀ j r, (info f i (i + 1) ((x, i) :: st))[j]? = some r → (info (.one k x f) a i st)[j + 1]? = some r := fun j r h => by
        simp only [info, List.getElem?_cons_succ, if_pos hk]
        exact h
      have ρi : ρ i = n := by
        have := hr 0 ⟨.one k x f, a, st⟩ rfl hk
        simpa [cntB] using this
      obtain ⟨f1, f2⟩ := tidy_heads ρ f i (i + 1) ((x, i) :: st) (fun y => if y = x then n else nm y) (n + 1) (fun r hr' => hc r (by simp [info, hk, hr'])) (fun y hy => by
        simp only [posOf]
        by_cases e : y = x
        · rw [if_pos e, if_pos e.symm]
          exact ρi.symm
        · rw [if_neg e, if_neg (fun z => e z.symm)]
          rw [List.map_cons, List.mem_cons] at hy
          exact hs y (hy.resolve_left e)) (fun j r h hb => by
        have := hr (j + 1) r (If j r h) hb
        rw [show i + (j + 1) = i + 1 + j by omega] at this
        rw [this]
        simp only [info, List.take_succ_cons, cntB_cons]
        rw [if_pos (show isB (F.one k x f) = true from hk), if_pos hk]
        omega)
      refine ⟨?_, fun st' j r h => ?_⟩
      · simp only [tidyF, info, cntB_cons]
        rw [if_pos (show isB (F.one k x f) = true from hk), if_pos hk, if_pos hk, f1]
        omega
      · cases j with
        | zero =>
          cases h
          simp only [tidyF, if_pos hk, info, newHd, List.getElem?_cons_zero, Option.map_some, F.hd]
          rw [Nat.add_zero, ρi]
        | succ j =>
          simp only [info, List.getElem?_cons_succ, if_pos hk] at h
          simp only [tidyF, if_pos hk, info, List.getElem?_cons_succ]
          rw [f2 _ j r h, show i + 1 + j = i + (j + 1) by omega]
    · have If : ∀ j r, (info f i (i + 1) st)[j]? = some r → (info (.one k x f) a i st)[j + 1]? = some r := fun j r h => by
        simp only [info, List.getElem?_cons_succ, if_neg hk]
        exact h
      obtain ⟨f1, f2⟩ := tidy_heads ρ f i (i + 1) st nm n (fun r hr' => hc r (by simp [info, hk, hr'])) hs (fun j r h hb => by
        have := hr (j + 1) r (If j r h) hb
        rw [show i + (j + 1) = i + 1 + j by omega] at this
        rw [this]
        simp only [info, List.take_succ_cons, cntB_cons]
        rw [if_neg (show ¬ isB (F.one k x f) = true from hk), if_neg hk]
        omega)
      refine ⟨?_, fun st' j r h => ?_⟩
      · simp only [tidyF, info, cntB_cons]
        rw [if_neg (show ¬ isB (F.one k x f) = true from hk), if_neg hk, if_neg hk, f1]
        omega
      · cases j with
        | zero =>
          cases h
          simp only [tidyF, if_neg hk, info, newHd, List.getElem?_cons_zero, Option.map_some, F.hd]
        | succ j =>
          simp only [info, List.getElem?_cons_succ, if_neg hk] at h
          simp only [tidyF, if_neg hk, info, List.getElem?_cons_succ]
          rw [f2 _ j r h, show i + 1 + j = i + (j + 1) by omega]
/-- of a closed one: the head of each part in the tidy form -/
def rankOf (t : F) (q : Nat) : Int := (cntB ((infos t).take q) : Nat)
theorem tidy_whole {t : F} (hc : Closed t) (nm : Int → Int) {j : Nat} {r : Rec} (h : (infos t)[j]? = some r) :
    ((infos (tidyF t nm 0).1)[j]?).map (fun r => r.sub.hd) = some (newHd (rankOf t) j r) := by
  have := (tidy_heads (rankOf t) t (-1) 0 [] nm 0 hc (by simp) (fun j r h hb => by simp [rankOf])).2 [] j r h
  rwa [Nat.zero_add] at this
/-! ### tidy twice -/
theorem tidy_again : ∀ (t : F) (nm nm2 : Int → Int) (n : Int), (∀ y, nm2 (nm y) = nm y) → tidyF (tidyF t nm n).1 nm2 n = tidyF t nm n
  | .nul _, _, _, _, _ => rfl
  | .leaf .has _, _, _, _, _ => rfl
  | .leaf .lacks _, _, _, _, _ => rfl
  | .leaf .var x, nm, nm2, n, h => by simp only [tidyF, h]
  | .two b f g, nm, nm2, n, h => by
    simp only [tidyF]
    rw [tidy_again f nm nm2 n h, tidy_again g nm nm2 _ h]
  | .one k x f, nm, nm2, n, h => by
    by_cases hk : k.bind = true
    · have ih := tidy_again f (fun y => if y = x then n else nm y) (fun y => if y = n then n else nm2 y) (n + 1) (fun y => by
        by_cases e : y = x
        · simp [e]
        · simp only [if_neg e]
          by_cases e2 : nm y = n
          · simp [e2]
          · rw [if_neg e2]
            exact h y)
      simp only [tidyF, if_pos hk, ih]
    · have ih := tidy_again f nm nm2 n h
      simp only [tidyF, if_neg hk, ih]
end Fw
namespace Fw
/-! ### taking a statement apart with a stack -/
def pre (t : F) (a : Int) (i : Nat) : List (Hd × Int) := (info t a i []).map fun r => (r.sub.hd, r.aro)
theorem pre_len (t : F) (a : Int) (i : Nat) : (pre t a i).length = t.size := by simp [pre, info_len]
theorem info_plain : ∀ (t : F) (a : Int) (i : Nat) (st : Stk), ((info t a i st).map fun r => (r.sub.hd, r.aro)) = pre t a i
  | .nul _, _, _, _ => rfl
  | .leaf _ _, _, _, _ => rfl
  | .two _ f g, a, i, st => by
    have h1 := info_plain f i (i + 1)
    have h2 := info_plain g i (i + 1 + f.size)
    simp only [pre, info, List.map_cons, List.map_append] at *
    rw [h1 st, h2 st]
  | .one k n f, a, i, st => by
    have h1 := info_plain f i (i + 1)
    simp only [pre, info, List.map_cons] at *
    rw [h1 (if k.bind then (n, i) :: st else st), h1 (if k.bind then [(n, i)] else [])]
def F.kids : F → List F
  | .two _ f g => [f, g]
  | .one _ _ f => [f]
  | _ => []
def fin (L : List (Hd × Int)) : List (F × Int) → List (Hd × Int)
  | [] => L
  | (t, a) :: r => fin (L ++ pre t a L.length) r
theorem fin_step (L : List (Hd × Int)) (t : F) (a : Int) (r : List (F × Int)) :
    fin L ((t, a) :: r) = fin (L ++ [(t.hd, a)]) (t.kids.map (fun f => (f, (L.length : Int))) ++ r) := by
  cases t with
  | nul b => rfl
  | leaf k n => rfl
  | two b f g =>
    have hf := info_plain f L.length (L.length + 1) []
    have hg := info_plain g L.length (L.length + 1 + f.size) []
    simp only [fin, F.kids, List.map_cons, List.map_nil, List.cons_append, List.nil_append, F.hd, List.length_append, List.length_cons, List.length_nil, pre_len]
    congr 1
    simp only [pre, info, List.map_cons, List.map_append, F.hd]
    simp
  | one k n f =>
    have hf := info_plain f L.length (L.length + 1) (if k.bind then [(n, L.length)] else [])
    simp only [fin, F.kids, List.map_cons, List.map_nil, List.cons_append, List.nil_append, F.hd, List.length_append, List.length_cons, List.length_nil]
    congr 1
    simp only [pre, info, List.map_cons, F.hd] at *
    rw [hf]
    simp
def stSize : List (F × Int) → Nat
  | [] => 0
  | (t, _) :: r => t.size + stSize r
theorem stSize_app : ∀ A B : List (F × Int), stSize (A ++ B) = stSize A + stSize B
  | [], B => by simp [stSize]
  | (t, a) :: A, B => by simp [stSize, stSize_app A B]; omega
theorem stSize_kids (t : F) (i : Int) : stSize (t.kids.map fun f => (f, i)) + 1 = t.size := by
  cases t <;> simp [F.kids, stSize, F.size]
theorem st_len : ∀ A : List (F × Int), A.length ≤ stSize A
  | [] => Nat.le_refl _
  | (t, a) :: A => by
    have := st_len A
    have := F.size_pos t
    simp only [List.length_cons, stSize]
    omega
theorem fin_len : ∀ (S : List (F × Int)) (L : List (Hd × Int)), (fin L S).length = L.length + stSize S
  | [], L => by simp [fin, stSize]
  | (t, a) :: S, L => by
    simp only [fin, stSize]
    rw [fin_len S, List.length_append, pre_len]
    omega
end Fw
namespace Fw
theorem kids_recs {t : F} {j : Nat} {r : Rec} (h : (infos t)[j]? = some r) :
    (inPlaces r.sub j).length = r.sub.kids.length ∧ ∀ (m p : Nat), (inPlaces r.sub j)[m]? = some p → ∃ r', (infos t)[p]? = some r' ∧ r.sub.kids[m]? = some r'.sub ∧ j < p := by
  have sa := sub_at h
  obtain ⟨s, a, st⟩ := r
  cases s with
  | nul b => exact ⟨rfl, fun m p e => by simp [inPlaces] at e⟩
  | leaf k n => exact ⟨rfl, fun m p e => by simp [inPlaces] at e⟩
  | two b f g =>
    refine ⟨rfl, fun m p e => ?_⟩
    match m, e with
    | 0, e =>
      cases e
      refine ⟨⟨f, j, st⟩, sa 1 _ ?_, rfl, by omega⟩
      simp only [info, List.getElem?_cons_succ]
      rw [List.getElem?_append_left (by rw [info_len]; exact F.size_pos f)]
      exact info_head _ _ _ _
    | 1, e =>
      cases e
      have z := sa (1 + f.size) ⟨g, j, st⟩ (by
        rw [Nat.add_comm 1]
        simp only [info, List.getElem?_cons_succ]
        rw [List.getElem?_append_right (by rw [info_len]; omega), info_len, Nat.sub_self]
        exact info_head _ _ _ _)
      rw [← Nat.add_assoc] at z
      exact ⟨_, z, rfl, by omega⟩
    | m + 2, e => simp [inPlaces] at e
  | one k n f =>
    refine ⟨rfl, fun m p e => ?_⟩
    match m, e with
    | 0, e =>
      cases e
      refine ⟨⟨f, j, if k.bind then (n, j) :: st else st⟩, sa 1 _ ?_, rfl, by omega⟩
      simp only [info, List.getElem?_cons_succ]
      exact info_head _ _ _ _
    | m + 1, e => simp [inPlaces] at e
end Fw
namespace Fw
theorem F.kids_le : ∀ t : F, t.kids.length ≤ 2
  | .nul _ => Nat.zero_le 2
  | .leaf _ _ => Nat.zero_le 2
  | .two _ _ _ => Nat.le_refl 2
  | .one _ _ _ => Nat.le_succ 1
end Fw
namespace Fw
theorem infos_pos {t : F} {x : Int} : ∀ (st : Stk) (j : Nat) (r : Rec), (infos t)[j]? = some r → r.stk = st → x ∈ st.map (·.1) →
    ∃ (p : Nat) (r' : Rec), posOf x st = (p : Int) ∧ p < j ∧ (infos t)[p]? = some r' ∧ isB r'.sub = true
  | [], _, _, _, _, h => by cases h
  | (y, q) :: rest, j, r, hr, e, h => by
    obtain ⟨hq, k, f, a, h2, h3⟩ := infos_stk j j r y q rest (Nat.le_refl _) hr e
    simp only [posOf]
    by_cases c : y = x
    · rw [if_pos c]
      exact ⟨q, _, rfl, hq, h2, h3⟩
    · rw [if_neg c]
      have h' : x ∈ rest.map (·.1) := by
        rw [List.map_cons, List.mem_cons] at h
        exact h.resolve_left fun z => c z.symm
      obtain ⟨p, r', e1, e2, e3⟩ := infos_pos rest q _ h2 rfl h'
      exact ⟨p, r', e1, by omega, e3⟩
end Fw
namespace Fw
/-! ### what the law draws -/
def fv : F → List Int
  | .nul _ => []
  | .leaf .var x => [x]
  | .leaf _ _ => []
  | .two _ f g => fv f ++ fv g
  | .one k x f => if k.bind then (fv f).filter (fun y => y ≠ x) else fv f
theorem free_fv (y : Int) : ∀ (t : F) (b : List Int), y ∈ freeL t b ↔ y ∈ fv t ∧ y ∉ b
  | .nul _, b => by simp [freeL, fv]
  | .leaf .has _, b => by simp [freeL, fv]
  | .leaf .lacks _, b => by simp [freeL, fv]
  | .leaf .var x, b => by
    simp only [freeL, fv, List.mem_singleton]
    split
    · rename_i h
      constructor
      · intro z
        cases z
      · rintro ⟨rfl, z⟩
        exact absurd h z
    · rename_i h
      rw [List.mem_singleton]
      constructor
      · rintro rfl
        exact ⟨rfl, h⟩
      · exact fun z => z.1
  | .two _ f g, b => by
    simp only [freeL, fv, List.mem_append, free_fv y f b, free_fv y g b]
    constructor
    · rintro (⟨h1, h2⟩ | ⟨h1, h2⟩)
      · exact ⟨.inl h1, h2⟩
      · exact ⟨.inr h1, h2⟩
    · rintro ⟨h1 | h1, h2⟩
      · exact .inl ⟨h1, h2⟩
      · exact .inr ⟨h1, h2⟩
  | .one k x f, b => by
    simp only [freeL, fv]
    by_cases hk : k.bind = true
    · rw [if_pos hk, if_pos hk, free_fv y f (b ++ [x])]
      simp only [List.mem_append, List.mem_singleton, not_or, List.mem_filter, decide_eq_true_eq]
      constructor
      · rintro ⟨h1, h2, h3⟩
        exact ⟨⟨h1, h3⟩, h2⟩
      · rintro ⟨⟨h1, h3⟩, h2⟩
        exact ⟨h1, h2, h3⟩
    · rw [if_neg hk, if_neg hk, free_fv y f b]
theorem closed_fv {t : F} : fv t = [] ↔ Closed t := by
  rw [← closed_iff]
  constructor
  · intro h
    refine List.eq_nil_iff_forall_not_mem.mpr fun x hx => ?_
    have := ((free_fv x t []).mp hx).1
    rw [h] at this
    cases this
  · intro h
    refine List.eq_nil_iff_forall_not_mem.mpr fun x hx => ?_
    have := (free_fv x t []).mpr ⟨hx, by simp⟩
    rw [h] at this
    cases this
abbrev V4 : List Int := [0, 1, 2, 7]
def Ok : F → Prop
  | .nul _ => True
  | .leaf .var x => x ∈ V4
  | .leaf _ n => 0 ≤ n ∧ n < 2
  | .two _ f g => Ok f ∧ Ok g
  | .one k n f => (if k.bind = true then n ∈ V4 else 0 ≤ n ∧ n < 2) ∧ Ok f
theorem ok_fv : ∀ {t : F}, Ok t → ∀ x ∈ fv t, x ∈ V4
  | .nul _, _, x, h => by cases h
  | .leaf .has _, _, x, h => by cases h
  | .leaf .lacks _, _, x, h => by cases h
  | .leaf .var y, o, x, h => by
    rw [show fv (.leaf .var y) = [y] from rfl, List.mem_singleton] at h
    subst h
    exact o
  | .two _ f g, o, x, h => by
    rcases List.mem_append.mp (show x ∈ fv f ++ fv g from h) with h | h
    · exact ok_fv o.1 x h
    · exact ok_fv o.2 x h
  | .one k n f, o, x, h => by
    refine ok_fv o.2 x ?_
    simp only [fv] at h
    split at h
    · exact (List.mem_filter.mp h).1
    · exact h
structure Gen (n : Nat) (W R : List Int) (t : F) : Prop where
  dep : t.depth ≤ n + 1
  ok : Ok t
  fr : ∀ x ∈ fv t, x ∈ W ∨ x ∈ R
end Fw
namespace Fw
theorem tidy_fv : ∀ (t : F) (nm : Int → Int) (n y : Int), y ∈ fv (tidyF t nm n).1 → ∃ x ∈ fv t, y = nm x
  | .nul _, _, _, _, h => by cases h
  | .leaf .has _, _, _, _, h => by cases h
  | .leaf .lacks _, _, _, _, h => by cases h
  | .leaf .var x, nm, n, y, h => ⟨x, List.mem_singleton.mpr rfl, List.mem_singleton.mp h⟩
  | .two b f g, nm, n, y, h => by
    rcases List.mem_append.mp (show y ∈ fv (tidyF f nm n).1 ++ fv (tidyF g nm (tidyF f nm n).2).1 from h) with h | h
    · obtain ⟨x, h1, h2⟩ := tidy_fv f nm n y h
      exact ⟨x, List.mem_append_left _ h1, h2⟩
    · obtain ⟨x, h1, h2⟩ := tidy_fv g nm _ y h
      exact ⟨x, List.mem_append_right _ h1, h2⟩
  | .one k z f, nm, n, y, h => by
    by_cases hk : k.bind = true
    · simp only [tidyF, if_pos hk, fv, List.mem_filter, decide_eq_true_eq] at h
      obtain ⟨x, h1, h2⟩ := tidy_fv f _ _ y h.1
      by_cases e : x = z
      · rw [if_pos e] at h2
        exact absurd h2 h.2
      · rw [if_neg e] at h2
        refine ⟨x, ?_, h2⟩
        simp only [fv, if_pos hk, List.mem_filter, decide_eq_true_eq]
        exact ⟨h1, e⟩
    · simp only [tidyF, if_neg hk, fv] at h
      obtain ⟨x, h1, h2⟩ := tidy_fv f nm n y h
      refine ⟨x, ?_, h2⟩
      simp only [fv, if_neg hk]
      exact h1
theorem tidy_closed {t : F} (nm : Int → Int) (n : Int) (h : Closed t) : Closed (tidyF t nm n).1 := by
  rw [← closed_fv] at h ⊢
  refine List.eq_nil_iff_forall_not_mem.mpr fun y hy => ?_
  obtain ⟨x, hx, _⟩ := tidy_fv t nm n y hy
  rw [h] at hx
  cases hx
end Fw

set_option maxRecDepth 100000
set_option maxHeartbeats 2000000
namespace Fw
open PySem PySem.Spec PyProof.Rows L2
/-! ### the text by places -/
def top (i : Nat) : Stmt := PySem.Challenge.pw_fixworlds_k34_whole_likeness_games.main.body.getD i (.Pass ⟨0, 0, 0, 0⟩)
abbrev s_states_in : Stmt := top 5
abbrev s_led : Stmt := top 6
abbrev s_step_masks : Stmt := top 7
abbrev s_Rounds_init : Stmt := inClass (top 9) 0
abbrev s_Rounds_advance : Stmt := inClass (top 9) 1
abbrev s_Rounds_numbers : Stmt := inClass (top 9) 2
abbrev s_like_at_once : Stmt := top 10
abbrev s_cut_up : Stmt := top 11
abbrev s_least_of : Stmt := top 12
abbrev s_all_rounds : Stmt := top 13
abbrev s_first_round : Stmt := top 14
abbrev s_is_number : Stmt := top 16
abbrev s_ascends : Stmt := top 17
abbrev s_World_init : Stmt := inClass (top 22) 0
abbrev s_check_numbers : Stmt := top 23
abbrev s_check_states : Stmt := top 24
abbrev s_check_steps : Stmt := top 25
abbrev s_ends_of : Stmt := top 26
abbrev s_followers : Stmt := top 27
abbrev s_LikenessGame_init : Stmt := inClass (top 30) 0
abbrev s_LikenessGame_winner : Stmt := inClass (top 30) 1
abbrev s_LikenessGame_attack : Stmt := inClass (top 30) 2
abbrev s_LikenessGame_answer : Stmt := inClass (top 30) 3
abbrev s_LikenessGame__answers : Stmt := inClass (top 30) 4
abbrev s_law_draws : Stmt := top 32
abbrev s_law_take : Stmt := top 33
abbrev s_law_is_integer : Stmt := top 34
abbrev s_law_world : Stmt := top 35
abbrev s_law_made : Stmt := top 36
abbrev s_law_behind : Stmt := top 37
abbrev s_law_classes : Stmt := top 38
abbrev s_law_outcome : Stmt := top 39
abbrev s_law_attacked : Stmt := top 40
abbrev s_law_answered : Stmt := top 41
abbrev s_law : Stmt := top 42
abbrev n_states_in : List Str := ["mask", "states", "lowest"]
abbrev a_states_in : List Str := ["mask"]
theorem sc_states_in : FnScope n_states_in a_states_in (defScope s_states_in) := ⟨rfl, rfl, rfl, by decide +kernel, rfl, by decide +kernel, by decide +kernel⟩
abbrev n_led : List Str := ["rows", "mask", "union", "state"]
abbrev a_led : List Str := ["rows", "mask"]
theorem sc_led : FnScope n_led a_led (defScope s_led) := ⟨rfl, rfl, rfl, by decide +kernel, rfl, by decide +kernel, by decide +kernel⟩
abbrev n_step_masks : List Str := ["many", "steps", "label", "behind", "before", "start", "other", "end"]
abbrev a_step_masks : List Str := ["many", "steps", "label"]
theorem sc_step_masks : FnScope n_step_masks a_step_masks (defScope s_step_masks) := ⟨rfl, rfl, rfl, by decide +kernel, rfl, by decide +kernel, by decide +kernel⟩
abbrev n_Rounds_init : List Str := ["self", "rows", "steps", "labels", "label", "_"]
abbrev a_Rounds_init : List Str := ["self", "rows", "steps"]
theorem sc_Rounds_init : FnScope n_Rounds_init a_Rounds_init (defScope s_Rounds_init) := ⟨rfl, rfl, rfl, by decide +kernel, rfl, by decide +kernel, by decide +kernel⟩
abbrev n_Rounds_advance : List Str := ["self", "block", "cuts", "kept", "fresh", "pieces", "before"]
abbrev a_Rounds_advance : List Str := ["self"]
theorem sc_Rounds_advance : FnScope n_Rounds_advance a_Rounds_advance (defScope s_Rounds_advance) := ⟨rfl, rfl, rfl, by decide +kernel, rfl, by decide +kernel, by decide +kernel⟩
abbrev n_Rounds_numbers : List Str := ["self", "numbers", "number", "block", "state"]
abbrev a_Rounds_numbers : List Str := ["self"]
theorem sc_Rounds_numbers : FnScope n_Rounds_numbers a_Rounds_numbers (defScope s_Rounds_numbers) := ⟨rfl, rfl, rfl, by decide +kernel, rfl, by decide +kernel, by decide +kernel⟩
abbrev n_like_at_once : List Str := ["rows", "blocks", "state", "row"]
abbrev a_like_at_once : List Str := ["rows"]
theorem sc_like_at_once : FnScope n_like_at_once a_like_at_once (defScope s_like_at_once) := ⟨rfl, rfl, rfl, by decide +kernel, rfl, by decide +kernel, by decide +kernel⟩
abbrev n_cut_up : List Str := ["block", "cuts", "pieces", "cut", "halves", "piece", "half"]
abbrev a_cut_up : List Str := ["block", "cuts"]
theorem sc_cut_up : FnScope n_cut_up a_cut_up (defScope s_cut_up) := ⟨rfl, rfl, rfl, by decide +kernel, rfl, by decide +kernel, by decide +kernel⟩
abbrev n_least_of : List Str := ["block"]
abbrev a_least_of : List Str := ["block"]
theorem sc_least_of : FnScope n_least_of a_least_of (defScope s_least_of) := ⟨rfl, rfl, rfl, by decide +kernel, rfl, by decide +kernel, by decide +kernel⟩
abbrev n_all_rounds : List Str := ["world", "rounds", "found"]
abbrev a_all_rounds : List Str := ["world"]
theorem sc_all_rounds : FnScope n_all_rounds a_all_rounds (defScope s_all_rounds) := ⟨rfl, rfl, rfl, by decide +kernel, rfl, by decide +kernel, by decide +kernel⟩
abbrev n_first_round : List Str := ["rounds", "first", "second", "at"]
abbrev a_first_round : List Str := ["rounds", "first", "second"]
theorem sc_first_round : FnScope n_first_round a_first_round (defScope s_first_round) := ⟨rfl, rfl, rfl, by decide +kernel, rfl, by decide +kernel, by decide +kernel⟩
abbrev n_is_number : List Str := ["value", "least", "greatest"]
abbrev a_is_number : List Str := ["value", "least", "greatest"]
theorem sc_is_number : FnScope n_is_number a_is_number (defScope s_is_number) := ⟨rfl, rfl, rfl, by decide +kernel, rfl, by decide +kernel, by decide +kernel⟩
abbrev n_ascends : List Str := ["row", "low", "high"]
abbrev a_ascends : List Str := ["row"]
theorem sc_ascends : FnScope n_ascends a_ascends (defScope s_ascends) := ⟨rfl, rfl, rfl, by decide +kernel, rfl, by decide +kernel, by decide +kernel⟩
abbrev n_World_init : List Str := ["self", "labels", "facts", "states", "steps", "row", "step"]
abbrev a_World_init : List Str := ["self", "labels", "facts", "states", "steps"]
theorem sc_World_init : FnScope n_World_init a_World_init (defScope s_World_init) := ⟨rfl, rfl, rfl, by decide +kernel, rfl, by decide +kernel, by decide +kernel⟩
abbrev n_check_numbers : List Str := ["labels", "facts"]
abbrev a_check_numbers : List Str := ["labels", "facts"]
theorem sc_check_numbers : FnScope n_check_numbers a_check_numbers (defScope s_check_numbers) := ⟨rfl, rfl, rfl, by decide +kernel, rfl, by decide +kernel, by decide +kernel⟩
abbrev n_check_states : List Str := ["world", "row", "fact"]
abbrev a_check_states : List Str := ["world"]
theorem sc_check_states : FnScope n_check_states a_check_states (defScope s_check_states) := ⟨rfl, rfl, rfl, by decide +kernel, rfl, by decide +kernel, by decide +kernel⟩
abbrev n_check_steps : List Str := ["world", "greatest", "step"]
abbrev a_check_steps : List Str := ["world"]
theorem sc_check_steps : FnScope n_check_steps a_check_steps (defScope s_check_steps) := ⟨rfl, rfl, rfl, by decide +kernel, rfl, by decide +kernel, by decide +kernel⟩
abbrev n_ends_of : List Str := ["steps", "ends", "start", "label", "end"]
abbrev a_ends_of : List Str := ["steps"]
theorem sc_ends_of : FnScope n_ends_of a_ends_of (defScope s_ends_of) := ⟨rfl, rfl, rfl, by decide +kernel, rfl, by decide +kernel, by decide +kernel⟩
abbrev n_followers : List Str := ["world", "state", "label"]
abbrev a_followers : List Str := ["world", "state", "label"]
theorem sc_followers : FnScope n_followers a_followers (defScope s_followers) := ⟨rfl, rfl, rfl, by decide +kernel, rfl, by decide +kernel, by decide +kernel⟩
abbrev n_LikenessGame_init : List Str := ["self", "world"]
abbrev a_LikenessGame_init : List Str := ["self", "world"]
theorem sc_LikenessGame_init : FnScope n_LikenessGame_init a_LikenessGame_init (defScope s_LikenessGame_init) := ⟨rfl, rfl, rfl, by decide +kernel, rfl, by decide +kernel, by decide +kernel⟩
abbrev n_LikenessGame_winner : List Str := ["self", "first", "second", "numbers"]
abbrev a_LikenessGame_winner : List Str := ["self", "first", "second"]
theorem sc_LikenessGame_winner : FnScope n_LikenessGame_winner a_LikenessGame_winner (defScope s_LikenessGame_winner) := ⟨rfl, rfl, rfl, by decide +kernel, rfl, by decide +kernel, by decide +kernel⟩
abbrev n_LikenessGame_attack : List Str := ["self", "first", "second", "numbers", "sides", "attacks", "side", "state", "other", "label", "end"]
abbrev a_LikenessGame_attack : List Str := ["self", "first", "second"]
theorem sc_LikenessGame_attack : FnScope n_LikenessGame_attack a_LikenessGame_attack (defScope s_LikenessGame_attack) := ⟨rfl, rfl, rfl, by decide +kernel, rfl, by decide +kernel, by decide +kernel⟩
abbrev n_LikenessGame_answer : List Str := ["self", "first", "second", "side", "label", "end", "other"]
abbrev a_LikenessGame_answer : List Str := ["self", "first", "second", "side", "label", "end"]
theorem sc_LikenessGame_answer : FnScope n_LikenessGame_answer a_LikenessGame_answer (defScope s_LikenessGame_answer) := ⟨rfl, rfl, rfl, by decide +kernel, rfl, by decide +kernel, by decide +kernel⟩
abbrev n_LikenessGame__answers : List Str := ["self", "numbers", "state", "label", "end", "each"]
abbrev a_LikenessGame__answers : List Str := ["self", "numbers", "state", "label", "end"]
theorem sc_LikenessGame__answers : FnScope n_LikenessGame__answers a_LikenessGame__answers (defScope s_LikenessGame__answers) := ⟨rfl, rfl, rfl, by decide +kernel, rfl, by decide +kernel, by decide +kernel⟩
abbrev n_law_draws : List Str := ["script", "count", "cells", "found", "mixed", "k", "j", "cell", "again"]
abbrev a_law_draws : List Str := ["script", "count"]
theorem sc_law_draws : FnScope n_law_draws a_law_draws (defScope s_law_draws) := ⟨rfl, rfl, rfl, by decide +kernel, rfl, by decide +kernel, by decide +kernel⟩
abbrev n_law_take : List Str := ["draws", "limit"]
abbrev a_law_take : List Str := ["draws", "limit"]
theorem sc_law_take : FnScope n_law_take a_law_take (defScope s_law_take) := ⟨rfl, rfl, rfl, by decide +kernel, rfl, by decide +kernel, by decide +kernel⟩
abbrev n_law_is_integer : List Str := ["actual"]
abbrev a_law_is_integer : List Str := ["actual"]
theorem sc_law_is_integer : FnScope n_law_is_integer a_law_is_integer (defScope s_law_is_integer) := ⟨rfl, rfl, rfl, by decide +kernel, rfl, by decide +kernel, by decide +kernel⟩
abbrev n_law_world : List Str := ["draws", "most", "facts", "size", "state", "states", "steps", "label", "other", "fact"]
abbrev a_law_world : List Str := ["draws", "most", "facts"]
theorem sc_law_world : FnScope n_law_world a_law_world (defScope s_law_world) := ⟨rfl, rfl, rfl, by decide +kernel, rfl, by decide +kernel, by decide +kernel⟩
abbrev n_law_made : List Str := ["world", "labels", "facts", "state"]
abbrev a_law_made : List Str := ["world", "labels", "facts"]
theorem sc_law_made : FnScope n_law_made a_law_made (defScope s_law_made) := ⟨rfl, rfl, rfl, by decide +kernel, rfl, by decide +kernel, by decide +kernel⟩
abbrev n_law_behind : List Str := ["world", "state", "label", "step"]
abbrev a_law_behind : List Str := ["world", "state", "label"]
theorem sc_law_behind : FnScope n_law_behind a_law_behind (defScope s_law_behind) := ⟨rfl, rfl, rfl, by decide +kernel, rfl, by decide +kernel, by decide +kernel⟩
abbrev n_law_classes : List Str := ["world", "size", "state", "now", "turn", "signs", "behind", "order", "sign", "label", "other"]
abbrev a_law_classes : List Str := ["world"]
theorem sc_law_classes : FnScope n_law_classes a_law_classes (defScope s_law_classes) := ⟨rfl, rfl, rfl, by decide +kernel, rfl, by decide +kernel, by decide +kernel⟩
abbrev n_law_outcome : List Str := ["world"]
abbrev a_law_outcome : List Str := ["world"]
theorem sc_law_outcome : FnScope n_law_outcome a_law_outcome (defScope s_law_outcome) := ⟨rfl, rfl, rfl, by decide +kernel, rfl, by decide +kernel, by decide +kernel⟩
abbrev n_law_attacked : List Str := ["draws", "world", "game", "first", "second", "turn", "step", "side", "label", "end", "here", "there", "answers", "answer"]
abbrev a_law_attacked : List Str := ["draws", "world", "game", "first", "second"]
theorem sc_law_attacked : FnScope n_law_attacked a_law_attacked (defScope s_law_attacked) := ⟨rfl, rfl, rfl, by decide +kernel, rfl, by decide +kernel, by decide +kernel⟩
abbrev n_law_answered : List Str := ["draws", "world", "game", "first", "second", "classes", "turn", "side", "label", "here", "ends", "end", "answer"]
abbrev a_law_answered : List Str := ["draws", "world", "game", "first", "second", "classes"]
theorem sc_law_answered : FnScope n_law_answered a_law_answered (defScope s_law_answered) := ⟨rfl, rfl, rfl, by decide +kernel, rfl, by decide +kernel, by decide +kernel⟩
abbrev n_law : List Str := ["script", "draws", "facts", "world", "game", "classes", "size", "first", "second", "winner", "k"]
abbrev a_law : List Str := ["script"]
theorem sc_law : FnScope n_law a_law (defScope s_law) := ⟨rfl, rfl, rfl, by decide +kernel, rfl, by decide +kernel, by decide +kernel⟩
/-! ### calls -/
def Has (P : Program) (w : World) (K : PySem.W.Frag) (mg : Str → Option Value) (base : Heap) (x : Str) (k : Nat) (ps : List Str) (sp : Sp) : Prop :=
  ∃ f fd, mg x = some (.ref f) ∧ PySem.W.keepIn K (.ref f) = true ∧ Binds K fd ps [] ∧ FnOk P w K mg base CX0 k f fd ps sp
theorem pe_callH {X : Cx} {x : Str} {k : Nat} {ps : List Str} {sp : Sp} {e : Expr} {es : List Expr} {t : TA} {p pos : Pos} (h : Has X.prog X.w X.K X.mg X.base x k ps sp) (hr : Room k X.A) (ha : PA X (e :: es) t) (hg : Gl X x := by rfl)
    (hdb : (x == ("__debug__" : Str)) = false := by decide) (he : starEach (e :: es) X.env = (false, eval e X.env) :: starEach es X.env := by rfl) (hpl : (backTo pos (starEach es X.env)).any (·.1) = false := by rfl) :
    PE X (.Call (.Name x p) (e :: es) [] pos) (tCall sp [] E0 t) := by
  obtain ⟨f, fd, m, kp, b, G⟩ := h
  exact pe_call G hr hg m kp b .nil pass0 ha hdb he hpl
/-- .. of a def that may raise -/
def HasX (P : Program) (w : World) (K : PySem.W.Frag) (mg : Str → Option Value) (base : Heap) (x : Str) (k : Nat) (ps : List Str) (sp : Sp) : Prop :=
  ∃ f fd, mg x = some (.ref f) ∧ PySem.W.keepIn K (.ref f) = true ∧ Binds K fd ps [] ∧ FnOk P w K mg base (L2.CX P w) k f fd ps sp
theorem pe_callX {X : Cx} {W : WX} {x : Str} {k : Nat} {ps : List Str} {sp : Sp} {e : Expr} {es : List Expr} {t : TA} {p pos : Pos} (h : HasX X.prog X.w X.K X.mg X.base x k ps sp) (hr : Room k X.A) (tk : Takes X W) (ha : PA X (e :: es) t) (hg : Gl X x := by rfl)
    (hdb : (x == ("__debug__" : Str)) = false := by decide) (he : starEach (e :: es) X.env = (false, eval e X.env) :: starEach es X.env := by rfl) (hpl : (backTo pos (starEach es X.env)).any (·.1) = false := by rfl) :
    PE X (.Call (.Name x p) (e :: es) [] pos) (tCallS sp (WE W) t) := by
  obtain ⟨f, fd, m, kp, b, G⟩ := h
  exact pe_callS G hr hg m kp b (fun σ => passAt tk σ) ha hdb he hpl
theorem pe_callL {X : Cx} {x : Str} {k : Nat} {ps : List Str} {sp : Sp} {e : Expr} {es : List Expr} {t : TA} {p pos : Pos} (h : HasX X.prog X.w X.K X.mg X.base x k ps sp) (hr : Room k X.A) (ha : PA X (e :: es) t) (hg : Gl X x := by rfl)
    (hdb : (x == ("__debug__" : Str)) = false := by decide) (he : starEach (e :: es) X.env = (false, eval e X.env) :: starEach es X.env := by rfl) (hpl : (backTo pos (starEach es X.env)).any (·.1) = false := by rfl) :
    PE X (.Call (.Name x p) (e :: es) [] pos) (tCall sp [] E0 t) := by
  obtain ⟨f, fd, m, kp, b, G⟩ := h
  exact pe_call G hr hg m kp b .nil passL ha hdb he hpl
theorem pss_when {X : Cx} {sts : List Stmt} {t : TS} {p : Prop} (h : p → PSs X sts t) : PSs X sts (fun D σ H => p ∧ t D σ H) :=
  ⟨fun pins s σ H D I q => (h q.1).run pins s σ H D I q.2⟩
def HasC (P : Program) (w : World) (K : PySem.W.Frag) (mg : Str → Option Value) (base : Heap) (x : Str) (C : Addr) (k : Nat) (ps : List Str) (sp : Sp) : Prop :=
  ∃ f fd, mg x = some (.ref C) ∧ Mk K C f ∧ Binds K fd ps [] ∧ FnOk P w K mg base CX0 k f fd ps sp
theorem pe_makeH {X : Cx} {x : Str} {C : Addr} {k : Nat} {ps : List Str} {sp : Sp} {e : Expr} {es : List Expr} {t : TA} {p pos : Pos} (h : HasC X.prog X.w X.K X.mg X.base x C k ps sp) (hr : Room (k + 1) X.A) (ha : PA X (e :: es) t) (hg : Gl X x := by rfl)
    (hdb : (x == ("__debug__" : Str)) = false := by decide) (he : starEach (e :: es) X.env = (false, eval e X.env) :: starEach es X.env := by rfl) (hpl : (backTo pos (starEach es X.env)).any (·.1) = false := by rfl) :
    PE X (.Call (.Name x p) (e :: es) [] pos) (tMake C sp [] E0 t) := by
  obtain ⟨f, fd, m, M, b, G⟩ := h
  exact pe_make M G hr hg m b .nil pass0 ha hdb he hpl
/-! ### statements in memory -/
def wN (b : Bool) : Str := if b then "true" else "false"
def wT (b : Bool) : Str := if b then "and" else "or"
def wL : Leaf → Str
  | .has => "has"
  | .lacks => "lacks"
  | .var => "var"
def wO : One → Str
  | .some => "some"
  | .all => "all"
  | .least => "least"
  | .most => "most"
def hv : Hd → List V
  | .nul b => [.str (wN b)]
  | .leaf k n => [.str (wL k), .int n]
  | .two b => [.str (wT b)]
  | .one k n => [.str (wO k), .int n]
def hw : Hd → Str
  | .nul b => wN b
  | .leaf k _ => wL k
  | .two b => wT b
  | .one k _ => wO k
inductive IsF (K : PySem.W.Frag) (H : Hp) : V → F → Prop
  | nul {a : Addr} {b : Bool} : SqT K H a (hv (.nul b)) → IsF K H (.ref a) (.nul b)
  | leaf {a : Addr} {k : Leaf} {n : Int} : SqT K H a (hv (.leaf k n)) → IsF K H (.ref a) (.leaf k n)
  | two {a : Addr} {b : Bool} {x y : V} {f g : F} : SqT K H a (hv (.two b) ++ [x, y]) → IsF K H x f → IsF K H y g → IsF K H (.ref a) (.two b f g)
  | one {a : Addr} {k : One} {n : Int} {x : V} {f : F} : SqT K H a (hv (.one k n) ++ [x]) → IsF K H x f → IsF K H (.ref a) (.one k n f)
/-- all but what stands at d is as it was -/
def But (d : Addr) (H H' : Hp) : Prop := ∀ b o, b ≠ d → H b = some o → H' b = some o
theorem Same.but {d : Addr} {H H' : Hp} (s : Same H H') : But d H H' := fun b o _ e => s b o e
theorem But.refl (d : Addr) (H : Hp) : But d H H := fun _ _ _ e => e
theorem But.trans {d : Addr} {H H1 H2 : Hp} (a : But d H H1) (b : But d H1 H2) : But d H H2 := fun c o n e => b c o n (a c o n e)
theorem But.upd {d : Addr} {H : Hp} {o : HO} : But d H (upd H d o) := fun b u n e => by rw [upd_ne n]; exact e
theorem Same.new {H : Hp} {p : Addr} {o : HO} (h : H p = none) : Same H (upd H p o) := fun b u e => by rw [upd_ne (ne_of_none e h)]; exact e
theorem SqT.keepAt {K : PySem.W.Frag} {H H' : Hp} {a : Addr} {xs : List V} (k : ∀ o, H a = some o → H' a = some o) (h : SqT K H a xs) : SqT K H' a xs := by
  rcases h with h | h
  · rcases h with h | ⟨u, h⟩
    · exact .inl (.inl (k _ h))
    · exact .inl (.inr ⟨u, k _ h⟩)
  · exact .inr h
theorem SqL.keepAt {K : PySem.W.Frag} {H H' : Hp} {a : Addr} {xs : List V} (k : ∀ o, H a = some o → H' a = some o) (h : SqL K H a xs) : SqL K H' a xs := by
  rcases h with h | h
  · rcases h with h | ⟨u, h⟩
    · exact .inl (.inl (k _ h))
    · exact .inl (.inr ⟨u, k _ h⟩)
  · exact .inr h
theorem SqT.same {K : PySem.W.Frag} {H H' : Hp} {a : Addr} {xs : List V} (s : Same H H') (h : SqT K H a xs) : SqT K H' a xs := SqT.keepAt (fun o e => s a o e) h
/-- what stands at d is a list: tuples are elsewhere -/
def IsLst (H : Hp) (d : Addr) : Prop := ∃ xs, H d = some (.lst xs)
theorem SqT.but {K : PySem.W.Frag} {H H' : Hp} {a d : Addr} {xs : List V} (hd : IsLst H d) (s : But d H H') (h : SqT K H a xs) : SqT K H' a xs := by
  rcases h with h | h
  · obtain ⟨ys, e⟩ := hd
    rcases h with h | ⟨u, h⟩
    · exact .inl (.inl (s _ _ (ne_of h e (by intro z; cases z)) h))
    · exact .inl (.inr ⟨u, s _ _ (ne_of h e (by intro z; cases z)) h⟩)
  · exact .inr h
theorem IsF.map {K : PySem.W.Frag} {H H' : Hp} (s : ∀ a xs, SqT K H a xs → SqT K H' a xs) {v : V} {t : F} (h : IsF K H v t) : IsF K H' v t := by
  induction h with
  | nul h => exact .nul (s _ _ h)
  | leaf h => exact .leaf (s _ _ h)
  | two h _ _ f g => exact .two (s _ _ h) f g
  | one h _ f => exact .one (s _ _ h) f
theorem IsF.same {K : PySem.W.Frag} {H H' : Hp} (s : Same H H') {v : V} {t : F} (h : IsF K H v t) : IsF K H' v t := h.map fun _ _ => SqT.same s
theorem IsF.but {K : PySem.W.Frag} {H H' : Hp} {d : Addr} (hd : IsLst H d) (s : But d H H') {v : V} {t : F} (h : IsF K H v t) : IsF K H' v t := h.map fun _ _ => SqT.but hd s
inductive AllF (K : PySem.W.Frag) (H : Hp) : List V → List F → Prop
  | nil : AllF K H [] []
  | cons {x : V} {f : F} {xs : List V} {fs : List F} : IsF K H x f → AllF K H xs fs → AllF K H (x :: xs) (f :: fs)
theorem IsF.open {K : PySem.W.Frag} {H : Hp} {v : V} {t : F} (h : IsF K H v t) : ∃ a ks, v = .ref a ∧ SqT K H a (hv t.hd ++ ks) ∧ AllF K H ks t.kids := by
  cases h with
  | nul h => exact ⟨_, [], rfl, by simpa [F.hd] using h, .nil⟩
  | leaf h => exact ⟨_, [], rfl, by simpa [F.hd] using h, .nil⟩
  | two h f g => exact ⟨_, _, rfl, h, .cons f (.cons g .nil)⟩
  | one h f => exact ⟨_, _, rfl, h, .cons f .nil⟩
theorem IsF.close {K : PySem.W.Frag} {H : Hp} {a : Addr} {t : F} {ks : List V} (h : SqT K H a (hv t.hd ++ ks)) (hk : AllF K H ks t.kids) : IsF K H (.ref a) t := by
  cases t with
  | nul b =>
    cases hk
    exact .nul (by simpa [F.hd] using h)
  | leaf k n =>
    cases hk
    exact .leaf (by simpa [F.hd] using h)
  | two b f g =>
    cases hk with
    | cons x hk =>
      cases hk with
      | cons y hk =>
        cases hk
        exact .two h x y
  | one k n f =>
    cases hk with
    | cons x hk =>
      cases hk
      exact .one h x
theorem hv_len (h : Hd) : (hv h).length = 1 ∨ (hv h).length = 2 := by cases h <;> simp [hv]
theorem hv_head (h : Hd) : (hv h)[0]? = some (.str (hw h)) := by cases h <;> rfl
def isTwo : Hd → Bool
  | .two _ => true
  | _ => false
theorem in_joins (h : Hd) : inV (.str (hw h)) [.str "and", .str "or"] = isTwo h := by
  cases h with
  | nul b => cases b <;> rfl
  | leaf k n => cases k <;> rfl
  | two b => cases b <;> rfl
  | one k n => cases k <;> rfl
def isBH : Hd → Bool
  | .one k _ => k.bind
  | _ => false
theorem in_binders (h : Hd) : inV (.str (hw h)) [.str "least", .str "most"] = isBH h := by
  cases h with
  | nul b => cases b <;> rfl
  | leaf k n => cases k <;> rfl
  | two b => cases b <;> rfl
  | one k n => cases k <;> rfl
/-! ### what the top has written -/
structure Txt (K : PySem.W.Frag) (mg : Str → Option Value) (C J B : Addr) : Prop where
  z_all : mg "all" = none
  z_bool : mg "bool" = none
  z_enumerate : mg "enumerate" = none
  z_int : mg "int" = none
  z_isinstance : mg "isinstance" = none
  z_len : mg "len" = none
  z_list : mg "list" = none
  z_range : mg "range" = none
  z_set : mg "set" = none
  z_sorted : mg "sorted" = none
  z_tuple : mg "tuple" = none
  z_zip : mg "zip" = none
/-- what it has written of the class of worlds -/
structure TxtC (K : PySem.W.Frag) (WC : Addr) : Prop where
  cl : Cls K WC
  nL : NoAttr K WC "labels"
  nF : NoAttr K WC "facts"
  nS : NoAttr K WC "states"
  nT : NoAttr K WC "steps"
  nE : NoAttr K WC "_ends"
/-- what it has written of the errors -/
structure TxtE (K : PySem.W.Frag) (mg : Str → Option Value) (NC FE : Addr) : Prop where
  gC : mg "NotClosed" = some (.ref NC)
  gF : mg "FixError" = some (.ref FE)
  xC : PySem.W.excIn K NC [.type "ValueError", .type "Exception", .type "BaseException", .type "object"] "ValueError.__new__" = true
  kC : PySem.W.keepIn K (.ref NC) = true
  bC : PySem.W.subIn K (.ref NC) (.type "BaseException") = some true
  tC : PySem.W.typeIn K (.ref NC) = some (.type "type")
  eC : PySem.W.exmOne K (.ref NC) (.ref NC) = some true
  is : ExcC K NC
  kF : PySem.W.kitOne K (.ref NC) (.ref FE) = some true
  kV : PySem.W.kitOne K (.ref NC) (.type "ValueError") = some true
def pf (h : V) (a : Int) (l : Addr) : List (Str × V) := [("head", h), ("around", .int a), ("inner", .ref l)]
theorem pf_make (h : V) (a : Int) (l : Addr) : putF "inner" (.ref l) (putF "around" (.int a) (putF "head" h [])) = pf h a l := by rfl
theorem join {c : Bool} {A : Prop} {C : Hp → Prop} {G : Hp} (Fa : Hp → Prop) (hr : ∀ G5, Fa G5 → C G5) (h1 : c = true → (∀ G5, Fa G5 → C G5) → A) (h2 : c = false → Fa G) : if c = true then A else C G := by
  cases c with
  | true => exact h1 rfl hr
  | false => exact hr _ (h2 rfl)
end Fw

set_option maxRecDepth 100000
set_option maxHeartbeats 2000000
namespace Fw
open PySem PySem.Spec PyProof.Rows L2
/-! ### parts in memory -/
/-- all but what stands at the addresses of X is as it was -/
def Kp (X : List Addr) (H H' : Hp) : Prop := ∀ b o, b ∉ X → H b = some o → H' b = some o
/-- all but lists is as it was -/
def LKp (H H' : Hp) : Prop := ∀ b o, (∀ xs, o ≠ .lst xs) → H b = some o → H' b = some o
theorem LKp.refl (H : Hp) : LKp H H := fun _ _ _ e => e
theorem LKp.trans {H H1 H2 : Hp} (a : LKp H H1) (b : LKp H1 H2) : LKp H H2 := fun c o n e => b c o n (a c o n e)
theorem LKp.same {H H' : Hp} (s : Same H H') : LKp H H' := fun b o _ e => s b o e
theorem LKp.upd {H : Hp} {d : Addr} {xs : List V} {o : HO} (h : H d = some (.lst xs)) : LKp H (upd H d o) := fun b u n e => by
  rw [upd_ne (ne_of e h (n xs))]
  exact e
theorem SqT.lk {K : PySem.W.Frag} {H H' : Hp} {a : Addr} {xs : List V} (s : LKp H H') (h : SqT K H a xs) : SqT K H' a xs := by
  rcases h with h | h
  · rcases h with h | ⟨u, h⟩
    · exact .inl (.inl (s _ _ (by intro xs z; cases z) h))
    · exact .inl (.inr ⟨u, s _ _ (by intro xs z; cases z) h⟩)
  · exact .inr h
theorem IsF.lk {K : PySem.W.Frag} {H H' : Hp} (s : LKp H H') {v : V} {t : F} (h : IsF K H v t) : IsF K H' v t := h.map fun _ _ => SqT.lk s
theorem AllF.lk {K : PySem.W.Frag} {H H' : Hp} (s : LKp H H') {vs : List V} {ts : List F} (h : AllF K H vs ts) : AllF K H' vs ts := by
  induction h with
  | nil => exact .nil
  | cons a _ ih => exact .cons (a.lk s) ih
theorem AllF.len {K : PySem.W.Frag} {H : Hp} {vs : List V} {ts : List F} (h : AllF K H vs ts) : vs.length = ts.length := by
  induction h with
  | nil => rfl
  | cons _ _ ih => simp [ih]
theorem AllF.get {K : PySem.W.Frag} {H : Hp} {vs : List V} {ts : List F} (h : AllF K H vs ts) : ∀ {m : Nat} {y : V} {f : F}, vs[m]? = some y → ts[m]? = some f → IsF K H y f := by
  induction h with
  | nil => intro m y f e _; cases e
  | cons a _ ih =>
    intro m y f e1 e2
    cases m with
    | zero =>
      cases e1
      cases e2
      exact a
    | succ m => exact ih e1 e2
structure PRec where
  p : Addr
  l : Addr
  dx : Addr
  h : Addr
structure PartIs (K : PySem.W.Frag) (C : Addr) (H : Hp) (pr : PRec) (hd : Hd) (a : Int) (ks : List Nat) : Prop where
  ob : H pr.p = some (.ins C pr.dx (pf (.ref pr.h) a pr.l))
  hd : SqT K H pr.h (hv hd)
  inn : H pr.l = some (.lst (ks.map fun n => V.int (n : Nat)))
def Parts (K : PySem.W.Frag) (C : Addr) (H : Hp) (R : List PRec) (L : List (Hd × Int)) : Prop :=
  R.length = L.length ∧ ∀ i pr hd a, R[i]? = some pr → L[i]? = some (hd, a) → PartIs K C H pr hd a (kidsFrom (L.map (·.2)) 0 i)
def PartsAt (K : PySem.W.Frag) (C : Addr) (H : Hp) (pa : Addr) (L : List (Hd × Int)) : Prop :=
  ∃ R : List PRec, SqL K H pa (R.map fun r => V.ref r.p) ∧ Parts K C H R L
theorem PartIs.same {K : PySem.W.Frag} {C : Addr} {H H' : Hp} {pr : PRec} {hd : Hd} {a : Int} {ks : List Nat} (s : Same H H') (h : PartIs K C H pr hd a ks) : PartIs K C H' pr hd a ks :=
  ⟨s _ _ h.ob, SqT.same s h.hd, s _ _ h.inn⟩
theorem PartsAt.same {K : PySem.W.Frag} {C : Addr} {H H' : Hp} {pa : Addr} {L : List (Hd × Int)} (s : Same H H') (h : PartsAt K C H pa L) : PartsAt K C H' pa L := by
  obtain ⟨R, h1, h2, h3⟩ := h
  exact ⟨R, s.seq h1, h2, fun i pr hd a e1 e2 => (h3 i pr hd a e1 e2).same s⟩
/-- what waits: bottom first in memory, top first in the list -/
inductive SA (K : PySem.W.Frag) (H : Hp) : List V → List (F × Int) → Prop
  | nil : SA K H [] []
  | snoc {ws : List V} {st : List (F × Int)} {q : Addr} {x : V} {t : F} {a : Int} : SA K H ws st → SqT K H q [x, .int a] → IsF K H x t → SA K H (ws ++ [.ref q]) ((t, a) :: st)
theorem SA.lk {K : PySem.W.Frag} {H H' : Hp} (s : LKp H H') {ws : List V} {st : List (F × Int)} (h : SA K H ws st) : SA K H' ws st := by
  induction h with
  | nil => exact .nil
  | snoc _ b c ih => exact .snoc ih (SqT.lk s b) (c.lk s)
theorem SA.len {K : PySem.W.Frag} {H : Hp} {ws : List V} {st : List (F × Int)} (h : SA K H ws st) : ws.length = st.length := by
  induction h with
  | nil => rfl
  | snoc _ _ _ ih => simp [ih]
theorem kids_snoc (L : List (Hd × Int)) (h : Hd) (a : Int) (i : Nat) :
    kidsFrom ((L ++ [(h, a)]).map (·.2)) 0 i = kidsFrom (L.map (·.2)) 0 i ++ if a = (i : Int) then [L.length] else [] := by
  rw [List.map_append, kids_app]
  simp only [List.map_cons, List.map_nil, kidsFrom, Nat.zero_add, List.length_map]
theorem kids_out : ∀ (A : List Int) (j i : Nat), (∀ a ∈ A, a < (i : Int)) → kidsFrom A j i = [] := fun A j i h => kids_none A j i fun a ha => by have := h a ha; omega
theorem Parts.more {K : PySem.W.Frag} {C : Addr} {G G5 : Hp} {R : List PRec} {L : List (Hd × Int)} {n : PRec} {hd : Hd} {a : Int} (PR : Parts K C G R L) (lk : LKp G G5)
    (hin : ∀ i pr, R[i]? = some pr → G5 pr.l = some (.lst ((kidsFrom (L.map (·.2)) 0 i ++ if a = (i : Int) then [L.length] else []).map fun n => V.int (n : Nat))))
    (Lb : ∀ x ∈ L, x.2 < (L.length : Int)) (ha : a < (L.length : Int)) (new : PartIs K C G5 n hd a []) : Parts K C G5 (R ++ [n]) (L ++ [(hd, a)]) := by
  obtain ⟨len, h⟩ := PR
  refine ⟨by simp [len], fun i pr hd' a' e1 e2 => ?_⟩
  rw [kids_snoc]
  by_cases lt : i < R.length
  · rw [List.getElem?_append_left lt] at e1
    rw [List.getElem?_append_left (by omega)] at e2
    have z := h i pr hd' a' e1 e2
    exact ⟨lk _ _ (by intro xs q; cases q) z.ob, SqT.lk lk z.hd, hin i pr e1⟩
  · have ei : i = R.length := by
      have q := (List.getElem?_eq_some_iff.mp e1).1
      rw [List.length_append, List.length_singleton] at q
      omega
    subst ei
    rw [List.getElem?_append_right (Nat.le_refl _), Nat.sub_self] at e1
    rw [List.getElem?_append_right (by omega), len, Nat.sub_self] at e2
    cases e1
    cases e2
    have none : kidsFrom (L.map (·.2)) 0 R.length = [] := by
      refine kids_out _ _ _ fun b hb => ?_
      obtain ⟨x, hx, rfl⟩ := List.mem_map.mp hb
      rw [len]
      exact Lb x hx
    rw [none, if_neg (by rw [len]; omega)]
    exact new
end Fw

set_option maxRecDepth 100000
set_option maxHeartbeats 2000000
namespace Fw
open PySem PySem.Spec PyProof.Rows L2
def Draws (H : Hp) (d : Addr) : Prop := ∃ ds : List Int, H d = some (.lst (ds.map V.int))
theorem Draws.lst {H : Hp} {d : Addr} (h : Draws H d) : IsLst H d := by
  obtain ⟨ds, e⟩ := h
  exact ⟨_, e⟩
theorem fmod_in {a b : Int} (h : 0 < b) : 0 ≤ a.fmod b ∧ a.fmod b < b := by
  rw [Int.fmod_eq_emod_of_nonneg a (Int.le_of_lt h)]
  exact ⟨Int.emod_nonneg a (by omega), Int.emod_lt_of_pos a h⟩
theorem nz1 : (1000 : Int) ≠ 0 := by decide
theorem nz2 : (2147483647 : Int) ≠ 0 := by decide
theorem nz3 : (1000003 : Int) ≠ 0 := by decide
theorem sq_small {m : Int} (h0 : 0 ≤ m) (h1 : m < 2147483647) : -(2 ^ 64) < m ∧ m < 2 ^ 64 := ⟨by omega, by omega⟩
theorem isTup {K : PySem.W.Frag} {H : Hp} {a : Addr} {xs : List V} (h : SqT K H a xs) : TyX K H (.ref a) (.type "tuple") := by
  rcases h with h | ⟨o, _, _, e, c, _⟩
  · rcases h with h | ⟨u, h⟩
    · exact .base (.tup h)
    · exact .fTuple h
  · exact .kTuple e c
theorem IsF.ty {K : PySem.W.Frag} {H : Hp} {v : V} {t : F} (h : IsF K H v t) : TyX K H v (.type "tuple") := by
  obtain ⟨a, ks, rfl, sq, _⟩ := h.open
  exact isTup sq
section
variable {P : Program} {w : World} {K : PySem.W.Frag} {mg : Str → Option Value} {base : Heap} {C J B NC FE : Addr}
/-! ### the law's draws -/
def spDraws (K : PySem.W.Frag) : Sp := fun vs H Q _ => ∃ (a : Addr) (ns : List Int) (c : Int), vs = [.ref a, .int c] ∧ SqL K H a (ns.map V.int) ∧ ns.length ≤ 63 ∧ 0 ≤ c ∧ c ≤ 1000 ∧
  ∀ d H', Same H H' → H d = none → Draws H' d → Q (.ref d) H'
theorem ok_law_draws {f : Addr} {fd : FuncData} (FF : Fun K "_law_draws" "_law_draws" s_law_draws f fd) (T : Txt K mg C J B) : FnOk P w K mg base CX0 1 f fd a_law_draws (spDraws K) := by
  refine FF.ok sc_law_draws (fun vs H Q E h => ?_) (fun cdv A outer s H vs Q E hr h => ?_)
  · obtain ⟨a, ns, c, rfl, _⟩ := h
    rfl
  · obtain ⟨a, ns, c, rfl, hS, hlen, c0, c1, k⟩ := h
    refine ⟨_, (pss_cons (ps_set (i := 2) sc_law_draws.nd rfl (.inl rfl) (pe_callTy call_list_of rfl T.z_list (by decide +kernel) (pa_cons (pv 0) pa_nil)))
      (pss_cons (ps_if (pt_cmpR op_eq (pe_callB call_len_seq rfl T.z_len (by decide +kernel) (pa_cons (pv 2) pa_nil)) pe_int (nomark _)) (pss_one (ps_set (i := 2) sc_law_draws.nd rfl (.inl rfl) (pe_lst (pa_cons pe_int pa_nil)))) pss_nil)
      (pss_cons (ps_set (i := 3) sc_law_draws.nd rfl (.inl rfl) (pe_lst pa_nil))
      (pss_cons (ps_set (i := 4) sc_law_draws.nd rfl (.inl rfl) pe_int)
      (pss_cons (ps_for PassesOwn.never rfl (pi_range1 rfl T.z_range (pa_cons (pv 1) pa_nil)) (pg_name (i := 5) sc_law_draws.nd rfl (.inl rfl)) (pss_cons (ps_set (i := 6) sc_law_draws.nd rfl (.inl rfl) (pe_op op_modN (pv 5) (pe_callB call_len_seq rfl T.z_len (by decide +kernel) (pa_cons (pv 2) pa_nil))))
      (pss_cons (ps_set (i := 7) sc_law_draws.nd rfl (.inl rfl) (pe_ix ix_list (pv 2) (pv 6) (fun _ _ => rfl)))
      (pss_cons (ps_set (i := 4) sc_law_draws.nd rfl (.inl rfl) (pe_op op_modN (pe_callTy call_int1 rfl T.z_int (by decide +kernel) (pa_cons (pe_op op_add (pe_op op_add (pe_op op_add (pe_op op_mul (pv 4) pe_int) (pe_op op_mul (pe_op op_modN (pe_callTy call_int1 rfl T.z_int (by decide +kernel) (pa_cons (pv 7) pa_nil)) pe_int) pe_int)) (pe_op op_mul (pv 5) pe_int)) pe_int) pa_nil)) pe_int))
      (pss_cons (ps_set (i := 8) sc_law_draws.nd rfl (.inl rfl) (pe_op op_modN (pe_callTy call_int1 rfl T.z_int (by decide +kernel) (pa_cons (pe_op op_add (pe_op op_add (pe_op op_mul (pv 4) (pv 4)) (pe_op op_mul pe_int (pv 4))) (pv 5)) pa_nil)) pe_int))
      (pss_one (ps_if (pt_cmpR op_ge (pv 7) (pe_op op_pow pe_int pe_int) (nomark _)) (pss_cons (ps_expr (pe_bm PySem.F.plainAttrs_list PySem.F.slot_list_append PySem.F.type_list_append mt_append (pv 3) (pa_cons (pe_op op_modN (pe_callTy call_int1 rfl T.z_int (by decide +kernel) (pa_cons (pv 7) pa_nil)) pe_int) pa_nil)))
      (pss_one (ps_asg (pe_op op_fdivN (pv 7) pe_int) (pg_sub (pv 2) (pv 6) set_list)))) (pss_one (ps_expr (pe_bm PySem.F.plainAttrs_list PySem.F.slot_list_append PySem.F.type_list_append mt_append (pv 3) (pa_cons (pe_op op_modN (pe_callTy call_int1 rfl T.z_int (by decide +kernel) (pa_cons (pv 8) pa_nil)) pe_int) pa_nil)))))))))))
      (pss_cons (ps_expr (pe_bm0 PySem.F.plainAttrs_list PySem.F.slot_list_reverse PySem.F.type_list_reverse mt_reverse (pv 3)))
      (pss_one (ps_ret (pv 3))))))))), ?_⟩
    refine ⟨.ref a, rfl, a, _, rfl, .inl hS, fun ca hca => ?_⟩
    have s1 := Same.new (o := .lst (ns.map V.int)) hca
    refine ⟨.ref ca, rfl, ca, _, rfl, .inl (SqL.of upd_same), rfl, _, rfl, ?_⟩
    have fresh : H ca = none := hca
    have goal : ∀ (cb : Addr) (cs : List Int) (G0 : Hp), Same H G0 → H cb = none → G0 cb = some (.lst (cs.map V.int)) → cs ≠ [] → cs.length ≤ 63 → True := fun _ _ _ _ _ _ _ _ => trivial
    refine ite2 (fun c => ?_) (fun c => ?_)
    · refine ⟨by show 1 ≤ sizeLine; decide, fun cb hcb => ?_⟩
      have s2 := Same.new (o := .lst [V.int 7]) hcb
      have sG0 := s1.trans s2
      have hcb0 := s1.free hcb
      have gcb : (upd (upd H ca (.lst (ns.map V.int))) cb (.lst [V.int 7])) cb = some (.lst (([7] : List Int).map V.int)) := upd_same
      generalize upd (upd H ca (.lst (ns.map V.int))) cb (.lst [V.int 7]) = G0 at sG0 gcb
      have hne : ([7] : List Int) ≠ [] := by simp
      have hl63 : ([7] : List Int).length ≤ 63 := by decide
      generalize ([7] : List Int) = cs at gcb hne hl63
      clear s2 s1 hca fresh hcb c goal hlen hS
      refine ⟨Nat.zero_le _, fun fa hfa => ?_⟩
      have s3 := Same.new (o := .lst []) hfa
      have hfa0 := sG0.free hfa
      have fcb : fa ≠ cb := fun e => by rw [e, gcb] at hfa; cases hfa
      refine ⟨.int c, rfl, c, rfl, by omega, by omega, ?_⟩
      refine for_range (lo := 0) (n := c.toNat) (fun i σ G => ∃ (cs' ds : List Int) (m : Int) (y5 y6 y7 y8 : Option V), σ = [some (.ref a), some (.int c), some (.ref cb), some (.ref fa), some (.int m), y5, y6, y7, y8] ∧ Same H G ∧
          G cb = some (.lst (cs'.map V.int)) ∧ cs'.length = cs.length ∧ G fa = some (.lst (ds.map V.int)) ∧ ds.length = i ∧ 0 ≤ m ∧ m < 2147483647)
        ⟨cs, [], 12345, none, none, none, none, rfl, sG0.trans s3, s3 _ _ gcb, rfl, upd_same, rfl, by decide, by decide⟩ ?_ ?_
      · rintro i σ G hi ⟨cs', ds, m, y5, y6, y7, y8, rfl, sG, gc, lc, gf, ld, m0, m1⟩
        have hic : (i : Int) < c := by omega
        rw [Int.zero_add]
        have lpos : 0 < cs'.length := by rw [lc]; exact List.length_pos_iff.mpr hne
        have lmap : ((cs'.map V.int).length : Int) = (cs'.length : Int) := by rw [List.length_map]
        -- j = k % len(cells)
        refine ⟨.int (i : Nat), rfl, .ref cb, rfl, cb, _, rfl, .inl (SqL.of gc), _, _, rfl, rfl, by rw [lmap]; omega, ?_⟩
        rw [lmap]
        have hj := fmod_in (a := (i : Int)) (b := (cs'.length : Int)) (by omega)
        obtain ⟨j, hJ⟩ : ∃ j : Nat, (i : Int).fmod (cs'.length : Int) = (j : Int) := ⟨((i : Int).fmod (cs'.length : Int)).toNat, by omega⟩
        rw [hJ] at hj
        have hjl : j < cs'.length := by omega
        obtain ⟨x, hx⟩ : ∃ x, cs'[j]? = some x := ⟨cs'[j], by simp [hjl]⟩
        -- cell = cells[j]
        refine ⟨.ref cb, rfl, _, rfl, cb, _, _, .int x, rfl, rfl, SqL.of gc, by rw [hJ]; exact atI_nat (j := j) (by rw [List.getElem?_map, hx]; rfl), ?_⟩
        -- mixed
        have x3 := fmod_in (a := x) (b := 1000003) (by decide)
        refine ⟨.int m, rfl, m, 48271, rfl, rfl, .inl (sq_small m0 m1), .int x, rfl, .inl ⟨x, rfl, x, 1000003, rfl, rfl, nz3, x.fmod 1000003, 69621, rfl, rfl, .inl ⟨by omega, by omega⟩, _, _, rfl, rfl, .int (i : Nat), rfl, (i : Int), 7919, rfl, rfl, .inl ⟨by omega, by omega⟩, _, _, rfl, rfl, _, 11, rfl, rfl, .inl ⟨_, rfl, _, 2147483647, rfl, rfl, nz2, ?_⟩⟩⟩
        have mm := fmod_in (a := m * 48271 + x.fmod 1000003 * 69621 + (i : Int) * 7919 + 11) (b := 2147483647) (by decide)
        -- again
        refine ⟨_, rfl, _, rfl, _, _, rfl, rfl, .inl (sq_small mm.1 mm.2), _, rfl, 31, _, rfl, rfl, .inl ⟨by decide, by decide⟩, _, _, rfl, rfl, _, rfl, _, _, rfl, rfl, .inl ⟨_, rfl, _, 1000003, rfl, rfl, nz3, ?_⟩⟩
        -- if cell >= 10 ** 18
        refine ⟨.int x, rfl, 10, 18, rfl, rfl, ⟨by decide, by decide, by decide⟩, _, _, rfl, rfl, _, rfl, ite2 (fun _ => ?_) (fun _ => ?_)⟩
        · refine ⟨.ref fa, rfl, .inl ⟨rfl, _, SqL.of gf⟩, .int x, rfl, .inl ⟨x, rfl, x, 1000, rfl, rfl, nz1, fa, _, _, rfl, rfl, gf, by rw [List.length_map]; exact small1000 (by omega), ?_⟩⟩
          have gc2 : (upd G fa (.lst (ds.map V.int ++ [V.int (x.fmod 1000)]))) cb = some (.lst (cs'.map V.int)) := by rw [upd_ne fcb.symm]; exact gc
          refine ⟨.int x, rfl, x, 1000, rfl, rfl, ⟨by decide, by decide⟩, .ref cb, rfl, _, rfl, cb, _, _, j, rfl, rfl, gc2, by rw [hJ]; unfold ixN; rw [if_pos (by omega), if_pos (by rw [List.length_map]; omega), Int.toNat_natCast], ?_⟩
          refine ⟨cs'.set j (x.fdiv 1000), ds ++ [x.fmod 1000], _, _, _, _, _, rfl, fun b o e => ?_, ?_, by rw [List.length_set]; exact lc, ?_, by rw [List.length_append, ld]; rfl, mm.1, mm.2⟩
          · rw [upd_ne (ne_of_none e hcb0), upd_ne (ne_of_none e hfa0)]
            exact sG b o e
          · rw [upd_same, List.map_set]
          · rw [upd_ne fcb, upd_same, List.map_append]
            rfl
        · refine ⟨.ref fa, rfl, .inl ⟨rfl, _, SqL.of gf⟩, _, rfl, .inl ⟨_, rfl, _, 1000, rfl, rfl, nz1, fa, _, _, rfl, rfl, gf, by rw [List.length_map]; exact small1000 (by omega), ?_⟩⟩
          obtain ⟨ag, hag⟩ : ∃ ag : Int, ag = (((m * 48271 + x.fmod 1000003 * 69621 + (i : Int) * 7919 + 11).fmod 2147483647 * (m * 48271 + x.fmod 1000003 * 69621 + (i : Int) * 7919 + 11).fmod 2147483647 + 31 * (m * 48271 + x.fmod 1000003 * 69621 + (i : Int) * 7919 + 11).fmod 2147483647 + (i : Int)).fmod 1000003).fmod 1000 := ⟨_, rfl⟩
          refine ⟨cs', ds ++ [ag], _, _, _, _, _, rfl, fun b o e => ?_, ?_, lc, ?_, by rw [List.length_append, ld]; rfl, mm.1, mm.2⟩
          · rw [upd_ne (ne_of_none e hfa0)]
            exact sG b o e
          · rw [upd_ne fcb.symm]
            exact gc
          · rw [upd_same, List.map_append, hag]
            rfl
      · rintro σ G ⟨cs', ds, m, y5, y6, y7, y8, rfl, sG, gc, lc, gf, ld, m0, m1⟩
        refine ⟨.ref fa, rfl, .inl ⟨rfl, _, SqL.of gf⟩, fa, _, rfl, rfl, gf, .ref fa, rfl, ?_⟩
        refine k fa _ (fun b o e => ?_) hfa0 ⟨ds.reverse, by rw [upd_same, List.map_reverse]⟩
        rw [upd_ne (ne_of_none e hfa0)]
        exact sG b o e
    · have hne : ns ≠ [] := fun e => c (decide_eq_true (by rw [e]; rfl))
      have sG0 := s1
      have hcb0 := fresh
      have gcb : (upd H ca (.lst (ns.map V.int))) ca = some (.lst (ns.map V.int)) := upd_same
      generalize upd H ca (.lst (ns.map V.int)) = G0 at sG0 gcb
      have hl63 := hlen
      clear s1 hca fresh c goal hlen hS
      obtain ⟨cb, ecb⟩ : ∃ cb : Addr, cb = ca := ⟨_, rfl⟩
      obtain ⟨cs, ecs⟩ : ∃ cs : List Int, cs = ns := ⟨_, rfl⟩
      subst ecb
      subst ecs
      refine ⟨Nat.zero_le _, fun fa hfa => ?_⟩
      have s3 := Same.new (o := .lst []) hfa
      have hfa0 := sG0.free hfa
      have fcb : fa ≠ cb := fun e => by rw [e, gcb] at hfa; cases hfa
      refine ⟨.int c, rfl, c, rfl, by omega, by omega, ?_⟩
      refine for_range (lo := 0) (n := c.toNat) (fun i σ G => ∃ (cs' ds : List Int) (m : Int) (y5 y6 y7 y8 : Option V), σ = [some (.ref a), some (.int c), some (.ref cb), some (.ref fa), some (.int m), y5, y6, y7, y8] ∧ Same H G ∧
          G cb = some (.lst (cs'.map V.int)) ∧ cs'.length = cs.length ∧ G fa = some (.lst (ds.map V.int)) ∧ ds.length = i ∧ 0 ≤ m ∧ m < 2147483647)
        ⟨cs, [], 12345, none, none, none, none, rfl, sG0.trans s3, s3 _ _ gcb, rfl, upd_same, rfl, by decide, by decide⟩ ?_ ?_
      · rintro i σ G hi ⟨cs', ds, m, y5, y6, y7, y8, rfl, sG, gc, lc, gf, ld, m0, m1⟩
        have hic : (i : Int) < c := by omega
        rw [Int.zero_add]
        have lpos : 0 < cs'.length := by rw [lc]; exact List.length_pos_iff.mpr hne
        have lmap : ((cs'.map V.int).length : Int) = (cs'.length : Int) := by rw [List.length_map]
        -- j = k % len(cells)
        refine ⟨.int (i : Nat), rfl, .ref cb, rfl, cb, _, rfl, .inl (SqL.of gc), _, _, rfl, rfl, by rw [lmap]; omega, ?_⟩
        rw [lmap]
        have hj := fmod_in (a := (i : Int)) (b := (cs'.length : Int)) (by omega)
        obtain ⟨j, hJ⟩ : ∃ j : Nat, (i : Int).fmod (cs'.length : Int) = (j : Int) := ⟨((i : Int).fmod (cs'.length : Int)).toNat, by omega⟩
        rw [hJ] at hj
        have hjl : j < cs'.length := by omega
        obtain ⟨x, hx⟩ : ∃ x, cs'[j]? = some x := ⟨cs'[j], by simp [hjl]⟩
        -- cell = cells[j]
        refine ⟨.ref cb, rfl, _, rfl, cb, _, _, .int x, rfl, rfl, SqL.of gc, by rw [hJ]; exact atI_nat (j := j) (by rw [List.getElem?_map, hx]; rfl), ?_⟩
        -- mixed
        have x3 := fmod_in (a := x) (b := 1000003) (by decide)
        refine ⟨.int m, rfl, m, 48271, rfl, rfl, .inl (sq_small m0 m1), .int x, rfl, .inl ⟨x, rfl, x, 1000003, rfl, rfl, nz3, x.fmod 1000003, 69621, rfl, rfl, .inl ⟨by omega, by omega⟩, _, _, rfl, rfl, .int (i : Nat), rfl, (i : Int), 7919, rfl, rfl, .inl ⟨by omega, by omega⟩, _, _, rfl, rfl, _, 11, rfl, rfl, .inl ⟨_, rfl, _, 2147483647, rfl, rfl, nz2, ?_⟩⟩⟩
        have mm := fmod_in (a := m * 48271 + x.fmod 1000003 * 69621 + (i : Int) * 7919 + 11) (b := 2147483647) (by decide)
        -- again
        refine ⟨_, rfl, _, rfl, _, _, rfl, rfl, .inl (sq_small mm.1 mm.2), _, rfl, 31, _, rfl, rfl, .inl ⟨by decide, by decide⟩, _, _, rfl, rfl, _, rfl, _, _, rfl, rfl, .inl ⟨_, rfl, _, 1000003, rfl, rfl, nz3, ?_⟩⟩
        -- if cell >= 10 ** 18
        refine ⟨.int x, rfl, 10, 18, rfl, rfl, ⟨by decide, by decide, by decide⟩, _, _, rfl, rfl, _, rfl, ite2 (fun _ => ?_) (fun _ => ?_)⟩
        · refine ⟨.ref fa, rfl, .inl ⟨rfl, _, SqL.of gf⟩, .int x, rfl, .inl ⟨x, rfl, x, 1000, rfl, rfl, nz1, fa, _, _, rfl, rfl, gf, by rw [List.length_map]; exact small1000 (by omega), ?_⟩⟩
          have gc2 : (upd G fa (.lst (ds.map V.int ++ [V.int (x.fmod 1000)]))) cb = some (.lst (cs'.map V.int)) := by rw [upd_ne fcb.symm]; exact gc
          refine ⟨.int x, rfl, x, 1000, rfl, rfl, ⟨by decide, by decide⟩, .ref cb, rfl, _, rfl, cb, _, _, j, rfl, rfl, gc2, by rw [hJ]; unfold ixN; rw [if_pos (by omega), if_pos (by rw [List.length_map]; omega), Int.toNat_natCast], ?_⟩
          refine ⟨cs'.set j (x.fdiv 1000), ds ++ [x.fmod 1000], _, _, _, _, _, rfl, fun b o e => ?_, ?_, by rw [List.length_set]; exact lc, ?_, by rw [List.length_append, ld]; rfl, mm.1, mm.2⟩
          · rw [upd_ne (ne_of_none e hcb0), upd_ne (ne_of_none e hfa0)]
            exact sG b o e
          · rw [upd_same, List.map_set]
          · rw [upd_ne fcb, upd_same, List.map_append]
            rfl
        · refine ⟨.ref fa, rfl, .inl ⟨rfl, _, SqL.of gf⟩, _, rfl, .inl ⟨_, rfl, _, 1000, rfl, rfl, nz1, fa, _, _, rfl, rfl, gf, by rw [List.length_map]; exact small1000 (by omega), ?_⟩⟩
          obtain ⟨ag, hag⟩ : ∃ ag : Int, ag = (((m * 48271 + x.fmod 1000003 * 69621 + (i : Int) * 7919 + 11).fmod 2147483647 * (m * 48271 + x.fmod 1000003 * 69621 + (i : Int) * 7919 + 11).fmod 2147483647 + 31 * (m * 48271 + x.fmod 1000003 * 69621 + (i : Int) * 7919 + 11).fmod 2147483647 + (i : Int)).fmod 1000003).fmod 1000 := ⟨_, rfl⟩
          refine ⟨cs', ds ++ [ag], _, _, _, _, _, rfl, fun b o e => ?_, ?_, lc, ?_, by rw [List.length_append, ld]; rfl, mm.1, mm.2⟩
          · rw [upd_ne (ne_of_none e hfa0)]
            exact sG b o e
          · rw [upd_ne fcb.symm]
            exact gc
          · rw [upd_same, List.map_append, hag]
            rfl
      · rintro σ G ⟨cs', ds, m, y5, y6, y7, y8, rfl, sG, gc, lc, gf, ld, m0, m1⟩
        refine ⟨.ref fa, rfl, .inl ⟨rfl, _, SqL.of gf⟩, fa, _, rfl, rfl, gf, .ref fa, rfl, ?_⟩
        refine k fa _ (fun b o e => ?_) hfa0 ⟨ds.reverse, by rw [upd_same, List.map_reverse]⟩
        rw [upd_ne (ne_of_none e hfa0)]
        exact sG b o e
/-! ### one draw -/
def spTake : Sp := fun vs H Q _ => ∃ (d : Addr) (lim : Int), vs = [.ref d, .int lim] ∧ Draws H d ∧ 0 < lim ∧ ∀ v H', 0 ≤ v → v < lim → But d H H' → Draws H' d → Q (.int v) H'
theorem ok_law_take {f : Addr} {fd : FuncData} (FF : Fun K "_law_take" "_law_take" s_law_take f fd) (T : Txt K mg C J B) : FnOk P w K mg base CX0 1 f fd a_law_take spTake := by
  refine FF.ok sc_law_take (fun vs H Q E h => ?_) (fun cdv A outer s H vs Q E hr h => ?_)
  · obtain ⟨d, lim, rfl, _⟩ := h
    rfl
  · obtain ⟨d, lim, rfl, ⟨ds, hd⟩, hl, k⟩ := h
    refine ⟨_, (pss_cons (ps_if (pt_cmpR op_eq (pe_callB call_len_seq rfl T.z_len (by decide +kernel) (pa_cons (pv 0) pa_nil)) pe_int (nomark _)) (pss_one (ps_ret pe_int)) pss_nil)
      (pss_one (ps_ret (pe_op op_modN (pe_callTy call_int1 rfl T.z_int (by decide +kernel) (pa_cons (pe_bm0 PySem.F.plainAttrs_list PySem.F.slot_list_pop PySem.F.type_list_pop mt_pop (pv 0)) pa_nil)) (pv 1))))), ?_⟩
    refine ⟨.ref d, rfl, d, _, rfl, .inl (SqL.of hd), rfl, _, rfl, ite2 (fun c => ?_) (fun c => ?_)⟩
    · exact k 0 H (Int.le_refl 0) hl (But.refl _ _) ⟨ds, hd⟩
    · have ne : ds ≠ [] := fun e => c (decide_eq_true (by rw [e]; rfl))
      obtain ⟨l, x, rfl⟩ : ∃ l x, ds = l ++ [x] := ⟨ds.dropLast, ds.getLast ne, (List.dropLast_concat_getLast ne).symm⟩
      refine ⟨.ref d, rfl, .inl ⟨rfl, _, SqL.of hd⟩, d, _, .int x, rfl, rfl, hd, by simp, .inl ⟨x, rfl, ?_⟩⟩
      have := fmod_in (a := x) hl
      refine ⟨.int lim, rfl, x, lim, rfl, rfl, by omega, ?_⟩
      refine k _ _ this.1 this.2 (fun b o nb e => by rw [upd_ne nb]; exact e) ⟨l, ?_⟩
      rw [upd_same]
      simp
/-! ### the statements in one -/
def spInner (K : PySem.W.Frag) : Sp := fun vs H Q _ => ∃ (v : V) (t : F), vs = [v] ∧ IsF K H v t ∧ ∀ l ks H', Same H H' → H' l = some (.lst ks) → AllF K H' ks t.kids → Q (.ref l) H'
theorem cut_one (xs : List V) : cutV xs (some 1) none = xs.drop 1 := by
  unfold cutV
  rw [show HT.sIx xs.length 0 (some 1) = min 1 xs.length from HT.sIx_nat _ _ 1, HT.sIx_none]
  rcases Nat.le_total 1 xs.length with h | h
  · rw [Nat.min_eq_left h, List.take_of_length_le (by rw [List.length_drop]; exact Nat.le_refl _)]
  · rw [Nat.min_eq_right h, List.drop_length, List.drop_eq_nil_of_le h]
    simp
end
end Fw

set_option maxRecDepth 100000
set_option maxHeartbeats 2000000
namespace Fw
open PySem PySem.Spec PyProof.Rows L2
theorem iteF_out {A B : Prop} (h : if false = true then A else B) : B := by
  rw [if_neg Bool.false_ne_true] at h
  exact h
theorem iteT_out {A B : Prop} (h : if true = true then A else B) : A := by
  rw [if_pos rfl] at h
  exact h
theorem Draws.but {d : Addr} {H H' : Hp} (s : ∀ o, H d = some o → H' d = some o) (h : Draws H d) : Draws H' d := by
  obtain ⟨ds, e⟩ := h
  exact ⟨ds, s _ e⟩
theorem Draws.same {d : Addr} {H H' : Hp} (s : Same H H') (h : Draws H d) : Draws H' d := h.but fun o e => s d o e
theorem SqL.but {K : PySem.W.Frag} {H H' : Hp} {a d : Addr} {xs : List V} (n : a ≠ d) (s : But d H H') (h : SqL K H a xs) : SqL K H' a xs := SqL.keepAt (fun o e => s a o n e) h
theorem Draws.ne {H : Hp} {d q : Addr} (h : Draws H d) (hq : H q = none) : q ≠ d := fun e => by
  obtain ⟨ds, z⟩ := h
  rw [← e, hq] at z
  cases z
def ofB (b : Bool) : Int := if b = true then 1 else 0
abbrev IL (H : Hp) (a : Addr) (xs : List Int) : Prop := H a = some (.lst (xs.map V.int))
end Fw

set_option maxRecDepth 100000
set_option maxHeartbeats 4000000
namespace Fw
open PySem PySem.Spec PyProof.Rows L2
theorem isB_hdJ (s : F) : isBH s.hd = isB s := by cases s <;> rfl
theorem nv_N : ∀ b : Bool, V.str (wN b) ≠ V.str "var"
  | true => by decide +kernel
  | false => by decide +kernel
theorem nv_T : ∀ b : Bool, V.str (wT b) ≠ V.str "var"
  | true => by decide +kernel
  | false => by decide +kernel
theorem nv_O : ∀ k : One, V.str (wO k) ≠ V.str "var"
  | .some => by decide +kernel
  | .all => by decide +kernel
  | .least => by decide +kernel
  | .most => by decide +kernel
theorem nv_has : V.str (wL .has) ≠ V.str "var" := by decide +kernel
theorem nv_lacks : V.str (wL .lacks) ≠ V.str "var" := by decide +kernel
theorem two_at {α : Type} {x y : α} {v : Int} (h0 : 0 ≤ v) (h2 : v < 2) : ∃ b : Bool, atI [x, y] v = some (if b = true then x else y) := by
  have : v = 0 ∨ v = 1 := by omega
  rcases this with rfl | rfl
  · exact ⟨true, rfl⟩
  · exact ⟨false, rfl⟩
theorem in_ints (x : Int) : ∀ bs : List Int, inV (.int x) (bs.map V.int) = decide (x ∈ bs)
  | [] => by simp [inV]
  | b :: bs => by
    have ih := in_ints x bs
    unfold inV at ih ⊢
    rw [List.map_cons, List.any_cons, ih]
    have e : eqV (V.int b) (V.int x) = decide (x = b) := by
      show _ = _
      by_cases c : x = b
      · subst c
        simp [eqV]
      · simp [eqV, c]
        exact fun q => c q.symm
    rw [e]
    simp
theorem flat_ints (bs : List Int) : (bs.map V.int).all flatV = true := by
  induction bs with
  | nil => rfl
  | cons b bs ih => simpa [flatV] using ih
theorem kid_small {t f : F} (h : f ∈ t.kids) : f.depth + 1 ≤ t.depth ∧ f.size + 1 ≤ t.size := by
  cases t with
  | nul b => cases h
  | leaf k n => cases h
  | two b x y =>
    simp only [F.kids, List.mem_cons, List.not_mem_nil, or_false] at h
    simp only [F.depth, F.size]
    rcases h with rfl | rfl <;> omega
  | one k n x =>
    simp only [F.kids, List.mem_cons, List.not_mem_nil, or_false] at h
    subst h
    simp [F.depth, F.size]
section
variable {P : Program} {w : World} {K : PySem.W.Frag} {mg : Str → Option Value} {base : Heap} {C J B NC FE : Addr}
theorem noneOk {f : Addr} {fd : FuncData} {k : Nat} {ps : List Str} : FnOk P w K mg base CX0 k f fd ps (fun _ _ _ _ => False) :=
  ⟨fun _ _ _ _ h => h.elim, fun _ _ _ _ _ _ _ _ _ _ _ _ _ h => h.elim⟩
end
end Fw

set_option maxRecDepth 100000
set_option maxHeartbeats 4000000
namespace Fw
open PySem PySem.Spec PyProof.Rows L2
/-! ### statements as data -/
def dV : V → PyData
  | .str z => .str z
  | .int i => .int i
  | _ => .none
def dF : F → PyData
  | .nul b => .tuple ((hv (.nul b)).map dV)
  | .leaf k n => .tuple ((hv (.leaf k n)).map dV)
  | .two b f g => .tuple ((hv (.two b)).map dV ++ [dF f, dF g])
  | .one k n f => .tuple ((hv (.one k n)).map dV ++ [dF f])
theorem dp_F {K : PySem.W.Frag} {H : Hp} {v : V} {t : F} (h : IsF K H v t) : Dp K H v (dF t) := by
  induction h with
  | nul h => exact .tup h (.cons (.str _) .nil)
  | leaf h => exact .tup h (.cons (.str _) (.cons (.int _) .nil))
  | two h _ _ f g => exact .tup h (.cons (.str _) (.cons f (.cons g .nil)))
  | one h _ f => exact .tup h (.cons (.str _) (.cons (.int _) (.cons f .nil)))
theorem ok_hw (h : Hd) : PyData.strOk (hw h) = true := by
  cases h with
  | nul b => cases b <;> decide +kernel
  | leaf k n =>
    show PyData.strOk (wL k) = true
    cases k <;> decide +kernel
  | two b => cases b <;> decide +kernel
  | one k n =>
    show PyData.strOk (wO k) = true
    cases k <;> decide +kernel
theorem dF_lay : ∀ t : F, (dF t).canLay0 = true
  | .nul b => by
    have := ok_hw (.nul b)
    simp only [hw] at this
    simp [dF, hv, dV, PyData.canLay0, PyData.canLayAll0, this]
  | .leaf k n => by
    have := ok_hw (.leaf k n)
    simp only [hw] at this
    simp [dF, hv, dV, PyData.canLay0, PyData.canLayAll0, this]
  | .two b f g => by
    have := ok_hw (.two b)
    simp only [hw] at this
    simp [dF, hv, dV, PyData.canLay0, PyData.canLayAll0, this, dF_lay f, dF_lay g]
  | .one k n f => by
    have := ok_hw (.one k n)
    simp only [hw] at this
    simp [dF, hv, dV, PyData.canLay0, PyData.canLayAll0, this, dF_lay f]
theorem dF_depth : ∀ t : F, (dF t).depth ≤ t.depth
  | .nul b => by simp [dF, hv, dV, PyData.depth, PyData.depthAll, F.depth]
  | .leaf k n => by simp [dF, hv, dV, PyData.depth, PyData.depthAll, F.depth]
  | .two b f g => by
    have := dF_depth f
    have := dF_depth g
    simp [dF, hv, dV, PyData.depth, PyData.depthAll, F.depth]
    omega
  | .one k n f => by
    have := dF_depth f
    simp [dF, hv, dV, PyData.depth, PyData.depthAll, F.depth]
    omega
theorem dF_shaped {t : F} (h : t.depth ≤ 64) : SeqAt.shaped (dF t) = true := by
  unfold SeqAt.shaped
  rw [dF_lay, decide_eq_true (Nat.le_trans (dF_depth t) h)]
  rfl
theorem dF_same (t : F) : PyData.eqv (dF t) (dF t) = true := SeqAt.eqv_refl _ (dF_lay t)
theorem dp_ints {K : PySem.W.Frag} {H : Hp} : ∀ ns : List Int, DpAll K H (ns.map V.int) (ns.map PyData.int)
  | [] => .nil
  | n :: ns => .cons (.int n) (dp_ints ns)
theorem ints_lay : ∀ ns : List Int, PyData.canLayAll0 (ns.map PyData.int) = true
  | [] => by simp [PyData.canLayAll0]
  | n :: ns => by simp [PyData.canLayAll0, PyData.canLay0, ints_lay ns]
theorem ints_depth : ∀ ns : List Int, PyData.depthAll (ns.map PyData.int) = 0
  | [] => by simp [PyData.depthAll]
  | n :: ns => by simp [PyData.depthAll, PyData.depth, ints_depth ns]
theorem ints_shaped (ns : List Int) : SeqAt.shaped (.list (ns.map PyData.int)) = true := by
  unfold SeqAt.shaped
  simp [PyData.canLay0, PyData.depth, ints_lay, ints_depth]
theorem ints_same (ns : List Int) : PyData.eqv (.list (ns.map PyData.int)) (.list (ns.map PyData.int)) = true := SeqAt.eqv_refl _ (by simp [PyData.canLay0, ints_lay])
/-- two rising lists of the same members are one -/
theorem rising_one : ∀ {a b : List Int}, a.Pairwise (· < ·) → b.Pairwise (· < ·) → (∀ x, x ∈ a ↔ x ∈ b) → a = b
  | [], [], _, _, _ => rfl
  | [], y :: b, _, _, h => by have := (h y).mpr List.mem_cons_self; cases this
  | x :: a, [], _, _, h => by have := (h x).mp List.mem_cons_self; cases this
  | x :: a, y :: b, ha, hb, h => by
    have ha' := List.pairwise_cons.mp ha
    have hb' := List.pairwise_cons.mp hb
    have e : x = y := by
      rcases List.mem_cons.mp ((h x).mp List.mem_cons_self) with q | q
      · exact q
      · rcases List.mem_cons.mp ((h y).mpr List.mem_cons_self) with r | r
        · exact r.symm
        · have := ha'.1 y r
          have := hb'.1 x q
          omega
    subst e
    congr 1
    refine rising_one ha'.2 hb'.2 fun z => ?_
    constructor
    · intro hz
      rcases List.mem_cons.mp ((h z).mp (List.mem_cons_of_mem _ hz)) with q | q
      · have := ha'.1 z hz
        omega
      · exact q
    · intro hz
      rcases List.mem_cons.mp ((h z).mpr (List.mem_cons_of_mem _ hz)) with q | q
      · have := hb'.1 z hz
        omega
      · exact q
def isOneH : Hd → Bool
  | .one _ _ => true
  | _ => false
theorem in_four (h : Hd) : inV (.str (hw h)) [.str "least", .str "most", .str "some", .str "all"] = isOneH h := by
  cases h with
  | nul b => cases b <;> rfl
  | leaf k n => cases k <;> rfl
  | two b => cases b <;> rfl
  | one k n => cases k <;> rfl
section
variable {P : Program} {w : World} {K : PySem.W.Frag} {mg : Str → Option Value} {base : Heap} {C J B NC FE : Addr}
end
end Fw

namespace Fw
/-! ### opposites -/
def Leaf.opp : Leaf → Leaf
  | .has => .lacks
  | .lacks => .has
  | .var => .var
def One.opp : One → One
  | .some => .all
  | .all => .some
  | .least => .most
  | .most => .least
def opp : F → F
  | .nul b => .nul !b
  | .leaf k n => .leaf k.opp n
  | .two b f g => .two (!b) (opp f) (opp g)
  | .one k n f => .one k.opp n (opp f)
def oppH : Hd → Hd
  | .nul b => .nul !b
  | .leaf k n => .leaf k.opp n
  | .two b => .two !b
  | .one k n => .one k.opp n
theorem opp_hd (t : F) : (opp t).hd = oppH t.hd := by cases t <;> rfl
theorem opp_skel : ∀ t : F, skel (opp t) = skel t
  | .nul _ => rfl
  | .leaf _ _ => rfl
  | .two _ f g => by simp [opp, skel, opp_skel f, opp_skel g]
  | .one _ _ f => by simp [opp, skel, opp_skel f]
theorem opp_size (t : F) : (opp t).size = t.size := same_size (opp_skel t)
theorem opp_depth (t : F) : (opp t).depth = t.depth := by rw [← skel_depth, opp_skel, skel_depth]
theorem opp_opp : ∀ t : F, opp (opp t) = t
  | .nul b => by simp [opp]
  | .leaf k n => by cases k <;> rfl
  | .two b f g => by simp [opp, opp_opp f, opp_opp g]
  | .one k n f => by cases k <;> simp [opp, One.opp, opp_opp f]
theorem bind_opp (k : One) : k.opp.bind = k.bind := by cases k <;> rfl
theorem opp_fv : ∀ t : F, fv (opp t) = fv t
  | .nul _ => rfl
  | .leaf k n => by cases k <;> rfl
  | .two b f g => by simp [opp, fv, opp_fv f, opp_fv g]
  | .one k n f => by simp only [opp, fv, bind_opp, opp_fv f]
theorem opp_closed {t : F} (h : Closed t) : Closed (opp t) := by
  rw [← closed_fv] at h ⊢
  rw [opp_fv, h]
theorem opp_heads : ∀ (t : F) (a : Int) (i : Nat) (st st' : Stk), ((info (opp t) a i st').map fun r => r.sub.hd) = (info t a i st).map fun r => oppH r.sub.hd
  | .nul _, _, _, _, _ => rfl
  | .leaf _ _, _, _, _, _ => rfl
  | .two b f g, a, i, st, st' => by
    simp only [opp, info, List.map_cons, List.map_append, opp_heads f i (i + 1) st st', opp_size, opp_heads g i (i + 1 + f.size) st st']
    rfl
  | .one k n f, a, i, st, st' => by
    simp only [opp, info, List.map_cons, opp_heads f i (i + 1) (if k.bind = true then (n, i) :: st else st)]
    rfl
end Fw

/-! Worlds as the laws draw them, and what is true in them: pure mathematics. -/
namespace Fw
structure Wd where
  facts : List (List Int)
  steps : List (Int × Int × Int)
def Wd.n (W : Wd) : Nat := W.facts.length
def rng (n : Nat) : List Int := (List.range n).map Int.ofNat
theorem rng_get {n i : Nat} (h : i < n) : (rng n)[i]? = some (i : Int) := by
  unfold rng
  rw [List.getElem?_map, List.getElem?_range h]
  rfl
theorem rng_len (n : Nat) : (rng n).length = n := by unfold rng; rw [List.length_map, List.length_range]
theorem rng_mem {n : Nat} {x : Int} : x ∈ rng n ↔ 0 ≤ x ∧ x < n := by
  unfold rng
  rw [List.mem_map]
  constructor
  · rintro ⟨a, h, rfl⟩
    have := List.mem_range.mp h
    exact ⟨Int.natCast_nonneg a, Int.ofNat_lt.mpr this⟩
  · rintro ⟨h1, h2⟩
    exact ⟨x.toNat, List.mem_range.mpr (by omega), Int.toNat_of_nonneg h1⟩
theorem rng_succ (n : Nat) : rng (n + 1) = rng n ++ [(n : Int)] := by
  unfold rng
  rw [List.range_succ, List.map_append]
  rfl
theorem rng_take {n i : Nat} (h : i ≤ n) : (rng n).take i = rng i := by
  unfold rng
  rw [← List.map_take, List.take_range, Nat.min_eq_left h]
/-- the facts of a state -/
def Wd.at (W : Wd) (s : Int) : List Int := (W.facts[s.toNat]?).getD []
def Wd.beh (W : Wd) (s l : Int) : List Int := (W.steps.filter fun p => decide (p.1 = s) && decide (p.2.1 = l)).map fun p => p.2.2
/-- each step leads to a state -/
def Wd.Good (W : Wd) : Prop := ∀ p ∈ W.steps, 0 ≤ p.2.2 ∧ p.2.2 < W.n
def sIn (X : List Int) (s : Int) : Bool := decide (s ∈ X)
def flt (n : Nat) (p : Int → Bool) : List Int := (rng n).filter p
def setE (e : Int → List Int) (x : Int) (X : List Int) : Int → List Int := fun y => if y = x then X else e y
def iter (f : List Int → List Int) : Nat → List Int → List Int
  | 0, X => X
  | k + 1, X => f (iter f k X)
def val (W : Wd) : F → (Int → List Int) → List Int
  | .nul b, _ => if b = true then rng W.n else []
  | .leaf .has n, _ => flt W.n fun s => sIn (W.at s) n
  | .leaf .lacks n, _ => flt W.n fun s => !sIn (W.at s) n
  | .leaf .var x, e => e x
  | .two b f g, e => if b = true then flt W.n (fun s => sIn (val W g e) s && sIn (val W f e) s) else flt W.n (fun s => sIn (val W g e) s || sIn (val W f e) s)
  | .one .some l f, e => flt W.n fun s => decide (0 < (((W.beh s l).filter (sIn (val W f e))).length : Int))
  | .one .all l f, e => flt W.n fun s => decide ((((W.beh s l).filter (fun k => !sIn (val W f e) k)).length : Int) = 0)
  | .one .least x f, e => iter (fun X => val W f (setE e x X)) (W.n + 1) []
  | .one .most x f, e => iter (fun X => val W f (setE e x X)) (W.n + 1) (rng W.n)
/-- the others -/
def co (n : Nat) (X : List Int) : List Int := flt n fun s => !sIn X s
theorem flt_congr {n : Nat} {p q : Int → Bool} (h : ∀ s : Int, 0 ≤ s → s < (n : Int) → p s = q s) : flt n p = flt n q :=
  List.filter_congr fun s hs => h s (rng_mem.mp hs).1 (rng_mem.mp hs).2
theorem sIn_flt {n : Nat} {p : Int → Bool} {s : Int} (h0 : 0 ≤ s) (h1 : s < (n : Int)) : sIn (flt n p) s = p s := by
  unfold sIn flt
  cases e : p s with
  | true => exact decide_eq_true (List.mem_filter.mpr ⟨rng_mem.mpr ⟨h0, h1⟩, e⟩)
  | false => exact decide_eq_false fun h => by rw [(List.mem_filter.mp h).2] at e; cases e
theorem co_flt {n : Nat} {p : Int → Bool} : co n (flt n p) = flt n fun s => !p s := flt_congr fun s h0 h1 => by rw [sIn_flt h0 h1]
theorem sIn_co {n : Nat} {X : List Int} {s : Int} (h0 : 0 ≤ s) (h1 : s < (n : Int)) : sIn (co n X) s = !sIn X s := sIn_flt h0 h1
theorem rng_flt (n : Nat) : rng n = flt n fun _ => true := (List.filter_eq_self.mpr fun _ _ => rfl).symm
theorem co_rng (n : Nat) : co n (rng n) = [] := by
  rw [rng_flt, co_flt]
  exact List.filter_eq_nil_iff.mpr fun _ _ h => by cases h
theorem co_nil (n : Nat) : co n [] = rng n := by
  unfold co
  rw [rng_flt]
  exact flt_congr fun s _ _ => rfl
theorem setE_co {n : Nat} {e : Int → List Int} {x : Int} {X : List Int} : setE (fun y => co n (e y)) x (co n X) = fun y => co n (setE e x X y) := by
  funext y
  unfold setE
  by_cases h : y = x
  · rw [if_pos h, if_pos h]
  · rw [if_neg h, if_neg h]
theorem iter_co {n : Nat} {f g : List Int → List Int} (h : ∀ X, g (co n X) = co n (f X)) : ∀ (k : Nat) (X : List Int), iter g k (co n X) = co n (iter f k X)
  | 0, X => rfl
  | k + 1, X => by
    show g (iter g k (co n X)) = co n (f (iter f k X))
    rw [iter_co h k X, h]
theorem val_opp {W : Wd} (G : W.Good) : ∀ (t : F) (e : Int → List Int), val W (opp t) (fun y => co W.n (e y)) = co W.n (val W t e)
  | .nul b, e => by
    cases b
    · show (if true = true then rng W.n else []) = co W.n (if false = true then rng W.n else [])
      rw [if_pos rfl, if_neg Bool.false_ne_true, co_nil]
    · show (if false = true then rng W.n else []) = co W.n (if true = true then rng W.n else [])
      rw [if_pos rfl, if_neg Bool.false_ne_true, co_rng]
  | .leaf .has n, e => by
    show flt W.n _ = co W.n (flt W.n _)
    rw [co_flt]
  | .leaf .lacks n, e => by
    show flt W.n _ = co W.n (flt W.n _)
    rw [co_flt]
    exact flt_congr fun s _ _ => (Bool.not_not _).symm
  | .leaf .var x, e => rfl
  | .two b f g, e => by
    cases b
    · show (if true = true then _ else _) = co W.n (if false = true then _ else _)
      rw [if_pos rfl, if_neg Bool.false_ne_true, co_flt, val_opp G f e, val_opp G g e]
      exact flt_congr fun s h0 h1 => by rw [sIn_co h0 h1, sIn_co h0 h1, Bool.not_or]
    · show (if false = true then _ else _) = co W.n (if true = true then _ else _)
      rw [if_pos rfl, if_neg Bool.false_ne_true, co_flt, val_opp G f e, val_opp G g e]
      exact flt_congr fun s h0 h1 => by rw [sIn_co h0 h1, sIn_co h0 h1, Bool.not_and]
  | .one .some l f, e => by
    show flt W.n _ = co W.n (flt W.n _)
    rw [co_flt, val_opp G f e]
    refine flt_congr fun s h0 h1 => ?_
    have : (W.beh s l).filter (fun k => !sIn (co W.n (val W f e)) k) = (W.beh s l).filter (sIn (val W f e)) := by
      refine List.filter_congr fun k hk => ?_
      obtain ⟨p, hp, rfl⟩ := List.mem_map.mp hk
      have := G p (List.mem_filter.mp hp).1
      rw [sIn_co this.1 this.2, Bool.not_not]
    rw [this, ← decide_not]
    exact decide_eq_decide.mpr ⟨fun h => by omega, fun h => by omega⟩
  | .one .all l f, e => by
    show flt W.n _ = co W.n (flt W.n _)
    rw [co_flt, val_opp G f e]
    refine flt_congr fun s h0 h1 => ?_
    have : (W.beh s l).filter (sIn (co W.n (val W f e))) = (W.beh s l).filter (fun k => !sIn (val W f e) k) := by
      refine List.filter_congr fun k hk => ?_
      obtain ⟨p, hp, rfl⟩ := List.mem_map.mp hk
      have := G p (List.mem_filter.mp hp).1
      rw [sIn_co this.1 this.2]
    rw [this, ← decide_not]
    exact decide_eq_decide.mpr ⟨fun h => by omega, fun h => by omega⟩
  | .one .least x f, e => by
    show iter (fun X => val W (opp f) (setE (fun y => co W.n (e y)) x X)) (W.n + 1) (rng W.n) = co W.n (iter (fun X => val W f (setE e x X)) (W.n + 1) [])
    rw [← co_nil, iter_co (f := fun X => val W f (setE e x X))]
    exact fun X => by rw [setE_co, val_opp G f]
  | .one .most x f, e => by
    show iter (fun X => val W (opp f) (setE (fun y => co W.n (e y)) x X)) (W.n + 1) [] = co W.n (iter (fun X => val W f (setE e x X)) (W.n + 1) (rng W.n))
    rw [← co_rng W.n, iter_co (f := fun X => val W f (setE e x X))]
    exact fun X => by rw [setE_co, val_opp G f]
/-- all values are ranks of states -/
theorem val_in {W : Wd} : ∀ (t : F) (e : Int → List Int), (∀ x ∈ fv t, (e x).length ≤ W.n) → (val W t e).length ≤ W.n
  | .nul b, e, h => by
    show (if b = true then rng W.n else []).length ≤ _
    split
    · rw [rng_len]; exact Nat.le_refl _
    · exact Nat.zero_le _
  | .leaf .has n, e, h => Nat.le_trans (List.length_filter_le _ _) (by rw [rng_len]; exact Nat.le_refl _)
  | .leaf .lacks n, e, h => Nat.le_trans (List.length_filter_le _ _) (by rw [rng_len]; exact Nat.le_refl _)
  | .leaf .var x, e, h => h x (List.mem_singleton.mpr rfl)
  | .two b f g, e, h => by
    show (if b = true then flt _ _ else flt _ _).length ≤ _
    split <;> exact Nat.le_trans (List.length_filter_le _ _) (by rw [rng_len]; exact Nat.le_refl _)
  | .one .some l f, e, h => Nat.le_trans (List.length_filter_le _ _) (by rw [rng_len]; exact Nat.le_refl _)
  | .one .all l f, e, h => Nat.le_trans (List.length_filter_le _ _) (by rw [rng_len]; exact Nat.le_refl _)
  | .one .least x f, e, h => iter_in (fun X hX => val_in f _ fun y hy => setE_in (fv_one rfl) h hX y hy) _ _ (Nat.zero_le _)
  | .one .most x f, e, h => iter_in (fun X hX => val_in f _ fun y hy => setE_in (fv_one rfl) h hX y hy) _ _ (by rw [rng_len]; exact Nat.le_refl _)
where
  iter_in {n : Nat} {f : List Int → List Int} (hf : ∀ X, X.length ≤ n → (f X).length ≤ n) : ∀ (k : Nat) (X : List Int), X.length ≤ n → (iter f k X).length ≤ n
    | 0, X, h => h
    | k + 1, X, h => hf _ (iter_in hf k X h)
  fv_one {k : One} {x : Int} {f : F} (hk : k.bind = true) : ∀ y ∈ fv f, y ≠ x → y ∈ fv (.one k x f) := fun y hy hn => by
    simp only [fv, if_pos hk, List.mem_filter, decide_eq_true_eq]
    exact ⟨hy, hn⟩
  setE_in {n : Nat} {e : Int → List Int} {x : Int} {X : List Int} {A B : List Int} (hs : ∀ y ∈ A, y ≠ x → y ∈ B) (h : ∀ y ∈ B, (e y).length ≤ n) (hX : X.length ≤ n) : ∀ y ∈ A, (setE e x X y).length ≤ n := fun y hy => by
    unfold setE
    by_cases c : y = x
    · rw [if_pos c]; exact hX
    · rw [if_neg c]; exact h y (hs y hy c)
end Fw

set_option maxRecDepth 100000
set_option maxHeartbeats 4000000
/-! all of a generator expression over zip of two lists or two tuples. -/
namespace Fw
open PySem PySem.Spec PyProof.Rows L2 GxR
theorem walksU_zipL {prog : Program} {w : World} {A : Around} (hh : A.handled = none) {z TI TO i1 i2 l1 l2 : Addr} (D : ZipApart z TI TO i1 i2 l1 l2) (xs ys : Array Value) :
    WalksU prog w A z [z, TI, TO, i1, i2, l1, l2] [z, TO, i1, i2] (min xs.size ys.size)
      (fun i vals => ∃ x y, xs[i]? = some x ∧ ys[i]? = some y ∧ vals = #[x, y])
      (fun i h => IsZip h z TI TO .none ∧ IsPair h TI (.ref i1) (.ref i2) ∧ (∃ a b, IsPair h TO a b) ∧ h.IsListIter i1 l1 i ∧ h.IsListIter i2 l2 i ∧ h.IsList l1 xs ∧ h.IsList l2 ys)
      (fun i T h => IsZip h z TI TO (rawInt T) ∧ IsPair h TI (.ref i1) (.ref i2) ∧ (∃ a b, IsPair h TO a b) ∧ h.IsListIter i1 l1 (i + 1) ∧ h.IsListIter i2 l2 (i + 1) ∧ h.IsList l1 xs ∧ h.IsList l2 ys ∧
        T ≠ z ∧ T ≠ TO ∧ T ≠ i1 ∧ T ≠ i2) := (WalksT.zip2 hh z TI TO i1 i2 l1 l2 D xs ys).toU
theorem isTuple_at {h h' : Heap} {a : Addr} {xs : Array Value} (x : h.IsTuple a xs) (k : ∀ o, h.get? a = some o → h'.get? a = some o) : h'.IsTuple a xs := let ⟨o, e, r⟩ := x; ⟨o, k o e, r⟩
theorem walksU_zipT {prog : Program} {w : World} {A : Around} (hh : A.handled = none) {z TI TO i1 i2 l1 l2 : Addr} (D : ZipApart z TI TO i1 i2 l1 l2) (xs ys : Array Value) :
    WalksU prog w A z [z, TI, TO, i1, i2, l1, l2] [z, TO, i1, i2] (min xs.size ys.size)
      (fun i vals => ∃ x y, xs[i]? = some x ∧ ys[i]? = some y ∧ vals = #[x, y])
      (fun i h => IsZip h z TI TO .none ∧ IsPair h TI (.ref i1) (.ref i2) ∧ (∃ a b, IsPair h TO a b) ∧ h.IsTupleIter i1 l1 i ∧ h.IsTupleIter i2 l2 i ∧ h.IsTuple l1 xs ∧ h.IsTuple l2 ys)
      (fun i T h => IsZip h z TI TO (rawInt T) ∧ IsPair h TI (.ref i1) (.ref i2) ∧ (∃ a b, IsPair h TO a b) ∧ h.IsTupleIter i1 l1 (i + 1) ∧ h.IsTupleIter i2 l2 (i + 1) ∧ h.IsTuple l1 xs ∧ h.IsTuple l2 ys ∧
        T ≠ z ∧ T ≠ TO ∧ T ≠ i1 ∧ T ≠ i2) where
  sub := fun c hc => by simp at hc ⊢; rcases hc with rfl | rfl | rfl | rfl <;> simp
  frame := fun i h h' hst hk => by
    obtain ⟨hz, hTI, ⟨a, b, hTO⟩, h1, h2, hl1, hl2⟩ := hst
    exact ⟨hk z (by simp) _ hz, hk TI (by simp) _ hTI, ⟨a, b, hk TO (by simp) _ hTO⟩, h1.at fun o e => hk i1 (by simp) o e, h2.at fun o e => hk i2 (by simp) o e,
      isTuple_at hl1 fun o e => hk l1 (by simp) o e, isTuple_at hl2 fun o e => hk l2 (by simp) o e⟩
  item := fun i s Q E hi hst hQ => by
    obtain ⟨hz, hTI, ⟨a, b, hTO⟩, h1, h2, hl1, hl2⟩ := hst
    have hix : i < xs.size := Nat.lt_of_lt_of_le hi (Nat.min_le_left ..)
    have hiy : i < ys.size := Nat.lt_of_lt_of_le hi (Nat.min_le_right ..)
    refine RZ.pyNext_zipT_item D hz hTI hTO h1 h2 hl1 hl2 (Array.getElem?_eq_getElem hix) (Array.getElem?_eq_getElem hiy) fun h' a1 a2 a3 a4 a5 a6 hk => ?_
    have lt : ∀ {c o}, s.heap.get? c = some o → s.heap.objs.size ≠ c := fun e => Nat.ne_of_gt (Heap.lt_size e)
    exact hQ s.heap.objs.size #[xs[i], ys[i]] h' s.toks ⟨_, _, Array.getElem?_eq_getElem hix, Array.getElem?_eq_getElem hiy, rfl⟩ ⟨_, a5, rfl, _, rfl⟩
      ⟨a1, hk _ _ D.TIz D.TITO D.TIi1 D.TIi2 hTI, ⟨_, _, a2⟩, a3, a4, isTuple_at hl1 fun o e => hk _ o D.l1z D.l1TO D.l1i1 D.l1i2 e, isTuple_at hl2 fun o e => hk _ o D.l2z D.l2TO D.l2i1 D.l2i2 e,
        lt hz, lt hTO, (by obtain ⟨_, e, _⟩ := h1; exact lt e), (by obtain ⟨_, e, _⟩ := h2; exact lt e)⟩
      fun c o hc e => hk c o (fun x => hc (by simp [x])) (fun x => hc (by simp [x])) (fun x => hc (by simp [x])) (fun x => hc (by simp [x])) e
  go := fun elts k pos i T s Q E hm hQ => by
    obtain ⟨hz, hTI, ⟨a, b, hTO⟩, h1, h2, hl1, hl2, _⟩ := hm
    refine wpAny_letOwnedTupleGo_zip hz fun h' hz' hs' => hQ h' ⟨hz', hs'.extBut _ _ D.TIz hTI, ⟨a, b, hs'.extBut _ _ D.TOz hTO⟩, h1.at fun o e => hs'.extBut _ _ D.i1z e, h2.at fun o e => hs'.extBut _ _ D.i2z e,
      isTuple_at hl1 fun o e => hs'.extBut _ _ D.l1z e, isTuple_at hl2 fun o e => hs'.extBut _ _ D.l2z e⟩ fun c o hc e => hs'.extBut _ _ (fun x => hc (by simp [x])) e
  apart := fun i T h hm hT => by
    obtain ⟨_, _, _, _, _, _, _, t1, t2, t3, t4⟩ := hm
    simp at hT
    rcases hT with rfl | rfl | rfl | rfl
    · exact t1 rfl
    · exact t2 rfl
    · exact t3 rfl
    · exact t4 rfl
  done := fun s Q E hst hQ => by
    obtain ⟨hz, hTI, ⟨a, b, hTO⟩, h1, h2, hl1, hl2⟩ := hst
    have hend : xs[min xs.size ys.size]? = none ∨ ys[min xs.size ys.size]? = none := by
      rcases Nat.le_total xs.size ys.size with h | h
      · exact .inl (by rw [Nat.min_eq_left h]; exact Array.getElem?_eq_none (Nat.le_refl _))
      · exact .inr (by rw [Nat.min_eq_right h]; exact Array.getElem?_eq_none (Nat.le_refl _))
    exact RZ.pyNext_zipT_end hh D hz hTI hTO h1 h2 hl1 hl2 hend fun h' hk => hQ h' s.toks fun c o hc e =>
      hk c o (fun x => hc (by simp [x])) (fun x => hc (by simp [x])) (fun x => hc (by simp [x])) (fun x => hc (by simp [x])) e
  self := fun i s Q E hst hQ => wpAny_pyIter_zip hst.1 hQ
theorem vals_get : ∀ {xs : List V} {us : List Value} {j : Nat} {u : Value}, Vals xs us → us[j]? = some u → ∃ x, xs[j]? = some x ∧ RelV x u
  | _, _, 0, _, .cons r _, e => by
    simp at e
    subst e
    exact ⟨_, rfl, r⟩
  | _, _, j + 1, _, .cons _ rr, e => by
    simp at e
    obtain ⟨x, hx, r⟩ := vals_get rr e
    exact ⟨x, by simpa using hx, r⟩
/-- the generator expression's own scope, two names -/
structure GenS2 (env : Env) (scope : Scope) (xa xb : Str) : Prop where
  kind : scope.kind = .function
  co : scope.isCoroutine = false
  cell : ∀ y ∈ scope.names, y.2 ≠ .cell
  dot : scope.names.lookup (".0" : Str) = some NameKind.local
  la : scope.names.lookup xa = some .local
  lb : scope.names.lookup xb = some .local
  free : ∀ y ∈ scope.names, y.2 = .free → ∃ c, env.cells.lookup y.1 = some c
/-- the element at two values: a test whose outcome is r -/
def EltZ (prog : Program) (w : World) (scope : Scope) (xa xb : Str) (elt : Expr) (U : Nat) (hb : Heap) (P : Addr) (x y : V) (r : Bool) : Prop :=
  ∀ (cenv : Env) (A' : Around) (E' : Value → Shared → Prop) (va vb : Value) (s₂ : Shared) (m₂ : Str → Option Value), cenv.scope = scope → A'.units ≤ U → s₂.heap.Ns cenv.locals m₂ → m₂ xa = some va → m₂ xb = some vb → RelV x va → RelV y vb →
    (∀ b o, b ≠ P → hb.get? b = some o → s₂.heap.get? b = some o) → wpAny (model prog w) A' (eval elt cenv) (fun v s₃ => v = .bool r ∧ Keeps s₂ s₃) E' s₂
def ReadyZ (X : Cx) (pins : List (Addr × Obj)) (σ : L2.St) (H1 : Hp) (P : Addr) (rs : List Bool) (g : Addr) (s5 : Shared) : Prop :=
  ∃ (fp wr : List Addr) (G : Array GenState → Array GenState → Prop) (n : Nat) (F : Nat → Value → Prop) (St : Nat → Shared → Prop),
    n = rs.length ∧ WalksS X.prog X.w X.A.in1 g fp wr G n F St ∧ St 0 s5 ∧
    TruthOf X.prog X.w X.A.in1 F (fun j => (rs[j]?).getD false) ∧
    ∀ s', Moved wr G s5 s' → ∃ H2, Tabbed P H1 H2 ∧ Inv X pins σ H2 s'
section
variable {X : Cx} {pins : List (Addr × Obj)} {σ : L2.St} {H : Hp} {s : Shared}
/-- what the test does at each pair, in any heap like H1 -/
def EltsZ (X : Cx) (scope : Scope) (xa xb : Str) (elt : Expr) (P : Addr) (H1 : Hp) (xs ys : List V) (rs : List Bool) : Prop :=
  rs.length = min xs.length ys.length ∧ ∀ (s : Shared) (pins : List (Addr × Obj)) (σ : L2.St), Inv X pins σ H1 s → ∀ (i : Nat) (x y : V) (r : Bool), xs[i]? = some x → ys[i]? = some y → rs[i]? = some r → EltZ X.prog X.w scope xa xb elt (X.A.units + 8) s.heap P x y r
theorem gen_zip {c P : Addr} {elt e e2 : Expr} {xa xb : Str} {pa pb pt pz cpos gpos : Pos} {kt : Nat} {scope : Scope} {ta : TA} {k : Nat} {Q' : Value → Shared → Prop} {R : List Bool → Hp → Prop}
    (hr : Room k X.A) (TB : TabB X.base X.mg c P) (hcode : X.env.code = .ref c) (S : GenS2 X.env scope xa xb) (hab : xa ≠ xb) (hg : Gl X "zip") (hm : X.mg "zip" = none) (ha : PA X [e, e2] ta)
    (hse : starEach [e, e2] X.env = (false, eval e X.env) :: starEach [e2] X.env) (hpl : (backTo cpos (starEach [e2] X.env)).any (·.1) = false)
    (hs : ∀ v, genFold (.Call (.Name "zip" pz) [e, e2] [] cpos) X.env v = pure v) (I : Inv X pins σ H s)
    (h : ta σ H fun vs H1 => ∃ a b xs ys rs, vs = [.ref a, .ref b] ∧ ((SqL X.K H1 a xs ∧ SqL X.K H1 b ys) ∨ (SqT X.K H1 a xs ∧ SqT X.K H1 b ys)) ∧ TabG H1 P ∧ EltsZ X scope xa xb elt P H1 xs ys rs ∧ R rs H1)
    (hQ : ∀ rs H1 g s5, R rs H1 → ReadyZ X pins σ H1 P rs g s5 → Q' (.ref g) s5) :
    wpAny (model X.prog X.w) X.A (eval (.GeneratorExp elt [⟨.Tuple [.Name xa pa, .Name xb pb] kt pt, .Call (.Name "zip" pz) [e, e2] [] cpos, [], 0⟩] scope gpos) X.env) Q' X.xe s := by
  refine wpAny_GeneratorExp_walksQTD hr.hd S.co (closure_ok S.free) S.cell S.dot S.la S.lb hab S.kind (by have := hr.dp; omega) ?_ hs
  refine Call_ (ld_blt I hg hm PyProof.Rows.boot_zip (PyProof.Rows.callWith_type1 (thn (ha.run cpos pins s σ H _ I h) fun us s1 ⟨vs, H1, I1, r1, q1⟩ => ?_) hse hpl))
  obtain ⟨a, b, xs, ys, rs, ex, hab2, ⟨ps, hP, ht⟩, ⟨hlen, hel⟩, q1⟩ := q1
  subst ex
  cases r1 with
  | cons r rr =>
  cases rr with
  | cons r' rr =>
  cases rr
  cases r
  cases r'
  have hPs : s1.heap.get? P = some { cls := .none, data := .fields ps } := I1.hok P _ hP
  have hPlt : P < s1.heap.objs.size := Heap.lt_size hPs
  -- from the zip object on, over lists or over tuples
  have go : ∀ (h' : Heap) (its its2 : List Value) (St₀ : Nat → Heap → Prop) (Mid : Nat → Addr → Heap → Prop), Vals xs its → Vals ys its2 → (∀ c o, s1.heap.get? c = some o → h'.get? c = some o) → h'.objs.size = s1.heap.objs.size + 5 →
      a < s1.heap.objs.size → b < s1.heap.objs.size → a ≠ P → b ≠ P →
      (∀ A' : Around, A'.handled = none → WalksU X.prog X.w A' (s1.heap.objs.size + 4) [s1.heap.objs.size + 4, s1.heap.objs.size + 2, s1.heap.objs.size + 3, s1.heap.objs.size, s1.heap.objs.size + 1, a, b] [s1.heap.objs.size + 4, s1.heap.objs.size + 3, s1.heap.objs.size, s1.heap.objs.size + 1] (min its.toArray.size its2.toArray.size)
        (fun i vals => ∃ x y, its.toArray[i]? = some x ∧ its2.toArray[i]? = some y ∧ vals = #[x, y]) St₀ Mid) → St₀ 0 h' →
      { s1 with heap := h' }.heap.NoLimit ∧
      wpAny (model X.prog X.w) X.A (genexprCode X.env gpos (X.env.qual ++ "<genexpr>") scope) (fun code s₃ => wpAny (model X.prog X.w) X.A (builtinsFor X.env.globals X.env.builtins) (fun bi s₄ =>
        ∃ Ia fp wr n₀ Pt St₀ Mid pz F, Value.ref (s1.heap.objs.size + 4) = .ref Ia ∧ (∀ A' : Around, A'.handled = none → WalksU X.prog X.w A' Ia fp wr n₀ Pt St₀ Mid) ∧ (∀ i vals, Pt i vals → ∃ va vb, vals = #[va, vb]) ∧ St₀ 0 s₄.heap ∧ (∀ b ∈ fp, b < s₄.heap.objs.size) ∧ s₄.heap.NoLimit ∧ cStatics ∉ wr ∧
          (∀ href : Heap, (∀ b o, s₄.heap.get? b = some o → href.get? b = some o) →
            QuietGenTD X.prog X.w (genEnv scope (cloFrom X.env.cells scope.names []) s₄.heap.objs.size code bi X.env) xa xb [] elt (List.range s₄.heap.objs.size) wr Pt pz F href (X.A.depth + 1) (X.A.units + 8)) ∧
          (∀ a h₅ tk gs, gs.bare = true → s₄.heap.objs.size < a → h₅.objs.size = a + 1 → (∀ b o, s₄.heap.get? b = some o → h₅.get? b = some o) →
            WalksS X.prog X.w X.A.in4 a (a :: s₄.heap.objs.size :: List.range s₄.heap.objs.size) (s₄.heap.objs.size :: wr) (GenOnlyQ s₄.gens.size) (passing pz n₀ 0).length
              (fun j y => ∃ i, (passing pz n₀ 0)[j]? = some i ∧ F i y) (GenAt X.prog X.w X.A.in4 a s₄.gens.size s₄.heap.objs.size (List.range s₄.heap.objs.size) wr pz n₀ F) →
            GenAt X.prog X.w X.A.in4 a s₄.gens.size s₄.heap.objs.size (List.range s₄.heap.objs.size) wr pz n₀ F 0 { s₄ with gens := s₄.gens.push gs, toks := tk, heap := h₅ } →
            Q' (.ref a) { s₄ with gens := s₄.gens.push gs, toks := tk, heap := h₅ })) X.xe s₃) X.xe { s1 with heap := h' } := by
    intro h' its its2 St Mid rv rv2 hk hsz' la lb aP bP W hst
    have l1 := rv.length
    have l2 := rv2.length
    have hP2 : h'.get? P = some { cls := .none, data := .fields ps } := hk _ _ hPs
    have cd : PySem.W.CodeHd h' c P := TB.code.keeps fun b u e => hk _ _ (I1.bk b u e)
    have lim2 : h'.NoLimit := I1.nolimit.keeps hk
    have cont : ∀ (code : Value) (h3 : Heap) (tk : Nat) (ps' : Array Value), Heap.ExtBut P h' h3 → h'.objs.size ≤ h3.objs.size → h3.get? P = some { cls := .none, data := .fields ps' } → (∃ more, ps' = ps ++ more) → TriplesOk ps'.toList →
        wpAny (model X.prog X.w) X.A (builtinsFor X.env.globals X.env.builtins) (fun bi s₄ =>
          ∃ Ia fp wr n₀ Pt St₀ Mid pz F, Value.ref (s1.heap.objs.size + 4) = .ref Ia ∧ (∀ A' : Around, A'.handled = none → WalksU X.prog X.w A' Ia fp wr n₀ Pt St₀ Mid) ∧ (∀ i vals, Pt i vals → ∃ va vb, vals = #[va, vb]) ∧ St₀ 0 s₄.heap ∧ (∀ b ∈ fp, b < s₄.heap.objs.size) ∧ s₄.heap.NoLimit ∧ cStatics ∉ wr ∧
          (∀ href : Heap, (∀ b o, s₄.heap.get? b = some o → href.get? b = some o) →
            QuietGenTD X.prog X.w (genEnv scope (cloFrom X.env.cells scope.names []) s₄.heap.objs.size code bi X.env) xa xb [] elt (List.range s₄.heap.objs.size) wr Pt pz F href (X.A.depth + 1) (X.A.units + 8)) ∧
          (∀ a h₅ tk gs, gs.bare = true → s₄.heap.objs.size < a → h₅.objs.size = a + 1 → (∀ b o, s₄.heap.get? b = some o → h₅.get? b = some o) →
            WalksS X.prog X.w X.A.in4 a (a :: s₄.heap.objs.size :: List.range s₄.heap.objs.size) (s₄.heap.objs.size :: wr) (GenOnlyQ s₄.gens.size) (passing pz n₀ 0).length
              (fun j y => ∃ i, (passing pz n₀ 0)[j]? = some i ∧ F i y) (GenAt X.prog X.w X.A.in4 a s₄.gens.size s₄.heap.objs.size (List.range s₄.heap.objs.size) wr pz n₀ F) →
            GenAt X.prog X.w X.A.in4 a s₄.gens.size s₄.heap.objs.size (List.range s₄.heap.objs.size) wr pz n₀ F 0 { s₄ with gens := s₄.gens.push gs, toks := tk, heap := h₅ } →
            Q' (.ref a) { s₄ with gens := s₄.gens.push gs, toks := tk, heap := h₅ })) X.xe { s1 with heap := h3, toks := tk } := by
      intro code h3 tk ps' hx hsz hP3 hmore ht3
      obtain ⟨bm, ob, e1, e2, e3, e4, e5, e6, e7, e8⟩ := TB.bm
      have hcP : cStatics ≠ P := fun e => by
        obtain ⟨_, hns, _⟩ := I1.nolimit
        obtain ⟨o', es, ep, ho, hd, _⟩ := hns
        rw [e, hPs] at ho
        cases ho
        cases hd
      have hcl : cStatics < s1.heap.objs.size := let ⟨_, hns, _⟩ := I1.nolimit; hns.lt
      have keep3 : ∀ b u, b ≠ P → s1.heap.get? b = some u → h3.get? b = some u := fun b u hb e => hx b u hb (hk _ _ e)
      refine wpAny_builtinsFor (m := X.mg) (by rw [I1.ok.glob]; exact ((I1.mod.glob.keeps I1.bk).keeps hk).extBut hx TB.gP) e1 e2 (keep3 _ _ e4 (I1.bk _ _ e5)) e6 e7 e8 ?_
      refine ⟨s1.heap.objs.size + 4, _, _, _, _, St, Mid, (fun _ => true), (fun i y => ∃ r, rs[i]? = some r ∧ y = .bool r), rfl, W, ?_, ?_, ?_, lim2.extBut hx hcP, ?_, ?_, ?_⟩
      · rintro i vals ⟨x, y, _, _, e⟩
        exact ⟨x, y, e⟩
      · refine (W X.A hr.hd).frame _ _ _ hst fun b' hb u e => hx b' u (fun z => ?_) e
        have : b' = s1.heap.objs.size + 4 ∨ b' = s1.heap.objs.size + 2 ∨ b' = s1.heap.objs.size + 3 ∨ b' = s1.heap.objs.size ∨ b' = s1.heap.objs.size + 1 ∨ b' = a ∨ b' = b := by simpa using hb
        rw [z] at this
        rcases this with q | q | q | q | q | q | q
        · exact absurd hPlt (by rw [q]; exact Nat.not_lt.mpr (Nat.le_add_right _ _))
        · exact absurd hPlt (by rw [q]; exact Nat.not_lt.mpr (Nat.le_add_right _ _))
        · exact absurd hPlt (by rw [q]; exact Nat.not_lt.mpr (Nat.le_add_right _ _))
        · exact absurd hPlt (by rw [q]; exact Nat.lt_irrefl _)
        · exact absurd hPlt (by rw [q]; exact Nat.not_lt.mpr (Nat.le_add_right _ _))
        · exact aP q.symm
        · exact bP q.symm
      · intro b' hb
        show b' < h3.objs.size
        have : b' = s1.heap.objs.size + 4 ∨ b' = s1.heap.objs.size + 2 ∨ b' = s1.heap.objs.size + 3 ∨ b' = s1.heap.objs.size ∨ b' = s1.heap.objs.size + 1 ∨ b' = a ∨ b' = b := by simpa using hb
        refine Nat.lt_of_lt_of_le ?_ (Nat.le_trans (Nat.le_of_eq hsz'.symm) hsz)
        rcases this with q | q | q | q | q | q | q
        · rw [q]; exact Nat.add_lt_add_left (by decide) _
        · rw [q]; exact Nat.add_lt_add_left (by decide) _
        · rw [q]; exact Nat.add_lt_add_left (by decide) _
        · rw [q]; exact Nat.lt_add_of_pos_right (by decide)
        · rw [q]; exact Nat.add_lt_add_left (by decide) _
        · rw [q]; exact Nat.lt_of_lt_of_le la (Nat.le_add_right _ _)
        · rw [q]; exact Nat.lt_of_lt_of_le lb (Nat.le_add_right _ _)
      · intro z
        have : cStatics = s1.heap.objs.size + 4 ∨ cStatics = s1.heap.objs.size + 3 ∨ cStatics = s1.heap.objs.size ∨ cStatics = s1.heap.objs.size + 1 := by simpa using z
        rcases this with q | q | q | q
        · exact absurd hcl (by rw [q]; exact Nat.not_lt.mpr (Nat.le_add_right _ _))
        · exact absurd hcl (by rw [q]; exact Nat.not_lt.mpr (Nat.le_add_right _ _))
        · exact absurd hcl (by rw [q]; exact Nat.lt_irrefl _)
        · exact absurd hcl (by rw [q]; exact Nat.not_lt.mpr (Nat.le_add_right _ _))
      · intro href hhref
        refine ⟨fun A' E' i va vb s₂ m₂ hA _ _ hPv hn hma hmb hkk => ?_, fun A' E' i va vb s₂ m₂ hA _ hu hPv hp hn hma hmb hkk => ?_⟩
        · simp only [List.forIn_nil]
          exact wpAny_pure ⟨rfl, keeps_refl _⟩
        · obtain ⟨x, y, hx', hy', ee⟩ := hPv
          have ea : va = x := by have := congrArg (fun z => z[0]?) ee; simpa using this
          have eb : vb = y := by have := congrArg (fun z => z[1]?) ee; simpa using this
          subst ea eb
          have hx2 : its[i]? = some va := by simpa using hx'
          have hy2 : its2[i]? = some vb := by simpa using hy'
          obtain ⟨x, hxx, rx⟩ := vals_get rv hx2
          obtain ⟨y, hyy, ry⟩ := vals_get rv2 hy2
          have hi : i < rs.length := by
            have h1 := (List.getElem?_eq_some_iff.mp hxx).1
            have h2 := (List.getElem?_eq_some_iff.mp hyy).1
            omega
          have hrr : rs[i]? = some rs[i] := List.getElem?_eq_getElem hi
          refine wpAny_mono (hel s1 pins σ I1 i x y _ hxx hyy hrr _ A' E' va vb s₂ m₂ rfl hu hn hma hmb rx ry fun b' o hb' e => ?_) (fun v s3 r => ⟨⟨_, hrr, r.1⟩, r.2⟩) fun _ _ e => e
          have e3 := keep3 b' o hb' e
          have lt := Heap.lt_size e
          refine hkk b' (List.mem_range.mpr (Nat.lt_of_lt_of_le lt (Nat.le_trans (by rw [hsz']; exact Nat.le_add_right _ _) hsz))) (fun hw => ?_) o (hhref _ _ e3)
          have : b' = s1.heap.objs.size + 4 ∨ b' = s1.heap.objs.size + 3 ∨ b' = s1.heap.objs.size ∨ b' = s1.heap.objs.size + 1 := by simpa using hw
          rcases this with q | q | q | q
          · exact absurd lt (by rw [q]; exact Nat.not_lt.mpr (Nat.le_add_right _ _))
          · exact absurd lt (by rw [q]; exact Nat.not_lt.mpr (Nat.le_add_right _ _))
          · exact absurd lt (by rw [q]; exact Nat.lt_irrefl _)
          · exact absurd lt (by rw [q]; exact Nat.not_lt.mpr (Nat.le_add_right _ _))
      · intro g h5 tk5 gs hgb hag hsz5 hk5 W5 hat
        simp only [GxR.passing_true, List.length_range] at W5
        have en : min its.toArray.size its2.toArray.size = rs.length := by rw [List.size_toArray, List.size_toArray, hlen, ← l1, ← l2]
        refine hQ rs H1 g _ q1 ⟨_, _, _, _, _, _, en, W5.in4_1, hat, ?_, fun s' hm => ?_⟩
        · intro j y sj Qj Ej hy hQj
          obtain ⟨i, hij, r, hrr, rfl⟩ := hy
          obtain ⟨hj, ej⟩ := List.getElem?_eq_some_iff.mp hij
          rw [List.getElem_range] at ej
          subst ej
          have hQ2 : Qj ((rs[j]?).getD false) sj := hQj
          rw [hrr] at hQ2
          exact wpAny_truthy_bool hQ2
        · obtain ⟨more, em⟩ := hmore
          have nwr : ∀ b' u, s1.heap.get? b' = some u → b' ∉ h3.objs.size :: [s1.heap.objs.size + 4, s1.heap.objs.size + 3, s1.heap.objs.size, s1.heap.objs.size + 1] := fun b' u e hb => by
            have hl := Heap.lt_size e
            have : b' = h3.objs.size ∨ b' = s1.heap.objs.size + 4 ∨ b' = s1.heap.objs.size + 3 ∨ b' = s1.heap.objs.size ∨ b' = s1.heap.objs.size + 1 := by simpa using hb
            rcases this with q | q | q | q | q
            · exact absurd hl (by rw [q]; exact Nat.not_lt.mpr (Nat.le_trans (by rw [hsz']; exact Nat.le_add_right _ _) hsz))
            · exact absurd hl (by rw [q]; exact Nat.not_lt.mpr (Nat.le_add_right _ _))
            · exact absurd hl (by rw [q]; exact Nat.not_lt.mpr (Nat.le_add_right _ _))
            · exact absurd hl (by rw [q]; exact Nat.lt_irrefl _)
            · exact absurd hl (by rw [q]; exact Nat.not_lt.mpr (Nat.le_add_right _ _))
          have J := inv_tab (more := more) (h' := s'.heap) (g' := s'.gens) (d' := s'.drawn) (t' := s'.toks) I1 hP (fun b' u hb e => hm.heap b' u (nwr b' u e) (hk5 b' u (keep3 b' u hb e)))
            (by rw [← em]; exact hm.heap P _ (nwr P _ hPs) (hk5 P _ hP3)) (AllBare.movedS (I1.bare.push hgb) hm)
          rw [sh_eta s1 s' hm.os] at J
          exact ⟨upd H1 P (.tbl (ps ++ more)), ⟨⟨ps ++ more, upd_same, by rw [← em]; exact ht3⟩, fun b hb => upd_ne hb⟩, J⟩
    refine ⟨lim2, ?_⟩
    cases hf : codeAmong gpos ps.toList with
    | none =>
      refine wpAny_genexprCodeX hcode (cd.code hP2 ht) (cd.tab hP2) hf fun c' h'' tk hx hge hlt hco' _ htab' _ => ?_
      obtain ⟨o1, vs, f1, tf, fl, tg, inF, tx, tt, op, _, _, _, _, _, _, _, _, _, htr, _⟩ := hco'
      exact cont _ h'' tk _ hx (Nat.le_trans hge (Nat.le_of_lt hlt)) htab'.2 ⟨_, rfl⟩ htr
    | some cv =>
      refine wpAny_genexprCode_hit hcode (cd.code hP2 ht) hf ?_
      exact cont cv h' s1.toks ps (Heap.ExtBut.refl _ _) (Nat.le_refl _) hP2 ⟨#[], by simp⟩ ht
  rcases hab2 with ⟨hqx, hqy⟩ | ⟨hqx, hqy⟩
  · obtain ⟨its, rv, p1, _⟩ := I1.list hqx
    obtain ⟨its2, rv2, p2, _⟩ := I1.list hqy
    refine call_zip_2 p1.isList p2.isList fun h' hz hTI hTO h1 h2 hsz hk => wpAny_pyIter_zip hz ?_
    refine go h' its its2 _ _ rv rv2 hk hsz p1.lt p2.lt ?_ ?_ (fun A' hA => walksU_zipL hA (zipApart_new p1.lt p2.lt) _ _) ⟨hz, hTI, ⟨_, _, hTO⟩, h1, h2, Heap.IsList.at p1.isList (fun o e => hk _ o e), Heap.IsList.at p2.isList (fun o e => hk _ o e)⟩
    · intro e; subst e
      obtain ⟨o, ho, hc, _⟩ := p1.isList
      rw [hPs] at ho; cases ho; cases hc
    · intro e; subst e
      obtain ⟨o, ho, hc, _⟩ := p2.isList
      rw [hPs] at ho; cases ho; cases hc
  · obtain ⟨its, rv, p1, _⟩ := I1.tuple hqx
    obtain ⟨its2, rv2, p2, _⟩ := I1.tuple hqy
    obtain ⟨o1, ho1, hc1, _⟩ := id p1
    obtain ⟨o2, ho2, hc2, _⟩ := id p2
    refine RZ.call_zipT (show s1.heap.IsTuple a its.toArray from p1) (show s1.heap.IsTuple b its2.toArray from p2) fun h' hz hTI hTO h1 h2 hsz hk => wpAny_pyIter_zip hz ?_
    refine go h' its its2 _ _ rv rv2 hk hsz (Heap.lt_size ho1) (Heap.lt_size ho2) ?_ ?_ (fun A' hA => walksU_zipT hA (zipApart_new (Heap.lt_size ho1) (Heap.lt_size ho2)) _ _) ⟨hz, hTI, ⟨_, _, hTO⟩, h1, h2, isTuple_at p1 (fun o e => hk _ o e), isTuple_at p2 (fun o e => hk _ o e)⟩
    · intro e; subst e
      rw [hPs] at ho1; cases ho1; cases hc1
    · intro e; subst e
      rw [hPs] at ho2; cases ho2; cases hc2
theorem all_getD (rs : List Bool) : (List.range rs.length).all (fun j => (rs[j]?).getD false) = rs.all id := by
  rw [Bool.eq_iff_iff, List.all_eq_true, List.all_eq_true]
  constructor
  · intro h b hb
    obtain ⟨j, hj, e⟩ := List.getElem_of_mem hb
    have q := h j (List.mem_range.mpr hj)
    rw [List.getElem?_eq_getElem hj, e] at q
    exact q
  · intro h j hj
    have hj' := List.mem_range.mp hj
    rw [List.getElem?_eq_getElem hj']
    exact h _ (List.getElem_mem hj')
/-- all(test for a, b in zip(x, y)), x and y two lists or two tuples; behind it the def's table may have grown -/
def tAllZ (X : Cx) (scope : Scope) (xa xb : Str) (elt : Expr) (P : Addr) (ta : TA) : TE := fun σ H Q => ta σ H fun vs H1 => ∃ a b xs ys rs, vs = [.ref a, .ref b] ∧ ((SqL X.K H1 a xs ∧ SqL X.K H1 b ys) ∨ (SqT X.K H1 a xs ∧ SqT X.K H1 b ys)) ∧ TabG H1 P ∧
  EltsZ X scope xa xb elt P H1 xs ys rs ∧ ∀ H2, Tabbed P H1 H2 → Q (.bl (rs.all id)) H2
theorem pe_allZ {c P : Addr} {elt e e2 : Expr} {xa xb : Str} {pa pb pt pz p pos cpos gpos : Pos} {kt : Nat} {scope : Scope} {ta : TA} {k : Nat}
    (hr : Room k X.A) (TB : TabB X.base X.mg c P) (hcode : X.env.code = .ref c) (S : GenS2 X.env scope xa xb) (hab : xa ≠ xb) (hg : Gl X "all") (hm : X.mg "all" = none) (hgz : Gl X "zip") (hmz : X.mg "zip" = none) (ha : PA X [e, e2] ta)
    (hb : bootBuiltins "all" = some (.builtin "all") := by decide +kernel)
    (hse : starEach [e, e2] X.env = (false, eval e X.env) :: starEach [e2] X.env := by rfl) (hpl : (backTo cpos (starEach [e2] X.env)).any (·.1) = false := by rfl)
    (hs : ∀ v, genFold (.Call (.Name "zip" pz) [e, e2] [] cpos) X.env v = pure v := by intro _; rfl)
    (he : starEach [.GeneratorExp elt [⟨.Tuple [.Name xa pa, .Name xb pb] kt pt, .Call (.Name "zip" pz) [e, e2] [] cpos, [], 0⟩] scope gpos] X.env = (false, eval (.GeneratorExp elt [⟨.Tuple [.Name xa pa, .Name xb pb] kt pt, .Call (.Name "zip" pz) [e, e2] [] cpos, [], 0⟩] scope gpos) X.env) :: starEach [] X.env := by rfl) :
    PE X (.Call (.Name "all" p) [.GeneratorExp elt [⟨.Tuple [.Name xa pa, .Name xb pb] kt pt, .Call (.Name "zip" pz) [e, e2] [] cpos, [], 0⟩] scope gpos] [] pos) (tAllZ X scope xa xb elt P ta) := by
  refine ⟨fun pins s σ H Q I h => ?_⟩
  refine wpAny_Call_Name_kw (ld_blt I hg hm hb ?_)
  refine PyProof.Rows.callWith_builtin1 ?_ he (by rfl)
  rw [he]
  show wpAny _ _ (spliced ((false, eval (.GeneratorExp elt [⟨.Tuple [.Name xa pa, .Name xb pb] kt pt, .Call (.Name "zip" pz) [e, e2] [] cpos, [], 0⟩] scope gpos) X.env) :: backTo pos (starEach [] X.env))) _ _ s
  refine Calls.spliced_cons (gen_zip (R := fun rs H1 => ∀ H2, Tabbed P H1 H2 → Q (.bl (rs.all id)) H2) hr TB hcode S hab hgz hmz ha hse hpl hs I h fun rs H1 g s5 hR hG => ?_)
  obtain ⟨fp, wr, G, n, F, St, hn, W, hst, htr, hI⟩ := hG
  refine Calls.spliced_nil ?_
  refine call_all_walkS (W.self 0 _ _ _ hst ⟨g, fp, wr, G, _, F, St, _, rfl, W, hst, htr, fun s' hmv => ?_⟩)
  obtain ⟨H2, hT, J⟩ := hI s' hmv
  refine ⟨.bl _, H2, J, rfl, ?_⟩
  rw [hn, all_getD rs]
  exact hR H2 hT
end
end Fw

set_option maxRecDepth 100000
set_option maxHeartbeats 4000000
/-! Sorting of triples of whole numbers, setdefault on tuple keys, tests within a generator. -/
namespace Fw
open PySem PySem.Spec PyProof.Rows L2 GxR
/-! ### triples -/
abbrev T3 := Int × Int × Int
def lex3 (p q : T3) : Bool := if p.1 = q.1 then (if p.2.1 = q.2.1 then decide (p.2.2 < q.2.2) else decide (p.2.1 < q.2.1)) else decide (p.1 < q.1)
def Lt3 (p q : T3) : Prop := p.1 < q.1 ∨ (p.1 = q.1 ∧ (p.2.1 < q.2.1 ∨ (p.2.1 = q.2.1 ∧ p.2.2 < q.2.2)))
theorem lex3_iff {p q : T3} : lex3 p q = true ↔ Lt3 p q := by
  unfold lex3 Lt3
  split
  · split
    · rw [decide_eq_true_eq]; omega
    · rw [decide_eq_true_eq]; omega
  · rw [decide_eq_true_eq]; omega
theorem lex3_no {p q : T3} : lex3 p q = false ↔ ¬ Lt3 p q := by
  rw [← lex3_iff]
  cases lex3 p q <;> simp
theorem swo3 {α : Type} (k : α → T3) : SrtO.Swo fun v u => lex3 (k v) (k u) := by
  refine ⟨fun x y h => ?_, fun x y z h1 h2 => ?_⟩
  · have a := lex3_iff.mp h
    refine lex3_no.mpr ?_
    unfold Lt3 at *
    omega
  · have a := lex3_no.mp h1
    have b := lex3_no.mp h2
    refine lex3_no.mpr ?_
    unfold Lt3 at *
    omega
def IsTrip (h : Heap) (v : Value) (x : T3) : Prop := ∃ a o t u r n, v = .ref a ∧ h.get? a = some o ∧ o.cls = .type "tuple" ∧ o.data = .seq #[.int x.1 t, .int x.2.1 u, .int x.2.2 r] n
theorem IsTrip.keeps {h h' : Heap} {v : Value} {x : T3} (p : IsTrip h v x) (k : ∀ b o, h.get? b = some o → o.cls = .type "tuple" → h'.get? b = some o) : IsTrip h' v x := by
  obtain ⟨a, o, t, u, r, n, e, ho, hc, hd⟩ := p
  exact ⟨a, o, t, u, r, n, e, k a o ho hc, hc, hd⟩
section
variable {prog : Program} {w : World} {A : Around} {E : Value → Shared → Prop} {s : Shared}
theorem trip_cmp {vs : List Value} {k : Value → T3} (hp : ∀ v ∈ vs, IsTrip s.heap v (k v)) : SrtO.Cmp prog w A s (PyProof.Rows.tuples' true) (fun p => p.1 ∈ vs) (SrtO.lt2 fun v u => lex3 (k v) (k u)) := by
  intro p q hm hm'
  have h1 := hp _ hm
  have h2 := hp _ hm'
  show wpAny (model prog w) A (keyLt' (PyProof.Rows.tuples' true) p.1 q.1) (fun r s' => s' = s ∧ r = lex3 (k p.1) (k q.1)) (fun _ _ => False) s
  unfold lex3
  generalize (k p.1) = x at h1 ⊢
  generalize (k q.1) = x' at h2 ⊢
  obtain ⟨x, y, z⟩ := x
  obtain ⟨x', y', z'⟩ := x'
  obtain ⟨a, o, t, u, r, n, e, ho, hc, hd⟩ := h1
  obtain ⟨a', o', t', u', r', n', e', ho', hc', hd'⟩ := h2
  rw [e, e']
  simp only at hd hd' ⊢
  refine PySem.W.kat_lt ho hd ho' hd' ?_
  show PySem.W.KatLex prog w A true (decide (3 < 3)) _ [(.int x t, .int x' t'), (.int y u, .int y' u'), (.int z r, .int z' r')] 0 s
  refine PySem.W.kat_cons (SeqAt.EqAt.int_int x t x' t' prog w _ _ ?_)
  refine PySem.W.kat_go (fun e1 => ?_) (fun e1 => ?_)
  · have ex : x = x' := by simpa using e1
    rw [if_pos ex]
    refine PySem.W.kat_yes (PySem.W.kat_cons (SeqAt.EqAt.int_int y u y' u' prog w _ _ ?_))
    refine PySem.W.kat_go (fun e2 => ?_) (fun e2 => ?_)
    · have ey : y = y' := by simpa using e2
      rw [if_pos ey]
      refine PySem.W.kat_yes (PySem.W.kat_cons (SeqAt.EqAt.int_int z r z' r' prog w _ _ ?_))
      refine PySem.W.kat_go (fun e3 => ?_) (fun e3 => ?_)
      · have ez : z = z' := by simpa using e3
        have e4 : decide (z < z') = false := by rw [ez]; exact decide_eq_false (Int.lt_irrefl _)
        rw [e4]
        exact PySem.W.kat_yes (PySem.W.kat_nil ⟨rfl, rfl⟩)
      · refine PySem.W.kat_no (PySem.W.kat_one _ _ (PyProof.Rows.lt_int ?_))
        exact (show s = s ∧ decide (z < z') = decide (z < z') from ⟨rfl, rfl⟩)
    · have ey : ¬ y = y' := by simpa using e2
      rw [if_neg ey]
      refine PySem.W.kat_no (PySem.W.kat_one _ _ (PyProof.Rows.lt_int ?_))
      exact (show s = s ∧ decide (y < y') = decide (y < y') from ⟨rfl, rfl⟩)
  · have ex : ¬ x = x' := by simpa using e1
    rw [if_neg ex]
    exact PySem.W.kat_no (PyProof.Rows.oneLt_int ⟨rfl, rfl⟩)
theorem firsts3 {h : Heap} {k : Value → T3} : ∀ {vs : List Value}, (∀ v ∈ vs, IsTrip h v (k v)) → ∃ fs : List Value, PySem.W.KatTups h vs fs ∧ fs.length = vs.length ∧ ∀ f ∈ fs, ∃ x t, f = Value.int x t
  | [], _ => ⟨[], PySem.W.KatTups.nil, rfl, fun _ hm => by simp at hm⟩
  | v :: vs, hp => by
    obtain ⟨fs, h1, h2, h3⟩ := firsts3 (vs := vs) fun v' hm => hp v' (List.mem_cons_of_mem _ hm)
    obtain ⟨a, o, t, u, r, n, e, ho, hc, hd⟩ := hp v (List.mem_cons_self ..)
    refine ⟨.int (k v).1 t :: fs, ?_, by rw [List.length_cons, List.length_cons, h2], fun f hm => ?_⟩
    · generalize k v = kv at hd ⊢
      subst e
      exact PySem.W.KatTups.cons ho hc hd rfl h1
    · rcases List.mem_cons.mp hm with rfl | hm
      · exact ⟨_, t, rfl⟩
      · exact h3 f hm
theorem trips_sortableO {a : Addr} {vs : List Value} {k : Value → T3} (h0 : 0 < vs.length) (hp : ∀ v ∈ vs, IsTrip s.heap v (k v)) (ha : ∀ o, s.heap.get? a = some o → o.cls ≠ .type "tuple") : SrtO.SortableO prog w A s a vs fun v u => lex3 (k v) (k u) := by
  intro h' keep
  have hp' : ∀ v ∈ vs, IsTrip h' v (k v) := fun v hm => (hp v hm).keeps fun b o e c => keep b o (fun z => by subst z; exact ha o e c) e
  obtain ⟨fs, h1, h2, h3⟩ := firsts3 hp'
  refine ⟨PyProof.Rows.tuples' true, fun Q E hq => ?_, trip_cmp hp'⟩
  refine PySem.W.kat_kind (T := .type "int") h1 (by omega) (fun f hm => ?_) (by rfl) ?_
  · obtain ⟨x, t, rfl⟩ := h3 f hm
    exact PySem.W.Looks.now
  · have e : (Value.type "int" != Value.type "tuple") = true := by first | decide +kernel | rfl | decide
    rw [e]
    exact hq
theorem sorted_trips {l : Addr} {vs : List Value} {k : Value → T3} {Q : Value → Shared → Prop} (hl : s.heap.IsList l vs.toArray) (hz : vs.length ≤ sizeLine) (hp : ∀ v ∈ vs, IsTrip s.heap v (k v))
    (h : ∀ (h' : Heap) (d : Addr) (out : List Value), SrtO.Srtd (fun v u => lex3 (k v) (k u)) out → SrtO.Stb (fun v u => lex3 (k v) (k u)) out vs → (∀ b o, s.heap.get? b = some o → h'.get? b = some o) → s.heap.objs.size ≤ d → (∃ n, h'.get? d = some (seqObj "list" out.toArray n)) → Q (.ref d) { s with heap := h' }) :
    wpAny (model prog w) A (call (.builtin "sorted") [.ref l]) Q E s := by
  refine SrtO.sorted_ord (swo3 k) hl hz (fun h2 h₁ a ha kk => ?_) fun out hs hb => ?_
  · refine trips_sortableO (s := { s with heap := h₁ }) (by omega) (fun v hm => (hp v hm).keeps fun b o e _ => (kk b o e).2) fun o e => ?_
    have e' : some o = some (seqObj "list" vs.toArray 0) := e.symm.trans ha
    cases e'
    intro c
    exact absurd (Value.type.inj c) (by decide)
  · exact h _ _ out hs hb (fun b o e => sortedAll_old e) (Nat.le_succ _) (sortedAll_at s.heap vs out.toArray)
end
/-- sorted(xs), xs a list of triples of ints (k says which): a new list, sorted, equal ones in their order -/
def rSorted3 (K : PySem.W.Frag) : List V → Hp → VK → Prop := fun vs H Q => ∃ (a : Addr) (xs : List V) (k : V → T3), vs = [V.ref a] ∧ SqL K H a xs ∧ (∀ x ∈ xs, ∃ t, x = V.ref t ∧ H t = some (.tup [.int (k x).1, .int (k x).2.1, .int (k x).2.2])) ∧
  ∀ ys p, SrtO.Srtd (fun x y => lex3 (k x) (k y)) ys → SrtO.Stb (fun x y => lex3 (k x) (k y)) ys xs → H p = none → Q (.ref p) (upd H p (.lst ys))
section
variable {X : Cx}
theorem vals3 {x y z : V} {its : List Value} (r : Vals [x, y, z] its) : ∃ u1 u2 u3, its = [u1, u2, u3] ∧ RelV x u1 ∧ RelV y u2 ∧ RelV z u3 := by
  cases r with
  | cons a r => cases r with
    | cons b r => cases r with
      | cons c r => cases r; exact ⟨_, _, _, rfl, a, b, c⟩
theorem cr_sorted3 : CallR X (.builtin "sorted") (rSorted3 X.K) := by
  intro pins s σ H vs us Q I r h
  obtain ⟨a, xs, k, rfl, hs, hx, q⟩ := h
  obtain ⟨its, rv, hl, hz⟩ := I.list hs
  obtain ⟨u, rfl, ru⟩ := vals1 r
  obtain rfl : u = Value.ref a := ru
  obtain ⟨e1, e2⟩ := refs_back rv fun x m => by
    obtain ⟨t, e, _⟩ := hx x m
    exact ⟨t, e⟩
  refine sorted_trips (k := fun u => k (backV u)) hl.isList (by rw [← rv.length]; exact hz) (fun v hv => ?_) fun h' d out h1 h2 kp hd hn => ?_
  · obtain ⟨t, rfl⟩ := e2 v hv
    have hm : V.ref t ∈ xs := by rw [e1]; exact List.mem_map.mpr ⟨_, hv, rfl⟩
    obtain ⟨t', e, ht⟩ := hx _ hm
    cases e
    obtain ⟨_, its2, r2, o, ho, hc, n, hd⟩ := I.hok _ _ ht
    obtain ⟨u1, u2, u3, rfl, ri, rj, rk⟩ := vals3 r2
    obtain ⟨t1, rfl⟩ := ri
    obtain ⟨t2, rfl⟩ := rj
    obtain ⟨t3, rfl⟩ := rk
    exact ⟨t, o, t1, t2, t3, n, rfl, ho, hc, hd⟩
  · have h3 : ∀ u ∈ out, ∃ a, u = Value.ref a := fun u hu => e2 u (h2.perm.mem_iff.mp hu)
    obtain ⟨n, hn⟩ := hn
    have hb : SrtO.Stb (fun x y => lex3 (k x) (k y)) (out.map backV) xs := by
      rw [e1]
      exact SrtO.Stb.map (swo3 k) backV h2
    refine ⟨.ref d, upd H d (.lst (out.map backV)), I.laid (t' := s.toks) kp hd ⟨?_, out, n, vals_back h3, hn⟩, rfl, q _ d (SrtO.srtd_map h1) hb (I.hok.fresh hd)⟩
    rw [hb.len]
    exact hz
end
/-! ### d.setdefault(k, z), k a tuple -/
section
variable {X : Cx} {pins : List (Addr × Obj)} {σ : L2.St} {H : Hp} {s : Shared} {a b : Addr} {r : Value} {d : V} {k : List Key} {A : Around} {E : Value → Shared → Prop}
theorem d_setdT {kvs : List (List Key × V)} {Q : Value → Shared → Prop} (hu : A.units + 1 < cLine) (I : Inv X pins σ H s) (e : H a = some (.dT kvs)) (eb : H b = some (.tup (k.map kV))) (rd : RelV d r) (hl : kvs.length < sizeLine)
    (h1 : ∀ v, valV kvs k = some v → ∀ (w' : Value) (s' : Shared), Inv X pins σ H s' → RelV v w' → Q w' s') (h2 : valV kvs k = none → ∀ (w' : Value) (s' : Shared), Inv X pins σ (upd H a (.dT (putK kvs k d))) s' → RelV d w' → Q w' s') :
    wpAny (model X.prog X.w) A (call (.builtin "dict.setdefault") [.ref a, .ref b, r]) Q E s := by
  obtain ⟨z, hd, xs, rel, dd⟩ := dt_of I.hok e
  have hz : xs.length ≤ sizeLine := by rw [← Paired.length rel]; exact z
  have hl2 : (putK kvs k d).length ≤ sizeLine := by have := length_putK kvs k d; omega
  refine call_setdefault_heap (hsz := hz) (tupleKind_room_in1 hu) (key_of I.hok eb) hd dd (fun p hp => ?_) fun hn h' dd' hs => ?_
  · have q := rel.val k
    rw [hp] at q
    cases q0 : valV kvs k with
    | none =>
      rw [q0] at q
      exact (show False from q).elim
    | some v0 =>
      rw [q0] at q
      exact h1 v0 q0 _ _ (I.tok _) q
  · have q := rel.val k
    rw [hn] at q
    cases q0 : valV kvs k with
    | some v0 =>
      rw [q0] at q
      exact (show False from q).elim
    | none =>
      obtain ⟨q, es, ep, hq, h2', h3, h4, _, h5⟩ := dd'
      refine h2 q0 _ _ (d_write (t' := s.toks + _) I (by rw [e]; exact True.intro) hs ⟨q, hq⟩ ⟨hl2, hd, _, (rel.put k eb rd).keeps fun c ys ec => ?_, q, es, ep, hq, h2', h3, h4, h5⟩) rd
      rw [upd_ne (ne_of ec e (fun z => nomatch z))]
      exact ec
end
def tDSetdT (td ty tx : TE) : TE := fun σ H Q => td σ H fun x H1 => ∃ a, x = .ref a ∧ IsD H1 a ∧ ty σ H1 fun y H2 => tx σ H2 fun z H3 => ∃ (kvs : List (List Key × V)) (k : List Key) (b : Addr), H3 a = some (.dT kvs) ∧ y = .ref b ∧ H3 b = some (.tup (k.map kV)) ∧ kvs.length < sizeLine ∧
  (∀ v, valV kvs k = some v → Q v H3) ∧ (valV kvs k = none → Q z (upd H3 a (.dT (putK kvs k z))))
section
variable {X : Cx} {o e f : Expr} {td ty tx : TE} {apos cpos : Pos}
theorem pe_dsetdT (hu : X.A.units + 1 < cLine) (ho : PE X o td) (he : PE X e ty) (hf : PE X f tx) (m : M2 X o "setdefault" apos e f cpos) : PE X (.Call (.Attribute o "setdefault" apos) [e, f] [] cpos) (tDSetdT td ty tx) := by
  refine ⟨fun pins s σ H Q I h => ?_⟩
  refine wpAny_Call_method m.base m.few m.line PySem.F.plainAttrs_dict PySem.F.slot_dict_setdefault PySem.F.type_dict_setdefault (thn (ho.run pins s σ H _ I h) fun u s1 ⟨x, H1, I1, rx, a, ex, d, q1⟩ => ?_)
  subst ex
  obtain rfl : u = Value.ref a := rx
  obtain ⟨t1, t2, _⟩ := isD_at I1 d
  refine ⟨t1, t2, ?_⟩
  rw [m.trees]
  refine Calls.callWith_builtin rfl (Calls.evalArgs_plain (Calls.spliced_cons (thn (he.run pins s1 σ H1 _ I1 q1) fun iv s2 ⟨y, H2, I2, ry, q2⟩ =>
    Calls.spliced_cons (thn (hf.run pins s2 σ H2 _ I2 q2) fun fv s3 ⟨z, H3, I3, rz, kvs, k, b, ea, ey, eb, hl, q3, q4⟩ => Calls.spliced_nil ?_))))
  subst ey
  obtain rfl : iv = Value.ref b := ry
  exact d_setdT hu I3 ea eb rz hl (fun v hv w' s4 I4 rw' => ⟨v, _, I4, rw', q3 v hv⟩) fun hn w' s4 I4 rw' => ⟨z, _, I4, rw', q4 hn⟩
end
/-! ### tests within a generator -/
theorem eltZ_lt_int {prog : Program} {w : World} {scope : Scope} {xa xb : Str} {U : Nat} {hb : Heap} {P : Addr} {p1 p2 p3 : Pos} (a b : Int) (hk : scope.kind = .function) (la : scope.names.lookup xa = some .local) (lb : scope.names.lookup xb = some .local)
    (da : (xa == ("__debug__" : Str)) = false := by decide) (db : (xb == ("__debug__" : Str)) = false := by decide) :
    EltZ prog w scope xa xb (.Compare (.Name xa p1) [.Lt] [.Name xb p2] p3) U hb P (.int a) (.int b) (decide (a < b)) := by
  intro cenv A' E' va vb s₂ m₂ hs _ hn hma hmb ra rb _
  obtain ⟨t, rfl⟩ := ra
  obtain ⟨u, rfl⟩ := rb
  refine wpAny_Compare1 ?_
  refine wpAny_Name (wpAny_loadName_local (by rw [hs]; exact hk) (show cenv.scope.names.lookup xa = some .local by rw [hs]; exact la) hn hma ?_) da
  refine wpAny_Name (wpAny_loadName_local (by rw [hs]; exact hk) (show cenv.scope.names.lookup xb = some .local by rw [hs]; exact lb) hn hmb ?_) db
  exact PyProof.Rows.lt_int ⟨rfl, keeps_refl _⟩
theorem lexLt3 (p q : T3) : HT.lexLt [p.1, p.2.1, p.2.2] [q.1, q.2.1, q.2.2] = lex3 p q := by
  unfold lex3
  rw [HT.lexLt_cons, HT.lexLt_cons, HT.lexLt_cons, HT.lexLt_nil_nil]
  by_cases h : p.1 = q.1
  · rw [if_pos h, if_pos h]
    by_cases h2 : p.2.1 = q.2.1
    · rw [if_pos h2, if_pos h2]
      by_cases h3 : p.2.2 = q.2.2
      · rw [if_pos h3, h3]
        exact (decide_eq_false (Int.lt_irrefl _)).symm
      · rw [if_neg h3]
    · rw [if_neg h2, if_neg h2]
  · rw [if_neg h, if_neg h]
theorem eltZ_lt_trip {X : Cx} {pins : List (Addr × Obj)} {σ : L2.St} {H1 : Hp} {s : Shared} {scope : Scope} {xa xb : Str} {U : Nat} {P : Addr} {p1 p2 p3 : Pos} (I : Inv X pins σ H1 s) (hP : TabG H1 P) (hU : U < cLine) {t u : Addr} {p q : T3}
    (ht : H1 t = some (.tup [.int p.1, .int p.2.1, .int p.2.2])) (hu : H1 u = some (.tup [.int q.1, .int q.2.1, .int q.2.2])) (hk : scope.kind = .function) (la : scope.names.lookup xa = some .local) (lb : scope.names.lookup xb = some .local)
    (da : (xa == ("__debug__" : Str)) = false := by decide) (db : (xb == ("__debug__" : Str)) = false := by decide) :
    EltZ X.prog X.w scope xa xb (.Compare (.Name xa p1) [.Lt] [.Name xb p2] p3) U s.heap P (.ref t) (.ref u) (lex3 p q) := by
  intro cenv A' E' va vb s₂ m₂ hs hA hn hma hmb ra rb hkp
  cases ra
  cases rb
  obtain ⟨ps, hP, _⟩ := hP
  have nP : ∀ {b : Addr} {xs : List V}, H1 b = some (.tup xs) → b ≠ P := fun e z => by rw [z, hP] at e; cases e
  have tup : ∀ {b : Addr} {p : T3}, H1 b = some (.tup [.int p.1, .int p.2.1, .int p.2.2]) → ∃ its : Array Value, IsTup s₂.heap b its ∧ IntsAre its.toList [p.1, p.2.1, p.2.2] := fun {b p} e => by
    obtain ⟨_, its2, r2, o, ho, hc, n, hd⟩ := I.hok _ _ e
    obtain ⟨u1, u2, u3, rfl, ri, rj, rk⟩ := vals3 r2
    obtain ⟨t1, rfl⟩ := ri
    obtain ⟨t2, rfl⟩ := rj
    obtain ⟨t3, rfl⟩ := rk
    exact ⟨_, ⟨o, hkp b o (nP e) ho, hc, n, hd⟩, .cons _ _ (.cons _ _ (.cons _ _ .nil))⟩
  obtain ⟨its, T1, i1⟩ := tup ht
  obtain ⟨its2, T2, i2⟩ := tup hu
  refine wpAny_Compare1 ?_
  refine wpAny_Name (wpAny_loadName_local (by rw [hs]; exact hk) (show cenv.scope.names.lookup xa = some .local by rw [hs]; exact la) hn hma ?_) da
  refine wpAny_Name (wpAny_loadName_local (by rw [hs]; exact hk) (show cenv.scope.names.lookup xb = some .local by rw [hs]; exact lb) hn hmb ?_) db
  refine HT.lt_tupInts T1 T2 i1 i2 (Nat.lt_of_le_of_lt hA hU) ?_
  rw [lexLt3]
  exact ⟨rfl, keeps_refl _⟩
end Fw

/-! What a class of worlds asks of numbers, rows and steps: pure mathematics. -/
namespace Fw
def asc {α : Type} (lt : α → α → Bool) : List α → Bool
  | [] => true
  | [_] => true
  | x :: y :: l => lt x y && asc lt (y :: l)
def adj {α : Type} (lt : α → α → Bool) (l : List α) : List Bool := (l.zip l.tail).map fun p => lt p.1 p.2
theorem adj_len {α : Type} (lt : α → α → Bool) (l : List α) : (adj lt l).length = min l.length l.tail.length := by
  unfold adj
  rw [List.length_map, List.length_zip]
theorem adj_get {α : Type} {lt : α → α → Bool} {l : List α} {i : Nat} {r : Bool} (h : (adj lt l)[i]? = some r) : ∃ x y, l[i]? = some x ∧ l.tail[i]? = some y ∧ r = lt x y := by
  unfold adj at h
  rw [List.getElem?_map] at h
  cases e : (l.zip l.tail)[i]? with
  | none => rw [e] at h; cases h
  | some p =>
    rw [e] at h
    have := List.getElem?_zip_eq_some.mp e
    exact ⟨p.1, p.2, this.1, this.2, (Option.some.inj h).symm⟩
theorem adj_asc {α : Type} (lt : α → α → Bool) : ∀ l : List α, (adj lt l).all id = asc lt l
  | [] => rfl
  | [_] => rfl
  | x :: y :: l => by
    have ih := adj_asc lt (y :: l)
    show (id (lt x y) && (adj lt (y :: l)).all id) = (lt x y && asc lt (y :: l))
    rw [ih]
    rfl
theorem asc_pair {α : Type} {lt : α → α → Bool} (tr : ∀ x y z, lt x y = true → lt y z = true → lt x z = true) : ∀ {l : List α}, asc lt l = true ↔ l.Pairwise fun x y => lt x y = true
  | [] => ⟨fun _ => .nil, fun _ => rfl⟩
  | [x] => ⟨fun _ => List.pairwise_singleton _ _, fun _ => rfl⟩
  | x :: y :: l => by
    have ih := asc_pair tr (l := y :: l)
    unfold asc
    rw [Bool.and_eq_true, ih, List.pairwise_cons (a := x)]
    constructor
    · rintro ⟨h1, h2⟩
      refine ⟨fun z hz => ?_, h2⟩
      rcases List.mem_cons.mp hz with rfl | hz
      · exact h1
      · exact tr _ _ _ h1 ((List.pairwise_cons.mp h2).1 z hz)
    · rintro ⟨h1, h2⟩
      exact ⟨h1 y List.mem_cons_self, h2⟩
def ltI (x y : Int) : Bool := decide (x < y)
theorem ltI_tr (x y z : Int) (h1 : ltI x y = true) (h2 : ltI y z = true) : ltI x z = true := by
  unfold ltI at *
  rw [decide_eq_true_eq] at *
  omega
theorem lex3_tr (x y z : T3) (h1 : lex3 x y = true) (h2 : lex3 y z = true) : lex3 x z = true := by
  rw [lex3_iff] at *
  unfold Lt3 at *
  omega
theorem lex3_irr (x : T3) : lex3 x x = false := by
  rw [lex3_no]
  unfold Lt3
  omega
theorem lex3_anti {x y : T3} (h1 : lex3 x y = false) (h2 : lex3 y x = false) : x = y := by
  rw [lex3_no] at *
  unfold Lt3 at *
  obtain ⟨a, b, c⟩ := x
  obtain ⟨a', b', c'⟩ := y
  simp only at *
  have : a = a' ∧ b = b' ∧ c = c' := by omega
  obtain ⟨rfl, rfl, rfl⟩ := this
  rfl
theorem lex3_as {x y : T3} (h : lex3 x y = true) : lex3 y x = false := by
  rw [lex3_no]
  rw [lex3_iff] at h
  unfold Lt3 at *
  omega
/-- one order alone of the same triples, none twice -/
theorem sorted_one : ∀ {a b : List T3}, (a.Pairwise fun x y => lex3 y x = false) → (b.Pairwise fun x y => lex3 x y = true) → a.Perm b → a = b
  | [], b, _, _, h => (List.Perm.nil_eq h)
  | x :: a, [], _, _, h => by have := h.length_eq; cases this
  | x :: a, y :: b, ha, hb, h => by
    have ha' := List.pairwise_cons.mp ha
    have hb' := List.pairwise_cons.mp hb
    have e : x = y := by
      rcases List.mem_cons.mp (h.mem_iff.mp List.mem_cons_self) with q | q
      · exact q
      · rcases List.mem_cons.mp (h.mem_iff.mpr (List.mem_cons_self (a := y) (l := b))) with r | r
        · exact r.symm
        · exact lex3_anti (lex3_as (hb'.1 x q) |> fun z => by
            have z1 := ha'.1 y r
            have z2 := hb'.1 x q
            rw [z1] at z2
            cases z2) (ha'.1 y r)
    subst e
    rw [sorted_one ha'.2 hb'.2 h.cons_inv]
def okNums (l f : Int) : Bool := (decide (1 ≤ l) && decide (l ≤ 3)) && (decide (0 ≤ f) && decide (f ≤ 6))
def okRow (f : Int) (X : List Int) : Bool := X.all (fun x => decide (0 ≤ x) && decide (x ≤ f - 1)) && asc ltI X
def okRows (f : Int) (Xs : List (List Int)) : Bool := (decide (1 ≤ (Xs.length : Int)) && decide ((Xs.length : Int) ≤ 400)) && Xs.all (okRow f)
def okStep (l : Int) (n : Nat) (p : T3) : Bool := (decide (0 ≤ p.2.1) && decide (p.2.1 ≤ l - 1)) && ((decide (0 ≤ p.1) && decide (p.1 ≤ (n : Int) - 1)) && (decide (0 ≤ p.2.2) && decide (p.2.2 ≤ (n : Int) - 1)))
def okSteps (l : Int) (n : Nat) (ss : List T3) : Bool := ss.all (okStep l n) && asc lex3 ss
/-- the ends of the steps from s with l -/
def begS (ss : List T3) (s l : Int) : List Int := (ss.filter fun p => decide (p.1 = s) && decide (p.2.1 = l)).map fun p => p.2.2
theorem begS_snoc (ps : List T3) (p : T3) (s l : Int) : begS (ps ++ [p]) s l = begS ps s l ++ (if (decide (p.1 = s) && decide (p.2.1 = l)) = true then [p.2.2] else []) := by
  unfold begS
  rw [List.filter_append, List.map_append]
  congr 1
  cases c : decide (p.1 = s) && decide (p.2.1 = l)
  · simp [c]
  · simp [c]
theorem beh_begS (W : Wd) (s l : Int) : W.beh s l = begS W.steps s l := rfl
/-- in order they ascend -/
theorem begS_up {ss : List T3} (h : ss.Pairwise fun x y => lex3 x y = true) (s l : Int) : (begS ss s l).Pairwise (· < ·) := by
  unfold begS
  rw [List.pairwise_map]
  have h2 := List.Pairwise.sublist (List.filter_sublist (p := fun p : T3 => decide (p.1 = s) && decide (p.2.1 = l)) (l := ss)) h
  refine h2.imp_of_mem fun {a b} ha hb hab => ?_
  have pa := (List.mem_filter.mp ha).2
  have pb := (List.mem_filter.mp hb).2
  rw [Bool.and_eq_true, decide_eq_true_eq, decide_eq_true_eq] at pa pb
  rw [lex3_iff] at hab
  unfold Lt3 at hab
  omega
end Fw

set_option maxRecDepth 100000
set_option maxHeartbeats 4000000
namespace Fw
open PySem PySem.Spec PyProof.Rows L2 GxR
/-! ### a class whose making may raise -/
def HasCX (P : Program) (w : World) (K : PySem.W.Frag) (mg : Str → Option Value) (base : Heap) (x : Str) (C : Addr) (k : Nat) (ps : List Str) (sp : Sp) : Prop :=
  ∃ f fd, mg x = some (.ref C) ∧ Mk K C f ∧ Binds K fd ps [] ∧ FnOk P w K mg base (L2.CX P w) k f fd ps sp
def tMakeS (C : Addr) (sp : Sp) (E : L2.St → XK) (t : TA) : TE := fun σ H Q => t σ H fun vs H1 => ∀ x dx, H1 x = none → H1 dx = none → dx ≠ x →
  sp (.ref x :: vs) (upd (upd H1 dx (.own x)) x (.ins C dx [])) (fun v H2 => v = .non ∧ Q (.ref x) H2) (E σ)
theorem run_makeS {X : Cx} {CX : CXT} {k : Nat} {f C : Addr} {fd : FuncData} {ps : List Str} {sp : Sp} {E : XK} {pins : List (Addr × Obj)} {σ : L2.St} {H : Hp} {s : Shared} {Q : VK} {us : List Value} {vs : List V} (M : Mk X.K C f) (F : FnOk X.prog X.w X.K X.mg X.base CX k f fd ps sp) (hr : Room (k + 1) X.A) (hb : Binds X.K fd ps [])
    (hx : PassesAt CX X σ E) (I : Inv X pins σ H s) (r : Vals vs us)
    (h : ∀ x dx, H x = none → H dx = none → dx ≠ x → sp (.ref x :: vs) (upd (upd H dx (.own x)) x (.ins C dx [])) (fun v H2 => v = .non ∧ Q (.ref x) H2) E) :
    wpAny (model X.prog X.w) X.A (call (.ref C) us) (EP X pins σ Q) X.xe s := by
  have hq := h (s.heap.objs.size + 1) s.heap.objs.size (I.hok.fresh (Nat.le_succ _)) (I.hok.fresh (Nat.le_refl _)) (Nat.ne_of_lt (Nat.lt_succ_self _))
  have I2 := Inv.made (C := C) I
  have r2 : Vals (V.ref (s.heap.objs.size + 1) :: vs) (Value.ref (s.heap.objs.size + 1) :: us) := .cons rfl r
  have hl : (Value.ref (s.heap.objs.size + 1) :: us ++ []).length = ps.length := by
    have e := r2.length
    rw [F.len _ _ _ _ hq] at e
    rw [List.append_nil]
    exact e.symm
  have b := hb _ (Value.ref (s.heap.objs.size + 1) :: us) I2.kIn hl
  rw [List.append_nil] at b
  refine wpAny_call (make_map (f := f) I.kIn M.makes M.init (beq_iff_eq.mp M.fn) (codeAny_mono (F.run _ X.stack _ _ ⟨Value.ref (s.heap.objs.size + 1) :: us, []⟩ (Value.ref (s.heap.objs.size + 1) :: us) _ _ E (hr.make C us [])
    (I2.env0.make C us []) b r2 hq) fun r s' hq' => ?_))
  cases r with
  | error e => exact hx pins _ _ e s' I2 hq'
  | ok fl =>
    cases fl with
    | ret u =>
      obtain ⟨v, H', I3, rv, ev, q3⟩ := I2.after hq'
      subst ev
      exact ⟨rv, ⟨V.ref (s.heap.objs.size + 1), H', I3, rfl, q3⟩⟩
    | next => exact False.elim hq'
    | brk => exact False.elim hq'
    | cont => exact False.elim hq'
theorem pe_makeX {X : Cx} {W : WX} {x : Str} {C : Addr} {k : Nat} {ps : List Str} {sp : Sp} {e : Expr} {es : List Expr} {t : TA} {p pos : Pos} (h : HasCX X.prog X.w X.K X.mg X.base x C k ps sp) (hr : Room (k + 1) X.A) (tk : Takes X W) (ha : PA X (e :: es) t) (hg : Gl X x := by rfl)
    (hdb : (x == ("__debug__" : Str)) = false := by decide) (he : starEach (e :: es) X.env = (false, eval e X.env) :: starEach es X.env := by rfl) (hpl : (backTo pos (starEach es X.env)).any (·.1) = false := by rfl) :
    PE X (.Call (.Name x p) (e :: es) [] pos) (tMakeS C sp (WE W) t) := by
  obtain ⟨f, fd, m, M, b, G⟩ := h
  refine ⟨fun pins s σ H Q I h => ?_⟩
  refine wpAny_Call_Name_kw (ld_glob I hg m ?_ hdb)
  refine PySem.W.callWith_K (h₀ := X.base) I.ok.mod.kin M.kp (thn (ha.run pos pins s σ H _ I h) fun us s1 ⟨vs, H1, I1, r, q⟩ => ⟨I1.kIn, ?_⟩) he hpl
  exact run_makeS M G hr b (passAt tk σ) I1 r q
/-! ### a def whose code object is told -/
structure FunC (K : PySem.W.Frag) (x qual : Str) (st : Stmt) (f : Addr) (fd : FuncData) (c : Addr) : Prop where
  ex : ∃ (oc : Value) (od : Option Addr) (kV doc pm : Value) (an : Option Addr) (ct : Value) (osl : Array (Option Value)),
    fd = PySem.W.fnOf x qual (defArgs st) (defBody st) (defScope st) .none kV doc pm an (.ref c) ct ∧ K.lookup f = some ⟨oc, od, .func fd, osl⟩ ∧ PySem.W.codeIn K (.ref c) qual = true
theorem FunC.ok {P : Program} {w : World} {K : PySem.W.Frag} {mg : Str → Option Value} {base : Heap} {x qual : Str} {st : Stmt} {f c : Addr} {fd : FuncData} {N ps : List Str} {k : Nat} {sp : Sp} (F : FunC K x qual st f fd c) (S : FnScope N ps (defScope st)) (len : ∀ vs H Q E, sp vs H Q E → vs.length = ps.length)
    (hbody : ∀ (A : Around) (outer : List Env) (s : Shared) (H : Hp) (vs : List V) (Q : VK) (E : XK), Room k (A.deeper (envOfC qual (defScope st) s.heap.objs.size f (.ref c))) → sp vs H Q E →
      ∃ t, PSs (cxOf CX0 P w K mg base N qual (defScope st) f (.ref c) A outer s H E).nox (defBody st) t ∧ t { nx := fun _ H' => Q .non H', rt := Q } (start N vs) H) : FnOk P w K mg base CX0 (k + 1) f fd ps sp := by
  obtain ⟨oc, od, kV, doc, pm, an, ct, osl, rfl, lk, hcd⟩ := F.ex
  refine fn_of lk hcd S len fun A outer s H vs Q E hr hsp => ?_
  obtain ⟨t, h, q⟩ := hbody A outer s H vs Q E hr hsp
  exact ⟨t, h.nox, q⟩
/-- what stood is kept but for the table at P -/
def Tb (P : Addr) (H H' : Hp) : Prop := But P H H' ∧ TabG H' P
theorem Tb.refl {P : Addr} {H : Hp} (h : TabG H P) : Tb P H H := ⟨But.refl P H, h⟩
theorem Tb.trans {P : Addr} {H H1 H2 : Hp} (a : Tb P H H1) (b : Tb P H1 H2) : Tb P H H2 := ⟨a.1.trans b.1, b.2⟩
theorem _root_.GxR.TabG.same {P : Addr} {H H' : Hp} (s : Same H H') (h : TabG H P) : TabG H' P := by
  obtain ⟨ps, e, t⟩ := h
  exact ⟨ps, s _ _ e, t⟩
theorem Tb.same {P : Addr} {H H' : Hp} (s : Same H H') (h : TabG H P) : Tb P H H' := ⟨Same.but s, h.same s⟩
theorem _root_.GxR.TabG.ne {P b : Addr} {H : Hp} {o : HO} (h : TabG H P) (e : H b = some o) (n : ∀ ps, o ≠ .tbl ps) : b ≠ P := by
  obtain ⟨ps, q, _⟩ := h
  rintro rfl
  rw [e] at q
  exact n _ (Option.some.inj q)
theorem SqT.tb {K : PySem.W.Frag} {P : Addr} {H H' : Hp} {a : Addr} {xs : List V} (g : TabG H P) (t : Tb P H H') (h : SqT K H a xs) : SqT K H' a xs := by
  rcases h with h | h
  · rcases h with h | ⟨u, h⟩
    · exact .inl (.inl (t.1 _ _ (g.ne h (by intro _ z; cases z)) h))
    · exact .inl (.inr ⟨u, t.1 _ _ (g.ne h (by intro _ z; cases z)) h⟩)
  · exact .inr h
theorem tabbed_tb {P : Addr} {H H' : Hp} (h : Tabbed P H H') : Tb P H H' := ⟨fun b o n e => by rw [h.2 b n]; exact e, h.1⟩
/-- what it has written of the errors -/
structure TxtEW (K : PySem.W.Frag) (mg : Str → Option Value) (NC : Addr) : Prop where
  gC : mg "InvalidWorld" = some (.ref NC)
  xC : PySem.W.excIn K NC [.type "ValueError", .type "Exception", .type "BaseException", .type "object"] "ValueError.__new__" = true
  kC : PySem.W.keepIn K (.ref NC) = true
  bC : PySem.W.subIn K (.ref NC) (.type "BaseException") = some true
  tC : PySem.W.typeIn K (.ref NC) = some (.type "type")
  eC : PySem.W.exmOne K (.ref NC) (.ref NC) = some true
structure TxtL (mg : Str → Option Value) (t1 t2 t3 : Tok) : Prop where
  m_MOST_LABELS : mg "MOST_LABELS" = some (.int 3 t1)
  m_MOST_FACTS : mg "MOST_FACTS" = some (.int 6 t2)
  m_MOST_STATES_worlds : mg "MOST_STATES_worlds" = some (.int 400 t3)
section
variable {P : Program} {w : World} {K : PySem.W.Frag} {mg : Str → Option Value} {base : Heap} {C J B NC WC cA tA : Addr} {t1 t2 t3 : Tok}
def spNum : Sp := fun vs H Q _ => ∃ n lo hi : Int, vs = [.int n, .int lo, .int hi] ∧ Q (.bl (decide (lo ≤ n) && decide (n ≤ hi))) H
theorem ok_is_number {f : Addr} {fd : FuncData} (FF : Fun K "is_number" "is_number" s_is_number f fd) (T : Txt K mg C J B) : FnOk P w K mg base CX0 1 f fd a_is_number spNum := by
  refine FF.ok sc_is_number (fun vs H Q E h => ?_) (fun cdv A outer s H vs Q E hr h => ?_)
  · obtain ⟨n, lo, hi, rfl, _⟩ := h
    rfl
  · obtain ⟨n, lo, hi, rfl, k⟩ := h
    refine ⟨_, (pss_one (ps_ret (pe_and (pe_callB call_isi rfl T.z_isinstance (by decide +kernel) (pa_cons (pv 0) (pa_cons (pe_bltn (v := .ty "int") (u := .type "int") rfl T.z_int (by decide +kernel) rfl) pa_nil))) (pe_and (pe_not (pe_callB call_isi rfl T.z_isinstance (by decide +kernel) (pa_cons (pv 0) (pa_cons (pe_bltn (v := .ty "bool") (u := .type "bool") rfl T.z_bool (by decide +kernel) rfl) pa_nil)))) (pe_one (pe_chain op_le op_le (pv 1) (pv 0) (pv 2))))))), ?_⟩
    refine ⟨.int n, rfl, .int n, .ty "int", .type "int", .type "int", true, rfl, .ty "int", .base (.int n), kit_ty (by decide +kernel), true, rfl, iteT ?_⟩
    refine ⟨.int n, rfl, .int n, .ty "bool", .type "int", .type "bool", false, rfl, .ty "bool", .base (.int n), kit_ty (by decide +kernel), false, rfl, true, rfl, iteT ?_⟩
    refine ⟨.int lo, rfl, .int n, rfl, lo, n, rfl, rfl, _, rfl, ?_⟩
    by_cases c : lo ≤ n
    · refine (if_pos (decide_eq_true c)).mpr ⟨.int hi, rfl, n, hi, rfl, rfl, ?_⟩
      rw [decide_eq_true c, Bool.true_and] at k
      exact k
    · refine (if_neg (by rw [decide_eq_false c]; exact Bool.false_ne_true)).mpr ?_
      rw [decide_eq_false c, Bool.false_and] at k
      exact k
end
end Fw

set_option maxRecDepth 100000
set_option maxHeartbeats 4000000
namespace Fw
open PySem PySem.Spec PyProof.Rows L2
def FAt (H : Hp) (as : List Addr) (Xs : List (List Int)) : Prop := as.length = Xs.length ∧ ∀ (i : Nat) (a : Addr) (X : List Int), as[i]? = some a → Xs[i]? = some X → IL H a X
def PAt (H : Hp) (as : List Addr) (ps : List (Int × Int × Int)) : Prop := as.length = ps.length ∧ ∀ (i : Nat) (a : Addr) (p : Int × Int × Int), as[i]? = some a → ps[i]? = some p → H a = some (.tup [.int p.1, .int p.2.1, .int p.2.2])
structure WAx (H : Hp) (wa sa pa : Addr) (fas pas : List Addr) (W : Wd) : Prop where
  w : H wa = some (.tup [.ref sa, .ref pa])
  s : H sa = some (.lst (fas.map V.ref))
  p : H pa = some (.lst (pas.map V.ref))
  f : FAt H fas W.facts
  t : PAt H pas W.steps
def WAt (H : Hp) (v : V) (W : Wd) : Prop := ∃ (wa sa pa : Addr) (fas pas : List Addr), v = .ref wa ∧ WAx H wa sa pa fas pas W
theorem WAx.same {H H' : Hp} {wa sa pa : Addr} {fas pas : List Addr} {W : Wd} (z : Same H H') (h : WAx H wa sa pa fas pas W) : WAx H' wa sa pa fas pas W :=
  ⟨z _ _ h.w, z _ _ h.s, z _ _ h.p, ⟨h.f.1, fun i a X e1 e2 => z _ _ (h.f.2 i a X e1 e2)⟩, ⟨h.t.1, fun i a X e1 e2 => z _ _ (h.t.2 i a X e1 e2)⟩⟩
theorem WAt.same {H H' : Hp} {v : V} {W : Wd} (z : Same H H') (h : WAt H v W) : WAt H' v W := by
  obtain ⟨wa, sa, pa, fas, pas, e, x⟩ := h
  exact ⟨wa, sa, pa, fas, pas, e, x.same z⟩
/-- the world's size fits -/
structure Wd.Fit (W : Wd) : Prop where
  good : W.Good
  one : 1 ≤ W.n
  n8 : W.n ≤ 8
  st : W.steps.length ≤ 200
  fc : ∀ X ∈ W.facts, X.length ≤ 8
theorem FAt.nil (H : Hp) : FAt H [] [] := ⟨rfl, fun i a X e _ => by cases e⟩
theorem PAt.nil (H : Hp) : PAt H [] [] := ⟨rfl, fun i a X e _ => by cases e⟩
theorem FAt.map {H H' : Hp} {as : List Addr} {Xs : List (List Int)} (h : FAt H as Xs) (z : ∀ a o, a ∈ as → H a = some o → H' a = some o) : FAt H' as Xs :=
  ⟨h.1, fun i a X e1 e2 => z _ _ (List.mem_of_getElem? e1) (h.2 i a X e1 e2)⟩
theorem PAt.map {H H' : Hp} {as : List Addr} {Xs : List (Int × Int × Int)} (h : PAt H as Xs) (z : ∀ a o, a ∈ as → H a = some o → H' a = some o) : PAt H' as Xs :=
  ⟨h.1, fun i a X e1 e2 => z _ _ (List.mem_of_getElem? e1) (h.2 i a X e1 e2)⟩
theorem get_snoc {α : Type} {l : List α} {x : α} {i : Nat} {y : α} (h : (l ++ [x])[i]? = some y) : l[i]? = some y ∨ (i = l.length ∧ x = y) := by
  by_cases lt : i < l.length
  · rw [List.getElem?_append_left lt] at h
    exact .inl h
  · have e : i = l.length := by
      have := (List.getElem?_eq_some_iff.mp h).1
      rw [List.length_append, List.length_singleton] at this
      omega
    subst e
    rw [List.getElem?_append_right (Nat.le_refl _), Nat.sub_self] at h
    exact .inr ⟨rfl, Option.some.inj h⟩
theorem get_len {α : Type} {l : List α} {i : Nat} {y : α} (h : l[i]? = some y) : i < l.length := (List.getElem?_eq_some_iff.mp h).1
theorem FAt.snoc {H : Hp} {as : List Addr} {Xs : List (List Int)} {a : Addr} {X : List Int} (h : FAt H as Xs) (z : IL H a X) : FAt H (as ++ [a]) (Xs ++ [X]) :=
  ⟨by rw [List.length_append, List.length_append, h.1]; rfl, fun i b Y e1 e2 => by
    rcases get_snoc e1 with e1' | ⟨q, rfl⟩
    · rcases get_snoc e2 with e2' | ⟨q, rfl⟩
      · exact h.2 i b Y e1' e2'
      · have := get_len e1'; rw [h.1] at this; omega
    · rcases get_snoc e2 with e2' | ⟨q2, rfl⟩
      · have := get_len e2'; rw [← h.1] at this; omega
      · exact z⟩
theorem PAt.snoc {H : Hp} {as : List Addr} {Xs : List (Int × Int × Int)} {a : Addr} {p : Int × Int × Int} (h : PAt H as Xs) (z : H a = some (.tup [.int p.1, .int p.2.1, .int p.2.2])) : PAt H (as ++ [a]) (Xs ++ [p]) :=
  ⟨by rw [List.length_append, List.length_append, h.1]; rfl, fun i b Y e1 e2 => by
    rcases get_snoc e1 with e1' | ⟨q, rfl⟩
    · rcases get_snoc e2 with e2' | ⟨q, rfl⟩
      · exact h.2 i b Y e1' e2'
      · have := get_len e1'; rw [h.1] at this; omega
    · rcases get_snoc e2 with e2' | ⟨q2, rfl⟩
      · have := get_len e2'; rw [← h.1] at this; omega
      · exact z⟩
section
variable {P : Program} {w : World} {K : PySem.W.Frag} {mg : Str → Option Value} {base : Heap} {C J B NC FE OD : Addr}
def RowUp (f : Int) (X : List Int) : Prop := X.Pairwise (· < ·) ∧ ∀ x ∈ X, 0 ≤ x ∧ x < f
def StUp (n : Nat) (q p : T3) : Prop := 0 ≤ p.1 ∧ p.1 < (n : Int) ∧ 0 ≤ p.2.1 ∧ p.2.1 < 2 ∧ 0 ≤ p.2.2 ∧ p.2.2 < (n : Int) ∧ lex3 p q = true
theorem StUp.up {n : Nat} {q q' p : T3} (h : StUp n q p) (z : Lt3 p q → Lt3 p q') : StUp n q' p := by
  obtain ⟨a, b, c, d, e, f, g⟩ := h
  exact ⟨a, b, c, d, e, f, lex3_iff.mpr (z (lex3_iff.mp g))⟩
/-- its rows ascend, and its steps -/
structure Wd.Up (W : Wd) (f : Int) : Prop where
  rows : ∀ X ∈ W.facts, RowUp f X
  steps : W.steps.Pairwise fun x y => lex3 x y = true
  in_ : ∀ p ∈ W.steps, StUp W.n (W.n, 0, 0) p
def spWorld : Sp := fun vs H Q _ => ∃ (d : Addr) (mo fc : Int), vs = [.ref d, .int mo, .int fc] ∧ Draws H d ∧ 1 ≤ mo ∧ mo ≤ 8 ∧ 0 ≤ fc ∧ fc ≤ 8 ∧
  ∀ (wa sa pa : Addr) (fas pas : List Addr) W H', But d H H' → Draws H' d → WAx H' wa sa pa fas pas W → sa ≠ d → pa ≠ d → (∀ a ∈ fas, a ≠ d) → W.Fit → W.Up fc → (W.n : Int) ≤ mo → Q (.ref wa) H'
theorem ok_law_world {f : Addr} {fd : FuncData} (FF : Fun K "_law_world" "_law_world" s_law_world f fd) (T : Txt K mg C J B) (h_law_take : Has P w K mg base "_law_take" 1 a_law_take spTake) : FnOk P w K mg base CX0 2 f fd a_law_world spWorld := by
  refine FF.ok sc_law_world (fun vs H Q E h => ?_) (fun cdv A outer s H vs Q E hr h => ?_)
  · obtain ⟨d, mo, fc, rfl, _⟩ := h
    rfl
  · obtain ⟨d, mo, fc, rfl, hd, m1, m8, f0, f8, k⟩ := h
    refine ⟨_, (pss_cons (ps_set (i := 3) sc_law_world.nd rfl (.inl rfl) (pe_op op_add pe_int (pe_callH h_law_take (hr.mono (by omega)) (pa_cons (pv 0) (pa_cons (pv 1) pa_nil)))))
      (pss_cons (ps_setLc (i := 5) (own := [("state", 4)]) (g := gName 4) rfl sc_law_world.nd rfl rfl (sw_true rfl rfl rfl (by decide +kernel)) (pi_range1 rfl T.z_range (pa_cons (pv 3) pa_nil)) (blkOk_by (own := [("state", 4)]) (N := n_law_world) (sc := defScope s_law_world) (by decide +kernel)) (fun _ _ _ _ _ => (pg_name (i := 4) sc_law_world.nd rfl (.inl rfl))) (fun _ _ _ _ _ => pts_nil) (fun _ _ _ _ _ => (pe_lc (own := [("fact", 9)]) (g := gName 9) rfl sc_law_world.nd (pi_range1 rfl T.z_range (pa_cons (pv 2) pa_nil)) (blkOk_by (own := [("fact", 9)]) (N := n_law_world) (sc := { kind := PySem.ScopeKind.function, names := [ (PySem.Str.ofString ".0", PySem.NameKind.local), (PySem.Str.ofString "state", PySem.NameKind.local), (PySem.Str.ofString "range", PySem.NameKind.globalImplicit), (PySem.Str.ofString "draws", PySem.NameKind.cell), (PySem.Str.ofString "facts", PySem.NameKind.cell)], isGenerator := false, isCoroutine := false, more := [] : PySem.Scope }) (by decide +kernel)) (fun _ _ _ _ _ => (pg_name (i := 9) sc_law_world.nd rfl (.inl rfl))) (fun _ _ _ _ _ => (pts_one (pt_cmpR op_eq (pe_callH h_law_take (hr.mono (by omega)) (pa_cons (pv 0) (pa_cons pe_int pa_nil))) pe_int (nomark _)))) (fun _ _ _ _ _ => (pv 9)))))
      (pss_cons (ps_set (i := 6) sc_law_world.nd rfl (.inl rfl) (pe_lst pa_nil))
      (pss_cons (ps_for PassesOwn.never rfl (pi_range1 rfl T.z_range (pa_cons (pv 3) pa_nil)) (pg_name (i := 4) sc_law_world.nd rfl (.inl rfl)) (pss_one (ps_for PassesOwn.never rfl (pi_range1 rfl T.z_range (pa_cons pe_int pa_nil)) (pg_name (i := 7) sc_law_world.nd rfl (.inl rfl)) (pss_one (ps_for PassesOwn.never rfl (pi_range1 rfl T.z_range (pa_cons (pv 3) pa_nil)) (pg_name (i := 8) sc_law_world.nd rfl (.inl rfl)) (pss_one (ps_if (pt_cmpR op_lt (pe_callH h_law_take (hr.mono (by omega)) (pa_cons (pv 0) (pa_cons (pe_op op_add pe_int (pv 3)) pa_nil))) pe_int (nomark _)) (pss_one (ps_expr (pe_bm PySem.F.plainAttrs_list PySem.F.slot_list_append PySem.F.type_list_append mt_append (pv 6) (pa_cons (pe_tup (pa_cons (pv 4) (pa_cons (pv 7) (pa_cons (pv 8) pa_nil)))) pa_nil)))) pss_nil)))))))
      (pss_one (ps_ret (pe_tup (pa_cons (pv 5) (pa_cons (pv 6) pa_nil))))))))), ?_⟩
    refine ⟨.ref d, rfl, .int mo, rfl, d, mo, rfl, hd, by omega, fun v1 H1 v10 v1m b1 d1 => ⟨1, v1, rfl, rfl, ?_⟩⟩
    obtain ⟨n, hn⟩ : ∃ n : Nat, 1 + v1 = (n : Int) := ⟨(1 + v1).toNat, by omega⟩
    show gName 3 (V.int (1 + v1)) _ _ _
    rw [hn]
    have n1 : 1 ≤ n := by omega
    have n8 : n ≤ 8 := by omega
    refine ⟨.int (n : Nat), rfl, (n : Nat), rfl, by omega, by omega, fun D hD => ?_⟩
    have dD : D ≠ d := d1.ne hD
    refine lc_range (lo := 0) (n := ((n : Int)).toNat) (fun i G => But d H1 G ∧ Draws G d ∧ ∃ (fas : List Addr) (Xs : List (List Int)), G D = some (.lst (fas.map V.ref)) ∧ fas.length = i ∧ FAt G fas Xs ∧ (∀ a ∈ fas, a ≠ d ∧ a ≠ D) ∧ ∀ X ∈ Xs, X.length ≤ 8 ∧ RowUp fc X)
      ⟨Same.but (Same.new hD), d1.same (Same.new hD), [], [], upd_same, rfl, FAt.nil _, fun a h => (by cases h), fun X h => (by cases h)⟩ ?_ ?_
    · rintro i G hi ⟨bG, dG, fas, Xs, gD, li, fa, ne, x8⟩
      rw [Int.toNat_natCast] at hi
      refine ⟨rfl, ?_⟩
      refine ⟨.int fc, rfl, fc, rfl, by omega, by omega, fun D2 hD2 => ?_⟩
      have dD2 : D2 ≠ d := dG.ne hD2
      have dDD : D2 ≠ D := fun e => by rw [e, gD] at hD2; cases hD2
      refine lc_range (lo := 0) (n := fc.toNat) (fun j G2 => But d G G2 ∧ Draws G2 d ∧ ∃ X : List Int, IL G2 D2 X ∧ X.length ≤ j ∧ RowUp j X)
        ⟨Same.but (Same.new hD2), dG.same (Same.new hD2), [], upd_same, Nat.le_refl 0, List.Pairwise.nil, fun x hx => (by cases hx)⟩ ?_ ?_
      · rintro j G2 hj ⟨bG2, dG2, X, gD2, lX, rX⟩
        refine ⟨rfl, ?_⟩
        refine ⟨.ref d, rfl, d, 2, rfl, dG2, by decide, fun v2 H2 v20 v22 b2 d2 => ⟨rfl, _, rfl, ?_⟩⟩
        have gD2' := b2 _ _ dD2 gD2
        refine ite2 (fun c => ?_) (fun c => ?_)
        · refine ⟨_, rfl, _, gD2', by rw [List.length_map]; exact small1000 (by omega), fun b o nb e => ?_, ?_, X ++ [0 + (j : Int)], ?_, by rw [List.length_append]; exact Nat.succ_le_succ lX, ?_⟩
          · rw [upd_ne (ne_of_none e hD2)]
            exact b2 _ _ nb (bG2 _ _ nb e)
          · obtain ⟨ds, e⟩ := d2
            exact ⟨ds, by rw [upd_ne dD2.symm]; exact e⟩
          · show _ = _
            rw [upd_same, List.map_append]
            rfl
          · refine ⟨List.pairwise_append.mpr ⟨rX.1, List.pairwise_singleton _ _, fun a ha b hb => ?_⟩, fun x hx => ?_⟩
            · rw [List.mem_singleton.mp hb]
              have := (rX.2 a ha).2
              omega
            · rcases List.mem_append.mp hx with hx | hx
              · have := rX.2 x hx
                omega
              · rw [List.mem_singleton.mp hx]
                omega
        · exact ⟨bG2.trans b2, d2, X, gD2', Nat.le_succ_of_le lX, rX.1, fun x hx => by have := rX.2 x hx; omega⟩
      · rintro G2 ⟨bG2, dG2, X, gD2, lX, rX⟩
        have gD' := bG2 _ _ dD gD
        refine ⟨_, gD', by rw [List.length_map]; exact small1000 (by omega), fun b o nb e => ?_, ?_, fas ++ [D2], Xs ++ [X], by rw [upd_same, List.map_append]; rfl, by rw [List.length_append, li]; rfl, FAt.snoc (fa.map fun a o ha e => ?_) ?_, fun a ha => ?_, fun Y hY => ?_⟩
        · rw [upd_ne (ne_of_none e hD)]
          exact bG2 _ _ nb (bG _ _ nb e)
        · obtain ⟨ds, e⟩ := dG2
          exact ⟨ds, by rw [upd_ne dD.symm]; exact e⟩
        · rw [upd_ne (ne a ha).2]
          exact bG2 _ _ (ne a ha).1 e
        · show _ = _
          rw [upd_ne dDD]
          exact gD2
        · rcases List.mem_append.mp ha with ha | ha
          · exact ne a ha
          · rw [List.mem_singleton.mp ha]
            exact ⟨dD2, dDD⟩
        · rcases List.mem_append.mp hY with hY | hY
          · exact x8 Y hY
          · rw [List.mem_singleton.mp hY]
            refine ⟨by omega, rX.1, fun x hx => ?_⟩
            have := rX.2 x hx
            omega
    · rintro G0 ⟨bG0, dG0, fas, Xs, gD, li, fa, ne, x8⟩
      rw [Int.toNat_natCast] at li
      refine ⟨Nat.zero_le _, fun L hL => ?_⟩
      have s2 := Same.new (o := .lst []) hL
      have dL : L ≠ d := dG0.ne hL
      have bH := bG0.trans (Same.but s2)
      refine ⟨.int (n : Nat), rfl, (n : Nat), rfl, by omega, by omega, ?_⟩
      refine for_range (lo := 0) (n := ((n : Int)).toNat) (fun i σ G => ∃ (y4 y7 y8 y9 : Option V) (pas : List Addr) (ps : List (Int × Int × Int)), σ = [some (.ref d), some (.int mo), some (.int fc), some (.int (n : Nat)), y4, some (.ref D), some (.ref L), y7, y8, y9] ∧
          But d G0 G ∧ Draws G d ∧ G L = some (.lst (pas.map V.ref)) ∧ PAt G pas ps ∧ (∀ a ∈ pas, a ≠ d ∧ a ≠ L) ∧ ps.length ≤ i * 16 ∧ ps.Pairwise (fun x y => lex3 x y = true) ∧ ∀ p ∈ ps, StUp n ((i : Int), 0, 0) p)
        ⟨_, _, _, _, [], [], rfl, Same.but s2, dG0.same s2, upd_same, PAt.nil _, fun a h => (by cases h), Nat.zero_le _, List.Pairwise.nil, fun p h => (by cases h)⟩ ?_ ?_
      · rintro i σ G hi ⟨y4, y7, y8, y9, pas, ps, rfl, bG, dG, gL, pAt, ne2, pl, pw, pg⟩
        rw [Int.toNat_natCast] at hi
        refine ⟨2, rfl, by omega, by omega, ?_⟩
        refine for_range (lo := 0) (n := 2) (fun j σ G => ∃ (y7 y8 y9 : Option V) (pas : List Addr) (ps : List (Int × Int × Int)), σ = [some (.ref d), some (.int mo), some (.int fc), some (.int (n : Nat)), some (.int (0 + (i : Int))), some (.ref D), some (.ref L), y7, y8, y9] ∧
            But d G0 G ∧ Draws G d ∧ G L = some (.lst (pas.map V.ref)) ∧ PAt G pas ps ∧ (∀ a ∈ pas, a ≠ d ∧ a ≠ L) ∧ ps.length ≤ i * 16 + j * 8 ∧ ps.Pairwise (fun x y => lex3 x y = true) ∧ ∀ p ∈ ps, StUp n ((i : Int), (j : Int), 0) p)
          ⟨_, _, _, pas, ps, rfl, bG, dG, gL, pAt, ne2, pl, pw, pg⟩ ?_ ?_
        · clear bG dG gL pAt ne2 pl pw pg
          rintro j σ G hj ⟨y7, y8, y9, pas, ps, rfl, bG, dG, gL, pAt, ne2, pl, pw, pg⟩
          refine ⟨.int (n : Nat), rfl, (n : Nat), rfl, by omega, by omega, ?_⟩
          refine for_range (lo := 0) (n := ((n : Int)).toNat) (fun o σ G => ∃ (y8 y9 : Option V) (pas : List Addr) (ps : List (Int × Int × Int)), σ = [some (.ref d), some (.int mo), some (.int fc), some (.int (n : Nat)), some (.int (0 + (i : Int))), some (.ref D), some (.ref L), some (.int (0 + (j : Int))), y8, y9] ∧
              But d G0 G ∧ Draws G d ∧ G L = some (.lst (pas.map V.ref)) ∧ PAt G pas ps ∧ (∀ a ∈ pas, a ≠ d ∧ a ≠ L) ∧ ps.length ≤ i * 16 + j * 8 + o ∧ ps.Pairwise (fun x y => lex3 x y = true) ∧ ∀ p ∈ ps, StUp n ((i : Int), (j : Int), (o : Int)) p)
            ⟨_, _, pas, ps, rfl, bG, dG, gL, pAt, ne2, pl, pw, pg⟩ ?_ ?_
          · clear bG dG gL pAt ne2 pl pw pg
            rintro o σ G ho ⟨y8, y9, pas, ps, rfl, bG, dG, gL, pAt, ne2, pl, pw, pg⟩
            rw [Int.toNat_natCast] at ho
            refine ⟨.ref d, rfl, .int (n : Nat), rfl, 2, _, rfl, rfl, d, _, rfl, dG, by omega, fun v3 H3 v30 v3m b3 d3 => ⟨_, _, rfl, rfl, _, rfl, ?_⟩⟩
            have gL3 := b3 _ _ dL gL
            refine ite2 (fun c => ?_) (fun c => ?_)
            · refine ⟨.ref L, rfl, .inl ⟨rfl, _, SqL.of gL3⟩, _, rfl, _, rfl, _, rfl, by show 3 ≤ sizeLine; decide, fun p hp => ?_⟩
              have s4 := Same.new (o := .tup [.int (0 + (i : Int)), .int (0 + (j : Int)), .int (0 + (o : Int))]) hp
              have gL4 := s4 _ _ gL3
              have pd : p ≠ d := d3.ne hp
              have pL : p ≠ L := fun e => by rw [e, gL3] at hp; cases hp
              refine ⟨L, _, _, rfl, rfl, gL4, by rw [List.length_map, pAt.1]; exact small1000 (by omega), ?_⟩
              refine ⟨_, _, pas ++ [p], ps ++ [(0 + (i : Int), 0 + (j : Int), 0 + (o : Int))], rfl, fun b u nb e => ?_, ?_, by rw [upd_same, List.map_append]; rfl, PAt.snoc (pAt.map fun a u ha e => ?_) ?_, fun a ha => ?_, by rw [List.length_append, List.length_singleton]; omega, ?_, fun q hq => ?_⟩
              · rw [upd_ne (ne_of_none e hL)]
                exact s4 _ _ (b3 _ _ nb (bG _ _ nb e))
              · obtain ⟨ds, e⟩ := d3.same s4
                exact ⟨ds, by rw [upd_ne dL.symm]; exact e⟩
              · rw [upd_ne (ne2 a ha).2]
                exact s4 _ _ (b3 _ _ (ne2 a ha).1 e)
              · rw [upd_ne pL]
                exact upd_same
              · rcases List.mem_append.mp ha with ha | ha
                · exact ne2 a ha
                · rw [List.mem_singleton.mp ha]
                  exact ⟨pd, pL⟩
              · refine List.pairwise_append.mpr ⟨pw, List.pairwise_singleton _ _, fun a ha b hb => ?_⟩
                rw [List.mem_singleton.mp hb, Int.zero_add, Int.zero_add, Int.zero_add]
                exact (pg a ha).2.2.2.2.2.2
              · rcases List.mem_append.mp hq with hq | hq
                · exact (pg q hq).up fun z => by unfold Lt3 at *; simp only at *; omega
                · rw [List.mem_singleton.mp hq, Int.zero_add, Int.zero_add, Int.zero_add]
                  refine ⟨by simp only; omega, by simp only; omega, by simp only; omega, by simp only; omega, by simp only; omega, by simp only; omega, lex3_iff.mpr ?_⟩
                  exact .inr ⟨rfl, .inr ⟨rfl, by show (o : Int) < ((o + 1 : Nat) : Int); omega⟩⟩
            · exact ⟨_, _, pas, ps, rfl, bG.trans b3, d3, gL3, pAt.map fun a u ha e => b3 _ _ (ne2 a ha).1 e, ne2, by omega, pw, fun q hq => (pg q hq).up fun z => by unfold Lt3 at *; simp only at *; omega⟩
          · rintro σ G ⟨y8, y9, pas, ps, rfl, bG, dG, gL, pAt, ne2, pl, pw, pg⟩
            rw [Int.toNat_natCast] at pl pg
            exact ⟨_, _, _, pas, ps, rfl, bG, dG, gL, pAt, ne2, by omega, pw, fun q hq => (pg q hq).up fun z => by unfold Lt3 at *; simp only at *; omega⟩
        · rintro σ G ⟨y7, y8, y9, pas, ps, rfl, bG, dG, gL, pAt, ne2, pl, pw, pg⟩
          exact ⟨_, _, _, _, pas, ps, rfl, bG, dG, gL, pAt, ne2, by omega, pw, fun q hq => (pg q hq).up fun z => by have := (pg q hq).2.2.2.1; unfold Lt3 at *; simp only at *; omega⟩
      · rintro σ G ⟨y4, y7, y8, y9, pas, ps, rfl, bG, dG, gL, pAt, ne2, pl, pw, pg⟩
        rw [Int.toNat_natCast] at pl pg
        refine ⟨_, rfl, _, rfl, by show 2 ≤ sizeLine; decide, fun p hp => ?_⟩
        have s5 := Same.new (o := .tup [.ref D, .ref L]) hp
        have eL : Xs.length = n := by rw [← fa.1]; exact li
        refine k p D L fas pas ⟨Xs, ps⟩ _ (b1.trans ((bG0.trans bG).trans (Same.but s5))) (dG.same s5) ⟨upd_same, s5 _ _ (bG _ _ dD gD), s5 _ _ gL, fa.map fun a u ha e => s5 _ _ (bG _ _ (ne a ha).1 e), pAt.map fun a u _ e => s5 _ _ e⟩ dD dL (fun a ha => (ne a ha).1) ⟨?_, ?_, ?_, ?_, fun X hX => (x8 X hX).1⟩ ⟨fun X hX => (x8 X hX).2, pw, fun q hq => ?_⟩ (by show ((Xs.length : Nat) : Int) ≤ mo; omega)
        · intro q hq
          show 0 ≤ q.2.2 ∧ q.2.2 < ((Xs.length : Nat) : Int)
          rw [eL]
          have := pg q hq
          exact ⟨this.2.2.2.2.1, this.2.2.2.2.2.1⟩
        · show 1 ≤ Xs.length
          omega
        · show Xs.length ≤ 8
          omega
        · show ps.length ≤ 200
          omega
        · show StUp Xs.length (((Xs.length : Nat) : Int), 0, 0) q
          rw [eL]
          exact pg q hq
/-! ### where the steps lead -/
/-- lists or tuples -/
abbrev Sq (K : PySem.W.Frag) (H : Hp) (a : Addr) (xs : List V) : Prop := SqL K H a xs ∨ SqT K H a xs
theorem Sq.same {K : PySem.W.Frag} {H H' : Hp} {a : Addr} {xs : List V} (z : Same H H') (h : Sq K H a xs) : Sq K H' a xs := h.imp (SqL.keepAt fun o e => z a o e) (SqT.same z)
structure WSx (K : PySem.W.Frag) (H : Hp) (wa sa pa : Addr) (fas pas : List Addr) (W : Wd) : Prop where
  w : H wa = some (.tup [.ref sa, .ref pa])
  s : Sq K H sa (fas.map V.ref)
  p : Sq K H pa (pas.map V.ref)
  f : fas.length = W.facts.length ∧ ∀ (i : Nat) (a : Addr) (X : List Int), fas[i]? = some a → W.facts[i]? = some X → Sq K H a (X.map V.int)
  t : PAt H pas W.steps
def WSt (K : PySem.W.Frag) (H : Hp) (v : V) (W : Wd) : Prop := ∃ (wa sa pa : Addr) (fas pas : List Addr), v = .ref wa ∧ WSx K H wa sa pa fas pas W
theorem WSx.same {K : PySem.W.Frag} {H H' : Hp} {wa sa pa : Addr} {fas pas : List Addr} {W : Wd} (z : Same H H') (h : WSx K H wa sa pa fas pas W) : WSx K H' wa sa pa fas pas W :=
  ⟨z _ _ h.w, h.s.same z, h.p.same z, ⟨h.f.1, fun i a X e1 e2 => (h.f.2 i a X e1 e2).same z⟩, ⟨h.t.1, fun i a X e1 e2 => z _ _ (h.t.2 i a X e1 e2)⟩⟩
theorem WSt.same {K : PySem.W.Frag} {H H' : Hp} {v : V} {W : Wd} (z : Same H H') (h : WSt K H v W) : WSt K H' v W := by
  obtain ⟨wa, sa, pa, fas, pas, e, x⟩ := h
  exact ⟨wa, sa, pa, fas, pas, e, x.same z⟩
theorem WAx.gen {K : PySem.W.Frag} {H : Hp} {wa sa pa : Addr} {fas pas : List Addr} {W : Wd} (h : WAx H wa sa pa fas pas W) : WSx K H wa sa pa fas pas W :=
  ⟨h.w, .inl (SqL.of h.s), .inl (SqL.of h.p), ⟨h.f.1, fun i a X e1 e2 => .inl (SqL.of (h.f.2 i a X e1 e2))⟩, h.t⟩
/-- the size of a world that is walked -/
structure Wd.Fix (W : Wd) : Prop where
  n16 : W.n ≤ 16
  st : W.steps.length ≤ 400
theorem pe_alt {X : Cx} {e : Expr} {t1 t2 : TE} (h1 : PE X e t1) (h2 : PE X e t2) : PE X e (fun σ H Q => t1 σ H Q ∨ t2 σ H Q) :=
  ⟨fun pins s σ H Q I h => h.elim (h1.run pins s σ H Q I) (h2.run pins s σ H Q I)⟩
def spBehind (K : PySem.W.Frag) : Sp := fun vs H Q _ => ∃ (v : V) (W : Wd) (s l : Int), vs = [v, .int s, .int l] ∧ WSt K H v W ∧ W.steps.length ≤ 400 ∧
  ∀ (b : Addr) H', Same H H' → H b = none → IL H' b (W.beh s l) → Q (.ref b) H'
theorem beh_snoc (ps : List (Int × Int × Int)) (p : Int × Int × Int) (s l : Int) :
    ((ps ++ [p]).filter fun p => decide (p.1 = s) && decide (p.2.1 = l)).map (fun p => p.2.2) = (ps.filter fun p => decide (p.1 = s) && decide (p.2.1 = l)).map (fun p => p.2.2) ++ (if (decide (p.1 = s) && decide (p.2.1 = l)) = true then [p.2.2] else []) := by
  rw [List.filter_append, List.map_append]
  congr 1
  cases c : decide (p.1 = s) && decide (p.2.1 = l)
  · simp [c]
  · simp [c]
theorem ok_law_behind {f : Addr} {fd : FuncData} (FF : Fun K "_law_behind" "_law_behind" s_law_behind f fd) (T : Txt K mg C J B) : FnOk P w K mg base CX0 1 f fd a_law_behind (spBehind K) := by
  refine FF.ok sc_law_behind (fun vs H Q E h => ?_) (fun cdv A outer s H vs Q E hr h => ?_)
  · obtain ⟨v, W, s, l, rfl, _⟩ := h
    rfl
  · obtain ⟨v, W, x, l, rfl, hW, hs, k⟩ := h
    refine ⟨_, (pss_one (ps_ret (pe_alt (pe_lc (own := [("step", 3)]) (g := gName 3) rfl sc_law_behind.nd (pi_list (pe_ix ix_tup (pv 0) pe_int (fun _ _ => rfl))) (blkOk_by (own := [("step", 3)]) (N := n_law_behind) (sc := defScope s_law_behind) (by decide +kernel)) (fun _ _ _ _ _ => (pg_name (i := 3) sc_law_behind.nd rfl (.inl rfl))) (fun _ _ _ _ _ => (pts_one (PW.pt (pw_and (pt_cmpR op_eq (pe_ix (@id (IxR _ (rIxT K)) ix_tup) (pv 3) pe_int (fun _ _ => rfl)) (pv 1) (nomark _)) (pw_and1 (pt_cmpR op_eq (pe_ix (@id (IxR _ (rIxT K)) ix_tup) (pv 3) pe_int (fun _ _ => rfl)) (pv 2) (nomark _))))))) (fun _ _ _ _ _ => (pe_ix (@id (IxR _ (rIxT K)) ix_tup) (pv 3) pe_int (fun _ _ => rfl)))) (pe_lc (own := [("step", 3)]) (g := gName 3) rfl sc_law_behind.nd (pi_tup (pe_ix ix_tup (pv 0) pe_int (fun _ _ => rfl))) (blkOk_by (own := [("step", 3)]) (N := n_law_behind) (sc := defScope s_law_behind) (by decide +kernel)) (fun _ _ _ _ _ => (pg_name (i := 3) sc_law_behind.nd rfl (.inl rfl))) (fun _ _ _ _ _ => (pts_one (PW.pt (pw_and (pt_cmpR op_eq (pe_ix (@id (IxR _ (rIxT K)) ix_tup) (pv 3) pe_int (fun _ _ => rfl)) (pv 1) (nomark _)) (pw_and1 (pt_cmpR op_eq (pe_ix (@id (IxR _ (rIxT K)) ix_tup) (pv 3) pe_int (fun _ _ => rfl)) (pv 2) (nomark _))))))) (fun _ _ _ _ _ => (pe_ix (@id (IxR _ (rIxT K)) ix_tup) (pv 3) pe_int (fun _ _ => rfl))))))), ?_⟩
    obtain ⟨wa, sa, pa, fas, pas, rfl, X⟩ := hW
    rcases X.p with hp | hp
    · refine .inl ⟨.ref wa, rfl, wa, _, _, .ref pa, rfl, rfl, SqT.of X.w, rfl, pa, rfl, ⟨_, hp⟩, fun D hD => ?_⟩
      refine lc_list (xs := pas.map V.ref) (fun i G => Same H G ∧ IL G D (((W.steps.take i).filter fun p => decide (p.1 = x) && decide (p.2.1 = l)).map fun p => p.2.2)) ⟨Same.new hD, upd_same⟩ (fun i G _ q => SqL.keepAt (fun o e => q.1 _ o e) hp) ?_ ?_
      · rintro i y G hy ⟨sG, gD⟩
        have XG := X.same sG
        obtain ⟨a, ha, rfl⟩ : ∃ a, pas[i]? = some a ∧ V.ref a = y := by
          rw [List.getElem?_map] at hy
          cases e : pas[i]? with
          | none => rw [e] at hy; cases hy
          | some a => rw [e] at hy; exact ⟨a, rfl, Option.some.inj hy⟩
        have il : i < W.steps.length := by rw [← X.t.1]; exact get_len ha
        obtain ⟨p, hp⟩ : ∃ p, W.steps[i]? = some p := ⟨W.steps[i], by simp [il]⟩
        have at_ := XG.t.2 i a p ha hp
        have nx : (W.steps.take (i + 1)) = W.steps.take i ++ [p] := by rw [List.take_add_one, hp]; rfl
        have sz : (((W.steps.take i).filter fun p => decide (p.1 = x) && decide (p.2.1 = l)).map fun p => p.2.2).length ≤ 400 := by
          rw [List.length_map]
          refine Nat.le_trans (List.length_filter_le _ _) ?_
          rw [List.length_take]
          omega
        rw [nx, beh_snoc]
        refine ⟨rfl, ?_⟩
        refine ⟨.ref a, rfl, a, _, _, _, rfl, rfl, SqT.of at_, rfl, .int x, rfl, rfl, _, rfl, ?_⟩
        by_cases c1 : p.1 = x
        · refine (if_pos (decide_eq_true (congrArg V.int c1))).mpr ?_
          refine ⟨.ref a, rfl, a, _, _, _, rfl, rfl, SqT.of at_, rfl, .int l, rfl, rfl, _, rfl, ?_⟩
          by_cases c2 : p.2.1 = l
          · refine (if_pos (decide_eq_true (congrArg V.int c2))).mpr ?_
            refine ⟨.ref a, rfl, a, _, _, _, rfl, rfl, SqT.of at_, rfl, _, gD, by rw [List.length_map]; exact small1000 (by omega), fun b o e => by rw [upd_ne (ne_of_none e hD)]; exact sG b o e, ?_⟩
            show _ = _
            rw [upd_same, decide_eq_true c1, decide_eq_true c2, List.map_append]
            rfl
          · refine (if_neg (by rw [decide_eq_false (fun e : V.int p.2.1 = V.int l => c2 (by injection e))]; exact Bool.false_ne_true)).mpr ?_
            refine ⟨sG, ?_⟩
            rw [decide_eq_false c2, Bool.and_false, if_neg Bool.false_ne_true, List.append_nil]
            exact gD
        · refine (if_neg (by rw [decide_eq_false (fun e : V.int p.1 = V.int x => c1 (by injection e))]; exact Bool.false_ne_true)).mpr ?_
          refine ⟨sG, ?_⟩
          rw [decide_eq_false c1, Bool.false_and, if_neg Bool.false_ne_true, List.append_nil]
          exact gD
      · rintro G ⟨sG, gD⟩
        rw [List.length_map, X.t.1, List.take_length] at gD
        exact k D G sG hD gD
    · refine .inr ⟨.ref wa, rfl, wa, _, _, .ref pa, rfl, rfl, SqT.of X.w, rfl, pa, rfl, ⟨_, hp⟩, fun D hD => ?_⟩
      refine lc_tup (xs := pas.map V.ref) (fun i G => Same H G ∧ IL G D (((W.steps.take i).filter fun p => decide (p.1 = x) && decide (p.2.1 = l)).map fun p => p.2.2)) ⟨Same.new hD, upd_same⟩ (fun i G _ q => SqT.same q.1 hp) ?_ ?_
      · rintro i y G hy ⟨sG, gD⟩
        have XG := X.same sG
        obtain ⟨a, ha, rfl⟩ : ∃ a, pas[i]? = some a ∧ V.ref a = y := by
          rw [List.getElem?_map] at hy
          cases e : pas[i]? with
          | none => rw [e] at hy; cases hy
          | some a => rw [e] at hy; exact ⟨a, rfl, Option.some.inj hy⟩
        have il : i < W.steps.length := by rw [← X.t.1]; exact get_len ha
        obtain ⟨p, hp⟩ : ∃ p, W.steps[i]? = some p := ⟨W.steps[i], by simp [il]⟩
        have at_ := XG.t.2 i a p ha hp
        have nx : (W.steps.take (i + 1)) = W.steps.take i ++ [p] := by rw [List.take_add_one, hp]; rfl
        have sz : (((W.steps.take i).filter fun p => decide (p.1 = x) && decide (p.2.1 = l)).map fun p => p.2.2).length ≤ 400 := by
          rw [List.length_map]
          refine Nat.le_trans (List.length_filter_le _ _) ?_
          rw [List.length_take]
          omega
        rw [nx, beh_snoc]
        refine ⟨rfl, ?_⟩
        refine ⟨.ref a, rfl, a, _, _, _, rfl, rfl, SqT.of at_, rfl, .int x, rfl, rfl, _, rfl, ?_⟩
        by_cases c1 : p.1 = x
        · refine (if_pos (decide_eq_true (congrArg V.int c1))).mpr ?_
          refine ⟨.ref a, rfl, a, _, _, _, rfl, rfl, SqT.of at_, rfl, .int l, rfl, rfl, _, rfl, ?_⟩
          by_cases c2 : p.2.1 = l
          · refine (if_pos (decide_eq_true (congrArg V.int c2))).mpr ?_
            refine ⟨.ref a, rfl, a, _, _, _, rfl, rfl, SqT.of at_, rfl, _, gD, by rw [List.length_map]; exact small1000 (by omega), fun b o e => by rw [upd_ne (ne_of_none e hD)]; exact sG b o e, ?_⟩
            show _ = _
            rw [upd_same, decide_eq_true c1, decide_eq_true c2, List.map_append]
            rfl
          · refine (if_neg (by rw [decide_eq_false (fun e : V.int p.2.1 = V.int l => c2 (by injection e))]; exact Bool.false_ne_true)).mpr ?_
            refine ⟨sG, ?_⟩
            rw [decide_eq_false c2, Bool.and_false, if_neg Bool.false_ne_true, List.append_nil]
            exact gD
        · refine (if_neg (by rw [decide_eq_false (fun e : V.int p.1 = V.int x => c1 (by injection e))]; exact Bool.false_ne_true)).mpr ?_
          refine ⟨sG, ?_⟩
          rw [decide_eq_false c1, Bool.false_and, if_neg Bool.false_ne_true, List.append_nil]
          exact gD
      · rintro G ⟨sG, gD⟩
        rw [List.length_map, X.t.1, List.take_length] at gD
        exact k D G sG hD gD
end
end Fw

set_option maxRecDepth 100000
set_option maxHeartbeats 4000000
namespace Fw
open PySem PySem.Spec PyProof.Rows L2 GxR
/-- a row of ints, or of triples, and whether it ascends -/
inductive RowA (H : Hp) : List V → Bool → Prop
  | i (ns : List Int) : RowA H (ns.map V.int) (asc ltI ns)
  | t {as : List Addr} {ts : List T3} : PAt H as ts → RowA H (as.map V.ref) (asc lex3 ts)
abbrev genSc : Stmt → Scope
  | .FunctionDef (body := [.Return (some (.Call _ [.GeneratorExp _ _ sc _] _ _)) _]) .. => sc
  | _ => default
abbrev genEl : Stmt → Expr
  | .FunctionDef (body := [.Return (some (.Call _ [.GeneratorExp e _ _ _] _ _)) _]) .. => e
  | _ => .Constant .none 0 ⟨0, 0, 0, 0⟩
theorem asc_free : ∀ y ∈ (genSc s_ascends).names, y.2 ≠ .free := by decide +kernel
theorem map_tail {α β : Type} (f : α → β) : ∀ l : List α, (l.map f).tail = l.tail.map f
  | [] => rfl
  | _ :: _ => rfl
theorem cut_tail (xs : List V) : cutV xs (some 1) none = xs.tail := by
  cases xs with
  | nil => rfl
  | cons x xs =>
    unfold cutV
    rw [HT.sIx_none, show (1 : Int) = ((1 : Nat) : Int) from rfl, HT.sIx_nat]
    rw [List.length_cons, Nat.min_eq_left (by omega)]
    show (xs.take (xs.length + 1 - 1)) = xs
    rw [Nat.add_sub_cancel, List.take_length]
section
variable {P : Program} {w : World} {K : PySem.W.Frag} {mg : Str → Option Value} {base : Heap} {C J B NC WC cA tA : Addr} {t1 t2 t3 : Tok}
def spAsc (K : PySem.W.Frag) (tA : Addr) : Sp := fun vs H Q _ => ∃ (a : Addr) (xs : List V) (r : Bool), vs = [.ref a] ∧ SqT K H a xs ∧ TabG H tA ∧ RowA H xs r ∧ ∀ H', Tb tA H H' → Q (.bl r) H'
theorem ok_ascends {f : Addr} {fd : FuncData} (FF : FunC K "ascends" "ascends" s_ascends f fd cA) (T : Txt K mg C J B) (TB : TabB base mg cA tA) : FnOk P w K mg base CX0 4 f fd a_ascends (spAsc K tA) := by
  refine FF.ok sc_ascends (fun vs H Q E h => ?_) (fun A outer s H vs Q E hr h => ?_)
  · obtain ⟨a, xs, r, rfl, _⟩ := h
    rfl
  · obtain ⟨a, xs, r, rfl, sq, tg, ra, k⟩ := h
    have gs2 : GenS2 (envOfC "ascends" (defScope s_ascends) s.heap.objs.size f (.ref cA)) (genSc s_ascends) "low" "high" := ⟨rfl, rfl, by decide +kernel, rfl, rfl, rfl, fun y hy e => absurd e (asc_free y hy)⟩
    refine ⟨_, (pss_one (ps_ret (pe_allZ hr TB rfl gs2 (by decide) rfl T.z_all rfl T.z_zip (pa_cons (pv 0) (pa_cons (pe_slice sl_tupA (pv 0) (po_some pe_int) po_none) pa_nil))))), ?_⟩
    -- from the tail on, wherever it stands
    have go : ∀ (q : Addr) (G : Hp), Same H G → SqT K G q xs.tail → ∃ rs : List Bool, EltsZ (cxOf CX0 P w K mg base n_ascends "ascends" (defScope s_ascends) f (.ref cA) A outer s H E).nox (genSc s_ascends) "low" "high" (genEl s_ascends) tA G xs xs.tail rs ∧ rs.all id = r := by
      intro q G sG sqt
      cases ra with
      | i ns =>
        refine ⟨adj ltI ns, ⟨?_, fun s' pins σ I i x y r hx hy hr' => ?_⟩, adj_asc ltI ns⟩
        · rw [adj_len, map_tail, List.length_map, List.length_map]
        · obtain ⟨x', y', e1, e2, rfl⟩ := adj_get hr'
          rw [map_tail, List.getElem?_map, e2] at hy
          rw [List.getElem?_map, e1] at hx
          cases hx
          cases hy
          exact eltZ_lt_int x' y' rfl rfl rfl
      | @t as ts pa =>
        have pa' : PAt G as ts := pa.map fun a o _ e => sG a o e
        refine ⟨adj lex3 ts, ⟨?_, fun s' pins σ I i x y r hx hy hr' => ?_⟩, adj_asc lex3 ts⟩
        · rw [adj_len, map_tail, List.length_map, List.length_map, List.length_tail, List.length_tail, pa.1]
        · obtain ⟨x', y', e1, e2, rfl⟩ := adj_get hr'
          rw [map_tail, List.getElem?_map] at hy
          rw [List.getElem?_map] at hx
          cases ex : as[i]? with
          | none => rw [ex] at hx; cases hx
          | some u =>
          cases ey : as.tail[i]? with
          | none => rw [ey] at hy; cases hy
          | some v =>
          rw [ex] at hx
          rw [ey] at hy
          cases hx
          cases hy
          rw [List.getElem?_tail] at ey e2
          exact eltZ_lt_trip I (tg.same sG) (by have := hr.un; show (A.deeper (envOfC "ascends" (defScope s_ascends) s.heap.objs.size f (.ref cA))).units + 8 < _; omega) (pa'.2 _ _ _ ex e1) (pa'.2 _ _ _ ey e2) rfl rfl rfl
    refine ⟨.ref a, rfl, .ref a, rfl, 1, rfl, a, xs, rfl, sq, fun hw => ?_, fun _ q hq => ?_⟩
    · have e : xs.tail = xs := by
        have h1 := hw.1
        cases xs with
        | nil => rfl
        | cons x xs =>
          rw [show (1 : Int) = ((1 : Nat) : Int) from rfl, HT.sIx_nat, List.length_cons, Nat.min_eq_left (by omega)] at h1
          cases h1
      obtain ⟨rs, el, er⟩ := go a H (fun _ _ e => e) (by rw [e]; exact sq)
      rw [e] at el
      refine ⟨a, a, xs, xs, rs, rfl, .inr ⟨sq, sq⟩, tg, el, fun H2 t2 => ?_⟩
      rw [er]
      exact k H2 (tabbed_tb t2)
    · have s1 := Same.new (o := .tup (cutV xs (some 1) none)) hq
      obtain ⟨rs, el, er⟩ := go q _ s1 (SqT.of (by rw [upd_same, cut_tail]))
      refine ⟨a, q, xs, xs.tail, rs, rfl, .inr ⟨SqT.same s1 sq, SqT.of (by rw [upd_same, cut_tail])⟩, tg.same s1, el, fun H2 t2 => ?_⟩
      rw [er]
      exact k H2 ((Tb.same s1 tg).trans (tabbed_tb t2))
end
end Fw

set_option maxRecDepth 100000
set_option maxHeartbeats 4000000
namespace Fw
open PySem PySem.Spec PyProof.Rows L2 GxR
def RAt (K : PySem.W.Frag) (H : Hp) (as : List Addr) (Xs : List (List Int)) : Prop := as.length = Xs.length ∧ ∀ (i : Nat) (a : Addr) (X : List Int), as[i]? = some a → Xs[i]? = some X → SqT K H a (X.map V.int)
def wf (l f : Int) (ta tb : Addr) : List (Str × V) := [("labels", .int l), ("facts", .int f), ("states", .ref ta), ("steps", .ref tb)]
/-- a world being made: its parts, without its ends -/
structure WoA (K : PySem.W.Frag) (WC : Addr) (H : Hp) (p dx : Addr) (l f : Int) (ta tb : Addr) (ras as : List Addr) (Xs : List (List Int)) (ss : List T3) : Prop where
  ob : H p = some (.ins WC dx (wf l f ta tb))
  st : SqT K H ta (ras.map V.ref)
  rw : RAt K H ras Xs
  sp : SqT K H tb (as.map V.ref)
  tr : PAt H as ss
theorem RAt.tb {K : PySem.W.Frag} {P : Addr} {H H' : Hp} {as : List Addr} {Xs : List (List Int)} (g : TabG H P) (t : Tb P H H') (h : RAt K H as Xs) : RAt K H' as Xs := ⟨h.1, fun i a X e1 e2 => SqT.tb g t (h.2 i a X e1 e2)⟩
theorem PAt.tb {P : Addr} {H H' : Hp} {as : List Addr} {ts : List T3} (g : TabG H P) (t : Tb P H H') (h : PAt H as ts) : PAt H' as ts :=
  ⟨h.1, fun i a p e1 e2 => t.1 _ _ (g.ne (h.2 i a p e1 e2) (by intro _ z; cases z)) (h.2 i a p e1 e2)⟩
theorem WoA.tb {K : PySem.W.Frag} {WC P : Addr} {H H' : Hp} {p dx : Addr} {l f : Int} {ta tb : Addr} {ras as : List Addr} {Xs : List (List Int)} {ss : List T3} (g : TabG H P) (t : Tb P H H') (h : WoA K WC H p dx l f ta tb ras as Xs ss) : WoA K WC H' p dx l f ta tb ras as Xs ss :=
  ⟨t.1 _ _ (g.ne h.ob (by intro _ z; cases z)) h.ob, SqT.tb g t h.st, h.rw.tb g t, SqT.tb g t h.sp, h.tr.tb g t⟩
theorem all_take {α : Type} {l : List α} {q : α → Bool} (h : ∀ (i : Nat) (x : α), l[i]? = some x → q x = true) : l.all q = true := List.all_eq_true.mpr fun x hx => by
  obtain ⟨i, hi, e⟩ := List.getElem_of_mem hx
  exact h i x (by rw [List.getElem?_eq_getElem hi, e])
theorem all_no {α : Type} {l : List α} {q : α → Bool} {i : Nat} {x : α} (h : l[i]? = some x) (n : q x = false) : l.all q = false := by
  cases e : l.all q with
  | false => rfl
  | true =>
    have := List.all_eq_true.mp e x (List.mem_of_getElem? h)
    rw [n] at this
    cases this
theorem RAt.nth {K : PySem.W.Frag} {H : Hp} {as : List Addr} {Xs : List (List Int)} (h : RAt K H as Xs) {i : Nat} {x : V} (e : (as.map V.ref)[i]? = some x) : ∃ a X, x = .ref a ∧ as[i]? = some a ∧ Xs[i]? = some X ∧ SqT K H a (X.map V.int) := by
  rw [List.getElem?_map] at e
  cases q : as[i]? with
  | none => rw [q] at e; cases e
  | some a =>
    rw [q] at e
    have il : i < Xs.length := by rw [← h.1]; exact (List.getElem?_eq_some_iff.mp q).1
    exact ⟨a, Xs[i], (Option.some.inj e).symm, rfl, List.getElem?_eq_getElem il, h.2 i a _ q (List.getElem?_eq_getElem il)⟩
theorem PAt.nth {H : Hp} {as : List Addr} {ss : List T3} (h : PAt H as ss) {i : Nat} {x : V} (e : (as.map V.ref)[i]? = some x) : ∃ a p, x = .ref a ∧ as[i]? = some a ∧ ss[i]? = some p ∧ H a = some (.tup [.int p.1, .int p.2.1, .int p.2.2]) := by
  rw [List.getElem?_map] at e
  cases q : as[i]? with
  | none => rw [q] at e; cases e
  | some a =>
    rw [q] at e
    have il : i < ss.length := by rw [← h.1]; exact (List.getElem?_eq_some_iff.mp q).1
    exact ⟨a, ss[i], (Option.some.inj e).symm, rfl, List.getElem?_eq_getElem il, h.2 i a _ q (List.getElem?_eq_getElem il)⟩
section
variable {P : Program} {w : World} {K : PySem.W.Frag} {mg : Str → Option Value} {base : Heap} {C J B NC WC cA tA : Addr} {t1 t2 t3 : Tok}
def spCkN (NC : Addr) : Sp := fun vs H Q E => ∃ l f : Int, vs = [.int l, .int f] ∧ (okNums l f = true → Q .non H) ∧ (okNums l f = false → E (.ref NC) none H)
theorem ok_check_numbers {f : Addr} {fd : FuncData} (FF : Fun K "check_numbers" "check_numbers" s_check_numbers f fd) (T : Txt K mg C J B) (TE : TxtEW K mg NC) (TR : TxtL mg t1 t2 t3)
    (h_is_number : Has P w K mg base "is_number" 1 a_is_number spNum) : FnOk P w K mg base (L2.CX P w) 2 f fd a_check_numbers (spCkN NC) := by
  refine FF.okX sc_check_numbers (fun vs H Q E h => ?_) (fun cdv A outer s H vs Q E hr h => ?_)
  · obtain ⟨l, f, rfl, _⟩ := h
    rfl
  · obtain ⟨l, f, rfl, k1, k2⟩ := h
    refine ⟨_, (pss_cons (ps_if (pt_not (pt_val (pe_callH h_is_number (hr.mono (by omega)) (pa_cons (pv 0) (pa_cons pe_int (pa_cons (pe_glob rfl TR.m_MOST_LABELS (show RelV (.int 3) _ from ⟨_, rfl⟩)) pa_nil)))))) (pss_one (ps_raise rfl (takes_of rfl rfl rfl rfl) (pmk_own PySem.F.excBase_ValueError TE.xC TE.gC TE.kC (raises_own TE.bC TE.tC) (by exact rfl)))) pss_nil)
      (pss_one (ps_if (pt_not (pt_val (pe_callH h_is_number (hr.mono (by omega)) (pa_cons (pv 1) (pa_cons pe_int (pa_cons (pe_glob rfl TR.m_MOST_FACTS (show RelV (.int 6) _ from ⟨_, rfl⟩)) pa_nil)))))) (pss_one (ps_raise rfl (takes_of rfl rfl rfl rfl) (pmk_own PySem.F.excBase_ValueError TE.xC TE.gC TE.kC (raises_own TE.bC TE.tC) (by exact rfl)))) pss_nil))), ?_⟩
    unfold okNums at k1 k2
    refine ⟨.int l, rfl, l, 1, 3, rfl, _, rfl, ?_⟩
    cases c1 : decide (1 ≤ l) && decide (l ≤ 3) with
    | false =>
      rw [c1] at k2
      exact iteT (k2 rfl)
    | true =>
      rw [c1, Bool.true_and] at k1 k2
      refine iteF ⟨.int f, rfl, f, 0, 6, rfl, _, rfl, ?_⟩
      cases c2 : decide (0 ≤ f) && decide (f ≤ 6) with
      | false => exact iteT (k2 c2)
      | true => exact iteF (k1 c2)
def spCkS (K : PySem.W.Frag) (NC WC tA : Addr) : Sp := fun vs H Q E => ∃ (p dx : Addr) (l f : Int) (ta tb : Addr) (ras as : List Addr) (Xs : List (List Int)) (ss : List T3), vs = [.ref p] ∧ WoA K WC H p dx l f ta tb ras as Xs ss ∧ TabG H tA ∧ Xs.length ≤ 1000 ∧
  (okRows f Xs = true → ∀ H', Tb tA H H' → Q .non H') ∧ (okRows f Xs = false → ∀ H', E (.ref NC) none H')
theorem ok_check_states {f : Addr} {fd : FuncData} (FF : Fun K "check_states" "check_states" s_check_states f fd) (T : Txt K mg C J B) (TC : TxtC K WC) (TE : TxtEW K mg NC) (TR : TxtL mg t1 t2 t3)
    (h_is_number : Has P w K mg base "is_number" 1 a_is_number spNum) (h_ascends : Has P w K mg base "ascends" 4 a_ascends (spAsc K tA)) : FnOk P w K mg base (L2.CX P w) 5 f fd a_check_states (spCkS K NC WC tA) := by
  refine FF.okX sc_check_states (fun vs H Q E h => ?_) (fun cdv A outer s H vs Q E hr h => ?_)
  · obtain ⟨p, dx, l, f, ta, tb, ras, as, Xs, ss, rfl, _⟩ := h
    rfl
  · obtain ⟨p, dx, l, f, ta, tb, ras, as, Xs, ss, rfl, W, tg, hsz, k1, k2⟩ := h
    refine ⟨_, (pss_cons (ps_if (pt_not (pt_val (pe_callH h_is_number (hr.mono (by omega)) (pa_cons (pe_callB call_len_seq rfl T.z_len (by decide +kernel) (pa_cons (pe_fld (pv 0) rfl) pa_nil)) (pa_cons pe_int (pa_cons (pe_glob rfl TR.m_MOST_STATES_worlds (show RelV (.int 400) _ from ⟨_, rfl⟩)) pa_nil)))))) (pss_one (ps_raise rfl (takes_of rfl rfl rfl rfl) (pmk_own PySem.F.excBase_ValueError TE.xC TE.gC TE.kC (raises_own TE.bC TE.tC) (by exact rfl)))) pss_nil)
      (pss_one (ps_for (passes_of rfl) rfl (pi_tup (pe_fld (pv 0) rfl)) (pg_name (i := 1) sc_check_states.nd rfl (.inl rfl)) (pss_cons (ps_for (passes_of rfl) rfl (pi_tup (pv 1)) (pg_name (i := 2) sc_check_states.nd rfl (.inl rfl)) (pss_one (ps_if (pt_not (pt_val (pe_callH h_is_number (hr.mono (by omega)) (pa_cons (pv 2) (pa_cons pe_int (pa_cons (pe_op op_sub (pe_fld (pv 0) rfl) pe_int) pa_nil)))))) (pss_one (ps_raise rfl (takes_of rfl rfl rfl rfl) (pmk_own PySem.F.excBase_ValueError TE.xC TE.gC TE.kC (raises_own TE.bC TE.tC) (by exact rfl)))) pss_nil)))
      (pss_one (ps_if (pt_not (pt_val (pe_callH h_ascends (hr.mono (by omega)) (pa_cons (pv 1) pa_nil)))) (pss_one (ps_raise rfl (takes_of rfl rfl rfl rfl) (pmk_own PySem.F.excBase_ValueError TE.xC TE.gC TE.kC (raises_own TE.bC TE.tC) (by exact rfl)))) pss_nil)))))), ?_⟩
    unfold okRows at k1 k2
    have len : (ras.map V.ref).length = Xs.length := by rw [List.length_map, W.rw.1]
    refine ⟨.ref p, rfl, p, WC, dx, _, .ref ta, rfl, W.ob, TC.cl, TC.nS, rfl, ta, _, rfl, .inr W.st, ?_⟩
    rw [len]
    refine ⟨Xs.length, 1, 400, rfl, _, rfl, ?_⟩
    cases c1 : decide (1 ≤ (Xs.length : Int)) && decide ((Xs.length : Int) ≤ 400) with
    | false =>
      rw [c1] at k2
      exact iteT (k2 rfl _)
    | true =>
      rw [c1, Bool.true_and] at k1 k2
      refine iteF ?_
      refine ⟨.ref p, rfl, p, WC, dx, _, .ref ta, rfl, W.ob, TC.cl, TC.nS, rfl, ta, rfl, ⟨_, W.st⟩, ?_⟩
      refine for_tup (xs := ras.map V.ref) (fun i σ G => ∃ (y1 y2 : Option V), σ = [some (.ref p), y1, y2] ∧ Tb tA H G ∧ ∀ j X, j < i → Xs[j]? = some X → okRow f X = true)
        ⟨none, none, rfl, Tb.refl tg, fun j X hj => absurd hj (Nat.not_lt_zero _)⟩ (fun i σ G _ ⟨_, _, _, t, _⟩ => SqT.tb tg t W.st) ?_ ?_
      · rintro i x σ G hx ⟨y1, y2, rfl, tG, pre⟩
        have WG := W.tb tg tG
        obtain ⟨a, X, rfl, ha, hX, sqX⟩ := WG.rw.nth hx
        have bad : okRow f X = false → ∀ H', E (.ref NC) none H' := fun n => k2 (all_no hX n)
        unfold okRow at bad
        refine ⟨.ref a, rfl, a, rfl, ⟨_, sqX⟩, ?_⟩
        refine for_tup (xs := X.map V.int) (fun j σ G2 => ∃ y2 : Option V, σ = [some (.ref p), some (.ref a), y2] ∧ G2 = G ∧ ∀ m x, m < j → X[m]? = some x → (decide (0 ≤ x) && decide (x ≤ f - 1)) = true)
          ⟨_, rfl, rfl, fun m x hm => absurd hm (Nat.not_lt_zero _)⟩ (fun j σ G2 _ ⟨_, _, e, _⟩ => by rw [e]; exact sqX) ?_ ?_
        · rintro j y σ G2 hy ⟨y2, rfl, rfl, pre2⟩
          obtain ⟨n, hn, rfl⟩ : ∃ n, X[j]? = some n ∧ V.int n = y := by
            rw [List.getElem?_map] at hy
            cases e : X[j]? with
            | none => rw [e] at hy; cases hy
            | some n => rw [e] at hy; exact ⟨n, rfl, Option.some.inj hy⟩
          refine ⟨.int n, rfl, .ref p, rfl, p, WC, dx, _, .int f, rfl, WG.ob, TC.cl, TC.nF, rfl, f, 1, rfl, rfl, n, 0, f - 1, rfl, _, rfl, ?_⟩
          cases c2 : decide (0 ≤ n) && decide (n ≤ f - 1) with
          | false =>
            refine iteT (bad ?_ _)
            rw [all_no hn c2, Bool.false_and]
          | true =>
            refine iteF ⟨_, rfl, rfl, fun m x hm hx => ?_⟩
            by_cases e : m = j
            · subst e
              rw [hn] at hx
              cases hx
              exact c2
            · exact pre2 m x (by omega) hx
        · rintro σ G2 ⟨y2, rfl, rfl, pre2⟩
          rw [List.length_map] at pre2
          have all : X.all (fun x => decide (0 ≤ x) && decide (x ≤ f - 1)) = true := all_take fun m x hm => pre2 m x (List.getElem?_eq_some_iff.mp hm).1 hm
          refine ⟨.ref a, rfl, a, _, asc ltI X, rfl, sqX, tG.2, .i X, fun H' t' => ⟨_, rfl, ?_⟩⟩
          rw [all, Bool.true_and] at bad
          cases c3 : asc ltI X with
          | false => exact iteT (bad c3 _)
          | true =>
            refine iteF ⟨_, _, rfl, tG.trans t', fun j Y hj hY => ?_⟩
            by_cases e : j = i
            · subst e
              rw [hX] at hY
              cases hY
              unfold okRow
              rw [all, c3]
              rfl
            · exact pre j Y (by omega) hY
      · rintro σ G ⟨y1, y2, rfl, tG, pre⟩
        rw [len] at pre
        exact k1 (all_take fun j X hj => pre j X (List.getElem?_eq_some_iff.mp hj).1 hj) G tG
end
end Fw

set_option maxRecDepth 100000
set_option maxHeartbeats 4000000
namespace Fw
open PySem PySem.Spec PyProof.Rows L2 GxR
abbrev kSL (s l : Int) : List Key := [Sum.inl s, Sum.inl l]
/-- the dict of the steps' ends, as it grows -/
structure EndsK (H G : Hp) (kvs : List (List Key × V)) (ss : List T3) : Prop where
  one : ∀ k v, valV kvs k = some v → ∃ s l la, k = kSL s l ∧ v = .ref la ∧ H la = none ∧ IL G la (begS ss s l)
  no : ∀ s l, valV kvs (kSL s l) = none → begS ss s l = []
  inj : ∀ k k' la, valV kvs k = some (.ref la) → valV kvs k' = some (.ref la) → k = k'
def EndsAt (H0 H : Hp) (d : Addr) (ss : List T3) : Prop := ∃ kvs : List (List Key × V), H d = some (.dT kvs) ∧ ∀ s l, (∃ la, valV kvs (kSL s l) = some (.ref la) ∧ H0 la = none ∧ IL H la (begS ss s l)) ∨ (valV kvs (kSL s l) = none ∧ begS ss s l = [])
theorem kSL_inj {s l s' l' : Int} (h : kSL s l = kSL s' l') : s = s' ∧ l = l' := by
  injection h with h1 h2
  injection h2 with h2 _
  exact ⟨Sum.inl.inj h1, Sum.inl.inj h2⟩
theorem EndsK.at_ {H G : Hp} {d : Addr} {kvs : List (List Key × V)} {ss : List T3} (h : EndsK H G kvs ss) (e : G d = some (.dT kvs)) : EndsAt H G d ss := ⟨kvs, e, fun s l => by
  cases q : valV kvs (kSL s l) with
  | none => exact .inr ⟨rfl, h.no s l q⟩
  | some v =>
    obtain ⟨s', l', la, e1, e2, e3, il⟩ := h.one _ _ q
    obtain ⟨rfl, rfl⟩ := kSL_inj e1
    exact .inl ⟨la, by rw [e2], e3, il⟩⟩
theorem EndsAt.map {H0 H H' : Hp} {d : Addr} {ss : List T3} (hd : ∀ kvs, H d = some (.dT kvs) → H' d = some (.dT kvs)) (hl : ∀ a xs, H0 a = none → H a = some (.lst xs) → H' a = some (.lst xs)) (h : EndsAt H0 H d ss) : EndsAt H0 H' d ss := by
  obtain ⟨kvs, e, x⟩ := h
  refine ⟨kvs, hd _ e, fun s l => ?_⟩
  rcases x s l with ⟨la, e1, e0, e2⟩ | z
  · exact .inl ⟨la, e1, e0, hl _ _ e0 e2⟩
  · exact .inr z
theorem EndsAt.weak {H0 H0' H : Hp} {d : Addr} {ss : List T3} (dom : ∀ b, H0' b = none → H0 b = none) (h : EndsAt H0' H d ss) : EndsAt H0 H d ss := by
  obtain ⟨kvs, e, x⟩ := h
  refine ⟨kvs, e, fun s l => ?_⟩
  rcases x s l with ⟨la, e1, e0, e2⟩ | z
  · exact .inl ⟨la, e1, dom _ e0, e2⟩
  · exact .inr z
theorem EndsAt.tb {P : Addr} {H0 H H' : Hp} {d : Addr} {ss : List T3} (g : TabG H P) (t : Tb P H H') (h : EndsAt H0 H d ss) : EndsAt H0 H' d ss :=
  h.map (fun kvs e => t.1 _ _ (g.ne e (by intro _ z; cases z)) e) fun a xs _ e => t.1 _ _ (g.ne e (by intro _ z; cases z)) e
/-- a world that is made -/
structure WoE (K : PySem.W.Frag) (WC : Addr) (H0 H : Hp) (p dx : Addr) (l f : Int) (ta tb d : Addr) (ras as : List Addr) (Xs : List (List Int)) (ss : List T3) : Prop where
  ob : H p = some (.ins WC dx (wf l f ta tb ++ ([("_ends", V.ref d)] : List (Str × V))))
  st : SqT K H ta (ras.map V.ref)
  rw : RAt K H ras Xs
  sp : SqT K H tb (as.map V.ref)
  tr : PAt H as ss
  en : EndsAt H0 H d ss
section
variable {P : Program} {w : World} {K : PySem.W.Frag} {mg : Str → Option Value} {base : Heap} {C J B NC WC cA tA : Addr} {t1 t2 t3 : Tok}
def spCkT (K : PySem.W.Frag) (NC WC tA : Addr) : Sp := fun vs H Q E => ∃ (p dx : Addr) (l f : Int) (ta tb : Addr) (ras as : List Addr) (Xs : List (List Int)) (ss : List T3), vs = [.ref p] ∧ WoA K WC H p dx l f ta tb ras as Xs ss ∧ TabG H tA ∧
  (okSteps l Xs.length ss = true → ∀ H', Tb tA H H' → Q .non H') ∧ (okSteps l Xs.length ss = false → ∀ H', E (.ref NC) none H')
theorem ok_check_steps {f : Addr} {fd : FuncData} (FF : Fun K "check_steps" "check_steps" s_check_steps f fd) (T : Txt K mg C J B) (TC : TxtC K WC) (TE : TxtEW K mg NC)
    (h_is_number : Has P w K mg base "is_number" 1 a_is_number spNum) (h_ascends : Has P w K mg base "ascends" 4 a_ascends (spAsc K tA)) : FnOk P w K mg base (L2.CX P w) 5 f fd a_check_steps (spCkT K NC WC tA) := by
  refine FF.okX sc_check_steps (fun vs H Q E h => ?_) (fun cdv A outer s H vs Q E hr h => ?_)
  · obtain ⟨p, dx, l, f, ta, tb, ras, as, Xs, ss, rfl, _⟩ := h
    rfl
  · obtain ⟨p, dx, l, f, ta, tb, ras, as, Xs, ss, rfl, W, tg, k1, k2⟩ := h
    refine ⟨_, (pss_cons (ps_set (i := 1) sc_check_steps.nd rfl (.inl rfl) (pe_op op_sub (pe_callB call_len_seq rfl T.z_len (by decide +kernel) (pa_cons (pe_fld (pv 0) rfl) pa_nil)) pe_int))
      (pss_cons (ps_for (passes_of rfl) rfl (pi_tup (pe_fld (pv 0) rfl)) (pg_name (i := 2) sc_check_steps.nd rfl (.inl rfl)) (pss_cons (ps_if (PW.pt (pw_or (pt_cmpR op_ne (pe_callB call_len_seq rfl T.z_len (by decide +kernel) (pa_cons (pv 2) pa_nil)) pe_int (nomark _)) (pw_or1 (pt_not (pt_val (pe_callH h_is_number (hr.mono (by omega)) (pa_cons (pe_ix ix_tup (pv 2) pe_int (fun _ _ => rfl)) (pa_cons pe_int (pa_cons (pe_op op_sub (pe_fld (pv 0) rfl) pe_int) pa_nil))))))))) (pss_one (ps_raise rfl (takes_of rfl rfl rfl rfl) (pmk_own PySem.F.excBase_ValueError TE.xC TE.gC TE.kC (raises_own TE.bC TE.tC) (by exact rfl)))) pss_nil)
      (pss_one (ps_if (PW.pt (pw_or (pt_not (pt_val (pe_callH h_is_number (hr.mono (by omega)) (pa_cons (pe_ix ix_tup (pv 2) pe_int (fun _ _ => rfl)) (pa_cons pe_int (pa_cons (pv 1) pa_nil)))))) (pw_or1 (pt_not (pt_val (pe_callH h_is_number (hr.mono (by omega)) (pa_cons (pe_ix ix_tup (pv 2) pe_int (fun _ _ => rfl)) (pa_cons pe_int (pa_cons (pv 1) pa_nil))))))))) (pss_one (ps_raise rfl (takes_of rfl rfl rfl rfl) (pmk_own PySem.F.excBase_ValueError TE.xC TE.gC TE.kC (raises_own TE.bC TE.tC) (by exact rfl)))) pss_nil))))
      (pss_one (ps_if (pt_not (pt_val (pe_callH h_ascends (hr.mono (by omega)) (pa_cons (pe_fld (pv 0) rfl) pa_nil)))) (pss_one (ps_raise rfl (takes_of rfl rfl rfl rfl) (pmk_own PySem.F.excBase_ValueError TE.xC TE.gC TE.kC (raises_own TE.bC TE.tC) (by exact rfl)))) pss_nil)))), ?_⟩
    unfold okSteps at k1 k2
    have len : (ras.map V.ref).length = Xs.length := by rw [List.length_map, W.rw.1]
    have lens : (as.map V.ref).length = ss.length := by rw [List.length_map, W.tr.1]
    refine ⟨.ref p, rfl, p, WC, dx, _, .ref ta, rfl, W.ob, TC.cl, TC.nS, rfl, ta, _, rfl, .inr W.st, ?_⟩
    rw [len]
    refine ⟨Xs.length, 1, rfl, rfl, ?_⟩
    refine ⟨.ref p, rfl, p, WC, dx, _, .ref tb, rfl, W.ob, TC.cl, TC.nT, rfl, tb, rfl, ⟨_, W.sp⟩, ?_⟩
    refine for_tup (xs := as.map V.ref) (fun i σ G => ∃ (y2 : Option V), σ = [some (.ref p), some (.int ((Xs.length : Int) - 1)), y2] ∧ G = H ∧ ∀ (j : Nat) p, j < i → ss[j]? = some p → okStep l Xs.length p = true)
      ⟨none, rfl, rfl, fun j X hj => absurd hj (Nat.not_lt_zero _)⟩ (fun i σ G _ ⟨_, _, e, _⟩ => by rw [e]; exact W.sp) ?_ ?_
    · rintro i x σ G hx ⟨y2, rfl, rfl, pre⟩
      obtain ⟨a, q, rfl, ha, hq, at_⟩ := W.tr.nth hx
      have bad : okStep l Xs.length q = false → ∀ H', E (.ref NC) none H' := fun n => k2 (by rw [all_no hq n, Bool.false_and])
      unfold okStep at bad
      have sq := SqT.of (K := K) at_
      have i0 : atI [V.int q.1, V.int q.2.1, V.int q.2.2] 0 = some (.int q.1) := rfl
      have i1 : atI [V.int q.1, V.int q.2.1, V.int q.2.2] 1 = some (.int q.2.1) := rfl
      have i2 : atI [V.int q.1, V.int q.2.1, V.int q.2.2] 2 = some (.int q.2.2) := rfl
      refine ⟨.ref a, rfl, a, _, rfl, .inr sq, rfl, _, rfl, ?_⟩
      have l3 : V.int (([V.int q.1, V.int q.2.1, V.int q.2.2] : List V).length : Int) = V.int 3 := rfl
      refine (if_neg (by rw [decide_eq_true l3]; exact Bool.false_ne_true)).mpr ?_
      refine ⟨.ref a, rfl, a, _, 1, _, rfl, rfl, sq, i1, .ref p, rfl, p, WC, dx, _, .int l, rfl, W.ob, TC.cl, TC.nL, rfl, l, 1, rfl, rfl, q.2.1, 0, l - 1, rfl, _, rfl, ?_⟩
      cases c1 : decide (0 ≤ q.2.1) && decide (q.2.1 ≤ l - 1) with
      | false =>
        rw [c1] at bad
        exact iteT (bad rfl _)
      | true =>
        rw [c1, Bool.true_and] at bad
        refine iteF ?_
        refine ⟨.ref a, rfl, a, _, 0, _, rfl, rfl, sq, i0, .int ((Xs.length : Int) - 1), rfl, q.1, 0, (Xs.length : Int) - 1, rfl, _, rfl, ?_⟩
        cases c2 : decide (0 ≤ q.1) && decide (q.1 ≤ (Xs.length : Int) - 1) with
        | false =>
          rw [c2] at bad
          exact iteT (bad rfl _)
        | true =>
          rw [c2, Bool.true_and] at bad
          refine iteF ?_
          refine ⟨.ref a, rfl, a, _, 2, _, rfl, rfl, sq, i2, .int ((Xs.length : Int) - 1), rfl, q.2.2, 0, (Xs.length : Int) - 1, rfl, _, rfl, ?_⟩
          cases c3 : decide (0 ≤ q.2.2) && decide (q.2.2 ≤ (Xs.length : Int) - 1) with
          | false => exact iteT (bad c3 _)
          | true =>
            refine iteF ⟨_, rfl, rfl, fun j r hj hr' => ?_⟩
            by_cases e : j = i
            · subst e
              rw [hq] at hr'
              cases hr'
              unfold okStep
              rw [c1, c2, c3]
              rfl
            · exact pre j r (by omega) hr'
    · rintro σ G ⟨y2, rfl, rfl, pre⟩
      rw [lens] at pre
      have all : ss.all (okStep l Xs.length) = true := all_take fun j q hj => pre j q (List.getElem?_eq_some_iff.mp hj).1 hj
      rw [all, Bool.true_and] at k1 k2
      refine ⟨.ref p, rfl, p, WC, dx, _, .ref tb, rfl, W.ob, TC.cl, TC.nT, rfl, tb, _, asc lex3 ss, rfl, W.sp, tg, .t W.tr, fun H' t' => ⟨_, rfl, ?_⟩⟩
      cases c : asc lex3 ss with
      | false => exact iteT (k2 c _)
      | true => exact iteF (k1 c _ t')
def spEnds (K : PySem.W.Frag) : Sp := fun vs H Q _ => ∃ (tb : Addr) (as : List Addr) (ss : List T3), vs = [.ref tb] ∧ SqT K H tb (as.map V.ref) ∧ PAt H as ss ∧ ss.length ≤ 1000 ∧ ∀ d H', Same H H' → EndsAt H H' d ss → Q (.ref d) H'
theorem ok_ends_of {f : Addr} {fd : FuncData} (FF : Fun K "ends_of" "ends_of" s_ends_of f fd) (T : Txt K mg C J B) : FnOk P w K mg base CX0 1 f fd a_ends_of (spEnds K) := by
  refine FF.ok sc_ends_of (fun vs H Q E h => ?_) (fun cdv A outer s H vs Q E hr h => ?_)
  · obtain ⟨tb, as, ss, rfl, _⟩ := h
    rfl
  · obtain ⟨tb, as, ss, rfl, sq, tr, hsz, k⟩ := h
    have hu := hu_of hr
    refine ⟨_, (pss_cons (ps_set (i := 1) sc_ends_of.nd rfl (.inl rfl) pe_dnewT)
      (pss_cons (ps_for PassesOwn.never rfl (pi_tup (pv 0)) (pg_tup rfl (pgs_cons (pg_name (i := 2) sc_ends_of.nd rfl (.inl rfl)) (pgs_cons (pg_name (i := 3) sc_ends_of.nd rfl (.inl rfl)) (pgs_cons (pg_name (i := 4) sc_ends_of.nd rfl (.inl rfl)) pgs_nil)))) (pss_one (ps_expr (pe_bm PySem.F.plainAttrs_list PySem.F.slot_list_append PySem.F.type_list_append mt_append (pe_dsetdT hu (pv 1) (pe_tup (pa_cons (pv 2) (pa_cons (pv 3) pa_nil))) (pe_lst pa_nil) ⟨rfl, rfl, rfl, rfl⟩) (pa_cons (pv 4) pa_nil)))))
      (pss_one (ps_ret (pv 1))))), ?_⟩
    have lens : (as.map V.ref).length = ss.length := by rw [List.length_map, tr.1]
    intro d hd
    have s0 := Same.new (o := .dT []) hd
    refine ⟨.ref tb, rfl, tb, rfl, ⟨_, SqT.same s0 sq⟩, ?_⟩
    refine for_tup (xs := as.map V.ref) (fun i σ G => ∃ (y2 y3 y4 : Option V) (kvs : List (List Key × V)), σ = [some (.ref tb), some (.ref d), y2, y3, y4] ∧ Same H G ∧ G d = some (.dT kvs) ∧ kvs.length ≤ i ∧ (ss.take i).length ≤ i ∧ EndsK H G kvs (ss.take i))
      ⟨none, none, none, [], rfl, s0, upd_same, Nat.le_refl _, by simp, ⟨fun k v e => (by cases e), fun s l _ => rfl, fun k k' la e => (by cases e)⟩⟩ (fun i σ G _ ⟨_, _, _, _, _, sG, _⟩ => SqT.same sG sq) ?_ ?_
    · rintro i x σ G hx ⟨y2, y3, y4, kvs, rfl, sG, gD, lk, lt, EK⟩
      have il : i < ss.length := by
        have := (List.getElem?_eq_some_iff.mp hx).1
        rw [lens] at this
        exact this
      obtain ⟨a, q, rfl, ha, hq, at0⟩ := tr.nth hx
      have at_ := sG _ _ at0
      have nx : ss.take (i + 1) = ss.take i ++ [q] := by rw [List.take_add_one, hq]; rfl
      refine ⟨a, _, rfl, SqT.of at_, rfl, .int q.1, _, rfl, .int q.2.1, _, rfl, .int q.2.2, _, rfl, rfl, ?_⟩
      refine ⟨.ref d, rfl, d, rfl, .inr ⟨kvs, .inl gD⟩, .int q.1, rfl, .int q.2.1, rfl, by show 2 ≤ sizeLine; decide, fun kt hkt => ⟨Nat.zero_le _, fun ql hql => ?_⟩⟩
      have s1 := Same.new (o := .tup [.int q.1, .int q.2.1]) hkt
      have s2 := Same.new (o := .lst []) hql
      have kt2 := s2 _ _ (upd_same (H := G) (a := kt) (o := .tup [.int q.1, .int q.2.1]))
      have gD2 := s2 _ _ (s1 _ _ gD)
      have gq2 : (upd (upd G kt (.tup [.int q.1, .int q.2.1])) ql (.lst [])) ql = some (.lst []) := upd_same
      have s12 := s1.trans s2
      have qn : H ql = none := sG.free (s1.free hql)
      have qd : ql ≠ d := fun e => by rw [e] at hql; rw [s1 _ _ gD] at hql; cases hql
      have sG2 := sG.trans s12
      have EK2 : EndsK H (upd (upd G kt (.tup [.int q.1, .int q.2.1])) ql (.lst [])) kvs (ss.take i) := ⟨fun k v e => by
        obtain ⟨s', l', la, e1, e2, e3, e4⟩ := EK.one k v e
        exact ⟨s', l', la, e1, e2, e3, s12 _ _ e4⟩, EK.no, EK.inj⟩
      have old : ∀ k la, valV kvs k = some (.ref la) → la ≠ ql := fun k la e z => by
        obtain ⟨s', l', la', e1, e2, e3, e4⟩ := EK.one k _ e
        cases e2
        rw [z] at e4
        rw [s1 _ _ e4] at hql
        cases hql
      generalize upd (upd G kt (.tup [.int q.1, .int q.2.1])) ql (.lst []) = G2 at s12 kt2 gD2 gq2 sG2 EK2
      have dl : ∀ k la, valV kvs k = some (.ref la) → la ≠ d := fun k la e z => by
        obtain ⟨s', l', la', e1, e2, e3, e4⟩ := EK2.one k _ e
        cases e2
        rw [z] at e4
        have e5 := gD2.symm.trans e4
        cases e5
      refine ⟨kvs, kSL q.1 q.2.1, kt, gD2, rfl, kt2, small1000 (by omega), fun v hv => ?_, fun hn => ?_⟩
      · obtain ⟨s', l', la, e1, rfl, e3, e4⟩ := EK2.one _ _ hv
        obtain ⟨rfl, rfl⟩ := kSL_inj e1
        have bl : (begS (ss.take i) q.1 q.2.1).length ≤ 1000 := by
          unfold begS
          rw [List.length_map]
          have := List.length_filter_le (fun p : T3 => decide (p.1 = q.1) && decide (p.2.1 = q.2.1)) (ss.take i)
          omega
        refine ⟨.inl ⟨rfl, _, SqL.of e4⟩, .int q.2.2, rfl, la, _, _, rfl, rfl, e4, by rw [List.length_map]; exact small1000 (by have := bl; unfold begS at *; rw [List.length_map] at *; have := List.length_filter_le (fun p : T3 => decide (p.1 = q.1) && decide (p.2.1 = q.2.1)) (ss.take i); omega), ?_⟩
        refine ⟨_, _, _, kvs, rfl, fun b o e => by rw [upd_ne (ne_of_none e e3)]; exact sG2 _ _ e, by rw [upd_ne (dl _ _ hv).symm]; exact gD2, by omega, by rw [List.length_take]; omega, ?_⟩
        rw [nx]
        refine ⟨fun k v e => ?_, fun s2 l2 e => ?_, EK2.inj⟩
        · obtain ⟨s2, l2, la2, f1, f2, f3, f4⟩ := EK2.one k v e
          refine ⟨s2, l2, la2, f1, f2, f3, ?_⟩
          rw [begS_snoc]
          by_cases c : la2 = la
          · subst c
            rw [f2] at e
            have kk := EK2.inj _ _ _ e hv
            rw [f1] at kk
            obtain ⟨rfl, rfl⟩ := kSL_inj kk
            show _ = _
            rw [upd_same, decide_eq_true rfl, decide_eq_true rfl, List.map_append]
            rfl
          · show _ = _
            have nk : ¬ (q.1 = s2 ∧ q.2.1 = l2) := fun z => by
              obtain ⟨z1, z2⟩ := z
              rw [f1, ← z1, ← z2] at e
              rw [hv] at e
              rw [f2] at e
              exact c (V.ref.inj (Option.some.inj e)).symm
            rw [upd_ne c, if_neg (by rw [Bool.and_eq_true, decide_eq_true_eq, decide_eq_true_eq]; exact nk), List.append_nil]
            exact f4
        · rw [begS_snoc, EK2.no s2 l2 e]
          have nk : ¬ (q.1 = s2 ∧ q.2.1 = l2) := fun z => by
            obtain ⟨z1, z2⟩ := z
            rw [← z1, ← z2, hv] at e
            cases e
          rw [if_neg (by rw [Bool.and_eq_true, decide_eq_true_eq, decide_eq_true_eq]; exact nk)]
          rfl
      · have e0 := EK2.no _ _ hn
        have gq3 : (upd G2 d (.dT (putK kvs (kSL q.1 q.2.1) (.ref ql)))) ql = some (.lst []) := by rw [upd_ne qd]; exact gq2
        refine ⟨.inl ⟨rfl, _, SqL.of gq3⟩, .int q.2.2, rfl, ql, _, _, rfl, rfl, gq3, by show 0 < sizeLine; decide, ?_⟩
        refine ⟨_, _, _, putK kvs (kSL q.1 q.2.1) (.ref ql), rfl, fun b o e => by rw [upd_ne (ne_of_none e qn), upd_ne (ne_of_none e hd)]; exact sG2 _ _ e, by rw [upd_ne qd.symm, upd_same], by have := length_putK kvs (kSL q.1 q.2.1) (.ref ql); omega, by rw [List.length_take]; omega, ?_⟩
        rw [nx]
        refine ⟨fun k v e => ?_, fun s2 l2 e => ?_, fun k k' la e e' => ?_⟩
        · rw [valV_put] at e
          by_cases c : k = kSL q.1 q.2.1
          · rw [if_pos c] at e
            cases e
            refine ⟨q.1, q.2.1, ql, c, rfl, qn, ?_⟩
            show _ = _
            rw [upd_same, begS_snoc, e0, decide_eq_true rfl, decide_eq_true rfl]
            rfl
          · rw [if_neg c] at e
            obtain ⟨s2, l2, la2, f1, f2, f3, f4⟩ := EK2.one k v e
            refine ⟨s2, l2, la2, f1, f2, f3, ?_⟩
            rw [f2] at e
            have nk : ¬ (q.1 = s2 ∧ q.2.1 = l2) := fun z => by
              obtain ⟨z1, z2⟩ := z
              rw [f1, ← z1, ← z2] at c
              exact c rfl
            show _ = _
            rw [upd_ne (old _ _ e), upd_ne (dl _ _ e), begS_snoc, if_neg (by rw [Bool.and_eq_true, decide_eq_true_eq, decide_eq_true_eq]; exact nk), List.append_nil]
            exact f4
        · rw [valV_put] at e
          by_cases c : kSL s2 l2 = kSL q.1 q.2.1
          · rw [if_pos c] at e
            cases e
          · rw [if_neg c] at e
            rw [begS_snoc, EK2.no s2 l2 e]
            have nk : ¬ (q.1 = s2 ∧ q.2.1 = l2) := fun z => by
              obtain ⟨z1, z2⟩ := z
              rw [← z1, ← z2] at c
              exact c rfl
            rw [if_neg (by rw [Bool.and_eq_true, decide_eq_true_eq, decide_eq_true_eq]; exact nk)]
            rfl
        · rw [valV_put] at e e'
          by_cases c : k = kSL q.1 q.2.1
          · by_cases c' : k' = kSL q.1 q.2.1
            · rw [c, c']
            · rw [if_pos c] at e
              rw [if_neg c'] at e'
              cases e
              exact absurd rfl (old _ _ e')
          · by_cases c' : k' = kSL q.1 q.2.1
            · rw [if_neg c] at e
              rw [if_pos c'] at e'
              cases e'
              exact absurd rfl (old _ _ e)
            · rw [if_neg c] at e
              rw [if_neg c'] at e'
              exact EK2.inj _ _ _ e e'
    · rintro σ G ⟨y2, y3, y4, kvs, rfl, sG, gD, lk, lt, EK⟩
      rw [lens, List.take_length] at EK
      exact ⟨_, rfl, k d G sG (EK.at_ gD)⟩
def spFol (K : PySem.W.Frag) (WC : Addr) : Sp := fun vs H Q _ => ∃ (H0 : Hp) (p dx : Addr) (l f : Int) (ta tb d : Addr) (ras as : List Addr) (Xs : List (List Int)) (ss : List T3) (x y : Int), vs = [.ref p, .int x, .int y] ∧ WoE K WC H0 H p dx l f ta tb d ras as Xs ss ∧
  ∀ b H', Same H H' → H b = none → IL H' b (begS ss x y) → Q (.ref b) H'
theorem ok_followers {f : Addr} {fd : FuncData} (FF : Fun K "followers" "followers" s_followers f fd) (T : Txt K mg C J B) (TC : TxtC K WC) : FnOk P w K mg base CX0 1 f fd a_followers (spFol K WC) := by
  refine FF.ok sc_followers (fun vs H Q E h => ?_) (fun cdv A outer s H vs Q E hr h => ?_)
  · obtain ⟨H0, p, dx, l, f, ta, tb, d, ras, as, Xs, ss, x, y, rfl, _⟩ := h
    rfl
  · obtain ⟨H0, p, dx, l, f, ta, tb, d, ras, as, Xs, ss, x, y, rfl, W, k⟩ := h
    have hu := hu_of hr
    refine ⟨_, (pss_one (ps_ret (pe_callTy call_list_of rfl T.z_list (by decide +kernel) (pa_cons (pe_dget2 hu (pe_fld (pv 0) rfl) (pe_tup (pa_cons (pv 1) (pa_cons (pv 2) pa_nil))) (pe_lst pa_nil) ⟨rfl, rfl, rfl, rfl⟩) pa_nil)))), ?_⟩
    obtain ⟨kvs, gD, en⟩ := W.en
    refine ⟨.ref p, rfl, p, WC, dx, _, .ref d, rfl, W.ob, TC.cl, TC.nE, rfl, d, rfl, .inr ⟨kvs, .inl gD⟩, .int x, rfl, .int y, rfl, by show 2 ≤ sizeLine; decide, fun kt hkt => ⟨Nat.zero_le _, fun ql hql => ?_⟩⟩
    have s1 := Same.new (o := .tup [.int x, .int y]) hkt
    have s2 := Same.new (o := .lst []) hql
    have kt2 := s2 _ _ (upd_same (H := H) (a := kt) (o := .tup [.int x, .int y]))
    have gD2 := s2 _ _ (s1 _ _ gD)
    have s12 := s1.trans s2
    rcases en x y with ⟨la, e1, _, e2⟩ | ⟨e1, e2⟩
    · refine ⟨some (.ref la), ?_, la, _, rfl, .inl (SqL.of (s12 _ _ e2)), fun b hb => ?_⟩
      · rw [← e1]
        exact DGet.t gD2 kt2
      · exact k b _ (s12.trans (Same.new hb)) (s12.free hb) (by show _ = _; rw [upd_same])
    · refine ⟨none, ?_, ql, _, rfl, .inl (SqL.of upd_same), fun b hb => ?_⟩
      · rw [← e1]
        exact DGet.t gD2 kt2
      · exact k b _ (s12.trans (Same.new hb)) (s12.free hb) (by show _ = _; rw [upd_same, e2]; rfl)
end
end Fw

set_option maxRecDepth 100000
set_option maxHeartbeats 8000000
namespace Fw
open PySem PySem.Spec PyProof.Rows L2 GxR
abbrev rLenS (K : PySem.W.Frag) : List V → Hp → VK → Prop := fun xs H Q => ∃ p ys, xs = [.ref p] ∧ (SqL K H p ys ∨ SqT K H p ys) ∧ Q (.int ys.length) H
abbrev rTupOf (K : PySem.W.Frag) : List V → Hp → VK → Prop := fun xs H Q => ∃ p ys, xs = [.ref p] ∧ ((SqL K H p ys ∧ ∀ l, H l = none → Q (.ref l) (upd H l (.tup ys))) ∨ (SqT K H p ys ∧ Q (.ref p) H))
abbrev rListOf (K : PySem.W.Frag) : List V → Hp → VK → Prop := fun xs H Q => ∃ p ys, xs = [.ref p] ∧ (SqL K H p ys ∨ SqT K H p ys) ∧ ∀ l, H l = none → Q (.ref l) (upd H l (.lst ys))
theorem FAt.same {H H' : Hp} {as : List Addr} {Xs : List (List Int)} (s : Same H H') (h : FAt H as Xs) : FAt H' as Xs := ⟨h.1, fun i a X e1 e2 => s _ _ (h.2 i a X e1 e2)⟩
theorem PAt.same {H H' : Hp} {as : List Addr} {ts : List T3} (s : Same H H') (h : PAt H as ts) : PAt H' as ts := ⟨h.1, fun i a X e1 e2 => s _ _ (h.2 i a X e1 e2)⟩
theorem RAt.same {K : PySem.W.Frag} {H H' : Hp} {as : List Addr} {Xs : List (List Int)} (s : Same H H') (h : RAt K H as Xs) : RAt K H' as Xs := ⟨h.1, fun i a X e1 e2 => SqT.same s (h.2 i a X e1 e2)⟩
theorem FAt.nth {H : Hp} {as : List Addr} {Xs : List (List Int)} (h : FAt H as Xs) {i : Nat} {x : V} (e : (as.map V.ref)[i]? = some x) : ∃ a X, x = .ref a ∧ as[i]? = some a ∧ Xs[i]? = some X ∧ IL H a X := by
  rw [List.getElem?_map] at e
  cases q : as[i]? with
  | none => rw [q] at e; cases e
  | some a =>
    rw [q] at e
    have il : i < Xs.length := by rw [← h.1]; exact (List.getElem?_eq_some_iff.mp q).1
    exact ⟨a, Xs[i], (Option.some.inj e).symm, rfl, List.getElem?_eq_getElem il, h.2 i a _ q (List.getElem?_eq_getElem il)⟩
/-- what was there is there, but for the object at p -/
theorem but_new {p q : Addr} {H G : Hp} {o : HO} (b : But p H G) (h : G q = none) : But p H (upd G q o) := fun a u n e => by
  have := b a u n e
  rw [upd_ne (ne_of_none this h)]
  exact this
theorem SqT.butO {K : PySem.W.Frag} {H H' : Hp} {a d : Addr} {xs : List V} {C dx : Addr} {fs : List (Str × V)} (hd : H d = some (.ins C dx fs)) (s : But d H H') (h : SqT K H a xs) : SqT K H' a xs := by
  rcases h with h | h
  · rcases h with h | ⟨u, h⟩
    · exact .inl (.inl (s _ _ (ne_of h hd (by intro z; cases z)) h))
    · exact .inl (.inr ⟨u, s _ _ (ne_of h hd (by intro z; cases z)) h⟩)
  · exact .inr h
theorem PAt.butO {H H' : Hp} {as : List Addr} {ts : List T3} {d C dx : Addr} {fs : List (Str × V)} (hd : H d = some (.ins C dx fs)) (s : But d H H') (h : PAt H as ts) : PAt H' as ts :=
  ⟨h.1, fun i a p e1 e2 => s _ _ (ne_of (h.2 i a p e1 e2) hd (by intro z; cases z)) (h.2 i a p e1 e2)⟩
theorem RAt.butO {K : PySem.W.Frag} {H H' : Hp} {as : List Addr} {Xs : List (List Int)} {d C dx : Addr} {fs : List (Str × V)} (hd : H d = some (.ins C dx fs)) (s : But d H H') (h : RAt K H as Xs) : RAt K H' as Xs :=
  ⟨h.1, fun i a X e1 e2 => SqT.butO hd s (h.2 i a X e1 e2)⟩
theorem EndsAt.butO {H0 H H' : Hp} {ss : List T3} {e d C dx : Addr} {fs : List (Str × V)} (hd : H d = some (.ins C dx fs)) (s : But d H H') (h : EndsAt H0 H e ss) : EndsAt H0 H' e ss :=
  h.map (fun kvs q => s _ _ (ne_of q hd (by intro z; cases z)) q) fun a xs _ q => s _ _ (ne_of q hd (by intro z; cases z)) q
/-- triples at addresses that came out of a sort -/
theorem trips_back {H : Hp} {as : List Addr} {ts : List T3} (h : PAt H as ts) : ∃ k : V → T3, ∀ (a : Addr) (p : T3) (i : Nat), as[i]? = some a → ts[i]? = some p → k (.ref a) = p := by
  refine ⟨fun v => match v with | .ref a => (match H a with | some (.tup [.int x, .int y, .int z]) => (x, y, z) | _ => (0, 0, 0)) | _ => (0, 0, 0), fun a p i e1 e2 => ?_⟩
  show (match H a with | some (.tup [.int x, .int y, .int z]) => (x, y, z) | _ => (0, 0, 0)) = p
  rw [h.2 i a p e1 e2]
/-! ### a list or a tuple -/
def IsSq (K : PySem.W.Frag) (H : Hp) (a : Addr) (xs : List V) (It : It) : Prop := (It = Itl K a ∧ SqL K H a xs) ∨ (It = Itt K a ∧ SqT K H a xs)
def iSq (K : PySem.W.Frag) (tl : TE) : TI := fun σ H R => tl σ H fun x H1 => ∃ a xs, x = .ref a ∧ Sq K H1 a xs ∧ ∀ It, IsSq K H1 a xs It → R It H1
theorem pi_sq {X : Cx} {tg l : Expr} {tl : TE} (hl : PE X l tl) : PI X tg l (iSq X.K tl) := by
  have hv : PE X l tl := hl
  refine ⟨fun pins s σ H R I h => ?_⟩
  have key := hv.run pins s σ H _ I h
  refine thn key fun v s1 ⟨x, H1, I1, r1, q1⟩ => ?_
  obtain ⟨a, xs, e, hs, q⟩ := q1
  subst e
  cases r1
  rcases hs with hq | hq
  · obtain ⟨its, rv, p, hz⟩ := I1.list hq
    refine wpAny_pyIter_list p.isList ?_
    refine ⟨s1.heap.objs.size, [s1.heap.objs.size], _, _, H1, rfl, I1.kept (t' := s1.toks) fun b o e => Heap.get?_push_of_some _ e, turn_list a _, ⟨_, Heap.get?_push_size _ rfl, rfl, rfl⟩, fun b hb => ?_, q _ (.inl ⟨rfl, hq⟩)⟩
    have e : b = s1.heap.objs.size := by simpa using hb
    subst e
    exact I1.fpOk (Nat.le_refl _) (I1.hok.fresh (Nat.le_refl _))
  · obtain ⟨its, rv, p, hz⟩ := I1.tuple hq
    refine wpAny_pyIter_tuple (show s1.heap.IsTuple a its.toArray from p) ?_
    refine ⟨s1.heap.objs.size, [s1.heap.objs.size], _, _, H1, rfl, I1.kept (t' := s1.toks) fun b o e => Heap.get?_push_of_some _ e, turn_tuple a _, ⟨_, Heap.get?_push_size _ rfl, rfl, rfl⟩, fun b hb => ?_, q _ (.inr ⟨rfl, hq⟩)⟩
    have e : b = s1.heap.objs.size := by simpa using hb
    subst e
    exact I1.fpOk (Nat.le_refl _) (I1.hok.fresh (Nat.le_refl _))
theorem lc_sq {K : PySem.W.Frag} {It : It} {a : Addr} {xs : List V} {g : TG} {tt : TT} {te : TE} {vs : List Nat} {σ : L2.St} {H0 H1 : Hp} {D : Addr} {Qd : Hp → Prop} (hIt : IsSq K H0 a xs It) (Pv : Nat → Hp → Prop) (h0 : Pv 0 (upd H1 D (.lst []))) (hk : ∀ i H, Pv i H → Same H0 H)
    (hs : ∀ i x H, xs[i]? = some x → Pv i H → g x (wipe σ vs) H fun σ2 H2 => wipe σ2 vs = wipe σ vs ∧ tt σ2 H2 fun b H3 =>
      if b = true then te σ2 H3 fun y H4 => ∃ acc, H4 D = some (.lst acc) ∧ acc.length < sizeLine ∧ Pv (i + 1) (upd H4 D (.lst (acc ++ [y]))) else Pv (i + 1) H3) (hd : ∀ H, Pv xs.length H → Qd H) :
    ∃ W : Nat → Nat → Hp → Prop, (∃ m, W 0 m (upd H1 D (.lst []))) ∧ ∀ i m H, W i m H →
      (It.stop i H ∧ Qd H) ∨ (It.go i H ∧ ∃ Nx : Hp → Prop, (∀ H', Nx H' → ∃ m', m' < m ∧ W (i + 1) m' H') ∧ ∀ x H', It.yld i H x H' → g x (wipe σ vs) H' fun σ2 H2 => wipe σ2 vs = wipe σ vs ∧ tt σ2 H2 fun b H3 =>
        if b = true then te σ2 H3 fun y H4 => ∃ acc, H4 D = some (.lst acc) ∧ acc.length < sizeLine ∧ Nx (upd H4 D (.lst (acc ++ [y]))) else Nx H3) := by
  rcases hIt with ⟨rfl, h⟩ | ⟨rfl, h⟩
  · exact lc_list Pv h0 (fun i H _ q => SqL.keepAt (fun o e => hk i H q _ o e) h) hs hd
  · exact lc_tup Pv h0 (fun i H _ q => SqT.same (hk i H q) h) hs hd
def FAtS (K : PySem.W.Frag) (H : Hp) (as : List Addr) (Xs : List (List Int)) : Prop := as.length = Xs.length ∧ ∀ (i : Nat) (a : Addr) (X : List Int), as[i]? = some a → Xs[i]? = some X → Sq K H a (X.map V.int)
theorem FAtS.same {K : PySem.W.Frag} {H H' : Hp} {as : List Addr} {Xs : List (List Int)} (s : Same H H') (h : FAtS K H as Xs) : FAtS K H' as Xs := ⟨h.1, fun i a X e1 e2 => (h.2 i a X e1 e2).same s⟩
theorem FAt.sq {K : PySem.W.Frag} {H : Hp} {as : List Addr} {Xs : List (List Int)} (h : FAt H as Xs) : FAtS K H as Xs := ⟨h.1, fun i a X e1 e2 => .inl (SqL.of (h.2 i a X e1 e2))⟩
theorem RAt.sq {K : PySem.W.Frag} {H : Hp} {as : List Addr} {Xs : List (List Int)} (h : RAt K H as Xs) : FAtS K H as Xs := ⟨h.1, fun i a X e1 e2 => .inr (h.2 i a X e1 e2)⟩
theorem FAtS.nth {K : PySem.W.Frag} {H : Hp} {as : List Addr} {Xs : List (List Int)} (h : FAtS K H as Xs) {i : Nat} {x : V} (e : (as.map V.ref)[i]? = some x) : ∃ a X, x = .ref a ∧ as[i]? = some a ∧ Xs[i]? = some X ∧ Sq K H a (X.map V.int) := by
  rw [List.getElem?_map] at e
  cases q : as[i]? with
  | none => rw [q] at e; cases e
  | some a =>
    rw [q] at e
    have il : i < Xs.length := by rw [← h.1]; exact (List.getElem?_eq_some_iff.mp q).1
    exact ⟨a, Xs[i], (Option.some.inj e).symm, rfl, List.getElem?_eq_getElem il, h.2 i a _ q (List.getElem?_eq_getElem il)⟩
theorem Sq.butO {K : PySem.W.Frag} {H H' : Hp} {a d : Addr} {xs : List V} {C dx : Addr} {fs : List (Str × V)} (hd : H d = some (.ins C dx fs)) (s : But d H H') (h : Sq K H a xs) : Sq K H' a xs := by
  rcases h with h | h
  · rcases h with h | h
    · rcases h with h | ⟨u, h⟩
      · exact .inl (.inl (.inl (s _ _ (ne_of h hd (by intro z; cases z)) h)))
      · exact .inl (.inl (.inr ⟨u, s _ _ (ne_of h hd (by intro z; cases z)) h⟩))
    · exact .inl (.inr h)
  · exact .inr (SqT.butO hd s h)
/-- rows that are tuples, each at its place -/
def RTp (H : Hp) (as : List Addr) (Xs : List (List Int)) : Prop := as.length = Xs.length ∧ ∀ (i : Nat) (a : Addr) (X : List Int), as[i]? = some a → Xs[i]? = some X → H a = some (.tup (X.map V.int))
theorem RTp.map {H H' : Hp} {as : List Addr} {Xs : List (List Int)} (h : RTp H as Xs) (z : ∀ a ys, H a = some (.tup ys) → H' a = some (.tup ys)) : RTp H' as Xs := ⟨h.1, fun i a X e1 e2 => z _ _ (h.2 i a X e1 e2)⟩
theorem RTp.snoc {H : Hp} {as : List Addr} {Xs : List (List Int)} {a : Addr} {X : List Int} (h : RTp H as Xs) (z : H a = some (.tup (X.map V.int))) : RTp H (as ++ [a]) (Xs ++ [X]) :=
  ⟨by rw [List.length_append, List.length_append, h.1]; rfl, fun i b Y e1 e2 => by
    rcases get_snoc e1 with e1' | ⟨q, rfl⟩
    · rcases get_snoc e2 with e2' | ⟨q, rfl⟩
      · exact h.2 i b Y e1' e2'
      · have := get_len e1'; rw [h.1] at this; omega
    · rcases get_snoc e2 with e2' | ⟨q2, rfl⟩
      · have := get_len e2'; rw [← h.1] at this; omega
      · exact z⟩
/-- rows that are lists or tuples, each at its place -/
def FAtP (H : Hp) (as : List Addr) (Xs : List (List Int)) : Prop := ∀ (i : Nat) (a : Addr) (X : List Int), as[i]? = some a → Xs[i]? = some X → H a = some (.lst (X.map V.int)) ∨ H a = some (.tup (X.map V.int))
section
variable {P : Program} {w : World} {K : PySem.W.Frag} {mg : Str → Option Value} {base : Heap} {C J B NC WC cA tA : Addr} {t1 t2 t3 : Tok}
def okWorld (l f : Int) (Xs : List (List Int)) (ss : List T3) : Bool := okNums l f && (okRows f Xs && okSteps l Xs.length ss)
def But2 (p q : Addr) (H H' : Hp) : Prop := ∀ b o, b ≠ p → b ≠ q → H b = some o → H' b = some o
def spWInit (K : PySem.W.Frag) (NC WC tA : Addr) : Sp := fun vs H Q E => ∃ (p dx : Addr) (l f : Int) (sa pa : Addr) (ras0 as0 : List Addr) (Xs : List (List Int)) (ps : List T3), vs = [.ref p, .int l, .int f, .ref sa, .ref pa] ∧ H p = some (.ins WC dx []) ∧
  Sq K H sa (ras0.map V.ref) ∧ FAtS K H ras0 Xs ∧ FAtP H ras0 Xs ∧ Sq K H pa (as0.map V.ref) ∧ PAt H as0 ps ∧ TabG H tA ∧ Xs.length ≤ 1000 ∧ (∀ X ∈ Xs, X.length ≤ 1000) ∧ ps.length ≤ 1000 ∧
  (∀ (ss : List T3) (ta tb d : Addr) (ras as : List Addr) H', (ss.Pairwise fun x y => lex3 y x = false) → ss.Perm ps → okWorld l f Xs ss = true → But2 p tA H H' → TabG H' tA → WoE K WC H H' p dx l f ta tb d ras as Xs ss → RTp H' ras Xs → Q .non H') ∧
  (∀ (ss : List T3), (ss.Pairwise fun x y => lex3 y x = false) → ss.Perm ps → okWorld l f Xs ss = false → ∀ H', E (.ref NC) none H')
theorem ok_World_init {f : Addr} {fd : FuncData} (FF : Fun K "__init__" "World.__init__" s_World_init f fd) (T : Txt K mg C J B) (TC : TxtC K WC)
    (h_check_numbers : HasX P w K mg base "check_numbers" 2 a_check_numbers (spCkN NC)) (h_check_states : HasX P w K mg base "check_states" 5 a_check_states (spCkS K NC WC tA)) (h_check_steps : HasX P w K mg base "check_steps" 5 a_check_steps (spCkT K NC WC tA))
    (h_ends_of : Has P w K mg base "ends_of" 1 a_ends_of (spEnds K)) : FnOk P w K mg base (L2.CX P w) 6 f fd a_World_init (spWInit K NC WC tA) := by
  refine FF.okX sc_World_init (fun vs H Q E h => ?_) (fun cdv A outer s H vs Q E hr h => ?_)
  · obtain ⟨p, dx, l, f, sa, pa, ras0, as0, Xs, ps, rfl, _⟩ := h
    rfl
  · obtain ⟨p, dx, l, f, sa, pa, ras0, as0, Xs, ps, rfl, hp, hsa, fat, fap, hpa, pat, tg, xs1, xs2, ps1, k1, k2⟩ := h
    refine ⟨_, (pss_cons (ps_fld (pv 0) (pv 1) rfl)
      (pss_cons (ps_fld (pv 0) (pv 2) rfl)
      (pss_cons (ps_fld (pv 0) (pe_callTy call_tuple_of rfl T.z_tuple (by decide +kernel) (pa_cons (pe_lc (own := [("row", 5)]) (g := gName 5) rfl sc_World_init.nd (pi_sq (pv 3)) (blkOk_by (own := [("row", 5)]) (N := n_World_init) (sc := defScope s_World_init) (by decide +kernel)) (fun _ _ _ _ _ => (pg_name (i := 5) sc_World_init.nd rfl (.inl rfl))) (fun _ _ _ _ _ => pts_nil) (fun _ _ _ _ _ => (pe_callTy (@id (CallR _ (.type "tuple") (rTupOf K)) call_tuple_of) rfl T.z_tuple (by decide +kernel) (pa_cons (pv 5) pa_nil)))) pa_nil)) rfl)
      (pss_cons (ps_fld (pv 0) (pe_callTy call_tuple_of rfl T.z_tuple (by decide +kernel) (pa_cons (pe_callB cr_sorted3 rfl T.z_sorted (by decide +kernel) (pa_cons (pe_lc (own := [("step", 6)]) (g := gName 6) rfl sc_World_init.nd (pi_sq (pv 4)) (blkOk_by (own := [("step", 6)]) (N := n_World_init) (sc := defScope s_World_init) (by decide +kernel)) (fun _ _ _ _ _ => (pg_name (i := 6) sc_World_init.nd rfl (.inl rfl))) (fun _ _ _ _ _ => pts_nil) (fun _ _ _ _ _ => (pe_callTy (@id (CallR _ (.type "tuple") (rTupOf K)) call_tuple_of) rfl T.z_tuple (by decide +kernel) (pa_cons (pv 6) pa_nil)))) pa_nil)) pa_nil)) rfl)
      (pss_cons (ps_expr (pe_callX h_check_numbers (hr.mono (by omega)) (takes_of rfl rfl rfl rfl) (pa_cons (pv 1) (pa_cons (pv 2) pa_nil))))
      (pss_cons (ps_expr (pe_callX h_check_states (hr.mono (by omega)) (takes_of rfl rfl rfl rfl) (pa_cons (pv 0) pa_nil)))
      (pss_cons (ps_expr (pe_callX h_check_steps (hr.mono (by omega)) (takes_of rfl rfl rfl rfl) (pa_cons (pv 0) pa_nil)))
      (PSs.nox (pss_one (ps_fld (pv 0) (pe_callH h_ends_of (hr.mono (by omega)) (pa_cons (pe_fld (pv 0) rfl) pa_nil)) rfl)))))))))), ?_⟩
    refine ⟨.int l, rfl, .ref p, rfl, p, WC, dx, [], rfl, hp, TC.cl, TC.nL, by show 0 < 1000; decide, ?_⟩
    refine ⟨.int f, rfl, .ref p, rfl, p, WC, dx, _, rfl, upd_same, TC.cl, TC.nF, by show 1 < 1000; decide, ?_⟩
    have bu2 : But p H (upd (upd H p (.ins WC dx (putF "labels" (V.int l) []))) p (.ins WC dx (putF "facts" (V.int f) (putF "labels" (V.int l) [])))) := (But.upd).trans But.upd
    have g2 : (upd (upd H p (.ins WC dx (putF "labels" (V.int l) []))) p (.ins WC dx (putF "facts" (V.int f) (putF "labels" (V.int l) [])))) p = some (.ins WC dx [("labels", .int l), ("facts", .int f)]) := by rw [upd_same]; rfl
    generalize upd (upd H p (.ins WC dx (putF "labels" (V.int l) []))) p (.ins WC dx (putF "facts" (V.int f) (putF "labels" (V.int l) []))) = G2 at bu2 g2
    have ntA : tA ≠ p := fun e => by obtain ⟨qs, q, _⟩ := tg; rw [e, hp] at q; cases q
    have fat2 : FAtS K G2 ras0 Xs := ⟨fat.1, fun i a X e1 e2 => Sq.butO hp bu2 (fat.2 i a X e1 e2)⟩
    have fap2 : FAtP G2 ras0 Xs := fun i a X e1 e2 => (fap i a X e1 e2).imp (fun q => bu2 _ _ (ne_of q hp (by intro z; cases z)) q) fun q => bu2 _ _ (ne_of q hp (by intro z; cases z)) q
    have pat2 : PAt G2 as0 ps := pat.butO hp bu2
    have tg2 : TabG G2 tA := by obtain ⟨qs, q, t⟩ := tg; exact ⟨qs, bu2 _ _ ntA q, t⟩
    have hsa2 := Sq.butO hp bu2 hsa
    have hpa2 := Sq.butO hp bu2 hpa
    -- the rows
    refine ⟨.ref sa, rfl, sa, _, rfl, hsa2, fun It hIt D hD => ?_⟩
    have nDp : D ≠ p := fun e => by rw [e, g2] at hD; cases hD
    refine lc_sq hIt (fun i G => ∃ ras : List Addr, Same G2 G ∧ G D = some (.lst (ras.map V.ref)) ∧ RAt K G ras (Xs.take i) ∧ RTp G ras (Xs.take i)) ⟨[], Same.new hD, upd_same, by simp [RAt], by simp [RTp]⟩ (fun i G ⟨_, sG, _⟩ => sG) ?_ ?_
    · rintro i x G hx ⟨ras, sG, gD, rat, rtp⟩
      obtain ⟨a, X, rfl, ha, hX, il⟩ := (fat2.same sG).nth hx
      have lt : i < Xs.length := (List.getElem?_eq_some_iff.mp hX).1
      have lT : ∀ {H' : Hp} {o : HO}, H' D = some (.lst (ras.map V.ref)) → ∀ (a : Addr) (ys : List V), H' a = some (.tup ys) → (upd H' D o) a = some (.tup ys) := fun e a ys q => by rw [upd_ne (ne_of q e (by intro z; cases z))]; exact q
      clear il
      rcases fap2 i a X ha hX with q0 | q0
      · refine ⟨rfl, .ref a, rfl, a, _, rfl, .inl ⟨SqL.of (sG _ _ q0), fun q hq => ?_⟩⟩
        have s1 := Same.new (o := .tup (X.map V.int)) hq
        have nD : q ≠ D := fun e => by rw [e, gD] at hq; cases hq
        refine ⟨_, s1 _ _ gD, by rw [List.length_map, rat.1, List.length_take]; exact small1000 (by omega), ras ++ [q], fun b o e => by rw [upd_ne (ne_of_none e hD)]; exact s1 _ _ (sG b o e), by rw [upd_same, List.map_append]; rfl, ?_⟩
        rw [List.take_add_one, hX, Option.toList_some]
        have sD : ∀ b ys, SqT K (upd G q (.tup (X.map V.int))) b ys → SqT K (upd (upd G q (.tup (X.map V.int))) D (.lst (ras.map V.ref ++ [.ref q]))) b ys := fun b ys e => SqT.lk (LKp.upd (s1 _ _ gD)) e
        refine ⟨⟨by rw [List.length_append, List.length_append, rat.1]; rfl, fun j b Y e1 e2 => ?_⟩, RTp.snoc ((rtp.map fun a ys q => s1 _ _ q).map (lT (s1 _ _ gD))) (lT (s1 _ _ gD) _ _ upd_same)⟩
        rcases get_snoc e1 with e1' | ⟨z1, rfl⟩
        · rcases get_snoc e2 with e2' | ⟨z2, rfl⟩
          · exact sD _ _ (SqT.same s1 (rat.2 j b Y e1' e2'))
          · have := get_len e1'; rw [rat.1] at this; omega
        · rcases get_snoc e2 with e2' | ⟨z2, rfl⟩
          · have := get_len e2'; rw [← rat.1] at this; omega
          · exact sD _ _ (SqT.of upd_same)
      · have il : SqT K G a (X.map V.int) := SqT.of (sG _ _ q0)
        refine ⟨rfl, .ref a, rfl, a, _, rfl, .inr ⟨il, ?_⟩⟩
        refine ⟨_, gD, by rw [List.length_map, rat.1, List.length_take]; exact small1000 (by omega), ras ++ [a], fun b o e => by rw [upd_ne (ne_of_none e hD)]; exact sG b o e, by rw [upd_same, List.map_append]; rfl, ?_⟩
        rw [List.take_add_one, hX, Option.toList_some]
        have sD : ∀ b ys, SqT K G b ys → SqT K (upd G D (.lst (ras.map V.ref ++ [.ref a]))) b ys := fun b ys e => SqT.lk (LKp.upd gD) e
        have ita : G a = some (.tup (X.map V.int)) := sG _ _ q0
        refine ⟨⟨by rw [List.length_append, List.length_append, rat.1]; rfl, fun j b Y e1 e2 => ?_⟩, RTp.snoc (rtp.map (lT gD)) (lT gD _ _ ita)⟩
        rcases get_snoc e1 with e1' | ⟨z1, rfl⟩
        · rcases get_snoc e2 with e2' | ⟨z2, rfl⟩
          · exact sD _ _ (rat.2 j b Y e1' e2')
          · have := get_len e1'; rw [rat.1] at this; omega
        · rcases get_snoc e2 with e2' | ⟨z2, rfl⟩
          · have := get_len e2'; rw [← rat.1] at this; omega
          · exact sD _ _ il
    rintro G3 ⟨ras, s3, gD, rat, rtp⟩
    rw [List.length_map, fat.1, List.take_length] at rat rtp
    refine ⟨D, _, rfl, .inl ⟨SqL.of gD, fun ta hta => ?_⟩⟩
    have s4 := Same.new (o := .tup (ras.map V.ref)) hta
    have s24 := s3.trans s4
    have nta : ta ≠ p := fun e => by rw [e, s3 _ _ g2] at hta; cases hta
    refine ⟨.ref p, rfl, p, WC, dx, _, rfl, s24 _ _ g2, TC.cl, TC.nS, by show 2 < 1000; decide, ?_⟩
    have bu5 : But p (upd G3 ta (.tup (ras.map V.ref))) (upd (upd G3 ta (.tup (ras.map V.ref))) p (.ins WC dx (putF "states" (V.ref ta) [("labels", .int l), ("facts", .int f)]))) := But.upd
    have g5 : (upd (upd G3 ta (.tup (ras.map V.ref))) p (.ins WC dx (putF "states" (V.ref ta) [("labels", .int l), ("facts", .int f)]))) p = some (.ins WC dx [("labels", .int l), ("facts", .int f), ("states", .ref ta)]) := by rw [upd_same]; rfl
    have st4 : SqT K (upd G3 ta (.tup (ras.map V.ref))) ta (ras.map V.ref) := SqT.of upd_same
    have st5 := SqT.butO (s24 _ _ g2) bu5 st4
    have rat5 := (rat.same s4).butO (s24 _ _ g2) bu5
    have rtp5 := (rtp.map fun a ys q => s4 _ _ q).map fun a ys q => bu5 _ _ (ne_of q (s24 _ _ g2) (by intro z; cases z)) q
    have pat5 := (pat2.same s24).butO (s24 _ _ g2) bu5
    have hpa5 := Sq.butO (s24 _ _ g2) bu5 (hpa2.same s24)
    have bH5 : But p H (upd (upd G3 ta (.tup (ras.map V.ref))) p (.ins WC dx (putF "states" (V.ref ta) [("labels", .int l), ("facts", .int f)]))) := (bu2.trans (Same.but s24)).trans bu5
    generalize upd (upd G3 ta (.tup (ras.map V.ref))) p (.ins WC dx (putF "states" (V.ref ta) [("labels", .int l), ("facts", .int f)])) = G5 at bu5 g5 st5 rat5 pat5 hpa5 bH5 rtp5
    have tT5 : ∀ {a : Addr} {ys : List V}, G5 a = some (.tup ys) → a ≠ tA := fun q e => by
      obtain ⟨qs, z, _⟩ := tg
      rw [e, bH5 _ _ ntA z] at q
      cases q
    -- the steps
    refine ⟨.ref pa, rfl, pa, _, rfl, hpa5, fun It2 hIt2 D2 hD2 => ?_⟩
    refine lc_sq hIt2 (fun i G => Same G5 G ∧ G D2 = some (.lst ((as0.take i).map V.ref))) ⟨Same.new hD2, upd_same⟩ (fun i G ⟨sG, _⟩ => sG) ?_ ?_
    · rintro i x G hx ⟨sG, gD2⟩
      obtain ⟨a, q, rfl, ha, hq, at_⟩ := (pat5.same sG).nth hx
      have lt : i < as0.length := (List.getElem?_eq_some_iff.mp ha).1
      refine ⟨rfl, .ref a, rfl, a, _, rfl, .inr ⟨SqT.of at_, _, gD2, by rw [List.length_map, List.length_take]; exact small1000 (by have := pat.1; omega), fun b o e => by rw [upd_ne (ne_of_none e hD2)]; exact sG b o e, ?_⟩⟩
      rw [upd_same, List.take_add_one, ha, Option.toList_some, List.map_append]
      rfl
    rintro G6 ⟨s6, gD2⟩
    rw [List.length_map, List.take_length] at gD2
    have pat6 := pat5.same s6
    obtain ⟨kk, hkk⟩ := trips_back pat6
    refine ⟨D2, as0.map V.ref, kk, rfl, SqL.of gD2, fun x hx => ?_, fun ys q srt stb hq => ?_⟩
    · obtain ⟨i, hi, e⟩ := List.getElem_of_mem hx
      obtain ⟨a, r, rfl, ha, hr', at_⟩ := pat6.nth (by rw [List.getElem?_eq_getElem hi, e])
      refine ⟨a, rfl, ?_⟩
      rw [hkk a r i ha hr']
      exact at_
    have s7 := Same.new (o := .lst ys) hq
    refine ⟨q, _, rfl, .inl ⟨SqL.of upd_same, fun tb htb => ?_⟩⟩
    have s8 := Same.new (o := .tup ys) htb
    -- which triples they are
    obtain ⟨as, hys⟩ : ∃ as : List Addr, ys = as.map V.ref := by
      have mem : ∀ y ∈ ys, ∃ a, y = V.ref a := fun y hy => by
        obtain ⟨a, _, e⟩ := List.mem_map.mp (stb.perm.mem_iff.mp hy)
        exact ⟨a, e.symm⟩
      clear srt stb s7 s8 htb hq
      induction ys with
      | nil => exact ⟨[], rfl⟩
      | cons y ys ih =>
        obtain ⟨a, rfl⟩ := mem y List.mem_cons_self
        obtain ⟨as, e⟩ := ih fun z hz => mem z (List.mem_cons_of_mem _ hz)
        exact ⟨a :: as, by rw [e]; rfl⟩
    subst hys
    have perm : (as.map fun a => kk (.ref a)).Perm ps := by
      have e1 := stb.perm.map kk
      rw [List.map_map, List.map_map] at e1
      have e2 : as0.map (kk ∘ V.ref) = ps := by
        refine List.ext_getElem? fun i => ?_
        rw [List.getElem?_map]
        cases e3 : as0[i]? with
        | none =>
          have := List.getElem?_eq_none_iff.mp e3
          rw [pat.1] at this
          rw [List.getElem?_eq_none_iff.mpr this]
          rfl
        | some a =>
          have il : i < ps.length := by rw [← pat.1]; exact (List.getElem?_eq_some_iff.mp e3).1
          have e4 := List.getElem?_eq_getElem il
          rw [e4]
          exact congrArg some (hkk a _ i e3 e4)
      rw [e2] at e1
      exact e1
    have sort : (as.map fun a => kk (.ref a)).Pairwise fun x y => lex3 y x = false := by
      have e1 := List.pairwise_map.mp srt
      exact List.pairwise_map.mpr e1
    have pas : PAt G6 as (as.map fun a => kk (.ref a)) := ⟨by rw [List.length_map], fun i a r e1 e2 => by
      rw [List.getElem?_map, e1] at e2
      have e3 := (Option.some.inj e2).symm
      subst e3
      have hm : V.ref a ∈ as0.map V.ref := stb.perm.mem_iff.mp (List.mem_map.mpr ⟨a, List.mem_of_getElem? e1, rfl⟩)
      obtain ⟨j, hj, e4⟩ := List.getElem_of_mem hm
      obtain ⟨a', r', e5, ha', hr', at_⟩ := pat6.nth (by rw [List.getElem?_eq_getElem hj, e4])
      cases e5
      show G6 a = some (.tup [.int (kk (.ref a)).1, .int (kk (.ref a)).2.1, .int (kk (.ref a)).2.2])
      rw [hkk a r' j ha' hr']
      exact at_⟩
    generalize (as.map fun a => kk (.ref a)) = ss at perm sort pas
    have s58 := s6.trans (s7.trans s8)
    refine ⟨.ref p, rfl, p, WC, dx, _, rfl, s58 _ _ g5, TC.cl, TC.nT, by show 3 < 1000; decide, ?_⟩
    have bu9 : But p (upd (upd G6 q (.lst (as.map V.ref))) tb (.tup (as.map V.ref))) (upd (upd (upd G6 q (.lst (as.map V.ref))) tb (.tup (as.map V.ref))) p (.ins WC dx (putF "steps" (V.ref tb) [("labels", .int l), ("facts", .int f), ("states", .ref ta)]))) := But.upd
    have g9 : (upd (upd (upd G6 q (.lst (as.map V.ref))) tb (.tup (as.map V.ref))) p (.ins WC dx (putF "steps" (V.ref tb) [("labels", .int l), ("facts", .int f), ("states", .ref ta)]))) p = some (.ins WC dx (wf l f ta tb)) := by rw [upd_same]; rfl
    have g8 := s58 _ _ g5
    have W : WoA K WC (upd (upd (upd G6 q (.lst (as.map V.ref))) tb (.tup (as.map V.ref))) p (.ins WC dx (putF "steps" (V.ref tb) [("labels", .int l), ("facts", .int f), ("states", .ref ta)]))) p dx l f ta tb ras as Xs ss :=
      ⟨g9, SqT.butO g8 bu9 (SqT.same s58 st5), (rat5.same s58).butO g8 bu9, SqT.butO g8 bu9 (SqT.of upd_same), (pas.same (s7.trans s8)).butO g8 bu9⟩
    have bH9 := (bH5.trans (Same.but s58)).trans bu9
    have tg9 : TabG (upd (upd (upd G6 q (.lst (as.map V.ref))) tb (.tup (as.map V.ref))) p (.ins WC dx (putF "steps" (V.ref tb) [("labels", .int l), ("facts", .int f), ("states", .ref ta)]))) tA := by
      obtain ⟨qs, z, t⟩ := tg
      exact ⟨qs, bH9 _ _ ntA z, t⟩
    generalize upd (upd (upd G6 q (.lst (as.map V.ref))) tb (.tup (as.map V.ref))) p (.ins WC dx (putF "steps" (V.ref tb) [("labels", .int l), ("facts", .int f), ("states", .ref ta)])) = G9 at W bH9 tg9 bu9
    -- the checks
    have bad := k2 ss sort perm
    have good := k1 ss ta tb
    unfold okWorld at bad good
    refine ⟨.int l, rfl, .int f, rfl, l, f, rfl, fun o1 => ?_, fun o1 => bad (by rw [o1, Bool.false_and]) _⟩
    rw [o1, Bool.true_and] at bad good
    refine ⟨.ref p, rfl, p, dx, l, f, ta, tb, ras, as, Xs, ss, rfl, W, tg9, xs1, fun o2 H10 t10 => ?_, fun o2 H10 => bad (by rw [o2, Bool.false_and]) _⟩
    rw [o2, Bool.true_and] at bad good
    have W10 := W.tb tg9 t10
    refine ⟨.ref p, rfl, p, dx, l, f, ta, tb, ras, as, Xs, ss, rfl, W10, t10.2, fun o3 H11 t11 => ?_, fun o3 H11 => bad o3 _⟩
    have W11 := W10.tb t10.2 t11
    have lss : ss.length ≤ 1000 := by rw [perm.length_eq]; exact ps1
    refine ⟨.ref p, rfl, p, WC, dx, _, .ref tb, rfl, W11.ob, TC.cl, TC.nT, rfl, tb, as, ss, rfl, W11.sp, W11.tr, lss, fun d H12 s12 en => ?_⟩
    refine ⟨.ref p, rfl, p, WC, dx, _, rfl, s12 _ _ W11.ob, TC.cl, TC.nE, by show 4 < 1000; decide, ?_⟩
    have g12 := s12 _ _ W11.ob
    have bu13 : But p H12 (upd H12 p (.ins WC dx (putF "_ends" (V.ref d) (wf l f ta tb)))) := But.upd
    have tg12 := t11.2.same s12
    refine good d ras as _ sort perm o3 (fun b o n1 n2 e => ?_) ?_ ⟨by rw [upd_same]; rfl, SqT.butO g12 bu13 (SqT.same s12 W11.st), (W11.rw.same s12).butO g12 bu13, SqT.butO g12 bu13 (SqT.same s12 W11.sp), (W11.tr.same s12).butO g12 bu13, (en.butO g12 bu13).weak fun b hb => ?_⟩ (rtp5.map fun a ys q => bu13 _ _ (ne_of q g5 (by intro z; cases z)) (s12 _ _ (t11.1 _ _ (tT5 q) (t10.1 _ _ (tT5 q) (bu9 _ _ (ne_of q g5 (by intro z; cases z)) (s58 _ _ q))))))
    · exact bu13 _ _ n1 (s12 _ _ (t11.1 _ _ n2 (t10.1 _ _ n2 (bH9 _ _ n1 e))))
    · obtain ⟨qs, z, t⟩ := tg12
      exact ⟨qs, bu13 _ _ ntA z, t⟩
    · cases q : H b with
      | none => rfl
      | some o =>
        by_cases n1 : b = p
        · rw [n1, W11.ob] at hb
          cases hb
        · by_cases n2 : b = tA
          · obtain ⟨qs, z, t⟩ := t11.2
            rw [n2, z] at hb
            cases hb
          · rw [t11.1 _ _ n2 (t10.1 _ _ n2 (bH9 _ _ n1 q))] at hb
            cases hb
end
end Fw

set_option maxRecDepth 100000
set_option maxHeartbeats 8000000
namespace Fw
open PySem PySem.Spec PyProof.Rows L2 GxR
theorem ok_of {l f : Int} {Xs : List (List Int)} {ss : List T3} (hl : 1 ≤ l ∧ l ≤ 3) (hf : 0 ≤ f ∧ f ≤ 6) (h1 : 1 ≤ Xs.length) (h4 : Xs.length ≤ 400) (hr : ∀ X ∈ Xs, RowUp f X) (hs : ss.Pairwise fun x y => lex3 x y = true)
    (hb : ∀ p ∈ ss, 0 ≤ p.2.1 ∧ p.2.1 < l ∧ 0 ≤ p.1 ∧ p.1 < (Xs.length : Int) ∧ 0 ≤ p.2.2 ∧ p.2.2 < (Xs.length : Int)) : okWorld l f Xs ss = true := by
  unfold okWorld okNums okRows okSteps
  have a1 : Xs.all (okRow f) = true := List.all_eq_true.mpr fun X hX => by
    have r := hr X hX
    unfold okRow
    rw [Bool.and_eq_true]
    refine ⟨List.all_eq_true.mpr fun x hx => ?_, (asc_pair ltI_tr).mpr (r.1.imp fun {a b} h => decide_eq_true h)⟩
    have := r.2 x hx
    rw [Bool.and_eq_true, decide_eq_true_eq, decide_eq_true_eq]
    omega
  have a2 : ss.all (okStep l Xs.length) = true := List.all_eq_true.mpr fun p hp => by
    have r := hb p hp
    unfold okStep
    simp only [Bool.and_eq_true, decide_eq_true_eq]
    omega
  rw [a1, a2, (asc_pair lex3_tr).mpr hs, decide_eq_true hl.1, decide_eq_true hl.2, decide_eq_true hf.1, decide_eq_true hf.2, decide_eq_true (by omega : 1 ≤ (Xs.length : Int)), decide_eq_true (by omega : (Xs.length : Int) ≤ 400)]
  rfl
theorem ints_nth {xs : List Int} {i : Nat} {x : V} (hx : (xs.map V.int)[i]? = some x) : ∃ z, xs[i]? = some z ∧ x = V.int z := by
  rw [List.getElem?_map] at hx
  cases e : xs[i]? with
  | none => rw [e] at hx; cases hx
  | some z => rw [e] at hx; exact ⟨z, rfl, (Option.some.inj hx).symm⟩
theorem WoE.same {K : PySem.W.Frag} {WC : Addr} {H0 H H' : Hp} {p dx : Addr} {l f : Int} {ta tb d : Addr} {ras as : List Addr} {Xs : List (List Int)} {ss : List T3} (z : Same H H') (h : WoE K WC H0 H p dx l f ta tb d ras as Xs ss) : WoE K WC H0 H' p dx l f ta tb d ras as Xs ss :=
  ⟨z _ _ h.ob, SqT.same z h.st, h.rw.same z, SqT.same z h.sp, h.tr.same z, h.en.map (fun kvs e => z _ _ e) fun a xs _ e => z _ _ e⟩
theorem RAt.snoc {K : PySem.W.Frag} {H : Hp} {as : List Addr} {Xs : List (List Int)} {a : Addr} {X : List Int} (h : RAt K H as Xs) (z : SqT K H a (X.map V.int)) : RAt K H (as ++ [a]) (Xs ++ [X]) :=
  ⟨by rw [List.length_append, List.length_append, h.1]; rfl, fun i b Y e1 e2 => by
    rcases get_snoc e1 with e1' | ⟨q, rfl⟩
    · rcases get_snoc e2 with e2' | ⟨q, rfl⟩
      · exact h.2 i b Y e1' e2'
      · have := get_len e1'; rw [h.1] at this; omega
    · rcases get_snoc e2 with e2' | ⟨q2, rfl⟩
      · have := get_len e2'; rw [← h.1] at this; omega
      · exact z⟩
theorem RowUp.mono {f g : Int} {X : List Int} (h : RowUp f X) (l : f ≤ g) : RowUp g X := ⟨h.1, fun x hx => by have := h.2 x hx; omega⟩
theorem itN {a b : Int} {A B : Prop} (h : a ≠ b) (x : B) : if decide (V.int a = V.int b) = true then A else B := (if_neg (by rw [decide_eq_false (fun e => h (V.int.inj e))]; exact Bool.false_ne_true)).mpr x
theorem itY {a b : Int} {A B : Prop} (h : a = b) (x : A) : if decide (V.int a = V.int b) = true then A else B := (if_pos (decide_eq_true (congrArg V.int h))).mpr x
theorem sorted_back {H : Hp} {as0 : List Addr} {ts : List T3} {kk : V → T3} (pat : PAt H as0 ts) (hkk : ∀ (a : Addr) (p : T3) (i : Nat), as0[i]? = some a → ts[i]? = some p → kk (.ref a) = p) {ys : List V}
    (srt : SrtO.Srtd (fun x y => lex3 (kk x) (kk y)) ys) (stb : SrtO.Stb (fun x y => lex3 (kk x) (kk y)) ys (as0.map V.ref)) : ∃ (as : List Addr) (ss : List T3), ys = as.map V.ref ∧ (ss.Pairwise fun x y => lex3 y x = false) ∧ ss.Perm ts ∧ PAt H as ss := by
  obtain ⟨as, hys⟩ : ∃ as : List Addr, ys = as.map V.ref := by
    have mem : ∀ y ∈ ys, ∃ a, y = V.ref a := fun y hy => by
      obtain ⟨a, _, e⟩ := List.mem_map.mp (stb.perm.mem_iff.mp hy)
      exact ⟨a, e.symm⟩
    clear srt stb
    induction ys with
    | nil => exact ⟨[], rfl⟩
    | cons y ys ih =>
      obtain ⟨a, rfl⟩ := mem y List.mem_cons_self
      obtain ⟨as, e⟩ := ih fun z hz => mem z (List.mem_cons_of_mem _ hz)
      exact ⟨a :: as, by rw [e]; rfl⟩
  subst hys
  refine ⟨as, as.map fun a => kk (.ref a), rfl, List.pairwise_map.mpr (List.pairwise_map.mp srt), ?_, by rw [List.length_map], fun i a r e1 e2 => ?_⟩
  · have e1 := stb.perm.map kk
    rw [List.map_map, List.map_map] at e1
    have e2 : as0.map (kk ∘ V.ref) = ts := by
      refine List.ext_getElem? fun i => ?_
      rw [List.getElem?_map]
      cases e3 : as0[i]? with
      | none =>
        have := List.getElem?_eq_none_iff.mp e3
        rw [pat.1] at this
        rw [List.getElem?_eq_none_iff.mpr this]
        rfl
      | some a =>
        have il : i < ts.length := by rw [← pat.1]; exact (List.getElem?_eq_some_iff.mp e3).1
        have e4 := List.getElem?_eq_getElem il
        rw [e4]
        exact congrArg some (hkk a _ i e3 e4)
    rw [e2] at e1
    exact e1
  · rw [List.getElem?_map, e1] at e2
    have e3 := (Option.some.inj e2).symm
    subst e3
    have hm : V.ref a ∈ as0.map V.ref := stb.perm.mem_iff.mp (List.mem_map.mpr ⟨a, List.mem_of_getElem? e1, rfl⟩)
    obtain ⟨j, hj, e4⟩ := List.getElem_of_mem hm
    obtain ⟨a', r', e5, ha', hr', at_⟩ := pat.nth (by rw [List.getElem?_eq_getElem hj, e4])
    cases e5
    show H a = some (.tup [.int (kk (.ref a)).1, .int (kk (.ref a)).2.1, .int (kk (.ref a)).2.2])
    rw [hkk a r' j ha' hr']
    exact at_
theorem trips_say {H : Hp} {as0 : List Addr} {ts : List T3} {kk : V → T3} (pat : PAt H as0 ts) (hkk : ∀ (a : Addr) (p : T3) (i : Nat), as0[i]? = some a → ts[i]? = some p → kk (.ref a) = p) :
    ∀ x ∈ as0.map V.ref, ∃ t, x = V.ref t ∧ H t = some (.tup [.int (kk x).1, .int (kk x).2.1, .int (kk x).2.2]) := fun x hx => by
  obtain ⟨i, hi, e⟩ := List.getElem_of_mem hx
  obtain ⟨a, r, rfl, ha, hr', at_⟩ := pat.nth (by rw [List.getElem?_eq_getElem hi, e])
  refine ⟨a, rfl, ?_⟩
  rw [hkk a r i ha hr']
  exact at_
theorem up_one {a b : List Int} (h : a.Perm b) (ha : a.Pairwise (· ≤ ·)) (hb : b.Pairwise (· < ·)) : a = b := by
  have nb : b.Nodup := hb.imp fun {x y} h e => by omega
  have na : a.Nodup := h.nodup_iff.mpr nb
  refine rising_one ?_ hb fun x => h.mem_iff
  exact (List.pairwise_and_iff.mpr ⟨ha, na⟩).imp fun {x y} h => by have := h.1; have := h.2; omega
theorem PAt.butD {H H' : Hp} {d : Addr} {as : List Addr} {ts : List T3} (dr : Draws H d) (b : But d H H') (h : PAt H as ts) : PAt H' as ts := by
  obtain ⟨ds, q⟩ := dr
  exact ⟨h.1, fun i a p e1 e2 => b _ _ (ne_of (h.2 i a p e1 e2) q (by intro z; cases z)) (h.2 i a p e1 e2)⟩
theorem WAx.butD {H H' : Hp} {d wa sa pa : Addr} {fas pas : List Addr} {W : Wd} (dr : Draws H d) (b : But d H H') (n1 : sa ≠ d) (n2 : pa ≠ d) (n3 : ∀ a ∈ fas, a ≠ d) (h : WAx H wa sa pa fas pas W) : WAx H' wa sa pa fas pas W := by
  have pt := h.t.butD dr b
  obtain ⟨ds, q⟩ := dr
  exact ⟨b _ _ (ne_of h.w q (by intro z; cases z)) h.w, b _ _ n1 h.s, b _ _ n2 h.p, h.f.map fun a o ha e => b _ _ (n3 a ha) e, pt⟩
theorem FAt.tb {P : Addr} {H H' : Hp} {as : List Addr} {Xs : List (List Int)} (g : TabG H P) (t : Tb P H H') (h : FAt H as Xs) : FAt H' as Xs := ⟨h.1, fun i a X e1 e2 => t.1 _ _ (g.ne (h.2 i a X e1 e2) (by intro _ z; cases z)) (h.2 i a X e1 e2)⟩
theorem WAx.tb {P : Addr} {H H' : Hp} {wa sa pa : Addr} {fas pas : List Addr} {W : Wd} (g : TabG H P) (t : Tb P H H') (h : WAx H wa sa pa fas pas W) : WAx H' wa sa pa fas pas W :=
  ⟨t.1 _ _ (g.ne h.w (by intro _ z; cases z)) h.w, t.1 _ _ (g.ne h.s (by intro _ z; cases z)) h.s, t.1 _ _ (g.ne h.p (by intro _ z; cases z)) h.p, h.f.tb g t, h.t.tb g t⟩
theorem IsF.tb {K : PySem.W.Frag} {P : Addr} {H H' : Hp} (g : TabG H P) (t : Tb P H H') {v : V} {f : F} (h : IsF K H v f) : IsF K H' v f := h.map fun _ _ => SqT.tb g t
theorem WoE.tb {K : PySem.W.Frag} {WC P : Addr} {H0 H H' : Hp} {p dx : Addr} {l f : Int} {ta tb d : Addr} {ras as : List Addr} {Xs : List (List Int)} {ss : List T3} (g : TabG H P) (t : Tb P H H') (h : WoE K WC H0 H p dx l f ta tb d ras as Xs ss) : WoE K WC H0 H' p dx l f ta tb d ras as Xs ss :=
  ⟨t.1 _ _ (g.ne h.ob (by intro _ z; cases z)) h.ob, SqT.tb g t h.st, h.rw.tb g t, SqT.tb g t h.sp, h.tr.tb g t, h.en.tb g t⟩
theorem joinS {c : Bool} {A : Prop} {C : L2.St → Hp → Prop} {σ : L2.St} {G : Hp} (Fa : L2.St → Hp → Prop) (hr : ∀ σ5 G5, Fa σ5 G5 → C σ5 G5) (h1 : c = true → (∀ σ5 G5, Fa σ5 G5 → C σ5 G5) → A) (h2 : c = false → Fa σ G) : if c = true then A else C σ G := by
  cases c with
  | true => exact h1 rfl hr
  | false => exact hr _ _ (h2 rfl)
theorem WoE.wst {K : PySem.W.Frag} {WC : Addr} {H0 H : Hp} {p dx : Addr} {l f : Int} {ta tb d r : Addr} {ras as : List Addr} {Xs : List (List Int)} {ss : List T3} (h : WoE K WC H0 H p dx l f ta tb d ras as Xs ss) (e : H r = some (.tup [.ref ta, .ref tb])) : WSt K H (.ref r) ⟨Xs, ss⟩ :=
  ⟨r, ta, tb, ras, as, rfl, ⟨e, .inr h.st, .inr h.sp, ⟨h.rw.1, fun i a X e1 e2 => .inr (h.rw.2 i a X e1 e2)⟩, h.tr⟩⟩
section
variable {P : Program} {w : World} {K : PySem.W.Frag} {mg : Str → Option Value} {base : Heap} {C J B NC WC cA tA : Addr} {t1 t2 t3 : Tok}
def spMade (K : PySem.W.Frag) (WC tA : Addr) : Sp := fun vs H Q _ => ∃ (wa sa pa : Addr) (fas pas : List Addr) (W : Wd) (l f f0 : Int), vs = [.ref wa, .int l, .int f] ∧ WAx H wa sa pa fas pas W ∧ W.Fit ∧ W.Up f0 ∧ 2 ≤ l ∧ l ≤ 3 ∧ f0 ≤ f ∧ 0 ≤ f ∧ f ≤ 6 ∧ TabG H tA ∧
  ∀ (p dx ta tb d : Addr) (ras as : List Addr) H', Tb tA H H' → WoE K WC H H' p dx l f ta tb d ras as W.facts W.steps → RTp H' ras W.facts → Q (.ref p) H'
theorem ok_law_made {f : Addr} {fd : FuncData} (FF : Fun K "_law_made" "_law_made" s_law_made f fd) (T : Txt K mg C J B) (h_World : HasCX P w K mg base "World" WC 6 a_World_init (spWInit K NC WC tA)) : FnOk P w K mg base (L2.CX P w) 8 f fd a_law_made (spMade K WC tA) := by
  refine FF.okX sc_law_made (fun vs H Q E h => ?_) (fun cdv A outer s H vs Q E hr h => ?_)
  · obtain ⟨wa, sa, pa, fas, pas, W, l, f, f0, rfl, _⟩ := h
    rfl
  · obtain ⟨wa, sa, pa, fas, pas, W, l, f, f0, rfl, X, fit, up, l2, l3, ff, f1, f6, tg, k⟩ := h
    refine ⟨_, (pss_one (ps_ret (pe_makeX h_World (hr.mono (by omega)) (takes_of rfl rfl rfl rfl) (pa_cons (pv 1) (pa_cons (pv 2) (pa_cons (pe_lc (own := [("state", 3)]) (g := gName 3) rfl sc_law_made.nd (pi_list (pe_ix ix_tup (pv 0) pe_int (fun _ _ => rfl))) (blkOk_by (own := [("state", 3)]) (N := n_law_made) (sc := defScope s_law_made) (by decide +kernel)) (fun _ _ _ _ _ => (pg_name (i := 3) sc_law_made.nd rfl (.inl rfl))) (fun _ _ _ _ _ => pts_nil) (fun _ _ _ _ _ => (pe_callTy (@id (CallR _ (.type "list") (rListOf K)) call_list_of) rfl T.z_list (by decide +kernel) (pa_cons (pv 3) pa_nil)))) (pa_cons (pe_callTy call_list_of rfl T.z_list (by decide +kernel) (pa_cons (pe_ix ix_tup (pv 0) pe_int (fun _ _ => rfl)) pa_nil)) pa_nil))))))), ?_⟩
    refine ⟨.int l, rfl, .int f, rfl, .ref wa, rfl, wa, _, _, .ref sa, rfl, rfl, SqT.of X.w, rfl, sa, rfl, ⟨_, SqL.of X.s⟩, fun D hD => ?_⟩
    refine lc_list (xs := fas.map V.ref) (fun i G => ∃ gs : List Addr, Same H G ∧ G D = some (.lst (gs.map V.ref)) ∧ FAt G gs (W.facts.take i) ∧ ∀ a ∈ gs, a ≠ D) ⟨[], Same.new hD, upd_same, FAt.nil _, fun a h => by cases h⟩ (fun i G _ ⟨_, sG, _⟩ => SqL.of (sG _ _ X.s)) ?_ ?_
    · rintro i x G hx ⟨gs, sG, gD, fa, nd⟩
      obtain ⟨a, Y, rfl, ha, hY, il⟩ := (X.f.same sG).nth hx
      refine ⟨rfl, .ref a, rfl, a, _, rfl, .inl (SqL.of il), fun q hq => ?_⟩
      have s1 := Same.new (o := .lst (Y.map V.int)) hq
      have lt : i < W.facts.length := (List.getElem?_eq_some_iff.mp hY).1
      have n8 : W.facts.length ≤ 8 := fit.n8
      have nqD : q ≠ D := (ne_of_none gD hq).symm
      refine ⟨_, s1 _ _ gD, by rw [List.length_map, fa.1, List.length_take]; exact small1000 (by omega), gs ++ [q], fun b o e => by rw [upd_ne (ne_of_none e hD)]; exact s1 _ _ (sG b o e), by rw [upd_same, List.map_append]; rfl, ?_⟩
      rw [List.take_add_one, hY, Option.toList_some]
      refine ⟨?_, fun g hg => (List.mem_append.mp hg).elim (nd g) fun z => by rw [List.mem_singleton.mp z]; exact nqD⟩
      refine FAt.snoc (fa.map fun a' o' hm e => ?_) (by show _ = _; rw [upd_ne nqD, upd_same])
      rw [upd_ne (nd a' hm)]
      exact s1 _ _ e
    rintro G1 ⟨gs, sG, gD, fa, _⟩
    rw [List.length_map, X.f.1, List.take_length] at fa
    refine ⟨.ref wa, rfl, wa, _, _, .ref pa, rfl, rfl, SqT.of (sG _ _ X.w), rfl, pa, _, rfl, .inl (SqL.of (sG _ _ X.p)), fun L hL => fun x dx hx hdx ne => ?_⟩
    have s2 := Same.new (o := .lst (pas.map V.ref)) hL
    have s3 : Same (upd G1 L (.lst (pas.map V.ref))) (upd (upd (upd G1 L (.lst (pas.map V.ref))) dx (.own x)) x (.ins WC dx [])) := fun b u e => by rw [upd_ne (ne_of_none e hx), upd_ne (ne_of_none e hdx)]; exact e
    have s13 := sG.trans (s2.trans s3)
    have n8 : W.facts.length ≤ 8 := fit.n8
    have n1 : 1 ≤ W.facts.length := fit.one
    have good : okWorld l f W.facts W.steps = true := ok_of (by omega) (by omega) n1 (by omega) (fun Y hY => (up.rows Y hY).mono ff) up.steps fun q hq => by
      have := up.in_ q hq
      unfold StUp Wd.n at this
      omega
    refine ⟨x, dx, l, f, D, L, gs, pas, W.facts, W.steps, rfl, upd_same, .inl (SqL.of (s3 _ _ (s2 _ _ gD))), (fa.same (s2.trans s3)).sq, (fun i a X e1 e2 => .inl (s3 _ _ (s2 _ _ (fa.2 i a X e1 e2)))), .inl (SqL.of (s3 _ _ upd_same)), X.t.same s13, tg.same s13, by omega, fun Y hY => by have := fit.fc Y hY; omega, by have := fit.st; omega, fun ss ta tb d ras as H' so pe ok b2 tg' W2 RT => ⟨rfl, ?_⟩, fun ss so pe ok H' => ?_⟩
    · have e := sorted_one so up.steps pe
      subst e
      refine k x dx ta tb d ras as H' ⟨fun b u n e => b2 _ _ (ne_of_none (s2 _ _ (sG _ _ e)) hx) n (s13 _ _ e), tg'⟩ ⟨W2.ob, W2.st, W2.rw, W2.sp, W2.tr, W2.en.weak fun b hb => ?_⟩ RT
      cases q : H b with
      | none => rfl
      | some u => rw [s13 _ _ q] at hb; cases hb
    · have e := sorted_one so up.steps pe
      subst e
      rw [good] at ok
      cases ok
end
end Fw

/-! Parts of worlds: what is true in one that lies in another. Pure mathematics. -/
namespace Fw
def Le (X Y : List Int) : Prop := ∀ s, sIn X s = true → sIn Y s = true
theorem Le.refl (X : List Int) : Le X X := fun _ h => h
/-- in order, of states alone -/
def Norm (n : Nat) (X : List Int) : Prop := X = flt n (sIn X)
theorem filter_sub {α : Type} {p q : α → Bool} (h : ∀ x, p x = true → q x = true) : ∀ l : List α, (l.filter p).Sublist (l.filter q)
  | [] => List.Sublist.slnil
  | x :: l => by
    have ih := filter_sub h l
    cases c : p x with
    | true =>
      rw [List.filter_cons_of_pos c, List.filter_cons_of_pos (h x c)]
      exact ih.cons₂ x
    | false =>
      rw [List.filter_cons_of_neg (by rw [c]; exact Bool.false_ne_true)]
      cases c2 : q x with
      | true => rw [List.filter_cons_of_pos c2]; exact ih.cons x
      | false => rw [List.filter_cons_of_neg (by rw [c2]; exact Bool.false_ne_true)]; exact ih
theorem flt_norm (n : Nat) (p : Int → Bool) : Norm n (flt n p) := by
  unfold Norm
  exact flt_congr fun s h0 h1 => (sIn_flt h0 h1).symm
theorem norm_nil (n : Nat) : Norm n [] := by
  unfold Norm flt
  exact (List.filter_eq_nil_iff.mpr fun _ _ h => by cases h).symm
theorem norm_rng (n : Nat) : Norm n (rng n) := by rw [rng_flt]; exact flt_norm n _
theorem sIn_iff {X : List Int} {s : Int} : sIn X s = true ↔ s ∈ X := decide_eq_true_iff
theorem mem_flt {n : Nat} {p : Int → Bool} {s : Int} : s ∈ flt n p ↔ (0 ≤ s ∧ s < (n : Int)) ∧ p s = true := by
  unfold flt
  rw [List.mem_filter, rng_mem]
theorem Norm.mem {n : Nat} {X : List Int} (h : Norm n X) {s : Int} (hs : s ∈ X) : 0 ≤ s ∧ s < (n : Int) := by
  rw [h] at hs
  exact (mem_flt.mp hs).1
theorem Norm.sub {n : Nat} {X Y : List Int} (hX : Norm n X) (hY : Norm n Y) (h : Le X Y) : X.Sublist Y := by
  rw [hX, hY]
  exact filter_sub h _
theorem Norm.eq {n : Nat} {X Y : List Int} (hX : Norm n X) (hY : Norm n Y) (h : ∀ s, s ∈ X ↔ s ∈ Y) : X = Y := by
  rw [hX, hY]
  exact flt_congr fun s _ _ => by
    cases e : sIn Y s with
    | true => exact sIn_iff.mpr ((h s).mpr (sIn_iff.mp e))
    | false =>
      cases e2 : sIn X s with
      | false => rfl
      | true => rw [sIn_iff.mpr ((h s).mp (sIn_iff.mp e2))] at e; cases e
theorem Norm.len {n : Nat} {X : List Int} (h : Norm n X) : X.length ≤ n := by
  rw [h]
  refine Nat.le_trans (List.length_filter_le _ _) ?_
  rw [rng_len]
  exact Nat.le_refl _
theorem fv_one' {k : One} {x : Int} {f : F} (hk : k.bind = true) {y : Int} (hy : y ∈ fv f) (hn : y ≠ x) : y ∈ fv (.one k x f) := by
  simp only [fv, if_pos hk, List.mem_filter, decide_eq_true_eq]
  exact ⟨hy, hn⟩
theorem setE_same {e : Int → List Int} {x : Int} {X : List Int} : setE e x X x = X := if_pos rfl
theorem setE_ne {e : Int → List Int} {x y : Int} {X : List Int} (h : y ≠ x) : setE e x X y = e y := if_neg h
theorem iter_norm {n : Nat} {f : List Int → List Int} (hf : ∀ X, Norm n X → Norm n (f X)) {X : List Int} (hX : Norm n X) : ∀ k, Norm n (iter f k X)
  | 0 => hX
  | k + 1 => hf _ (iter_norm hf hX k)
theorem val_norm {W : Wd} : ∀ (t : F) (e : Int → List Int), (∀ x ∈ fv t, Norm W.n (e x)) → Norm W.n (val W t e)
  | .nul b, e, h => by
    show Norm W.n (if b = true then rng W.n else [])
    split
    · exact norm_rng _
    · exact norm_nil _
  | .leaf .has n, e, h => flt_norm _ _
  | .leaf .lacks n, e, h => flt_norm _ _
  | .leaf .var x, e, h => h x (List.mem_singleton.mpr rfl)
  | .two b f g, e, h => by
    show Norm W.n (if b = true then flt _ _ else flt _ _)
    split <;> exact flt_norm _ _
  | .one .some l f, e, h => flt_norm _ _
  | .one .all l f, e, h => flt_norm _ _
  | .one .least x f, e, h => iter_norm (fun X hX => val_norm f _ fun y hy => by
      by_cases c : y = x
      · rw [c, setE_same]; exact hX
      · rw [setE_ne c]; exact h y (fv_one' rfl hy c)) (norm_nil _) _
  | .one .most x f, e, h => iter_norm (fun X hX => val_norm f _ fun y hy => by
      by_cases c : y = x
      · rw [c, setE_same]; exact hX
      · rw [setE_ne c]; exact h y (fv_one' rfl hy c)) (norm_rng _) _
theorem Le.flt {n : Nat} {p q : Int → Bool} (h : ∀ s, p s = true → q s = true) : Le (flt n p) (flt n q) := fun s hs => by
  rw [sIn_iff, mem_flt] at hs ⊢
  exact ⟨hs.1, h s hs.2⟩
theorem iter_le {f g : List Int → List Int} (h : ∀ X Y, Le X Y → Le (f X) (g Y)) {X Y : List Int} (hX : Le X Y) : ∀ k, Le (iter f k X) (iter g k Y)
  | 0 => hX
  | k + 1 => h _ _ (iter_le h hX k)
theorem len_filter_le {α : Type} {p q : α → Bool} (h : ∀ x, p x = true → q x = true) (l : List α) : (l.filter p).length ≤ (l.filter q).length :=
  (filter_sub h l).length_le
theorem val_le {W : Wd} : ∀ (t : F) (e e' : Int → List Int), (∀ x ∈ fv t, Le (e x) (e' x)) → Le (val W t e) (val W t e')
  | .nul b, e, e', h => Le.refl _
  | .leaf .has n, e, e', h => Le.refl _
  | .leaf .lacks n, e, e', h => Le.refl _
  | .leaf .var x, e, e', h => h x (List.mem_singleton.mpr rfl)
  | .two b f g, e, e', h => by
    have hf := val_le (W := W) f e e' fun x hx => h x (List.mem_append_left _ hx)
    have hg := val_le (W := W) g e e' fun x hx => h x (List.mem_append_right _ hx)
    show Le (if b = true then Fw.flt _ _ else Fw.flt _ _) (if b = true then Fw.flt _ _ else Fw.flt _ _)
    cases b
    · rw [if_neg Bool.false_ne_true, if_neg Bool.false_ne_true]
      refine Le.flt fun s hs => ?_
      rw [Bool.or_eq_true] at hs ⊢
      exact hs.imp (hg s) (hf s)
    · rw [if_pos rfl, if_pos rfl]
      refine Le.flt fun s hs => ?_
      rw [Bool.and_eq_true] at hs ⊢
      exact ⟨hg s hs.1, hf s hs.2⟩
  | .one .some l f, e, e', h => by
    have hf := val_le (W := W) f e e' h
    refine Le.flt fun s hs => ?_
    rw [decide_eq_true_eq] at hs ⊢
    have := len_filter_le (fun x => hf x) (W.beh s l)
    omega
  | .one .all l f, e, e', h => by
    have hf := val_le (W := W) f e e' h
    refine Le.flt fun s hs => ?_
    rw [decide_eq_true_eq] at hs ⊢
    have := len_filter_le (p := fun k => !sIn (val W f e') k) (q := fun k => !sIn (val W f e) k) (fun x hx => by
      cases c : sIn (val W f e) x with
      | false => rfl
      | true => rw [hf x c] at hx; cases hx) (W.beh s l)
    omega
  | .one .least x f, e, e', h => iter_le (fun X Y hXY => val_le f _ _ fun y hy => by
      by_cases c : y = x
      · rw [c, setE_same, setE_same]; exact hXY
      · rw [setE_ne c, setE_ne c]; exact h y (fv_one' rfl hy c)) (Le.refl _) _
  | .one .most x f, e, e', h => iter_le (fun X Y hXY => val_le f _ _ fun y hy => by
      by_cases c : y = x
      · rw [c, setE_same, setE_same]; exact hXY
      · rw [setE_ne c, setE_ne c]; exact h y (fv_one' rfl hy c)) (Le.refl _) _
/-! ### a chain comes to rest -/
theorem iter_rest {f : List Int → List Int} {X : List Int} {j : Nat} (h : iter f (j + 1) X = iter f j X) : ∀ i, iter f (j + i) X = iter f j X
  | 0 => rfl
  | i + 1 => by
    show f (iter f (j + i) X) = _
    rw [iter_rest h i]
    exact h
theorem rest_of {f : List Int → List Int} {X : List Int} {n : Nat} (h : ∃ j, j ≤ n ∧ iter f (j + 1) X = iter f j X) {k : Nat} (hk : n ≤ k) : iter f k X = iter f n X := by
  obtain ⟨j, hj, e⟩ := h
  have h1 := iter_rest e (k - j)
  have h2 := iter_rest e (n - j)
  rw [show j + (k - j) = k by omega] at h1
  rw [show j + (n - j) = n by omega] at h2
  rw [h1, h2]
theorem rest_up {f : List Int → List Int} {X : List Int} {n : Nat} (hn : ∀ k, Norm n (iter f k X)) (hs : ∀ k, Le (iter f k X) (iter f (k + 1) X)) : ∃ j, j ≤ n ∧ iter f (j + 1) X = iter f j X := by
  apply Classical.byContradiction
  intro no
  have up : ∀ j, j ≤ n + 1 → j ≤ (iter f j X).length := fun j => by
    induction j with
    | zero => intro _; exact Nat.zero_le _
    | succ j ih =>
      intro hj
      have sub := (hn j).sub (hn (j + 1)) (hs j)
      have ne : (iter f j X).length ≠ (iter f (j + 1) X).length := fun e => no ⟨j, by omega, (sub.eq_of_length e).symm⟩
      have := sub.length_le
      have := ih (by omega)
      omega
  have := up (n + 1) (Nat.le_refl _)
  have := (hn (n + 1)).len
  omega
theorem rest_dn {f : List Int → List Int} {X : List Int} {n : Nat} (hn : ∀ k, Norm n (iter f k X)) (hs : ∀ k, Le (iter f (k + 1) X) (iter f k X)) : ∃ j, j ≤ n ∧ iter f (j + 1) X = iter f j X := by
  apply Classical.byContradiction
  intro no
  have dn : ∀ j, j ≤ n + 1 → (iter f j X).length + j ≤ n := fun j => by
    induction j with
    | zero => intro _; exact (hn 0).len
    | succ j ih =>
      intro hj
      have sub := (hn (j + 1)).sub (hn j) (hs j)
      have ne : (iter f (j + 1) X).length ≠ (iter f j X).length := fun e => no ⟨j, by omega, sub.eq_of_length e⟩
      have := sub.length_le
      have := ih (by omega)
      omega
  have := dn (n + 1) (Nat.le_refl _)
  omega
theorem least_rest {W : Wd} {f : F} {x : Int} {e : Int → List Int} (h : ∀ y ∈ fv (.one .least x f), Norm W.n (e y)) {k : Nat} (hk : W.n ≤ k) :
    iter (fun X => val W f (setE e x X)) k [] = iter (fun X => val W f (setE e x X)) (W.n + 1) [] := by
  have N := iter_norm (n := W.n) (f := fun X => val W f (setE e x X)) (fun X hX => val_norm f _ fun y hy => by
      by_cases c : y = x
      · rw [c, setE_same]; exact hX
      · rw [setE_ne c]; exact h y (fv_one' rfl hy c)) (norm_nil _)
  have M : ∀ X Y, Le X Y → Le (val W f (setE e x X)) (val W f (setE e x Y)) := fun X Y hXY => val_le f _ _ fun y hy => by
      by_cases c : y = x
      · rw [c, setE_same, setE_same]; exact hXY
      · rw [setE_ne c, setE_ne c]; exact Le.refl _
  have S : ∀ k, Le (iter (fun X => val W f (setE e x X)) k []) (iter (fun X => val W f (setE e x X)) (k + 1) []) := fun k => by
    induction k with
    | zero => exact fun s hs => by cases hs
    | succ k ih => exact M _ _ ih
  have R := rest_up N S
  rw [rest_of R hk, rest_of R (Nat.le_succ _)]
theorem most_rest {W : Wd} {f : F} {x : Int} {e : Int → List Int} (h : ∀ y ∈ fv (.one .most x f), Norm W.n (e y)) {k : Nat} (hk : W.n ≤ k) :
    iter (fun X => val W f (setE e x X)) k (rng W.n) = iter (fun X => val W f (setE e x X)) (W.n + 1) (rng W.n) := by
  have N := iter_norm (n := W.n) (f := fun X => val W f (setE e x X)) (fun X hX => val_norm f _ fun y hy => by
      by_cases c : y = x
      · rw [c, setE_same]; exact hX
      · rw [setE_ne c]; exact h y (fv_one' rfl hy c)) (norm_rng _)
  have M : ∀ X Y, Le X Y → Le (val W f (setE e x X)) (val W f (setE e x Y)) := fun X Y hXY => val_le f _ _ fun y hy => by
      by_cases c : y = x
      · rw [c, setE_same, setE_same]; exact hXY
      · rw [setE_ne c, setE_ne c]; exact Le.refl _
  have S : ∀ k, Le (iter (fun X => val W f (setE e x X)) (k + 1) (rng W.n)) (iter (fun X => val W f (setE e x X)) k (rng W.n)) := fun k => by
    induction k with
    | zero => exact fun s hs => sIn_iff.mpr (rng_mem.mpr ((N 1).mem (sIn_iff.mp hs)))
    | succ k ih => exact M _ _ ih
  have R := rest_dn N S
  rw [rest_of R hk, rest_of R (Nat.le_succ _)]
/-! ### a world that lies in another -/
def pull (m : Nat) (g : Int → Int) (X : List Int) : List Int := flt m fun k => sIn X (g k)
structure Emb (V W : Wd) (g : Int → Int) : Prop where
  to : ∀ k : Int, 0 ≤ k → k < V.n → 0 ≤ g k ∧ g k < W.n
  fa : ∀ k : Int, 0 ≤ k → k < V.n → ∀ x, sIn (V.at k) x = sIn (W.at (g k)) x
  fo : ∀ k : Int, 0 ≤ k → k < V.n → ∀ l j, j ∈ V.beh k l → 0 ≤ j ∧ j < V.n ∧ g j ∈ W.beh (g k) l
  ba : ∀ k : Int, 0 ≤ k → k < V.n → ∀ l y, y ∈ W.beh (g k) l → ∃ j, j ∈ V.beh k l ∧ g j = y
theorem filter_pos {α : Type} {p : α → Bool} {l : List α} : 0 < ((l.filter p).length : Int) ↔ ∃ x ∈ l, p x = true := by
  constructor
  · intro h
    have : 0 < (l.filter p).length := by omega
    obtain ⟨x, hx⟩ := List.exists_mem_of_length_pos this
    exact ⟨x, (List.mem_filter.mp hx).1, (List.mem_filter.mp hx).2⟩
  · rintro ⟨x, hx, px⟩
    have : x ∈ l.filter p := List.mem_filter.mpr ⟨hx, px⟩
    have := List.length_pos_of_mem this
    omega
theorem filter_zero {α : Type} {p : α → Bool} {l : List α} : ((l.filter p).length : Int) = 0 ↔ ∀ x ∈ l, p x = false := by
  constructor
  · intro h x hx
    have : (l.filter p) = [] := List.length_eq_zero_iff.mp (by omega)
    have := List.filter_eq_nil_iff.mp this x hx
    cases c : p x with
    | false => rfl
    | true => exact absurd c this
  · intro h
    rw [List.filter_eq_nil_iff.mpr fun x hx => by rw [h x hx]; exact Bool.false_ne_true]
    rfl
theorem sIn_pull {m : Nat} {g : Int → Int} {X : List Int} {k : Int} (h0 : 0 ≤ k) (h1 : k < (m : Int)) : sIn (pull m g X) k = sIn X (g k) := sIn_flt h0 h1
theorem val_emb {V W : Wd} {g : Int → Int} (E : Emb V W g) : ∀ (t : F) (d e : Int → List Int), (∀ x ∈ fv t, Norm W.n (e x)) → (∀ x ∈ fv t, d x = pull V.n g (e x)) → val V t d = pull V.n g (val W t e)
  | .nul b, d, e, hn, h => by
    show (if b = true then rng V.n else []) = pull V.n g (if b = true then rng W.n else [])
    cases b
    · rw [if_neg Bool.false_ne_true, if_neg Bool.false_ne_true]
      exact (List.filter_eq_nil_iff.mpr fun _ _ h => by cases h).symm
    · rw [if_pos rfl, if_pos rfl, rng_flt]
      exact flt_congr fun s h0 h1 => (sIn_iff.mpr (rng_mem.mpr (E.to s h0 h1))).symm
  | .leaf .has n, d, e, hn, h => by
    show flt V.n _ = pull V.n g (flt W.n _)
    exact flt_congr fun s h0 h1 => by rw [sIn_flt (E.to s h0 h1).1 (E.to s h0 h1).2, E.fa s h0 h1]
  | .leaf .lacks n, d, e, hn, h => by
    show flt V.n _ = pull V.n g (flt W.n _)
    exact flt_congr fun s h0 h1 => by rw [sIn_flt (E.to s h0 h1).1 (E.to s h0 h1).2, E.fa s h0 h1]
  | .leaf .var x, d, e, hn, h => h x (List.mem_singleton.mpr rfl)
  | .two b f t, d, e, hn, h => by
    have hf := val_emb E f d e (fun x hx => hn x (List.mem_append_left _ hx)) fun x hx => h x (List.mem_append_left _ hx)
    have ht := val_emb E t d e (fun x hx => hn x (List.mem_append_right _ hx)) fun x hx => h x (List.mem_append_right _ hx)
    show (if b = true then flt _ _ else flt _ _) = pull V.n g (if b = true then flt _ _ else flt _ _)
    rw [hf, ht]
    cases b
    · rw [if_neg Bool.false_ne_true, if_neg Bool.false_ne_true]
      exact flt_congr fun s h0 h1 => by rw [sIn_flt (E.to s h0 h1).1 (E.to s h0 h1).2, sIn_pull h0 h1, sIn_pull h0 h1]
    · rw [if_pos rfl, if_pos rfl]
      exact flt_congr fun s h0 h1 => by rw [sIn_flt (E.to s h0 h1).1 (E.to s h0 h1).2, sIn_pull h0 h1, sIn_pull h0 h1]
  | .one .some l f, d, e, hn, h => by
    have hf := val_emb E f d e hn h
    show flt V.n _ = pull V.n g (flt W.n _)
    rw [hf]
    refine flt_congr fun s h0 h1 => ?_
    rw [sIn_flt (E.to s h0 h1).1 (E.to s h0 h1).2]
    refine decide_eq_decide.mpr ?_
    rw [filter_pos, filter_pos]
    constructor
    · rintro ⟨j, hj, pj⟩
      obtain ⟨j0, j1, jg⟩ := E.fo s h0 h1 l j hj
      exact ⟨g j, jg, by rw [sIn_pull j0 j1] at pj; exact pj⟩
    · rintro ⟨y, hy, py⟩
      obtain ⟨j, hj, rfl⟩ := E.ba s h0 h1 l y hy
      obtain ⟨j0, j1, jg⟩ := E.fo s h0 h1 l j hj
      exact ⟨j, hj, by rw [sIn_pull j0 j1]; exact py⟩
  | .one .all l f, d, e, hn, h => by
    have hf := val_emb E f d e hn h
    show flt V.n _ = pull V.n g (flt W.n _)
    rw [hf]
    refine flt_congr fun s h0 h1 => ?_
    rw [sIn_flt (E.to s h0 h1).1 (E.to s h0 h1).2]
    refine decide_eq_decide.mpr ?_
    rw [filter_zero, filter_zero]
    constructor
    · intro q y hy
      obtain ⟨j, hj, rfl⟩ := E.ba s h0 h1 l y hy
      obtain ⟨j0, j1, jg⟩ := E.fo s h0 h1 l j hj
      have := q j hj
      rw [sIn_pull j0 j1] at this
      exact this
    · intro q j hj
      obtain ⟨j0, j1, jg⟩ := E.fo s h0 h1 l j hj
      rw [sIn_pull j0 j1]
      exact q _ jg
  | .one .least x f, d, e, hn, h => by
    have dn : ∀ y ∈ fv (.one .least x f), Norm V.n (d y) := fun y hy => by rw [h y hy]; exact flt_norm _ _
    have N := iter_norm (n := W.n) (f := fun X => val W f (setE e x X)) (fun X hX => val_norm f _ fun y hy => by
      by_cases c : y = x
      · rw [c, setE_same]; exact hX
      · rw [setE_ne c]; exact hn y (fv_one' rfl hy c)) (norm_nil _)
    have key : ∀ k, iter (fun X => val V f (setE d x X)) k [] = pull V.n g (iter (fun X => val W f (setE e x X)) k []) := fun k => by
      induction k with
      | zero => exact (List.filter_eq_nil_iff.mpr fun _ _ h => by cases h).symm
      | succ k ih =>
        show val V f (setE d x _) = pull V.n g (val W f (setE e x _))
        refine val_emb E f _ _ (fun y hy => ?_) fun y hy => ?_
        · by_cases c : y = x
          · rw [c, setE_same]; exact N k
          · rw [setE_ne c]; exact hn y (fv_one' rfl hy c)
        · by_cases c : y = x
          · rw [c, setE_same, setE_same]; exact ih
          · rw [setE_ne c, setE_ne c]; exact h y (fv_one' rfl hy c)
    show iter (fun X => val V f (setE d x X)) (V.n + 1) [] = pull V.n g (iter (fun X => val W f (setE e x X)) (W.n + 1) [])
    rw [← least_rest dn (show V.n ≤ V.n + W.n by omega), ← least_rest hn (show W.n ≤ V.n + W.n by omega)]
    exact key _
  | .one .most x f, d, e, hn, h => by
    have dn : ∀ y ∈ fv (.one .most x f), Norm V.n (d y) := fun y hy => by rw [h y hy]; exact flt_norm _ _
    have N := iter_norm (n := W.n) (f := fun X => val W f (setE e x X)) (fun X hX => val_norm f _ fun y hy => by
      by_cases c : y = x
      · rw [c, setE_same]; exact hX
      · rw [setE_ne c]; exact hn y (fv_one' rfl hy c)) (norm_rng _)
    have key : ∀ k, iter (fun X => val V f (setE d x X)) k (rng V.n) = pull V.n g (iter (fun X => val W f (setE e x X)) k (rng W.n)) := fun k => by
      induction k with
      | zero =>
        show rng V.n = flt V.n _
        rw [rng_flt]
        exact flt_congr fun s h0 h1 => (sIn_iff.mpr (show g s ∈ rng W.n from rng_mem.mpr (E.to s h0 h1))).symm
      | succ k ih =>
        show val V f (setE d x _) = pull V.n g (val W f (setE e x _))
        refine val_emb E f _ _ (fun y hy => ?_) fun y hy => ?_
        · by_cases c : y = x
          · rw [c, setE_same]; exact N k
          · rw [setE_ne c]; exact hn y (fv_one' rfl hy c)
        · by_cases c : y = x
          · rw [c, setE_same, setE_same]; exact ih
          · rw [setE_ne c, setE_ne c]; exact h y (fv_one' rfl hy c)
    show iter (fun X => val V f (setE d x X)) (V.n + 1) (rng V.n) = pull V.n g (iter (fun X => val W f (setE e x X)) (W.n + 1) (rng W.n))
    rw [← most_rest dn (show V.n ≤ V.n + W.n by omega), ← most_rest hn (show W.n ≤ V.n + W.n by omega)]
    exact key _
end Fw

/-! Sets of states as whole numbers: what the bit operations do. Pure mathematics. -/
namespace Fw
open PySem
theorem and_nat (a b : Nat) : Builtin.bitAnd (a : Int) (b : Int) = ((a &&& b : Nat) : Int) := by
  have := PyProof.Rows.bitAnd_pp (x := (a : Int)) (y := (b : Int)) (Int.natCast_nonneg a) (Int.natCast_nonneg b)
  simpa using this
theorem and_bit (a b x y : Nat) (hx : x < 2) (hy : y < 2) : (2 * a + x) &&& (2 * b + y) = 2 * (a &&& b) + (x &&& y) := by
  refine Nat.eq_of_testBit_eq fun k => ?_
  have hxy : x &&& y < 2 := by
    have : x = 0 ∨ x = 1 := by omega
    have : y = 0 ∨ y = 1 := by omega
    rcases ‹x = 0 ∨ x = 1› with rfl | rfl <;> rcases ‹y = 0 ∨ y = 1› with rfl | rfl <;> decide
  cases k with
  | zero =>
    rw [Nat.testBit_and]
    have p : ∀ c z : Nat, z < 2 → (2 * c + z).testBit 0 = decide (z = 1) := fun c z hz => by
      rw [Nat.testBit_zero]
      have : (2 * c + z) % 2 = z := by omega
      rw [this]
    rw [p a x hx, p b y hy, p _ _ hxy]
    have : x = 0 ∨ x = 1 := by omega
    have : y = 0 ∨ y = 1 := by omega
    rcases ‹x = 0 ∨ x = 1› with rfl | rfl <;> rcases ‹y = 0 ∨ y = 1› with rfl | rfl <;> decide
  | succ k =>
    rw [Nat.testBit_and]
    have p : ∀ c z : Nat, z < 2 → (2 * c + z).testBit (k + 1) = c.testBit k := fun c z hz => by
      rw [Nat.testBit_succ]
      have : (2 * c + z) / 2 = c := by omega
      rw [this]
    rw [p a x hx, p b y hy, p _ _ hxy, Nat.testBit_and]
theorem and_le (a b : Nat) : a &&& b ≤ a := Nat.and_le_left
/-- a without b -/
def wo (a b : Nat) : Nat := a - (a &&& b)
theorem wo_bit : ∀ (k a b : Nat), (wo a b).testBit k = (a.testBit k && !b.testBit k) := by
  have half : ∀ a b : Nat, ∃ x y, x < 2 ∧ y < 2 ∧ a = 2 * (a / 2) + x ∧ b = 2 * (b / 2) + y ∧ wo a b = 2 * wo (a / 2) (b / 2) + (x - (x &&& y)) ∧ x - (x &&& y) < 2 := fun a b => by
    refine ⟨a % 2, b % 2, by omega, by omega, by omega, by omega, ?_, by omega⟩
    have e := and_bit (a / 2) (b / 2) (a % 2) (b % 2) (by omega) (by omega)
    rw [show 2 * (a / 2) + a % 2 = a by omega, show 2 * (b / 2) + b % 2 = b by omega] at e
    have l1 := and_le (a / 2) (b / 2)
    have l2 := and_le (a % 2) (b % 2)
    unfold wo
    rw [e]
    omega
  intro k
  induction k with
  | zero =>
    intro a b
    obtain ⟨x, y, hx, hy, ea, eb, ew, hl⟩ := half a b
    rw [Nat.testBit_zero, Nat.testBit_zero, Nat.testBit_zero]
    have e1 : wo a b % 2 = x - (x &&& y) := by rw [ew]; omega
    have e2 : a % 2 = x := by omega
    have e3 : b % 2 = y := by omega
    rw [e1, e2, e3]
    have : x = 0 ∨ x = 1 := by omega
    have : y = 0 ∨ y = 1 := by omega
    rcases ‹x = 0 ∨ x = 1› with rfl | rfl <;> rcases ‹y = 0 ∨ y = 1› with rfl | rfl <;> decide
  | succ k ih =>
    intro a b
    obtain ⟨x, y, hx, hy, ea, eb, ew, hl⟩ := half a b
    rw [Nat.testBit_succ, Nat.testBit_succ, Nat.testBit_succ, ← ih]
    have e1 : wo a b / 2 = wo (a / 2) (b / 2) := by rw [ew]; omega
    rw [e1]
theorem wo_nat (a b : Nat) : Builtin.bitAnd (a : Int) (Builtin.bitNot (b : Int)) = ((wo a b : Nat) : Int) := by
  rw [PyProof.Rows.bitAnd_not, and_nat]
  have := and_le a b
  unfold wo
  omega
theorem or_add : ∀ a b : Nat, (a ||| b) + (a &&& b) = a + b := by
  intro a
  induction a using Nat.strongRecOn with
  | ind a ih =>
    intro b
    by_cases h : a = 0
    · subst h
      simp
    · have i := ih (a / 2) (by omega) (b / 2)
      have e := and_bit (a / 2) (b / 2) (a % 2) (b % 2) (by omega) (by omega)
      rw [show 2 * (a / 2) + a % 2 = a by omega, show 2 * (b / 2) + b % 2 = b by omega] at e
      have o1 : (a ||| b) / 2 = a / 2 ||| b / 2 := Nat.or_div_two
      have o2 : (a ||| b) % 2 = (a % 2 ||| b % 2) := by
        have h1 : (a ||| b).testBit 0 = (a.testBit 0 || b.testBit 0) := Nat.testBit_or ..
        rw [Nat.testBit_zero, Nat.testBit_zero, Nat.testBit_zero] at h1
        have ha : a % 2 = 0 ∨ a % 2 = 1 := by omega
        have hb : b % 2 = 0 ∨ b % 2 = 1 := by omega
        have ho : (a ||| b) % 2 = 0 ∨ (a ||| b) % 2 = 1 := by omega
        rcases ha with ha | ha <;> rcases hb with hb | hb <;> rcases ho with ho | ho <;> rw [ha, hb, ho] at h1 ⊢ <;> first | rfl | (exact absurd h1 (by decide))
      have l : (a % 2 ||| b % 2) + (a % 2 &&& b % 2) = a % 2 + b % 2 := by
        have ha : a % 2 = 0 ∨ a % 2 = 1 := by omega
        have hb : b % 2 = 0 ∨ b % 2 = 1 := by omega
        rcases ha with ha | ha <;> rcases hb with hb | hb <;> rw [ha, hb] <;> decide
      have : (a ||| b) = 2 * ((a ||| b) / 2) + (a ||| b) % 2 := by omega
      rw [o1, o2] at this
      omega
theorem or_nat (a b : Nat) : Builtin.bitOr (a : Int) (b : Int) = ((a ||| b : Nat) : Int) := by
  rw [PyProof.Rows.bitOr_and, and_nat]
  have := or_add a b
  omega
/-- the least bit -/
theorem low : ∀ m : Nat, m ≠ 0 → ∃ j, m.testBit j = true ∧ (∀ i, i < j → m.testBit i = false) ∧ (m &&& (m - 1)) = m - 2 ^ j ∧ 2 ^ j ≤ m := by
  intro m
  induction m using Nat.strongRecOn with
  | ind m ih =>
    intro h
    by_cases odd : m % 2 = 1
    · refine ⟨0, by rw [Nat.testBit_zero, odd]; rfl, fun i hi => absurd hi (Nat.not_lt_zero _), ?_, by omega⟩
      have e := and_bit (m / 2) (m / 2) 1 0 (by decide) (by decide)
      rw [show 2 * (m / 2) + 1 = m by omega, show 2 * (m / 2) + 0 = m - 1 by omega, Nat.and_self] at e
      rw [e]
      show 2 * (m / 2) + 0 = m - 1
      omega
    · obtain ⟨j, h1, h2, h3, h4⟩ := ih (m / 2) (by omega) (by omega)
      refine ⟨j + 1, by rw [Nat.testBit_succ]; exact h1, fun i hi => ?_, ?_, by rw [Nat.pow_succ]; omega⟩
      · cases i with
        | zero =>
          rw [Nat.testBit_zero]
          have : m % 2 = 0 := by omega
          rw [this]
          rfl
        | succ i =>
          rw [Nat.testBit_succ]
          exact h2 i (by omega)
      · have e := and_bit (m / 2) (m / 2 - 1) 0 1 (by decide) (by decide)
        rw [show 2 * (m / 2) + 0 = m by omega, show 2 * (m / 2 - 1) + 1 = m - 1 by omega, h3] at e
        rw [e, Nat.pow_succ]
        show 2 * (m / 2 - 2 ^ j) + 0 = _
        omega
theorem low_nat {m j : Nat} (h : (m &&& (m - 1)) = m - 2 ^ j) (hj : 2 ^ j ≤ m) : Builtin.bitAnd (m : Int) (-(m : Int)) = ((2 ^ j : Nat) : Int) := by
  have pos : 0 < m := Nat.lt_of_lt_of_le (Nat.two_pow_pos j) hj
  have e : (-(m : Int)) = Builtin.bitNot ((m - 1 : Nat) : Int) := by
    unfold Builtin.bitNot
    have : ((m - 1 : Nat) : Int) = (m : Int) - 1 := by omega
    rw [this]
    omega
  rw [e, wo_nat]
  unfold wo
  rw [h, Nat.sub_sub_self hj]
/-- without its bit j -/
theorem drop_bit {m j : Nat} (h : m.testBit j = true) (k : Nat) : (m - 2 ^ j).testBit k = (m.testBit k && decide (k ≠ j)) ∧ 2 ^ j ≤ m := by
  have a : m &&& 2 ^ j = 2 ^ j := by
    refine Nat.eq_of_testBit_eq fun i => ?_
    rw [Nat.testBit_and, Nat.testBit_two_pow]
    by_cases e : j = i
    · subst e
      simp [h]
    · simp [e]
  have le : 2 ^ j ≤ m := by
    have := and_le m (2 ^ j)
    rw [a] at this
    exact this
  have w := wo_bit k m (2 ^ j)
  unfold wo at w
  rw [a] at w
  refine ⟨?_, le⟩
  rw [w, Nat.testBit_two_pow]
  by_cases e : j = k
  · subst e
    simp
  · have e' : k ≠ j := fun z => e z.symm
    simp [e, e']
theorem xor_nat {m j : Nat} (h : m.testBit j = true) : Builtin.bitXor (m : Int) ((2 ^ j : Nat) : Int) = ((m - 2 ^ j : Nat) : Int) := by
  have a : m &&& 2 ^ j = 2 ^ j := by
    refine Nat.eq_of_testBit_eq fun i => ?_
    rw [Nat.testBit_and, Nat.testBit_two_pow]
    by_cases e : j = i
    · subst e
      simp [h]
    · simp [e]
  have le := (drop_bit h 0).2
  have o := or_add m (2 ^ j)
  show Builtin.bitOr _ _ - Builtin.bitAnd _ _ = _
  rw [or_nat, and_nat, a]
  rw [a] at o
  omega
/-- the states of a mask -/
def bitsOf (n m : Nat) : List Int := flt n fun s => m.testBit s.toNat
theorem mem_bits {n m : Nat} {s : Int} : s ∈ bitsOf n m ↔ (0 ≤ s ∧ s < (n : Int)) ∧ m.testBit s.toNat = true := mem_flt
theorem flt_succ (n : Nat) (p : Int → Bool) : flt (n + 1) p = flt n p ++ if p (n : Int) = true then [(n : Int)] else [] := by
  unfold flt
  rw [rng_succ, List.filter_append]
  congr 1
  cases c : p (n : Int) <;> simp [c]
theorem flt_nil {n : Nat} {p : Int → Bool} (h : ∀ i : Nat, i < n → p (i : Int) = false) : flt n p = [] := by
  unfold flt
  refine List.filter_eq_nil_iff.mpr fun x hx => ?_
  obtain ⟨h0, h1⟩ := rng_mem.mp hx
  have := h x.toNat (by omega)
  rw [Int.toNat_of_nonneg h0] at this
  rw [this]
  exact Bool.false_ne_true
theorem flt_low {j : Nat} {p : Int → Bool} (hp : p (j : Int) = true) (hl : ∀ i : Nat, i < j → p (i : Int) = false) : ∀ n : Nat, j < n → flt n p = (j : Int) :: flt n fun k => p k && decide (k ≠ (j : Int))
  | n + 1, h => by
    rw [flt_succ, flt_succ]
    by_cases e : j = n
    · subst e
      rw [flt_nil hl, flt_nil fun i hi => by rw [hl i hi]; rfl, hp]
      simp
    · rw [flt_low hp hl n (by omega)]
      have ne : ((n : Nat) : Int) ≠ (j : Int) := by omega
      have : (p (n : Int) && decide ((n : Int) ≠ (j : Int))) = p (n : Int) := by simp [ne]
      rw [this]
      rfl
/-- the least bit first -/
theorem bits_low {n m j : Nat} (h : m.testBit j = true) (hl : ∀ i, i < j → m.testBit i = false) (hn : m < 2 ^ n) : bitsOf n m = (j : Int) :: bitsOf n (m - 2 ^ j) := by
  have jn : j < n := by
    refine Classical.byContradiction fun c => ?_
    have := (drop_bit h 0).2
    have : 2 ^ n ≤ 2 ^ j := Nat.pow_le_pow_right (by decide) (by omega)
    omega
  unfold bitsOf
  rw [flt_low (j := j) (p := fun s => m.testBit s.toNat) (by simpa using h) (fun i hi => by simpa using hl i hi) n jn]
  congr 1
  refine flt_congr fun s h0 h1 => ?_
  rw [(drop_bit h s.toNat).1]
  congr 1
  have : (s ≠ (j : Int)) ↔ s.toNat ≠ j := by omega
  exact decide_eq_decide.mpr this
theorem bits_zero (n : Nat) : bitsOf n 0 = [] := flt_nil fun i _ => Nat.zero_testBit _
end Fw

namespace Fw
open PySem PySem.Spec PyProof.Rows L2
/-- a list's item as the base of an assignment that adds to it -/
theorem pget_list {X : Cx} : PGet X (rIxL X.K) := by
  intro pins s σ H x y v u Q I rx ry h
  obtain ⟨p, xs, i, z, rfl, rfl, hq, he, q⟩ := h
  cases rx
  obtain ⟨t, rfl⟩ := ry
  obtain ⟨its, r, pl, hz⟩ := I.list hq
  obtain ⟨j, h1, h2, h3, h4, h5⟩ := atI_get he
  obtain ⟨w, ew, rw'⟩ := r.get h2
  have hl := r.length
  have hn := line63
  have fin : EP X pins σ Q w s := ⟨z, H, I, rw', q⟩
  by_cases h0 : 0 ≤ i
  · have hj : i.toNat = j := by
      rw [seqIndex_of h0 h5] at h1
      exact Option.some.inj h1
    exact wpAny_getItem_list pl.isList h0 (by omega) (by rw [hj]; simpa using ew) fin
  · have hj : (i + (its.toArray.size : Int)).toNat = j := by
      rw [seqIndex_neg (by omega) h4] at h1
      rw [List.size_toArray, ← hl]
      exact Option.some.inj h1
    exact wpAny_getItem_list_neg pl.isList (by omega) (by rw [List.size_toArray] <;> omega) (by omega) (by rw [hj]; simpa using ew) fin
end Fw

set_option maxRecDepth 100000
set_option maxHeartbeats 2000000
namespace Fw
open PySem PySem.Spec PyProof.Rows L2
theorem ip_or {X : Cx} : PIp X .BitOr (rI0 fun i j => .int (Builtin.bitOr i j)) := fun pins s σ H x y v u Q I r1 r2 h => iop_or pins s σ H x y v u Q I r1 r2 h
theorem ip_xor {X : Cx} : PIp X .BitXor (rI0 fun i j => .int (Builtin.bitXor i j)) := fun pins s σ H x y v u Q I r1 r2 h => iop_xor pins s σ H x y v u Q I r1 r2 h
theorem bits_pow (j : Nat) : Builtin.Int.intBits ((2 ^ j : Nat) : Int) = j + 1 := by
  refine Nat.le_antisymm (PyProof.Rows.intBits_le ?_) ?_
  · rw [Int.natAbs_natCast]
    exact Nat.pow_lt_pow_right (by decide) (Nat.lt_succ_self j)
  · refine Classical.byContradiction fun c => ?_
    have h := PyProof.Rows.natAbs_lt_pow_bits ((2 ^ j : Nat) : Int)
    rw [Int.natAbs_natCast] at h
    have : 2 ^ Builtin.Int.intBits ((2 ^ j : Nat) : Int) ≤ 2 ^ j := Nat.pow_le_pow_right (by decide) (by omega)
    omega
theorem bitsOf_len (n m : Nat) : (bitsOf n m).length ≤ n := by
  unfold bitsOf flt
  exact Nat.le_trans (List.length_filter_le _ _) (by simp [rng])
def orAll : List Nat → Nat
  | [] => 0
  | x :: xs => x ||| orAll xs
theorem orAll_app : ∀ xs ys : List Nat, orAll (xs ++ ys) = (orAll xs ||| orAll ys)
  | [], ys => by simp [orAll]
  | x :: xs, ys => by simp [orAll, orAll_app xs ys, Nat.or_assoc]
theorem orAll_bit {i : Nat} : ∀ {xs : List Nat}, (orAll xs).testBit i = xs.any fun x => x.testBit i
  | [] => by simp [orAll]
  | x :: xs => by simp [orAll, orAll_bit (xs := xs)]
theorem orAll_lt {n : Nat} : ∀ {xs : List Nat}, (∀ x ∈ xs, x < 2 ^ n) → orAll xs < 2 ^ n
  | [], _ => Nat.two_pow_pos n
  | x :: xs, h => Nat.or_lt_two_pow (h x List.mem_cons_self) (orAll_lt fun y hy => h y (List.mem_cons_of_mem _ hy))
section
variable {P : Program} {w : World} {K : PySem.W.Frag} {mg : Str → Option Value} {base : Heap} {C J B : Addr}
def spSt : Sp := fun vs H Q _ => ∃ (n m : Nat), vs = [.int (m : Nat)] ∧ m < 2 ^ n ∧ n ≤ 900 ∧ ∀ (l : Addr) H', Same H H' → H l = none → H' l = some (.lst ((bitsOf n m).map V.int)) → Q (.ref l) H'
theorem ok_states_in {f : Addr} {fd : FuncData} (FF : Fun K "states_in" "states_in" s_states_in f fd) : FnOk P w K mg base CX0 1 f fd a_states_in spSt := by
  refine FF.ok sc_states_in (fun vs H Q E h => ?_) (fun cdv A outer s H vs Q E hr h => ?_)
  · obtain ⟨n, m, rfl, _⟩ := h
    rfl
  · obtain ⟨n, m, rfl, hm, hn, k⟩ := h
    refine ⟨_, (pss_cons (ps_set (i := 1) sc_states_in.nd rfl (.inl rfl) (pe_lst pa_nil))
      (pss_cons (ps_while PassesOwn.never (pt_truth (pv 0) (by intro _; rfl)) (pss_cons (ps_set (i := 2) sc_states_in.nd rfl (.inl rfl) (pe_op op_and (pv 0) (pe_un un_neg (pv 0))))
      (pss_cons (ps_expr (pe_bm PySem.F.plainAttrs_list PySem.F.slot_list_append PySem.F.type_list_append mt_append (pv 1) (pa_cons (pe_op op_sub (pe_bits (pv 2)) pe_int) pa_nil)))
      (pss_one (ps_aug (i := 0) sc_states_in.nd rfl (.inl rfl) (pv 2) ip_xor)))))
      (pss_one (ps_ret (pv 1))))), ?_⟩
    refine ⟨Nat.zero_le _, fun l hl => ?_⟩
    have s1 := Same.new (o := .lst []) hl
    have g1 : (upd H l (.lst [])) l = some (.lst (([] : List Int).map V.int)) := upd_same
    generalize upd H l (.lst []) = H1 at s1 g1
    refine ⟨fun d σ G => ∃ (m' : Nat) (L : List Int) (y2 : Option V), σ = [some (.int (m' : Nat)), some (.ref l), y2] ∧ Same H G ∧ G l = some (.lst (L.map V.int)) ∧ m' < 2 ^ n ∧ L ++ bitsOf n m' = bitsOf n m ∧ d = m', ⟨_, m, [], none, rfl, s1, g1, hm, rfl, rfl⟩, ?_⟩
    rintro d σ G ⟨m', L, y2, rfl, sG, gl, hm', hL, rfl⟩
    refine ⟨.int (d : Nat), rfl, (((d : Nat) : Int) != 0), rfl, ?_⟩
    by_cases z : d = 0
    · subst z
      have e : L = bitsOf n m := by rw [← hL, bits_zero, List.append_nil]
      refine ⟨.ref l, rfl, k l G sG hl ?_⟩
      rw [gl, e]
    · obtain ⟨j, h1, h2, h3, h4⟩ := low d z
      have hb : (((d : Nat) : Int) != 0) = true := by
        simp [bne_iff_ne]; omega
      have pj := Nat.two_pow_pos j
      have hlow := low_nat h3 h4
      have len : L.length < sizeLine := by
        have a : L.length ≤ (bitsOf n m).length := by rw [← hL, List.length_append]; omega
        have b := bitsOf_len n m
        exact Nat.lt_of_le_of_lt (Nat.le_trans a (Nat.le_trans b hn)) (by decide)
      have cons := bits_low h1 h2 hm'
      rw [hb, if_pos rfl]
      refine ⟨fun σ' G' => ∃ y, σ' = [some (.int ((d - 2 ^ j : Nat) : Int)), some (.ref l), y] ∧ G' = upd G l (.lst ((L ++ [(j : Int)]).map V.int)), ?_, ?_⟩
      · rintro σ' G' ⟨y, rfl, rfl⟩
        refine ⟨d - 2 ^ j, by omega, d - 2 ^ j, L ++ [(j : Int)], y, rfl, fun b o e => ?_, upd_same, by omega, ?_, rfl⟩
        · have nb : b ≠ l := fun c => by rw [c, hl] at e; cases e
          rw [upd_ne nb]
          exact sG b o e
        · rw [List.append_assoc, ← hL, cons]; rfl
      · refine ⟨.int (d : Nat), rfl, .int (d : Nat), rfl, _, rfl, _, _, rfl, rfl, ?_⟩
        have hg : (fun i j : Int => V.int (Builtin.bitAnd i j)) ((d : Nat) : Int) (-((d : Nat) : Int)) = V.int ((2 ^ j : Nat) : Int) := by show V.int _ = _; rw [hlow]
        rw [hg]
        refine ⟨.ref l, rfl, ?_, _, rfl, _, rfl, _, _, rfl, rfl, l, _, _, rfl, rfl, gl, by rw [List.length_map]; exact len, ?_⟩
        · exact .inl ⟨rfl, _, SqL.of gl⟩
        refine ⟨_, rfl, _, rfl, _, _, rfl, rfl, some (.int ((2 ^ j : Nat) : Int)), ?_, ?_⟩
        · have hx : (fun i j : Int => V.int (Builtin.bitXor i j)) ((d : Nat) : Int) ((2 ^ j : Nat) : Int) = V.int ((d - 2 ^ j : Nat) : Int) := by show V.int _ = _; rw [xor_nat h1]
          rw [hx]; rfl
        · rw [bits_pow, List.map_append]
          have e : (fun i j : Int => V.int (i - j)) ((j + 1 : Nat) : Int) 1 = V.int (j : Int) := by
            show V.int _ = _
            congr 1
            omega
          rw [e]; rfl
/-- the union of the rows of the states of a mask -/
def unionOf (n : Nat) (rs : List Nat) (m : Nat) : Nat := orAll ((bitsOf n m).map fun i => rs.getD i.toNat 0)
def spLed : Sp := fun vs H Q _ => ∃ (n m : Nat) (a : Addr) (rs : List Nat), vs = [.ref a, .int (m : Nat)] ∧ H a = some (.lst (rs.map fun x => V.int (x : Nat))) ∧ rs.length = n ∧ n ≤ 900 ∧ m < 2 ^ n ∧ (∀ x ∈ rs, x < 2 ^ n) ∧ ∀ H', Same H H' → Q (.int (unionOf n rs m : Nat)) H'
theorem ok_led {f : Addr} {fd : FuncData} (FF : Fun K "led" "led" s_led f fd) (h_states_in : Has P w K mg base "states_in" 1 a_states_in spSt) : FnOk P w K mg base CX0 2 f fd a_led spLed := by
  refine FF.ok sc_led (fun vs H Q E h => ?_) (fun cdv A outer s H vs Q E hr h => ?_)
  · obtain ⟨n, m, a, rs, rfl, _⟩ := h
    rfl
  · obtain ⟨n, m, a, rs, rfl, ha, hl, hn, hm, hx, k⟩ := h
    refine ⟨_, (pss_cons (ps_set (i := 2) sc_led.nd rfl (.inl rfl) pe_int)
      (pss_cons (ps_for PassesOwn.never rfl (pi_list (pe_callH h_states_in (hr.mono (by omega)) (pa_cons (pv 1) pa_nil))) (pg_name (i := 3) sc_led.nd rfl (.inl rfl)) (pss_one (ps_aug (i := 2) sc_led.nd rfl (.inl rfl) (pe_ix ix_list (pv 0) (pv 3) (fun _ _ => rfl)) ip_or)))
      (pss_one (ps_ret (pv 2))))), ?_⟩
    refine ⟨.int (m : Nat), rfl, n, m, rfl, hm, hn, fun l G s1 nl gl => ?_⟩
    refine ⟨l, rfl, ⟨_, SqL.of gl⟩, fun i c σ F => ∃ y, c = (bitsOf n m).length - i ∧ i ≤ (bitsOf n m).length ∧ σ = [some (.ref a), some (.int (m : Nat)), some (.int (orAll (((bitsOf n m).take i).map fun q => rs.getD q.toNat 0) : Nat)), y] ∧ F = G, ⟨_, none, rfl, Nat.zero_le _, rfl, rfl⟩, ?_⟩
    rintro i c σ F ⟨y, rfl, hi, rfl, rfl⟩
    by_cases e : i < (bitsOf n m).length
    · refine .inr ⟨⟨_, .int (bitsOf n m)[i], SqL.of gl, by rw [List.getElem?_map, List.getElem?_eq_getElem e]; rfl⟩, fun σ' F' => ∃ y, σ' = [some (.ref a), some (.int (m : Nat)), some (.int (orAll (((bitsOf n m).take (i + 1)).map fun q => rs.getD q.toNat 0) : Nat)), y] ∧ F' = F, ?_, ?_⟩
      · rintro σ' F' ⟨y, rfl, rfl⟩
        exact ⟨_, by omega, y, rfl, by omega, rfl, rfl⟩
      · rintro x F' ⟨rfl, hx2⟩
        have hx3 := hx2 _ (SqL.of gl)
        rw [List.getElem?_map, List.getElem?_eq_getElem e] at hx3
        cases hx3
        have mem := mem_bits.mp (List.getElem_mem e)
        generalize hs : (bitsOf n m)[i] = q at mem ⊢
        obtain ⟨t, rfl⟩ := Int.eq_ofNat_of_zero_le mem.1.1
        have tl : t < rs.length := by omega
        refine ⟨_, rfl, .ref a, rfl, .int (t : Nat), rfl, a, _, _, _, rfl, rfl, SqL.of (s1 _ _ ha), atI_nat (j := t) (by rw [List.getElem?_map, List.getElem?_eq_getElem tl]; rfl), _, _, rfl, rfl, some (.int (t : Nat)), ?_, rfl⟩
        have ho : (fun i j : Int => V.int (Builtin.bitOr i j)) ((orAll (((bitsOf n m).take i).map fun q => rs.getD q.toNat 0) : Nat) : Int) ((rs[t] : Nat) : Int) = V.int ((orAll (((bitsOf n m).take (i + 1)).map fun q => rs.getD q.toNat 0) : Nat) : Int) := by
          show V.int _ = _
          rw [or_nat, List.take_add_one, List.getElem?_eq_getElem e, hs, List.map_append, orAll_app]
          simp [orAll, List.getD, List.getElem?_eq_getElem tl]
        rw [ho]; rfl
    · have e2 : i = (bitsOf n m).length := by omega
      subst e2
      refine .inl ⟨⟨_, SqL.of gl, by rw [List.length_map]; exact Nat.le_refl _⟩, ?_⟩
      refine ⟨_, rfl, ?_⟩
      rw [List.take_length]
      exact k _ s1
end
end Fw

set_option maxRecDepth 100000
set_option maxHeartbeats 4000000
/-! list(d.values()), the dict's keys being tuples -/
namespace Fw
open PySem PySem.Spec PyProof.Rows L2
section
variable {prog : Program} {w : World} {d r : Addr} {es : Array DictEntry} {ep : Nat}
theorem src_vals : PySem.W.KdlSrc prog w "dict_values" r d es.size (fun i v => ∃ hi : i < es.size, v = es[i].val) (fun h => h.IsValuesView r d ∧ h.DictRaw d es ep) where
  type := fun _ z => z.1.typeIs
  there := fun _ z => ⟨(fun ⟨_, e, _⟩ => Heap.lt_size e) z.1, (fun ⟨_, e, _⟩ => Heap.lt_size e) z.2⟩
  keep := fun _ _ z kp => ⟨(fun ⟨o, e, y⟩ => ⟨o, kp r (.inl rfl) o e, y⟩) z.1, z.2.at fun o e => kp d (.inr rfl) o e⟩
  notList := by decide
  notTuple := by decide
  hint := fun _ _ _ _ z q => PySem.W.kdl_hint_values z.1.typeIs q
  iter := fun _ s hh z => ⟨_, _, (fun _ _ q => wpAny_pyIter_values_raw z.1 z.2 q), Walks.rawValues hh _ d (Nat.ne_of_lt ((fun ⟨_, e, _⟩ => Heap.lt_size e) z.2)) es ep, ⟨⟨_, Heap.get?_push_size _ rfl, rfl, rfl⟩, z.2.at fun o e => Heap.get?_push_of_some _ e⟩⟩
end
def tListVals (te : TE) : TE := fun σ H Q => te σ H fun x H1 => ∃ (d : Addr) (kvs : List (List Key × V)), x = .ref d ∧ H1 d = some (.dT kvs) ∧ ∀ p, H1 p = none → Q (.ref p) (upd H1 p (.lst (kvs.map fun e => e.2)))
theorem vals_second {α : Type} {F : α × V → α × Addr × Value → Prop} {kvs : List (α × V)} {xs : List (α × Addr × Value)} (h : Paired F kvs xs) (hF : ∀ p q, F p q → RelV p.2 q.2.2) : Vals (kvs.map fun e => e.2) (xs.map fun e => e.2.2) := by
  induction h with
  | nil => exact .nil
  | cons a _ ih => exact .cons (hF _ _ a) ih
section
variable {X : Cx} {e : Expr} {te : TE} {p apos cpos pos : Pos}
theorem pe_listValsT (hc : X.calm = true) (he : PE X e te) (hg : Gl X "list") (hm : X.mg "list" = none) (hv : bootBuiltins "list" = some (.type "list")) (hbase : attributeBase e "values" X.env (eval e X.env) = eval e X.env := by rfl) (hline : (apos.endLine == cpos.line) = true := by rfl)
    (hs : starEach [.Call (.Attribute e "values" apos) [] [] cpos] X.env = (false, eval (.Call (.Attribute e "values" apos) [] [] cpos) X.env) :: starEach [] X.env := by rfl) :
    PE X (.Call (.Name "list" p) [.Call (.Attribute e "values" apos) [] [] cpos] [] pos) (tListVals te) := by
  refine ⟨fun pins s σ H Q I hq => ?_⟩
  refine wpAny_Call_Name_kw (ld_blt I hg hm hv ?_)
  refine PyProof.Rows.callWith_type1 ?_ hs rfl
  rw [hs]
  show wpAny _ _ (spliced ((false, eval (.Call (.Attribute e "values" apos) [] [] cpos) X.env) :: backTo pos (starEach [] X.env))) _ _ s
  refine Calls.spliced_cons ?_
  refine wpAny_Call_method (T := "dict") (id := "dict.values") hbase rfl hline F.plainAttrs_dict F.slot_dict_values F.type_dict_values (thn (he.run pins s σ H _ I hq) fun u s1 ⟨x, H1, I1, rx, d, kvs, ex, hd, q⟩ => ?_)
  subst ex
  obtain rfl : u = Value.ref d := rx
  obtain ⟨z, hs0, ks, pr, o, es, ep, ho, hx, hdt, he', hn⟩ := I1.hok d _ hd
  have raw : s1.heap.DictRaw d es ep := ⟨o, ho, hx, hdt⟩
  have I2 : Inv X pins σ H1 { s1 with heap := s1.heap.push { cls := .type "dict_values", data := .fields #[.ref d] } } := I1.kept (t' := s1.toks) fun b ob q => Heap.get?_push_of_some _ q
  refine ⟨raw.typeIs, fun b y => ?_, ?_⟩
  · cases y
    exact ⟨o, ho, hx.2.1⟩
  show wpAny _ _ (callWith cpos (.builtin "dict.values") [.ref d] [] []) _ X.xe s1
  refine method_meetsIn F.slot_dict_values F.entry_dict_values rfl (PySem.evalArgs_none ⟨rfl, raw.typeIs, F.args_dict_values_1 _, _, meets_dict_values_raw d hs0, ⟨⟨es, ep, raw⟩, ?_⟩⟩)
  refine Calls.spliced_nil ?_
  have l1 : es.size = ks.length := size_of_entries he'
  have l2 : kvs.length = ks.length := Paired.length pr
  refine PySem.W.kdl_call (src_vals (es := es) (ep := ep)) (I1.ok.hd hc) ⟨⟨_, Heap.get?_push_size _ rfl, rfl, rfl⟩, raw.at fun o y => Heap.get?_push_of_some _ y⟩ (by omega) fun h' tk acc c kp hS hacc => ?_
  have ea : acc.toList = ks.map fun y => y.2.2 := by
    have hl : acc.toList.length = ks.length := by rw [Array.length_toList, hacc.1]; exact l1
    refine List.ext_getElem? fun j => ?_
    rw [List.getElem?_map]
    cases hj : acc.toList[j]? with
    | none =>
      have := List.getElem?_eq_none_iff.mp hj
      rw [List.getElem?_eq_none (by omega)]
      rfl
    | some v =>
      obtain ⟨hi, hv'⟩ := hacc.2 j v (by rw [← Array.getElem?_toList]; exact hj)
      have qe := entry_at he' j
      rw [Array.getElem?_eq_getElem hi] at qe
      cases hb : ks[j]? with
      | none =>
        rw [hb] at qe
        cases (show some es[j] = none from qe)
      | some b =>
        rw [hb] at qe
        have e2 : es[j] = entryOfKey (tupleKind (mixKind X.prog X.w)) b := Option.some.inj qe
        rw [hv', e2]
        rfl
  have rv : Vals (kvs.map fun y => y.2) acc.toList := by
    rw [ea]
    exact vals_second pr fun _ _ y => y.2.2
  refine ⟨.ref _, _, I2.laid (t' := tk) (o := .lst (kvs.map fun y => y.2)) kp (Nat.le_refl _) ⟨?_, acc.toList, c, rv, by rw [Array.toArray_toList]; exact hS⟩, rfl, q _ (I2.hok.fresh (Nat.le_refl _))⟩
  rw [List.length_map]
  exact z
end
end Fw

set_option maxRecDepth 100000
set_option maxHeartbeats 4000000
/-! enumerate(t), t a tuple: my own rule for it, beside the library's for lists -/
namespace Fw
open PySem PySem.Spec PyProof.Rows L2 AutoSeq1
set_option maxHeartbeats 1000000 in
theorem new_enumT (t : Addr) (its : Array Value) (m : Nat) (dc : Option Addr) (sl : Array (Option Value)) :
    Meets (Builtin.«enumerate.__new__» ⟨[.type "enumerate", .ref t], []⟩) (fun _ R s => s.heap.get? t = some { cls := .type "tuple", dict := dc, data := .seq its m, slots := sl } ∧
      R (.ok (.ret (.ref (s.heap.push { cls := .type "tuple_iterator", data := .fields #[.ref t, .int 0 0] }).objs.size)))
        { s with heap := (s.heap.push { cls := .type "tuple_iterator", data := .fields #[.ref t, .int 0 0] }).push { cls := .type "enumerate", data := .fields #[.none, .bool false, .ref s.heap.objs.size, rawInt 0, .none, .none] } }) :=
  .of_wp fun prog w A R s z => by
    obtain ⟨hp, g, d, tk, os⟩ := s
    obtain ⟨ht, z⟩ := z
    have sub := sub_enumerate
    have tup : Heap.IsTuple (Shared.heap ⟨hp, g, d, tk, os⟩) t its := ⟨_, ht, rfl, m, rfl⟩
    wp_walk using wpAny_loadPart' ht
    refine wpAny_stack_any fun st => wpAny_pure ?_
    split
    · rename_i c _ _ _ _ _
      cases (c == Value.type "enumerate")
      · wp_walk using wpAny_loadPart' ht, wpAny_pyIter_tuple tup
        exact ⟨_, rfl, z⟩
      · wp_walk using wpAny_loadPart' ht, wpAny_pyIter_tuple tup
        exact ⟨_, rfl, z⟩
    · wp_walk using wpAny_loadPart' ht, wpAny_pyIter_tuple tup
      exact ⟨_, rfl, z⟩
theorem call_enumT {prog : Program} {w : World} {A : Around} {E : Value → Shared → Prop} {s : Shared} {t : Addr} {its : Array Value} {Q : Value → Shared → Prop} (hT : s.heap.IsTuple t its)
    (h : ∀ h', IsEnum h' (s.heap.objs.size + 1) s.heap.objs.size 0 .none → h'.IsTupleIter s.heap.objs.size t 0 → h'.objs.size = s.heap.objs.size + 2 → (∀ b o, s.heap.get? b = some o → h'.get? b = some o) → Q (.ref (s.heap.objs.size + 1)) { s with heap := h' }) :
    wpAny (model prog w) A (call (.type "enumerate") [.ref t]) Q E s := by
  obtain ⟨⟨c, dc, dt, sl⟩, ht, hc, m, hd⟩ := hT
  obtain rfl : c = .type "tuple" := hc
  obtain rfl : dt = .seq its m := hd
  refine callType_new F.called_enumerate (by decide) (F.typeCall_enumerate_1 _) (F.newCall_enumerate_1 _) (fun obj => F.args_object_init_2 obj _) F.entry_enumerate_new (new_enumT t its m dc sl) ⟨ht, ?_⟩
  have sz : (s.heap.push { cls := .type "tuple_iterator", data := .fields #[.ref t, .int 0 0] }).objs.size = s.heap.objs.size + 1 := Heap.size_push ..
  show _ ∧ _
  rw [sz]
  have en : IsEnum ((s.heap.push { cls := .type "tuple_iterator", data := .fields #[.ref t, .int 0 0] }).push { cls := .type "enumerate", data := .fields #[.none, .bool false, .ref s.heap.objs.size, rawInt 0, .none, .none] }) (s.heap.objs.size + 1) s.heap.objs.size 0 .none := by
    have e := Heap.get?_push_size (s.heap.push { cls := .type "tuple_iterator", data := .fields #[.ref t, .int 0 0] }) (o := { cls := .type "enumerate", data := .fields #[.none, .bool false, .ref s.heap.objs.size, rawInt 0, .none, .none] }) rfl
    rwa [sz] at e
  exact ⟨⟨_, en, rfl⟩, h _ en ⟨_, Heap.get?_push_of_some _ (Heap.get?_push_size _ rfl), rfl, rfl⟩ (by rw [Heap.size_push, sz]) fun b o x => Heap.get?_push_of_some _ (Heap.get?_push_of_some _ x)⟩
/-- the tuple at a as it stands at each turn, each item in a new pair -/
def IteT (K : PySem.W.Frag) (a : Addr) : It :=
  ⟨fun i H => ∃ (xs : List V) (x : V), SqT K H a xs ∧ xs[i]? = some x, fun i H v H' => ∃ T x, v = .ref T ∧ H T = none ∧ H' = upd H T (.tup [.int (i : Nat), x]) ∧ ∀ xs, SqT K H a xs → xs[i]? = some x, fun i H => ∃ xs : List V, SqT K H a xs ∧ xs.length = i⟩
theorem turn_enumT {P : Program} {w : World} {K : PySem.W.Frag} {elts : List Expr} {kk : Nat} {tpos : Pos} (a e it : Addr) :
    Turn P w K (.Tuple elts kk tpos) (IteT K a) [e, it] e (fun i h => (∃ old, IsEnum h e it ((i : Nat) : Int) old) ∧ h.IsTupleIter it a i ∧ e ≠ it) where
  mem := by simp
  obj := fun i h st b hb => by
    obtain ⟨⟨old, he⟩, ⟨o, ho, hc, hd⟩, _⟩ := st
    rcases (show b = e ∨ b = it by simpa using hb) with z | z
    · rw [z]; exact ⟨_, he, fun v q => nomatch q⟩
    · rw [z]; exact ⟨o, ho, fun v q => by rw [hd] at q; cases q⟩
  keep := fun i h h' st k => let ⟨⟨old, he⟩, hi, hne⟩ := st; ⟨⟨old, k e (by simp) _ he⟩, hi.at fun o q => k it (by simp) o q, hne⟩
  item := by
    intro X hP hw hK hc i pins s σ H E I hf st hg
    subst hP hw hK
    obtain ⟨⟨old, he⟩, hit, hne⟩ := st
    obtain ⟨xs, x, hq, hx⟩ := hg
    obtain ⟨its, rv, p, hz⟩ := I.tuple hq
    obtain ⟨u, hu, ru⟩ := rv.get hx
    have hel : e < s.heap.objs.size := Heap.lt_size he
    have hil : it < s.heap.objs.size := by obtain ⟨_, q, _⟩ := hit; exact Heap.lt_size q
    have D := Draws.tuple (prog := X.prog) (w := X.w) (A := X.A.in1) (I.ok.hd hc) it a (fun z => by
      obtain ⟨o, e1, c1, _⟩ := p
      obtain ⟨o2, e2, c2, _⟩ := hit
      rw [z, e2] at e1
      cases e1
      rw [c2] at c1
      exact absurd (Value.type.inj c1) (by decide)) its.toArray
    have hea : e ∉ [it, a] := fun z => by
      rcases (show e = it ∨ e = a by simpa using z) with z | z
      · exact hne z
      · obtain ⟨o, e1, c1, _⟩ := p
        rw [← z, he] at e1
        cases e1
        exact absurd (Value.type.inj c1) (by decide)
    have hlen : i < its.toArray.size := by
      have := (List.getElem?_eq_some_iff.mp hu).1
      simpa using this
    refine wpAny_pyNext_enum_itemC D he ⟨hit, p⟩ hlen hne hea fun x' h' tk hP ho st' hT hsz hk => ?_
    obtain ⟨hit', _⟩ := st'
    have hxu : x' = u := by
      have : its.toArray[i]? = some x' := hP
      rw [List.getElem?_toArray, hu] at this
      exact (Option.some.inj this).symm
    subst hxu
    refine ⟨_, rfl, wpAny_letOwnedTupleGo_enum (s := { s with heap := h', toks := tk + 1 }) ho fun h'' he' sb => ?_⟩
    have hT2 : h''.get? s.heap.objs.size = some { cls := .type "tuple", data := .seq #[.int i tk, x'] } := (sb.2 _ (Nat.ne_of_gt hel)).trans hT
    have fresh := I.hok.fresh (Nat.le_refl s.heap.objs.size)
    have laid : ObjOk X.prog X.w (upd H s.heap.objs.size (.tup [.int (i : Nat), x])) h'' s.heap.objs.size (.tup [.int (i : Nat), x]) :=
      ⟨by show 2 ≤ sizeLine; decide, [.int i tk, x'], .cons ⟨_, rfl⟩ (.cons ru .nil), ⟨_, hT2, rfl, _, rfl⟩⟩
    have I1 : Inv X pins σ (upd H s.heap.objs.size (.tup [.int (i : Nat), x])) { s with heap := h'', toks := tk + 1 } :=
      I.turnedNew (ch := [e, it]) (fun b ob hb q => (sb.2 b (fun z => hb (by simp [z]))).trans (hk b ob (fun z => hb (by simp [z])) (fun z => hb (by simp [z])) q)) hf (Nat.le_refl _) laid
    refine ⟨.ref s.heap.objs.size, _, I1, rfl, ⟨_, x, rfl, fresh, rfl, fun ys hy => ?_⟩, ⟨⟨x', ?_⟩, hit'.at fun o q => (sb.2 it (Ne.symm hne)).trans q, hne⟩, fun b hb => ?_⟩
    · rw [I.tuple_inj hy hq]
      exact hx
    · rw [show ((i + 1 : Nat) : Int) = (i : Int) + 1 by omega]
      exact he'
    · have hb' : b < s.heap.objs.size := by
        rcases (show b = e ∨ b = it by simpa using hb) with z | z
        · rw [z]; exact hel
        · rw [z]; exact hil
      rw [upd_ne (Nat.ne_of_lt hb')]
      exact (hf b hb).1
  done := by
    intro X hP hw hK hc i pins s σ H E I hf st hg
    subst hP hw hK
    obtain ⟨⟨old, he⟩, hit, hne⟩ := st
    obtain ⟨xs, hq, hx⟩ := hg
    obtain ⟨its, rv, p, hz⟩ := I.tuple hq
    obtain ⟨f0, f1, f2, f3, f4, f5⟩ := hf it (by simp)
    have hl := rv.length
    have D := Draws.tuple (prog := X.prog) (w := X.w) (A := X.A.in1) (I.ok.hd hc) it a (fun z => by
      obtain ⟨o, e1, c1, _⟩ := p
      obtain ⟨o2, e2, c2, _⟩ := hit
      rw [z, e2] at e1
      cases e1
      rw [c2] at c1
      exact absurd (Value.type.inj c1) (by decide)) its.toArray
    have ei : its.toArray.size = i := by rw [List.size_toArray, ← hl]; exact hx
    refine wpAny_pyNext_enum_endD D he (by rw [ei]; exact ⟨hit, p⟩) fun h' eb => ⟨rfl, I.turned (t' := s.toks) (fun b o hb q => eb b o hb q) f0 f1 f3 f4 f5⟩
  self := fun A i s Q E st h => let ⟨⟨_, he⟩, _⟩ := st; wpAny_pyIter_enum he h
def iEnumT (K : PySem.W.Frag) (ta : TA) : TI := fun σ H R => ta σ H fun vs H1 => ∃ a xs, vs = [.ref a] ∧ SqT K H1 a xs ∧ R (IteT K a) H1
theorem pi_enumT {X : Cx} {e : Expr} {ta : TA} {p pos tpos : Pos} {elts : List Expr} {kk : Nat} (hg : Gl X "enumerate") (hm : X.mg "enumerate" = none) (ha : PA X [e] ta) (hs : starEach [e] X.env = [(false, eval e X.env)] := by rfl) :
    PI X (.Tuple elts kk tpos) (.Call (.Name "enumerate" p) [e] [] pos) (iEnumT X.K ta) := by
  refine ⟨fun pins s σ H R I h => ?_⟩
  refine Call_ (ld_blt I hg hm boot_enumerate (PyProof.Rows.callWith_type1 (thn (ha.run pos pins s σ H _ I h) fun us s1 ⟨vs, H1, I1, r1, a, xs, ex, hq, q⟩ => ?_) hs rfl))
  subst ex
  obtain ⟨u, rfl, ru⟩ := vals1 r1
  obtain rfl : u = Value.ref a := ru
  obtain ⟨its, rv, p', hz⟩ := I1.tuple hq
  refine call_enumT (show s1.heap.IsTuple a its.toArray from p') fun h' en hit hsz kp => wpAny_pyIter_enum en ?_
  have I2 : Inv X pins σ H1 { s1 with heap := h' } := I1.kept (t' := s1.toks) kp
  refine ⟨s1.heap.objs.size + 1, [s1.heap.objs.size + 1, s1.heap.objs.size], _, _, H1, rfl, I2, turn_enumT a (s1.heap.objs.size + 1) s1.heap.objs.size, ⟨⟨.none, en⟩, hit, Nat.succ_ne_self _⟩, fun b hb => ?_, q⟩
  have le : s1.heap.objs.size ≤ b := by
    rcases (show b = s1.heap.objs.size + 1 ∨ b = s1.heap.objs.size by simpa using hb) with z | z
    · rw [z]; exact Nat.le_succ _
    · rw [z]; exact Nat.le_refl _
  exact I1.fpOk le (I1.hok.fresh le)
theorem walk_enumT {K : PySem.W.Frag} {a : Addr} {xs : List V} : Walk (IteT K a) xs.length (fun H => SqT K H a xs) (YPair (fun i => some (V.int ((i : Nat) : Int))) fun i => xs[i]?) where
  goes := fun i H hi h => ⟨xs, xs[i], h, List.getElem?_eq_getElem hi⟩
  stops := fun H h => ⟨xs, h, rfl⟩
  yields := fun i H x H' hi h ⟨T, y, e1, e2, e3, e4⟩ => ⟨T, _, y, e1, e2, e3, rfl, e4 xs h⟩
end Fw

set_option maxRecDepth 100000
set_option maxHeartbeats 4000000
namespace Fw
open PySem PySem.Spec PyProof.Rows L2 GxR
theorem or_bit (m s : Nat) : Builtin.bitOr (m : Int) ((2 : Int) ^ s) = ((m ||| 2 ^ s : Nat) : Int) := by
  have hp : ((2 : Int) ^ s) = ((2 ^ s : Nat) : Int) := by rw [Int.natCast_pow]; rfl
  rw [hp, or_nat]
def mIn (m : Nat) (s : Int) : Bool := m.testBit s.toNat
def maskOf (X : List Int) : Nat := orAll (X.map fun x => 2 ^ x.toNat)
theorem maskOf_app (X Y : List Int) : maskOf (X ++ Y) = (maskOf X ||| maskOf Y) := by unfold maskOf; rw [List.map_append, orAll_app]
theorem maskOf_one (x : Int) : maskOf [x] = 2 ^ x.toNat := by simp [maskOf, orAll]
theorem maskOf_in {X : List Int} (h0 : ∀ x ∈ X, 0 ≤ x) {s : Int} (hs : 0 ≤ s) : mIn (maskOf X) s = sIn X s := by
  unfold mIn maskOf
  rw [orAll_bit]
  cases e : sIn X s with
  | true =>
    refine List.any_eq_true.mpr ⟨2 ^ s.toNat, List.mem_map.mpr ⟨s, sIn_iff.mp e, rfl⟩, ?_⟩
    rw [Nat.testBit_two_pow]
    exact decide_eq_true rfl
  | false =>
    refine List.any_eq_false.mpr fun y hy h => ?_
    obtain ⟨x, hx, rfl⟩ := List.mem_map.mp hy
    rw [Nat.testBit_two_pow, decide_eq_true_eq] at h
    have := h0 x hx
    have : x = s := by omega
    subst this
    rw [sIn_iff.mpr hx] at e
    cases e
theorem maskOf_lt {X : List Int} {n : Nat} (h : ∀ x ∈ X, 0 ≤ x ∧ x < (n : Int)) : maskOf X < 2 ^ n := orAll_lt fun y hy => by
  obtain ⟨x, hx, rfl⟩ := List.mem_map.mp hy
  have := h x hx
  exact Nat.pow_lt_pow_right (by decide) (by omega)
theorem ixN_nat {n j : Nat} (h : j < n) : ixN n ((j : Nat) : Int) = some j := by
  unfold ixN
  rw [if_pos (Int.natCast_nonneg j), if_pos (Int.ofNat_lt.mpr h), Int.toNat_natCast]
/-- masks at an address -/
def MsAt (H : Hp) (a : Addr) (ms : List Nat) : Prop := H a = some (.lst (ms.map fun m => V.int (m : Nat)))
def befS (ss : List T3) (s l : Int) : List Int := (ss.filter fun p => decide (p.2.2 = s) && decide (p.2.1 = l)).map fun p => p.1
theorem befS_snoc (ps : List T3) (p : T3) (s l : Int) : befS (ps ++ [p]) s l = befS ps s l ++ (if (decide (p.2.2 = s) && decide (p.2.1 = l)) = true then [p.1] else []) := by
  unfold befS
  rw [List.filter_append, List.map_append]
  congr 1
  cases c : (decide (p.2.2 = s) && decide (p.2.1 = l)) <;> simp [c]
/-- the masks behind and before each state -/
def rowsM (f : Int → List Int) (n : Nat) : List Nat := (List.range n).map fun i : Nat => maskOf (f (i : Int))
theorem rowsM_len (f : Int → List Int) (n : Nat) : (rowsM f n).length = n := by simp [rowsM]
theorem rowsM_get {f : Int → List Int} {n i : Nat} (h : i < n) : (rowsM f n)[i]? = some (maskOf (f (i : Int))) := by
  unfold rowsM
  rw [List.getElem?_map, List.getElem?_range h]
  rfl
theorem rowsM_set {f g : Int → List Int} {n k : Nat} {m : Nat} (hk : maskOf (g (k : Int)) = m) (ho : ∀ i : Nat, i ≠ k → g (i : Int) = f (i : Int)) : (rowsM f n).set k m = rowsM g n := by
  refine List.ext_getElem? fun i => ?_
  rw [List.getElem?_set]
  by_cases c : k = i
  · subst c
    rw [if_pos rfl, rowsM_len]
    by_cases l : k < n
    · rw [if_pos l, rowsM_get l, hk]
    · rw [if_neg l, List.getElem?_eq_none (by rw [rowsM_len]; omega)]
  · rw [if_neg c]
    by_cases l : i < n
    · rw [rowsM_get l, rowsM_get l, ho i (fun z => c z.symm)]
    · rw [List.getElem?_eq_none (by rw [rowsM_len]; omega), List.getElem?_eq_none (by rw [rowsM_len]; omega)]
section
variable {P : Program} {w : World} {K : PySem.W.Frag} {mg : Str → Option Value} {base : Heap} {C J B WC : Addr}
def spMask : Sp := fun vs H Q _ => ∃ (a : Addr) (X : List Int), vs = [.ref a] ∧ IL H a X ∧ (∀ x ∈ X, 0 ≤ x ∧ x ≤ 900) ∧ Q (.int (maskOf X : Nat)) H
def spSM (K : PySem.W.Frag) : Sp := fun vs H Q _ => ∃ (n : Nat) (ta : Addr) (l : Int) (as : List Addr) (ss : List T3), vs = [.int (n : Nat), .ref ta, .int l] ∧ SqT K H ta (as.map V.ref) ∧ PAt H as ss ∧ (∀ p ∈ ss, 0 ≤ p.1 ∧ p.1 < (n : Int) ∧ 0 ≤ p.2.2 ∧ p.2.2 < (n : Int)) ∧ n ≤ 900 ∧
  ∀ (r ba fa : Addr) H', Same H H' → H r = none → H ba = none → H fa = none → H' r = some (.tup [.ref ba, .ref fa]) → MsAt H' ba (rowsM (fun s => begS ss s l) n) → MsAt H' fa (rowsM (fun s => befS ss s l) n) → Q (.ref r) H'
theorem ok_step_masks {f : Addr} {fd : FuncData} (FF : Fun K "step_masks" "step_masks" s_step_masks f fd) : FnOk P w K mg base CX0 1 f fd a_step_masks (spSM K) := by
  refine FF.ok sc_step_masks (fun vs H Q E h => ?_) (fun cdv A outer s H vs Q E hr h => ?_)
  · obtain ⟨n, ta, l, as, ss, rfl, _⟩ := h
    rfl
  · obtain ⟨n, ta, l, as, ss, rfl, hta, pat, hin, hn, k⟩ := h
    refine ⟨_, (pss_cons (ps_set (i := 3) sc_step_masks.nd rfl (.inl rfl) (pe_op op_rep (pe_lst (pa_cons pe_int pa_nil)) (pv 0)))
      (pss_cons (ps_set (i := 4) sc_step_masks.nd rfl (.inl rfl) (pe_op op_rep (pe_lst (pa_cons pe_int pa_nil)) (pv 0)))
      (pss_cons (ps_for PassesOwn.never rfl (pi_tup (pv 1)) (pg_tup rfl (pgs_cons (pg_name (i := 5) sc_step_masks.nd rfl (.inl rfl)) (pgs_cons (pg_name (i := 6) sc_step_masks.nd rfl (.inl rfl)) (pgs_cons (pg_name (i := 7) sc_step_masks.nd rfl (.inl rfl)) pgs_nil)))) (pss_one (ps_if (pt_cmpR op_eq (pv 6) (pv 2) (nomark _)) (pss_cons (ps_augS (pv 3) (pv 5) pget_list (pe_op op_oneShl pe_int (pv 7)) ip_or set_list)
      (pss_one (ps_augS (pv 4) (pv 7) pget_list (pe_op op_oneShl pe_int (pv 5)) ip_or set_list))) pss_nil)))
      (pss_one (ps_ret (pe_tup (pa_cons (pv 3) (pa_cons (pv 4) pa_nil)))))))), ?_⟩
    have zero : ∀ f : Int → List Int, (∀ x, f x = []) → (List.replicate ((n : Nat) : Int).toNat [V.int 0]).flatten = (rowsM f n).map fun m => V.int (m : Nat) := fun f hf => by
      rw [Int.toNat_natCast]
      have e : rowsM f n = List.replicate n 0 := by
        unfold rowsM
        refine List.ext_getElem? fun i => ?_
        rw [List.getElem?_map, List.getElem?_replicate]
        by_cases c : i < n
        · rw [if_pos c, List.getElem?_range c]
          show some (maskOf (f _)) = _
          rw [hf]
          rfl
        · rw [if_neg c, List.getElem?_eq_none (by rw [List.length_range]; omega)]
          rfl
      rw [e, List.map_replicate]
      clear hin hn k e
      induction n with
      | zero => rfl
      | succ n ih => rw [List.replicate_succ, List.flatten_cons, ih, List.replicate_succ]; rfl
    refine ⟨by show 1 ≤ sizeLine; decide, fun z0 hz0 => ⟨.int (n : Nat), rfl, ?_⟩⟩
    have s1 := Same.new (o := .lst [.int 0]) hz0
    refine ⟨z0, n, _, rfl, rfl, upd_same, by omega, by omega, Nat.le_trans (Nat.le_of_eq (show 1 * ((n : Nat) : Int).toNat = n by omega)) (Nat.le_trans hn (by decide)), fun ba hba => ?_⟩
    rw [zero (fun s => begS [] s l) fun _ => rfl]
    have s2 := s1.trans (Same.new (o := .lst ((rowsM (fun s => begS [] s l) n).map fun m => V.int (m : Nat))) hba)
    have gb : MsAt (upd (upd H z0 (.lst [.int 0])) ba (.lst ((rowsM (fun s => begS [] s l) n).map fun m => V.int (m : Nat)))) ba (rowsM (fun s => begS [] s l) n) := upd_same
    generalize upd (upd H z0 (.lst [.int 0])) ba (.lst ((rowsM (fun s => begS [] s l) n).map fun m => V.int (m : Nat))) = H2 at s2 gb
    refine ⟨by show 1 ≤ sizeLine; decide, fun z1 hz1 => ⟨.int (n : Nat), rfl, ?_⟩⟩
    have s3 := Same.new (o := .lst [.int 0]) hz1
    refine ⟨z1, n, _, rfl, rfl, upd_same, by omega, by omega, Nat.le_trans (Nat.le_of_eq (show 1 * ((n : Nat) : Int).toNat = n by omega)) (Nat.le_trans hn (by decide)), fun fa hfa => ?_⟩
    rw [zero (fun s => befS [] s l) fun _ => rfl]
    have s4 := s3.trans (Same.new (o := .lst ((rowsM (fun s => befS [] s l) n).map fun m => V.int (m : Nat))) hfa)
    have gf : MsAt (upd (upd H2 z1 (.lst [.int 0])) fa (.lst ((rowsM (fun s => befS [] s l) n).map fun m => V.int (m : Nat)))) fa (rowsM (fun s => befS [] s l) n) := upd_same
    have gb4 := s4 _ _ gb
    have nbf : ba ≠ fa := ne_of_none (s3 _ _ gb) hfa
    have nHb : H ba = none := by
      cases e : H ba with
      | none => rfl
      | some u => rw [s1 _ _ e] at hba; cases hba
    have nHf : H fa = none := by
      cases e : H fa with
      | none => rfl
      | some u => rw [s3 _ _ (s2 _ _ e)] at hfa; cases hfa
    have s24 := s2.trans s4
    generalize upd (upd H2 z1 (.lst [.int 0])) fa (.lst ((rowsM (fun s => befS [] s l) n).map fun m => V.int (m : Nat))) = H4 at gf gb4 s24
    refine ⟨.ref ta, rfl, ta, rfl, ⟨_, SqT.same s24 hta⟩, for_it walk_tup (fun i σ G => ∃ y5 y6 y7, σ = [some (.int (n : Nat)), some (.ref ta), some (.int l), some (.ref ba), some (.ref fa), y5, y6, y7] ∧ Same H G ∧ MsAt G ba (rowsM (fun s => begS (ss.take i) s l) n) ∧ MsAt G fa (rowsM (fun s => befS (ss.take i) s l) n))
      ⟨none, none, none, rfl, s24, gb4, gf⟩ (fun i σ G _ ⟨_, _, _, _, sG, _⟩ => SqT.same sG hta) ?_ ?_⟩
    · rintro i x σ G0 G hi ⟨y5, y6, y7, rfl, sG, gb, gf⟩ ⟨rfl, hx⟩
      obtain ⟨a, p, rfl, ha, hp, at_⟩ := (pat.same sG).nth hx
      obtain ⟨p1, p2, p3⟩ := p
      obtain ⟨i1, i2, i3, i4⟩ := hin _ (List.mem_of_getElem? hp)
      simp only at i1 i2 i3 i4 at_
      obtain ⟨a1, rfl⟩ := Int.eq_ofNat_of_zero_le i1
      obtain ⟨a3, rfl⟩ := Int.eq_ofNat_of_zero_le i3
      have e1 : ∀ s, begS (ss.take (i + 1)) s l = begS (ss.take i) s l ++ (if (decide ((a1 : Int) = s) && decide (p2 = l)) = true then [(a3 : Int)] else []) := fun s => by
        rw [List.take_add_one, hp, Option.toList_some, begS_snoc]
      have e2 : ∀ s, befS (ss.take (i + 1)) s l = befS (ss.take i) s l ++ (if (decide ((a3 : Int) = s) && decide (p2 = l)) = true then [(a1 : Int)] else []) := fun s => by
        rw [List.take_add_one, hp, Option.toList_some, befS_snoc]
      refine ⟨a, _, rfl, SqT.of at_, rfl, .int (a1 : Nat), _, rfl, .int p2, _, rfl, .int (a3 : Nat), _, rfl, rfl, ?_⟩
      refine ⟨.int p2, rfl, .int l, rfl, rfl, _, rfl, ite2 (fun c => ?_) (fun c => ?_)⟩
      · have cl : p2 = l := V.int.inj (of_decide_eq_true c)
        subst cl
        have l1 : a1 < n := by omega
        have l3 : a3 < n := by omega
        refine ⟨.ref ba, rfl, .int (a1 : Nat), rfl, ba, _, _, _, rfl, rfl, SqL.of gb, atI_nat (j := a1) (by rw [List.getElem?_map, rowsM_get l1]; rfl), .int (a3 : Nat), rfl, a3, rfl, rfl, by omega, _, _, rfl, rfl, ?_⟩
        have o1 : (fun i j : Int => V.int (Builtin.bitOr i j)) ((maskOf (begS (ss.take i) (a1 : Int) p2) : Nat) : Int) ((2 : Int) ^ a3) = V.int ((maskOf (begS (ss.take (i + 1)) (a1 : Int) p2) : Nat) : Int) := by
          show V.int _ = _
          rw [or_bit, e1, decide_eq_true rfl, decide_eq_true rfl, Bool.true_and, if_pos rfl, maskOf_app, maskOf_one]
          rfl
        have o2 : (fun i j : Int => V.int (Builtin.bitOr i j)) ((maskOf (befS (ss.take i) (a3 : Int) p2) : Nat) : Int) ((2 : Int) ^ a1) = V.int ((maskOf (befS (ss.take (i + 1)) (a3 : Int) p2) : Nat) : Int) := by
          show V.int _ = _
          rw [or_bit, e2, decide_eq_true rfl, decide_eq_true rfl, Bool.true_and, if_pos rfl, maskOf_app, maskOf_one]
          rfl
        rw [o1]
        refine ⟨ba, _, _, a1, rfl, rfl, gb, ixN_nat (by rw [List.length_map, rowsM_len]; exact l1), ?_⟩
        have gb2 : MsAt (upd G ba (.lst (((rowsM (fun s => begS (ss.take i) s p2) n).map fun m => V.int ((m : Nat) : Int)).set a1 (V.int ((maskOf (begS (ss.take (i + 1)) (a1 : Int) p2) : Nat) : Int))))) ba (rowsM (fun s => begS (ss.take (i + 1)) s p2) n) := by
          show _ = _
          rw [upd_same, ← List.map_set (f := fun m : Nat => V.int ((m : Nat) : Int)), rowsM_set (f := fun s => begS (ss.take i) s p2) (g := fun s => begS (ss.take (i + 1)) s p2) rfl fun j hj => ?_]
          show begS (ss.take (i + 1)) _ p2 = _
          rw [e1, decide_eq_false (fun z : (a1 : Int) = (j : Int) => hj (by omega)), Bool.false_and, if_neg Bool.false_ne_true, List.append_nil]
        have gf2 : MsAt (upd G ba (.lst (((rowsM (fun s => begS (ss.take i) s p2) n).map fun m => V.int ((m : Nat) : Int)).set a1 (V.int ((maskOf (begS (ss.take (i + 1)) (a1 : Int) p2) : Nat) : Int))))) fa (rowsM (fun s => befS (ss.take i) s p2) n) := by
          show _ = _
          rw [upd_ne nbf.symm]
          exact gf
        have sG2 : Same H (upd G ba (.lst (((rowsM (fun s => begS (ss.take i) s p2) n).map fun m => V.int ((m : Nat) : Int)).set a1 (V.int ((maskOf (begS (ss.take (i + 1)) (a1 : Int) p2) : Nat) : Int))))) := fun b o e => by rw [upd_ne (ne_of_none e nHb)]; exact sG b o e
        generalize upd G ba (.lst (((rowsM (fun s => begS (ss.take i) s p2) n).map fun m => V.int ((m : Nat) : Int)).set a1 (V.int ((maskOf (begS (ss.take (i + 1)) (a1 : Int) p2) : Nat) : Int)))) = G2 at gb2 gf2 sG2
        refine ⟨.ref fa, rfl, .int (a3 : Nat), rfl, fa, _, _, _, rfl, rfl, SqL.of gf2, atI_nat (j := a3) (by rw [List.getElem?_map, rowsM_get l3]; rfl), .int (a1 : Nat), rfl, a1, rfl, rfl, by omega, _, _, rfl, rfl, ?_⟩
        rw [o2]
        refine ⟨fa, _, _, a3, rfl, rfl, gf2, ixN_nat (by rw [List.length_map, rowsM_len]; exact l3), _, _, _, rfl, fun b o e => by rw [upd_ne (ne_of_none e nHf)]; exact sG2 b o e, ?_, ?_⟩
        · show _ = _
          rw [upd_ne nbf]
          exact gb2
        · show _ = _
          rw [upd_same, ← List.map_set (f := fun m : Nat => V.int ((m : Nat) : Int)), rowsM_set (f := fun s => befS (ss.take i) s p2) (g := fun s => befS (ss.take (i + 1)) s p2) rfl fun j hj => ?_]
          show befS (ss.take (i + 1)) _ p2 = _
          rw [e2, decide_eq_false (fun z : (a3 : Int) = (j : Int) => hj (by omega)), Bool.false_and, if_neg Bool.false_ne_true, List.append_nil]
      · have cl : ¬ p2 = l := fun e => c (decide_eq_true (congrArg V.int e))
        refine ⟨_, _, _, rfl, sG, ?_, ?_⟩
        · have : rowsM (fun s => begS (ss.take (i + 1)) s l) n = rowsM (fun s => begS (ss.take i) s l) n := by
            congr 1
            funext s
            rw [e1, decide_eq_false cl, Bool.and_false, if_neg Bool.false_ne_true, List.append_nil]
          rw [this]
          exact gb
        · have : rowsM (fun s => befS (ss.take (i + 1)) s l) n = rowsM (fun s => befS (ss.take i) s l) n := by
            congr 1
            funext s
            rw [e2, decide_eq_false cl, Bool.and_false, if_neg Bool.false_ne_true, List.append_nil]
          rw [this]
          exact gf
    · rintro σ G ⟨y5, y6, y7, rfl, sG, gb, gf⟩
      rw [List.length_map, pat.1, List.take_length] at gb gf
      refine ⟨.ref ba, rfl, .ref fa, rfl, by show 2 ≤ sizeLine; decide, fun r hr => ?_⟩
      have nHr : H r = none := by
        cases e : H r with
        | none => rfl
        | some u => rw [sG _ _ e] at hr; cases hr
      exact k r ba fa _ (sG.trans (Same.new hr)) nHr nHb nHf upd_same (Same.new hr _ _ gb) (Same.new hr _ _ gf)
end
end Fw

set_option maxRecDepth 100000
set_option maxHeartbeats 4000000
namespace Fw
open PySem PySem.Spec PyProof.Rows L2 GxR
/-- a row as a key -/
def kS (X : List Int) : List Key := X.map fun x => (Sum.inl x : Key)
theorem kS_kV (X : List Int) : (kS X).map kV = X.map V.int := by unfold kS; rw [List.map_map]; rfl
theorem kS_inj {X Y : List Int} (h : kS X = kS Y) : X = Y := (List.map_inj_right (f := fun x : Int => (Sum.inl x : Key)) fun a b e => Sum.inl.inj e).mp h
/-- the states below i with this row -/
def posI (Xs : List (List Int)) (i : Nat) (X : List Int) : List Int := (rng i).filter fun j => decide (Xs[j.toNat]? = some X)
theorem posI_succ {Xs : List (List Int)} {i : Nat} {X Y : List Int} (h : Xs[i]? = some Y) : posI Xs (i + 1) X = posI Xs i X ++ (if Y = X then [(i : Int)] else []) := by
  unfold posI
  rw [rng_succ, List.filter_append]
  congr 1
  by_cases c : Y = X
  · rw [if_pos c, List.filter_cons_of_pos (by rw [Int.toNat_natCast, h, c]; exact decide_eq_true rfl)]
    rfl
  · rw [if_neg c, List.filter_cons_of_neg (by rw [Int.toNat_natCast, h]; simpa using c)]
    rfl
theorem mem_posI {Xs : List (List Int)} {i : Nat} {X : List Int} {j : Int} : j ∈ posI Xs i X ↔ (0 ≤ j ∧ j < (i : Int)) ∧ Xs[j.toNat]? = some X := by
  unfold posI
  rw [List.mem_filter, rng_mem, decide_eq_true_eq]
def clsM (Xs : List (List Int)) (i : Nat) (X : List Int) : Nat := maskOf (posI Xs i X)
theorem cls_bit {Xs : List (List Int)} {i : Nat} {X : List Int} {j : Nat} : (clsM Xs i X).testBit j = true ↔ j < i ∧ Xs[j]? = some X := by
  have h := maskOf_in (X := posI Xs i X) (fun x hx => (mem_posI.mp hx).1.1) (s := (j : Int)) (Int.natCast_nonneg j)
  unfold mIn at h
  rw [Int.toNat_natCast] at h
  unfold clsM
  rw [h, sIn_iff, mem_posI, Int.toNat_natCast]
  constructor
  · rintro ⟨a, b⟩; exact ⟨by omega, b⟩
  · rintro ⟨a, b⟩; exact ⟨⟨Int.natCast_nonneg j, by omega⟩, b⟩
theorem cls_lt {Xs : List (List Int)} {i : Nat} {X : List Int} : clsM Xs i X < 2 ^ i := maskOf_lt fun x hx => (mem_posI.mp hx).1
theorem cls_none {Xs : List (List Int)} {i : Nat} {X : List Int} (h : ∀ j, j < i → Xs[j]? ≠ some X) : clsM Xs i X = 0 := by
  have : posI Xs i X = [] := List.eq_nil_iff_forall_not_mem.mpr fun j hj => by
    have := mem_posI.mp hj
    exact h j.toNat (by omega) this.2
  unfold clsM
  rw [this]
  rfl
def kvsC (Xs : List (List Int)) (i : Nat) (Ks : List (List Int)) : List (List Key × V) := Ks.map fun Y => (kS Y, V.int ((clsM Xs i Y : Nat) : Int))
theorem valV_C {Xs : List (List Int)} {i : Nat} {X : List Int} : ∀ {Ks : List (List Int)}, valV (kvsC Xs i Ks) (kS X) = if X ∈ Ks then some (V.int ((clsM Xs i X : Nat) : Int)) else none
  | [] => rfl
  | Y :: Ks => by
    have ih := valV_C (Xs := Xs) (i := i) (X := X) (Ks := Ks)
    by_cases c : Y = X
    · subst c
      rw [if_pos List.mem_cons_self]
      exact valV_pos rfl
    · rw [show valV (kvsC Xs i (Y :: Ks)) (kS X) = valV (kvsC Xs i Ks) (kS X) from valV_neg fun e => c (kS_inj e), ih]
      by_cases m : X ∈ Ks
      · rw [if_pos m, if_pos (List.mem_cons_of_mem _ m)]
      · rw [if_neg m, if_neg fun z => (List.mem_cons.mp z).elim (fun e => c e.symm) m]
def addK (Ks : List (List Int)) (X : List Int) : List (List Int) := if X ∈ Ks then Ks else Ks ++ [X]
theorem put_C {Xs : List (List Int)} {i : Nat} {X : List Int} {Ks : List (List Int)} (h : Xs[i]? = some X) : putK (kvsC Xs i Ks) (kS X) (V.int ((clsM Xs (i + 1) X : Nat) : Int)) = kvsC Xs (i + 1) (addK Ks X) := by
  have other : ∀ Y, Y ≠ X → clsM Xs (i + 1) Y = clsM Xs i Y := fun Y n => by
    unfold clsM
    rw [posI_succ h, if_neg fun e => n e.symm, List.append_nil]
  unfold putK addK
  rw [valV_any, valV_C]
  by_cases m : X ∈ Ks
  · rw [if_pos m, if_pos m]
    simp only [Option.isSome_some, if_true]
    unfold kvsC
    rw [List.map_map]
    refine List.map_congr_left fun Y hY => ?_
    simp only [Function.comp]
    by_cases c : Y = X
    · subst c
      simp
    · have : ¬ kS Y = kS X := fun e => c (kS_inj e)
      simp [this, other Y c]
  · rw [if_neg m, if_neg m]
    simp only [Option.isSome_none, Bool.false_eq_true, if_false]
    unfold kvsC
    rw [List.map_append]
    congr 1
    refine List.map_congr_left fun Y hY => ?_
    rw [other Y fun e => m (by rw [← e]; exact hY)]
section
variable {P : Program} {w : World} {K : PySem.W.Frag} {mg : Str → Option Value} {base : Heap} {C J B WC : Addr}
def spLike (K : PySem.W.Frag) : Sp := fun vs H Q _ => ∃ (ta : Addr) (ras : List Addr) (Xs : List (List Int)), vs = [.ref ta] ∧ SqT K H ta (ras.map V.ref) ∧ RTp H ras Xs ∧ Xs.length ≤ 900 ∧
  ∀ (l : Addr) (Ks : List (List Int)) H', Same H H' → H l = none → MsAt H' l (Ks.map (clsM Xs Xs.length)) → Ks.Nodup → (∀ X, X ∈ Ks ↔ X ∈ Xs) → Q (.ref l) H'
theorem ok_like_at_once {f : Addr} {fd : FuncData} (FF : Fun K "like_at_once" "like_at_once" s_like_at_once f fd) (T : Txt K mg C J B) : FnOk P w K mg base CX0 1 f fd a_like_at_once (spLike K) := by
  refine FF.ok sc_like_at_once (fun vs H Q E h => ?_) (fun cdv A outer s H vs Q E hr h => ?_)
  · obtain ⟨ta, ras, Xs, rfl, _⟩ := h
    rfl
  · obtain ⟨ta, ras, Xs, rfl, hta, rt, hn, k⟩ := h
    have hu := hu_of hr
    refine ⟨_, (pss_cons (ps_set (i := 1) sc_like_at_once.nd rfl (.inl rfl) pe_dnewT)
      (pss_cons (ps_for PassesOwn.never rfl (pi_enumT rfl T.z_enumerate (pa_cons (pv 0) pa_nil)) (pg_tup rfl (pgs_cons (pg_name (i := 2) sc_like_at_once.nd rfl (.inl rfl)) (pgs_cons (pg_name (i := 3) sc_like_at_once.nd rfl (.inl rfl)) pgs_nil))) (pss_one (ps_dput hu (pv 1) (pv 3) (pe_op op_or (pe_dget2 hu (pv 1) (pv 3) pe_int ⟨rfl, rfl, rfl, rfl⟩) (pe_op op_oneShl pe_int (pv 2))) rfl)))
      (pss_one (ps_ret (pe_listValsT rfl (pv 1) rfl T.z_list (by decide +kernel)))))), ?_⟩
    intro D hD
    refine ⟨.ref ta, rfl, ta, _, rfl, SqT.same (Same.new hD) hta, for_it walk_enumT (fun i σ G => ∃ (y2 y3 : Option V) (Ks : List (List Int)), σ = [some (.ref ta), some (.ref D), y2, y3] ∧ Same H G ∧ G D = some (.dT (kvsC Xs i Ks)) ∧ Ks.Nodup ∧ (∀ X, X ∈ Ks ↔ X ∈ Xs.take i) ∧ Ks.length ≤ i)
      ⟨none, none, [], rfl, Same.new hD, upd_same, List.nodup_nil, fun X => by simp, Nat.le_refl 0⟩ (fun i σ G _ ⟨_, _, _, _, sG, _⟩ => SqT.same sG hta) ?_ ?_⟩
    · rintro i x σ G0 G hi ⟨y2, y3, Ks, rfl, sG, gD, nd, mem, kl⟩ ⟨tp, x1, x2, rfl, htp, rfl, e1, e2⟩
      rw [List.length_map] at hi
      cases (show some (V.int ((i : Nat) : Int)) = some x1 from e1)
      have hra : ras[i]? = some ras[i] := List.getElem?_eq_getElem hi
      have e2' : (ras.map V.ref)[i]? = some x2 := e2
      rw [List.getElem?_map, hra] at e2'
      cases e2'
      have ix : i < Xs.length := by rw [← rt.1]; exact hi
      have hX : Xs[i]? = some Xs[i] := List.getElem?_eq_getElem ix
      have row := rt.2 i _ _ hra hX
      have st := Same.new (o := .tup [.int ((i : Nat) : Int), .ref ras[i]]) htp
      have tT : SqT K (upd G0 tp (.tup [.int ((i : Nat) : Int), .ref ras[i]])) tp [.int ((i : Nat) : Int), .ref ras[i]] := SqT.of upd_same
      have sG1 := sG.trans st
      have gD1 := st _ _ gD
      generalize upd G0 tp (.tup [.int ((i : Nat) : Int), .ref ras[i]]) = G at tT sG1 gD1
      generalize Xs[i] = X at hX row
      have row1 := sG1 _ _ row
      have rk : G ras[i] = some (.tup ((kS X).map kV)) := by rw [kS_kV]; exact row1
      refine ⟨tp, _, rfl, tT, rfl, .int (i : Nat), _, rfl, .ref ras[i], _, rfl, rfl, ?_⟩
      refine ⟨.ref D, rfl, D, rfl, .inr ⟨_, .inl gD1⟩, .ref ras[i], rfl, _, DGet.t gD1 rk, .int (i : Nat), rfl, i, rfl, rfl, by omega, ?_⟩
      have cur : (valV (kvsC Xs i Ks) (kS X)).getD (V.int 0) = V.int ((clsM Xs i X : Nat) : Int) := by
        rw [valV_C]
        by_cases m : X ∈ Ks
        · rw [if_pos m]
          rfl
        · rw [if_neg m, cls_none fun j hj e => m ((mem X).mpr (List.mem_of_getElem? (i := j) (by rw [List.getElem?_take, if_pos hj]; exact e)))]
          rfl
      rw [cur]
      refine ⟨_, _, rfl, rfl, ?_⟩
      have o1 : (fun a b : Int => V.int (Builtin.bitOr a b)) ((clsM Xs i X : Nat) : Int) ((2 : Int) ^ i) = V.int ((clsM Xs (i + 1) X : Nat) : Int) := by
        show V.int _ = _
        rw [or_bit]
        unfold clsM
        rw [posI_succ hX, if_pos rfl, maskOf_app, maskOf_one, Int.toNat_natCast]
      rw [o1]
      refine ⟨.ref D, rfl, .ref ras[i], rfl, D, _, rfl, DPut.t gD1 rk (by unfold kvsC; rw [List.length_map]; exact small1000 (by omega)), ?_⟩
      rw [put_C hX]
      refine ⟨_, _, addK Ks X, rfl, fun b o e => by rw [upd_ne (ne_of_none e hD)]; exact sG1 b o e, upd_same, ?_, fun Y => ?_, ?_⟩
      · unfold addK
        split
        · exact nd
        · rename_i m
          exact List.nodup_append.mpr ⟨nd, by simp, fun a ha b hb e => m (by rw [← List.mem_singleton.mp hb, ← e]; exact ha)⟩
      · rw [List.take_add_one, hX, Option.toList_some, List.mem_append, ← mem]
        unfold addK
        split
        · rename_i m
          constructor
          · exact .inl
          · rintro (h | h)
            · exact h
            · rw [List.mem_singleton.mp h]; exact m
        · rw [List.mem_append]
      · unfold addK
        split
        · omega
        · rw [List.length_append, List.length_singleton]; omega
    · rintro σ G ⟨y2, y3, Ks, rfl, sG, gD, nd, mem, kl⟩
      rw [List.length_map, rt.1] at gD mem
      rw [List.take_length] at mem
      refine ⟨.ref D, rfl, D, _, rfl, gD, fun l hl => ?_⟩
      have nHl : H l = none := by
        cases e : H l with
        | none => rfl
        | some u => rw [sG _ _ e] at hl; cases hl
      refine k l Ks _ (sG.trans (Same.new hl)) nHl ?_ nd mem
      show _ = _
      rw [upd_same]
      unfold kvsC
      rw [List.map_map, List.map_map]
      rfl
end
end Fw

/-! Classes of like states, round by round; numbers of classes by their least states. Pure mathematics. -/
namespace Fw
/-- state s is in the set m -/
def tb (m s : Nat) : Prop := m.testBit s = true
theorem tb_ext {a b : Nat} (h : ∀ s, tb a s ↔ tb b s) : a = b := Nat.eq_of_testBit_eq fun s => by
  have := h s
  unfold tb at this
  cases e : a.testBit s <;> cases f : b.testBit s <;> simp_all
theorem tb_and {a b s : Nat} : tb (a &&& b) s ↔ tb a s ∧ tb b s := by
  unfold tb
  rw [Nat.testBit_and, Bool.and_eq_true]
theorem tb_wo {a b s : Nat} : tb (wo a b) s ↔ tb a s ∧ ¬ tb b s := by
  unfold tb
  rw [wo_bit, Bool.and_eq_true]
  cases b.testBit s <;> simp
theorem tb_zero (s : Nat) : ¬ tb 0 s := by unfold tb; rw [Nat.zero_testBit]; exact Bool.false_ne_true
theorem tb_ne {m : Nat} (h : m ≠ 0) : ∃ s, tb m s := by
  obtain ⟨j, h1, _⟩ := low m h
  exact ⟨j, h1⟩
/-! ### cutting -/
def cut1 (c : Nat) (ps : List Nat) : List Nat := (ps.flatMap fun p => [p &&& c, wo p c]).filter fun h => h != 0
def cutUp (b : Nat) (cs : List Nat) : List Nat := cs.foldl (fun ps c => cut1 c ps) [b]
structure Pcs (b : Nat) (cs ps : List Nat) : Prop where
  ne : ∀ p ∈ ps, p ≠ 0
  sub : ∀ p ∈ ps, ∀ s, tb p s → tb b s
  rel : ∀ p ∈ ps, ∀ s t, tb p s → (tb p t ↔ tb b t ∧ ∀ c ∈ cs, (tb c s ↔ tb c t))
  all : ∀ s, tb b s → ∃ p ∈ ps, tb p s
  dis : ps.Pairwise fun p q => ∀ s, tb p s → ¬ tb q s
theorem Pcs.nil {b : Nat} (h : b ≠ 0) : Pcs b [] [b] :=
  ⟨fun p hp => by rw [List.mem_singleton.mp hp]; exact h, fun p hp s hs => by rw [← List.mem_singleton.mp hp]; exact hs,
    fun p hp s t hs => by rw [List.mem_singleton.mp hp]; exact ⟨fun h => ⟨h, fun c hc => by cases hc⟩, fun h => h.1⟩, fun s hs => ⟨b, List.mem_singleton.mpr rfl, hs⟩, List.pairwise_singleton _ _⟩
theorem mem_cut1 {c h : Nat} {ps : List Nat} : h ∈ cut1 c ps ↔ h ≠ 0 ∧ ∃ p ∈ ps, h = p &&& c ∨ h = wo p c := by
  unfold cut1
  rw [List.mem_filter, List.mem_flatMap]
  simp only [List.mem_cons, List.not_mem_nil, or_false, bne_iff_ne, ne_eq]
  exact ⟨fun ⟨⟨p, hp, e⟩, z⟩ => ⟨z, p, hp, e⟩, fun ⟨z, p, hp, e⟩ => ⟨⟨p, hp, e⟩, z⟩⟩
theorem Pcs.snoc {b c : Nat} {cs ps : List Nat} (h : Pcs b cs ps) : Pcs b (cs ++ [c]) (cut1 c ps) := by
  refine ⟨fun p hp => (mem_cut1.mp hp).1, fun x hx s hs => ?_, fun x hx s t hs => ?_, fun s hs => ?_, ?_⟩
  · obtain ⟨_, p, hp, e⟩ := mem_cut1.mp hx
    rcases e with e | e
    · rw [e, tb_and] at hs; exact h.sub p hp s hs.1
    · rw [e, tb_wo] at hs; exact h.sub p hp s hs.1
  · obtain ⟨_, p, hp, e⟩ := mem_cut1.mp hx
    have both : (∀ d ∈ cs ++ [c], (tb d s ↔ tb d t)) ↔ (∀ d ∈ cs, (tb d s ↔ tb d t)) ∧ (tb c s ↔ tb c t) := by
      constructor
      · exact fun z => ⟨fun d hd => z d (List.mem_append_left _ hd), z c (List.mem_append_right _ (List.mem_singleton.mpr rfl))⟩
      · rintro ⟨z1, z2⟩ d hd
        rcases List.mem_append.mp hd with y | y
        · exact z1 d y
        · rw [List.mem_singleton.mp y]; exact z2
    rcases e with e | e
    · rw [e, tb_and] at hs
      rw [e, tb_and, both, h.rel p hp s t hs.1]
      exact ⟨fun ⟨⟨a, b'⟩, d⟩ => ⟨a, b', ⟨fun _ => d, fun _ => hs.2⟩⟩, fun ⟨a, b', d⟩ => ⟨⟨a, b'⟩, d.mp hs.2⟩⟩
    · rw [e, tb_wo] at hs
      rw [e, tb_wo, both, h.rel p hp s t hs.1]
      exact ⟨fun ⟨⟨a, b'⟩, d⟩ => ⟨a, b', ⟨fun z => absurd z hs.2, fun z => absurd z d⟩⟩, fun ⟨a, b', d⟩ => ⟨⟨a, b'⟩, fun z => hs.2 (d.mpr z)⟩⟩
  · obtain ⟨p, hp, hps⟩ := h.all s hs
    by_cases hc : tb c s
    · have m : tb (p &&& c) s := tb_and.mpr ⟨hps, hc⟩
      exact ⟨p &&& c, mem_cut1.mpr ⟨fun e => by rw [e] at m; exact tb_zero s m, p, hp, .inl rfl⟩, m⟩
    · have m : tb (wo p c) s := tb_wo.mpr ⟨hps, hc⟩
      exact ⟨wo p c, mem_cut1.mpr ⟨fun e => by rw [e] at m; exact tb_zero s m, p, hp, .inr rfl⟩, m⟩
  · unfold cut1
    refine List.Pairwise.filter _ (List.pairwise_flatMap.mpr ⟨fun p hp => ?_, h.dis.imp fun {p q} hpq x hx y hy s hs hy2 => ?_⟩)
    · refine List.pairwise_pair.mpr fun s h1 h2 => ?_
      rw [tb_and] at h1
      rw [tb_wo] at h2
      exact h2.2 h1.2
    · have hx' : tb p s := by
        simp only [List.mem_cons, List.not_mem_nil, or_false] at hx
        rcases hx with e | e
        · rw [e, tb_and] at hs; exact hs.1
        · rw [e, tb_wo] at hs; exact hs.1
      have hy' : tb q s := by
        simp only [List.mem_cons, List.not_mem_nil, or_false] at hy
        rcases hy with e | e
        · rw [e, tb_and] at hy2; exact hy2.1
        · rw [e, tb_wo] at hy2; exact hy2.1
      exact hpq s hx' hy'
theorem cutUp_snoc (b : Nat) (cs : List Nat) (c : Nat) : cutUp b (cs ++ [c]) = cut1 c (cutUp b cs) := by unfold cutUp; rw [List.foldl_append]; rfl
theorem pcs_fold {b : Nat} {cs : List Nat} : ∀ {ds ps : List Nat}, Pcs b ds ps → Pcs b (ds ++ cs) (cs.foldl (fun ps c => cut1 c ps) ps) := by
  induction cs with
  | nil => intro ds ps h; rw [List.append_nil]; exact h
  | cons c cs ih =>
    intro ds ps h
    have := ih (h.snoc (c := c))
    rw [List.append_assoc] at this
    exact this
theorem cutUp_ok {b : Nat} (h : b ≠ 0) (cs : List Nat) : Pcs b cs (cutUp b cs) := by
  have := pcs_fold (cs := cs) (Pcs.nil h)
  rwa [List.nil_append] at this
theorem cutUp_pos {b : Nat} (h : b ≠ 0) (cs : List Nat) : 1 ≤ (cutUp b cs).length := by
  obtain ⟨s, hs⟩ := tb_ne h
  obtain ⟨p, hp, _⟩ := (cutUp_ok h cs).all s hs
  exact List.length_pos_of_mem hp
theorem cutUp_one {b : Nat} (h : b ≠ 0) {cs : List Nat} (e : (cutUp b cs).length = 1) : cutUp b cs = [b] := by
  obtain ⟨p, hp⟩ := List.length_eq_one_iff.mp e
  have o := cutUp_ok h cs
  rw [hp] at o ⊢
  congr 1
  refine tb_ext fun s => ⟨o.sub p (List.mem_singleton.mpr rfl) s, fun hs => ?_⟩
  obtain ⟨q, hq, hqs⟩ := o.all s hs
  rwa [List.mem_singleton.mp hq] at hqs
/-! ### blocks -/
structure Blk (n : Nat) (R : Nat → Nat → Prop) (bs : List Nat) : Prop where
  ne : ∀ b ∈ bs, b ≠ 0
  lt : ∀ b ∈ bs, ∀ s, tb b s → s < n
  rel : ∀ b ∈ bs, ∀ s t, tb b s → (tb b t ↔ t < n ∧ R s t)
  all : ∀ s, s < n → ∃ b ∈ bs, tb b s
  dis : bs.Pairwise fun p q => ∀ s, tb p s → ¬ tb q s
theorem Blk.perm {n : Nat} {R : Nat → Nat → Prop} {bs cs : List Nat} (h : Blk n R bs) (p : cs.Perm bs) : Blk n R cs :=
  ⟨fun b hb => h.ne b (p.mem_iff.mp hb), fun b hb => h.lt b (p.mem_iff.mp hb), fun b hb => h.rel b (p.mem_iff.mp hb), fun s hs => (h.all s hs).imp fun b ⟨hb, z⟩ => ⟨p.mem_iff.mpr hb, z⟩,
    p.symm.pairwise h.dis fun h s h1 h2 => h s h2 h1⟩
theorem Blk.congr {n : Nat} {R R' : Nat → Nat → Prop} {bs : List Nat} (h : Blk n R bs) (e : ∀ s t, s < n → t < n → (R s t ↔ R' s t)) : Blk n R' bs :=
  ⟨h.ne, h.lt, fun b hb s t hs => by
    rw [h.rel b hb s t hs]
    exact ⟨fun ⟨a, c⟩ => ⟨a, (e s t (h.lt b hb s hs) a).mp c⟩, fun ⟨a, c⟩ => ⟨a, (e s t (h.lt b hb s hs) a).mpr c⟩⟩, h.all, h.dis⟩
def keptB (bs cs : List Nat) : List Nat := bs.filter fun b => decide ((cutUp b cs).length = 1)
def freshB (bs cs : List Nat) : List Nat := bs.flatMap fun b => if (cutUp b cs).length = 1 then [] else cutUp b cs
theorem split_perm {cs : List Nat} : ∀ {bs : List Nat}, (∀ b ∈ bs, b ≠ 0) → (keptB bs cs ++ freshB bs cs).Perm (bs.flatMap fun b => cutUp b cs)
  | [], _ => .refl _
  | b :: bs, h => by
    have ih := split_perm (cs := cs) (bs := bs) fun x hx => h x (List.mem_cons_of_mem _ hx)
    unfold keptB freshB at ih ⊢
    rw [List.flatMap_cons, List.flatMap_cons]
    by_cases e : (cutUp b cs).length = 1
    · rw [List.filter_cons_of_pos (by exact decide_eq_true e), if_pos e, cutUp_one (h b List.mem_cons_self) e]
      exact ih.cons b
    · rw [List.filter_cons_of_neg (by rw [decide_eq_false e]; exact Bool.false_ne_true), if_neg e]
      have := (List.perm_append_comm_assoc (keptB bs cs) (cutUp b cs) (freshB bs cs))
      unfold keptB freshB at this
      exact this.trans (ih.append_left _)
theorem Blk.cut {n : Nat} {R : Nat → Nat → Prop} {bs : List Nat} (h : Blk n R bs) (cs : List Nat) : Blk n (fun s t => R s t ∧ ∀ c ∈ cs, (tb c s ↔ tb c t)) (keptB bs cs ++ freshB bs cs) := by
  refine Blk.perm ?_ (split_perm h.ne)
  refine ⟨fun p hp => ?_, fun p hp s hs => ?_, fun p hp s t hs => ?_, fun s hs => ?_, List.pairwise_flatMap.mpr ⟨fun b hb => (cutUp_ok (h.ne b hb) cs).dis, ?_⟩⟩
  · obtain ⟨b, hb, hp⟩ := List.mem_flatMap.mp hp
    exact (cutUp_ok (h.ne b hb) cs).ne p hp
  · obtain ⟨b, hb, hp⟩ := List.mem_flatMap.mp hp
    exact h.lt b hb s ((cutUp_ok (h.ne b hb) cs).sub p hp s hs)
  · obtain ⟨b, hb, hp⟩ := List.mem_flatMap.mp hp
    have o := cutUp_ok (h.ne b hb) cs
    rw [o.rel p hp s t hs, h.rel b hb s t (o.sub p hp s hs), and_assoc]
  · obtain ⟨b, hb, z⟩ := h.all s hs
    obtain ⟨p, hp, y⟩ := (cutUp_ok (h.ne b hb) cs).all s z
    exact ⟨p, List.mem_flatMap.mpr ⟨b, hb, hp⟩, y⟩
  · refine List.Pairwise.imp_of_mem (fun {b b'} hb hb' hd x hx y hy s h1 h2 => ?_) h.dis
    exact hd s ((cutUp_ok (h.ne b hb) cs).sub x hx s h1) ((cutUp_ok (h.ne b' hb') cs).sub y hy s h2)
theorem split_len {cs : List Nat} : ∀ {bs : List Nat}, (∀ b ∈ bs, b ≠ 0) → bs.length ≤ (keptB bs cs ++ freshB bs cs).length ∧ (freshB bs cs ≠ [] → bs.length < (keptB bs cs ++ freshB bs cs).length)
  | [], _ => ⟨Nat.le_refl _, fun z => absurd rfl z⟩
  | b :: bs, h => by
    have ih := split_len (cs := cs) (bs := bs) fun x hx => h x (List.mem_cons_of_mem _ hx)
    have pos := cutUp_pos (h b List.mem_cons_self) cs
    unfold keptB freshB at ih ⊢
    rw [List.flatMap_cons]
    by_cases e : (cutUp b cs).length = 1
    · rw [List.filter_cons_of_pos (by exact decide_eq_true e), if_pos e, List.nil_append]
      simp only [List.length_append, List.length_cons] at ih ⊢
      exact ⟨by omega, fun z => by have := ih.2 z; omega⟩
    · rw [List.filter_cons_of_neg (by rw [decide_eq_false e]; exact Bool.false_ne_true), if_neg e]
      simp only [List.length_append, List.length_cons] at ih ⊢
      exact ⟨by omega, fun z => by omega⟩
theorem fresh_nil {cs : List Nat} {bs : List Nat} (h : ∀ b ∈ bs, b ≠ 0) (e : freshB bs cs = []) : keptB bs cs = bs := by
  unfold keptB
  refine List.filter_eq_self.mpr fun b hb => decide_eq_true (Classical.byContradiction fun c => ?_)
  have pos := cutUp_pos (h b hb) cs
  have : cutUp b cs = [] := by
    have := List.flatMap_eq_nil_iff.mp e b hb
    rwa [if_neg c] at this
  rw [this] at pos
  simp at pos
/-! ### leaders and numbers -/
structure Eqv (n : Nat) (R : Nat → Nat → Prop) : Prop where
  refl : ∀ s, s < n → R s s
  symm : ∀ s t, s < n → t < n → R s t → R t s
  trans : ∀ s t u, s < n → t < n → u < n → R s t → R t u → R s u
open Classical in
/-- the least state that is like s -/
noncomputable def ldr (R : Nat → Nat → Prop) (s : Nat) : Nat := ((List.range (s + 1)).find? fun t => decide (R t s)).getD s
theorem find_range_least {p : Nat → Bool} : ∀ {n t : Nat}, (List.range n).find? p = some t → t < n ∧ p t = true ∧ ∀ u, u < t → p u = false
  | 0, t, h => by simp at h
  | n + 1, t, h => by
    rw [List.range_succ, List.find?_append] at h
    cases e : (List.range n).find? p with
    | some x =>
      rw [e] at h
      obtain rfl : x = t := by simpa using h
      obtain ⟨a, b, c⟩ := find_range_least e
      exact ⟨by omega, b, c⟩
    | none =>
      rw [e] at h
      have no := List.find?_eq_none.mp e
      simp only [Option.none_or, List.find?_cons, List.find?_nil] at h
      split at h
      · rename_i y
        obtain rfl : n = t := by simpa using h
        exact ⟨by omega, y, fun u hu => by simpa using no u (List.mem_range.mpr hu)⟩
      · cases h
section
variable {n : Nat} {R : Nat → Nat → Prop}
open Classical in
theorem ldr_ok (E : Eqv n R) {s : Nat} (hs : s < n) : ldr R s ≤ s ∧ R (ldr R s) s ∧ ∀ t, R t s → t < n → ldr R s ≤ t := by
  unfold ldr
  cases e : (List.range (s + 1)).find? fun t => decide (R t s) with
  | none =>
    have := List.find?_eq_none.mp e s (List.mem_range.mpr (Nat.lt_succ_self s))
    exact absurd (E.refl s hs) (by simpa using this)
  | some t =>
    obtain ⟨a, b, c⟩ := find_range_least e
    refine ⟨by simpa using Nat.le_of_lt_succ a, by simpa using b, fun u hu _ => ?_⟩
    refine Classical.byContradiction fun l => ?_
    have := c u (by simpa using l)
    simp [hu] at this
theorem ldr_lt (E : Eqv n R) {s : Nat} (hs : s < n) : ldr R s < n := Nat.lt_of_le_of_lt (ldr_ok E hs).1 hs
theorem ldr_eq (E : Eqv n R) {s t : Nat} (hs : s < n) (ht : t < n) : ldr R s = ldr R t ↔ R s t := by
  have a := ldr_ok E hs
  have b := ldr_ok E ht
  have ls := ldr_lt E hs
  have lt := ldr_lt E ht
  constructor
  · intro e
    have a2 := a.2.1
    rw [e] at a2
    exact E.trans _ _ _ hs lt ht (E.symm _ _ lt hs a2) b.2.1
  · intro r
    exact Nat.le_antisymm (a.2.2 _ (E.trans _ _ _ lt ht hs b.2.1 (E.symm _ _ hs ht r)) lt) (b.2.2 _ (E.trans _ _ _ ls hs ht a.2.1 r) ls)
theorem ldr_ldr (E : Eqv n R) {s : Nat} (hs : s < n) : ldr R (ldr R s) = ldr R s := (ldr_eq E (ldr_lt E hs) hs).mpr (ldr_ok E hs).2.1
/-- the leaders below a state -/
noncomputable def ldrs (R : Nat → Nat → Prop) (n : Nat) : List Nat := (List.range n).filter fun t => decide (ldr R t = t)
noncomputable def numC (R : Nat → Nat → Prop) (s : Nat) : Nat := (ldrs R (ldr R s)).length
/-- the numbers of the classes of all states -/
noncomputable def clsN (R : Nat → Nat → Prop) (n : Nat) : List Int := (List.range n).map fun s => ((numC R s : Nat) : Int)
theorem mem_ldrs {s : Nat} : s ∈ ldrs R n ↔ s < n ∧ ldr R s = s := by unfold ldrs; rw [List.mem_filter, List.mem_range, decide_eq_true_eq]
theorem ldrs_up : (ldrs R n).Pairwise (· < ·) := List.Pairwise.filter _ List.pairwise_lt_range
theorem ldrs_succ : ldrs R (n + 1) = ldrs R n ++ if ldr R n = n then [n] else [] := by
  unfold ldrs
  rw [List.range_succ, List.filter_append]
  congr 1
  by_cases e : ldr R n = n <;> simp [e]
theorem ldrs_at {m : Nat} : ∀ {n : Nat}, m < n → ldr R m = m → (ldrs R n)[(ldrs R m).length]? = some m
  | 0, h, _ => absurd h (Nat.not_lt_zero _)
  | n + 1, h, e => by
    rw [ldrs_succ]
    rcases Nat.lt_succ_iff_lt_or_eq.mp h with l | rfl
    · have := ldrs_at l e
      rw [List.getElem?_append_left (List.getElem?_eq_some_iff.mp this).1]
      exact this
    · rw [if_pos e, List.getElem?_append_right (Nat.le_refl _), Nat.sub_self]
      rfl
theorem num_at (E : Eqv n R) {s : Nat} (hs : s < n) : (ldrs R n)[numC R s]? = some (ldr R s) := ldrs_at (ldr_lt E hs) (ldr_ldr E hs)
theorem num_lt (E : Eqv n R) {s : Nat} (hs : s < n) : numC R s < (ldrs R n).length := (List.getElem?_eq_some_iff.mp (num_at E hs)).1
theorem num_eq (E : Eqv n R) {s t : Nat} (hs : s < n) (ht : t < n) : numC R s = numC R t ↔ R s t := by
  rw [← ldr_eq E hs ht]
  constructor
  · intro e
    have a := num_at E hs
    rw [e, num_at E ht] at a
    exact (Option.some.inj a).symm
  · intro e; unfold numC; rw [e]
theorem num_of (E : Eqv n R) {k l : Nat} (h : (ldrs R n)[k]? = some l) : numC R l = k := by
  have m := mem_ldrs.mp (List.mem_of_getElem? h)
  have a := num_at E m.1
  rw [m.2] at a
  have up := ldrs_up (R := R) (n := n)
  have h1 := List.getElem?_eq_some_iff.mp a
  have h2 := List.getElem?_eq_some_iff.mp h
  rcases Nat.lt_trichotomy (numC R l) k with c | c | c
  · have := List.pairwise_iff_getElem.mp up _ _ h1.1 h2.1 c
    omega
  · exact c
  · have := List.pairwise_iff_getElem.mp up _ _ h2.1 h1.1 c
    omega
theorem ldrs_len : (ldrs R n).length ≤ n := by
  unfold ldrs
  exact Nat.le_trans (List.length_filter_le _ _) (by rw [List.length_range]; exact Nat.le_refl _)
open Classical in
theorem ldr_congr {R' : Nat → Nat → Prop} (e : ∀ s t, s < n → t < n → (R s t ↔ R' s t)) {s : Nat} (hs : s < n) : ldr R s = ldr R' s := by
  unfold ldr
  congr 1
  have : ∀ m, m ≤ s + 1 → (List.range m).find? (fun t => decide (R t s)) = (List.range m).find? fun t => decide (R' t s) := fun m => by
    induction m with
    | zero => intro _; rfl
    | succ m ih =>
      intro hm
      rw [List.range_succ, List.find?_append, List.find?_append, ih (by omega)]
      congr 1
      rw [List.find?_cons, List.find?_cons, decide_eq_decide.mpr (e m s (by omega) hs)]
      rfl
  exact this _ (Nat.le_refl _)
theorem ldrs_congr {R' : Nat → Nat → Prop} (e : ∀ s t, s < n → t < n → (R s t ↔ R' s t)) {m : Nat} (hm : m ≤ n) : ldrs R m = ldrs R' m := by
  unfold ldrs
  refine List.filter_congr fun t ht => ?_
  rw [ldr_congr e (by have := List.mem_range.mp ht; omega)]
theorem numC_congr (E : Eqv n R) {R' : Nat → Nat → Prop} (e : ∀ s t, s < n → t < n → (R s t ↔ R' s t)) {s : Nat} (hs : s < n) : numC R s = numC R' s := by
  unfold numC
  rw [← ldr_congr e hs, ldrs_congr e (Nat.le_of_lt (ldr_lt E hs))]
theorem clsN_congr (E : Eqv n R) {R' : Nat → Nat → Prop} (e : ∀ s t, s < n → t < n → (R s t ↔ R' s t)) : clsN R n = clsN R' n := by
  unfold clsN
  refine List.map_congr_left fun s hs => ?_
  rw [numC_congr E e (List.mem_range.mp hs)]
/-! ### the least state of a block -/
def lsb (m : Nat) : Nat := ((List.range (m + 1)).find? fun j => m.testBit j).getD 0
theorem lsb_ok {m : Nat} (h : m ≠ 0) : tb m (lsb m) ∧ (∀ i, i < lsb m → ¬ tb m i) ∧ (m &&& (m - 1)) = m - 2 ^ lsb m ∧ 2 ^ lsb m ≤ m := by
  obtain ⟨j, h1, h2, h3, h4⟩ := low m h
  have jl : j < m + 1 := by have := Nat.lt_two_pow_self (n := j); omega
  have : (List.range (m + 1)).find? (fun j => m.testBit j) = some j := by
    cases e : (List.range (m + 1)).find? fun j => m.testBit j with
    | none => exact absurd h1 (List.find?_eq_none.mp e j (List.mem_range.mpr jl))
    | some t =>
      obtain ⟨a, b, c⟩ := find_range_least e
      congr 1
      rcases Nat.lt_trichotomy t j with z | z | z
      · rw [h2 t z] at b; cases b
      · exact z
      · rw [c j z] at h1; cases h1
  unfold lsb
  rw [this]
  exact ⟨h1, fun i hi => by unfold tb; rw [h2 i hi]; exact Bool.false_ne_true, h3, h4⟩
theorem Blk.lead (E : Eqv n R) {bs : List Nat} (B : Blk n R bs) {b s : Nat} (hb : b ∈ bs) (hs : tb b s) : ldr R s = lsb b := by
  have l := lsb_ok (B.ne b hb)
  have sn := B.lt b hb s hs
  have ln := B.lt b hb _ l.1
  have o := ldr_ok E sn
  have r1 := ((B.rel b hb s (lsb b) hs).mp l.1).2
  refine Nat.le_antisymm (o.2.2 _ (E.symm _ _ sn ln r1) ln) (Nat.le_of_not_lt fun z => l.2.1 _ z ((B.rel b hb s _ hs).mpr ⟨ldr_lt E sn, E.symm _ _ (ldr_lt E sn) sn o.2.1⟩))
theorem up_unique : ∀ {a b : List Nat}, a.Pairwise (· < ·) → b.Pairwise (· < ·) → (∀ x, x ∈ a ↔ x ∈ b) → a = b
  | [], [], _, _, _ => rfl
  | [], y :: b, _, _, h => by have := (h y).mpr List.mem_cons_self; cases this
  | x :: a, [], _, _, h => by have := (h x).mp List.mem_cons_self; cases this
  | x :: a, y :: b, ha, hb, h => by
    obtain ⟨a1, a2⟩ := List.pairwise_cons.mp ha
    obtain ⟨b1, b2⟩ := List.pairwise_cons.mp hb
    have e : x = y := by
      rcases List.mem_cons.mp ((h x).mp List.mem_cons_self) with z | z
      · exact z
      · rcases List.mem_cons.mp ((h y).mpr List.mem_cons_self) with w | w
        · exact w.symm
        · have := a1 y w; have := b1 x z; omega
    subst e
    congr 1
    refine up_unique a2 b2 fun z => ⟨fun hz => ?_, fun hz => ?_⟩
    · rcases List.mem_cons.mp ((h z).mp (List.mem_cons_of_mem _ hz)) with w | w
      · subst w; exact absurd (a1 z hz) (Nat.lt_irrefl _)
      · exact w
    · rcases List.mem_cons.mp ((h z).mpr (List.mem_cons_of_mem _ hz)) with w | w
      · subst w; exact absurd (b1 z hz) (Nat.lt_irrefl _)
      · exact w
/-- blocks by their least states -/
theorem Blk.sorted (E : Eqv n R) {bs : List Nat} (B : Blk n R bs) (up : bs.Pairwise fun x y => lsb x ≤ lsb y) : bs.map lsb = ldrs R n := by
  refine up_unique ?_ ldrs_up fun x => ?_
  · rw [List.pairwise_map]
    refine (List.pairwise_and_iff.mpr ⟨up, B.dis⟩).imp_of_mem fun {x y} hx hy ⟨h1, h2⟩ => ?_
    have lx := lsb_ok (B.ne x hx)
    have ly := lsb_ok (B.ne y hy)
    refine Nat.lt_of_le_of_ne h1 fun e => h2 _ lx.1 (by rw [e]; exact ly.1)
  · rw [List.mem_map, mem_ldrs]
    constructor
    · rintro ⟨b, hb, rfl⟩
      have l := lsb_ok (B.ne b hb)
      exact ⟨B.lt b hb _ l.1, B.lead E hb l.1⟩
    · rintro ⟨hx, e⟩
      obtain ⟨b, hb, z⟩ := B.all x hx
      exact ⟨b, hb, by rw [← B.lead E hb z, e]⟩
theorem Blk.len (E : Eqv n R) {bs : List Nat} (B : Blk n R bs) : bs.length ≤ n := by
  have nd : (bs.map lsb).Nodup := by
    rw [List.nodup_iff_pairwise_ne, List.pairwise_map]
    refine B.dis.imp_of_mem fun {x y} hx hy h e => h _ (lsb_ok (B.ne x hx)).1 (by rw [e]; exact (lsb_ok (B.ne y hy)).1)
  have := L2.nat_nodup_len (bs.map lsb) (List.range n) nd fun x hx => by
    obtain ⟨b, hb, rfl⟩ := List.mem_map.mp hx
    exact List.mem_range.mpr (B.lt b hb _ (lsb_ok (B.ne b hb)).1)
  rwa [List.length_map, List.length_range] at this
theorem Blk.lens (E : Eqv n R) {bs : List Nat} (B : Blk n R bs) : bs.length = (ldrs R n).length := by
  have p : (bs.mergeSort fun x y => decide (lsb x ≤ lsb y)).Perm bs := List.mergeSort_perm _ _
  have so := (B.perm p).sorted E ((List.pairwise_mergeSort (le := fun x y => decide (lsb x ≤ lsb y)) (fun x y z h1 h2 => by simp at *; omega) (fun x y => by simp; omega) bs).imp fun h => of_decide_eq_true h)
  have := congrArg List.length so
  rwa [List.length_map, p.length_eq] at this
end
/-! ### likeness, round by round -/
def Lk (W : Wd) : Nat → Nat → Nat → Prop
  | 0, s, t => W.at (s : Int) = W.at (t : Int)
  | r + 1, s, t => Lk W r s t ∧ ∀ l : Int, (∀ y ∈ W.beh (s : Int) l, ∃ z ∈ W.beh (t : Int) l, Lk W r y.toNat z.toNat) ∧ (∀ z ∈ W.beh (t : Int) l, ∃ y ∈ W.beh (s : Int) l, Lk W r y.toNat z.toNat)
theorem Lk.refl (W : Wd) : ∀ r s, Lk W r s s
  | 0, _ => rfl
  | r + 1, s => ⟨Lk.refl W r s, fun l => ⟨fun y hy => ⟨y, hy, Lk.refl W r _⟩, fun y hy => ⟨y, hy, Lk.refl W r _⟩⟩⟩
theorem Lk.symm {W : Wd} : ∀ {r s t}, Lk W r s t → Lk W r t s
  | 0, _, _, h => Eq.symm h
  | r + 1, _, _, h => ⟨h.1.symm, fun l => ⟨fun y hy => ((h.2 l).2 y hy).imp fun z q => ⟨q.1, q.2.symm⟩, fun y hy => ((h.2 l).1 y hy).imp fun z q => ⟨q.1, q.2.symm⟩⟩⟩
theorem Lk.trans {W : Wd} : ∀ {r s t u}, Lk W r s t → Lk W r t u → Lk W r s u
  | 0, _, _, _, h, k => Eq.trans h k
  | r + 1, _, _, _, h, k => ⟨h.1.trans k.1, fun l => ⟨fun y hy => by
      obtain ⟨z, hz, a⟩ := (h.2 l).1 y hy
      obtain ⟨w, hw, b⟩ := (k.2 l).1 z hz
      exact ⟨w, hw, a.trans b⟩, fun w hw => by
      obtain ⟨z, hz, a⟩ := (k.2 l).2 w hw
      obtain ⟨y, hy, b⟩ := (h.2 l).2 z hz
      exact ⟨y, hy, b.trans a⟩⟩⟩
theorem Lk.eqv (W : Wd) (r n : Nat) : Eqv n (Lk W r) := ⟨fun s _ => Lk.refl W r s, fun s t _ _ h => h.symm, fun s t u _ _ _ h k => h.trans k⟩
theorem Lk.pred {W : Wd} : ∀ {r k s t}, k ≤ r → Lk W r s t → Lk W k s t
  | 0, k, _, _, h, q => by obtain rfl : k = 0 := by omega
                           exact q
  | r + 1, k, _, _, h, q => by
    rcases Nat.lt_succ_iff_lt_or_eq.mp (Nat.lt_succ_of_le h) with l | rfl
    · exact Lk.pred (by omega) q.1
    · exact q
/-- steps lead from states to states -/
def Wd.In (W : Wd) : Prop := ∀ p ∈ W.steps, 0 ≤ p.1 ∧ p.1 < (W.n : Int) ∧ 0 ≤ p.2.2 ∧ p.2.2 < (W.n : Int)
theorem Wd.In.beh {W : Wd} (h : W.In) {s l y : Int} (hy : y ∈ W.beh s l) : 0 ≤ y ∧ y < (W.n : Int) ∧ ((s, l, y) : T3) ∈ W.steps := by
  unfold Wd.beh at hy
  obtain ⟨p, hp, rfl⟩ := List.mem_map.mp hy
  obtain ⟨m, e⟩ := List.mem_filter.mp hp
  simp only [Bool.and_eq_true, decide_eq_true_eq] at e
  have := h p m
  exact ⟨this.2.2.1, this.2.2.2, by rw [← e.1, ← e.2]; exact m⟩
theorem mem_beh {W : Wd} {s l y : Int} : y ∈ W.beh s l ↔ ((s, l, y) : T3) ∈ W.steps := by
  unfold Wd.beh
  rw [List.mem_map]
  constructor
  · rintro ⟨p, hp, rfl⟩
    obtain ⟨m, e⟩ := List.mem_filter.mp hp
    simp only [Bool.and_eq_true, decide_eq_true_eq] at e
    rw [← e.1, ← e.2]; exact m
  · exact fun h => ⟨_, List.mem_filter.mpr ⟨h, by simp⟩, rfl⟩
/-- once a round parts nothing, none does -/
theorem Lk.rest {W : Wd} (hin : W.In) {r : Nat} (h : ∀ s t, s < W.n → t < W.n → Lk W r s t → Lk W (r + 1) s t) : ∀ {k s t}, r ≤ k → s < W.n → t < W.n → Lk W r s t → Lk W k s t := by
  have key : ∀ i s t, s < W.n → t < W.n → Lk W r s t → Lk W (r + i) s t := fun i => by
    induction i with
    | zero => intro s t _ _ q; exact q
    | succ i ih =>
      intro s t hs ht q
      refine ⟨ih s t hs ht q, fun l => ⟨fun y hy => ?_, fun z hz => ?_⟩⟩
      · obtain ⟨z, hz, a⟩ := ((h s t hs ht q).2 l).1 y hy
        have hy' := hin.beh hy
        have hz' := hin.beh hz
        exact ⟨z, hz, ih _ _ (by omega) (by omega) a⟩
      · obtain ⟨y, hy, a⟩ := ((h s t hs ht q).2 l).2 z hz
        have hy' := hin.beh hy
        have hz' := hin.beh hz
        exact ⟨y, hy, ih _ _ (by omega) (by omega) a⟩
  intro k s t hk hs ht q
  have := key (k - r) s t hs ht q
  rwa [show r + (k - r) = k by omega] at this
/-- what the rounds keep: blocks, the fresh ones; cut l b: the states with a step by l into b -/
structure RI (W : Wd) (ls : List Int) (cut : Int → Nat → Nat) (r : Nat) (bs fr : List Nat) : Prop where
  blk : Blk W.n (Lk W r) bs
  sub : ∀ b ∈ fr, b ∈ bs
  old : ∀ b ∈ bs, b ∉ fr → ∀ l ∈ ls, ∀ s t, s < W.n → t < W.n → Lk W r s t → (tb (cut l b) s ↔ tb (cut l b) t)
structure CutOk (W : Wd) (ls : List Int) (cut : Int → Nat → Nat) : Prop where
  mem : ∀ p ∈ W.steps, p.2.1 ∈ ls
  cut : ∀ l ∈ ls, ∀ b, (∀ s, tb b s → s < W.n) → ∀ s, s < W.n → (tb (cut l b) s ↔ ∃ y ∈ W.beh (s : Int) l, tb b y.toNat)
theorem RI.step {W : Wd} {ls : List Int} {cut : Int → Nat → Nat} (hin : W.In) (C : CutOk W ls cut) {r : Nat} {bs fr cs : List Nat} (I : RI W ls cut r bs fr) (hcs : ∀ c, c ∈ cs ↔ ∃ l ∈ ls, ∃ b ∈ fr, c = cut l b) :
    RI W ls cut (r + 1) (keptB bs cs ++ freshB bs cs) (freshB bs cs) := by
  have same : ∀ s t, s < W.n → t < W.n → ((Lk W r s t ∧ ∀ c ∈ cs, (tb c s ↔ tb c t)) ↔ Lk W (r + 1) s t) := fun s t hs ht => by
    constructor
    · rintro ⟨h, k⟩
      have agree : ∀ l ∈ ls, ∀ b ∈ bs, (tb (cut l b) s ↔ tb (cut l b) t) := fun l hl b hb => by
        by_cases m : b ∈ fr
        · exact k _ ((hcs _).mpr ⟨l, hl, b, m, rfl⟩)
        · exact I.old b hb m l hl s t hs ht h
      refine ⟨h, fun l => ⟨fun y hy => ?_, fun z hz => ?_⟩⟩
      · have y' := hin.beh hy
        have hl := C.mem _ y'.2.2
        obtain ⟨b, hb, yb⟩ := I.blk.all y.toNat (by omega)
        have sb := (C.cut l hl b (I.blk.lt b hb) s hs).mpr ⟨y, hy, yb⟩
        obtain ⟨z, hz, zb⟩ := (C.cut l hl b (I.blk.lt b hb) t ht).mp ((agree l hl b hb).mp sb)
        exact ⟨z, hz, ((I.blk.rel b hb _ _ yb).mp zb).2⟩
      · have z' := hin.beh hz
        have hl := C.mem _ z'.2.2
        obtain ⟨b, hb, zb⟩ := I.blk.all z.toNat (by omega)
        have tb' := (C.cut l hl b (I.blk.lt b hb) t ht).mpr ⟨z, hz, zb⟩
        obtain ⟨y, hy, yb⟩ := (C.cut l hl b (I.blk.lt b hb) s hs).mp ((agree l hl b hb).mpr tb')
        exact ⟨y, hy, ((I.blk.rel b hb _ _ yb).mp zb).2⟩
    · rintro ⟨h, k⟩
      refine ⟨h, fun c hc => ?_⟩
      obtain ⟨l, hl, b, hb, rfl⟩ := (hcs c).mp hc
      have hb' := I.sub b hb
      rw [C.cut l hl b (I.blk.lt b hb') s hs, C.cut l hl b (I.blk.lt b hb') t ht]
      constructor
      · rintro ⟨y, hy, yb⟩
        obtain ⟨z, hz, a⟩ := (k l).1 y hy
        have z' := hin.beh hz
        exact ⟨z, hz, (I.blk.rel b hb' _ _ yb).mpr ⟨by omega, a⟩⟩
      · rintro ⟨z, hz, zb⟩
        obtain ⟨y, hy, a⟩ := (k l).2 z hz
        have y' := hin.beh hy
        exact ⟨y, hy, (I.blk.rel b hb' _ _ zb).mpr ⟨by omega, a.symm⟩⟩
  refine ⟨(I.blk.cut cs).congr same, fun b hb => List.mem_append_right _ hb, fun b hb nf l hl s t hs ht h => ?_⟩
  have hk : b ∈ bs := (List.mem_filter.mp ((List.mem_append.mp hb).resolve_right nf)).1
  by_cases m : b ∈ fr
  · exact ((same s t hs ht).mpr h).2 _ ((hcs _).mpr ⟨l, hl, b, m, rfl⟩)
  · exact I.old b hk m l hl s t hs ht h.1
/-- a round that parts nothing: at rest -/
theorem RI.rest {W : Wd} {ls : List Int} {cut : Int → Nat → Nat} (hin : W.In) (C : CutOk W ls cut) {r : Nat} {bs fr cs : List Nat} (I : RI W ls cut r bs fr) (hcs : ∀ c, c ∈ cs ↔ ∃ l ∈ ls, ∃ b ∈ fr, c = cut l b) (e : freshB bs cs = []) :
    ∀ s t, s < W.n → t < W.n → Lk W r s t → Lk W (r + 1) s t := fun s t hs ht h => by
  have J := I.step hin C hcs
  rw [e, fresh_nil I.blk.ne e, List.append_nil] at J
  obtain ⟨b, hb, sb⟩ := I.blk.all s hs
  exact ((J.blk.rel b hb s t sb).mp ((I.blk.rel b hb s t sb).mpr ⟨ht, h⟩)).2
end Fw

set_option maxRecDepth 100000
set_option maxHeartbeats 4000000
/-! sorted(xs, key=f), xs a list of whole numbers, f a callable of the program with whole numbers as keys -/
namespace Fw
open PySem PySem.Spec PyProof.Rows L2
open PySem.W in
/-- the sort's end: what the heap is then, in full -/
theorem key_end {prog : Program} {w : World} {A : Around} {E : Value → Shared → Prop} {s : Shared} {a kS : Addr} {vs : List Value} {keys : Array Value} {e e1 : Nat} {P : PySem.Fin → Shared → Prop} {κ : PyProof.Rows.KeyKind}
    (nk : s.heap.get? kS = some (seqObj "list" keys e)) (na : s.heap.get? a = some (seqObj "list" #[] e1)) (hka : kS ≠ a) (S : SortsAt prog w A s κ keys.toList) (hsz : keys.size = vs.length) (hZ : vs.length ≤ sizeLine)
    (h : ∀ tk, P (.done (.ret .none)) { s with heap := (s.heap.update kS (Obj.mapSeq fun _ => (#[] : Array Value))).update a (Obj.mapSeq fun _ => (sortVals κ false keys.toList vs).toArray), toks := tk }) :
    wpAny (model prog w) A (ksk_end a false vs.toArray e1 (.ref kS) keys) P E s := by
  obtain ⟨kd, h1, h2⟩ := S.kind
  have hK : PyProof.Rows.KeysOf κ (keys.zip vs.toArray) := keysOf_zip S.keys
  have tl : keys.toList.length = vs.length := by rw [Array.length_toList]; exact hsz
  have ol : (sortVals κ false keys.toList vs).length = vs.length := sortVals_length false tl
  have zs : (keys.zip vs.toArray).size = vs.length := by rw [Array.size_zip, hsz, List.size_toArray, Nat.min_self]
  have outOf : ∀ st' : SortSt, (arrOf st').Perm (keys.zip vs.toArray) → SortedToK κ (arrOf st') (keys.zip vs.toArray).size → Stable κ (arrOf st') (keys.zip vs.toArray) → (arrOf st').map (·.2) = (sortVals κ false keys.toList vs).toArray := fun st' p so sta => by
    have z := sort_out (rev := false) (keys := keys) (items := vs.toArray) (xs := arrOf st') (κ := κ) hK p so sta
    have z2 := congrArg List.toArray z
    rw [Array.toArray_toList] at z2
    exact z2
  have tail : ∀ st' : SortSt, failedOf st' = none → (arrOf st').map (·.2) = (sortVals κ false keys.toList vs).toArray → wpAny (model prog w) A (ksk_tail a false e1 (.ref kS) st') P E s := fun st' fl eo => by
    have na1 : (s.heap.update kS (Obj.mapSeq fun _ => (#[] : Array Value))).get? a = some (seqObj "list" #[] e1) := ((Heap.SameBut.update s.heap kS (Obj.mapSeq fun _ => (#[] : Array Value))).2 a hka.symm).trans na
    unfold ksk_tail
    try dsimp only
    simp only [Bool.false_eq_true, if_false]
    rw [eo]
    refine wpAny_bind (listUpdate_at nk rfl ?_ (by rw [hsz]; exact hZ) (Nat.zero_le _))
    refine wpAny_bind (wpAny_letGo ?_)
    refine wpAny_bind (seqEpoch_at na1 rfl ?_)
    refine wpAny_bind (listUpdate_at na1 rfl ?_ (Nat.zero_le _) (by rw [List.size_toArray, ol]; exact Nat.le_succ_of_le hZ))
    rw [fl]
    simp only [bne_self_eq_false, Bool.false_eq_true, if_false]
    exact wpAny_pure (h s.toks)
  unfold ksk_end
  try dsimp only
  simp only [Bool.false_eq_true, if_false]
  by_cases two : vs.toArray.size < 2
  · rw [if_pos two, if_pos two]
    refine wpAny_bind (wpAny_pure ?_)
    rw [StateT.run_pure]
    refine wpAny_bind (wpAny_pure ?_)
    try dsimp only
    refine tail (SortSt.mk' general' (keys.zip vs.toArray) #[] 7 none) rfl (outOf _ (Array.Perm.refl _) ?_ (Stable.refl _))
    intro i j ij hj
    rw [zs] at hj
    rw [List.size_toArray] at two
    obtain rfl : i = j := by omega
    exact KeyOrd.kle_refl _
  · rw [if_neg two, if_neg two]
    rw [List.size_toArray] at two
    refine wpAny_bind (h2 (by omega) _ ?_)
    refine wpAny_bind (wpAny_mono (H.wpS_sortRunsSt (κ := κ) (kd := kd) (a₀ := keys.zip vs.toArray) (st := SortSt.mk' kd (keys.zip vs.toArray) #[] 7 none)
      (Q := fun _ st' => failedOf st' = none ∧ (arrOf st').map (·.2) = (sortVals κ false keys.toList vs).toArray)
      h1 hK ⟨Array.Perm.refl _, rfl, rfl⟩ rfl (Stable.refl _) (by rw [zs]; omega) fun st' a1 a2 a3 a4 => ⟨a2, outOf st' a1 a3 a4⟩) ?_ fun _ _ z => z)
    rintro ⟨⟨⟩, st'⟩ s' ⟨rfl, hf, ho⟩
    try dsimp only at ho ⊢
    exact tail st' hf ho
theorem each_ints {its : List Value} {ns : List Int} (r : Vals (ns.map V.int) its) : PySem.W.EachIs (fun v n => ∃ t, v = Value.int n t) its ns := by
  induction ns generalizing its with
  | nil => cases r; exact .nil
  | cons n ns ih =>
    cases r with
    | cons h t => exact .cons h (ih t)
/-- what a callable asks to be a key: whole numbers to whole numbers, nothing changed -/
def KeyFn (X : Cx) (f : Value) (kf : Int → Int) (ok : Int → Prop) : Prop := ∀ (pins : List (Addr × Obj)) (σ : L2.St) (G : Hp) (s : Shared) (n : Int) (t : Tok), ok n → Inv X pins σ G s →
  wpAny (model X.prog X.w) X.A.in1.in1 (call f [.int n t]) (fun u s' => (∃ tk, u = .int (kf n) tk) ∧ Inv X pins σ G s') (fun _ _ => False) s
open PySem.W in
theorem sorted_key {X : Cx} {pins : List (Addr × Obj)} {σ : L2.St} {H : Hp} {s : Shared} {l q0 : Addr} {ns : List Int} {kf : Int → Int} {ok : Int → Prop} {Q : VK} (hu : X.A.units + 64 < cLine) (I : Inv X pins σ H s) (hs : SqL X.K H l (ns.map V.int)) (hok : ∀ n ∈ ns, ok n) (F : KeyFn X (.ref q0) kf ok)
    (q : ∀ (ns' : List Int) (p : Addr) (H' : Hp), ns'.Perm ns → ns'.Pairwise (fun x y => kf x ≤ kf y) → H p = none → H' p = some (.lst (ns'.map V.int)) → (∀ b o, H b = some o → H' b = some o) → Q (.ref p) H') :
    wpAny (model X.prog X.w) X.A (call (.builtin "sorted") [.ref l] [(PySem.Str.ofString "key", .ref q0)]) (EP X pins σ Q) X.xe s := by
  obtain ⟨its, rv, hl, hz⟩ := I.list hs
  have il : its.length = ns.length := by rw [← rv.length, List.length_map]
  have hZ : its.length ≤ sizeLine := by rw [← rv.length]; exact hz
  refine sorted_of_sort hl.isList hZ (ksk_s1 _ _) (fun _ => ksk_l1 _ _) fun E' => ?_
  generalize ea : s.heap.objs.size + 1 = a
  have hat : (copyHeap s.heap its).get? a = some (seqObj "list" its.toArray 0) := by rw [← ea]; exact copyHeap_at s.heap its
  have Ha : H a = none := I.hok.fresh (by rw [← ea]; exact Nat.le_succ _)
  have I1 : Inv X pins σ (upd H a (.lst (ns.map V.int))) { s with heap := copyHeap s.heap its } :=
    I.laid (t' := s.toks) (fun b o e => copyHeap_old e) (by rw [← ea]; exact Nat.le_succ _) ⟨by rw [List.length_map, ← il]; exact hZ, its, 0, rv, hat⟩
  rw [ksk_t1]
  unfold ksk_tree
  refine wpAny_bind (listItems_at hat rfl ?_)
  refine wpAny_bind (listUpdate_at hat rfl ?_ (by rw [List.size_toArray]; exact hZ) (Nat.zero_le _))
  obtain ⟨e1, h1⟩ : ∃ e1, ((copyHeap s.heap its).update a (Obj.mapSeq fun _ => (#[] : Array Value))).get? a = some (seqObj "list" #[] e1) := ⟨_, get?_update_seq hat fun _ => #[]⟩
  refine wpAny_bind (seqEpoch_at h1 rfl ?_)
  have I2 : Inv X pins σ (upd H a (.ext fun h => h.get? a = some (seqObj "list" #[] e1))) { s with heap := (copyHeap s.heap its).update a (Obj.mapSeq fun _ => (#[] : Array Value)) } := by
    have := I1.write (x := a) (e := a) (o := .ext fun h => h.get? a = some (seqObj "list" #[] e1)) (h' := (copyHeap s.heap its).update a (Obj.mapSeq fun _ => (#[] : Array Value))) (t' := s.toks) (by rw [upd_same]; trivial) (.inl rfl)
      (fun b u hb z => ((Heap.SameBut.update (copyHeap s.heap its) a (Obj.mapSeq fun _ => (#[] : Array Value))).2 b hb).trans z) ⟨_, h1⟩ ⟨h1, ⟨_, h1⟩, fun h1 h2 p k => k _ p⟩
    have e : upd (upd H a (.lst (ns.map V.int))) a (.ext fun h => h.get? a = some (seqObj "list" #[] e1)) = upd H a (.ext fun h => h.get? a = some (seqObj "list" #[] e1)) := by
      funext b
      by_cases c : b = a
      · subst c; rw [upd_same, upd_same]
      · rw [upd_ne c, upd_ne c, upd_ne c]
    rw [e] at this
    exact this
  refine wpAny_bind (wpAny_newTuple ?_ hZ)
  generalize (copyHeap s.heap its).update a (Obj.mapSeq fun _ => (#[] : Array Value)) = h2 at h1 I2 ⊢
  have I3 : Inv X pins σ (upd H a (.ext fun h => h.get? a = some (seqObj "list" #[] e1))) { s with heap := h2.push (seqObj "tuple" its.toArray 0) } := I2.kept (t' := s.toks) fun b o z => Heap.get?_push_of_some _ z
  refine wpAny_bind (wpAny_newList ?_ (Nat.zero_le _))
  show wpAny _ _ _ _ _ { s with heap := (h2.push (seqObj "tuple" its.toArray 0)).push (seqObj "list" #[] 0) }
  generalize eK : (h2.push (seqObj "tuple" its.toArray 0)).objs.size = kS
  have Hk : (upd H a (.ext fun h => h.get? a = some (seqObj "list" #[] e1))) kS = none := I3.hok.fresh (Nat.le_of_eq eK)
  have nka : kS ≠ a := fun z => by rw [z, upd_same] at Hk; cases Hk
  have I4 : Inv X pins σ (upd (upd H a (.ext fun h => h.get? a = some (seqObj "list" #[] e1))) kS (.lst [])) { s with heap := (h2.push (seqObj "tuple" its.toArray 0)).push (seqObj "list" #[] 0) } := by
    rw [← eK]
    exact I3.laid (t' := s.toks) (fun b o z => Heap.get?_push_of_some _ z) (Nat.le_refl _) ⟨Nat.zero_le _, [], 0, .nil, Heap.get?_push_size _ rfl⟩
  refine wpAny_holding ?_
  unfold ksk_rest
  refine wpAny_bind (wpAny_rule ?_)
  first
    | rw [List.forIn_toArray]
    | (rw [← Array.forIn_toList]; simp only [List.toList_toArray])
  refine wpAny_bind (ksk_fold (fun i s' => Inv X pins σ (upd (upd H a (.ext fun h => h.get? a = some (seqObj "list" #[] e1))) kS (.lst ((ns.take i).map fun n => V.int (kf n)))) s' ∧ s'.os = s.os) its 0 _ ⟨I4, rfl⟩ ?_ ?_)
  · rintro j x s' hx ⟨I5, os5⟩
    rw [Nat.zero_add] at I5 ⊢
    have jl : j < ns.length := by rw [← il]; exact (List.getElem?_eq_some_iff.mp hx).1
    obtain ⟨t, rfl⟩ : ∃ t, x = Value.int ns[j] t := by
      obtain ⟨u, hu1, hr⟩ := rv.get (i := j) (x := .int ns[j]) (by rw [List.getElem?_map, List.getElem?_eq_getElem jl]; rfl)
      rw [hx] at hu1
      cases hu1
      exact hr
    refine wpAny_bind (wpAny_attempt (wpAny_mono (F pins σ _ s' ns[j] t (hok _ (List.getElem_mem jl)) I5) (fun u s'' hu' => ?_) fun _ _ z => z.elim))
    obtain ⟨⟨tk, rfl⟩, I6⟩ := hu'
    try dsimp only
    have gk : (upd (upd H a (.ext fun h => h.get? a = some (seqObj "list" #[] e1))) kS (.lst ((ns.take j).map fun n => V.int (kf n)))) kS = some (.lst ((ns.take j).map fun n => V.int (kf n))) := upd_same
    obtain ⟨kz, kits, kn, kr, ke⟩ := I6.hok kS _ gk
    have klen : kits.length = j := by rw [← kr.length, List.length_map, List.length_take]; omega
    refine wpAny_bind (listUpdate_at ke rfl ?_ (by rw [List.size_toArray, klen]; omega) (by rw [Array.size_push, List.size_toArray, klen]; omega))
    have nx : (ns.take (j + 1)).map (fun n => V.int (kf n)) = (ns.take j).map (fun n => V.int (kf n)) ++ [V.int (kf ns[j])] := by rw [List.take_add_one, List.getElem?_eq_getElem jl, List.map_append]; rfl
    have I7 := I6.lstUpd (its' := kits ++ [.int (kf ns[j]) tk]) (n' := kn + 1) (f := Obj.mapSeq (·.push (.int (kf ns[j]) tk))) (ys := (ns.take (j + 1)).map fun n => V.int (kf n)) gk ke (by simp [Obj.mapSeq]) (by rw [nx]; exact kr.append (.cons ⟨tk, rfl⟩ .nil)) (by rw [List.length_map, List.length_take]; omega) s''.toks
    refine wpAny_pure ⟨rfl, ?_, ?_⟩
    · have e : ∀ o o' : HO, upd (upd (upd H a (.ext fun h => h.get? a = some (seqObj "list" #[] e1))) kS o) kS o' = upd (upd H a (.ext fun h => h.get? a = some (seqObj "list" #[] e1))) kS o' := fun o o' => by
        funext b
        by_cases c : b = kS
        · subst c; rw [upd_same, upd_same]
        · rw [upd_ne c, upd_ne c, upd_ne c]
      rw [e] at I7
      exact I7
    · exact I6.os.trans (I5.os.symm.trans os5)
  · rintro s' ⟨I5, os5⟩
    rw [Nat.zero_add, List.take_of_length_le (Nat.le_of_eq il.symm)] at I5
    have gk : (upd (upd H a (.ext fun h => h.get? a = some (seqObj "list" #[] e1))) kS (.lst (ns.map fun n => V.int (kf n)))) kS = some (.lst (ns.map fun n => V.int (kf n))) := upd_same
    obtain ⟨kz, kits, kn, kr, ke⟩ := I5.hok kS _ gk
    have ga : (upd (upd H a (.ext fun h => h.get? a = some (seqObj "list" #[] e1))) kS (.lst (ns.map fun n => V.int (kf n)))) a = some (.ext fun h => h.get? a = some (seqObj "list" #[] e1)) := by rw [upd_ne nka.symm, upd_same]
    have na := (I5.hok a _ ga).1
    have klen : kits.length = its.length := by rw [← kr.length, List.length_map, il]
    try dsimp only
    refine wpAny_bind (listItems_at ke rfl ?_)
    have kr' : Vals ((ns.map kf).map V.int) kits := by rw [List.map_map]; exact kr
    have er : EachIs (fun v k => ∃ as, Reads s'.heap v k as) kits (ns.map fun n => PyData.int (kf n)) := by
      have z := each_ints kr'
      clear kr' kr klen ke
      generalize hm : ns.map kf = ms at z
      have em : ns.map (fun n => PyData.int (kf n)) = ms.map PyData.int := by rw [← hm, List.map_map]; rfl
      rw [em]
      clear em hm
      induction z with
      | nil => exact .nil
      | cons h _ ih => exact .cons (by obtain ⟨t, rfl⟩ := h; exact ⟨[], .int _ _⟩) ih
    have hal : AllAlike (ns.map fun n => PyData.int (kf n)) := AllAlike.of fun _ _ => rfl
    refine key_end (κ := dataKind s'.heap (ns.map fun n => PyData.int (kf n))) ke na nka (SortsAt.data er hal (Sortable.others fun n => ⟨(fun z => nomatch z), fun xs z => nomatch z⟩) fun d hd => ?_) (by rw [List.size_toArray, klen]) hZ fun tk => ⟨rfl, ?_⟩
    · obtain ⟨n, _, rfl⟩ := List.mem_map.mp hd
      simp only [PyData.depth]
      simp [Around.in1]
      omega
    have eo := keyedOut_each (R := fun v n => ∃ t, v = Value.int n t) (fun n => PyData.int (kf n)) (⟨s'.heap, kits, hal, rfl, er⟩ : KeyedOut false (ns.map fun n => PyData.int (kf n)) its _) (each_ints rv)
    generalize ho : sortVals (dataKind s'.heap (ns.map fun n => PyData.int (kf n))) false kits its = out at eo
    have ov : Vals ((ns.mergeSort (dataLe false fun n => PyData.int (kf n))).map V.int) out := by
      generalize ns.mergeSort (dataLe false fun n => PyData.int (kf n)) = M at eo
      clear ho
      induction eo with
      | nil => exact .nil
      | cons h _ ih => exact .cons h ih
    have pm := List.mergeSort_perm ns (dataLe false fun n => PyData.int (kf n))
    have so : (ns.mergeSort (dataLe false fun n => PyData.int (kf n))).Pairwise fun x y => kf x ≤ kf y := by
      have : dataLe false (fun n => PyData.int (kf n)) = fun x y => decide (kf x ≤ kf y) := dataLe_int kf
      rw [this]
      have := List.pairwise_mergeSort (le := fun x y => decide (kf x ≤ kf y)) (fun x y z h1 h2 => by simp at *; omega) (fun x y => by simp; omega) ns
      exact this.imp fun h => of_decide_eq_true h
    generalize ns.mergeSort (dataLe false fun n => PyData.int (kf n)) = M at ov pm so
    have I6 := I5.lstUpd (its' := []) (f := Obj.mapSeq fun _ => (#[] : Array Value)) (ys := []) gk ke rfl .nil (Nat.zero_le _) tk
    have na1 : (s'.heap.update kS (Obj.mapSeq fun _ => (#[] : Array Value))).get? a = some (seqObj "list" #[] e1) := ((Heap.SameBut.update s'.heap kS (Obj.mapSeq fun _ => (#[] : Array Value))).2 a nka.symm).trans na
    obtain ⟨e2, h3⟩ : ∃ e2, ((s'.heap.update kS (Obj.mapSeq fun _ => (#[] : Array Value))).update a (Obj.mapSeq fun _ => out.toArray)).get? a = some (seqObj "list" out.toArray e2) := ⟨_, get?_update_seq na1 fun _ => out.toArray⟩
    have ml : (M.map V.int).length ≤ sizeLine := by rw [List.length_map, pm.length_eq, ← il]; exact hZ
    have I7 := I6.write (x := a) (e := a) (o := .lst (M.map V.int)) (h' := (s'.heap.update kS (Obj.mapSeq fun _ => (#[] : Array Value))).update a (Obj.mapSeq fun _ => out.toArray)) (t' := tk) (by rw [upd_ne nka.symm, ga]; trivial) (.inl rfl)
      (fun b u hb z => ((Heap.SameBut.update (s'.heap.update kS (Obj.mapSeq fun _ => (#[] : Array Value))) a (Obj.mapSeq fun _ => out.toArray)).2 b hb).trans z) ⟨_, h3⟩ ⟨ml, out, e2, ov, h3⟩
    refine ⟨.ref a, _, I7, rfl, q M a _ pm so Ha upd_same fun b o z => ?_⟩
    have c1 : b ≠ a := fun c => by rw [c, Ha] at z; cases z
    have c2 : b ≠ kS := fun c => by rw [c] at z; rw [upd_ne nka, z] at Hk; cases Hk
    rw [upd_ne c1, upd_ne c2, upd_ne c2, upd_ne c1]
    exact z
/-- sorted(xs, key=f) -/
def rSortedKf (K : PySem.W.Frag) (q0 : Addr) (kf : Int → Int) (ok : Int → Prop) : List V → List V → Hp → VK → Prop := fun vs zs H Q => ∃ (l : Addr) (ns : List Int), vs = [V.ref l] ∧ zs = [V.ref q0] ∧ SqL K H l (ns.map V.int) ∧ (∀ n ∈ ns, ok n) ∧
  ∀ (ns' : List Int) (p : Addr) (H' : Hp), ns'.Perm ns → ns'.Pairwise (fun x y => kf x ≤ kf y) → H p = none → H' p = some (.lst (ns'.map V.int)) → (∀ b o, H b = some o → H' b = some o) → Q (.ref p) H'
theorem cr_sortedKf {X : Cx} {q0 : Addr} {kf : Int → Int} {ok : Int → Prop} (hu : X.A.units + 64 < cLine) (F : KeyFn X (.ref q0) kf ok) : CallRK X (.builtin "sorted") [PySem.Str.ofString "key"] (rSortedKf X.K q0 kf ok) := by
  intro pins s σ H vs zs us ws Q I r rz h
  obtain ⟨l, ns, rfl, rfl, hs, hok, q⟩ := h
  rw [Vals.ref1 r, Vals.ref1 rz]
  exact sorted_key hu I hs hok F q
theorem keyFn_of {X : Cx} {k : Nat} {q0 : Addr} {fd : FuncData} {ps : List PySem.Str} {sp : Sp} {kf : Int → Int} {ok : Int → Prop} (F : FnOk X.prog X.w X.K X.mg X.base CX0 k q0 fd ps sp) (hr : Room k X.A.in1.in1) (hb : Binds X.K fd ps [])
    (hs : ∀ n, ok n → ∀ (G : Hp) (Q : VK) (E : XK), Q (.int (kf n)) G → sp [.int n] G Q E) : KeyFn X (.ref q0) kf ok := by
  intro pins σ G s n t hn I
  have sp1 := hs n hn G (fun v G' => v = V.int (kf n) ∧ G' = G) (fun _ _ _ => False) ⟨rfl, rfl⟩
  have hl : ([Value.int n t] ++ ([] : List Value)).length = ps.length := by have := F.len _ _ _ _ sp1; simpa using this
  refine wpAny_call (codeAny_mono (F.run X.A.in1.in1 X.stack s G ⟨[Value.int n t], []⟩ ([Value.int n t] ++ []) [V.int n] (fun v G' => v = V.int (kf n) ∧ G' = G) (fun _ _ _ => False) hr I.env0.in1.in1 (hb s [Value.int n t] I.kIn hl) (.cons (show RelV (V.int n) (Value.int n t) from ⟨t, rfl⟩) .nil) sp1) fun r s' hq => ?_)
  cases r with
  | error e => exact hq.elim
  | ok fl =>
    cases fl with
    | ret u =>
      have hq' : CE X.stack X.prog X.w G s (fun v G' => v = V.int (kf n) ∧ G' = G) u s' := hq
      obtain ⟨v, G', I', rv, rfl, rfl⟩ := I.after hq'
      obtain ⟨tk, rfl⟩ : ∃ tk, u = Value.int (kf n) tk := rv
      exact ⟨⟨tk, rfl⟩, I'⟩
    | next => exact False.elim hq
    | brk => exact False.elim hq
    | cont => exact False.elim hq
end Fw

set_option maxRecDepth 100000
set_option maxHeartbeats 4000000
/-! dicts whose keys are tuples within tuples -/
namespace Fw
open PySem PySem.Spec PyProof.Rows L2
mutual
/-- v is such a key, in the heap H -/
inductive KIs (K : PySem.W.Frag) (H : Hp) : V → NestedKey → Prop
  | int (i : Int) : KIs K H (.int i) (.num i)
  | str (x : PySem.Str) : KIs K H (.str x) (.text x)
  | tup {a : Addr} {xs : List V} {ks : List NestedKey} : SqT K H a xs → KAll K H xs ks → KIs K H (.ref a) (.tup ks)
inductive KAll (K : PySem.W.Frag) (H : Hp) : List V → List NestedKey → Prop
  | nil : KAll K H [] []
  | cons {x : V} {k : NestedKey} {xs : List V} {ks : List NestedKey} : KIs K H x k → KAll K H xs ks → KAll K H (x :: xs) (k :: ks)
end
mutual
theorem KIs.map {K : PySem.W.Frag} {H H' : Hp} (s : ∀ a xs, SqT K H a xs → SqT K H' a xs) : ∀ {v : V} {k : NestedKey}, KIs K H v k → KIs K H' v k
  | _, _, .int i => .int i
  | _, _, .str x => .str x
  | _, _, .tup h r => .tup (s _ _ h) (KAll.map s r)
theorem KAll.map {K : PySem.W.Frag} {H H' : Hp} (s : ∀ a xs, SqT K H a xs → SqT K H' a xs) : ∀ {vs : List V} {ks : List NestedKey}, KAll K H vs ks → KAll K H' vs ks
  | _, _, .nil => .nil
  | _, _, .cons h r => .cons (KIs.map s h) (KAll.map s r)
end
section
variable {X : Cx} {pins : List (Addr × Obj)} {σ : L2.St} {H : Hp} {s : Shared}
mutual
theorem kis_real (I : Inv X pins σ H s) : ∀ {v : V} {k : NestedKey} {u : Value}, KIs X.K H v k → RelV v u → NestedIs s.heap k u
  | _, _, _, .int i, r => by
    obtain ⟨t, rfl⟩ : ∃ t, _ = Value.int i t := r
    exact .int i t
  | _, _, _, .str x, r => by
    obtain ⟨t, rfl⟩ : ∃ t, _ = Value.str x t := r
    exact .text x t
  | _, _, _, .tup h all, r => by
    obtain rfl : _ = Value.ref _ := r
    obtain ⟨its, rv, ⟨o, e, c, n, d⟩, _⟩ := I.tuple h
    exact .tup e c d (by simpa using kall_real I all rv)
theorem kall_real (I : Inv X pins σ H s) : ∀ {vs : List V} {ks : List NestedKey} {us : List Value}, KAll X.K H vs ks → Vals vs us → NestedAll s.heap ks us
  | _, _, _, .nil, .nil => .nil
  | _, _, _, .cons h r, .cons a b => .cons (kis_real I h a) (kall_real I r b)
end
end
abbrev NK := NestedKey × Addr × V
/-- what stands at a key -/
def valN (kvs : List NK) (k : NestedKey) : Option V := (kvs.find? fun e => decide (e.1 = k)).map fun e => e.2.2
def PairN (p : NK) (q : NestedKey × Addr × Value) : Prop := p.1 = q.1 ∧ p.2.1 = q.2.1 ∧ RelV p.2.2 q.2.2
def DNh (P : Program) (w : World) (a : Addr) (kvs : List NK) (h : Heap) : Prop := (a == sysModules) = false ∧ kvs.length ≤ sizeLine ∧ ∃ xs : List (NestedKey × Addr × Value), Paired PairN kvs xs ∧
  ∃ o es ep, h.get? a = some o ∧ o.ExactDict ∧ o.data = .dict es ep ∧ es.toList = xs.map (entryOfKey (nestedKind P w)) ∧ (xs.map (·.1)).Nodup
/-- a dict with such keys, each with the place of its tuple -/
def DNs (P : Program) (w : World) (a : Addr) (kvs : List NK) : HO := .ext (DNh P w a kvs)
def KeysOk (K : PySem.W.Frag) (H : Hp) (kvs : List NK) : Prop := ∀ e ∈ kvs, KIs K H (.ref e.2.1) e.1 ∧ e.1.depth ≤ 8
theorem DNh.ok {P : Program} {w : World} {H : Hp} {h : Heap} {a : Addr} {kvs : List NK} (x : DNh P w a kvs h) : ObjOk P w H h a (DNs P w a kvs) := by
  obtain ⟨z, y, xs, r, o, es, ep, e, c⟩ := id x
  refine ⟨x, ⟨o, e⟩, fun h1 h2 q k => ?_⟩
  obtain ⟨z, y, xs, r, o, es, ep, e, c⟩ := q
  exact ⟨z, y, xs, r, o, es, ep, k _ e, c⟩
theorem pair_val {kvs : List NK} {xs : List (NestedKey × Addr × Value)} (r : Paired PairN kvs xs) (k : NestedKey) : RelO (valN kvs k) ((atKey xs k).map (·.2)) := by
  induction r with
  | nil => exact trivial
  | @cons p q ps qs h t ih =>
    obtain ⟨h1, h2, h3⟩ := h
    unfold valN atKey at ih ⊢
    by_cases e : p.1 = k
    · have e2 : q.1 = k := h1.symm.trans e
      simp only [List.find?_cons, e, e2, decide_true, Option.map_some]
      exact h3
    · have e2 : ¬ q.1 = k := fun z => e (h1.trans z)
      simp only [List.find?_cons, decide_eq_false e, decide_eq_false e2]
      exact ih
theorem valN_snoc {kvs : List NK} {k : NestedKey} {b : Addr} {v : V} (h : valN kvs k = none) (j : NestedKey) : valN (kvs ++ [(k, b, v)]) j = if j = k then some v else valN kvs j := by
  unfold valN at h ⊢
  rw [List.find?_append]
  by_cases e : j = k
  · subst e
    have : kvs.find? (fun e => decide (e.1 = j)) = none := Option.map_eq_none_iff.mp h
    simp [this, List.find?_cons]
  · rw [if_neg e]
    have : ¬ k = j := fun z => e z.symm
    cases kvs.find? (fun e => decide (e.1 = j)) <;> simp [List.find?_cons, this]
section
variable {X : Cx}
theorem dn_dict {pins : List (Addr × Obj)} {σ : L2.St} {H : Hp} {s : Shared} {a : Addr} {kvs : List NK} (I : Inv X pins σ H s) (e : H a = some (DNs X.prog X.w a kvs)) (ok : KeysOk X.K H kvs) :
    (a == sysModules) = false ∧ kvs.length ≤ sizeLine ∧ ∃ xs, Paired PairN kvs xs ∧ s.heap.DictOfH (nestedKind X.prog X.w) a xs := by
  obtain ⟨z, y, xs, r, o, es, ep, h1, h2, h3, h4, h5⟩ := (I.hok a _ e).1
  refine ⟨z, y, xs, r, o, es, ep, h1, h2, h3, h4, fun x hx => ?_, h5⟩
  have all : ∀ {l : List NK} {m : List (NestedKey × Addr × Value)}, Paired PairN l m → (∀ e ∈ l, KIs X.K H (.ref e.2.1) e.1 ∧ e.1.depth ≤ 8) → ∀ x ∈ m, (nestedKind X.prog X.w).is s.heap x.1 x.2.1 := by
    intro l m q
    induction q with
    | nil => intro _ x hx; exact nomatch hx
    | @cons p q ps qs hq t ih =>
      intro okl x hx
      rcases List.mem_cons.mp hx with e | hx
      · subst e
        obtain ⟨k1, k2⟩ := okl p List.mem_cons_self
        rw [hq.1, hq.2.1] at k1
        exact ⟨kis_real I k1 rfl, by rw [← hq.1]; exact k2⟩
      · exact ih (fun e he => okl e (List.mem_cons_of_mem _ he)) x hx
  exact all r ok x hx
def rInN (P : Program) (w : World) (K : PySem.W.Frag) (neg : Bool) : R2 := fun x y H Q => ∃ (a b : Addr) (kvs : List NK) (k : NestedKey), y = .ref a ∧ x = .ref b ∧ H a = some (DNs P w a kvs) ∧ KeysOk K H kvs ∧ KIs K H (.ref b) k ∧ k.depth ≤ 8 ∧
  Q (.bl (if neg = true then !(valN kvs k).isSome else (valN kvs k).isSome)) H
theorem op_inN (hu : X.A.units + 64 < cLine) : OpR X (compareOp .In) (rInN X.prog X.w X.K false) := by
  intro pins s σ H x y v u Q I rx ry h
  obtain ⟨a, b, kvs, k, rfl, rfl, e, ok, hk, dk, q⟩ := h
  obtain rfl : v = Value.ref b := rx
  obtain rfl : u = Value.ref a := ry
  obtain ⟨z, _, xs, r, dd⟩ := dn_dict I e ok
  refine wpAny_in_heap (knd := nestedKind X.prog X.w) (show X.A.units + 1 + 8 < cLine by omega) ⟨kis_real I hk rfl, dk⟩ z dd ?_
  have q2 := (pair_val r k).isSome_eq
  rw [Option.isSome_map] at q2
  refine ⟨.bl _, H, I.tok _, rfl, ?_⟩
  rw [← q2]
  exact q
theorem op_notInN (hu : X.A.units + 64 < cLine) : OpR X (compareOp .NotIn) (rInN X.prog X.w X.K true) := by
  intro pins s σ H x y v u Q I rx ry h
  obtain ⟨a, b, kvs, k, rfl, rfl, e, ok, hk, dk, q⟩ := h
  obtain rfl : v = Value.ref b := rx
  obtain rfl : u = Value.ref a := ry
  obtain ⟨z, _, xs, r, dd⟩ := dn_dict I e ok
  refine wpAny_notIn_heap (knd := nestedKind X.prog X.w) (show X.A.units + 1 + 8 < cLine by omega) ⟨kis_real I hk rfl, dk⟩ z dd ?_
  have q2 := (pair_val r k).isSome_eq
  rw [Option.isSome_map] at q2
  refine ⟨.bl _, H, I.tok _, rfl, ?_⟩
  rw [← q2]
  exact q
def rIxN (P : Program) (w : World) (K : PySem.W.Frag) : R2 := fun x y H Q => ∃ (a b : Addr) (kvs : List NK) (k : NestedKey) (v : V), x = .ref a ∧ y = .ref b ∧ H a = some (DNs P w a kvs) ∧ KeysOk K H kvs ∧ KIs K H (.ref b) k ∧ k.depth ≤ 8 ∧ valN kvs k = some v ∧ Q v H
theorem ix_nest (hu : X.A.units + 64 < cLine) : IxR X (rIxN X.prog X.w X.K) := by
  intro value slice pins s σ H x y v u Q I rx ry h hs
  obtain ⟨a, b, kvs, k, z0, rfl, rfl, e, ok, hk, dk, hv, q⟩ := h
  obtain rfl : v = Value.ref a := rx
  obtain rfl : u = Value.ref b := ry
  obtain ⟨z, _, xs, r, dd⟩ := dn_dict I e ok
  obtain ⟨w', hw, rw'⟩ := RelO.some_of (v := z0) (o := (atKey xs k).map (·.2)) (by rw [← hv]; exact pair_val r k)
  obtain ⟨p, hp, hp2⟩ := Option.map_eq_some_iff.mp hw
  refine tail_any dd.typeIs PySem.F.slot_dict_getitem.lookup (wpAny_getItem_heap (knd := nestedKind X.prog X.w) (show X.A.units + 1 + 8 < cLine by omega) ⟨kis_real I hk rfl, dk⟩ dd hp ?_) hs
  rw [hp2]
  exact ⟨z0, H, I.tok _, rw', q⟩
/-- d[key] = v, the key not yet there -/
def rSetN (P : Program) (w : World) (K : PySem.W.Frag) : TSet := fun o i v H Q => ∃ (a b : Addr) (kvs : List NK) (k : NestedKey), o = .ref a ∧ i = .ref b ∧ H a = some (DNs P w a kvs) ∧ KeysOk K H kvs ∧ KIs K H (.ref b) k ∧ k.depth ≤ 8 ∧ valN kvs k = none ∧ kvs.length < sizeLine ∧
  Q (upd H a (DNs P w a (kvs ++ [(k, b, v)])))
theorem set_nest (hu : X.A.units + 64 < cLine) : PSet X (rSetN X.prog X.w X.K) := by
  intro pins s σ H o i v ov iv u Q I ro ri rv h
  obtain ⟨a, b, kvs, k, rfl, rfl, e, ok, hk, dk, hn, hl, q⟩ := h
  obtain rfl : ov = Value.ref a := ro
  obtain rfl : iv = Value.ref b := ri
  obtain ⟨z, sz, xs, r, dd⟩ := dn_dict I e ok
  have none' : atKey xs k = none := by
    have q2 := (pair_val r k).isSome_eq
    rw [Option.isSome_map, hn] at q2
    cases h : atKey xs k with
    | none => rfl
    | some p => rw [h] at q2; cases q2
  refine wpAny_setItem_heap (knd := nestedKind X.prog X.w) (hsz := by rw [← Paired.length r]; exact sz) (show X.A.units + 1 + 8 < cLine by omega) ⟨kis_real I hk rfl, dk⟩ dd fun h' dd' hs => ⟨_, ?_, q⟩
  rw [storedH_new none'] at dd'
  obtain ⟨o', es, ep, e1, e2, e3, e4, _, e5⟩ := dd'
  refine d_write I (by rw [e]; trivial) hs ⟨o', e1⟩ (DNh.ok ⟨z, ?_, _, Paired.snoc r ⟨rfl, rfl, rv⟩, o', es, ep, e1, e2, e3, e4, e5⟩)
  rw [List.length_append, List.length_singleton]
  exact hl
/-- {} -/
def tDNewN (P : Program) (w : World) : TE := fun _ H Q => ∀ p, H p = none → Q (.ref p) (upd H p (DNs P w p []))
theorem pe_dnewN {pos : Pos} : PE X (.Dict [] [] pos) (tDNewN X.prog X.w) :=
  ⟨fun pins s σ H Q I h => wpAny_Dict_empty ⟨.ref s.heap.objs.size, _, I.laid (a := s.heap.objs.size) (t' := s.toks) (fun _ _ q => Heap.get?_push_of_some _ q) (Nat.le_refl _) (DNh.ok (by
    obtain ⟨z, y, xs, r, o, es, ep, e, c⟩ := dt_empty (P := X.prog) (w := X.w) (H := H) s.heap I.big
    cases r
    exact ⟨y, Nat.zero_le _, [], .nil, o, es, ep, e, c.1, c.2.1, c.2.2.1, List.nodup_nil⟩)), rfl, h _ (I.hok.fresh (Nat.le_refl _))⟩⟩
end
end Fw

set_option maxRecDepth 100000
set_option maxHeartbeats 4000000
/-! Sorting of tuples of whole numbers, of any lengths. -/
namespace Fw
open PySem PySem.Spec PyProof.Rows L2
theorem lexL_asym : ∀ a b : List Int, HT.lexLt a b = true → HT.lexLt b a = false
  | [], [], h => by cases h
  | [], _ :: _, _ => rfl
  | _ :: _, [], h => by cases h
  | x :: a, y :: b, h => by
    rw [HT.lexLt_cons] at h ⊢
    by_cases e : x = y
    · rw [if_pos e] at h
      rw [if_pos e.symm]
      exact lexL_asym a b h
    · rw [if_neg e, decide_eq_true_eq] at h
      rw [if_neg (fun z => e z.symm), decide_eq_false_iff_not]
      omega
theorem lexL_tr : ∀ a b c : List Int, HT.lexLt b a = false → HT.lexLt c b = false → HT.lexLt c a = false
  | [], b, [], _, _ => rfl
  | _ :: _, [], c, h1, _ => by cases h1
  | _ :: _, _ :: _, [], _, h2 => by cases h2
  | [], b, _ :: _, _, _ => by rfl
  | x :: a, y :: b, z :: c, h1, h2 => by
    rw [HT.lexLt_cons] at h1 h2 ⊢
    by_cases e1 : y = x
    · subst e1
      rw [if_pos rfl] at h1
      by_cases e2 : z = y
      · rw [if_pos e2] at h2 ⊢
        exact lexL_tr a b c h1 h2
      · rw [if_neg e2] at h2 ⊢
        exact h2
    · rw [if_neg e1, decide_eq_false_iff_not] at h1
      by_cases e2 : z = y
      · subst e2
        rw [if_neg e1, decide_eq_false_iff_not]
        exact h1
      · rw [if_neg e2, decide_eq_false_iff_not] at h2
        rw [if_neg (by omega), decide_eq_false_iff_not]
        omega
theorem swoL {α : Type} (k : α → List Int) : SrtO.Swo fun v u => HT.lexLt (k v) (k u) := ⟨fun x y h => lexL_asym _ _ h, fun x y z h1 h2 => lexL_tr _ _ _ h1 h2⟩
def IsInts (h : Heap) (v : Value) (xs : List Int) : Prop := ∃ a o its n, v = .ref a ∧ h.get? a = some o ∧ o.cls = .type "tuple" ∧ o.data = .seq its n ∧ IntsAre its.toList xs
theorem IsInts.keeps {h h' : Heap} {v : Value} {xs : List Int} (p : IsInts h v xs) (k : ∀ b o, h.get? b = some o → o.cls = .type "tuple" → h'.get? b = some o) : IsInts h' v xs := by
  obtain ⟨a, o, its, n, e, ho, hc, hd, i⟩ := p
  exact ⟨a, o, its, n, e, k a o ho hc, hc, hd, i⟩
section
variable {prog : Program} {w : World} {A : Around} {E : Value → Shared → Prop} {s : Shared}
theorem kat_ints {b fin : Bool} {Q : Bool → Shared → Prop} : ∀ (ps qs : List Value) (i : Nat) (as bs : List Int), IntsAre ps as → IntsAre qs bs → fin = decide (ps.length < qs.length) → Q (HT.lexLt as bs) s → PySem.W.KatLex prog w A b fin Q (ps.zip qs) i s
  | [], [], i, as, bs, ha, hb, hf, h => by
    cases ha; cases hb
    have e : fin = false := by rw [hf]; rfl
    subst e
    exact PySem.W.kat_nil h
  | [], q :: qs, i, as, bs, ha, hb, hf, h => by
    cases ha; cases hb
    have e : fin = true := by rw [hf]; exact decide_eq_true (Nat.succ_pos _)
    subst e
    exact PySem.W.kat_nil h
  | p :: ps, [], i, as, bs, ha, hb, hf, h => by
    cases ha; cases hb
    have e : fin = false := by rw [hf]; exact decide_eq_false (Nat.not_lt_zero _)
    subst e
    exact PySem.W.kat_nil h
  | p :: ps, q :: qs, i, as, bs, ha, hb, hf, h => by
    have hf' : fin = decide (ps.length < qs.length) := by
      rw [hf]; simp only [List.length_cons, Nat.add_lt_add_iff_right]
    cases ha with
    | cons n t ha' =>
    cases hb with
    | cons m u hb' =>
    rw [HT.lexLt_cons] at h
    refine PySem.W.kat_cons (SeqAt.EqAt.int_int n t m u prog w _ _ ?_)
    refine PySem.W.kat_go (fun e => PySem.W.kat_yes ?_) (fun e => PySem.W.kat_no ?_)
    · have hnm : n = m := by simpa using e
      rw [if_pos hnm] at h
      exact kat_ints ps qs (i + 1) _ _ ha' hb' hf' h
    · have hnm : ¬ n = m := by simpa using e
      rw [if_neg hnm] at h
      exact PyProof.Rows.oneLt_any_int h
theorem tupLt_t {b : Bool} {v u : Value} {xs ys : List Int} {Q : Bool → Shared → Prop} (hv : IsInts s.heap v xs) (hw : IsInts s.heap u ys) (h : Q (HT.lexLt xs ys) s) : wpAny (model prog w) A (keyLt' (PyProof.Rows.tuples' b) v u) Q E s := by
  obtain ⟨a, o, its, n, rfl, ho, hc, hd, i⟩ := hv
  obtain ⟨a', o', its', n', rfl, ho', hc', hd', i'⟩ := hw
  exact PySem.W.kat_lt ho hd ho' hd' (kat_ints _ _ 0 _ _ i i' (by rw [Array.length_toList, Array.length_toList]) h)
theorem tupLt_g {v u : Value} {xs ys : List Int} {Q : Bool → Shared → Prop} (hu : A.units < cLine) (hv : IsInts s.heap v xs) (hw : IsInts s.heap u ys) (h : Q (HT.lexLt xs ys) s) : wpAny (model prog w) A (oneLt' false v u) Q E s := by
  obtain ⟨a, o, its, n, rfl, ho, hc, hd, i⟩ := hv
  obtain ⟨a', o', its', n', rfl, ho', hc', hd', i'⟩ := hw
  exact PySem.W.kat_one _ _ (HT.lt_tupInts ⟨o, ho, hc, n, hd⟩ ⟨o', ho', hc', n', hd'⟩ i i' hu h)
theorem tupLt_o {v u : Value} {xs ys : List Int} {Q : Bool → Shared → Prop} (hu : A.units < cLine) (hv : IsInts s.heap v xs) (hw : IsInts s.heap u ys) (h : Q (HT.lexLt xs ys) s) : wpAny (model prog w) A (oneLt' true v u) Q E s := by
  obtain ⟨a, o, its, n, rfl, ho, hc, hd, i⟩ := hv
  obtain ⟨a', o', its', n', rfl, ho', hc', hd', i'⟩ := hw
  obtain ⟨cls, dd, data, sl⟩ := o
  obtain ⟨cls2, dd2, data2, sl2⟩ := o'
  simp only at hc hd hc' hd'
  subst hc hd hc' hd'
  rw [oneLt'_eq]
  simp only [if_true]
  refine wpAny_bind (wpAny_cRoomFor hu ?_)
  refine wpAny_bind (wpAny_callSpecialIfBound?_slot (T := "tuple") ⟨_, ho, rfl⟩ PySem.F.slot_tuple_lt (call_meets PySem.F.slot_tuple_lt ⟨_, ho, rfl⟩ PySem.F.entry_tuple_lt (PySem.F.args_tuple_lt_2 _ _) (HT.tuple_lt_ints a a' its its' n n' dd dd2 sl sl2 xs ys i i') ⟨ho, ho', ?_⟩))
  exact wpAny_truthy_bool h
/-! ### the kind of the keys -/
def FstOf (h : Heap) : List Value → List (Option Value) → Prop
  | [], [] => True
  | v :: vs, f :: fs => (∃ a o xs n, v = .ref a ∧ h.get? a = some o ∧ o.cls = .type "tuple" ∧ o.data = .seq xs n ∧ xs[0]? = f) ∧ FstOf h vs fs
  | _, _ => False
theorem firstsO {M : Model} : ∀ (vs : List Value) (fs : List (Option Value)) {Q : List (Option Value) → Shared → Prop}, FstOf s.heap vs fs → Q fs s → wpAny M A (vs.mapM firstOfTuple') Q E s
  | [], [], _, _, h => by rw [List.mapM_nil]; exact wpAny_pure h
  | [], _ :: _, _, t, _ => t.elim
  | _ :: _, [], _, t, _ => t.elim
  | v :: vs, f :: fs, Q, t, h => by
    obtain ⟨⟨a, o, xs, n, rfl, ho, hc, hd, hf⟩, t⟩ := t
    rw [List.mapM_cons]
    refine wpAny_bind ?_
    rw [PySem.W.kas_first_eq]
    refine wpAny_bind (PySem.W.Looks.here (show PySem.W.Looks M s.heap (typeOf (.ref a)) o.cls from (PySem.W.Looks.ld ho).andThen .now) ?_)
    rw [hc, if_neg (by first | decide | simp)]
    refine wpAny_bind (listItems_at ho hd (wpAny_pure ?_))
    rw [hf]
    exact wpAny_bind (firstsO vs fs (Q := fun bs s' => wpAny M A (pure (f :: bs)) Q E s') t (wpAny_pure h))
theorem fst_of {h : Heap} {k : Value → List Int} : ∀ {vs : List Value}, (∀ v ∈ vs, IsInts h v (k v)) → ∃ fs, FstOf h vs fs ∧ fs.length = vs.length ∧ ∀ f ∈ fs, f = none ∨ ∃ x t, f = some (Value.int x t)
  | [], _ => ⟨[], trivial, rfl, fun _ hm => by cases hm⟩
  | v :: vs, hp => by
    obtain ⟨fs, h1, h2, h3⟩ := fst_of (vs := vs) fun v' hm => hp v' (List.mem_cons_of_mem _ hm)
    obtain ⟨a, o, its, n, e, ho, hc, hd, i⟩ := hp v (List.mem_cons_self ..)
    refine ⟨its[0]? :: fs, ⟨⟨a, o, its, n, e, ho, hc, hd, rfl⟩, h1⟩, by rw [List.length_cons, List.length_cons, h2], fun f hm => ?_⟩
    rcases List.mem_cons.mp hm with rfl | hm
    · rw [← Array.getElem?_toList]
      generalize its.toList = l at i
      generalize k v = kv at i
      cases i with
      | nil => exact .inl rfl
      | cons x t _ => exact .inr ⟨x, t, rfl⟩
    · exact h3 f hm
theorem some_all {fs : List (Option Value)} (h : fs.toArray.all (fun x => x.isSome) = true) : ∃ gs : List Value, fs = gs.map some := by
  simp only [List.all_toArray] at h
  induction fs with
  | nil => exact ⟨[], rfl⟩
  | cons f fs ih =>
    rw [List.all_cons, Bool.and_eq_true] at h
    obtain ⟨gs, e⟩ := ih h.2
    cases f with
    | none => cases h.1
    | some g => exact ⟨g :: gs, by rw [e]; rfl⟩
theorem kat_of_fst {h : Heap} : ∀ {vs gs : List Value}, FstOf h vs (gs.map some) → PySem.W.KatTups h vs gs
  | [], [], _ => trivial
  | [], _ :: _, t => t.elim
  | _ :: _, [], t => t.elim
  | v :: vs, g :: gs, t => ⟨t.1, kat_of_fst t.2⟩
/-- tuples of whole numbers have a kind, and by it they are compared -/
theorem ints_kind {vs : List Value} {k : Value → List Int} (h0 : 0 < vs.length) (hu : A.units < cLine) (hp : ∀ v ∈ vs, IsInts s.heap v (k v)) :
    ∃ κ, (∀ (Q : SortKind → Shared → Prop) (E : Value → Shared → Prop), Q κ s → wpAny (model prog w) A (keyKind' vs.toArray) Q E s) ∧ SrtO.Cmp prog w A s κ (fun p => p.1 ∈ vs) (SrtO.lt2 fun v u => HT.lexLt (k v) (k u)) := by
  obtain ⟨fs, h1, h2, h3⟩ := fst_of hp
  have tOf : ∀ v ∈ vs, ∀ M : Model, PySem.W.Looks M s.heap (typeOf v) (.type "tuple") := fun v hv M => by
    obtain ⟨a, o, its, n, rfl, ho, hc, hd, i⟩ := hp v hv
    have := (show PySem.W.Looks M s.heap (typeOf (.ref a)) o.cls from (PySem.W.Looks.ld ho).andThen .now)
    rw [hc] at this
    exact this
  by_cases hall : fs.toArray.all (fun x => x.isSome) = true
  · obtain ⟨gs, rfl⟩ := some_all hall
    refine ⟨PyProof.Rows.tuples' true, fun Q E hq => ?_, fun p q m m' => tupLt_t (Q := fun r s' => s' = s ∧ r = HT.lexLt (k p.1) (k q.1)) (hp _ m) (hp _ m') ⟨rfl, rfl⟩⟩
    rw [List.length_map] at h2
    refine PySem.W.kat_kind (T := .type "int") (kat_of_fst h1) (by omega) (fun f hm => ?_) (by rfl) ?_
    · rcases h3 (some f) (List.mem_map.mpr ⟨f, hm, rfl⟩) with e | ⟨x, t, e⟩
      · cases e
      · cases e
        exact PySem.W.Looks.now
    · have e : (Value.type "int" != Value.type "tuple") = true := by first | decide +kernel | rfl | decide
      rw [e]
      exact hq
  · by_cases hf : (fs.toArray[0]?.bind id).isSome = true
    · refine ⟨general', fun Q E hq => ?_, fun p q m m' => tupLt_g (Q := fun r s' => s' = s ∧ r = HT.lexLt (k p.1) (k q.1)) hu (hp _ m) (hp _ m') ⟨rfl, rfl⟩⟩
      rw [PyProof.Rows.kat_kind_eq, List.mapM_toArray, map_eq_pure_bind]
      refine wpAny_bind (wpAny_bind (firstsO vs _ h1 (wpAny_pure ?_)))
      rw [if_neg hall, if_pos hf]
      exact wpAny_pure hq
    · refine ⟨oneType', fun Q E hq => ?_, fun p q m m' => tupLt_o (Q := fun r s' => s' = s ∧ r = HT.lexLt (k p.1) (k q.1)) hu (hp _ m) (hp _ m') ⟨rfl, rfl⟩⟩
      rw [PyProof.Rows.kat_kind_eq, List.mapM_toArray, map_eq_pure_bind]
      refine wpAny_bind (wpAny_bind (firstsO vs _ h1 (wpAny_pure ?_)))
      rw [if_neg hall, if_neg hf]
      obtain ⟨v₁, rest, rfl⟩ : ∃ v₁ rest, vs = v₁ :: rest := by
        cases vs with
        | nil => exact absurd h0 (Nat.lt_irrefl _)
        | cons v r => exact ⟨v, r, rfl⟩
      rw [oneTypeOnly'_eq, List.mapM_toArray, map_eq_pure_bind]
      refine wpAny_bind (wpAny_bind (wpAny_bind (PySem.W.kas_mapM (r := Value.type "tuple") _ (fun v hv Q' hq' => (tOf v hv _).here hq') (wpAny_pure ?_))))
      have hall2 : ((List.map (fun _ => Value.type "tuple") (v₁ :: rest)).toArray.all fun x => x == Value.type "tuple") = true := by
        simp only [List.all_toArray, List.all_map, List.all_eq_true]
        intro _ _
        rfl
      have e0 : (List.map (fun _ => Value.type "tuple") (v₁ :: rest)).toArray[0]? = some (Value.type "tuple") := by simp
      rw [e0]
      simp only [hall2, if_true]
      exact wpAny_pure (wpAny_pure hq)
theorem ints_sortableO {a : Addr} {vs : List Value} {k : Value → List Int} (h0 : 0 < vs.length) (hu : A.units < cLine) (hp : ∀ v ∈ vs, IsInts s.heap v (k v)) (ha : ∀ o, s.heap.get? a = some o → o.cls ≠ .type "tuple") : SrtO.SortableO prog w A s a vs fun v u => HT.lexLt (k v) (k u) := by
  intro h' keep
  exact ints_kind (s := { s with heap := h' }) h0 hu fun v hm => (hp v hm).keeps fun b o e c => keep b o (fun z => by subst z; exact ha o e c) e
theorem sorted_ints {l : Addr} {vs : List Value} {k : Value → List Int} {Q : Value → Shared → Prop} (hu : A.units + 64 < cLine) (hl : s.heap.IsList l vs.toArray) (hz : vs.length ≤ sizeLine) (hp : ∀ v ∈ vs, IsInts s.heap v (k v))
    (h : ∀ (h' : Heap) (d : Addr) (out : List Value), SrtO.Srtd (fun v u => HT.lexLt (k v) (k u)) out → SrtO.Stb (fun v u => HT.lexLt (k v) (k u)) out vs → (∀ b o, s.heap.get? b = some o → h'.get? b = some o) → s.heap.objs.size ≤ d → (∃ n, h'.get? d = some (seqObj "list" out.toArray n)) → Q (.ref d) { s with heap := h' }) :
    wpAny (model prog w) A (call (.builtin "sorted") [.ref l]) Q E s := by
  refine SrtO.sorted_ord (swoL k) hl hz (fun h2 h₁ a ha kk => ?_) fun out hs hb => ?_
  · refine ints_sortableO (s := { s with heap := h₁ }) (by omega) ?_ (fun v hm => (hp v hm).keeps fun b o e _ => (kk b o e).2) fun o e => ?_
    · first | omega | exact Nat.lt_of_le_of_lt (Nat.le_add_right _ _) hu | (show _ < cLine; simp [Around.in1]; omega)
    have e' : some o = some (seqObj "list" vs.toArray 0) := e.symm.trans ha
    cases e'
    intro c
    exact absurd (Value.type.inj c) (by decide)
  · exact h _ _ out hs hb (fun b o e => sortedAll_old e) (Nat.le_succ _) (sortedAll_at s.heap vs out.toArray)
end
/-- sorted(xs), xs a list of tuples of whole numbers (k says which): a new list, sorted, equal ones in their order -/
def rSortedL (K : PySem.W.Frag) : List V → Hp → VK → Prop := fun vs H Q => ∃ (a : Addr) (xs : List V) (k : V → List Int), vs = [V.ref a] ∧ SqL K H a xs ∧ (∀ x ∈ xs, ∃ t, x = V.ref t ∧ H t = some (.tup ((k x).map V.int))) ∧
  ∀ ys p, SrtO.Srtd (fun x y => HT.lexLt (k x) (k y)) ys → SrtO.Stb (fun x y => HT.lexLt (k x) (k y)) ys xs → H p = none → Q (.ref p) (upd H p (.lst ys))
theorem ints_vals : ∀ {ns : List Int} {its : List Value}, Vals (ns.map V.int) its → IntsAre its ns
  | [], its, r => by cases r; exact .nil
  | n :: ns, its, r => by
    cases r with
    | cons h r =>
      obtain ⟨t, rfl⟩ := h
      exact .cons n t (ints_vals r)
section
variable {X : Cx}
theorem cr_sortedL (hu : X.A.units + 64 < cLine) : CallR X (.builtin "sorted") (rSortedL X.K) := by
  intro pins s σ H vs us Q I r h
  obtain ⟨a, xs, k, rfl, hs, hx, q⟩ := h
  obtain ⟨its, rv, hl, hz⟩ := I.list hs
  obtain ⟨u, rfl, ru⟩ := vals1 r
  obtain rfl : u = Value.ref a := ru
  obtain ⟨e1, e2⟩ := refs_back rv fun x m => by
    obtain ⟨t, e, _⟩ := hx x m
    exact ⟨t, e⟩
  refine sorted_ints (k := fun u => k (backV u)) hu hl.isList (by rw [← rv.length]; exact hz) (fun v hv => ?_) fun h' d out h1 h2 kp hd hn => ?_
  · obtain ⟨t, rfl⟩ := e2 v hv
    have hm : V.ref t ∈ xs := by rw [e1]; exact List.mem_map.mpr ⟨_, hv, rfl⟩
    obtain ⟨t', e, ht⟩ := hx _ hm
    cases e
    obtain ⟨_, its2, r2, o, ho, hc, n, hd⟩ := I.hok _ _ ht
    exact ⟨t, o, _, n, rfl, ho, hc, hd, ints_vals r2⟩
  · have h3 : ∀ u ∈ out, ∃ a, u = Value.ref a := fun u hu => e2 u (h2.perm.mem_iff.mp hu)
    obtain ⟨n, hn⟩ := hn
    have hb : SrtO.Stb (fun x y => HT.lexLt (k x) (k y)) (out.map backV) xs := by
      rw [e1]
      exact SrtO.Stb.map (swoL k) backV h2
    refine ⟨.ref d, upd H d (.lst (out.map backV)), I.laid (t' := s.toks) kp hd ⟨?_, out, n, vals_back h3, hn⟩, rfl, q _ d (SrtO.srtd_map h1) hb (I.hok.fresh hd)⟩
    rw [hb.len]
    exact hz
end
end Fw

set_option maxRecDepth 100000
set_option maxHeartbeats 4000000
/-! sets of tuples within tuples, of whole numbers alone; they are sorted as data -/
namespace Fw
open PySem PySem.Spec PyProof.Rows L2
mutual
/-- a key of whole numbers alone -/
def nmK : NestedKey → Bool
  | .num _ => true
  | .tup ks => nmKs ks
  | _ => false
def nmKs : List NestedKey → Bool
  | [] => true
  | k :: ks => nmK k && nmKs ks
end
structure TupK (h : Heap) (k : NestedKey) (b : Addr) : Prop where
  is : NestedIs h k (.ref b)
  low : k.depth ≤ 8
  num : nmK k = true
theorem TupK.hk {P : Program} {w : World} {h : Heap} {k : NestedKey} {b : Addr} (x : TupK h k b) : (nestedKind P w).is h k b := ⟨x.is, x.low⟩
theorem TupK.mv {h h' : Heap} {k : NestedKey} {b : Addr} (x : TupK h k b) (mv : ∀ c o vs n, h.get? c = some o → o.data = .seq vs n → h'.get? c = some o) : TupK h' k b := ⟨NestedIs.at mv _ _ x.is, x.low, x.num⟩
theorem TupK.ty {h : Heap} {k : NestedKey} {b : Addr} (x : TupK h k b) {s : Shared} (e : s.heap = h) : s.TypeIs (.ref b) "tuple" := by
  subst e
  cases x.is with
  | tup h1 h2 _ _ => exact ⟨_, h1, h2⟩
section
variable {P : Program} {w : World} {A : Around} {E : Value → Shared → Prop} {s : Shared}
theorem noCls : ∀ (n : Nat) (k : NestedKey) (v : Value), NestedIs s.heap k v → k.depth ≤ n → ∀ (A : Around) (E : Value → Shared → Prop) (Q : Bool → Shared → Prop), Q false s → wpAny (model P w) A (ofAClassStatement n v) Q E s
  | n, .none, v, x, _, A, E, Q, q => by cases x; cases n <;> exact wpAny_pure q
  | n, .num i, v, x, _, A, E, Q, q => by cases x <;> cases n <;> exact wpAny_pure q
  | n, .text y, v, x, _, A, E, Q, q => by cases x; cases n <;> exact wpAny_pure q
  | 0, .tup ks, v, x, dn, A, E, Q, q => by simp only [NestedKey.depth] at dn; omega
  | n + 1, .tup ks, v, x, dn, A, E, Q, q => by
    cases x with
    | @tup a o vs m _ g1 g2 g3 g4 =>
      simp only [NestedKey.depth] at dn
      unfold ofAClassStatement
      refine wpAny_bind (wpAny_typeOf (T := "tuple") ⟨o, g1, g2⟩ ?_)
      dsimp only
      rw [if_pos (show (("tuple" : String) == "tuple") = true by decide)]
      refine wpAny_bind (wpAny_pure ?_)
      rw [if_neg (by decide)]
      try refine wpAny_bind (wpAny_pure ?_)
      refine wpAny_bind (wpAny_seqItems g1 g3 ?_)
      refine wpAny_bind ?_
      show wpAny _ _ (forIn vs _ _) _ _ s
      rw [← Array.forIn_toList]
      refine wpAny_forIn_list _ (fun rest r s' => r.1 = none ∧ s' = s ∧ ∃ ls, NestedAll s.heap ls rest ∧ NestedKey.depthAll ls ≤ n) _ ?_ ?_ _ _ ⟨rfl, rfl, ks, g4, by omega⟩
      · rintro v rest r s' ⟨hr, es, ls, la, ld⟩
        rw [es]
        cases la with
        | @cons l _ ls' _ la1 la2 =>
          simp only [NestedKey.depthAll] at ld
          refine wpAny_bind (noCls n l v la1 (by omega) _ _ _ ?_)
          rw [if_neg (by decide)]
          exact wpAny_pure ⟨rfl, rfl, ls', la2, by omega⟩
      · rintro ⟨r1, r2⟩ s' ⟨hr, rfl, _⟩
        simp only at hr
        subst hr
        exact wpAny_pure q
theorem byVal : ∀ (n : Nat) (k : NestedKey) (v : Value), NestedIs s.heap k v → nmK k = true → k.depth ≤ n → ∀ (A : Around) (E : Value → Shared → Prop) (Q : Bool → Shared → Prop), Q true s → wpAny (model P w) A (hashByValue n v) Q E s
  | n, .none, v, x, y, _, A, E, Q, q => by cases y
  | n, .num i, v, x, _, _, A, E, Q, q => by cases x <;> cases n <;> exact wpAny_pure q
  | n, .text y, v, x, z, _, A, E, Q, q => by cases z
  | 0, .tup ks, v, x, y, dn, A, E, Q, q => by simp only [NestedKey.depth] at dn; omega
  | n + 1, .tup ks, v, x, y, dn, A, E, Q, q => by
    cases x with
    | @tup a o vs m _ g1 g2 g3 g4 =>
      simp only [NestedKey.depth] at dn
      simp only [nmK] at y
      unfold hashByValue
      refine wpAny_bind (wpAny_specialOf (T := "tuple") ⟨o, g1, g2⟩ F.slot_tuple_hash.lookup ?_)
      dsimp only
      refine wpAny_bind (wpAny_seqItems g1 g3 ?_)
      refine wpAny_bind ?_
      show wpAny _ _ (forIn vs _ _) _ _ s
      rw [← Array.forIn_toList]
      refine wpAny_forIn_list _ (fun rest r s' => r.1 = none ∧ s' = s ∧ ∃ ls, NestedAll s.heap ls rest ∧ nmKs ls = true ∧ NestedKey.depthAll ls ≤ n) _ ?_ ?_ _ _ ⟨rfl, rfl, ks, g4, y, by omega⟩
      · rintro v rest r s' ⟨hr, es, ls, la, lm, ld⟩
        rw [es]
        cases la with
        | @cons l _ ls' _ la1 la2 =>
          simp only [NestedKey.depthAll] at ld
          simp only [nmKs, Bool.and_eq_true] at lm
          refine wpAny_bind (byVal n l v la1 lm.1 (by omega) _ _ _ ?_)
          rw [if_neg (by decide)]
          exact wpAny_pure ⟨rfl, rfl, ls', la2, lm.2, by omega⟩
      · rintro ⟨r1, r2⟩ s' ⟨hr, rfl, _⟩
        simp only at hr
        subst hr
        exact wpAny_pure q
/-- a search among such tuples shows nothing -/
theorem unseen {k : NestedKey} {b : Addr} {Q : Bool → Shared → Prop} (hk : TupK s.heap k b) (ys : List Value) (hy : ∀ y ∈ ys, ∃ j c, y = Value.ref c ∧ TupK s.heap j c) (q : Q false s) : wpAny (model P w) A (searchCouldBeSeen (.ref b) ys) Q E s := by
  unfold searchCouldBeSeen
  refine wpAny_bind (wpAny_forIn_list _ (fun rest r s' => r.1 = none ∧ s' = s ∧ ∀ y ∈ rest, ∃ j c, y = Value.ref c ∧ TupK s.heap j c) _ ?_ ?_ _ _ ⟨rfl, rfl, hy⟩)
  · rintro v rest r s' ⟨hr, rfl, all⟩
    obtain ⟨j, c, rfl, hc⟩ := all v List.mem_cons_self
    have on : ∀ y ∈ rest, ∃ j c, y = Value.ref c ∧ TupK s'.heap j c := fun u hu => all u (List.mem_cons_of_mem _ hu)
    dsimp only
    split
    · exact wpAny_pure ⟨rfl, rfl, on⟩
    · refine wpAny_bind ((nestedKind P w).quiet hk.hk ?_)
      rw [if_neg (by decide)]
      try refine wpAny_bind (wpAny_pure ?_)
      refine wpAny_bind ((nestedKind P w).quiet hc.hk ?_)
      rw [if_neg (by decide)]
      try refine wpAny_bind (wpAny_pure ?_)
      refine wpAny_bind (noCls 8 _ _ hk.is hk.low _ _ _ ?_)
      rw [if_neg (by decide)]
      try refine wpAny_bind (wpAny_pure ?_)
      refine wpAny_bind (noCls 8 _ _ hc.is hc.low _ _ _ ?_)
      rw [if_neg (by decide)]
      try refine wpAny_bind (wpAny_pure ?_)
      exact wpAny_pure ⟨rfl, rfl, on⟩
  · rintro ⟨r1, r2⟩ s' ⟨hr, rfl, _⟩
    simp only at hr
    subst hr
    exact wpAny_pure q
/-! ### the table -/
abbrev prAt (m : Nat) (h : Int) (c : Nat) : SetTable.Probe := nth m (runAt m (SetTable.bits h % (m + 1)) (SetTable.bits h)) c
theorem pr_more (m : Nat) (h : Int) (c q : Nat) : nth m (prAt m h c) q = prAt m h (c + q) := (nth_add m c _ q).symm
theorem nth_dummy (m : Nat) : ∀ (n : Nat) (p : SetTable.Probe), p.dummy = none → (nth m p n).dummy = none
  | 0, _, e => e
  | n + 1, p, e => nth_dummy m n (adv m p) (by unfold adv; split <;> exact e)
/-- what a probe tells, from the c-th step of the way on -/
theorem probe_tells {t : SetTable} {hs : List Int} (T : TabOk t hs) {ha : Nat → Int} (hha : ∀ i x, hs[i]? = some x → ha i = x) {h : Int} {K c : Nat} (hc : c ≤ K) (hK : K < 10 * SetTable.turns t.mask)
    (out : way t.mask h K ∉ t.place.toList) (ins : ∀ j, j < K → way t.mask h j ∈ t.place.toList) :
    (∃ q i, c ≤ q ∧ q < K ∧ t.place.toList[i]? = some (way t.mask h q) ∧ hs[i]? = some h ∧ (∀ (q' i' : Nat), c ≤ q' → q' < q → t.place.toList[i']? = some (way t.mask h q') → hs[i']? ≠ some h) ∧
      t.probe ha h (prAt t.mask h c) = some (.candidate (way t.mask h q) i (prAt t.mask h (q + 1)))) ∨
    ((∀ (q' i' : Nat), c ≤ q' → q' < K → t.place.toList[i']? = some (way t.mask h q') → hs[i']? ≠ some h) ∧ t.probe ha h (prAt t.mask h c) = some (.empty (way t.mask h K) none)) := by
  have wy : ∀ q, (nth t.mask (prAt t.mask h c) q).j = way t.mask h (c + q) := fun q => congrArg SetTable.Probe.j (pr_more t.mask h c q)
  have G := go_spec t T.ris T.dm ha h (10 * SetTable.turns t.mask) (K - c) (prAt t.mask h c) (nth_dummy _ _ _ rfl) (by omega) (fun q hq => by rw [wy]; exact ins _ (by omega)) (by rw [wy, show c + (K - c) = K by omega]; exact out)
  have ix : ∀ {i : Nat} {j : Nat}, t.place.toList[i]? = some j → ∃ x, hs[i]? = some x ∧ ha i = x := fun {i j} e => by
    have l : i < hs.length := by
      have := (List.getElem?_eq_some_iff.mp e).1
      rw [Array.length_toList, T.sz] at this
      exact this
    exact ⟨hs[i], List.getElem?_eq_getElem l, hha i _ (List.getElem?_eq_getElem l)⟩
  rcases G with ⟨q, i, g1, g2, g3, g4, g5⟩ | ⟨g1, g2⟩
  · rw [wy] at g2
    refine .inl ⟨c + q, i, by omega, by omega, g2, ?_, fun q' i' a1 a2 a3 a4 => ?_, ?_⟩
    · obtain ⟨x, e1, e2⟩ := ix g2
      rw [e1, ← e2, g3]
    · refine g4 (q' - c) i' (by omega) (by rw [wy, show c + (q' - c) = q' by omega]; exact a3) (hha i' _ a4)
    · have z := g5
      rw [wy, pr_more] at z
      exact z
  · refine .inr ⟨fun q' i' a1 a2 a3 a4 => g1 (q' - c) i' (by omega) (by rw [wy, show c + (q' - c) = q' by omega]; exact a3) (hha i' _ a4), ?_⟩
    have z := g2
    rw [wy, show c + (K - c) = K by omega] at z
    exact z
abbrev EN := Addr × NestedKey
abbrev hN (w : World) (e : EN) : Int := NestedKey.hash w e.2
def rwN (w : World) (L : List EN) : List (Int × Value) := L.map fun e => (hN w e, Value.ref e.1)
theorem rwN_len {L : List EN} {es : Array (Int × Value)} (e : es.toList = rwN w L) : es.size = L.length := by
  rw [← Array.length_toList, e]
  exact List.length_map ..
theorem rwN_at {L : List EN} {es : Array (Int × Value)} (e : es.toList = rwN w L) {i : Nat} {x : EN} (h : L[i]? = some x) : es[i]? = some (hN w x, Value.ref x.1) := by
  have : es.toList[i]? = some (hN w x, Value.ref x.1) := by
    rw [e]
    show (L.map _)[i]? = _
    rw [List.getElem?_map, h]
    rfl
  rwa [Array.getElem?_toList] at this
/-- the set's object at a: its entries are those of L, its table finds them -/
structure SetN1 (w : World) (h : Heap) (a : Addr) (L : List EN) (es : Array (Int × Value)) (ep : Nat) (t : SetTable) : Prop where
  ob : ∃ o, h.get? a = some o ∧ o.ExactSet ∧ o.data = .set es ep t
  en : es.toList = rwN w L
  tb : TabOk t (L.map (hN w))
  nd : (L.map (·.2)).Nodup
  pl : t.plain = true
  ld : w.params.followText "set-order" = true ∨ t.led = true
  rm : L.length * 5 < t.mask * 3
  fw : L.length < 77
def TupL (h : Heap) (L : List EN) : Prop := ∀ e ∈ L, TupK h e.2 e.1
theorem fits_of {t : SetTable} {hs : List Int} (T : TabOk t hs) {n : Nat} (e : n = hs.length) (l : n ≤ t.mask) : t.fits n = true := by
  have := T.sz
  unfold SetTable.fits SetTable.fill
  rw [T.dm, Bool.and_eq_true, beq_iff_eq, decide_eq_true_eq]
  show t.place.size = n ∧ t.place.size + 0 ≤ t.mask
  omega
variable {a : Addr} {L : List EN} {es : Array (Int × Value)} {ep : Nat} {t : SetTable}
theorem SetN1.fits {h : Heap} (R : SetN1 w h a L es ep t) : t.fits es.size = true := by
  have := R.rm
  exact fits_of R.tb (by rw [rwN_len R.en, List.length_map]) (by rw [rwN_len R.en]; omega)
theorem odd_no {t : SetTable} (m : MaskOk t.mask) : ¬ t.gaveWay = true := by
  unfold SetTable.gaveWay
  rw [mask_odd m]
  decide
theorem look {k : NestedKey} {x : Addr} (R : SetN1 w s.heap a L es ep t) (TL : TupL s.heap L) (hx : TupK s.heap k x) (hu : A.units + 8 < cLine) {K : Nat} (hKf : K < 10 * SetTable.turns t.mask)
    (out : way t.mask (k.hash w) K ∉ t.place.toList) (ins : ∀ j, j < K → way t.mask (k.hash w) j ∈ t.place.toList) {Q : SetFound → Shared → Prop}
    (yes : k ∈ L.map (·.2) → Q (.there none) s) (no : k ∉ L.map (·.2) → Q (.free (way t.mask (k.hash w) K) false) s) :
    ∀ (f c : Nat) (st : Option SetTable.Probe), st.getD (t.probeStart (k.hash w)) = prAt t.mask (k.hash w) c → c ≤ K → K - c < f →
      (∀ (i : Nat) (e : EN), L[i]? = some e → e.2 = k → ∃ q, c ≤ q ∧ q < K ∧ t.place.toList[i]? = some (way t.mask (k.hash w) q)) →
      wpAny (model P w) A (setSearchFrom a (.ref x) (k.hash w) true f st) Q E s
  | 0, _, _, _, _, z, _ => absurd z (Nat.not_lt_zero _)
  | f + 1, c, st, est, hc, hf, left => by
    obtain ⟨o, ho, hex, hd⟩ := R.ob
    have fit := R.fits
    rw [setSearchFrom_succ]
    refine wpAny_bind (wpAny_setState_of ho hd fit ?_)
    dsimp only
    refine wp_if_neg (odd_no R.tb.mok) ?_
    try refine wpAny_bind (wpAny_pure ?_)
    have at_ : ∀ {i : Nat} {y : Int}, (L.map (hN w))[i]? = some y → ∃ e, L[i]? = some e ∧ hN w e = y := fun {i y} e => by
      rw [List.getElem?_map] at e
      obtain ⟨z, z1, z2⟩ := Option.map_eq_some_iff.mp e
      exact ⟨z, z1, z2⟩
    have hha : ∀ (i : Nat) (y : Int), (L.map (hN w))[i]? = some y → (fun i : Nat => (es[i]?.map (fun z : Int × Value => z.1)).getD 0) i = y := fun i y e => by
      obtain ⟨z, z1, z2⟩ := at_ e
      show (es[i]?.map (fun z : Int × Value => z.1)).getD 0 = y
      rw [rwN_at R.en z1, ← z2]
      rfl
    rw [est]
    rcases probe_tells R.tb hha hc hKf out ins with ⟨q, i, q1, q2, q3, q4, q5, q6⟩ | ⟨q1, q2⟩
    · rw [q6]
      dsimp only
      obtain ⟨e, ei, eh⟩ := at_ q4
      have em := List.mem_of_getElem? ei
      have rest : wpAny (model P w) A (searchRest a (.ref x) (k.hash w) true f es t (way t.mask (k.hash w) q) i (prAt t.mask (k.hash w) (q + 1))) Q E s := by
        unfold searchRest
        rw [rwN_at R.en ei]
        dsimp only
        refine wpAny_bind (wpAny_holding ((nestedKind P w).eqBool hu (TL e em).hk hx.hk ?_))
        refine wpAny_bind (wpAny_setState_of ho hd fit ?_)
        dsimp only
        by_cases same : e.2 = k
        · exact wp_if_pos (by simp [same]) (wpAny_pure (yes (List.mem_map.mpr ⟨e, em, same⟩)))
        · refine wp_if_neg (by simp [same]) ?_
          try refine wpAny_bind (wpAny_pure ?_)
          rw [sameMem]
          dsimp only
          have live : t.slot (way t.mask (k.hash w) q) = .live i := slot_live R.tb.ris q3
          simp only [if_true, live, rwN_at R.en ei]
          refine wpAny_bind (wpAny_isSame_ref_self (wpAny_bind (wpAny_pure ?_)))
          simp only [if_true]
          refine wp_if_neg (by simp [same]) ?_
          refine look R TL hx hu hKf out ins yes no f (q + 1) _ rfl (by omega) (by omega) fun i0 e0 h0 h1 => ?_
          obtain ⟨p, p1, p2, p3⟩ := left i0 e0 h0 h1
          refine ⟨p, Classical.byContradiction fun low => ?_, p2, p3⟩
          rcases Nat.lt_or_ge p q with z | z
          · exact q5 p i0 p1 z p3 (by rw [List.getElem?_map, h0, ← h1]; rfl)
          · obtain rfl : p = q := by omega
            have l2 := slot_live R.tb.ris p3
            rw [live] at l2
            injection l2 with l2
            rw [← l2, ei] at h0
            cases h0
            exact same h1
      by_cases hl : t.led = true
      · refine wp_if_neg (by simp [hl]) ?_
        try refine wpAny_bind (wpAny_pure ?_)
        exact rest
      · refine wp_if_pos (by simp [hl]) ?_
        refine wpAny_bind (unseen hx _ (fun y hy => ?_) ?_)
        · obtain ⟨u, hu1, rfl⟩ := List.mem_map.mp hy
          have hu2 : u ∈ es.toList := by
            have : u ∈ es ∧ u.1 = k.hash w := by simpa using hu1
            simpa using this.1
          rw [R.en] at hu2
          obtain ⟨e2, m2, rfl⟩ := List.mem_map.mp hu2
          exact ⟨e2.2, e2.1, rfl, TL e2 m2⟩
        · refine wp_if_neg (by decide) ?_
          try refine wpAny_bind (wpAny_pure ?_)
          exact rest
    · rw [q2]
      dsimp only
      refine wpAny_pure (no fun hm => ?_)
      obtain ⟨e0, m0, h1⟩ := List.mem_map.mp hm
      obtain ⟨i0, l0, g0⟩ := List.getElem_of_mem m0
      have h0 : L[i0]? = some e0 := by rw [List.getElem?_eq_getElem l0, g0]
      obtain ⟨p, p1, p2, p3⟩ := left i0 e0 h0 h1
      exact q1 p i0 p1 p2 p3 (by rw [List.getElem?_map, h0, ← h1]; rfl)
theorem look_at {k : NestedKey} {x : Addr} (R : SetN1 w s.heap a L es ep t) (TL : TupL s.heap L) (hx : TupK s.heap k x) (hu : A.units + 8 < cLine) {Q : SetFound → Shared → Prop} (yes : k ∈ L.map (·.2) → Q (.there none) s)
    (no : ∀ K, k ∉ L.map (·.2) → way t.mask (k.hash w) K ∉ t.place.toList → (∀ j, j < K → way t.mask (k.hash w) j ∈ t.place.toList) → Q (.free (way t.mask (k.hash w) K) false) s) :
    wpAny (model P w) A (setSearch a (.ref x) (k.hash w) true) Q E s := by
  obtain ⟨K, hKf, out, ins⟩ := R.tb.first (by have := R.rm; rw [List.length_map]; omega) (k.hash w)
  have few : 10 * SetTable.turns t.mask ≤ 1420 := by
    unfold SetTable.turns
    rcases R.tb.mok with e | e | e <;> omega
  unfold setSearch
  refine look R TL hx hu hKf out ins yes (fun n => no K n out ins) 100000 0 none rfl (Nat.zero_le _) (by omega) fun i e ei ek => ?_
  have hi : (L.map (hN w))[i]? = some (k.hash w) := by rw [List.getElem?_map, ei, ← ek]; rfl
  have li : i < t.place.toList.length := by
    have l1 := (List.getElem?_eq_some_iff.mp hi).1
    have := R.tb.sz
    rw [Array.length_toList]
    omega
  obtain ⟨q, q1, q2⟩ := R.tb.before out hi (List.getElem?_eq_getElem li)
  exact ⟨q, Nat.zero_le _, q1, by rw [q2]; exact List.getElem?_eq_getElem li⟩
end
end Fw

set_option maxRecDepth 100000
set_option maxHeartbeats 4000000
/-! sets of tuples within tuples: putting in, set(xs), sorted(set) -/
namespace Fw
open PySem PySem.Spec PyProof.Rows L2
theorem fm_congr {α β : Type} {f g : α → Option β} : ∀ {l : List α}, (∀ x ∈ l, f x = g x) → l.filterMap f = l.filterMap g
  | [], _ => rfl
  | x :: l, h => by rw [List.filterMap_cons, List.filterMap_cons, h x List.mem_cons_self, fm_congr fun y hy => h y (List.mem_cons_of_mem _ hy)]
theorem range_items {α : Type} (L : List α) : (List.range L.length).filterMap (fun i => L[i]?) = L := by
  have key : ∀ n, n ≤ L.length → (List.range n).filterMap (fun i => L[i]?) = L.take n := fun n => by
    induction n with
    | zero => intro _; rfl
    | succ n ih =>
      intro l
      rw [List.range_succ, List.filterMap_append, ih (by omega), List.take_add_one]
      congr 1
  rw [key _ (Nat.le_refl _), List.take_length]
theorem lay_rows {w : World} {L : List EN} {es : Array (Int × Value)} (e : es.toList = rwN w L) {ord : Array Nat} (p : ord.toList.Perm (List.range L.length)) :
    ∃ L2, (ord.filterMap (es[·]?)).toList = rwN w L2 ∧ L2.Perm L ∧ L2.map (hN w) = ord.toList.map fun i => (es.map (·.1)).getD i 0 := by
  have row : ∀ i : Nat, es[i]? = (L[i]?).map fun x => (hN w x, Value.ref x.1) := fun i => by
    have : es.toList[i]? = (L[i]?).map fun x => (hN w x, Value.ref x.1) := by
      rw [e]
      exact List.getElem?_map ..
    rwa [Array.getElem?_toList] at this
  refine ⟨ord.toList.filterMap fun i => L[i]?, ?_, ?_, ?_⟩
  · rw [Array.toList_filterMap]
    unfold rwN
    rw [List.map_filterMap]
    exact fm_congr fun i _ => row i
  · have := p.filterMap fun i => L[i]?
    rwa [range_items] at this
  · rw [List.map_filterMap, ← List.filterMap_eq_map]
    refine fm_congr fun i hi => ?_
    have il : i < L.length := List.mem_range.mp (p.mem_iff.mp hi)
    have s : (es.map (·.1))[i]? = some (hN w L[i]) := by
      rw [Array.getElem?_map, row, List.getElem?_eq_getElem il]
      rfl
    rw [List.getElem?_eq_getElem il]
    show some (hN w L[i]) = some ((es.map (·.1)).getD i 0)
    congr 1
    simp [Array.getD_eq_getD_getElem?, s]
section
variable {P : Program} {w : World} {A : Around} {E : Value → Shared → Prop} {s : Shared} {a : Addr} {L : List EN} {es : Array (Int × Value)} {ep : Nat} {t : SetTable}
/-- a tuple is not the set, so it stays -/
theorem TupK.stay {h h' : Heap} {k : NestedKey} {b : Addr} {o : Obj} (x : TupK h k b) (ho : h.get? a = some o) (hd : o.data = .set es ep t) (sb : Heap.SameBut a h h') : TupK h' k b :=
  x.mv fun c u vs n hc hv => (sb.2 c fun e => by
    subst e
    rw [ho] at hc
    cases hc
    rw [hd] at hv
    cases hv).trans hc
/-- the table laid anew, with more room -/
theorem wider {o : Obj} (ho : s.heap.get? a = some o) (hex : o.ExactSet) (hd : o.data = .set es ep t) (en : es.toList = rwN w L) (tb : TabOk t (L.map (hN w))) (lt : L.length ≤ t.mask) (nd : (L.map (·.2)).Nodup) (pl : t.plain = true)
    (ld : w.params.followText "set-order" = true ∨ t.led = true) (fw : L.length < 77) {wanted M : Nat} (hw : SetTable.sizeAbove wanted - 1 = M) (hM : MaskOk M) (h128 : SetTable.sizeAbove wanted ≤ 128) (rm : L.length * 5 < M * 3) {Q : Unit → Shared → Prop}
    (q : ∀ h' L' es' ep' t', Heap.SameBut a s.heap h' → SetN1 w h' a L' es' ep' t' → L'.Perm L → Q () { s with heap := h' }) : wpAny (model P w) A (setRelay a wanted) Q E s := by
  have sz := rwN_len en
  obtain ⟨t', ord, e1, p1, T', m1, l1, pl1, d1⟩ := relaid_ok t (hs := es.map (·.1)) (wanted := wanted) hw hM (by rw [Array.size_map, sz]; omega)
  rw [Array.size_map, sz] at p1
  obtain ⟨L2, r1, r2, r3⟩ := lay_rows en p1
  rw [← r3] at T'
  have sz2 : (ord.filterMap (es[·]?)).size = es.size := by rw [rwN_len r1, r2.length_eq, sz]
  rw [setRelay_eq]
  refine wpAny_bind (wpAny_setState_of ho hd (fits_of tb (by rw [sz, List.length_map]) (by rw [sz]; exact lt)) ?_)
  dsimp only
  refine wp_if_neg (by rw [sizeLine_eq]; omega) ?_
  try refine wpAny_bind (wpAny_pure ?_)
  rw [e1]
  dsimp only
  refine wpAny_bind (wp_if_neg (by rw [sz2]; simp) ?_)
  try refine wpAny_bind (wpAny_pure ?_)
  refine wpAny_pure ?_
  dsimp only
  refine wpAny_storeSet_of ho hd (q _ L2 _ (ep + 1) t' (Heap.SameBut.update ..) ⟨⟨_, store_at ho hd, ⟨hex.1, hex.2.1, hex.2.2⟩, rfl⟩, r1, T', (r2.map (·.2)).nodup_iff.mpr nd, by rw [pl1]; exact pl, by rw [l1]; exact ld, by rw [r2.length_eq, m1]; exact rm, by rw [r2.length_eq]; exact fw⟩ r2) (by rw [sz2, sz, sizeLine_eq]; omega)
/-- a tuple is put in -/
theorem putIn {k : NestedKey} {x : Addr} (R : SetN1 w s.heap a L es ep t) (TL : TupL s.heap L) (hx : TupK s.heap k x) (hu : A.units + 8 < cLine) (few : L.length + 1 < 77) {Q : Bool → Shared → Prop}
    (q : ∀ b h' L' es' ep' t', Heap.SameBut a s.heap h' → SetN1 w h' a L' es' ep' t' → (k ∈ L.map (·.2) → L' = L) → (k ∉ L.map (·.2) → L'.Perm ((x, k) :: L)) → Q b { s with heap := h' }) :
    wpAny (model P w) A (setAddHashed a (.ref x) (k.hash w)) Q E s := by
  obtain ⟨o, ho, hex, hd⟩ := R.ob
  have sz := rwN_len R.en
  have rm := R.rm
  unfold setAddHashed
  refine wpAny_holding ?_
  rw [show (100000 : Nat) = 99999 + 1 from rfl, setAddHashedIn_succ]
  refine wpAny_bind (wpAny_setState_of ho hd R.fits ?_)
  dsimp only
  refine wp_if_neg (by simp [byScan, Value.scannable]) ?_
  try refine wpAny_bind (wpAny_pure ?_)
  refine wpAny_bind (look_at R TL hx hu (fun m => wpAny_pure (q false s.heap L es ep t (Heap.SameBut.refl a s.heap) R (fun _ => rfl) fun z => absurd m z)) fun K nm out ins => ?_)
  dsimp only
  refine wpAny_bind (wpAny_setState_of ho hd R.fits ?_)
  dsimp only
  obtain ⟨c1, c2, T1, c4, c5, c6, c7, c8, c9⟩ := R.tb.put out ins
  have p1 : (t.put (way t.mask (k.hash w) K)).1.plain = true := by rw [c6]; exact R.pl
  generalize t.put (way t.mask (k.hash w) K) = tp at c1 T1 c4 c5 c6 c7 c8 c9 p1 ⊢
  obtain ⟨t1, p⟩ := tp
  dsimp only at c1 T1 c4 c5 c6 c7 c8 c9 p1 ⊢
  subst c1
  generalize SetTable.below t.place (way t.mask (k.hash w) K) = p at c2 T1 ⊢
  first
    | refine wpAny_bind (wp_if_pos p1 (byVal 8 _ _ hx.is hx.num hx.low _ _ _ ?_))
    | refine wp_if_pos p1 (wpAny_bind (byVal 8 _ _ hx.is hx.num hx.low _ _ _ ?_))
  simp only [if_true]
  have pm : (L.take p ++ (x, k) :: L.drop p).Perm ((x, k) :: L) := by
    have := List.perm_middle (a := (x, k)) (l₁ := L.take p) (l₂ := L.drop p)
    rwa [List.take_append_drop] at this
  have en1 : (SetTable.insertAt es p (k.hash w, Value.ref x)).toList = rwN w (L.take p ++ (x, k) :: L.drop p) := by
    rw [SetTable.toList_insertAt, R.en]
    unfold rwN
    rw [List.map_append, List.map_cons, List.map_take, List.map_drop]
  have hs1 : (L.map (hN w)).take p ++ k.hash w :: (L.map (hN w)).drop p = (L.take p ++ (x, k) :: L.drop p).map (hN w) := by rw [List.map_append, List.map_cons, List.map_take, List.map_drop]
  rw [hs1] at T1
  generalize SetTable.insertAt es p (k.hash w, Value.ref x) = es1 at en1 ⊢
  generalize L.take p ++ (x, k) :: L.drop p = L1 at pm en1 T1
  have len1 : L1.length = L.length + 1 := pm.length_eq
  have sz1 := rwN_len en1
  have nd1 : (L1.map (·.2)).Nodup := (pm.map (·.2)).nodup_iff.mpr (List.nodup_cons.mpr ⟨nm, R.nd⟩)
  refine wpAny_bind (wpAny_storeSet_of ho hd ?_ (by rw [sz1, len1, sizeLine_eq]; omega))
  have sb : Heap.SameBut a s.heap (s.heap.update a (Obj.putSet es1 t1)) := Heap.SameBut.update ..
  have ho1 := store_at (es' := es1) (t' := t1) ho hd
  generalize s.heap.update a (Obj.putSet es1 t1) = h1 at sb ho1 ⊢
  have ld1 : w.params.followText "set-order" = true ∨ t1.led = true := by rw [c5]; exact R.ld
  have full : t1.tooFull = true ↔ (L.length + 1) * 5 ≥ t1.mask * 3 := by
    unfold SetTable.tooFull
    rw [decide_eq_true_eq, c9, List.length_map]
  by_cases hf : t1.tooFull = true
  · have big := full.mp hf
    first
      | (refine wpAny_bind ?_; refine wp_if_pos (by simp [hf]) ?_)
      | (refine wp_if_pos (by simp [hf]) ?_; refine wpAny_bind ?_)
    have two : (t.mask = 7 ∧ L.length = 4) ∨ (t.mask = 31 ∧ L.length = 18) := by
      rw [c4] at big
      rcases R.tb.mok with e | e | e <;> rw [e] at big rm
      · exact .inl ⟨e, by omega⟩
      · exact .inr ⟨e, by omega⟩
      · omega
    rw [sz]
    have lay : ∀ M, SetTable.sizeAbove (SetTable.grown (L.length + 1)) - 1 = M → MaskOk M → SetTable.sizeAbove (SetTable.grown (L.length + 1)) ≤ 128 → (L.length + 1) * 5 < M * 3 →
        wpAny (model P w) A (setRelay a (SetTable.grown (L.length + 1))) (fun _ s' => wpAny (model P w) A (pure true) Q E s') E { s with heap := h1 } := fun M m1 m2 m3 m4 =>
      wider (s := { s with heap := h1 }) ho1 ⟨hex.1, hex.2.1, hex.2.2⟩ rfl en1 T1 (by rw [len1, c4]; rcases two with ⟨e, e2⟩ | ⟨e, e2⟩ <;> omega) nd1 p1 ld1 (by rw [len1]; exact few) m1 m2 m3 (by rw [len1]; exact m4)
        fun h2 L2 es2 ep2 t2 sb2 R2 pm2 => wpAny_pure (q true h2 L2 es2 ep2 t2 (sb.trans sb2) R2 (fun z => absurd z nm) fun _ => pm2.trans pm)
    rcases two with ⟨_, e2⟩ | ⟨_, e2⟩
    · exact lay 31 (by rw [e2, size_20]) (.inr (.inl rfl)) (by rw [e2, size_20]; decide) (by omega)
    · exact lay 127 (by rw [e2, size_76]) (.inr (.inr rfl)) (by rw [e2, size_76]; decide) (by omega)
  · first
      | refine wp_if_neg (by simp [hf]) ?_
      | (refine wpAny_bind ?_; refine wp_if_neg (by simp [hf]) ?_; refine wpAny_pure ?_)
    refine wpAny_pure (q true h1 L1 es1 (ep + 1) t1 sb ⟨⟨_, ho1, ⟨hex.1, hex.2.1, hex.2.2⟩, rfl⟩, en1, T1, nd1, p1, ld1, ?_, by rw [len1]; exact few⟩ (fun z => absurd z nm) fun _ => pm)
    have : ¬ ((L.length + 1) * 5 ≥ t1.mask * 3) := fun c => hf (full.mpr c)
    rw [len1]
    omega
/-! ### set(xs) -/
/-- what the set has of the first i items -/
structure HasGot (ks : List EN) (i : Nat) (L : List EN) : Prop where
  sub : ∀ e ∈ L, e ∈ ks.take i
  all : ∀ e ∈ ks.take i, e.2 ∈ L.map (·.2)
  len : L.length ≤ i
theorem HasGot.next {ks L L' : List EN} {i : Nat} {x : EN} (g : HasGot ks i L) (h : ks[i]? = some x) (c1 : x.2 ∈ L.map (·.2) → L' = L) (c2 : x.2 ∉ L.map (·.2) → L'.Perm ((x.1, x.2) :: L)) : HasGot ks (i + 1) L' := by
  have nx : ks.take (i + 1) = ks.take i ++ [x] := by rw [List.take_add_one, h]; rfl
  by_cases c : x.2 ∈ L.map (·.2)
  · rw [c1 c]
    refine ⟨fun e he => by rw [nx]; exact List.mem_append_left _ (g.sub e he), fun e he => ?_, Nat.le_succ_of_le g.len⟩
    rw [nx] at he
    rcases List.mem_append.mp he with z | z
    · exact g.all e z
    · rw [List.mem_singleton.mp z]; exact c
  · have pm := c2 c
    refine ⟨fun e he => ?_, fun e he => ?_, by rw [pm.length_eq, List.length_cons]; exact Nat.succ_le_succ g.len⟩
    · rw [nx]
      rcases List.mem_cons.mp (pm.mem_iff.mp he) with z | z
      · rw [z]; exact List.mem_append_right _ (List.mem_singleton.mpr rfl)
      · exact List.mem_append_left _ (g.sub e z)
    · rw [(pm.map (·.2)).mem_iff, List.map_cons]
      rw [nx] at he
      rcases List.mem_append.mp he with z | z
      · exact List.mem_cons_of_mem _ (g.all e z)
      · rw [List.mem_singleton.mp z]; exact List.mem_cons_self
theorem SetN1.keep {h h' : Heap} (R : SetN1 w h a L es ep t) (ha : ∀ o, h.get? a = some o → h'.get? a = some o) : SetN1 w h' a L es ep t := by
  obtain ⟨o, ho, r⟩ := R.ob
  exact ⟨⟨o, ha o ho, r⟩, R.en, R.tb, R.nd, R.pl, R.ld, R.rm, R.fw⟩
theorem setN1_new {h : Heap} {b : Addr} (ho : h.get? b = some (freshSet w)) : SetN1 w h b [] #[] 0 (.fresh 0 0 (!w.params.followText "set-order")) := by
  have T : TabOk (.fresh 0 0 (!w.params.followText "set-order")) [] := ⟨List.Pairwise.nil, rfl, rfl, .inl rfl, (fun x hx => by cases hx), fun i y j hi => by simp at hi⟩
  refine ⟨⟨_, ho, ⟨rfl, rfl, rfl⟩, rfl⟩, rfl, T, List.nodup_nil, rfl, ?_, (by show 0 * 5 < 7 * 3; decide), by show 0 < 77; decide⟩
  show _ ∨ (!w.params.followText "set-order") = true
  cases w.params.followText "set-order" <;> simp
/-- the loop of set.update -/
theorem fillN {I : Addr} {fp wr : List Addr} {G : Array GenState → Array GenState → Prop} {n : Nat} {Pv : Nat → Value → Prop} {St : Nat → Shared → Prop} {R : Result → Shared → Prop}
    (W : WalksS P w A.in1 I fp wr G n Pv St) (S : Addr) (nf : S ∉ fp) (ks : List EN) (hn : n = ks.length) (few : ks.length < 77) (val : ∀ i v, Pv i v → ∃ e, ks[i]? = some e ∧ v = .ref e.1)
    (h0 : Heap) (tk : TupL h0 ks) (S0 : h0.get? S = none) (w0 : ∀ b ∈ wr, h0.get? b = none) (hu : A.units + 1 + 8 < cLine) :
    ∀ (m i : Nat) (s : Shared), n - i = m → i ≤ n → St i s → (∀ b o, h0.get? b = some o → s.heap.get? b = some o) → (∃ L es ep t, SetN1 w s.heap S L es ep t ∧ HasGot ks i L) →
      (∀ s' L es ep t, Moved (S :: wr) G s s' → SetN1 w s'.heap S L es ep t → HasGot ks n L → (∀ b o, h0.get? b = some o → s'.heap.get? b = some o) → R (.ok (.ret .none)) s') →
      codeAny (model P w) A (.builtin "set.update.loop" ⟨[.ref S, .ref I], []⟩) R s := by
  have Sw : S ∉ wr := fun h => nf (W.sub _ h)
  have up : ∀ b ∈ wr, b ∈ S :: wr := fun b hb => List.mem_cons_of_mem _ hb
  have on : ∀ {u v : Shared}, Moved wr G u v → (∀ b o, h0.get? b = some o → u.heap.get? b = some o) → ∀ b o, h0.get? b = some o → v.heap.get? b = some o := fun mv k b o e =>
    mv.heap b o (fun hb => by rw [w0 b hb] at e; cases e) (k b o e)
  have tups : ∀ {h : Heap}, (∀ b o, h0.get? b = some o → h.get? b = some o) → ∀ {e : EN}, e ∈ ks → TupK h e.2 e.1 := fun {h} k {e} he => (tk e he).mv fun c o vs n' hc _ => k c o hc
  intro m
  induction m with
  | zero =>
    intro i s hm hi hst kp ⟨L, es, ep, t, hS, g⟩ hR
    obtain rfl : i = n := by omega
    refine codeAny_builtin F.entry_set_update_loop ?_
    rw [Around.under_plainId F.plain_set_update_loop _]
    show wpAny _ A.in1 (pyNext (.ref I) >>= _) _ _ s
    refine wpAny_bind (W.done s _ _ hst fun s' mv => ?_)
    show wpAny _ A.in1 (ret Value.none) _ _ s'
    exact wpAny_pure (hR s' L es ep t (mv.mono up) (hS.keep fun o e => mv.heap S o Sw e) g (on mv kp))
  | succ m ih =>
    intro i s hm hi hst kp ⟨L, es, ep, t, hS, g⟩ hR
    have lt : i < n := by omega
    refine codeAny_builtin F.entry_set_update_loop ?_
    rw [Around.under_plainId F.plain_set_update_loop _]
    show wpAny _ A.in1 (pyNext (.ref I) >>= _) _ _ s
    refine wpAny_bind (W.item i s _ _ lt hst fun v s' hP hst' mv => ?_)
    obtain ⟨e, he, rfl⟩ := val i v hP
    have kp' := on mv kp
    have TL' : TupL s'.heap L := fun x hx => tups kp' (List.mem_of_mem_take (g.sub x hx))
    have hS' : SetN1 w s'.heap S L es ep t := hS.keep fun o z => mv.heap S o Sw z
    have hx : TupK s'.heap e.2 e.1 := tups kp' (List.mem_of_getElem? he)
    show wpAny _ A.in1 (holding [Value.ref e.1] (setAdd S (.ref e.1)) >>= _) _ _ s'
    refine wpAny_bind (wpAny_holding ?_)
    unfold setAdd
    refine wpAny_holding (wpAny_bind ((nestedKind P w).pyHash (show A.in1.units + 8 < cLine from hu) hx.hk ?_))
    refine putIn (s := { s' with toks := s'.toks + e.2.draws }) hS' TL' hx (show A.in1.units + 8 < cLine from hu) (by have := g.len; omega) fun b h' L' es' ep' t' sb hS2 c1 c2 => ?_
    have kp2 : ∀ b o, h0.get? b = some o → h'.get? b = some o := fun b o z => (sb.2 b fun q => by rw [q, S0] at z; cases z).trans (kp' b o z)
    refine wpAny_pure ⟨plainId_quiet F.plain_set_update_loop _, ih (i + 1) _ (by omega) lt (W.frame _ s' _ _ hst' (Nat.le_add_right _ _) fun b hb o z => ?_) kp2 ⟨L', es', ep', t', hS2, g.next he c1 c2⟩ fun s2 L2 es2 ep2 t2 mv2 hS3 g3 kp3 => ?_⟩
    · rw [sb.2 b fun q : b = S => nf (by rw [← q]; exact hb)]; exact z
    · refine hR s2 L2 es2 ep2 t2 (Moved.trans W.gtrans ((mv.mono up).then_heap (Nat.le_add_right _ _) fun b o hb z => ?_) mv2) hS3 g3 kp3
      rw [sb.2 b fun q : b = S => hb (by rw [q]; exact List.mem_cons_self)]; exact z
/-- set(xs) -/
theorem setOfN {l : Addr} {its : Array Value} (ks : List EN) {Q : Value → Shared → Prop} (quiet : A.handled = none) (lst : s.heap.IsList l its) (iv : its.toList = ks.map fun e => Value.ref e.1) (tk : TupL s.heap ks) (few : ks.length < 77) (hu : A.units + 16 < cLine)
    (next : ∀ (h' : Heap) (tk : Nat) L es ep t, SetN1 w h' s.heap.objs.size L es ep t → HasGot ks ks.length L → (∀ b o, s.heap.get? b = some o → h'.get? b = some o) → Q (.ref s.heap.objs.size) { s with heap := h', toks := tk }) :
    wpAny (model P w) A (call (.type "set") [.ref l]) Q E s := by
  have many : its.size = ks.length := by rw [← Array.length_toList, iv, List.length_map]
  have f1 := F.called_set.mro
  obtain ⟨c, tl, hmro⟩ := f1
  have f2 := F.called_set.made
  have f3 := F.called_set.sub
  refine wpAny_call (codeAny_of_tree ?_)
  show wpAny _ _ (callAny (.type "set") _) _ _ _
  refine wpAny_pure ⟨Code.quiet_builtin _ (by decide +kernel), codeAny_builtin F.entry_type_call ?_⟩
  rw [Around.under_plain (weight_type_call_type "set" [.ref l] []) rfl]
  have f4 := F.called_set.notType
  have f5 := F.called_set.canCreate
  have f6 := F.typeCall_set_1 (.ref l)
  repeat (any_goals (first | assumption | wp_step))
  generalize hN : s.heap.objs.size = N
  refine codeAny_mono (code_set_led1 (.ref l) (E := E)
    (Q₁ := fun v t => v = .ref N ∧ t = { s with heap := s.heap.push (freshSet w) }) ⟨by rw [hN], rfl⟩) fun r s₁ hr => ?_
  rcases r with e | fl
  · exact hr
  · cases fl
    case ret v =>
      obtain ⟨rfl, rfl⟩ := hr
      have got : (s.heap.push (freshSet w)).get? N = some (freshSet w) := by
        rw [← hN]
        exact Heap.get?_push_size _ rfl
      have ty : Shared.TypeIs { s with heap := s.heap.push (freshSet w) } (.ref N) "set" := ⟨_, got, rfl⟩
      have g1 := F.called_set.init.lookup
      have g2 := F.called_set.init.bind (.ref N)
      repeat (any_goals (first | assumption | wp_step))
      refine codeAny_mono (codeAny_call_builtin (R := wants (fun v t => v = .none ∧ ∃ h' tk L es ep t', t = { s with heap := h', toks := tk } ∧
          SetN1 w h' N L es ep t' ∧ HasGot ks ks.length L ∧ (∀ b o, s.heap.get? b = some o → h'.get? b = some o)) E)
          F.called_set.init.plain F.entry_set_init (check_set_init_1 ty ?_)) fun r₂ s₂ hr₂ => ?_
      · obtain ⟨ol, hol, hcl, nl, hdl⟩ := lst
        obtain ⟨ocls, odict, odata, oslots⟩ := ol
        simp only at hcl hdl
        subst hcl
        subst hdl
        have hol' : (s.heap.push (freshSet w)).get? l = some { cls := .type "list", dict := odict, data := .seq its nl, slots := oslots } :=
          Heap.get?_push_of_some _ hol
        have k1 := F.sub_list_set
        have k2 := F.sub_list_frozenset
        have k3 : (Value.type "list" == Value.type "dict") = false := by decide
        have lst1 : (s.heap.push (freshSet w)).IsList l its := ⟨_, hol', rfl, nl, rfl⟩
        unfold Builtin.«set.__init__» noKeywords Builtin.Frozenset.updateFrom
        generalize hPI : pyIter = PI
        wp_walk
        subst hPI
        refine wpAny_pyIter_list lst1 (wpAny_bind (wpAny_runValue ?_))
        have lN : l < N := by
          rw [← hN]
          exact Heap.lt_size hol
        have quiet3 : A.in1.in1.in1.handled = none := by simp [quiet]
        have size1 : (s.heap.push (freshSet w)).objs.size = N + 1 := by rw [Heap.size_push, hN]
        have l1 : l ≠ (s.heap.push (freshSet w)).objs.size := by
          rw [size1]
          exact Nat.ne_of_lt (Nat.lt_succ_of_lt lN)
        have n1 : N ∉ [(s.heap.push (freshSet w)).objs.size, l] := by
          rw [size1]
          simp only [List.mem_cons, List.not_mem_nil, or_false, not_or]
          exact ⟨Nat.ne_of_lt (Nat.lt_succ_self _), Nat.ne_of_gt lN⟩
        have no : ∀ b, N ≤ b → s.heap.get? b = none := fun b hb => by
          cases q : s.heap.get? b with
          | none => rfl
          | some u => exact absurd (Heap.lt_size q) (by rw [hN]; exact Nat.not_lt.mpr hb)
        refine fillN ((Walks.list quiet3 _ l l1 its).toS) N n1 ks many few (fun i v hv => ?_) s.heap tk (no N (Nat.le_refl _)) (fun b hb => no b ?_) (by simp [Around.in1]; omega) (its.size - 0) 0 _ (by omega) (Nat.zero_le _)
          ⟨⟨_, Heap.get?_push_size _ rfl, rfl, rfl⟩, lst1.push _⟩ (fun b o e => Heap.get?_push_of_some _ (Heap.get?_push_of_some _ e)) ⟨[], #[], 0, _, setN1_new (Heap.get?_push_of_some _ got), ⟨(fun e he => by cases he), (fun e he => by simp at he), Nat.le_refl _⟩⟩ fun s' L es ep t mv hS' g' kp => ?_
        · have : its.toList[i]? = some v := by rw [Array.getElem?_toList]; exact hv
          rw [iv, List.getElem?_map] at this
          obtain ⟨e, e1, e2⟩ := Option.map_eq_some_iff.mp this
          exact ⟨e, e1, e2.symm⟩
        · rw [List.mem_singleton.mp hb, size1]
          exact Nat.le_succ _
        · obtain ⟨h', g2, d', tk', os'⟩ := s'
          obtain rfl : g2 = s.gens := mv.gens
          obtain rfl : d' = s.drawn := mv.drawn
          obtain rfl : os' = s.os := mv.os
          show wpAny _ _ _ _ _ _
          refine wpAny_pure ?_
          show wpAny _ _ (ret Value.none) _ _ _
          rw [many] at g'
          exact wpAny_pure ⟨rfl, h', tk', L, es, ep, t, rfl, hS', g', kp⟩
      · rcases r₂ with e | fl₂
        · exact hr₂
        · cases fl₂
          case ret r =>
            obtain ⟨rfl, h', tk, L, es, ep, t, rfl, hS', g', kp⟩ := hr₂
            repeat (any_goals (first | assumption | wp_step))
            subst hN
            exact next _ _ _ _ _ _ hS' g' kp
          all_goals exact hr₂.elim
    all_goals exact hr.elim
end
end Fw

set_option maxRecDepth 100000
set_option maxHeartbeats 4000000
/-! sorted(set) of tuples within tuples -/
namespace Fw
open PySem PySem.Spec PyProof.Rows L2
theorem perm_map_ex {α β : Type} {f : α → β} {l m : List β} (p : l.Perm m) : ∀ L : List α, m = L.map f → ∃ L' : List α, L'.Perm L ∧ l = L'.map f := by
  induction p with
  | nil => intro L e; exact ⟨[], by rw [List.map_eq_nil_iff.mp e.symm], rfl⟩
  | @cons x l1 l2 _ ih =>
    intro L e
    cases L with
    | nil => cases e
    | cons y L =>
      rw [List.map_cons] at e
      obtain ⟨e1, e2⟩ := List.cons.inj e
      obtain ⟨L', p', e'⟩ := ih L e2
      exact ⟨y :: L', p'.cons y, by rw [List.map_cons, e1, e']⟩
  | swap x y l =>
    intro L e
    match L, e with
    | [], e => cases e
    | [_], e => simp at e
    | a :: b :: L, e =>
      simp only [List.map_cons, List.cons.injEq] at e
      exact ⟨b :: a :: L, List.Perm.swap .., by simp only [List.map_cons]; rw [e.1, e.2.1, e.2.2]⟩
  | trans _ _ ih1 ih2 =>
    intro L e
    obtain ⟨L2, p2, e2⟩ := ih2 L e
    obtain ⟨L1, p1, e1⟩ := ih1 L2 e2
    exact ⟨L1, p1.trans p2, e1⟩
section
variable {P : Program} {w : World} {A : Around} {E : Value → Shared → Prop} {s : Shared} {a : Addr} {L : List EN} {es : Array (Int × Value)} {ep : Nat} {t : SetTable}
theorem sortedOf (Ord : List Value → Prop) (R : SetN1 w s.heap a L es ep t) (quiet : A.handled = none)
    (srt : ∀ (s1 : Shared) (b : Addr) (vs : List Value) (Q : Value → Shared → Prop), s1.heap.get? b = some (seqObj "list" vs.toArray 0) → (∀ c o, s.heap.get? c = some o → c ≠ b ∧ s1.heap.get? c = some o) → vs.Perm (L.map fun e => Value.ref e.1) →
      (∀ out : List Value, out.Perm vs → Ord out → Q .none { s1 with heap := sortedHeap s1.heap b vs out.toArray }) → wpAny (model P w) A.in1 (call (.builtin "list.sort") [.ref b]) Q E s1)
    {Q : Value → Shared → Prop} (q : ∀ (s' : Shared) (p c : Nat) (L' : List EN), (∀ b o, s.heap.get? b = some o → s'.heap.get? b = some o) → s'.gens = s.gens → s'.os = s.os → s.heap.objs.size ≤ p →
      s'.heap.get? p = some (seqObj "list" (L'.map fun e => Value.ref e.1).toArray c) → L'.Perm L → Ord (L'.map fun e => Value.ref e.1) → Q (.ref p) s') :
    wpAny (model P w) A (call (.builtin "sorted") [.ref a]) Q E s := by
  obtain ⟨o, ho, hex, hd⟩ := R.ob
  have sz := rwN_len R.en
  have fw := R.fw
  refine Calls.call_function_entry kind_sorted plain_sorted entry_sorted (args_sorted1 _) ?_
  unfold Builtin.«sorted»
  refine wpAny_bind (m := checkCount "sorted" 1 1 _) (wpAny_pure ?_)
  refine wpAny_bind (collect_set (A := A.in1) quiet ⟨o, ho, hex.1, hd⟩ R.fits (by rw [sz]; unfold scanBound; omega) R.tb.ris R.ld fun s1 vs k1 z1 g1 o1 pm => ?_)
  have pm' : vs.Perm (L.map fun e => Value.ref e.1) := by
    have : es.toList.map (·.2) = L.map fun e => Value.ref e.1 := by
      rw [R.en]
      unfold rwN
      rw [List.map_map]
      rfl
    rwa [this] at pm
  have vl : vs.length < 77 := by rw [pm'.length_eq, List.length_map]; exact fw
  refine wpAny_bind (wpAny_newList ?_ (by rw [sizeLine_eq]; omega))
  have hb : (s1.heap.push (seqObj "list" vs.toArray 0)).get? s1.heap.objs.size = some (seqObj "list" vs.toArray 0) := Heap.get?_push_size _ rfl
  refine wpAny_bind (wpAny_holding (srt { s1 with heap := s1.heap.push (seqObj "list" vs.toArray 0) } _ vs _ hb (fun c u e => ⟨Nat.ne_of_lt (Heap.lt_size (k1 c u e)), Heap.get?_push_of_some _ (k1 c u e)⟩) pm' fun out po oo => ?_))
  obtain ⟨c, hc⟩ := sortedHeap_at (vs := vs) (out := out.toArray) hb
  obtain ⟨L', pL, eL⟩ := perm_map_ex (po.trans pm') L rfl
  subst eL
  refine wpAny_pure ⟨_, rfl, q _ s1.heap.objs.size c L' (fun b u e => ?_) g1 o1 z1 hc pL oo⟩
  have l := Heap.lt_size (k1 b u e)
  show (sortedHeap (s1.heap.push (seqObj "list" vs.toArray 0)) s1.heap.objs.size vs _).get? b = some u
  rw [sortedHeap_old (Nat.ne_of_lt l) (by rw [size_push']; exact Nat.lt_succ_of_lt l)]
  exact Heap.get?_push_of_some _ (k1 b u e)
/-- list.sort of tuples of whole numbers, of any lengths -/
theorem sort_flat {b : Addr} {vs : List Value} {Q : Value → Shared → Prop} (hu : A.units + 8 < cLine) (hb : s.heap.get? b = some (seqObj "list" vs.toArray 0)) (hz : vs.length ≤ sizeLine) (k : Value → List Int) (hp : ∀ v ∈ vs, IsInts s.heap v (k v))
    (q : ∀ out : List Value, out.Perm vs → SrtO.Srtd (fun v u => HT.lexLt (k v) (k u)) out → Q .none { s with heap := sortedHeap s.heap b vs out.toArray }) : wpAny (model P w) A (call (.builtin "list.sort") [.ref b]) Q E s := by
  refine wpAny_call_entry slot_list_sort ⟨_, hb, rfl⟩ entry_list_sort (SrtO.list_sort_ord (swoL k) hb hz (fun h2 => ?_) fun out so st => ⟨_, rfl, q out st.perm so⟩) (args_list_sort _)
  refine ints_sortableO (by omega) (by first | omega | (simp [Around.in1]; omega)) hp fun o e => ?_
  rw [hb] at e
  cases e
  exact fun c => absurd (Value.type.inj c) (by decide)
open PySem.W in
/-- list.sort of tuples within tuples that are alike -/
theorem sort_deep {b : Addr} {vs : List Value} {L : List EN} {Q : Value → Shared → Prop} (hu : A.units + 16 < cLine) (hb : s.heap.get? b = some (seqObj "list" vs.toArray 0)) (few : L.length < 77) (pm : vs.Perm (L.map fun e => Value.ref e.1)) (rd : ∀ e ∈ L, Reads s.heap (.ref e.1) e.2.data [])
    (low : ∀ e ∈ L, e.2.data.depth ≤ 8) (al : ∀ e ∈ L, ∀ e' ∈ L, alike e.2.data e'.2.data = true) (ne : ∀ e ∈ L, ∃ x r, e.2.data = .tuple (x :: r))
    (q : ∀ out : List Value, out.Perm vs → Q .none { s with heap := sortedHeap s.heap b vs out.toArray }) : wpAny (model P w) A (call (.builtin "list.sort") [.ref b]) Q E s := by
  obtain ⟨L', pL, rfl⟩ := perm_map_ex pm L rfl
  have m : ∀ {e}, e ∈ L' → e ∈ L := fun h => pL.mem_iff.mp h
  have each : ∀ M : List EN, (∀ e ∈ M, e ∈ L) → EachIs (fun v (e : EN) => v = Value.ref e.1) (M.map fun e => Value.ref e.1) M := fun M => by
    induction M with
    | nil => intro _; exact .nil
    | cons e M ih => exact fun h => .cons rfl (ih fun x hx => h x (List.mem_cons_of_mem _ hx))
  have E1 := each L' fun e he => m he
  refine list_sort_data (bs := L') (enc := fun e => e.2.data) (R := fun v e => v = Value.ref e.1) hb E1 ?_ ?_ ?_ (by rw [pL.length_eq, sizeLine_eq]; omega) (fun e he => by have := low e (m he); omega) fun out hl eo => ?_
  · exact (each_mem E1).mono fun v e ⟨z, he⟩ => ⟨[], by rw [z]; exact rd e (m he), fun h => by cases h⟩
  · intro d hd d' hd'
    obtain ⟨e, he, rfl⟩ := List.mem_map.mp hd
    obtain ⟨e', he', rfl⟩ := List.mem_map.mp hd'
    exact al e (m he) e' (m he')
  · refine .inl fun d hd => ?_
    obtain ⟨e, he, rfl⟩ := List.mem_map.mp hd
    exact ne e (m he)
  · refine q out ?_
    have : out = (L'.mergeSort (dataLe false fun e => e.2.data)).map fun e => Value.ref e.1 := by
      clear q hl
      generalize L'.mergeSort (dataLe false fun e => e.2.data) = M at eo
      induction eo with
      | nil => rfl
      | cons h _ ih => rw [List.map_cons, ← ih, h]
    rw [this]
    exact (List.mergeSort_perm _ _).map _
end
end Fw

set_option maxRecDepth 100000
set_option maxHeartbeats 2000000
/-! Two clauses of a comprehension over any walks; x in a tuple, deep; what is kept of tuples. -/
namespace Fw
open PySem PySem.Spec PyProof.Rows L2
section
variable {X : Cx}
def rInT (K : PySem.W.Frag) : R2 := fun x y H Q => ∃ d ds, Dp K H x d ∧ Dp K H y (.tuple ds) ∧ SeqAt.shaped d = true ∧ SeqAt.shaped (.tuple ds) = true ∧ Q (.bl (ds.any fun z => PyData.eqv z d)) H
theorem op_inT (hu : X.A.units + 64 < cLine) : OpR X (compareOp .In) (rInT X.K) := by
  intro pins s σ H x y v u Q I rx ry h
  obtain ⟨d, ds, hd, he, sd, se, q⟩ := h
  obtain ⟨as, r1⟩ := Dp.reads I d x v hd rx
  obtain ⟨bs, r2⟩ := Dp.reads I (.tuple ds) y u he ry
  have hz := SeqAt.shaped
  have : X.A.units + 1 + min (PyData.depthAll ds) d.depth < cLine := by
    have e : (PyData.canLay0 (.tuple ds) && decide (PyData.depth (.tuple ds) ≤ 64)) = true := se
    have := of_decide_eq_true (Bool.and_eq_true_iff.mp e).2
    simp only [PyData.depth] at this
    omega
  exact SeqAt.in_tuple_reads r2 r1 (SeqAt.canLay_of_shaped se) (SeqAt.canLay_of_shaped sd) this ⟨.bl _, H, I, rfl, q⟩
def rNotInL (K : PySem.W.Frag) : R2 := fun x y H Q => ∃ d ds, Dp K H x d ∧ Dp K H y (.list ds) ∧ SeqAt.shaped d = true ∧ SeqAt.shaped (.list ds) = true ∧ Q (.bl (!ds.any fun z => PyData.eqv z d)) H
theorem op_notInL (hu : X.A.units + 64 < cLine) : OpR X (compareOp .NotIn) (rNotInL X.K) := by
  intro pins s σ H x y v u Q I rx ry h
  obtain ⟨d, ds, hd, he, sd, se, q⟩ := h
  obtain ⟨as, r1⟩ := Dp.reads I d x v hd rx
  obtain ⟨bs, r2⟩ := Dp.reads I (.list ds) y u he ry
  have : X.A.units + 1 + min (PyData.depthAll ds) d.depth < cLine := by
    have e : (PyData.canLay0 (.list ds) && decide (PyData.depth (.list ds) ≤ 64)) = true := se
    have := of_decide_eq_true (Bool.and_eq_true_iff.mp e).2
    simp only [PyData.depth] at this
    omega
  exact SeqAt.notIn_list_reads r2 r1 (SeqAt.canLay_of_shaped se) (SeqAt.canLay_of_shaped sd) this ⟨.bl _, H, I, rfl, q⟩
end
theorem in2_it {J : It} {n : Nat} {G : Hp → Prop} {Y : Nat → Hp → V → Hp → Prop} (w : Walk J n G Y) {g : TG} {tt : TT} {te : TE} {vs : List Nat} {σ : L2.St} {H1 : Hp} {D : Addr} {Nx : Hp → Prop} (Pv : Nat → Hp → Prop) (h0 : Pv 0 H1) (hG : ∀ i H, i ≤ n → Pv i H → G H)
    (hs : ∀ i x H H', i < n → Pv i H → Y i H x H' → g x (wipe σ vs) H' fun σ2 H2 => wipe σ2 vs = wipe σ vs ∧ tt σ2 H2 fun b H3 =>
      if b = true then te σ2 H3 fun y H4 => ∃ acc, H4 D = some (.lst acc) ∧ acc.length < sizeLine ∧ Pv (i + 1) (upd H4 D (.lst (acc ++ [y]))) else Pv (i + 1) H3) (hd : ∀ H, Pv n H → Nx H) :
    ∃ W : Nat → Nat → Hp → Prop, (∃ m, W 0 m H1) ∧ ∀ i m H, W i m H →
      (J.stop i H ∧ Nx H) ∨ (J.go i H ∧ ∃ Nx1 : Hp → Prop, (∀ H', Nx1 H' → ∃ m', m' < m ∧ W (i + 1) m' H') ∧ ∀ x H', J.yld i H x H' → g x (wipe σ vs) H' fun σ2 H2 => wipe σ2 vs = wipe σ vs ∧ tt σ2 H2 fun b H3 =>
        if b = true then te σ2 H3 fun y H4 => ∃ acc, H4 D = some (.lst acc) ∧ acc.length < sizeLine ∧ Nx1 (upd H4 D (.lst (acc ++ [y]))) else Nx1 H3) := by
  refine ⟨fun i m H => m = n - i ∧ i ≤ n ∧ Pv i H, ⟨n, by simp, Nat.zero_le _, h0⟩, ?_⟩
  rintro i m H ⟨rfl, hi, p⟩
  have q := hG i H hi p
  by_cases hlt : i < n
  · refine .inr ⟨w.goes i H hlt q, Pv (i + 1), fun H' p' => ⟨n - (i + 1), by omega, rfl, hlt, p'⟩, fun x H' y => hs i x H H' hlt p (w.yields i H x H' hlt q y)⟩
  · have e : i = n := by omega
    subst e
    exact .inl ⟨w.stops H q, hd H p⟩
theorem lc2_it {J : It} {n : Nat} {G : Hp → Prop} {Y : Nat → Hp → V → Hp → Prop} (w : Walk J n G Y) {wi1 : TI} {g g1 : TG} {tt tt1 : TT} {te : TE} {vs vs1 : List Nat} {σ : L2.St} {H1 : Hp} {D : Addr} {Qd : Hp → Prop} (Pv : Nat → Hp → Prop) (h0 : Pv 0 (upd H1 D (.lst []))) (hG : ∀ i H, i ≤ n → Pv i H → G H)
    (hs : ∀ i x H H', i < n → Pv i H → Y i H x H' → g x (wipe σ vs) H' fun σ2 H2 => wipe σ2 vs = wipe σ vs ∧ tt σ2 H2 fun b H3 =>
      if b = true then wi1 σ2 H3 fun J1 H4 => ∃ W1 : Nat → Nat → Hp → Prop, (∃ m, W1 0 m H4) ∧ ∀ j k H, W1 j k H →
        (J1.stop j H ∧ Pv (i + 1) H) ∨ (J1.go j H ∧ ∃ Nx1 : Hp → Prop, (∀ H', Nx1 H' → ∃ k', k' < k ∧ W1 (j + 1) k' H') ∧ ∀ x H', J1.yld j H x H' → g1 x (wipe σ2 vs1) H' fun σ3 H5 => wipe σ3 vs1 = wipe σ2 vs1 ∧ tt1 σ3 H5 fun b H6 =>
          if b = true then te σ3 H6 fun y H7 => ∃ acc, H7 D = some (.lst acc) ∧ acc.length < sizeLine ∧ Nx1 (upd H7 D (.lst (acc ++ [y]))) else Nx1 H6)
      else Pv (i + 1) H3) (hd : ∀ H, Pv n H → Qd H) :
    ∃ W : Nat → Nat → Hp → Prop, (∃ m, W 0 m (upd H1 D (.lst []))) ∧ ∀ i m H, W i m H →
      (J.stop i H ∧ Qd H) ∨ (J.go i H ∧ ∃ Nx : Hp → Prop, (∀ H', Nx H' → ∃ m', m' < m ∧ W (i + 1) m' H') ∧ ∀ x H', J.yld i H x H' → g x (wipe σ vs) H' fun σ2 H2 => wipe σ2 vs = wipe σ vs ∧ tt σ2 H2 fun b H3 =>
        if b = true then wi1 σ2 H3 fun J1 H4 => ∃ W1 : Nat → Nat → Hp → Prop, (∃ m, W1 0 m H4) ∧ ∀ j k H, W1 j k H →
          (J1.stop j H ∧ Nx H) ∨ (J1.go j H ∧ ∃ Nx1 : Hp → Prop, (∀ H', Nx1 H' → ∃ k', k' < k ∧ W1 (j + 1) k' H') ∧ ∀ x H', J1.yld j H x H' → g1 x (wipe σ2 vs1) H' fun σ3 H5 => wipe σ3 vs1 = wipe σ2 vs1 ∧ tt1 σ3 H5 fun b H6 =>
            if b = true then te σ3 H6 fun y H7 => ∃ acc, H7 D = some (.lst acc) ∧ acc.length < sizeLine ∧ Nx1 (upd H7 D (.lst (acc ++ [y]))) else Nx1 H6)
        else Nx H3) := by
  refine ⟨fun i m H => m = n - i ∧ i ≤ n ∧ Pv i H, ⟨n, by simp, Nat.zero_le _, h0⟩, ?_⟩
  rintro i m H ⟨rfl, hi, p⟩
  have q := hG i H hi p
  by_cases hlt : i < n
  · refine .inr ⟨w.goes i H hlt q, Pv (i + 1), fun H' p' => ⟨n - (i + 1), by omega, rfl, hlt, p'⟩, fun x H' y => hs i x H H' hlt p (w.yields i H x H' hlt q y)⟩
  · have e : i = n := by omega
    subst e
    exact .inl ⟨w.stops H q, hd H p⟩
/-- tuples are as they were -/
def TKp (K : PySem.W.Frag) (H H' : Hp) : Prop := ∀ a xs, SqT K H a xs → SqT K H' a xs
theorem TKp.refl (K : PySem.W.Frag) (H : Hp) : TKp K H H := fun _ _ h => h
theorem TKp.trans {K : PySem.W.Frag} {H H1 H2 : Hp} (a : TKp K H H1) (b : TKp K H1 H2) : TKp K H H2 := fun c xs h => b c xs (a c xs h)
theorem TKp.put {K : PySem.W.Frag} {H : Hp} {d : Addr} {o o' : HO} (e : H d = some o) (n1 : ∀ xs, o ≠ .tup xs) (n2 : ∀ u xs, o ≠ .frz u (.tup xs)) : TKp K H (upd H d o') := by
  intro a xs h
  rcases h with h | h
  · rcases h with h | ⟨u, h⟩
    · exact .inl (.inl (by rw [upd_ne (ne_of h e (n1 _).symm)]; exact h))
    · exact .inl (.inr ⟨u, by rw [upd_ne (ne_of h e (n2 _ _).symm)]; exact h⟩)
  · exact .inr h
theorem TKp.lst {K : PySem.W.Frag} {H : Hp} {d : Addr} {ys : List V} {o' : HO} (e : H d = some (.lst ys)) : TKp K H (upd H d o') := TKp.put e (fun _ z => by cases z) (fun _ _ z => by cases z)
theorem TKp.ext {K : PySem.W.Frag} {H : Hp} {d : Addr} {p : Heap → Prop} {o' : HO} (e : H d = some (.ext p)) : TKp K H (upd H d o') := TKp.put e (fun _ z => by cases z) (fun _ _ z => by cases z)
theorem TKp.ins {K : PySem.W.Frag} {H : Hp} {d C dx : Addr} {fs : List (Str × V)} {o' : HO} (e : H d = some (.ins C dx fs)) : TKp K H (upd H d o') := TKp.put e (fun _ z => by cases z) (fun _ _ z => by cases z)
end Fw

set_option maxRecDepth 100000
set_option maxHeartbeats 4000000
/-! comprehensions of sets, one clause or two, of whole numbers or of tuples -/
namespace Fw
open PySem PySem.Spec PyProof.Rows L2
/-- what putting a value into the set at an address asks: the value, the address, the heap, and what is wished of the heap behind it -/
abbrev AddT := V → Addr → Hp → (Hp → Prop) → Prop
def AddOk (X : Cx) (add : AddT) : Prop := ∀ (pins : List (Addr × Obj)) (σ : L2.St) (H : Hp) (s : Shared) (E : Value → Shared → Prop) (D : Addr) (y : V) (z : Value) (N : Hp → Prop) (Q : Value → Shared → Prop),
  Inv X pins σ H s → RelV y z → add y D H N → (∀ s' H', Inv X pins σ H' s' → N H' → Q .none s') → wpAny (model X.prog X.w) X.A (call (.builtin "set.add") [.ref D, z]) Q E s
def AddSelf (X : Cx) (add : AddT) : Prop := ∀ X' : Cx, X'.prog = X.prog → X'.w = X.w → X'.K = X.K → X'.A = X.A → AddOk X' add
/-- a new set is such an object -/
def NewSet (w : World) (o0 : Addr → HO) : Prop := ∀ (P : Program) (H : Hp) (h : Heap), ObjOk P w H (h.push (freshSet w)) h.objs.size (o0 h.objs.size)
def tScG (o0 : Addr → HO) (add : AddT) (wi : TI) (g : TG) (tt : TT) (te : TE) (vs : List Nat) : TE := fun σ H Q => wi σ H fun J H1 => ∀ D, H1 D = none →
  ∃ W : Nat → Nat → Hp → Prop, (∃ m, W 0 m (upd H1 D (o0 D))) ∧ ∀ i m H, W i m H →
    (J.stop i H ∧ Q (.ref D) H) ∨ (J.go i H ∧ ∃ Nx : Hp → Prop, (∀ H', Nx H' → ∃ m', m' < m ∧ W (i + 1) m' H') ∧
      ∀ x H', J.yld i H x H' → g x (wipe σ vs) H' fun σ2 H2 => wipe σ2 vs = wipe σ vs ∧ tt σ2 H2 fun b H3 =>
        if b = true then te σ2 H3 fun y H4 => add y D H4 Nx else Nx H3)
def tSc2G (o0 : Addr → HO) (add : AddT) (wi : TI) (g : TG) (tt : TT) (wi1 : TI) (g1 : TG) (tt1 : TT) (te : TE) (vs vs1 : List Nat) : TE := fun σ H Q => wi σ H fun J H1 => ∀ D, H1 D = none →
  ∃ W : Nat → Nat → Hp → Prop, (∃ m, W 0 m (upd H1 D (o0 D))) ∧ ∀ i m H, W i m H →
    (J.stop i H ∧ Q (.ref D) H) ∨ (J.go i H ∧ ∃ Nx : Hp → Prop, (∀ H', Nx H' → ∃ m', m' < m ∧ W (i + 1) m' H') ∧
      ∀ x H', J.yld i H x H' → g x (wipe σ vs) H' fun σ2 H2 => wipe σ2 vs = wipe σ vs ∧ tt σ2 H2 fun b H3 =>
        if b = true then wi1 σ2 H3 fun J1 H4 => ∃ W1 : Nat → Nat → Hp → Prop, (∃ m, W1 0 m H4) ∧ ∀ j k H, W1 j k H →
          (J1.stop j H ∧ Nx H) ∨ (J1.go j H ∧ ∃ Nx1 : Hp → Prop, (∀ H', Nx1 H' → ∃ k', k' < k ∧ W1 (j + 1) k' H') ∧ ∀ x H', J1.yld j H x H' → g1 x (wipe σ2 vs1) H' fun σ3 H5 => wipe σ3 vs1 = wipe σ2 vs1 ∧ tt1 σ3 H5 fun b H6 =>
            if b = true then te σ3 H6 fun y H7 => add y D H7 Nx1 else Nx1 H6)
        else Nx H3)
section
variable {P : Program} {w : World} {A : Around} {R : Result → Shared → Prop} {s : Shared} {elt t0 i0 t1 i1 : Expr} {ifs0 ifs1 : List Expr} {scope : Scope} {pos : Pos} {it acc : Value} {env : Env}
theorem turnS_out (elt t0 i0 t1 i1 : Expr) (ifs0 ifs1 : List Expr) (scope : Scope) (pos : Pos) (it acc : Value) (env : Env) :
    compTurn (.SetComp elt [⟨t0, i0, ifs0, 0⟩, ⟨t1, i1, ifs1, 0⟩] scope pos) 0 it acc env = (do
      standAt i0.pos
      match ← pyNext it with
      | none => pure (.done .next)
      | some u =>
        letOwnedTupleGo t0 it u
        assign t0 env u
        let mut good := true
        for c in ifs0 do
          if good then good ← isTrue c env (eval c env)
        if good then
          let y ← eval i1 env
          standAt i1.pos
          let y ← foldedSetIterable i1 env y
          let _ ← runOwn (.compStart (.SetComp elt [⟨t0, i0, ifs0, 0⟩, ⟨t1, i1, ifs1, 0⟩] scope pos) 1 (← holding [y] (pyIter y)) acc env) env
        again (.compLoop (.SetComp elt [⟨t0, i0, ifs0, 0⟩, ⟨t1, i1, ifs1, 0⟩] scope pos) 0 it acc env)) := by rfl
theorem turnS_in (elt t0 i0 t1 i1 : Expr) (ifs0 ifs1 : List Expr) (scope : Scope) (pos : Pos) (it acc : Value) (env : Env) :
    compTurn (.SetComp elt [⟨t0, i0, ifs0, 0⟩, ⟨t1, i1, ifs1, 0⟩] scope pos) 1 it acc env = (do
      standAt i1.pos
      match ← pyNext it with
      | none => pure (.done .next)
      | some u =>
        letOwnedTupleGo t1 it u
        assign t1 env u
        let mut good := true
        for c in ifs1 do
          if good then good ← isTrue c env (eval c env)
        if good then
          (do let v ← eval elt env; standAt elt.pos; let _ ← call (.builtin "set.add") [acc, v])
        again (.compLoop (.SetComp elt [⟨t0, i0, ifs0, 0⟩, ⟨t1, i1, ifs1, 0⟩] scope pos) 1 it acc env)) := by rfl
/-- what a turn's error is told to -/
abbrev erS (P : Program) (w : World) (A : Around) (env : Env) (R : Result → Shared → Prop) : Value → Shared → Prop := notedBy (model P w) A env fun e s' => R (.error e) s'
theorem loopS_out (hs : ∀ x, foldedSetIterable i1 env x = pure x) (I : Nat → Shared → Prop)
    (turn : ∀ n s, I n s → wpAny (model P w) A (pyNext it) (fun r s₁ => match r with
      | none => R (.ok .next) s₁
      | some v => wpAny (model P w) A (letOwnedTupleGo t0 it v) (fun _ s₁' => wpAny (model P w) A (assign t0 env v) (fun _ s₂ =>
          wpAny (model P w) A (forIn ifs0 true fun c r => if r = true then do let ok ← isTrue c env (eval c env); pure (ForInStep.yield ok) else pure (ForInStep.yield r)) (fun ok s₃ =>
            if ok = true then wpAny (model P w) A (eval i1 env) (fun x s₄ => wpAny (model P w) A (pyIter x) (fun it1 s₅ =>
              codeAny (model P w) A (.compStart (.SetComp elt [⟨t0, i0, ifs0, 0⟩, ⟨t1, i1, ifs1, 0⟩] scope pos) 1 it1 acc env) (fun r s' => match r with
                | .ok _ => ∃ m, m < n ∧ I m s'
                | .error _ => False) s₅) (erS P w A env R) s₄) (erS P w A env R) s₃
            else ∃ m, m < n ∧ I m s₃) (erS P w A env R) s₂) (erS P w A env R) s₁') (erS P w A env R) s₁) (erS P w A env R) s)
    (n : Nat) (h : I n s) : codeAny (model P w) A (.compLoop (.SetComp elt [⟨t0, i0, ifs0, 0⟩, ⟨t1, i1, ifs1, 0⟩] scope pos) 0 it acc env) R s := by
  refine codeAny_loop rfl I (fun n s hI => ?_) n h
  show wpAny _ A ((compTurn (.SetComp elt [⟨t0, i0, ifs0, 0⟩, ⟨t1, i1, ifs1, 0⟩] scope pos) 0 it acc env).onRaise (fun x => do noteFrame x env; theTreesLotGoes x)) _ _ s
  refine wpAny_noted ?_
  rw [turnS_out]
  refine wpAny_bind (wpAny_standAt (wpAny_bind (wpAny_mono (turn n s hI) (fun r s₁ h₁ => ?_) fun _ _ e => e)))
  cases r with
  | none => exact wpAny_pure h₁
  | some v =>
    refine wpAny_bind (wpAny_mono h₁ (fun _ s₂ h₂ => wpAny_bind (wpAny_mono h₂ (fun _ s₃ h₃ => wpAny_bind (wpAny_mono h₃ (fun ok s₄ h₄ => ?_) fun _ _ e => e)) fun _ _ e => e)) fun _ _ e => e)
    cases ok with
    | false => exact wpAny_pure ⟨rfl, h₄⟩
    | true =>
      refine wpAny_bind (wpAny_mono h₄ (fun x s₅ h₅ => wpAny_bind (wpAny_standAt (wpAny_bind (wpAny_of_eq (hs x) (wpAny_bind (wpAny_holding (wpAny_mono h₅ (fun it1 s₆ h₆ => wpAny_bind (wpAny_runOwn ?_)) fun _ _ e => e))))))) fun _ _ e => e)
      rw [Around.mark_none]
      refine codeAny_mono h₆ fun r s' hr => ?_
      cases r with
      | ok f =>
        first
          | exact wpAny_pure ⟨rfl, hr⟩
          | exact wpAny_bind (wpAny_pure (wpAny_pure ⟨rfl, hr⟩))
      | error e => exact hr.elim
theorem loopS_in (I : Nat → Shared → Prop)
    (turn : ∀ n s, I n s → wpAny (model P w) A (pyNext it) (fun r s₁ => match r with
      | none => R (.ok .next) s₁
      | some v => wpAny (model P w) A (letOwnedTupleGo t1 it v) (fun _ s₁' => wpAny (model P w) A (assign t1 env v) (fun _ s₂ =>
          wpAny (model P w) A (forIn ifs1 true fun c r => if r = true then do let ok ← isTrue c env (eval c env); pure (ForInStep.yield ok) else pure (ForInStep.yield r)) (fun ok s₃ =>
            if ok = true then wpAny (model P w) A (eval elt env) (fun x s₄ =>
              wpAny (model P w) A (call (.builtin "set.add") [acc, x]) (fun _ s₅ => ∃ m, m < n ∧ I m s₅) (erS P w A env R) s₄) (erS P w A env R) s₃
            else ∃ m, m < n ∧ I m s₃) (erS P w A env R) s₂) (erS P w A env R) s₁') (erS P w A env R) s₁) (erS P w A env R) s)
    (n : Nat) (h : I n s) : codeAny (model P w) A (.compLoop (.SetComp elt [⟨t0, i0, ifs0, 0⟩, ⟨t1, i1, ifs1, 0⟩] scope pos) 1 it acc env) R s := by
  refine codeAny_loop rfl I (fun n s hI => ?_) n h
  show wpAny _ A ((compTurn (.SetComp elt [⟨t0, i0, ifs0, 0⟩, ⟨t1, i1, ifs1, 0⟩] scope pos) 1 it acc env).onRaise (fun x => do noteFrame x env; theTreesLotGoes x)) _ _ s
  refine wpAny_noted ?_
  rw [turnS_in]
  refine wpAny_bind (wpAny_standAt (wpAny_bind (wpAny_mono (turn n s hI) (fun r s₁ h₁ => ?_) fun _ _ e => e)))
  cases r with
  | none => exact wpAny_pure h₁
  | some v =>
    refine wpAny_bind (wpAny_mono h₁ (fun _ s₂ h₂ => wpAny_bind (wpAny_mono h₂ (fun _ s₃ h₃ => wpAny_bind (wpAny_mono h₃ (fun ok s₄ h₄ => ?_) fun _ _ e => e)) fun _ _ e => e)) fun _ _ e => e)
    cases ok with
    | false => exact wpAny_pure ⟨rfl, h₄⟩
    | true =>
      exact wpAny_bind (wpAny_bind (wpAny_mono h₄ (fun x s₅ h₅ => wpAny_bind (wpAny_standAt (wpAny_bind (wpAny_mono h₅ (fun _ s₆ h₆ => wpAny_pure (wpAny_pure ⟨rfl, h₆⟩)) fun _ _ e => e)))) fun _ _ e => e))
theorem startS1 (h0 : codeAny (model P w) A (.compLoop (.SetComp elt [⟨t0, i0, ifs0, 0⟩, ⟨t1, i1, ifs1, 0⟩] scope pos) 1 it acc env) R s)
    (h : wpAny (model P w) A (pyIter it) (fun it' s' => codeAny (model P w) A (.compLoop (.SetComp elt [⟨t0, i0, ifs0, 0⟩, ⟨t1, i1, ifs1, 0⟩] scope pos) 1 it' acc env) R s') (erS P w A env R) s) :
    codeAny (model P w) A (.compStart (.SetComp elt [⟨t0, i0, ifs0, 0⟩, ⟨t1, i1, ifs1, 0⟩] scope pos) 1 it acc env) R s := by
  refine codeAny_of_tree ?_
  show wpAny _ _ ((compStart (.SetComp elt [⟨t0, i0, ifs0, 0⟩, ⟨t1, i1, ifs1, 0⟩] scope pos) 1 it acc env).onRaise (fun x => do noteFrame x env; standAt theWindowsPlace)) _ _ s
  refine wpAny_notedAt ?_
  unfold compStart
  show wpAny _ _ (ask >>= _) _ _ s
  refine wpAny_bind (wpAny_askSetting (wpAny_ite ?_))
  split
  · first
      | exact wpAny_bind (wpAny_pure (wpAny_pure (And.intro rfl h0)))
      | exact wpAny_pure (And.intro rfl h0)
  · first
      | exact wpAny_bind (wpAny_rule (wpAny_bind (wpAny_standAt (wpAny_bind (wpAny_mono h (fun it' s' h' => wpAny_pure (And.intro rfl h')) fun _ _ x => x)))))
      | (refine wpAny_bind (wpAny_rule ?_); show wpAny _ _ (standAt i1.pos >>= _) _ _ s; exact wpAny_bind (wpAny_standAt (wpAny_bind (wpAny_mono h (fun it' s' h' => wpAny_pure (And.intro rfl h')) fun _ _ x => x))))
end
section
variable {X : Cx}
theorem comp1G {pins : List (Addr × Obj)} {s : Shared} {σ : L2.St} {H : Hp} {Q : VK} {elt tg iter : Expr} {ifs : List Expr} {scope : Scope} {own : List (PySem.Str × Nat)} {pos pos' : Pos} {wi : TI} {g : TG} {tt : TT} {te : TE}
    {use : Option (Value → Sem Unit)} {Qf : Value → Shared → Prop} {o0 : Addr → HO} {add : AddT} (fresh : NewSet X.w o0) (put : AddSelf X add)
    (quiet : X.calm = true) (nd : X.N.Nodup) (I : Inv X pins σ H s) (ii : PI X tg iter wi) (blk : BlkOk X.N X.env.scope scope own)
    (gg : ∀ s H C cl fp, PG (X.blk s H scope (compEnvC scope cl C X.env) fp) tg g)
    (tts : ∀ s H C cl fp, PTs (X.blk s H scope (compEnvC scope cl C X.env) fp) ifs tt)
    (ee : ∀ s H C cl fp, PE (X.blk s H scope (compEnvC scope cl C X.env) fp) elt te)
    (fold : ∀ x, foldedSetIterable iter X.env x = pure x) (h : tScG o0 add wi g tt te (own.map (·.2)) σ H Q)
    (fin : ∀ D C s' m H', Inv X pins σ H' s' → Q (.ref D) H' → s'.heap.Ns C m → FpOk X pins H' C →
      compPost (model X.prog X.w) X.A X.xe use Qf (.ref D) C (.ok .next) s') :
    wpAny (model X.prog X.w) X.A (comprehension (.SetComp elt [⟨tg, iter, ifs, 0⟩] scope pos) scope X.env pos' (newSet (.type "set")) false (eval iter X.env) use) Qf X.xe s := by
  have clo : ∀ y ∈ scope.names, y.2 = .free → ∃ c, X.env.cells.lookup y.1 = some c := fun y hy e =>
    (blk.free y hy e).elim (fun k => I.ok.has _ (.inl k)) fun k => I.ok.has _ (.inr k)
  refine wpAny_comprehension_free (use := use) rfl fold (closure_ok clo) blk.kind (fun y hy e => by rw [blk.uniq y hy, e])
    (thn (ii.run pins s σ H _ I h) fun xv s1 hx => thn hx fun itv s2 h2 => ?_)
  obtain ⟨it, fp, tn, J, H2, rfl, I2, T, t0, fp2, q⟩ := h2
  refine PpSet.newSet_ok (newEnv_comp ?_)
  generalize eD : s2.heap.objs.size = D
  obtain ⟨W, ⟨m0, w0⟩, turn⟩ := q D (I2.hok.fresh (Nat.le_of_eq eD))
  generalize e3 : ({ s2 with heap := s2.heap.push (freshSet X.w) } : Shared) = s3
  have heap3 : s3.heap = s2.heap.push (freshSet X.w) := by rw [← e3]
  have up3 : ∀ b o, s2.heap.get? b = some o → s3.heap.get? b = some o := fun b o e => by
    rw [heap3]
    exact Heap.get?_push_of_some _ e
  generalize eH : upd H2 D (o0 D) = H3 at w0
  have I3 : Inv X pins σ H3 s3 := by
    rw [← eH, ← e3, ← eD]
    exact I2.laid (t' := s2.toks) (fun b o e => Heap.get?_push_of_some _ e) (Nat.le_refl _) (fresh X.prog _ _)
  have fp3 : ∀ b ∈ fp, FpOk X pins H3 b ∧ b < s3.heap.objs.size := fun b hb => by
    obtain ⟨o, e, _⟩ := T.obj _ _ t0 b hb
    have lt := Heap.lt_size e
    refine ⟨⟨?_, (fp2 b hb).2⟩, ?_⟩
    · rw [← eH, upd_ne (show b ≠ D by rw [← eD]; exact Nat.ne_of_lt lt)]
      exact (fp2 b hb).1
    · rw [heap3, Heap.size_push]
      exact Nat.lt_succ_of_lt lt
  have t3 : tn 0 s3.heap := T.keep _ _ _ t0 fun b _ o e => up3 b o e
  have I4 := block_start I3 blk nd fp3
  have g4 := gg s3 H3 s3.heap.objs.size (cellsFrom (s3.heap.objs.size + 1) scope.names (cloFrom X.env.cells scope.names [])) fp
  have t4 := tts s3 H3 s3.heap.objs.size (cellsFrom (s3.heap.objs.size + 1) scope.names (cloFrom X.env.cells scope.names [])) fp
  have e4 := ee s3 H3 s3.heap.objs.size (cellsFrom (s3.heap.objs.size + 1) scope.names (cloFrom X.env.cells scope.names [])) fp
  show codeAny _ _ (.compStart (.SetComp elt [⟨tg, iter, ifs, 0⟩] scope pos) 0 (.ref it) (.ref D)
      (compEnvC scope (cellsFrom (s3.heap.objs.size + 1) scope.names (cloFrom X.env.cells scope.names [])) s3.heap.objs.size X.env))
    (compPost (model X.prog X.w) X.A X.xe use Qf (.ref D) s3.heap.objs.size) { s3 with heap := pushCells (s3.heap.push { cls := .type "dict", data := .dict #[] }) scope.names }
  generalize eC : compEnvC scope (cellsFrom (s3.heap.objs.size + 1) scope.names (cloFrom X.env.cells scope.names [])) s3.heap.objs.size X.env = ce at I4 g4 t4 e4 ⊢
  have locs : ce.locals = s3.heap.objs.size := by
    subst eC
    rfl
  generalize eS : ({ s3 with heap := pushCells (s3.heap.push { cls := .type "dict", data := .dict #[] }) scope.names } : Shared) = s4 at I4 ⊢
  have ts4 : tn 0 s4.heap := T.keep _ _ _ t3 fun b _ o e => by
    rw [← eS]
    exact pushCells_keeps _ _ _ _ (Heap.get?_push_of_some _ e)
  have held : ∀ {σ' : L2.St} {H' : Hp} {s' : Shared}, Inv (X.blk s3 H3 scope ce fp) [] σ' H' s' → (∀ b ∈ fp, H' b = none) →
      ∀ b ∈ fp, FpOk (X.blk s3 H3 scope ce fp) [] H' b := fun {σ' H' s'} I' hn b hb =>
    have x := I'.ok.exf b hb
    ⟨hn b hb, x.1, I'.ok.exfs b hb, .inl hb, fun y c e => x.2 y c e, fun p hp => by cases hp⟩
  have put' : AddOk (X.blk s3 H3 scope ce fp) add := put _ rfl rfl rfl rfl
  have body : codeAny (model X.prog X.w) X.A (.compLoop (.SetComp elt [⟨tg, iter, ifs, 0⟩] scope pos) 0 (.ref it) (.ref D) ce)
      (compPost (model X.prog X.w) X.A X.xe use Qf (.ref D) s3.heap.objs.size) s4 := by
    refine PpSet.compLoopS_any (fun n t => ∃ i G, Inv (X.blk s3 H3 scope ce fp) [] (wipe σ (own.map (·.2))) G t ∧ tn i t.heap ∧ (∀ b ∈ fp, G b = none) ∧ W i n G)
      ?_ m0 ⟨0, H3, I4, ts4, fun b hb => (fp3 b hb).1.1, w0⟩
    rintro n s5 ⟨i, H5, I5, t5, free5, w5⟩
    rcases turn i n H5 w5 with ⟨stop, qq⟩ | ⟨go, Nx, dec, step⟩
    · refine thnF (T.done (X.blk s3 H3 scope ce fp) rfl rfl rfl quiet i [] s5 _ H5 (fun _ _ => False) I5 (held I5 free5) t5 stop) fun r s6 ⟨hr, I6⟩ => ?_
      subst hr
      have free6 : H5 ce.locals = none := I6.free
      obtain ⟨m, ns6, _⟩ := I6.loc
      have ns6' : s6.heap.Ns ce.locals m := ns6
      rw [locs] at free6 ns6'
      have I7 : Inv X pins σ H5 s6 := I3.call' (ch := fp) I6.os I6.base I6.hok I6.bare fun b hb =>
        have z := (fp3 b hb).1
        ⟨z.2.2.2.1, z.2.1, z.2.2.2.2.1, z.2.2.2.2.2⟩
      exact fin D s3.heap.objs.size s6 m H5 I7 qq ns6' (I3.fpOk (Nat.le_refl _) free6)
    · refine thnF (T.item (X.blk s3 H3 scope ce fp) rfl rfl rfl quiet i [] s5 _ H5 (fun _ _ => False) I5 (held I5 free5) t5 go) fun r s6 ⟨u, hr, h6⟩ => ?_
      subst hr
      refine thnF h6 fun _ s7 ⟨x, H7, I7, rx, y7, t7, free7⟩ => ?_
      refine thnF (g4.run _ s7 _ H7 x u _ (I7.pinned (held I7 free7) (T.obj _ _ t7)) rx (step x H7 y7)) fun _ s8 ⟨σ8, H8, I8, wi8, q8⟩ => ?_
      refine thnF (t4.run _ s8 σ8 H8 _ I8 q8) fun b s9 ⟨H9, I9, q9⟩ => ?_
      have over : ∀ {t : Shared} {G : Hp}, Inv (X.blk s3 H3 scope ce fp) ([] ++ pinsAt fp s7.heap) σ8 G t → Nx G →
          ∃ m, m < n ∧ ∃ i G, Inv (X.blk s3 H3 scope ce fp) [] (wipe σ (own.map (·.2))) G t ∧ tn i t.heap ∧ (∀ b ∈ fp, G b = none) ∧ W i m G := fun {t G} It nx => by
        obtain ⟨m', lt, w'⟩ := dec G nx
        have same : ∀ b ∈ fp, ∀ o, s7.heap.get? b = some o → t.heap.get? b = some o ∧ G b = none := fun b hb o e =>
          have z := It.pin (b, o) (List.mem_append_right _ (List.mem_append_right _ (mem_pinsAt hb e)))
          ⟨z.1, z.2.1⟩
        refine ⟨m', lt, i + 1, G, (It.unpinned (pins := [])).weak (by rw [← wi8, wipe_length]) (fun j v e => ?_), T.keep _ _ _ t7 fun b hb o e => (same b hb o e).1, fun b hb => ?_, w'⟩
        · rw [← wi8] at e
          exact (wipe_some e).1
        · obtain ⟨o, e, _⟩ := T.obj _ _ t7 b hb
          exact (same b hb o e).2
      cases b
      · simp only [Bool.false_eq_true, if_false] at q9 ⊢
        exact over I9 q9
      · simp only [if_true] at q9 ⊢
        refine thnF (e4.run _ s9 σ8 H9 _ I9 q9) fun z s10 ⟨yv, H10, I10, rz, ad⟩ => ?_
        exact put' _ _ _ _ _ _ _ _ _ _ I10 rz ad fun s11 H11 I11 nx => over I11 nx
  exact PpSet.codeAny_compStart_set body (T.self X.A 0 _ _ _ ts4 body)
theorem comp2G {pins : List (Addr × Obj)} {s : Shared} {σ : L2.St} {H : Hp} {Q : VK} {elt tg iter tg1 iter1 : Expr} {ifs ifs1 : List Expr} {scope : Scope} {own : List (PySem.Str × Nat)} {vs1 : List Nat} {pos pos' : Pos} {wi wi1 : TI} {g g1 : TG} {tt tt1 : TT} {te : TE}
    {use : Option (Value → Sem Unit)} {Qf : Value → Shared → Prop} {o0 : Addr → HO} {add : AddT} (fresh : NewSet X.w o0) (put : AddSelf X add)
    (quiet : X.calm = true) (nd : X.N.Nodup) (I : Inv X pins σ H s) (ii : PI X tg iter wi) (blk : BlkOk X.N X.env.scope scope own) (hv : ∀ i ∈ vs1, i ∈ own.map (·.2))
    (gg : ∀ s H C cl fp, PG (X.blk s H scope (compEnvC scope cl C X.env) fp) tg g)
    (tts : ∀ s H C cl fp, PTs (X.blk s H scope (compEnvC scope cl C X.env) fp) ifs tt)
    (ee : ∀ s H C cl fp, PE (X.blk s H scope (compEnvC scope cl C X.env) fp) elt te)
    (fold : ∀ x, foldedSetIterable iter X.env x = pure x)
    (ii1 : ∀ s H C cl fp, PI (X.blk s H scope (compEnvC scope cl C X.env) fp) tg1 iter1 wi1)
    (gg1 : ∀ s H C cl fp, PG (X.blk s H scope (compEnvC scope cl C X.env) fp) tg1 g1)
    (tts1 : ∀ s H C cl fp, PTs (X.blk s H scope (compEnvC scope cl C X.env) fp) ifs1 tt1)
    (fold1 : ∀ env x, foldedSetIterable iter1 env x = pure x) (h : tSc2G o0 add wi g tt wi1 g1 tt1 te (own.map (·.2)) vs1 σ H Q)
    (fin : ∀ D C s' m H', Inv X pins σ H' s' → Q (.ref D) H' → s'.heap.Ns C m → FpOk X pins H' C →
      compPost (model X.prog X.w) X.A X.xe use Qf (.ref D) C (.ok .next) s') :
    wpAny (model X.prog X.w) X.A (comprehension (.SetComp elt [⟨tg, iter, ifs, 0⟩, ⟨tg1, iter1, ifs1, 0⟩] scope pos) scope X.env pos' (newSet (.type "set")) false (eval iter X.env) use) Qf X.xe s := by
  have clo : ∀ y ∈ scope.names, y.2 = .free → ∃ c, X.env.cells.lookup y.1 = some c := fun y hy e =>
    (blk.free y hy e).elim (fun k => I.ok.has _ (.inl k)) fun k => I.ok.has _ (.inr k)
  refine wpAny_comprehension_free (use := use) rfl fold (closure_ok clo) blk.kind (fun y hy e => by rw [blk.uniq y hy, e])
    (thn (ii.run pins s σ H _ I h) fun xv s1 hx => thn hx fun itv s2 h2 => ?_)
  obtain ⟨it, fp, tn, J, H2, rfl, I2, T, t0, fp2, q⟩ := h2
  refine PpSet.newSet_ok (newEnv_comp ?_)
  generalize eD : s2.heap.objs.size = D
  obtain ⟨W, ⟨m0, w0⟩, turn⟩ := q D (I2.hok.fresh (Nat.le_of_eq eD))
  generalize e3 : ({ s2 with heap := s2.heap.push (freshSet X.w) } : Shared) = s3
  have heap3 : s3.heap = s2.heap.push (freshSet X.w) := by rw [← e3]
  have up3 : ∀ b o, s2.heap.get? b = some o → s3.heap.get? b = some o := fun b o e => by
    rw [heap3]
    exact Heap.get?_push_of_some _ e
  generalize eH : upd H2 D (o0 D) = H3 at w0
  have I3 : Inv X pins σ H3 s3 := by
    rw [← eH, ← e3, ← eD]
    exact I2.laid (t' := s2.toks) (fun b o e => Heap.get?_push_of_some _ e) (Nat.le_refl _) (fresh X.prog _ _)
  have fp3 : ∀ b ∈ fp, FpOk X pins H3 b ∧ b < s3.heap.objs.size := fun b hb => by
    obtain ⟨o, e, _⟩ := T.obj _ _ t0 b hb
    have lt := Heap.lt_size e
    refine ⟨⟨?_, (fp2 b hb).2⟩, ?_⟩
    · rw [← eH, upd_ne (show b ≠ D by rw [← eD]; exact Nat.ne_of_lt lt)]
      exact (fp2 b hb).1
    · rw [heap3, Heap.size_push]
      exact Nat.lt_succ_of_lt lt
  have t3 : tn 0 s3.heap := T.keep _ _ _ t0 fun b _ o e => up3 b o e
  have I4 := block_start I3 blk nd fp3
  have g4 := gg s3 H3 s3.heap.objs.size (cellsFrom (s3.heap.objs.size + 1) scope.names (cloFrom X.env.cells scope.names [])) fp
  have t4 := tts s3 H3 s3.heap.objs.size (cellsFrom (s3.heap.objs.size + 1) scope.names (cloFrom X.env.cells scope.names [])) fp
  have e4 := ee s3 H3 s3.heap.objs.size (cellsFrom (s3.heap.objs.size + 1) scope.names (cloFrom X.env.cells scope.names [])) fp
  have i14 := ii1 s3 H3 s3.heap.objs.size (cellsFrom (s3.heap.objs.size + 1) scope.names (cloFrom X.env.cells scope.names [])) fp
  have g14 := gg1 s3 H3 s3.heap.objs.size (cellsFrom (s3.heap.objs.size + 1) scope.names (cloFrom X.env.cells scope.names [])) fp
  have t14 := tts1 s3 H3 s3.heap.objs.size (cellsFrom (s3.heap.objs.size + 1) scope.names (cloFrom X.env.cells scope.names [])) fp
  show codeAny _ _ (.compStart (.SetComp elt [⟨tg, iter, ifs, 0⟩, ⟨tg1, iter1, ifs1, 0⟩] scope pos) 0 (.ref it) (.ref D)
      (compEnvC scope (cellsFrom (s3.heap.objs.size + 1) scope.names (cloFrom X.env.cells scope.names [])) s3.heap.objs.size X.env))
    (compPost (model X.prog X.w) X.A X.xe use Qf (.ref D) s3.heap.objs.size) { s3 with heap := pushCells (s3.heap.push { cls := .type "dict", data := .dict #[] }) scope.names }
  generalize eC : compEnvC scope (cellsFrom (s3.heap.objs.size + 1) scope.names (cloFrom X.env.cells scope.names [])) s3.heap.objs.size X.env = ce at I4 g4 t4 e4 i14 g14 t14 ⊢
  have locs : ce.locals = s3.heap.objs.size := by
    subst eC
    rfl
  generalize eS : ({ s3 with heap := pushCells (s3.heap.push { cls := .type "dict", data := .dict #[] }) scope.names } : Shared) = s4 at I4 ⊢
  have ts4 : tn 0 s4.heap := T.keep _ _ _ t3 fun b _ o e => by
    rw [← eS]
    exact pushCells_keeps _ _ _ _ (Heap.get?_push_of_some _ e)
  have held : ∀ {σ' : L2.St} {H' : Hp} {s' : Shared}, Inv (X.blk s3 H3 scope ce fp) [] σ' H' s' → (∀ b ∈ fp, H' b = none) →
      ∀ b ∈ fp, FpOk (X.blk s3 H3 scope ce fp) [] H' b := fun {σ' H' s'} I' hn b hb =>
    have x := I'.ok.exf b hb
    ⟨hn b hb, x.1, I'.ok.exfs b hb, .inl hb, fun y c e => x.2 y c e, fun p hp => by cases hp⟩
  have put' : AddOk (X.blk s3 H3 scope ce fp) add := put _ rfl rfl rfl rfl
  have body : codeAny (model X.prog X.w) X.A (.compLoop (.SetComp elt [⟨tg, iter, ifs, 0⟩, ⟨tg1, iter1, ifs1, 0⟩] scope pos) 0 (.ref it) (.ref D) ce)
      (compPost (model X.prog X.w) X.A X.xe use Qf (.ref D) s3.heap.objs.size) s4 := by
    refine loopS_out (fold1 ce) (fun n t => ∃ i G, Inv (X.blk s3 H3 scope ce fp) [] (wipe σ (own.map (·.2))) G t ∧ tn i t.heap ∧ (∀ b ∈ fp, G b = none) ∧ W i n G)
      ?_ m0 ⟨0, H3, I4, ts4, fun b hb => (fp3 b hb).1.1, w0⟩
    rintro n s5 ⟨i, H5, I5, t5, free5, w5⟩
    rcases turn i n H5 w5 with ⟨stop, qq⟩ | ⟨go, Nx, dec, step⟩
    · refine thnF (T.done (X.blk s3 H3 scope ce fp) rfl rfl rfl quiet i [] s5 _ H5 (fun _ _ => False) I5 (held I5 free5) t5 stop) fun r s6 ⟨hr, I6⟩ => ?_
      subst hr
      have free6 : H5 ce.locals = none := I6.free
      obtain ⟨m, ns6, _⟩ := I6.loc
      have ns6' : s6.heap.Ns ce.locals m := ns6
      rw [locs] at free6 ns6'
      have I7 : Inv X pins σ H5 s6 := I3.call' (ch := fp) I6.os I6.base I6.hok I6.bare fun b hb =>
        have z := (fp3 b hb).1
        ⟨z.2.2.2.1, z.2.1, z.2.2.2.2.1, z.2.2.2.2.2⟩
      exact fin D s3.heap.objs.size s6 m H5 I7 qq ns6' (I3.fpOk (Nat.le_refl _) free6)
    · refine thnF (T.item (X.blk s3 H3 scope ce fp) rfl rfl rfl quiet i [] s5 _ H5 (fun _ _ => False) I5 (held I5 free5) t5 go) fun r s6 ⟨u, hr, h6⟩ => ?_
      subst hr
      refine thnF h6 fun _ s7 ⟨x, H7, I7, rx, y7, t7, free7⟩ => ?_
      refine thnF (g4.run _ s7 _ H7 x u _ (I7.pinned (held I7 free7) (T.obj _ _ t7)) rx (step x H7 y7)) fun _ s8 ⟨σ8, H8, I8, wi8, q8⟩ => ?_
      refine thnF (t4.run _ s8 σ8 H8 _ I8 q8) fun b s9 ⟨H9, I9, q9⟩ => ?_
      have over : ∀ {σ9 : L2.St} {t : Shared} {G : Hp}, Inv (X.blk s3 H3 scope ce fp) ([] ++ pinsAt fp s7.heap) σ9 G t → (wipe σ (own.map (·.2))).length = σ9.length → (∀ (j : Nat) v, (wipe σ (own.map (·.2)))[j]? = some (some v) → σ9[j]? = some (some v)) → Nx G →
          ∃ m, m < n ∧ ∃ i G, Inv (X.blk s3 H3 scope ce fp) [] (wipe σ (own.map (·.2))) G t ∧ tn i t.heap ∧ (∀ b ∈ fp, G b = none) ∧ W i m G := fun {σ9 t G} It ln sm nx => by
        obtain ⟨m', lt, w'⟩ := dec G nx
        have same : ∀ b ∈ fp, ∀ o, s7.heap.get? b = some o → t.heap.get? b = some o ∧ G b = none := fun b hb o e =>
          have z := It.pin (b, o) (List.mem_append_right _ (List.mem_append_right _ (mem_pinsAt hb e)))
          ⟨z.1, z.2.1⟩
        refine ⟨m', lt, i + 1, G, (It.unpinned (pins := [])).weak ln sm, T.keep _ _ _ t7 fun b hb o e => (same b hb o e).1, fun b hb => ?_, w'⟩
        obtain ⟨o, e, _⟩ := T.obj _ _ t7 b hb
        exact (same b hb o e).2
      have ln8 : (wipe σ (own.map (·.2))).length = σ8.length := by rw [← wi8, wipe_length]
      have sm8 : ∀ (j : Nat) v, (wipe σ (own.map (·.2)))[j]? = some (some v) → σ8[j]? = some (some v) := fun j v e => by
        rw [← wi8] at e
        exact (wipe_some e).1
      have sm9 : ∀ (j : Nat) v, (wipe σ (own.map (·.2)))[j]? = some (some v) → (wipe σ8 vs1)[j]? = some (some v) := fun j v e => by
        rw [← wi8] at e
        obtain ⟨a1, a2⟩ := wipe_some e
        rw [wipe_out fun z => a2 (hv j z)]
        exact a1
      cases b
      · simp only [Bool.false_eq_true, if_false] at q9 ⊢
        exact over I9 ln8 sm8 q9
      · simp only [if_true] at q9 ⊢
        refine thnF (i14.run _ s9 σ8 H9 _ I9 q9) fun xv s10 hx => thnF hx fun itv s11 h11 => ?_
        obtain ⟨it1, fp1, tn1, J1, H11, rfl, I11, T1, t11, fr11, W1, ⟨m1, w1⟩, turn1⟩ := h11
        have held1 : ∀ {H' : Hp}, (∀ b ∈ fp1, H' b = none) → ∀ b ∈ fp1, FpOk (X.blk s3 H3 scope ce fp) ([] ++ pinsAt fp s7.heap) H' b := fun hn b hb => ⟨hn b hb, (fr11 b hb).2⟩
        have body1 : codeAny (model X.prog X.w) X.A (.compLoop (.SetComp elt [⟨tg, iter, ifs, 0⟩, ⟨tg1, iter1, ifs1, 0⟩] scope pos) 1 (.ref it1) (.ref D) ce)
            (fun r s' => match r with
              | .ok _ => ∃ m, m < n ∧ ∃ i G, Inv (X.blk s3 H3 scope ce fp) [] (wipe σ (own.map (·.2))) G s' ∧ tn i s'.heap ∧ (∀ b ∈ fp, G b = none) ∧ W i m G
              | .error _ => False) s11 := by
          refine loopS_in (fun k t => ∃ j G, Inv (X.blk s3 H3 scope ce fp) ([] ++ pinsAt fp s7.heap) (wipe σ8 vs1) G t ∧ tn1 j t.heap ∧ (∀ b ∈ fp1, G b = none) ∧ W1 j k G) ?_ m1
            ⟨0, H11, I11.weak (wipe_length _ _) (fun j v e => (wipe_some e).1), t11, fun b hb => (fr11 b hb).1, w1⟩
          rintro k s12 ⟨j, H12, I12, t12, fr12, w12⟩
          rcases turn1 j k H12 w12 with ⟨stop1, nx1⟩ | ⟨go1, Nx1, dec1, step1⟩
          · refine thnF (T1.done (X.blk s3 H3 scope ce fp) rfl rfl rfl quiet j _ s12 (wipe σ8 vs1) H12 (fun _ _ => False) I12 (held1 fr12) t12 stop1) fun r s13 ⟨hr, I13⟩ => ?_
            subst hr
            exact over I13 (ln8.trans (wipe_length σ8 vs1).symm) sm9 nx1
          · refine thnF (T1.item (X.blk s3 H3 scope ce fp) rfl rfl rfl quiet j _ s12 (wipe σ8 vs1) H12 (fun _ _ => False) I12 (held1 fr12) t12 go1) fun r s13 ⟨u1, hr, h13⟩ => ?_
            subst hr
            refine thnF h13 fun _ s14 ⟨x1, H14, I14, rx1, y14, t1s, fr14⟩ => ?_
            refine thnF (g14.run _ s14 (wipe σ8 vs1) H14 x1 u1 _ (I14.pinned (held1 fr14) (T1.obj _ _ t1s)) rx1 (step1 x1 H14 y14)) fun _ s15 ⟨σ15, H15, I15, wi15, q15⟩ => ?_
            refine thnF (t14.run _ s15 σ15 H15 _ I15 q15) fun b1 s16 ⟨H16, I16, q16⟩ => ?_
            have over1 : ∀ {t : Shared} {G : Hp}, Inv (X.blk s3 H3 scope ce fp) (([] ++ pinsAt fp s7.heap) ++ pinsAt fp1 s14.heap) σ15 G t → Nx1 G → ∃ m, m < k ∧ ∃ j G, Inv (X.blk s3 H3 scope ce fp) ([] ++ pinsAt fp s7.heap) (wipe σ8 vs1) G t ∧ tn1 j t.heap ∧ (∀ b ∈ fp1, G b = none) ∧ W1 j m G := fun {t G} It nx => by
              obtain ⟨m', lt, w'⟩ := dec1 G nx
              have same : ∀ b ∈ fp1, ∀ o, s14.heap.get? b = some o → t.heap.get? b = some o ∧ G b = none := fun b hb o e =>
                have z := It.pin (b, o) (List.mem_append_right _ (List.mem_append_right _ (mem_pinsAt hb e)))
                ⟨z.1, z.2.1⟩
              refine ⟨m', lt, j + 1, G, It.unpinned.weak (by rw [← wi15, wipe_length]) (fun j v e => by rw [← wi15] at e; exact (wipe_some e).1), T1.keep _ _ _ t1s fun b hb o e => (same b hb o e).1, fun b hb => ?_, w'⟩
              obtain ⟨o, e, _⟩ := T1.obj _ _ t1s b hb
              exact (same b hb o e).2
            cases b1
            · simp only [Bool.false_eq_true, if_false] at q16 ⊢
              exact over1 I16 q16
            · simp only [if_true] at q16 ⊢
              refine thnF (e4.run _ s16 σ15 H16 _ I16 q16) fun z s17 ⟨yv, H17, I17, rz, ad⟩ => ?_
              exact put' _ _ _ _ _ _ _ _ _ _ I17 rz ad fun s18 H18 I18 nx => over1 I18 nx
        exact startS1 body1 (T1.self X.A 0 _ _ _ t11 body1)
  exact PpSet.codeAny_compStart_set body (T.self X.A 0 _ _ _ ts4 body)
theorem pe_sc1 {o0 : Addr → HO} {add : AddT} (fresh : NewSet X.w o0) (put : AddSelf X add) {elt tg iter : Expr} {ifs : List Expr} {scope : Scope} {own : List (PySem.Str × Nat)} {pos : Pos} {wi : TI} {g : TG} {tt : TT} {te : TE} (quiet : X.calm = true) (nd : X.N.Nodup) (ii : PI X tg iter wi) (blk : BlkOk X.N X.env.scope scope own)
    (gg : ∀ (s : Shared) (H : Hp) (C : Addr) (cl : List (PySem.Str × Addr)) (fp : List Addr), PG (X.blk s H scope (compEnvC scope cl C X.env) fp) tg g)
    (tts : ∀ (s : Shared) (H : Hp) (C : Addr) (cl : List (PySem.Str × Addr)) (fp : List Addr), PTs (X.blk s H scope (compEnvC scope cl C X.env) fp) ifs tt)
    (ee : ∀ (s : Shared) (H : Hp) (C : Addr) (cl : List (PySem.Str × Addr)) (fp : List Addr), PE (X.blk s H scope (compEnvC scope cl C X.env) fp) elt te)
    (fold : ∀ x, foldedSetIterable iter X.env x = pure x := by intro _; rfl) : PE X (.SetComp elt [⟨tg, iter, ifs, 0⟩] scope pos) (tScG o0 add wi g tt te (own.map (·.2))) := by
  constructor
  intro pins s σ H Q I h
  rw [PpSet.eval_SetComp]
  refine comp1G fresh put quiet nd I ii blk gg tts ee fold h fun D C s' m H' I' q hn f => ⟨m, hn, fun h'' sb => ⟨.ref D, H', ?_, rfl, q⟩⟩
  exact I'.turned (t' := s'.toks) (fun b o hb e => (sb.2 b hb).trans e) f.1 f.2.1 f.2.2.2.1 f.2.2.2.2.1 f.2.2.2.2.2
theorem pe_sc2 {o0 : Addr → HO} {add : AddT} (fresh : NewSet X.w o0) (put : AddSelf X add) {elt tg iter tg1 iter1 : Expr} {ifs ifs1 : List Expr} {scope : Scope} {own : List (PySem.Str × Nat)} {vs1 : List Nat} {pos : Pos} {wi wi1 : TI} {g g1 : TG} {tt tt1 : TT} {te : TE} (quiet : X.calm = true) (nd : X.N.Nodup) (ii : PI X tg iter wi) (blk : BlkOk X.N X.env.scope scope own) (hv : ∀ i ∈ vs1, i ∈ own.map (·.2))
    (gg : ∀ (s : Shared) (H : Hp) (C : Addr) (cl : List (PySem.Str × Addr)) (fp : List Addr), PG (X.blk s H scope (compEnvC scope cl C X.env) fp) tg g)
    (tts : ∀ (s : Shared) (H : Hp) (C : Addr) (cl : List (PySem.Str × Addr)) (fp : List Addr), PTs (X.blk s H scope (compEnvC scope cl C X.env) fp) ifs tt)
    (ii1 : ∀ (s : Shared) (H : Hp) (C : Addr) (cl : List (PySem.Str × Addr)) (fp : List Addr), PI (X.blk s H scope (compEnvC scope cl C X.env) fp) tg1 iter1 wi1)
    (gg1 : ∀ (s : Shared) (H : Hp) (C : Addr) (cl : List (PySem.Str × Addr)) (fp : List Addr), PG (X.blk s H scope (compEnvC scope cl C X.env) fp) tg1 g1)
    (tts1 : ∀ (s : Shared) (H : Hp) (C : Addr) (cl : List (PySem.Str × Addr)) (fp : List Addr), PTs (X.blk s H scope (compEnvC scope cl C X.env) fp) ifs1 tt1)
    (ee : ∀ (s : Shared) (H : Hp) (C : Addr) (cl : List (PySem.Str × Addr)) (fp : List Addr), PE (X.blk s H scope (compEnvC scope cl C X.env) fp) elt te)
    (fold : ∀ x, foldedSetIterable iter X.env x = pure x := by intro _; rfl) (fold1 : ∀ env x, foldedSetIterable iter1 env x = pure x := by intro _ _; rfl) : PE X (.SetComp elt [⟨tg, iter, ifs, 0⟩, ⟨tg1, iter1, ifs1, 0⟩] scope pos) (tSc2G o0 add wi g tt wi1 g1 tt1 te (own.map (·.2)) vs1) := by
  constructor
  intro pins s σ H Q I h
  rw [PpSet.eval_SetComp]
  refine comp2G fresh put quiet nd I ii blk hv gg tts ee fold ii1 gg1 tts1 fold1 h fun D C s' m H' I' q hn f => ⟨m, hn, fun h'' sb => ⟨.ref D, H', ?_, rfl, q⟩⟩
  exact I'.turned (t' := s'.toks) (fun b o hb e => (sb.2 b hb).trans e) f.1 f.2.1 f.2.2.2.1 f.2.2.2.2.1 f.2.2.2.2.2
end
end Fw

set_option maxRecDepth 100000
set_option maxHeartbeats 2000000
/-! x in a list, deep -/
namespace Fw
open PySem PySem.Spec PyProof.Rows L2
def rInL (K : PySem.W.Frag) : R2 := fun x y H Q => ∃ d ds, Dp K H x d ∧ Dp K H y (.list ds) ∧ SeqAt.shaped d = true ∧ SeqAt.shaped (.list ds) = true ∧ Q (.bl (ds.any fun z => PyData.eqv z d)) H
theorem op_inL {X : Cx} (hu : X.A.units + 64 < cLine) : OpR X (compareOp .In) (rInL X.K) := by
  intro pins s σ H x y v u Q I rx ry h
  obtain ⟨d, ds, hd, he, sd, se, q⟩ := h
  obtain ⟨as, r1⟩ := Dp.reads I d x v hd rx
  obtain ⟨bs, r2⟩ := Dp.reads I (.list ds) y u he ry
  have : X.A.units + 1 + min (PyData.depthAll ds) d.depth < cLine := by
    have e : (PyData.canLay0 (.list ds) && decide (PyData.depth (.list ds) ≤ 64)) = true := se
    have := of_decide_eq_true (Bool.and_eq_true_iff.mp e).2
    simp only [PyData.depth] at this
    omega
  exact SeqAt.in_list_reads r2 r1 (SeqAt.canLay_of_shaped se) (SeqAt.canLay_of_shaped sd) this ⟨.bl _, H, I, rfl, q⟩
def pD (p : Int × Int) : PyData := .tuple [.int p.1, .int p.2]
theorem pD_eqv (p q : Int × Int) : PyData.eqv (pD p) (pD q) = decide (p = q) := by
  obtain ⟨a, b⟩ := p
  obtain ⟨c, d⟩ := q
  simp only [pD, PyData.eqv, PyData.eqvAll, Prod.mk.injEq, Bool.and_true]
  by_cases h1 : a = c <;> by_cases h2 : b = d <;> simp [h1, h2, PyData.eqv]
theorem pD_any (p : Int × Int) (ps : List (Int × Int)) : ((ps.map pD).any fun z => PyData.eqv z (pD p)) = decide (p ∈ ps) := by
  induction ps with
  | nil => simp
  | cons q ps ih =>
    rw [List.map_cons, List.any_cons, ih, pD_eqv]
    by_cases h1 : q = p
    · subst h1; simp
    · have h2 : ¬ p = q := fun e => h1 e.symm
      simp [h1, h2]
theorem pD_shaped (p : Int × Int) : SeqAt.shaped (pD p) = true := by simp [SeqAt.shaped, pD, PyData.canLay0, PyData.canLayAll0, PyData.depth, PyData.depthAll]
theorem pD_lay (ps : List (Int × Int)) : PyData.canLayAll0 (ps.map pD) = true := by
  induction ps with
  | nil => simp [PyData.canLayAll0]
  | cons q ps ih => simp [PyData.canLayAll0, pD, PyData.canLay0] at ih ⊢; exact ih
theorem pD_dep (ps : List (Int × Int)) : PyData.depthAll (ps.map pD) ≤ 2 := by
  induction ps with
  | nil => simp [PyData.depthAll]
  | cons q ps ih => simp [PyData.depthAll, pD, PyData.depth] at ih ⊢; omega
theorem pDs_shaped (ps : List (Int × Int)) : SeqAt.shaped (.list (ps.map pD)) = true := by
  have := pD_dep ps
  simp [SeqAt.shaped, PyData.canLay0, pD_lay, PyData.depth]
  omega
theorem pDs_same (ps : List (Int × Int)) : PyData.eqv (.list (ps.map pD)) (.list (ps.map pD)) = true := SeqAt.eqv_refl _ (by simp [PyData.canLay0, pD_lay])
end Fw

set_option maxRecDepth 100000
set_option maxHeartbeats 4000000
/-! sets of whole numbers and of tuples: rules for the walk -/
namespace Fw
open PySem PySem.Spec PyProof.Rows L2
def addI (w : World) : AddT := fun y D H N => ∃ (k : Int) (S : Int → Bool) (n : Nat), y = .int k ∧ H D = some (SetO w D S n) ∧ n + 1 < scanBound ∧ N (upd H D (SetO w D (fun j => S j || decide (j = k)) (if S k = true then n else n + 1)))
def newI (w : World) (D : Addr) : HO := SetO w D (fun _ => false) 0
theorem newI_ok (w : World) : NewSet w (newI w) := fun P H h => setO_new (setR_fresh w)
theorem addI_ok (X : Cx) : AddSelf X (addI X.w) := by
  intro X' e1 e2 e3 e4 pins σ H s E D y z N Q I r h nx
  obtain ⟨k, S, n, rfl, hD, room, q⟩ := h
  obtain ⟨tk, rfl⟩ : ∃ tk, z = Value.int k tk := r
  rw [← e2] at hD q
  exact addInt I hD room fun s' I' => nx s' _ I' q
/-- a set of tuples, by their places and what they are -/
def SetN0 (w : World) (h : Heap) (a : Addr) (L : List EN) : Prop := ∃ es ep t, SetN1 w h a L es ep t
def SetNO (w : World) (a : Addr) (L : List EN) : HO := .ext fun h => SetN0 w h a L
theorem setNO_new {P : Program} {w : World} {H : Hp} {h : Heap} {a : Addr} {L : List EN} (R : SetN0 w h a L) : ObjOk P w H h a (SetNO w a L) := by
  refine ⟨R, ?_, fun h1 h2 q k => ?_⟩
  · obtain ⟨es, ep, t, ⟨⟨o, ho, _⟩, _⟩⟩ := R
    exact ⟨o, ho⟩
  · obtain ⟨es, ep, t, q⟩ := q
    exact ⟨es, ep, t, q.keep fun o e => k o e⟩
/-- a tuple of whole numbers, within tuples too -/
structure KN (K : PySem.W.Frag) (H : Hp) (e : EN) : Prop where
  is : KIs K H (.ref e.1) e.2
  low : e.2.depth ≤ 8
  num : nmK e.2 = true
theorem KN.map {K : PySem.W.Frag} {H H' : Hp} (s : ∀ a xs, SqT K H a xs → SqT K H' a xs) {e : EN} (h : KN K H e) : KN K H' e := ⟨KIs.map s h.is, h.low, h.num⟩
theorem KN.real {X : Cx} {pins : List (Addr × Obj)} {σ : L2.St} {H : Hp} {s : Shared} (I : Inv X pins σ H s) {e : EN} (h : KN X.K H e) : TupK s.heap e.2 e.1 := ⟨kis_real I h.is rfl, h.low, h.num⟩
def newN (w : World) (D : Addr) : HO := SetNO w D []
theorem newN_ok (w : World) : NewSet w (newN w) := fun P H h => setNO_new ⟨_, _, _, setN1_new (Heap.get?_push_size _ rfl)⟩
def addN (w : World) (K : PySem.W.Frag) : AddT := fun y D H N => ∃ (e : EN) (L : List EN), y = .ref e.1 ∧ H D = some (SetNO w D L) ∧ KN K H e ∧ (∀ x ∈ L, KN K H x) ∧ L.length + 1 < 77 ∧
  ∀ L', (e.2 ∈ L.map (·.2) → L' = L) → (e.2 ∉ L.map (·.2) → L'.Perm (e :: L)) → N (upd H D (SetNO w D L'))
theorem addN_ok (X : Cx) (hu : X.A.units + 64 < cLine) : AddSelf X (addN X.w X.K) := by
  intro X' e1 e2 e3 e4 pins σ H s E D y z N Q I r h nx
  obtain ⟨e, L, rfl, hD, ke, kL, few, q⟩ := h
  obtain rfl : z = Value.ref e.1 := r
  rw [← e2] at hD q
  rw [← e3] at ke kL
  obtain ⟨es, ep, t, R⟩ := (I.hok D _ hD).1
  have hx := ke.real I
  refine wpAny_call_entry F.slot_set_add (by obtain ⟨o, ho, hex, _⟩ := R.ob; exact ⟨o, ho, hex.1⟩) F.entry_set_add ?_ (F.args_set_add_2 _ _)
  unfold Builtin.«set.add» Builtin.Frozenset.oneOther
  simp only [List.isEmpty_nil, bind_assoc]
  unfold Builtin.Frozenset.addrOf setAdd
  refine wpAny_bind (wpAny_pure ?_)
  try dsimp only
  refine wpAny_bind (wpAny_pure ?_)
  try dsimp only
  refine wpAny_bind (wpAny_holding (wpAny_bind ((nestedKind X'.prog X'.w).pyHash (by show _ + 8 < cLine; rw [e4]; simp [Around.in1]; omega) hx.hk ?_)))
  refine putIn (s := { s with toks := s.toks + e.2.draws }) R (fun x hx => (kL x hx).real I) hx (by rw [e4]; simp [Around.in1]; omega) few fun b h' L' es' ep' t' sb R' c1 c2 => ?_
  have there : ∃ u, h'.get? D = some u := by
    obtain ⟨o, ho, _⟩ := R'.ob
    exact ⟨o, ho⟩
  have I' : Inv X' pins σ (upd H D (SetNO X'.w D L')) { s with heap := h', toks := s.toks + e.2.draws } :=
    I.write (e := D) (t' := s.toks + e.2.draws) (by rw [hD]; trivial) (.inl rfl) (fun b u hb hu => (sb.2 b hb).trans hu) there (setNO_new ⟨es', ep', t', R'⟩)
  first
    | exact wpAny_pure ⟨_, rfl, nx _ _ I' (q L' c1 c2)⟩
    | exact wpAny_bind (wpAny_pure (wpAny_pure ⟨_, rfl, nx _ _ I' (q L' c1 c2)⟩))
    | exact wpAny_pure ⟨rfl, nx _ _ I' (q L' c1 c2)⟩
theorem refs_vals : ∀ {ks : List EN} {us : List Value}, Vals (ks.map fun e => V.ref e.1) us → us = ks.map fun e => Value.ref e.1
  | [], _, .nil => rfl
  | e :: ks, _, .cons r t => by
    obtain rfl : _ = Value.ref e.1 := r
    rw [refs_vals t]
    rfl
theorem vals_refs : ∀ ks : List EN, Vals (ks.map fun e => V.ref e.1) (ks.map fun e => Value.ref e.1)
  | [] => .nil
  | e :: ks => .cons rfl (vals_refs ks)
section
variable {X : Cx}
/-- set(xs), xs a list of tuples -/
def rSetTN (K : PySem.W.Frag) (w : World) : List V → Hp → VK → Prop := fun xs H Q => ∃ (l : Addr) (ks : List EN), xs = [V.ref l] ∧ SqL K H l (ks.map fun e => V.ref e.1) ∧ (∀ e ∈ ks, KN K H e) ∧ ks.length < 77 ∧
  ∀ a L, H a = none → (∀ e ∈ L, e ∈ ks) → (∀ e ∈ ks, e.2 ∈ L.map (·.2)) → (L.map (·.2)).Nodup → Q (.ref a) (upd H a (SetNO w a L))
theorem cr_setN (quiet : X.calm = true) (hu : X.A.units + 64 < cLine) : CallR X (.type "set") (rSetTN X.K X.w) := by
  intro pins s σ H xs us Q I r h
  obtain ⟨l, ks, rfl, hl, kk, few, q⟩ := h
  rw [Vals.ref1 r]
  obtain ⟨its, rv, pl, _⟩ := I.list hl
  refine setOfN (P := X.prog) (w := X.w) ks (I.ok.hd quiet) pl.isList (by simpa using refs_vals rv) (fun e he => (kk e he).real I) few (by omega) fun h' tk L es ep t R g kp => ?_
  refine ⟨.ref s.heap.objs.size, upd H s.heap.objs.size (SetNO X.w s.heap.objs.size L), I.laid (t' := tk) kp (Nat.le_refl _) (setNO_new ⟨es, ep, t, R⟩), rfl, q _ L (I.hok.fresh (Nat.le_refl _)) (fun e he => List.mem_of_mem_take (g.sub e he)) (fun e he => g.all e (by rw [List.take_length]; exact he)) R.nd⟩
/-- sorted(set) -/
theorem sorted_core (Ord : List Value → Prop) {pins : List (Addr × Obj)} {σ : L2.St} {H : Hp} {s : Shared} {E : Value → Shared → Prop} {a : Addr} {L : List EN} {Q : Value → Shared → Prop} (quiet : X.calm = true) (I : Inv X pins σ H s) (hD : H a = some (SetNO X.w a L))
    (srt : ∀ (s1 : Shared) (b : Addr) (vs : List Value) (Q : Value → Shared → Prop), s1.heap.get? b = some (seqObj "list" vs.toArray 0) → (∀ c o, s.heap.get? c = some o → c ≠ b ∧ s1.heap.get? c = some o) → vs.Perm (L.map fun e => Value.ref e.1) → L.length < 77 →
      (∀ out : List Value, out.Perm vs → Ord out → Q .none { s1 with heap := sortedHeap s1.heap b vs out.toArray }) → wpAny (model X.prog X.w) X.A.in1 (call (.builtin "list.sort") [.ref b]) Q E s1)
    (q : ∀ (L' : List EN) (p : Addr) (s' : Shared), L'.Perm L → Ord (L'.map fun e => Value.ref e.1) → H p = none → Inv X pins σ (upd H p (.lst (L'.map fun e => V.ref e.1))) s' → Q (.ref p) s') :
    wpAny (model X.prog X.w) X.A (call (.builtin "sorted") [.ref a]) Q E s := by
  obtain ⟨es, ep, t, R⟩ := (I.hok a _ hD).1
  refine sortedOf Ord R (I.ok.hd quiet) (fun s1 b vs Q1 h1 h2 h3 h4 => srt s1 b vs Q1 h1 h2 h3 R.fw h4) fun s' p c L' kp g o sz hp pm oo => ?_
  have hn : H p = none := I.hok.fresh sz
  have hl : (L'.map fun e => V.ref e.1).length ≤ sizeLine := by
    have := R.fw
    rw [List.length_map, pm.length_eq, sizeLine_eq]
    omega
  exact q L' p s' pm oo hn (I.call' (ch := []) o (Un.laid kp sz hn) (I.hok.laid kp sz ⟨hl, _, c, vals_refs L', hp⟩) (by rw [g]; exact I.bare) (fun _ z => nomatch z))
def fK (ns : List Int) : NestedKey := .tup (ns.map .num)
theorem fK_inj {ns ms : List Int} (h : fK ns = fK ms) : ns = ms := (List.map_inj_right fun a b e => NestedKey.num.inj e).mp (NestedKey.tup.inj h)
/-- sorted(set), tuples of whole numbers of any lengths -/
def rSortF (K : PySem.W.Frag) (w : World) : List V → Hp → VK → Prop := fun vs H Q => ∃ (a : Addr) (L : List EN) (f : EN → List Int), vs = [V.ref a] ∧ H a = some (SetNO w a L) ∧ (∀ e ∈ L, SqT K H e.1 ((f e).map V.int) ∧ KIs K H (.ref e.1) e.2 ∧ e.2 = fK (f e)) ∧
  ∀ (L' : List EN) p, L'.Perm L → L'.Pairwise (fun e e' => HT.lexLt (f e') (f e) = false) → H p = none → Q (.ref p) (upd H p (.lst (L'.map fun e => V.ref e.1)))
theorem cr_sortF (quiet : X.calm = true) (hu : X.A.units + 64 < cLine) : CallR X (.builtin "sorted") (rSortF X.K X.w) := by
  intro pins s σ H vs us Q I r h
  obtain ⟨a, L, f, rfl, hD, kf, q⟩ := h
  rw [Vals.ref1 r]
  have one : ∀ e ∈ L, ∀ e' ∈ L, e.1 = e'.1 → f e = f e' := fun e he e' he' z => by
    have k1 := kis_real (s := s) I (kf e he).2.1 (u := .ref e.1) rfl
    have k2 := kis_real (s := s) I (kf e' he').2.1 (u := .ref e'.1) rfl
    rw [← z] at k2
    have := NestedIs.inj _ _ _ k1 k2
    rw [(kf e he).2.2, (kf e' he').2.2] at this
    exact fK_inj this
  have kof : ∀ e ∈ L, (fun v => if h : ∃ e ∈ L, v = Value.ref e.1 then f h.choose else []) (Value.ref e.1) = f e := fun e he => by
    have hh : ∃ e' ∈ L, Value.ref e.1 = Value.ref e'.1 := ⟨e, he, rfl⟩
    show (if h : ∃ e' ∈ L, Value.ref e.1 = Value.ref e'.1 then f h.choose else []) = f e
    rw [dif_pos hh]
    obtain ⟨m, ev⟩ := hh.choose_spec
    exact one _ m _ he (Value.ref.inj ev).symm
  generalize (fun v => if h : ∃ e ∈ L, v = Value.ref e.1 then f h.choose else []) = k at kof
  refine sorted_core (SrtO.Srtd fun v u => HT.lexLt (k v) (k u)) quiet I hD (fun s1 b vs Q1 hb kp pm few n => ?_) fun L' p s' pm oo hn I' => ⟨.ref p, _, I', rfl, q L' p pm ?_ hn⟩
  · refine sort_flat (by simp [Around.in1]; omega) hb (by rw [pm.length_eq, List.length_map, sizeLine_eq]; omega) k (fun v hv => ?_) n
    obtain ⟨e, m, rfl⟩ := List.mem_map.mp (pm.mem_iff.mp hv)
    rw [kof e m]
    obtain ⟨its, rv, ⟨o, ho, hc, n', hd⟩, _⟩ := I.tuple (kf e m).1
    exact ⟨e.1, o, its.toArray, n', rfl, (kp _ _ ho).2, hc, hd, by simpa using ints_vals rv⟩
  · have o2 := List.pairwise_map.mp oo
    refine List.Pairwise.imp_of_mem (fun {e e'} he he' z => ?_) o2
    rw [← kof e (pm.mem_iff.mp he), ← kof e' (pm.mem_iff.mp he')]
    exact z
mutual
theorem kis_reads {pins : List (Addr × Obj)} {σ : L2.St} {H : Hp} {s : Shared} (I : Inv X pins σ H s) : ∀ {v : V} {k : NestedKey} {u : Value}, KIs X.K H v k → RelV v u → Reads s.heap u k.data []
  | _, _, _, .int i, r => by
    obtain ⟨t, rfl⟩ : ∃ t, _ = Value.int i t := r
    exact .int i t
  | _, _, _, .str x, r => by
    obtain ⟨t, rfl⟩ : ∃ t, _ = Value.str x t := r
    exact .str x t
  | _, _, _, .tup h all, r => by
    obtain rfl : _ = Value.ref _ := r
    obtain ⟨its, rv, ⟨o, e, c, n, d⟩, _⟩ := I.tuple h
    exact .tuple e c d (by simpa using kall_reads I all rv)
theorem kall_reads {pins : List (Addr × Obj)} {σ : L2.St} {H : Hp} {s : Shared} (I : Inv X pins σ H s) : ∀ {vs : List V} {ks : List NestedKey} {us : List Value}, KAll X.K H vs ks → Vals vs us → ReadsAll s.heap us (NestedKey.datas ks) []
  | _, _, _, .nil, .nil => .nil
  | _, _, _, .cons h r, .cons a b => .cons (kis_reads I h a) (kall_reads I r b)
end
theorem reads_mv {h h' : Heap} (k : ∀ b o, h.get? b = some o → h'.get? b = some o) {v : Value} {d : PyData} {as : List Addr} (r : Reads h v d as) : Reads h' v d as := PyProof.Rows.Reads.keeps (fun b o e => k b o e) r
open PySem.W in
/-- sorted(set), tuples within tuples that are alike: in some order -/
def rSortD (K : PySem.W.Frag) (w : World) : List V → Hp → VK → Prop := fun vs H Q => ∃ (a : Addr) (L : List EN), vs = [V.ref a] ∧ H a = some (SetNO w a L) ∧ (∀ e ∈ L, KIs K H (.ref e.1) e.2) ∧ (∀ e ∈ L, e.2.data.depth ≤ 8) ∧ (∀ e ∈ L, ∀ e' ∈ L, alike e.2.data e'.2.data = true) ∧
  (∀ e ∈ L, ∃ x r, e.2.data = .tuple (x :: r)) ∧ ∀ (L' : List EN) p, L'.Perm L → H p = none → Q (.ref p) (upd H p (.lst (L'.map fun e => V.ref e.1)))
theorem cr_sortD (quiet : X.calm = true) (hu : X.A.units + 64 < cLine) : CallR X (.builtin "sorted") (rSortD X.K X.w) := by
  intro pins s σ H vs us Q I r h
  obtain ⟨a, L, rfl, hD, kk, low, al, ne, q⟩ := h
  rw [Vals.ref1 r]
  refine sorted_core (fun _ => True) quiet I hD (fun s1 b vs Q1 hb kp pm few n => ?_) fun L' p s' pm _ hn I' => ⟨.ref p, _, I', rfl, q L' p pm hn⟩
  exact sort_deep (by simp [Around.in1]; omega) hb few pm (fun e he => reads_mv (fun c o z => (kp c o z).2) (kis_reads I (kk e he) rfl)) low al ne fun out po => n out po trivial
end
end Fw

set_option maxRecDepth 100000
set_option maxHeartbeats 2000000
namespace Fw
open PySem PySem.Spec PyProof.Rows L2
theorem scG_it {J : It} {n : Nat} {G : Hp → Prop} {Y : Nat → Hp → V → Hp → Prop} (wk : Walk J n G Y) {o0 : Addr → HO} {add : AddT} {g : TG} {tt : TT} {te : TE} {vs : List Nat} {σ : L2.St} {H1 : Hp} {D : Addr} {Qd : Hp → Prop} (Pv : Nat → Hp → Prop)
    (h0 : Pv 0 (upd H1 D (o0 D))) (hG : ∀ i H, i ≤ n → Pv i H → G H)
    (hs : ∀ i x H H', i < n → Pv i H → Y i H x H' → g x (wipe σ vs) H' fun σ2 H2 => wipe σ2 vs = wipe σ vs ∧ tt σ2 H2 fun b H3 =>
      if b = true then te σ2 H3 fun y H4 => add y D H4 (Pv (i + 1)) else Pv (i + 1) H3) (hd : ∀ H, Pv n H → Qd H) :
    ∃ W : Nat → Nat → Hp → Prop, (∃ m, W 0 m (upd H1 D (o0 D))) ∧ ∀ i m H, W i m H →
      (J.stop i H ∧ Qd H) ∨ (J.go i H ∧ ∃ Nx : Hp → Prop, (∀ H', Nx H' → ∃ m', m' < m ∧ W (i + 1) m' H') ∧ ∀ x H', J.yld i H x H' → g x (wipe σ vs) H' fun σ2 H2 => wipe σ2 vs = wipe σ vs ∧ tt σ2 H2 fun b H3 =>
        if b = true then te σ2 H3 fun y H4 => add y D H4 Nx else Nx H3) := by
  refine ⟨fun i m H => m = n - i ∧ i ≤ n ∧ Pv i H, ⟨n, by simp, Nat.zero_le _, h0⟩, ?_⟩
  rintro i m H ⟨rfl, hi, p⟩
  have q := hG i H hi p
  by_cases lt : i < n
  · exact .inr ⟨wk.goes i H lt q, Pv (i + 1), fun H' p' => ⟨n - (i + 1), by omega, rfl, lt, p'⟩, fun x H' y => hs i x H H' lt p (wk.yields i H x H' lt q y)⟩
  · obtain rfl : i = n := by omega
    exact .inl ⟨wk.stops H q, hd H p⟩
/-- the inner clause -/
theorem inG_it {J : It} {n : Nat} {G : Hp → Prop} {Y : Nat → Hp → V → Hp → Prop} (wk : Walk J n G Y) {add : AddT} {g : TG} {tt : TT} {te : TE} {vs : List Nat} {σ : L2.St} {H1 : Hp} {D : Addr} {Nx : Hp → Prop} (Pv : Nat → Hp → Prop) (h0 : Pv 0 H1) (hG : ∀ i H, i ≤ n → Pv i H → G H)
    (hs : ∀ i x H H', i < n → Pv i H → Y i H x H' → g x (wipe σ vs) H' fun σ2 H2 => wipe σ2 vs = wipe σ vs ∧ tt σ2 H2 fun b H3 =>
      if b = true then te σ2 H3 fun y H4 => add y D H4 (Pv (i + 1)) else Pv (i + 1) H3) (hd : ∀ H, Pv n H → Nx H) :
    ∃ W : Nat → Nat → Hp → Prop, (∃ m, W 0 m H1) ∧ ∀ i m H, W i m H →
      (J.stop i H ∧ Nx H) ∨ (J.go i H ∧ ∃ Nx1 : Hp → Prop, (∀ H', Nx1 H' → ∃ m', m' < m ∧ W (i + 1) m' H') ∧ ∀ x H', J.yld i H x H' → g x (wipe σ vs) H' fun σ2 H2 => wipe σ2 vs = wipe σ vs ∧ tt σ2 H2 fun b H3 =>
        if b = true then te σ2 H3 fun y H4 => add y D H4 Nx1 else Nx1 H3) := by
  refine ⟨fun i m H => m = n - i ∧ i ≤ n ∧ Pv i H, ⟨n, by simp, Nat.zero_le _, h0⟩, ?_⟩
  rintro i m H ⟨rfl, hi, p⟩
  have q := hG i H hi p
  by_cases lt : i < n
  · exact .inr ⟨wk.goes i H lt q, Pv (i + 1), fun H' p' => ⟨n - (i + 1), by omega, rfl, lt, p'⟩, fun x H' y => hs i x H H' lt p (wk.yields i H x H' lt q y)⟩
  · obtain rfl : i = n := by omega
    exact .inl ⟨wk.stops H q, hd H p⟩
theorem sc2G_it {J : It} {n : Nat} {G : Hp → Prop} {Y : Nat → Hp → V → Hp → Prop} (wk : Walk J n G Y) {o0 : Addr → HO} {add : AddT} {wi1 : TI} {g g1 : TG} {tt tt1 : TT} {te : TE} {vs vs1 : List Nat} {σ : L2.St} {H1 : Hp} {D : Addr} {Qd : Hp → Prop} (Pv : Nat → Hp → Prop)
    (h0 : Pv 0 (upd H1 D (o0 D))) (hG : ∀ i H, i ≤ n → Pv i H → G H)
    (hs : ∀ i x H H', i < n → Pv i H → Y i H x H' → g x (wipe σ vs) H' fun σ2 H2 => wipe σ2 vs = wipe σ vs ∧ tt σ2 H2 fun b H3 =>
      if b = true then wi1 σ2 H3 fun J1 H4 => ∃ W1 : Nat → Nat → Hp → Prop, (∃ m, W1 0 m H4) ∧ ∀ j k H, W1 j k H →
        (J1.stop j H ∧ Pv (i + 1) H) ∨ (J1.go j H ∧ ∃ Nx1 : Hp → Prop, (∀ H', Nx1 H' → ∃ k', k' < k ∧ W1 (j + 1) k' H') ∧ ∀ x H', J1.yld j H x H' → g1 x (wipe σ2 vs1) H' fun σ3 H5 => wipe σ3 vs1 = wipe σ2 vs1 ∧ tt1 σ3 H5 fun b H6 =>
          if b = true then te σ3 H6 fun y H7 => add y D H7 Nx1 else Nx1 H6)
      else Pv (i + 1) H3) (hd : ∀ H, Pv n H → Qd H) :
    ∃ W : Nat → Nat → Hp → Prop, (∃ m, W 0 m (upd H1 D (o0 D))) ∧ ∀ i m H, W i m H →
      (J.stop i H ∧ Qd H) ∨ (J.go i H ∧ ∃ Nx : Hp → Prop, (∀ H', Nx H' → ∃ m', m' < m ∧ W (i + 1) m' H') ∧ ∀ x H', J.yld i H x H' → g x (wipe σ vs) H' fun σ2 H2 => wipe σ2 vs = wipe σ vs ∧ tt σ2 H2 fun b H3 =>
        if b = true then wi1 σ2 H3 fun J1 H4 => ∃ W1 : Nat → Nat → Hp → Prop, (∃ m, W1 0 m H4) ∧ ∀ j k H, W1 j k H →
          (J1.stop j H ∧ Nx H) ∨ (J1.go j H ∧ ∃ Nx1 : Hp → Prop, (∀ H', Nx1 H' → ∃ k', k' < k ∧ W1 (j + 1) k' H') ∧ ∀ x H', J1.yld j H x H' → g1 x (wipe σ2 vs1) H' fun σ3 H5 => wipe σ3 vs1 = wipe σ2 vs1 ∧ tt1 σ3 H5 fun b H6 =>
            if b = true then te σ3 H6 fun y H7 => add y D H7 Nx1 else Nx1 H6)
        else Nx H3) := by
  refine ⟨fun i m H => m = n - i ∧ i ≤ n ∧ Pv i H, ⟨n, by simp, Nat.zero_le _, h0⟩, ?_⟩
  rintro i m H ⟨rfl, hi, p⟩
  have q := hG i H hi p
  by_cases lt : i < n
  · exact .inr ⟨wk.goes i H lt q, Pv (i + 1), fun H' p' => ⟨n - (i + 1), by omega, rfl, lt, p'⟩, fun x H' y => hs i x H H' lt p (wk.yields i H x H' lt q y)⟩
  · obtain rfl : i = n := by omega
    exact .inl ⟨wk.stops H q, hd H p⟩
end Fw

set_option maxRecDepth 100000
set_option maxHeartbeats 4000000
namespace Fw
open PySem PySem.Spec PyProof.Rows L2
def tTru (K : PySem.W.Frag) (ta : TE) : TT := fun σ H Q => ta σ H fun x H' => ∃ k, TruV K x H' k ∧ Q k H'
def halfs (c : Nat) (ps : List Nat) : List Nat := ps.flatMap fun p => [p &&& c, wo p c]
theorem halfs_len (c : Nat) (ps : List Nat) : (halfs c ps).length = 2 * ps.length := by
  induction ps with
  | nil => rfl
  | cons p ps ih =>
    unfold halfs at ih ⊢
    rw [List.flatMap_cons, List.length_append, ih, List.length_cons, List.length_cons, List.length_cons, List.length_nil]
    omega
theorem halfs_snoc (c p : Nat) (ps : List Nat) : halfs c (ps ++ [p]) = halfs c ps ++ [p &&& c, wo p c] := by
  unfold halfs
  rw [List.flatMap_append]
  simp
theorem Pcs.len {n b : Nat} {cs ps : List Nat} (h : Pcs b cs ps) (hb : ∀ s, tb b s → s < n) : ps.length ≤ n := by
  have nd : (ps.map lsb).Nodup := by
    rw [List.nodup_iff_pairwise_ne, List.pairwise_map]
    refine h.dis.imp_of_mem fun {x y} hx hy d e => d _ (lsb_ok (h.ne x hx)).1 (by rw [e]; exact (lsb_ok (h.ne y hy)).1)
  have := L2.nat_nodup_len (ps.map lsb) (List.range n) nd fun x hx => by
    obtain ⟨p, hp, rfl⟩ := List.mem_map.mp hx
    exact List.mem_range.mpr (hb _ (h.sub p hp _ (lsb_ok (h.ne p hp)).1))
  rwa [List.length_map, List.length_range] at this
theorem nats_nth {ms : List Nat} {i : Nat} {x : V} (h : (ms.map fun m => V.int ((m : Nat) : Int))[i]? = some x) : ∃ m, ms[i]? = some m ∧ x = .int ((m : Nat) : Int) := by
  rw [List.getElem?_map] at h
  cases e : ms[i]? with
  | none => rw [e] at h; cases h
  | some m => rw [e] at h; exact ⟨m, rfl, (Option.some.inj h).symm⟩
section
variable {P : Program} {w : World} {K : PySem.W.Frag} {mg : Str → Option Value} {base : Heap} {C J B WC NC : Addr}
def spLeast : Sp := fun vs H Q _ => ∃ m : Nat, vs = [.int (m : Nat)] ∧ m ≠ 0 ∧ Q (.int ((2 ^ lsb m : Nat) : Int)) H
theorem ok_least_of {f : Addr} {fd : FuncData} (FF : Fun K "least_of" "least_of" s_least_of f fd) : FnOk P w K mg base CX0 1 f fd a_least_of spLeast := by
  refine FF.ok sc_least_of (fun vs H Q E h => ?_) (fun cdv A outer s H vs Q E hr h => ?_)
  · obtain ⟨m, rfl, _⟩ := h
    rfl
  · obtain ⟨m, rfl, hm, k⟩ := h
    refine ⟨_, (pss_one (ps_ret (pe_op op_and (pv 0) (pe_un un_neg (pv 0))))), ?_⟩
    obtain ⟨_, _, l3, l4⟩ := lsb_ok hm
    refine ⟨.int (m : Nat), rfl, .int (m : Nat), rfl, _, rfl, _, _, rfl, rfl, ?_⟩
    have e : (fun i j : Int => V.int (Builtin.bitAnd i j)) ((m : Nat) : Int) (-((m : Nat) : Int)) = V.int ((2 ^ lsb m : Nat) : Int) := by
      show V.int _ = _
      rw [low_nat l3 l4]
    rw [e]
    exact k
def spCut : Sp := fun vs H Q _ => ∃ (n b : Nat) (ca : Addr) (cs : List Nat), vs = [.int (b : Nat), .ref ca] ∧ MsAt H ca cs ∧ b ≠ 0 ∧ (∀ s, tb b s → s < n) ∧ n ≤ 400 ∧
  ∀ l H', Same H H' → H l = none → MsAt H' l (cutUp b cs) → Q (.ref l) H'
theorem ok_cut_up {f : Addr} {fd : FuncData} (FF : Fun K "cut_up" "cut_up" s_cut_up f fd) : FnOk P w K mg base CX0 1 f fd a_cut_up spCut := by
  refine FF.ok sc_cut_up (fun vs H Q E h => ?_) (fun cdv A outer s H vs Q E hr h => ?_)
  · obtain ⟨n, b, ca, cs, rfl, _⟩ := h
    rfl
  · obtain ⟨n, b, ca, cs, rfl, hca, hb, hbn, hn, k⟩ := h
    refine ⟨_, (pss_cons (ps_set (i := 2) sc_cut_up.nd rfl (.inl rfl) (pe_lst (pa_cons (pv 0) pa_nil)))
      (pss_cons (ps_for PassesOwn.never rfl (pi_list (pv 1)) (pg_name (i := 3) sc_cut_up.nd rfl (.inr rfl)) (pss_cons (ps_setLc2 (i := 4) (own := [("piece", 5), ("half", 6)]) (vs1 := [6]) rfl sc_cut_up.nd rfl rfl (sw_true rfl rfl rfl (by decide +kernel)) (pi_list (pv 2)) (blkOk_by (own := [("piece", 5), ("half", 6)]) (N := n_cut_up) (sc := defScope s_cut_up) (by decide +kernel)) (by decide) (fun _ _ _ _ _ => (pg_name (i := 5) sc_cut_up.nd rfl (.inl rfl))) (fun _ _ _ _ _ => pts_nil) (fun _ _ _ _ _ => (@id (PI _ _ _ (iTup K _)) (pi_tup (pe_tup (pa_cons (pe_op op_and (pv 5) (pv 3)) (pa_cons (pe_op op_and (pv 5) (pe_un un_inv (pv 3))) pa_nil)))))) (fun _ _ _ _ _ => (pg_name (i := 6) sc_cut_up.nd rfl (.inl rfl))) (fun _ _ _ _ _ => pts_nil) (fun _ _ _ _ _ => (pv 6)))
      (pss_one (ps_setLc (i := 2) (own := [("half", 6)]) (g := gName 6) rfl sc_cut_up.nd rfl rfl (sw_true rfl rfl rfl (by decide +kernel)) (pi_list (pv 4)) (blkOk_by (own := [("half", 6)]) (N := n_cut_up) (sc := defScope s_cut_up) (by decide +kernel)) (fun _ _ _ _ _ => (pg_name (i := 6) sc_cut_up.nd rfl (.inl rfl))) (fun _ _ _ _ _ => (pts_one (@id (PT _ _ (tTru K _)) (pt_truth (pv 6) (by intro _; rfl))))) (fun _ _ _ _ _ => (pv 6))))))
      (pss_one (ps_ret (pv 2))))), ?_⟩
    refine ⟨.int (b : Nat), rfl, by show 1 ≤ sizeLine; decide, fun l0 hl0 => ?_⟩
    have s0 := Same.new (o := .lst [V.int ((b : Nat) : Int)]) hl0
    have g0 : MsAt (upd H l0 (.lst [V.int ((b : Nat) : Int)])) l0 (cutUp b (cs.take 0)) := upd_same
    refine ⟨.ref ca, rfl, ca, rfl, ⟨_, SqL.of (s0 _ _ hca)⟩, for_list (xs := cs.map fun m => V.int ((m : Nat) : Int)) (fun i σ G => ∃ (l : Addr) (y3 y4 y5 y6 : Option V), σ = [some (.int (b : Nat)), some (.ref ca), some (.ref l), y3, y4, y5, y6] ∧ Same H G ∧ H l = none ∧ MsAt G l (cutUp b (cs.take i)))
      ⟨l0, none, none, none, none, rfl, s0, hl0, g0⟩ (fun i σ G _ ⟨_, _, _, _, _, _, sG, _⟩ => SqL.of (sG _ _ hca)) ?_ ?_⟩
    · rintro i x σ G hx ⟨l, y3, y4, y5, y6, rfl, sG, nl, gl⟩
      obtain ⟨c, hc, rfl⟩ := nats_nth hx
      have len := (cutUp_ok hb (cs.take i)).len hbn
      have nx : cutUp b (cs.take (i + 1)) = cut1 c (cutUp b (cs.take i)) := by rw [List.take_add_one, hc, Option.toList_some, cutUp_snoc]
      generalize cutUp b (cs.take i) = ps at gl len nx
      refine ⟨.ref l, rfl, l, rfl, ⟨_, SqL.of gl⟩, fun D hD => ?_⟩
      refine lc2_it walk_list (fun i G' => Same G G' ∧ MsAt G' D (halfs c (ps.take i))) ⟨Same.new hD, upd_same⟩ (fun i G' _ q => SqL.of (q.1 _ _ gl)) ?_ ?_
      · rintro j x GX G0 hj ⟨s1, gD⟩ ⟨rfl, hx1⟩
        obtain ⟨p, hp, rfl⟩ := nats_nth hx1
        rw [List.length_map] at hj
        have nx1 : halfs c (ps.take (j + 1)) = halfs c (ps.take j) ++ [p &&& c, wo p c] := by rw [List.take_add_one, hp, Option.toList_some, halfs_snoc]
        have hl2 : (halfs c (ps.take j)).length ≤ 2 * n := by rw [halfs_len, List.length_take]; omega
        have e1 : (fun i j : Int => V.int (Builtin.bitAnd i j)) ((p : Nat) : Int) ((c : Nat) : Int) = V.int ((p &&& c : Nat) : Int) := by show V.int _ = _; rw [and_nat]
        have e2 : (fun i j : Int => V.int (Builtin.bitAnd i j)) ((p : Nat) : Int) (Builtin.bitNot ((c : Nat) : Int)) = V.int ((wo p c : Nat) : Int) := by show V.int _ = _; rw [wo_nat]
        refine ⟨rfl, .int (p : Nat), rfl, .int (c : Nat), rfl, _, _, rfl, rfl, .int (p : Nat), rfl, .int (c : Nat), rfl, _, rfl, _, _, rfl, rfl, by show 2 ≤ sizeLine; decide, fun tp htp => ?_⟩
        rw [e1, e2]
        have s2 := Same.new (o := .tup [V.int ((p &&& c : Nat) : Int), V.int ((wo p c : Nat) : Int)]) htp
        have gt : (upd G0 tp (.tup [V.int ((p &&& c : Nat) : Int), V.int ((wo p c : Nat) : Int)])) tp = some (.tup [V.int ((p &&& c : Nat) : Int), V.int ((wo p c : Nat) : Int)]) := upd_same
        have gD1 := s2 _ _ gD
        have s12 := s1.trans s2
        generalize upd G0 tp (.tup [V.int ((p &&& c : Nat) : Int), V.int ((wo p c : Nat) : Int)]) = G1 at s2 gt gD1 s12
        refine ⟨tp, rfl, ⟨_, SqT.of gt⟩, ?_⟩
        refine in2_it walk_tup (fun q G2 => Same G G2 ∧ G2 tp = some (.tup [V.int ((p &&& c : Nat) : Int), V.int ((wo p c : Nat) : Int)]) ∧ MsAt G2 D (halfs c (ps.take j) ++ [p &&& c, wo p c].take q)) ⟨s12, gt, by rw [List.take_zero, List.append_nil]; exact gD1⟩ (fun _ _ _ q => SqT.of q.2.1) ?_ ?_
        · rintro q x G2 G3 hq ⟨s3, gt3, gD3⟩ ⟨rfl, hx3⟩
          have hq2 : q < 2 := hq
          obtain ⟨z, hz, rfl⟩ : ∃ z, [p &&& c, wo p c][q]? = some z ∧ x = .int ((z : Nat) : Int) := nats_nth (ms := [p &&& c, wo p c]) hx3
          refine ⟨rfl, .int (z : Nat), rfl, _, gD3, ?_, fun b o e => ?_, ?_, ?_⟩
          · rw [List.length_map, List.length_append, List.length_take]
            exact small1000 (by simp; omega)
          · rw [upd_ne (ne_of_none e hD)]
            exact s3 b o e
          · rw [upd_ne (ne_of gt3 gD3 (by intro z; cases z))]; exact gt3
          · show _ = _
            rw [upd_same, List.take_add_one, hz, Option.toList_some]
            simp only [List.map_append, List.append_assoc]
            rfl
        · rintro G2 ⟨s3, gt3, gD3⟩
          exact ⟨s3, by rw [nx1]; exact gD3⟩
      · rintro G1 ⟨s1, gD⟩
        rw [List.length_map, List.take_length] at gD
        refine ⟨.ref D, rfl, D, rfl, ⟨_, SqL.of gD⟩, fun D2 hD2 => ?_⟩
        refine lc_list (xs := (halfs c ps).map fun m => V.int ((m : Nat) : Int)) (fun j G2 => Same G1 G2 ∧ MsAt G2 D2 (((halfs c ps).take j).filter fun h => h != 0)) ⟨Same.new hD2, upd_same⟩ (fun j G2 _ q => SqL.of (q.1 _ _ gD)) ?_ ?_
        · rintro j x G2 hx2 ⟨s2, gD2⟩
          obtain ⟨z, hz, rfl⟩ := nats_nth hx2
          have hl3 : (((halfs c ps).take j).filter fun h => h != 0).length ≤ 2 * n := by
            have h1 := List.length_filter_le (fun h : Nat => h != 0) ((halfs c ps).take j)
            rw [List.length_take, halfs_len] at h1
            omega
          have tk : ((halfs c ps).take (j + 1)).filter (fun h => h != 0) = ((halfs c ps).take j).filter (fun h => h != 0) ++ if (z != 0) = true then [z] else [] := by
            rw [List.take_add_one, hz, Option.toList_some, List.filter_append]
            congr 1
            cases h : (z != 0) <;> simp [h]
          have tz : (((z : Nat) : Int) != 0) = (z != 0) := by
            cases z with
            | zero => rfl
            | succ z => simp [bne_iff_ne]; omega
          refine ⟨rfl, .int (z : Nat), rfl, (((z : Nat) : Int) != 0), rfl, ?_⟩
          rw [tz]
          cases hz0 : (z != 0) with
          | true =>
            refine iteT ⟨.int (z : Nat), rfl, _, gD2, by rw [List.length_map]; exact small1000 (by omega), fun b o e => by rw [upd_ne (ne_of_none e hD2)]; exact s2 b o e, ?_⟩
            show _ = _
            rw [upd_same, tk, hz0, if_pos rfl, List.map_append]
            rfl
          | false =>
            refine iteF ⟨s2, ?_⟩
            rw [tk, hz0, if_neg Bool.false_ne_true, List.append_nil]
            exact gD2
        · rintro G2 ⟨s2, gD2⟩
          rw [List.length_map, List.take_length] at gD2
          refine ⟨D2, _, _, _, _, rfl, sG.trans (s1.trans s2), ?_, ?_⟩
          · cases e : H D2 with
            | none => rfl
            | some u => rw [s1 _ _ (sG _ _ e)] at hD2; cases hD2
          · rw [nx]
            exact gD2
    · rintro σ G ⟨l, y3, y4, y5, y6, rfl, sG, nl, gl⟩
      rw [List.length_map, List.take_length] at gl
      exact ⟨.ref l, rfl, k l G sG nl gl⟩
end
end Fw

set_option maxRecDepth 100000
set_option maxHeartbeats 4000000
/-! max(xs, default=d) of whole numbers; name = {k: v for ..} on one line; a dict comprehension over any walk -/
namespace Fw
open PySem PySem.Spec PyProof.Rows L2
theorem reads_ints {h : Heap} : ∀ {its : List Value} {ns : List Int}, IntsAre its ns → ReadsAll h its (ns.map PyData.int) []
  | _, _, .nil => .nil
  | _, _, .cons k t r => by
    have := ReadsAll.cons (Reads.int (h := h) k t) (reads_ints r)
    exact this
theorem alike_ints (ns : List Int) : PySem.W.AlikeAll (ns.map PyData.int) := by
  refine ⟨fun x hx y hy => ?_, fun x hx => ?_⟩
  · obtain ⟨a, _, rfl⟩ := List.mem_map.mp hx
    obtain ⟨b, _, rfl⟩ := List.mem_map.mp hy
    simp [PySem.W.alike]
  · obtain ⟨a, _, rfl⟩ := List.mem_map.mp hx
    intro e
    cases e
theorem depth_ints : ∀ ns : List Int, PyData.depthAll (ns.map PyData.int) = 0
  | [] => by simp [PyData.depthAll]
  | n :: ns => by simp [PyData.depthAll, PyData.depth, depth_ints ns]
theorem fold_max (n : Int) : ∀ ns : List Int, ns.foldl max n ∈ n :: ns ∧ ∀ y ∈ n :: ns, y ≤ ns.foldl max n
  | [] => by simp
  | k :: r => by
    obtain ⟨h1, h2⟩ := fold_max (max n k) r
    rw [List.foldl_cons]
    refine ⟨?_, fun y hy => ?_⟩
    · rcases List.mem_cons.mp h1 with e | e
      · rw [e]
        rcases Int.le_total n k with q | q
        · rw [Int.max_eq_right q]
          exact List.mem_cons_of_mem _ List.mem_cons_self
        · rw [Int.max_eq_left q]
          exact List.mem_cons_self
      · exact List.mem_cons_of_mem _ (List.mem_cons_of_mem _ e)
    · have top := h2 (max n k) List.mem_cons_self
      rcases List.mem_cons.mp hy with rfl | hy
      · exact Int.le_trans (Int.le_max_left _ _) top
      · rcases List.mem_cons.mp hy with rfl | hy
        · exact Int.le_trans (Int.le_max_right _ _) top
        · exact h2 y (List.mem_cons_of_mem _ hy)
theorem reads_int {h : Heap} {v : Value} {n : Int} {bs : List Addr} (r : Reads h v (.int n) bs) : ∃ t, v = .int n t := by
  cases r
  exact ⟨_, rfl⟩
section
variable {X : Cx}
def rMaxDf (K : PySem.W.Frag) : List V → List V → Hp → VK → Prop := fun vs zs H Q => ∃ (a : Addr) (ns : List Int) (d : Int), vs = [V.ref a] ∧ zs = [V.int d] ∧ SqL K H a (ns.map V.int) ∧
  ∀ m : Int, ((ns = [] ∧ m = d) ∨ (m ∈ ns ∧ ∀ y ∈ ns, y ≤ m)) → Q (.int m) H
theorem cr_maxDf (calm : X.calm = true) (room : X.A.units + 1 < cLine) : CallRK X (.builtin "max") [PySem.Str.ofString "default"] (rMaxDf X.K) := by
  intro pins s σ H vs zs us ws Q I r rz h
  obtain ⟨a, ns, d, rfl, rfl, hs, q⟩ := h
  obtain ⟨its, rv, hl, _⟩ := I.list hs
  rw [Vals.ref1 r]
  obtain ⟨w, rfl, ew⟩ := vals1 rz
  obtain ⟨td, rfl⟩ : ∃ t, w = Value.int d t := ew
  have iv := intsOfVals rv
  refine PySem.W.max_list_default (I.ok.hd calm) hl.isList (reads_ints iv) (alike_ints ns) (by rw [depth_ints]; exact room) (fun e h' tk kp => ?_) (fun y ys i v h' tk bs e hi rd kp => ?_)
  · have e' : ns = [] := List.map_eq_nil_iff.mp e
    exact ⟨.int d, H, I.kept kp, ⟨_, rfl⟩, q d (.inl ⟨e', rfl⟩)⟩
  · cases ns with
    | nil => cases e
    | cons n ns =>
      rw [List.map_cons] at e
      injection e with e1 e2
      subst e1
      subst e2
      rw [PySem.W.maxD_ints] at rd
      obtain ⟨t, rfl⟩ := reads_int rd
      exact ⟨.int _, H, I.kept kp, ⟨_, rfl⟩, q _ (.inr (fold_max n ns))⟩
/-- name = {..} on one line, the name a local -/
theorem ps_setDc {i : Nat} {y : PySem.Str} {py : Pos} {kx vx tg iter : Expr} {ifs : List Expr} {scope : Scope} {own : List (PySem.Str × Nat)} {pos spos : Pos} {wi : TI} {g : TG} {tt : TT} {tk tv : TE}
    (calm : X.calm = true) (nd : X.N.Nodup) (hy : X.N[i]? = some y) (loc : X.env.scope.names.lookup y = some .local)
    (sw : swapsWith (.DictComp kx vx [⟨tg, iter, ifs, 0⟩] scope pos) (some (.Name y py)) spos.line X.env = pure true) (walk : PI X tg iter wi) (blk : BlkOk X.N X.env.scope scope own)
    (gg : ∀ s H C cl fp, PG (X.blk s H scope (compEnvC scope cl C X.env) fp) tg g)
    (tts : ∀ s H C cl fp, PTs (X.blk s H scope (compEnvC scope cl C X.env) fp) ifs tt)
    (kk : ∀ s H C cl fp, PE (X.blk s H scope (compEnvC scope cl C X.env) fp) kx tk)
    (vv : ∀ s H C cl fp, PE (X.blk s H scope (compEnvC scope cl C X.env) fp) vx tv)
    (fold : ∀ x, foldedSetIterable iter X.env x = pure x := by intro _; rfl) :
    PS X (.Assign [.Name y py] (.DictComp kx vx [⟨tg, iter, ifs, 0⟩] scope pos) spos) (tAsg (tDc wi g tt tk tv (own.map (·.2))) (gName i)) := by
  refine ⟨fun pins s σ H D I asked => ?_⟩
  rw [exec_Assign_Name_used _ _ _ _ sw]
  refine wpAny_bind (wpAny_standAt (wpAny_bind ?_))
  show wpAny _ X.A (do
    let _ ← comprehension (.DictComp kx vx [⟨tg, iter, ifs, 0⟩] scope pos) scope X.env (firstIterPos [⟨tg, iter, ifs, 0⟩] pos) newDict false (eval iter X.env) (some (assign (.Name y py) X.env))) _ _ s
  have asked' : tDc wi g tt tk tv (own.map (·.2)) σ H (fun x H1 => gName i x σ H1 D.nx) := asked
  refine wpAny_bind (thn (dc_core (Qf := fun _ z => SP X pins D .next z) calm nd I walk blk gg tts kk vv fold asked' fun L C z m G I' q ns f => ?_) fun _ z hq => wpAny_pure (wpAny_pure hq))
  show wpAny _ _ (assign (.Name y py) X.env (.ref L)) _ _ _
  refine wpAny_assign_Name (store_ok2 (v := V.ref L) I' nd hy (.inl loc) rfl (fun z2 I2 told => ?_) (.inr loc))
  obtain ⟨a, sb, ha⟩ := told
  obtain ⟨f0, f1, f2, f3, f4, f5⟩ := f
  have other : C ≠ a := ha.elim (fun e => by rw [e]; exact f1) fun e q => f4 y a e q.symm
  refine ⟨m, ns.sameBut sb other, fun h3 sb3 => ⟨_, G, ?_, q⟩⟩
  exact I2.turned (t' := z2.toks) (fun b o hb e => (sb3.2 b hb).trans e) f0 f1 f3 f4 f5
theorem swD_true {kx vx : Expr} {gs : List Comprehension} {scope : Scope} {pos py : Pos} {y : PySem.Str} {l : Nat} {env : Env} (hk : env.scope.kind = .function) (hy : env.scope.names.lookup y = some .local) (hl : (py.line == pos.line) = true)
    (ha : (scope.names.any fun (n, k) => n == y && (k == .local || k == .cell)) = false) : swapsWith (.DictComp kx vx gs scope pos) (some (.Name y py)) l env = pure true := by
  have k1 : env.kindOf y = some .local := hy
  have k2 : env.blockKind = .function := by
    unfold Env.blockKind
    rw [hk]
    rfl
  unfold swapsWith
  simp only [k2, k1, ha, Expr.pos, hl]
  rfl
end
/-- over any walk: Pv by the turn and the heap -/
theorem dc_it {J : It} {n : Nat} {G : Hp → Prop} {Y : Nat → Hp → V → Hp → Prop} (w : Walk J n G Y) {g : TG} {tt : TT} {tk tv : TE} {vs : List Nat} {σ : L2.St} {H1 : Hp} {D : Addr} {Qd : Hp → Prop} (Pv : Nat → Hp → Prop)
    (h0 : Pv 0 (upd H1 D (.dK []))) (hG : ∀ i H, i ≤ n → Pv i H → G H)
    (hs : ∀ i x H H', i < n → Pv i H → Y i H x H' → g x (wipe σ vs) H' fun σ2 H2 => wipe σ2 vs = wipe σ vs ∧ tt σ2 H2 fun b H3 =>
      if b = true then tk σ2 H3 fun y H4 => tv σ2 H4 fun z H5 => ∃ kvs k, y = kV k ∧ H5 D = some (.dK kvs) ∧ kvs.length < sizeLine ∧ Pv (i + 1) (upd H5 D (.dK (putK kvs k z))) else Pv (i + 1) H3) (hd : ∀ H, Pv n H → Qd H) :
    ∃ Wm : Nat → Nat → Hp → Prop, (∃ m, Wm 0 m (upd H1 D (.dK []))) ∧ ∀ i m H, Wm i m H →
      (J.stop i H ∧ Qd H) ∨ (J.go i H ∧ ∃ Nx : Hp → Prop, (∀ H', Nx H' → ∃ m', m' < m ∧ Wm (i + 1) m' H') ∧
        ∀ x H', J.yld i H x H' → g x (wipe σ vs) H' fun σ2 H2 => wipe σ2 vs = wipe σ vs ∧ tt σ2 H2 fun b H3 =>
        if b = true then tk σ2 H3 fun y H4 => tv σ2 H4 fun z H5 => ∃ kvs k, y = kV k ∧ H5 D = some (.dK kvs) ∧ kvs.length < sizeLine ∧ Nx (upd H5 D (.dK (putK kvs k z))) else Nx H3) := by
  refine ⟨fun i m H => m + i = n ∧ Pv i H, ⟨n, rfl, h0⟩, fun i m H hW => ?_⟩
  obtain ⟨e, p⟩ := hW
  have q := hG i H (by omega) p
  cases m with
  | zero =>
    have e2 : i = n := by omega
    subst e2
    exact .inl ⟨w.stops H q, hd H p⟩
  | succ m =>
    have lt : i < n := by omega
    exact .inr ⟨w.goes i H lt q, Pv (i + 1), fun H' p' => ⟨m, Nat.lt_succ_self m, by omega, p'⟩, fun x H' y => hs i x H H' lt p (w.yields i H x H' lt q y)⟩
end Fw

set_option maxRecDepth 100000
set_option maxHeartbeats 4000000
/-! dict comprehensions over anything that is walked; dicts of marks -/
namespace Fw
open PySem PySem.Spec PyProof.Rows L2
/-- numbers marked -/
def kvT (S : List Int) : List (Key × V) := S.map fun n => ((Sum.inl n : Key), V.bl true)
theorem valV_T {x : Int} : ∀ {S : List Int}, valV (kvT S) (Sum.inl x) = if x ∈ S then some (V.bl true) else none
  | [] => rfl
  | n :: S => by
    have ih := valV_T (x := x) (S := S)
    by_cases c : n = x
    · subst c
      rw [if_pos List.mem_cons_self]
      exact valV_pos rfl
    · rw [show valV (kvT (n :: S)) (Sum.inl x) = valV (kvT S) (Sum.inl x) from valV_neg fun e => c (Sum.inl.inj e), ih]
      by_cases m : x ∈ S
      · rw [if_pos m, if_pos (List.mem_cons_of_mem _ m)]
      · rw [if_neg m, if_neg fun z => (List.mem_cons.mp z).elim (fun e => c e.symm) m]
def addT (S : List Int) (x : Int) : List Int := if x ∈ S then S else S ++ [x]
theorem put_T (S : List Int) (x : Int) : putK (kvT S) (Sum.inl x) (.bl true) = kvT (addT S x) := by
  unfold putK addT
  rw [valV_any, valV_T]
  by_cases m : x ∈ S
  · rw [if_pos m, if_pos m]
    simp only [Option.isSome_some, if_true]
    unfold kvT
    rw [List.map_map]
    refine List.map_congr_left fun n hn => ?_
    simp only [Function.comp]
    split <;> rfl
  · rw [if_neg m, if_neg m]
    simp only [Option.isSome_none, Bool.false_eq_true, if_false]
    unfold kvT
    rw [List.map_append]
    rfl
theorem addT_new {S : List Int} {x : Int} (h : x ∉ S) : addT S x = S ++ [x] := if_neg h
theorem addT_mem {S : List Int} {x y : Int} : y ∈ addT S x ↔ y ∈ S ∨ y = x := by
  unfold addT
  split
  · rename_i m
    exact ⟨.inl, fun h => h.elim id fun e => by rw [e]; exact m⟩
  · rw [List.mem_append, List.mem_singleton]
theorem addT_nodup {S : List Int} {x : Int} (h : S.Nodup) : (addT S x).Nodup := by
  unfold addT
  split
  · exact h
  · rename_i m
    exact List.nodup_append.mpr ⟨h, by simp, fun a ha b hb e => m (by rw [← List.mem_singleton.mp hb, ← e]; exact ha)⟩
theorem kvT_len (S : List Int) : (kvT S).length = S.length := by simp [kvT]
/-- numbers, each with a list of its own -/
def kvW (ns : List Int) (la : Int → Addr) : List (Key × V) := ns.map fun n => ((Sum.inl n : Key), V.ref (la n))
theorem valV_W {la : Int → Addr} {x : Int} : ∀ {ns : List Int}, valV (kvW ns la) (Sum.inl x) = if x ∈ ns then some (.ref (la x)) else none
  | [] => rfl
  | n :: ns => by
    have ih := valV_W (la := la) (x := x) (ns := ns)
    by_cases c : n = x
    · subst c
      rw [if_pos List.mem_cons_self]
      exact valV_pos rfl
    · rw [show valV (kvW (n :: ns) la) (Sum.inl x) = valV (kvW ns la) (Sum.inl x) from valV_neg fun e => c (Sum.inl.inj e), ih]
      by_cases m : x ∈ ns
      · rw [if_pos m, if_pos (List.mem_cons_of_mem _ m)]
      · rw [if_neg m, if_neg fun z => (List.mem_cons.mp z).elim (fun e => c e.symm) m]
theorem kvW_snoc {ns : List Int} {la : Int → Addr} {x : Int} {a : Addr} (h : x ∉ ns) : putK (kvW ns la) (Sum.inl x) (.ref a) = kvW (ns ++ [x]) (fun y => if y = x then a else la y) := by
  unfold putK
  rw [valV_any, valV_W, if_neg h]
  simp only [Option.isSome_none, Bool.false_eq_true, if_false]
  unfold kvW
  rw [List.map_append]
  congr 1
  · refine List.map_congr_left fun n hn => ?_
    show ((Sum.inl n : Key), V.ref (la n)) = (Sum.inl n, V.ref (if n = x then a else la n))
    rw [if_neg fun e => h (by rw [← e]; exact hn)]
  · show _ = [((Sum.inl x : Key), V.ref (if x = x then a else la x))]
    rw [if_pos rfl]
theorem kvW_len (ns : List Int) (la : Int → Addr) : (kvW ns la).length = ns.length := by simp [kvW]
end Fw

set_option maxRecDepth 100000
set_option maxHeartbeats 8000000
namespace Fw
open PySem PySem.Spec PyProof.Rows L2 GxR
theorem filter_moreD {S : Int → Bool} {k : Int} : ∀ {l : List Int}, l.Nodup → k ∈ l → (l.filter fun j => S j || decide (j = k)).length = if S k = true then (l.filter S).length else (l.filter S).length + 1
  | [], _, h => by cases h
  | a :: l, nd, h => by
    have nd' := List.nodup_cons.mp nd
    by_cases e : a = k
    · subst e
      have same : (l.filter fun j => S j || decide (j = a)) = l.filter S := by
        refine List.filter_congr fun x hx => ?_
        have : x ≠ a := fun q => nd'.1 (q ▸ hx)
        simp [this]
      by_cases hs : S a = true
      · simp [List.filter_cons, hs, same]
      · simp [List.filter_cons, hs, same]
    · have hk : k ∈ l := (List.mem_cons.mp h).resolve_left fun q => e q.symm
      have ih := filter_moreD (S := S) nd'.2 hk
      by_cases ha : S a = true
      · simp only [List.filter_cons, ha, Bool.true_or, if_true, List.length_cons, ih]
        split <;> rfl
      · have ha' : S a = false := by simpa using ha
        simp only [List.filter_cons, ha', Bool.false_or, decide_eq_false e, Bool.false_eq_true, if_false, ih]
theorem none_lenD (l : List Int) : 0 = (l.filter fun _ => false).length := by
  induction l with
  | nil => rfl
  | cons a l ih => simpa [List.filter_cons] using ih
theorem rng_nodup (n : Nat) : (rng n).Nodup := by
  unfold rng
  exact List.Pairwise.map _ (fun a b h => by intro e; exact h (Int.ofNat.inj e)) (List.nodup_range (n := n))
structure TxtRo (K : PySem.W.Frag) (RC : Addr) : Prop where
  cl : Cls K RC
  nM : NoAttr K RC "_many"
  nB : NoAttr K RC "_before"
  nK : NoAttr K RC "_blocks"
  nF : NoAttr K RC "_fresh"
theorem tb_maskOf {X : List Int} (h : ∀ x ∈ X, 0 ≤ x) (s : Nat) : tb (maskOf X) s ↔ (s : Int) ∈ X := by
  have := maskOf_in (X := X) h (s := (s : Int)) (Int.natCast_nonneg s)
  unfold mIn at this
  rw [Int.toNat_natCast] at this
  unfold tb
  rw [this, sIn_iff]
theorem mem_bef {ss : List T3} {s l x : Int} : x ∈ befS ss s l ↔ ((x, l, s) : T3) ∈ ss := by
  unfold befS
  rw [List.mem_map]
  constructor
  · rintro ⟨⟨a, b, c⟩, h, rfl⟩
    obtain ⟨h1, h2⟩ := List.mem_filter.mp h
    simp only [Bool.and_eq_true, decide_eq_true_eq] at h2
    rw [← h2.1, ← h2.2]
    exact h1
  · intro h
    exact ⟨(x, l, s), List.mem_filter.mpr ⟨h, by simp⟩, rfl⟩
/-- the states with a step by l into a block -/
def cutW (W : Wd) (l : Int) (b : Nat) : Nat := unionOf W.n (rowsM (fun s => befS W.steps s l) W.n) b
theorem cutW_ok {W : Wd} (hin : W.In) {ls : List Int} (hl : ∀ p ∈ W.steps, p.2.1 ∈ ls) : CutOk W ls (cutW W) := by
  refine ⟨hl, fun l _ b hb s hs => ?_⟩
  unfold cutW unionOf tb
  rw [orAll_bit, List.any_eq_true]
  constructor
  · rintro ⟨m, hm, e⟩
    obtain ⟨i, hi, rfl⟩ := List.mem_map.mp hm
    obtain ⟨⟨i0, i1⟩, ib⟩ := mem_bits.mp hi
    obtain ⟨j, rfl⟩ := Int.eq_ofNat_of_zero_le i0
    rw [Int.toNat_natCast, List.getD_eq_getElem?_getD, rowsM_get (by omega)] at e
    have e2 := (tb_maskOf (X := befS W.steps (j : Int) l) (fun x hx => (hin _ (mem_bef.mp hx)).1) s).mp e
    exact ⟨(j : Int), mem_beh.mpr (mem_bef.mp e2), by rw [Int.toNat_natCast]; exact ib⟩
  · rintro ⟨y, hy, yb⟩
    have y' := hin.beh hy
    obtain ⟨j, rfl⟩ := Int.eq_ofNat_of_zero_le y'.1
    refine ⟨maskOf (befS W.steps (j : Int) l), List.mem_map.mpr ⟨(j : Int), mem_bits.mpr ⟨⟨y'.1, y'.2.1⟩, yb⟩, ?_⟩, ?_⟩
    · rw [Int.toNat_natCast, List.getD_eq_getElem?_getD, rowsM_get (by omega)]
      rfl
    · exact (tb_maskOf (X := befS W.steps (j : Int) l) (fun x hx => (hin _ (mem_bef.mp hx)).1) s).mpr (mem_bef.mpr y'.2.2)
theorem cutW_lt {W : Wd} (hin : W.In) (l : Int) (b : Nat) : cutW W l b < 2 ^ W.n := by
  unfold cutW unionOf
  refine orAll_lt fun x hx => ?_
  obtain ⟨i, hi, rfl⟩ := List.mem_map.mp hx
  obtain ⟨⟨i0, i1⟩, _⟩ := mem_bits.mp hi
  rw [List.getD_eq_getElem?_getD, rowsM_get (by omega)]
  exact maskOf_lt fun x hx => ⟨(hin _ (mem_bef.mp hx)).1, (hin _ (mem_bef.mp hx)).2.1⟩
theorem rowsM_lt {W : Wd} (hin : W.In) (l : Int) : ∀ x ∈ rowsM (fun s => befS W.steps s l) W.n, x < 2 ^ W.n := fun x hx => by
  unfold rowsM at hx
  obtain ⟨i, _, rfl⟩ := List.mem_map.mp hx
  exact maskOf_lt fun x hx => ⟨(hin _ (mem_bef.mp hx)).1, (hin _ (mem_bef.mp hx)).2.1⟩
theorem Blk.below {n : Nat} {R : Nat → Nat → Prop} {bs : List Nat} (B : Blk n R bs) {b : Nat} (hb : b ∈ bs) : b < 2 ^ n := Nat.lt_pow_two_of_testBit b fun i hi => by
  cases e : b.testBit i with
  | false => rfl
  | true => exact absurd (B.lt b hb i e) (by omega)
theorem start_blk {Xs : List (List Int)} {ss : List T3} {Ks : List (List Int)} (nd : Ks.Nodup) (mem : ∀ X, X ∈ Ks ↔ X ∈ Xs) : Blk (Wd.n ⟨Xs, ss⟩) (Lk ⟨Xs, ss⟩ 0) (Ks.map (clsM Xs Xs.length)) := by
  have at_ : ∀ {j : Nat}, j < Xs.length → ∃ X, Xs[j]? = some X ∧ Wd.at ⟨Xs, ss⟩ (j : Int) = X := fun {j} hj => ⟨Xs[j], List.getElem?_eq_getElem hj, by unfold Wd.at; rw [Int.toNat_natCast, List.getElem?_eq_getElem hj]; rfl⟩
  refine ⟨fun b hb => ?_, fun b hb s hs => ?_, fun b hb s t hs => ?_, fun s hs => ?_, ?_⟩
  · obtain ⟨X, hX, rfl⟩ := List.mem_map.mp hb
    obtain ⟨j, hj, e⟩ := List.getElem_of_mem ((mem X).mp hX)
    intro z
    have := cls_bit (Xs := Xs) (i := Xs.length) (X := X) (j := j) |>.mpr ⟨hj, by rw [List.getElem?_eq_getElem hj, e]⟩
    rw [z, Nat.zero_testBit] at this
    cases this
  · obtain ⟨X, hX, rfl⟩ := List.mem_map.mp hb
    exact (cls_bit.mp hs).1
  · obtain ⟨X, hX, rfl⟩ := List.mem_map.mp hb
    obtain ⟨s1, s2⟩ := cls_bit.mp hs
    obtain ⟨Y, y1, y2⟩ := at_ s1
    rw [y1] at s2
    cases s2
    show (clsM Xs Xs.length X).testBit t = true ↔ t < Xs.length ∧ Wd.at ⟨Xs, ss⟩ (s : Int) = Wd.at ⟨Xs, ss⟩ (t : Int)
    rw [cls_bit]
    constructor
    · rintro ⟨t1, t2⟩
      obtain ⟨Z, z1, z2⟩ := at_ t1
      rw [z1] at t2
      cases t2
      exact ⟨t1, by rw [y2, z2]⟩
    · rintro ⟨t1, t2⟩
      obtain ⟨Z, z1, z2⟩ := at_ t1
      rw [y2, z2] at t2
      rw [t2]
      exact ⟨t1, z1⟩
  · obtain ⟨Y, y1, y2⟩ := at_ hs
    exact ⟨_, List.mem_map.mpr ⟨Y, (mem Y).mpr (List.mem_of_getElem? y1), rfl⟩, cls_bit.mpr ⟨hs, y1⟩⟩
  · rw [List.pairwise_map]
    refine nd.imp fun {X Y} ne s h1 h2 => ne ?_
    have a := (cls_bit.mp h1).2
    rw [(cls_bit.mp h2).2] at a
    exact (Option.some.inj a).symm
/-- where the parts of the rounds' object are -/
structure RA where
  (p dx ba la fa : Addr)
structure Rst (RC : Addr) (H : Hp) (a : RA) (bas : List Addr) (W : Wd) (ls : List Int) (r : Nat) (bs fr : List Nat) : Prop where
  ob : H a.p = some (.ins RC a.dx [("_many", .int ((W.n : Nat) : Int)), ("_before", .ref a.ba), ("_blocks", .ref a.la), ("_fresh", .ref a.fa)])
  b : H a.ba = some (.lst (bas.map V.ref))
  len : bas.length = ls.length
  rows : ∀ (i : Nat) (c : Addr) (l : Int), bas[i]? = some c → ls[i]? = some l → MsAt H c (rowsM (fun s => befS W.steps s l) W.n)
  l : MsAt H a.la bs
  f : MsAt H a.fa fr
  ri : RI W ls (cutW W) r bs fr
  cut : CutOk W ls (cutW W)
  lsz : ls.length ≤ 4
  frl : fr.length ≤ bs.length
theorem Rst.same {RC : Addr} {H H' : Hp} {a : RA} {bas : List Addr} {W : Wd} {ls : List Int} {r : Nat} {bs fr : List Nat} (z : Same H H') (h : Rst RC H a bas W ls r bs fr) : Rst RC H' a bas W ls r bs fr :=
  ⟨z _ _ h.ob, z _ _ h.b, h.len, fun i c l e1 e2 => z _ _ (h.rows i c l e1 e2), z _ _ h.l, z _ _ h.f, h.ri, h.cut, h.lsz, h.frl⟩
section
variable {P : Program} {w : World} {K : PySem.W.Frag} {mg : Str → Option Value} {base : Heap} {C J B WC NC RC : Addr}
def spRo (K : PySem.W.Frag) (RC : Addr) : Sp := fun vs H Q _ => ∃ (p dx ta tb : Addr) (ras as : List Addr) (W : Wd), vs = [.ref p, .ref ta, .ref tb] ∧ H p = some (.ins RC dx []) ∧ SqT K H ta (ras.map V.ref) ∧ RTp H ras W.facts ∧ SqT K H tb (as.map V.ref) ∧ PAt H as W.steps ∧
  W.In ∧ (∀ p ∈ W.steps, 0 ≤ p.2.1 ∧ p.2.1 < 4) ∧ W.n ≤ 15 ∧
  ∀ (a : RA) (bas : List Addr) (ls : List Int) (bs : List Nat) H', a.p = p → But p H H' → Rst RC H' a bas W ls 0 bs bs → Q .non H'
theorem ok_Rounds_init {f : Addr} {fd : FuncData} (FF : Fun K "__init__" "Rounds.__init__" s_Rounds_init f fd) (T : Txt K mg C J B) (TN : TxtRo K RC) (h_step_masks : Has P w K mg base "step_masks" 1 a_step_masks (spSM K))
    (h_like_at_once : Has P w K mg base "like_at_once" 1 a_like_at_once (spLike K)) : FnOk P w K mg base CX0 2 f fd a_Rounds_init (spRo K RC) := by
  refine FF.ok sc_Rounds_init (fun vs H Q E h => ?_) (fun cdv A outer s H vs Q E hr h => ?_)
  · obtain ⟨p, dx, ta, tb, ras, as, W, rfl, _⟩ := h
    rfl
  · obtain ⟨p, dx, ta, tb, ras, as, W, rfl, g0, hta, rt, htb, pat, hin, hlb, hn, k⟩ := h
    refine ⟨_, (pss_cons (ps_fld (pv 0) (pe_callB call_len_seq rfl T.z_len (by decide +kernel) (pa_cons (pv 1) pa_nil)) rfl)
      (pss_cons (ps_set (i := 3) sc_Rounds_init.nd rfl (.inl rfl) (pe_callB (cr_sortedSet rfl) rfl T.z_sorted (by decide +kernel) (pa_cons (pe_sci (own := [("_", 5), ("label", 4), ("_", 5)]) rfl sc_Rounds_init.nd (pi_tup (pv 2)) (blkOk_by (own := [("_", 5), ("label", 4), ("_", 5)]) (N := n_Rounds_init) (sc := defScope s_Rounds_init) (by decide +kernel)) (fun _ _ _ _ _ => (show PG _ _ (gTup K 3 _) from pg_tup rfl (pgs_cons (pg_name (i := 5) sc_Rounds_init.nd rfl (.inl rfl)) (pgs_cons (pg_name (i := 4) sc_Rounds_init.nd rfl (.inl rfl)) (pgs_cons (pg_name (i := 5) sc_Rounds_init.nd rfl (.inl rfl)) pgs_nil))))) (fun _ _ _ _ _ => pts_nil) (fun _ _ _ _ _ => (pv 4))) pa_nil)))
      (pss_cons (ps_fld (pv 0) (pe_lc (own := [("label", 4)]) (g := gName 4) rfl sc_Rounds_init.nd (pi_list (pv 3)) (blkOk_by (own := [("label", 4)]) (N := n_Rounds_init) (sc := defScope s_Rounds_init) (by decide +kernel)) (fun _ _ _ _ _ => (pg_name (i := 4) sc_Rounds_init.nd rfl (.inl rfl))) (fun _ _ _ _ _ => pts_nil) (fun _ _ _ _ _ => (pe_ix (@id (IxR _ (rIxT K)) ix_tup) (pe_callH h_step_masks (hr.mono (by omega)) (pa_cons (pe_callB (@id (CallR _ _ (rLenS K)) call_len_seq) rfl T.z_len (by decide +kernel) (pa_cons (pv 1) pa_nil)) (pa_cons (pv 2) (pa_cons (pv 4) pa_nil)))) pe_int (fun _ _ => rfl)))) rfl)
      (pss_cons (ps_fld (pv 0) (pe_callH h_like_at_once (hr.mono (by omega)) (pa_cons (pv 1) pa_nil)) rfl)
      (pss_one (ps_fld (pv 0) (pe_fld (pv 0) rfl) rfl)))))), ?_⟩
    have st_ : ∀ {G : Hp} {o : HO}, But p H G → But p H (upd G p o) := fun B b o n e => by rw [upd_ne n]; exact B b o n e
    have sm_ : ∀ {G F : Hp}, But p H G → Same G F → But p H F := fun B s b o n e => s b o (B b o n e)
    refine ⟨.ref ta, rfl, ta, _, rfl, .inr hta, ?_⟩
    rw [List.length_map, rt.1]
    refine ⟨.ref p, rfl, p, RC, dx, _, rfl, g0, TN.cl, TN.nM, by show 0 < 1000; decide, ?_⟩
    rw [show putF "_many" (V.int ((W.facts.length : Nat) : Int)) ([] : List (Str × V)) = ([("_many", V.int ((W.n : Nat) : Int))] : List (Str × V)) from rfl]
    have B1 := st_ (o := .ins RC dx [("_many", V.int ((W.n : Nat) : Int))]) (But.refl p H)
    have g1 : (upd H p (.ins RC dx [("_many", V.int ((W.n : Nat) : Int))])) p = some (.ins RC dx [("_many", V.int ((W.n : Nat) : Int))]) := upd_same
    generalize upd H p (.ins RC dx [("_many", V.int ((W.n : Nat) : Int))]) = H1 at B1 g1
    have tk_ : ∀ {G : Hp}, But p H G → SqT K G ta (ras.map V.ref) ∧ RTp G ras W.facts ∧ SqT K G tb (as.map V.ref) ∧ PAt G as W.steps := fun B =>
      ⟨SqT.butO g0 B hta, rt.map fun b ys e => B _ _ (ne_of e g0 (by intro z; cases z)) e, SqT.butO g0 B htb, pat.butO g0 B⟩
    obtain ⟨hta1, rt1, htb1, pat1⟩ := tk_ B1
    refine ⟨.ref tb, rfl, tb, rfl, ⟨_, htb1⟩, fun D hD => ?_⟩
    refine sci_it walk_tup (fun i G => Same H1 G ∧ ∃ S m, G D = some (SetO w D S m) ∧ m = ((rng 4).filter S).length ∧ ∀ x, S x = true ↔ ∃ q ∈ W.steps.take i, q.2.1 = x)
      ⟨Same.new hD, fun _ => false, 0, upd_same, none_lenD _, fun x => by simp⟩ (fun i G _ q => SqT.same q.1 htb1) ?_ ?_
    · rintro i x G0 G hi ⟨sG, S, m, hS, rfl, hSx⟩ ⟨rfl, hx⟩
      obtain ⟨b, q, rfl, hb, hq, at_⟩ := (pat1.same sG).nth hx
      have lab := hlb _ (List.mem_of_getElem? hq)
      obtain ⟨q1, q2, q3⟩ := q
      simp only at at_ lab
      have l16 := List.length_filter_le S (rng 4)
      rw [rng_len] at l16
      refine ⟨b, _, rfl, SqT.of at_, rfl, .int q1, _, rfl, .int q2, _, rfl, .int q3, _, rfl, rfl, rfl, .int q2, rfl, q2, S, _, rfl, hS, Nat.lt_of_le_of_lt (show _ ≤ 64 by omega) (by decide), fun c o e => by rw [upd_ne (ne_of_none e hD)]; exact sG c o e, _, _, upd_same, (filter_moreD (rng_nodup 4) (rng_mem.mpr lab)).symm, fun y => ?_⟩
      rw [Bool.or_eq_true, decide_eq_true_eq, hSx y, List.take_add_one, hq, Option.toList_some]
      constructor
      · rintro (⟨q, h1, h2⟩ | rfl)
        · exact ⟨q, List.mem_append_left _ h1, h2⟩
        · exact ⟨_, List.mem_append_right _ (List.mem_singleton.mpr rfl), rfl⟩
      · rintro ⟨q, h1, h2⟩
        rcases List.mem_append.mp h1 with h1 | h1
        · exact .inl ⟨q, h1, h2⟩
        · rw [List.mem_singleton.mp h1] at h2
          exact .inr h2.symm
    rintro G ⟨sG, S, m, hS, rfl, hSx⟩
    have l16 := List.length_filter_le S (rng 4)
    rw [rng_len] at l16
    refine ⟨D, S, _, rfl, hS, by omega, fun ls lb asc mem len hlbn => ?_⟩
    rw [List.length_map, pat1.1, List.take_length] at hSx
    have mem' : ∀ x, x ∈ ls ↔ ∃ q ∈ W.steps, q.2.1 = x := fun x => (mem x).trans (hSx x)
    have lsl : ls.length ≤ 4 := by omega
    have slb := Same.new (o := .lst (ls.map V.int)) hlbn
    have gls : IL (upd G lb (.lst (ls.map V.int))) lb ls := upd_same
    have s2 := sG.trans slb
    generalize upd G lb (.lst (ls.map V.int)) = H2 at gls s2
    have B2 := sm_ B1 s2
    have g2 := s2 _ _ g1
    obtain ⟨hta2, rt2, htb2, pat2⟩ := tk_ B2
    refine ⟨.ref lb, rfl, lb, rfl, ⟨_, SqL.of gls⟩, fun L hL => ?_⟩
    refine lc_list (xs := ls.map V.int) (fun i G => Same H2 G ∧ ∃ bas : List Addr, G L = some (.lst (bas.map V.ref)) ∧ bas.length = i ∧ ∀ (j : Nat) (c : Addr) (l : Int), bas[j]? = some c → ls[j]? = some l → MsAt G c (rowsM (fun s => befS W.steps s l) W.n) ∧ c ≠ L)
      ⟨Same.new hL, [], upd_same, rfl, fun j c l e => by simp at e⟩ (fun i G _ q => SqL.of (q.1 _ _ gls)) ?_ ?_
    · rintro i x G hx ⟨sG, bas, gL, bl, hb⟩
      obtain ⟨l, hl, rfl⟩ := ints_nth hx
      have il := (List.getElem?_eq_some_iff.mp hl).1
      have B3 := sm_ B2 sG
      obtain ⟨hta3, rt3, htb3, pat3⟩ := tk_ B3
      refine ⟨rfl, .ref ta, rfl, _, _, rfl, .inr hta3, ?_⟩
      rw [List.length_map, rt.1]
      refine ⟨.ref tb, rfl, .int l, rfl, W.n, tb, l, as, W.steps, rfl, htb3, pat3, hin, by omega, fun r ba fa G' s3 nr nb nf gr gb gf => ?_⟩
      refine ⟨r, _, _, .ref fa, rfl, rfl, SqT.of gr, atI_nat (j := 1) rfl, ?_⟩
      have nfL : fa ≠ L := fun e => by rw [e] at nf; rw [gL] at nf; cases nf
      refine ⟨_, s3 _ _ gL, by rw [List.length_map]; exact small1000 (by omega), fun b o e => by rw [upd_ne (ne_of_none e hL)]; exact s3 _ _ (sG b o e), bas ++ [fa], by rw [upd_same, List.map_append]; rfl, by rw [List.length_append, List.length_singleton, bl], fun j c l' e1 e2 => ?_⟩
      rcases get_snoc e1 with e3 | ⟨e3, rfl⟩
      · obtain ⟨h1, h2⟩ := hb j c l' e3 e2
        exact ⟨by show _ = _; rw [upd_ne h2]; exact s3 _ _ h1, h2⟩
      · rw [e3, bl, hl] at e2
        cases e2
        exact ⟨by show _ = _; rw [upd_ne nfL]; exact gf, nfL⟩
    rintro G3 ⟨s3, bas, gL, bl, hb⟩
    rw [List.length_map] at bl
    have B3 := sm_ B2 s3
    have g3 := s3 _ _ g2
    have npL : L ≠ p := (ne_of_none g2 hL).symm
    refine ⟨.ref p, rfl, p, RC, dx, _, rfl, g3, TN.cl, TN.nB, by show 1 < 1000; decide, ?_⟩
    rw [show putF "_before" (V.ref L) ([("_many", V.int ((W.n : Nat) : Int))] : List (Str × V)) = ([("_many", V.int ((W.n : Nat) : Int)), ("_before", .ref L)] : List (Str × V)) from rfl]
    have B4 := st_ (o := .ins RC dx [("_many", V.int ((W.n : Nat) : Int)), ("_before", .ref L)]) B3
    have g4 : (upd G3 p (.ins RC dx [("_many", V.int ((W.n : Nat) : Int)), ("_before", .ref L)])) p = some (.ins RC dx [("_many", V.int ((W.n : Nat) : Int)), ("_before", .ref L)]) := upd_same
    have gL4 : (upd G3 p (.ins RC dx [("_many", V.int ((W.n : Nat) : Int)), ("_before", .ref L)])) L = some (.lst (bas.map V.ref)) := by rw [upd_ne npL]; exact gL
    have hb4 : ∀ (j : Nat) (c : Addr) (l : Int), bas[j]? = some c → ls[j]? = some l → MsAt (upd G3 p (.ins RC dx [("_many", V.int ((W.n : Nat) : Int)), ("_before", .ref L)])) c (rowsM (fun s => befS W.steps s l) W.n) ∧ c ≠ p := fun j c l e1 e2 => by
      have h1 := (hb j c l e1 e2).1
      have ne : c ≠ p := ne_of h1 g3 (by intro z; cases z)
      exact ⟨by show _ = _; rw [upd_ne ne]; exact h1, ne⟩
    generalize upd G3 p (.ins RC dx [("_many", V.int ((W.n : Nat) : Int)), ("_before", .ref L)]) = H4 at B4 g4 gL4 hb4
    clear B3 g3 gL hb
    obtain ⟨hta4, rt4, htb4, pat4⟩ := tk_ B4
    refine ⟨.ref ta, rfl, ta, ras, W.facts, rfl, hta4, rt4, by show W.n ≤ 900; omega, fun la Ks H5 s5 nla gla nd mm => ?_⟩
    have B5 := sm_ B4 s5
    have g5 := s5 _ _ g4
    have npl : la ≠ p := (ne_of_none g4 nla).symm
    refine ⟨.ref p, rfl, p, RC, dx, _, rfl, g5, TN.cl, TN.nK, by show 2 < 1000; decide, ?_⟩
    rw [show putF "_blocks" (V.ref la) ([("_many", V.int ((W.n : Nat) : Int)), ("_before", .ref L)] : List (Str × V)) = ([("_many", V.int ((W.n : Nat) : Int)), ("_before", .ref L), ("_blocks", .ref la)] : List (Str × V)) from rfl]
    have B6 := st_ (o := .ins RC dx [("_many", V.int ((W.n : Nat) : Int)), ("_before", .ref L), ("_blocks", .ref la)]) B5
    have g6 : (upd H5 p (.ins RC dx [("_many", V.int ((W.n : Nat) : Int)), ("_before", .ref L), ("_blocks", .ref la)])) p = some (.ins RC dx [("_many", V.int ((W.n : Nat) : Int)), ("_before", .ref L), ("_blocks", .ref la)]) := upd_same
    refine ⟨.ref p, rfl, p, RC, dx, _, .ref la, rfl, g6, TN.cl, TN.nK, rfl, ?_⟩
    refine ⟨.ref p, rfl, p, RC, dx, _, rfl, g6, TN.cl, TN.nF, by show 3 < 1000; decide, ?_⟩
    rw [show putF "_fresh" (V.ref la) ([("_many", V.int ((W.n : Nat) : Int)), ("_before", .ref L), ("_blocks", .ref la)] : List (Str × V)) = ([("_many", V.int ((W.n : Nat) : Int)), ("_before", .ref L), ("_blocks", .ref la), ("_fresh", .ref la)] : List (Str × V)) from rfl]
    have two : ∀ {o o' : HO}, upd (upd H5 p o) p o' = upd H5 p o' := fun {o o'} => by
      funext b
      by_cases c : b = p
      · subst c; rw [upd_same, upd_same]
      · rw [upd_ne c, upd_ne c, upd_ne c]
    rw [two]
    have blk0 := start_blk (ss := W.steps) nd mm
    have I0 : RI W ls (cutW W) 0 (Ks.map (clsM W.facts W.facts.length)) (Ks.map (clsM W.facts W.facts.length)) := ⟨blk0, fun b h => h, fun b h n => absurd h n⟩
    refine k ⟨p, dx, L, la, la⟩ bas ls _ _ rfl (st_ B5) ⟨upd_same, by rw [upd_ne npL]; exact s5 _ _ gL4, bl, fun i c l e1 e2 => ?_, by show _ = _; rw [upd_ne npl]; exact gla, by show _ = _; rw [upd_ne npl]; exact gla, I0, cutW_ok hin fun q hq => (mem' _).mpr ⟨q, hq, rfl⟩, lsl, Nat.le_refl _⟩
    obtain ⟨h1, h2⟩ := hb4 i c l e1 e2
    show _ = _
    rw [upd_ne h2]
    exact s5 _ _ h1
end
end Fw

set_option maxRecDepth 100000
set_option maxHeartbeats 8000000
namespace Fw
open PySem PySem.Spec PyProof.Rows L2 GxR
theorem keptB_snoc {bs cs : List Nat} {b : Nat} : keptB (bs ++ [b]) cs = keptB bs cs ++ if (cutUp b cs).length = 1 then [b] else [] := by
  unfold keptB
  rw [List.filter_append]
  congr 1
  by_cases h : (cutUp b cs).length = 1 <;> simp [h]
theorem freshB_snoc {bs cs : List Nat} {b : Nat} : freshB (bs ++ [b]) cs = freshB bs cs ++ if (cutUp b cs).length = 1 then [] else cutUp b cs := by
  unfold freshB
  rw [List.flatMap_append]
  simp
theorem keptB_len (bs cs : List Nat) : (keptB bs cs).length ≤ bs.length := List.length_filter_le _ _
section
variable {P : Program} {w : World} {K : PySem.W.Frag} {mg : Str → Option Value} {base : Heap} {C J B WC NC RC : Addr}
def spAdv (RC : Addr) : Sp := fun vs H Q _ => ∃ (a : RA) (bas : List Addr) (W : Wd) (ls : List Int) (r : Nat) (bs fr : List Nat), vs = [.ref a.p] ∧ Rst RC H a bas W ls r bs fr ∧ W.In ∧ W.n ≤ 15 ∧
  ∀ (a' : RA) (cs : List Nat) H', a'.p = a.p → But a.p H H' → Rst RC H' a' bas W ls (r + 1) (keptB bs cs ++ freshB bs cs) (freshB bs cs) → (∀ c, c ∈ cs ↔ ∃ l ∈ ls, ∃ b ∈ fr, c = cutW W l b) → Q (.bl (decide (0 < (freshB bs cs).length))) H'
theorem ok_Rounds_advance {f : Addr} {fd : FuncData} (FF : Fun K "advance" "Rounds.advance" s_Rounds_advance f fd) (T : Txt K mg C J B) (TN : TxtRo K RC) (h_led : Has P w K mg base "led" 2 a_led spLed)
    (h_cut_up : Has P w K mg base "cut_up" 1 a_cut_up spCut) : FnOk P w K mg base CX0 3 f fd a_Rounds_advance (spAdv RC) := by
  refine FF.ok sc_Rounds_advance (fun vs H Q E h => ?_) (fun cdv A outer s H vs Q E hr h => ?_)
  · obtain ⟨a, bas, W, ls, r, bs, fr, rfl, _⟩ := h
    rfl
  · obtain ⟨a, bas, W, ls, r, bs, fr, rfl, R, hin, hn, k⟩ := h
    refine ⟨_, (pss_cons (ps_set (i := 2) sc_Rounds_advance.nd rfl (.inl rfl) (pe_callB (cr_sortedSet rfl) rfl T.z_sorted (by decide +kernel) (pa_cons (pe_sc2 (newI_ok w) (show AddSelf _ (addI w) from addI_ok _) (own := [("before", 6), ("block", 1)]) (vs1 := [1]) rfl sc_Rounds_advance.nd (pi_list (pe_fld (pv 0) rfl)) (blkOk_by (own := [("before", 6), ("block", 1)]) (N := n_Rounds_advance) (sc := defScope s_Rounds_advance) (by decide +kernel)) (by decide) (fun _ _ _ _ _ => (pg_name (i := 6) sc_Rounds_advance.nd rfl (.inl rfl))) (fun _ _ _ _ _ => pts_nil) (fun _ _ _ _ _ => (@id (PI _ _ _ (iList K _)) (pi_list (show PE _ _ (tFld K _ "_fresh") from pe_fld (pv 0) rfl)))) (fun _ _ _ _ _ => (pg_name (i := 1) sc_Rounds_advance.nd rfl (.inl rfl))) (fun _ _ _ _ _ => pts_nil) (fun _ _ _ _ _ => (pe_callH h_led (hr.mono (by omega)) (pa_cons (pv 6) (pa_cons (pv 1) pa_nil))))) pa_nil)))
      (pss_cons (ps_set (i := 3) sc_Rounds_advance.nd rfl (.inl rfl) (pe_lst pa_nil))
      (pss_cons (ps_set (i := 4) sc_Rounds_advance.nd rfl (.inl rfl) (pe_lst pa_nil))
      (pss_cons (ps_for PassesOwn.never rfl (pi_list (pe_fld (pv 0) rfl)) (pg_name (i := 1) sc_Rounds_advance.nd rfl (.inl rfl)) (pss_cons (ps_set (i := 5) sc_Rounds_advance.nd rfl (.inl rfl) (pe_callH h_cut_up (hr.mono (by omega)) (pa_cons (pv 1) (pa_cons (pv 2) pa_nil))))
      (pss_one (ps_if (pt_cmpR op_eq (pe_callB call_len_seq rfl T.z_len (by decide +kernel) (pa_cons (pv 5) pa_nil)) pe_int (nomark _)) (pss_one (ps_expr (pe_bm PySem.F.plainAttrs_list PySem.F.slot_list_append PySem.F.type_list_append mt_append (pv 3) (pa_cons (pv 1) pa_nil)))) (pss_one (ps_expr (pe_bm PySem.F.plainAttrs_list PySem.F.slot_list_extend PySem.F.type_list_extend mt_extend (pv 4) (pa_cons (pv 5) pa_nil))))))))
      (pss_cons (ps_fld (pv 0) (pe_op op_cat (pv 3) (pv 4)) rfl)
      (pss_cons (ps_fld (pv 0) (pv 4) rfl)
      (pss_one (ps_ret (pe_cmpR op_gt (pe_callB call_len_seq rfl T.z_len (by decide +kernel) (pa_cons (pv 4) pa_nil)) pe_int (nomark _)))))))))), ?_⟩
    have E0 := Lk.eqv W r W.n
    have bl : bs.length ≤ 15 := Nat.le_trans (R.ri.blk.len E0) hn
    have fl15 : fr.length ≤ 15 := Nat.le_trans R.frl bl
    have nat_ : ∀ l b, 0 ≤ ((cutW W l b : Nat) : Int) := fun l b => Int.natCast_nonneg _
    refine ⟨.ref a.p, rfl, a.p, RC, a.dx, _, .ref a.ba, rfl, R.ob, TN.cl, TN.nB, rfl, a.ba, rfl, ⟨_, SqL.of R.b⟩, fun D hD => ?_⟩
    refine sc2G_it walk_list (fun i G => Same H G ∧ ∃ S m, G D = some (SetO w D S m) ∧ m ≤ i * fr.length ∧ ∀ x, S x = true ↔ ∃ l ∈ ls.take i, ∃ b ∈ fr, x = ((cutW W l b : Nat) : Int))
      ⟨Same.new hD, fun _ => false, 0, upd_same, Nat.zero_le _, fun x => by simp⟩ (fun i G _ q => SqL.of (q.1 _ _ R.b)) ?_ ?_
    · rintro i x GX G hi ⟨sG, S, m, gD, hm, hS⟩ ⟨rfl, hx⟩
      rw [List.length_map] at hi
      rw [List.getElem?_map, List.getElem?_eq_getElem hi] at hx
      obtain rfl := Option.some.inj hx
      have hc : bas[i]? = some bas[i] := List.getElem?_eq_getElem hi
      have il : i < ls.length := by rw [← R.len]; exact hi
      have hl : ls[i]? = some ls[i] := List.getElem?_eq_getElem il
      have row := R.rows i _ _ hc hl
      have i4 : i < 4 := Nat.lt_of_lt_of_le il R.lsz
      generalize bas[i] = c at hc row
      generalize ls[i] = l at hl row
      refine ⟨rfl, .ref a.p, rfl, a.p, RC, a.dx, _, .ref a.fa, rfl, sG _ _ R.ob, TN.cl, TN.nF, rfl, a.fa, rfl, ⟨_, SqL.of (sG _ _ R.f)⟩, ?_⟩
      refine inG_it walk_list (fun j G => Same H G ∧ ∃ S m, G D = some (SetO w D S m) ∧ m ≤ i * fr.length + j ∧ ∀ x, S x = true ↔ (∃ l ∈ ls.take i, ∃ b ∈ fr, x = ((cutW W l b : Nat) : Int)) ∨ ∃ b ∈ fr.take j, x = ((cutW W l b : Nat) : Int))
        ⟨sG, S, m, gD, hm, fun x => by rw [hS]; simp⟩ (fun i G _ q => SqL.of (q.1 _ _ R.f)) ?_ ?_
      · rintro j x GX G1 hj ⟨s1, S1, m1, gD1, hm1, hS1⟩ ⟨rfl, hx1⟩
        obtain ⟨b, hb, rfl⟩ := nats_nth hx1
        rw [List.length_map] at hj
        have mb := R.ri.sub b (List.mem_of_getElem? hb)
        have fl2 : i * fr.length ≤ 3 * 15 := Nat.mul_le_mul (by omega) fl15
        refine ⟨rfl, .ref c, rfl, .int (b : Nat), rfl, W.n, b, c, _, rfl, s1 _ _ row, rowsM_len _ _, by omega, R.ri.blk.below mb, rowsM_lt hin l, fun G2 s2 => ?_⟩
        refine ⟨_, S1, m1, rfl, s2 _ _ gD1, Nat.lt_of_le_of_lt (show _ ≤ 100 by omega) (by decide), fun b o e => by rw [upd_ne (ne_of_none e hD)]; exact s2 _ _ (s1 b o e), _, _, upd_same, by split <;> omega, fun y => ?_⟩
        rw [Bool.or_eq_true, decide_eq_true_eq, hS1, List.take_add_one, hb, Option.toList_some, or_assoc]
        refine or_congr Iff.rfl ?_
        constructor
        · rintro (⟨b', h1, h2⟩ | rfl)
          · exact ⟨b', List.mem_append_left _ h1, h2⟩
          · exact ⟨b, List.mem_append_right _ (List.mem_singleton.mpr rfl), rfl⟩
        · rintro ⟨b', h1, h2⟩
          rcases List.mem_append.mp h1 with h1 | h1
          · exact .inl ⟨b', h1, h2⟩
          · rw [List.mem_singleton.mp h1] at h2
            exact .inr h2
      · rintro G1 ⟨s1, S1, m1, gD1, hm1, hS1⟩
        rw [List.length_map] at hm1 hS1
        rw [List.take_length] at hS1
        refine ⟨s1, S1, m1, gD1, by rw [Nat.add_mul, Nat.one_mul]; exact hm1, fun y => ?_⟩
        rw [hS1, List.take_add_one, hl, Option.toList_some]
        constructor
        · rintro (⟨l', h1, h2⟩ | h)
          · exact ⟨l', List.mem_append_left _ h1, h2⟩
          · exact ⟨l, List.mem_append_right _ (List.mem_singleton.mpr rfl), h⟩
        · rintro ⟨l', h1, h2⟩
          rcases List.mem_append.mp h1 with h1 | h1
          · exact .inl ⟨l', h1, h2⟩
          · rw [List.mem_singleton.mp h1] at h2
            exact .inr h2
    rintro G ⟨sG, S, m, gD, hm, hS⟩
    rw [List.length_map, R.len] at hm hS
    rw [List.take_length] at hS
    have m60 : m ≤ 4 * 15 := Nat.le_trans hm (Nat.mul_le_mul R.lsz fl15)
    refine ⟨D, S, _, rfl, gD, by omega, fun ns cl asc mem len hcl => ?_⟩
    have s1 := Same.new (o := .lst (ns.map V.int)) hcl
    obtain ⟨cs, rfl⟩ : ∃ cs : List Nat, ns = cs.map fun c => ((c : Nat) : Int) := by
      refine ⟨ns.map Int.toNat, ?_⟩
      rw [List.map_map]
      symm
      refine (List.map_congr_left fun x hx => ?_).trans (List.map_id _)
      obtain ⟨l, _, b, _, rfl⟩ := (hS x).mp ((mem x).mp hx)
      simp
    have hcs : ∀ c, c ∈ cs ↔ ∃ l ∈ ls, ∃ b ∈ fr, c = cutW W l b := fun c => by
      have h1 : c ∈ cs ↔ ((c : Nat) : Int) ∈ cs.map fun c => ((c : Nat) : Int) := by
        rw [List.mem_map]
        exact ⟨fun h => ⟨c, h, rfl⟩, fun ⟨d, h, e⟩ => by rw [← Int.ofNat.inj e]; exact h⟩
      rw [h1, mem, hS]
      exact ⟨fun ⟨l, hl, b, hb, e⟩ => ⟨l, hl, b, hb, Int.ofNat.inj e⟩, fun ⟨l, hl, b, hb, e⟩ => ⟨l, hl, b, hb, by rw [e]⟩⟩
    have gcl : MsAt (upd G cl (.lst ((cs.map fun c => ((c : Nat) : Int)).map V.int))) cl cs := by
      show _ = _
      rw [upd_same, List.map_map]
      rfl
    have sH1 := sG.trans s1
    generalize upd G cl (.lst ((cs.map fun c => ((c : Nat) : Int)).map V.int)) = H1 at gcl sH1
    clear sG s1 gD hcl
    refine ⟨Nat.zero_le _, fun kl hkl => ?_⟩
    have s2 := Same.new (o := .lst []) hkl
    have gk2 : MsAt (upd H1 kl (.lst [])) kl [] := upd_same
    have nHk : H kl = none := by
      cases e : H kl with
      | none => rfl
      | some u => rw [sH1 _ _ e] at hkl; cases hkl
    have sH2 := sH1.trans s2
    have gcl2 := s2 _ _ gcl
    have nck : cl ≠ kl := ne_of_none gcl hkl
    generalize upd H1 kl (.lst []) = H2 at gk2 sH2 gcl2
    clear s2 hkl
    refine ⟨Nat.zero_le _, fun fl hfl => ?_⟩
    have s3 := Same.new (o := .lst []) hfl
    have gf3 : MsAt (upd H2 fl (.lst [])) fl [] := upd_same
    have nHf : H fl = none := by
      cases e : H fl with
      | none => rfl
      | some u => rw [sH2 _ _ e] at hfl; cases hfl
    have sH3 := sH2.trans s3
    have gcl3 := s3 _ _ gcl2
    have gk3 := s3 _ _ gk2
    have nkf : kl ≠ fl := ne_of_none gk2 hfl
    have ncf : cl ≠ fl := ne_of_none gcl2 hfl
    generalize upd H2 fl (.lst []) = H3 at gf3 sH3 gcl3 gk3
    clear s3 hfl sH2 gcl2 gk2 sH1 gcl
    have nz : ∀ b ∈ bs, b ≠ 0 := R.ri.blk.ne
    refine ⟨.ref a.p, rfl, a.p, RC, a.dx, _, .ref a.la, rfl, sH3 _ _ R.ob, TN.cl, TN.nK, rfl, a.la, rfl, ⟨_, SqL.of (sH3 _ _ R.l)⟩, for_list (xs := bs.map fun m => V.int ((m : Nat) : Int)) (fun i σ G => ∃ y1 y5 y6, σ = [some (.ref a.p), y1, some (.ref cl), some (.ref kl), some (.ref fl), y5, y6] ∧ Same H G ∧ MsAt G cl cs ∧ MsAt G kl (keptB (bs.take i) cs) ∧ MsAt G fl (freshB (bs.take i) cs))
      ⟨none, none, none, rfl, sH3, gcl3, gk3, gf3⟩ (fun i σ G _ ⟨_, _, _, _, sG, _⟩ => SqL.of (sG _ _ R.l)) ?_ ?_⟩
    · rintro i x σ G hx ⟨y1, y5, y6, rfl, sG, gc, gk, gf⟩
      obtain ⟨b, hb, rfl⟩ := nats_nth hx
      have mb := List.mem_of_getElem? hb
      have B1 := split_len (cs := cs) (bs := bs.take i) fun x hx => nz x (List.mem_of_mem_take hx)
      have Bk := (R.ri.blk.cut cs)
      have nx1 : keptB (bs.take (i + 1)) cs = keptB (bs.take i) cs ++ if (cutUp b cs).length = 1 then [b] else [] := by rw [List.take_add_one, hb, Option.toList_some, keptB_snoc]
      have nx2 : freshB (bs.take (i + 1)) cs = freshB (bs.take i) cs ++ if (cutUp b cs).length = 1 then [] else cutUp b cs := by rw [List.take_add_one, hb, Option.toList_some, freshB_snoc]
      have lk := keptB_len (bs.take i) cs
      have lti : (bs.take i).length ≤ 15 := by rw [List.length_take]; omega
      have lf : (freshB (bs.take (i + 1)) cs).length ≤ 15 := by
        have h1 : freshB bs cs = freshB (bs.take (i + 1)) cs ++ freshB (bs.drop (i + 1)) cs := by
          unfold freshB
          rw [← List.flatMap_append, List.take_append_drop]
        have E1 := Lk.eqv W (r + 1) W.n
        have h2 := (R.ri.step hin R.cut hcs).blk.len E1
        rw [h1, List.length_append, List.length_append] at h2
        omega
      refine ⟨.int (b : Nat), rfl, .ref cl, rfl, W.n, b, cl, cs, rfl, gc, nz b mb, R.ri.blk.lt b mb, by omega, fun pl G2 s2 npl gp => ?_⟩
      refine ⟨.ref pl, rfl, pl, _, rfl, .inl (SqL.of gp), ?_⟩
      rw [List.length_map]
      have gk2 := s2 _ _ gk
      have gf2 := s2 _ _ gf
      have gc2 := s2 _ _ gc
      have sG2 := sG.trans s2
      refine ⟨rfl, _, rfl, ite2 (fun c => ?_) (fun c => ?_)⟩
      · have c1 : (cutUp b cs).length = 1 := by
          have := V.int.inj (of_decide_eq_true c)
          omega
        rw [if_pos c1] at nx1 nx2
        refine ⟨.ref kl, rfl, .inl ⟨rfl, _, SqL.of gk2⟩, .int (b : Nat), rfl, kl, _, _, rfl, rfl, gk2, by rw [List.length_map]; exact small1000 (by omega), _, _, _, rfl, fun o u e => by rw [upd_ne (ne_of_none e nHk)]; exact sG2 o u e, by show _ = _; rw [upd_ne nck]; exact gc2, ?_, ?_⟩
        · show _ = _
          rw [upd_same, nx1, List.map_append]
          rfl
        · show _ = _
          rw [upd_ne nkf.symm, nx2, List.append_nil]
          exact gf2
      · have c1 : ¬ (cutUp b cs).length = 1 := fun e => c (decide_eq_true (by rw [e]; rfl))
        rw [if_neg c1] at nx1 nx2
        have l2 : (freshB (bs.take i) cs).length + (cutUp b cs).length ≤ 15 := by rw [nx2, List.length_append] at lf; exact lf
        refine ⟨.ref fl, rfl, .inl ⟨rfl, _, SqL.of gf2⟩, .ref pl, rfl, fl, pl, _, _, rfl, rfl, gf2, gp, ?_, _, _, _, rfl, fun o u e => by rw [upd_ne (ne_of_none e nHf)]; exact sG2 o u e, by show _ = _; rw [upd_ne ncf]; exact gc2, ?_, ?_⟩
        · rw [List.length_map, List.length_map]
          exact Nat.le_trans l2 (by decide)
        · show _ = _
          rw [upd_ne nkf, nx1, List.append_nil]
          exact gk2
        · show _ = _
          rw [upd_same, nx2, List.map_append]
    · rintro σ G ⟨y1, y5, y6, rfl, sG, gc, gk, gf⟩
      rw [List.length_map, List.take_length] at gk gf
      have J := R.ri.step hin R.cut hcs
      have jl := J.blk.len (Lk.eqv W (r + 1) W.n)
      rw [List.length_append] at jl
      refine ⟨.ref kl, rfl, .ref fl, rfl, kl, fl, _, _, rfl, rfl, gk, gf, ?_, fun q hq => ?_⟩
      · rw [List.length_map, List.length_map]
        exact Nat.le_trans (Nat.le_trans jl hn) (by decide)
      have nHq : H q = none := by
        cases e : H q with
        | none => rfl
        | some u => rw [sG _ _ e] at hq; cases hq
      have s4 := Same.new (o := .lst ((keptB bs cs).map (fun m => V.int ((m : Nat) : Int)) ++ (freshB bs cs).map fun m => V.int ((m : Nat) : Int))) hq
      have gq : MsAt (upd G q (.lst ((keptB bs cs).map (fun m => V.int ((m : Nat) : Int)) ++ (freshB bs cs).map fun m => V.int ((m : Nat) : Int)))) q (keptB bs cs ++ freshB bs cs) := by
        show _ = _
        rw [upd_same, List.map_append]
      have gf4 := s4 _ _ gf
      have s5 := sG.trans s4
      generalize upd G q (.lst ((keptB bs cs).map (fun m => V.int ((m : Nat) : Int)) ++ (freshB bs cs).map fun m => V.int ((m : Nat) : Int))) = G4 at gq gf4 s5
      have ob5 := s5 _ _ R.ob
      have nqp : q ≠ a.p := (ne_of_none R.ob nHq).symm
      have nfp : fl ≠ a.p := (ne_of_none R.ob nHf).symm
      refine ⟨.ref a.p, rfl, a.p, RC, a.dx, _, rfl, ob5, TN.cl, TN.nK, by show 4 < 1000; decide, ?_⟩
      rw [show putF "_blocks" (V.ref q) ([("_many", V.int ((W.n : Nat) : Int)), ("_before", .ref a.ba), ("_blocks", .ref a.la), ("_fresh", .ref a.fa)] : List (Str × V)) = ([("_many", V.int ((W.n : Nat) : Int)), ("_before", .ref a.ba), ("_blocks", .ref q), ("_fresh", .ref a.fa)] : List (Str × V)) from rfl]
      refine ⟨.ref fl, rfl, .ref a.p, rfl, a.p, RC, a.dx, _, rfl, upd_same, TN.cl, TN.nF, by show 4 < 1000; decide, ?_⟩
      rw [show putF "_fresh" (V.ref fl) ([("_many", V.int ((W.n : Nat) : Int)), ("_before", .ref a.ba), ("_blocks", .ref q), ("_fresh", .ref a.fa)] : List (Str × V)) = ([("_many", V.int ((W.n : Nat) : Int)), ("_before", .ref a.ba), ("_blocks", .ref q), ("_fresh", .ref fl)] : List (Str × V)) from rfl]
      have two : ∀ {o o' : HO}, upd (upd G4 a.p o) a.p o' = upd G4 a.p o' := fun {o o'} => by
        funext b
        by_cases c : b = a.p
        · subst c; rw [upd_same, upd_same]
        · rw [upd_ne c, upd_ne c, upd_ne c]
      rw [two]
      have gf5 : MsAt (upd G4 a.p (.ins RC a.dx [("_many", V.int ((W.n : Nat) : Int)), ("_before", .ref a.ba), ("_blocks", .ref q), ("_fresh", .ref fl)])) fl (freshB bs cs) := by show _ = _; rw [upd_ne nfp]; exact gf4
      refine ⟨.ref fl, rfl, fl, _, rfl, .inl (SqL.of gf5), ?_⟩
      rw [List.length_map]
      have nbp : a.ba ≠ a.p := ne_of R.b R.ob (by intro z; cases z)
      have R5 : Rst RC (upd G4 a.p (.ins RC a.dx [("_many", V.int ((W.n : Nat) : Int)), ("_before", .ref a.ba), ("_blocks", .ref q), ("_fresh", .ref fl)])) ⟨a.p, a.dx, a.ba, q, fl⟩ bas W ls (r + 1) (keptB bs cs ++ freshB bs cs) (freshB bs cs) := by
        refine ⟨upd_same, by show _ = _; rw [upd_ne nbp]; exact s5 _ _ R.b, R.len, fun i c l e1 e2 => ?_, by show _ = _; rw [upd_ne nqp]; exact gq, gf5, J, R.cut, R.lsz, by rw [List.length_append]; omega⟩
        have h1 := R.rows i c l e1 e2
        have ne : c ≠ a.p := ne_of h1 R.ob (by intro z; cases z)
        show _ = _
        rw [upd_ne ne]
        exact s5 _ _ h1
      have kk := k ⟨a.p, a.dx, a.ba, q, fl⟩ cs _ rfl (fun o u n e => by rw [upd_ne n]; exact s5 o u e) R5 hcs
      have e0 : decide ((0 : Int) < (((freshB bs cs).length : Nat) : Int)) = decide (0 < (freshB bs cs).length) := by
        by_cases c : 0 < (freshB bs cs).length
        · rw [decide_eq_true c, decide_eq_true (by omega)]
        · rw [decide_eq_false c, decide_eq_false (by omega)]
      refine ⟨_, _, rfl, rfl, ?_⟩
      show Q (V.bl (decide ((0 : Int) < (((freshB bs cs).length : Nat) : Int)))) _
      rw [e0]
      exact kk
def kfn_least_of (x : Int) : Int := ((2 ^ lsb x.toNat : Nat) : Int)
def okn_least_of (x : Int) : Prop := ∃ m : Nat, m ≠ 0 ∧ x = ((m : Nat) : Int)
theorem sk_least_of : ∀ n, okn_least_of n → ∀ (G : Hp) (Q : VK) (E : XK), Q (.int (kfn_least_of n)) G → spLeast [.int n] G Q E := by
  rintro n ⟨m, hm, rfl⟩ G Q E q
  refine ⟨m, rfl, hm, ?_⟩
  unfold kfn_least_of at q
  rwa [Int.toNat_natCast] at q
/-- the numbers told so far: by the first i blocks -/
def NumAt (n : Nat) (Bs : List Nat) (i : Nat) (L : List Int) : Prop := L.length = n ∧ ∀ k b, k < i → Bs[k]? = some b → ∀ s, tb b s → L[s]? = some (k : Int)
theorem NumAt.cls {W : Wd} {r : Nat} {Bs : List Nat} (Bk : Blk W.n (Lk W r) Bs) (up : Bs.Pairwise fun x y => lsb x ≤ lsb y) {L : List Int} (h : NumAt W.n Bs Bs.length L) : L = clsN (Lk W r) W.n := by
  have E := Lk.eqv W r W.n
  have so := Bk.sorted E up
  refine List.ext_getElem? fun s => ?_
  unfold clsN
  rw [List.getElem?_map]
  by_cases hs : s < W.n
  · obtain ⟨b, hb, sb⟩ := Bk.all s hs
    obtain ⟨k, hk, e⟩ := List.getElem_of_mem hb
    have hk' : Bs[k]? = some b := by rw [List.getElem?_eq_getElem hk, e]
    rw [h.2 k b hk hk' s sb, List.getElem?_range hs]
    show some _ = some _
    congr 2
    have l1 : (ldrs (Lk W r) W.n)[k]? = some (lsb b) := by rw [← so, List.getElem?_map, hk']; rfl
    rw [← num_of E l1, ← Bk.lead E hb sb]
    unfold numC
    rw [ldr_ldr E hs]
  · rw [List.getElem?_eq_none (by rw [h.1]; omega), List.getElem?_eq_none (by rw [List.length_range]; omega)]
    rfl
def spNums (RC : Addr) : Sp := fun vs H Q _ => ∃ (a : RA) (bas : List Addr) (W : Wd) (ls : List Int) (r : Nat) (bs fr : List Nat), vs = [.ref a.p] ∧ Rst RC H a bas W ls r bs fr ∧ W.n ≤ 15 ∧
  ∀ t H', Same H H' → H t = none → H' t = some (.tup ((clsN (Lk W r) W.n).map V.int)) → Q (.ref t) H'
theorem ok_Rounds_numbers {f : Addr} {fd : FuncData} (FF : Fun K "numbers" "Rounds.numbers" s_Rounds_numbers f fd) (T : Txt K mg C J B) (TN : TxtRo K RC) (h_states_in : Has P w K mg base "states_in" 1 a_states_in spSt)
    (h_least_of : Has P w K mg base "least_of" 1 a_least_of spLeast) : FnOk P w K mg base CX0 4 f fd a_Rounds_numbers (spNums RC) := by
  obtain ⟨ql, fdl, mk_least_of, kpl, bk_least_of, fk_least_of⟩ := h_least_of
  refine FF.ok sc_Rounds_numbers (fun vs H Q E h => ?_) (fun cdv A outer s H vs Q E hr h => ?_)
  · obtain ⟨a, bas, W, ls, r, bs, fr, rfl, _⟩ := h
    rfl
  · obtain ⟨a, bas, W, ls, r, bs, fr, rfl, R, hn, k⟩ := h
    refine ⟨_, (pss_cons (ps_set (i := 1) sc_Rounds_numbers.nd rfl (.inl rfl) (pe_op op_rep (pe_lst (pa_cons pe_int pa_nil)) (pe_fld (pv 0) rfl)))
      (pss_cons (ps_for PassesOwn.never rfl (pi_enum rfl T.z_enumerate (pa_cons (pe_callBK (cr_sortedKf hr.units (keyFn_of (kf := kfn_least_of) (ok := okn_least_of) fk_least_of (show Room 3 _ from hr.mono (by omega)).in1.in1 bk_least_of sk_least_of)) rfl T.z_sorted (by decide +kernel) (pa_cons (pe_fld (pv 0) rfl) pa_nil) (pk_cons (pe_glob rfl mk_least_of (show RelV (.ref _) _ from rfl)) pk_nil)) pa_nil)) (pg_tup rfl (pgs_cons (pg_name (i := 2) sc_Rounds_numbers.nd rfl (.inl rfl)) (pgs_cons (pg_name (i := 3) sc_Rounds_numbers.nd rfl (.inl rfl)) pgs_nil))) (pss_one (ps_for PassesOwn.never rfl (pi_list (pe_callH h_states_in (hr.mono (by omega)) (pa_cons (pv 3) pa_nil))) (pg_name (i := 4) sc_Rounds_numbers.nd rfl (.inl rfl)) (pss_one (ps_asg (pv 2) (pg_sub (pv 1) (pv 4) set_list))))))
      (pss_one (ps_ret (pe_callTy call_tuple_of rfl T.z_tuple (by decide +kernel) (pa_cons (pv 1) pa_nil)))))), ?_⟩
    refine ⟨by show 1 ≤ sizeLine; decide, fun z0 hz0 => ?_⟩
    have s1 := Same.new (o := .lst [.int 0]) hz0
    refine ⟨.ref a.p, rfl, a.p, RC, a.dx, _, .int ((W.n : Nat) : Int), rfl, s1 _ _ R.ob, TN.cl, TN.nM, rfl, ?_⟩
    refine ⟨z0, W.n, _, rfl, rfl, upd_same, by omega, by omega, Nat.le_trans (Nat.le_of_eq (show 1 * ((W.n : Nat) : Int).toNat = W.n by omega)) (Nat.le_trans hn (by decide)), fun na hna => ?_⟩
    have e0 : (List.replicate ((W.n : Nat) : Int).toNat [V.int 0]).flatten = (List.replicate W.n (0 : Int)).map V.int := by
      rw [Int.toNat_natCast]
      clear k R hn hna s1 hz0
      generalize W.n = n
      induction n with
      | zero => rfl
      | succ n ih => rw [List.replicate_succ, List.flatten_cons, ih, List.replicate_succ]; rfl
    rw [e0]
    have s2 := s1.trans (Same.new (o := .lst ((List.replicate W.n (0 : Int)).map V.int)) hna)
    have gn : (upd (upd H z0 (.lst [.int 0])) na (.lst ((List.replicate W.n (0 : Int)).map V.int))) na = some (.lst ((List.replicate W.n (0 : Int)).map V.int)) := upd_same
    have nHn : H na = none := by
      cases e : H na with
      | none => rfl
      | some u => rw [s1 _ _ e] at hna; cases hna
    generalize upd (upd H z0 (.lst [.int 0])) na (.lst ((List.replicate W.n (0 : Int)).map V.int)) = H2 at s2 gn
    clear s1 hz0 hna e0
    have bk := R.ri.blk
    refine ⟨.ref a.p, rfl, a.p, RC, a.dx, _, .ref a.la, rfl, s2 _ _ R.ob, TN.cl, TN.nK, rfl, ?_⟩
    refine ⟨a.la, bs.map fun b => ((b : Nat) : Int), rfl, rfl, SqL.of (by rw [List.map_map]; exact s2 _ _ R.l), fun x hx => ?_, fun ns q H3 pm up nq gq s3 => ?_⟩
    · obtain ⟨b, hb, rfl⟩ := List.mem_map.mp hx
      exact ⟨b, bk.ne b hb, rfl⟩
    obtain ⟨Bs, pB, rfl⟩ := perm_map_ex pm bs rfl
    have bkB := bk.perm pB
    have upB : Bs.Pairwise fun x y => lsb x ≤ lsb y := (List.pairwise_map.mp up).imp fun {x y} h => by
      unfold kfn_least_of at h
      rw [Int.toNat_natCast, Int.toNat_natCast] at h
      exact (Nat.pow_le_pow_iff_right (show 1 < 2 by decide)).mp (Int.ofNat_le.mp h)
    have sH3 : Same H H3 := fun b o e => s3 _ _ (s2 _ _ e)
    have gn3 := s3 _ _ gn
    rw [List.map_map] at gq
    have nqn : q ≠ na := fun e => by rw [e, gn] at nq; cases nq
    refine ⟨q, _, rfl, SqL.of gq, for_it walk_enum (fun i σ G => ∃ (y2 y3 y4 : Option V) (L : List Int), σ = [some (.ref a.p), some (.ref na), y2, y3, y4] ∧ Same H G ∧ G q = some (.lst (Bs.map (V.int ∘ fun b => ((b : Nat) : Int)))) ∧ G na = some (.lst (L.map V.int)) ∧ NumAt W.n Bs i L)
      ⟨none, none, none, _, rfl, sH3, gq, gn3, List.length_replicate, fun k b h => absurd h (Nat.not_lt_zero _)⟩ (fun i σ G _ ⟨_, _, _, _, _, _, g, _⟩ => SqL.of g) ?_ ?_⟩
    · rintro i x σ G0 G hi ⟨y2, y3, y4, L, rfl, sG, gq, gn, nm⟩ ⟨tp, x1, x2, rfl, htp, rfl, e1, e2⟩
      rw [List.length_map] at hi
      cases (show some (V.int ((i : Nat) : Int)) = some x1 from e1)
      have hb : Bs[i]? = some Bs[i] := List.getElem?_eq_getElem hi
      have e2' : (Bs.map (V.int ∘ fun b => ((b : Nat) : Int)))[i]? = some x2 := e2
      rw [List.getElem?_map, hb] at e2'
      obtain rfl := Option.some.inj e2'
      have mb := List.mem_of_getElem? hb
      have st := Same.new (o := .tup [V.int ((i : Nat) : Int), (V.int ∘ fun b => ((b : Nat) : Int)) Bs[i]]) htp
      have tT : SqT K (upd G0 tp (.tup [V.int ((i : Nat) : Int), (V.int ∘ fun b => ((b : Nat) : Int)) Bs[i]])) tp [V.int ((i : Nat) : Int), (V.int ∘ fun b => ((b : Nat) : Int)) Bs[i]] := SqT.of upd_same
      have sG1 := sG.trans st
      have gq1 := st _ _ gq
      have gn1 := st _ _ gn
      generalize upd G0 tp (.tup [V.int ((i : Nat) : Int), (V.int ∘ fun b => ((b : Nat) : Int)) Bs[i]]) = G at tT sG1 gq1 gn1
      generalize Bs[i] = b at hb mb tT
      refine ⟨tp, _, rfl, tT, rfl, .int ((i : Nat) : Int), _, rfl, .int ((b : Nat) : Int), _, rfl, rfl, ?_⟩
      refine ⟨.int ((b : Nat) : Int), rfl, W.n, b, rfl, bkB.below mb, by omega, fun sl G2 s4 nsl gsl => ?_⟩
      have nsn : sl ≠ na := fun e => by rw [e, gn1] at nsl; cases nsl
      have nsq : sl ≠ q := fun e => by rw [e, gq1] at nsl; cases nsl
      refine ⟨sl, rfl, ⟨_, SqL.of gsl⟩, for_list (xs := (bitsOf W.n b).map V.int) (fun j σ G => ∃ (y4 : Option V) (L : List Int), σ = [some (.ref a.p), some (.ref na), some (.int ((i : Nat) : Int)), some (.int ((b : Nat) : Int)), y4] ∧ Same H G ∧ G q = some (.lst (Bs.map (V.int ∘ fun b => ((b : Nat) : Int)))) ∧ G sl = some (.lst ((bitsOf W.n b).map V.int)) ∧ G na = some (.lst (L.map V.int)) ∧ NumAt W.n Bs i L ∧ ∀ s ∈ (bitsOf W.n b).take j, L[s.toNat]? = some ((i : Nat) : Int))
        ⟨y4, L, rfl, sG1.trans s4, s4 _ _ gq1, gsl, s4 _ _ gn1, nm, fun s hs => by simp at hs⟩ (fun j σ G _ ⟨_, _, _, _, _, g, _⟩ => SqL.of g) ?_ ?_⟩
      · rintro j x σ G3 hx ⟨y4, L3, rfl, sG3, gq3, gs3, gn3, nm3, done⟩
        obtain ⟨z, hz, rfl⟩ := ints_nth hx
        have mz := mem_bits.mp (List.mem_of_getElem? hz)
        obtain ⟨u, rfl⟩ := Int.eq_ofNat_of_zero_le mz.1.1
        have un : u < W.n := by omega
        have ub : tb b u := by have := mz.2; rw [Int.toNat_natCast] at this; exact this
        refine ⟨.int ((i : Nat) : Int), rfl, .ref na, rfl, .int ((u : Nat) : Int), rfl, na, _, _, u, rfl, rfl, gn3, ixN_nat (by rw [List.length_map, nm3.1]; exact un), some (.int ((u : Nat) : Int)), L3.set u ((i : Nat) : Int), rfl, fun o v e => by rw [upd_ne (ne_of_none e nHn)]; exact sG3 o v e, by rw [upd_ne nqn]; exact gq3, by rw [upd_ne nsn]; exact gs3, by rw [upd_same, List.map_set], ⟨by rw [List.length_set]; exact nm3.1, fun k b' hk hb' s hs => ?_⟩, fun s hs => ?_⟩
        · rw [List.getElem?_set]
          split
          · rename_i e
            subst e
            have dis := bkB.dis
            have hbi := List.getElem?_eq_some_iff.mp hb
            have hbk := List.getElem?_eq_some_iff.mp hb'
            have := List.pairwise_iff_getElem.mp dis k i hbk.1 hbi.1 hk u (by rw [hbk.2]; exact hs) (by rw [hbi.2]; exact ub)
            exact this.elim
          · exact nm3.2 k b' hk hb' s hs
        · rw [List.take_add_one, hz, Option.toList_some] at hs
          rw [List.getElem?_set]
          split
          · rename_i e
            rw [if_pos (by rw [nm3.1]; exact un)]
          · rename_i e
            rcases List.mem_append.mp hs with h | h
            · exact done s h
            · rw [List.mem_singleton.mp h] at e
              exact absurd (by simp) e
      · rintro σ G3 ⟨y4, L3, rfl, sG3, gq3, gs3, gn3, nm3, done⟩
        rw [List.length_map, List.take_length] at done
        refine ⟨_, _, _, L3, rfl, sG3, gq3, gn3, nm3.1, fun k b' hk hb' s hs => ?_⟩
        rcases Nat.lt_succ_iff_lt_or_eq.mp hk with h | rfl
        · exact nm3.2 k b' h hb' s hs
        · rw [hb] at hb'
          cases hb'
          have := done (s : Int) (mem_bits.mpr ⟨⟨Int.natCast_nonneg s, by have := bkB.lt b mb s hs; omega⟩, by rw [Int.toNat_natCast]; exact hs⟩)
          rwa [Int.toNat_natCast] at this
    · rintro σ G ⟨y2, y3, y4, L, rfl, sG, gq, gn, nm⟩
      rw [List.length_map] at nm
      have eL := NumAt.cls bkB upB nm
      refine ⟨.ref na, rfl, na, _, rfl, .inl ⟨SqL.of gn, fun t ht => ?_⟩⟩
      refine k t _ (sG.trans (Same.new ht)) ?_ (by rw [upd_same, eL])
      cases e : H t with
      | none => rfl
      | some u => rw [sG _ _ e] at ht; cases ht
end
end Fw

set_option maxRecDepth 100000
set_option maxHeartbeats 8000000
namespace Fw
open PySem PySem.Spec PyProof.Rows L2 GxR
/-- likeness -/
def LkF (W : Wd) : Nat → Nat → Prop := Lk W (W.n + 1)
theorem LkF.eqv (W : Wd) : Eqv W.n (LkF W) := Lk.eqv W _ _
noncomputable def cN (W : Wd) (s : Int) : Int := ((numC (LkF W) s.toNat : Nat) : Int)
noncomputable def fRows (W : Wd) : List (List Int) := (ldrs (LkF W) W.n).map fun l : Nat => W.at ((l : Nat) : Int)
noncomputable def fStep (W : Wd) (p : T3) : T3 := (cN W p.1, p.2.1, cN W p.2.2)
theorem cN_nat (W : Wd) (s : Nat) : cN W (s : Int) = ((numC (LkF W) s : Nat) : Int) := by unfold cN; rw [Int.toNat_natCast]
theorem cN_lt {W : Wd} {s : Int} (h0 : 0 ≤ s) (h1 : s < (W.n : Int)) : 0 ≤ cN W s ∧ cN W s < ((fRows W).length : Nat) := by
  unfold cN fRows
  rw [List.length_map]
  have := num_lt (LkF.eqv W) (s := s.toNat) (by omega)
  omega
theorem lex_three (a b c x y z : Int) : HT.lexLt [a, b, c] [x, y, z] = lex3 (a, b, c) (x, y, z) := by
  rw [HT.lexLt_cons, HT.lexLt_cons, HT.lexLt_cons]
  unfold lex3
  by_cases h1 : a = x
  · rw [if_pos h1, if_pos h1]
    by_cases h2 : b = y
    · rw [if_pos h2, if_pos h2]
      by_cases h3 : c = z
      · rw [if_pos h3]
        show false = _
        exact (decide_eq_false (by show ¬ c < z; omega)).symm
      · rw [if_neg h3]
    · rw [if_neg h2, if_neg h2]
  · rw [if_neg h1, if_neg h1]
def of3 (p : T3) : List Int := [p.1, p.2.1, p.2.2]
theorem of3_inj {p q : T3} (h : of3 p = of3 q) : p = q := by
  obtain ⟨a, b, c⟩ := p
  obtain ⟨x, y, z⟩ := q
  simp only [of3, List.cons.injEq, and_true] at h
  rw [h.1, h.2.1, h.2.2]
theorem kall_ints (K : PySem.W.Frag) (H : Hp) : ∀ ns : List Int, KAll K H (ns.map V.int) (ns.map .num)
  | [] => .nil
  | n :: ns => .cons (.int n) (kall_ints K H ns)
theorem kis_fK {K : PySem.W.Frag} {H : Hp} {a : Addr} {ns : List Int} (h : SqT K H a (ns.map V.int)) : KIs K H (.ref a) (fK ns) := .tup h (kall_ints K H ns)
theorem nums_low : ∀ ns : List Int, NestedKey.depthAll (ns.map .num) = 0
  | [] => rfl
  | n :: ns => by simp only [List.map_cons, NestedKey.depthAll, NestedKey.depth, nums_low ns]; rfl
theorem nums_nm : ∀ ns : List Int, nmKs (ns.map .num) = true
  | [] => rfl
  | n :: ns => by simp only [List.map_cons, nmKs, nmK, nums_nm ns]; rfl
theorem kn_fK {K : PySem.W.Frag} {H : Hp} {a : Addr} {ns : List Int} (h : SqT K H a (ns.map V.int)) : KN K H (a, fK ns) :=
  ⟨kis_fK h, by show NestedKey.depthAll _ + 1 ≤ 8; rw [nums_low]; decide, nums_nm ns⟩
def toT (ns : List Int) : T3 := (ns.getD 0 0, ns.getD 1 0, ns.getD 2 0)
theorem toT_of3 (q : T3) : toT (of3 q) = q := rfl
def unK : NestedKey → List Int
  | .tup ks => ks.map fun k => match k with | .num i => i | _ => 0
  | _ => []
theorem unK_fK (ns : List Int) : unK (fK ns) = ns := by
  show (ns.map NestedKey.num).map _ = ns
  rw [List.map_map]
  exact List.map_id _
end Fw

set_option maxRecDepth 100000
set_option maxHeartbeats 2000000
/-! index of keys within lists and tuples; tuples that are known exactly; orders of keys -/
namespace Fw
open PySem PySem.Spec PyProof.Rows L2
section
variable {X : Cx}
/-- either rule -/
def rOr (r r' : List V → Hp → VK → Prop) : List V → Hp → VK → Prop := fun vs H Q => r vs H Q ∨ r' vs H Q
theorem cr_or {f : Value} {r r' : List V → Hp → VK → Prop} (h : CallR X f r) (h' : CallR X f r') : CallR X f (rOr r r') := by
  intro pins s σ H xs us Q I rx q
  rcases q with q | q
  · exact h pins s σ H xs us Q I rx q
  · exact h' pins s σ H xs us Q I rx q
/-- l.index(x), keys of whole numbers and tuples -/
def rIndexN (K : PySem.W.Frag) : V → List V → Hp → VK → Prop := fun x xs H Q => ∃ (a : Addr) (y : V) (k : NestedKey) (vs : List V) (ks : List NestedKey), x = V.ref a ∧ xs = [y] ∧ SqL K H a vs ∧ KAll K H vs ks ∧ KIs K H y k ∧ k ∈ ks ∧ k.depth ≤ 8 ∧ Q (.int ((ks.idxOf k : Nat) : Int)) H
theorem mt_indexN (hu : X.A.units + 64 < cLine) : MtR X "list.index" (rIndexN X.K) := by
  intro pins s σ H x xs v us Q I rx rxs h
  obtain ⟨a, y, k, vs, ks, rfl, rfl, hl, ka, ky, mem, low, q⟩ := h
  cases rx
  obtain ⟨u, rfl, ru⟩ := Vals.one rxs
  obtain ⟨its, rv, pl, hz⟩ := I.list hl
  have na := kall_real I ka rv
  have hn := NestedAll.length _ _ na
  have hv := rv.length
  exact SeqAt.call_list_index pl.isList (.nested na (kis_real I ky ru) (by show _ + 1 + _ < _; omega)) (by omega) mem ⟨.int _, H, I.tok _, ⟨_, rfl⟩, q⟩
/-- a tuple whose object is known -/
def FzT (H : Hp) (a : Addr) (xs : List V) : Prop := ∃ o : Obj, o.cls = .type "tuple" ∧ o.dict = none ∧ H a = some (.frz o (.tup xs))
theorem FzT.sq {K : PySem.W.Frag} {H : Hp} {a : Addr} {xs : List V} (h : FzT H a xs) : SqT K H a xs := .inl (.inr (h.imp fun o z => z.2.2))
theorem FzT.same {H H' : Hp} {a : Addr} {xs : List V} (h : FzT H a xs) (s : ∀ b u, H b = some u → H' b = some u) : FzT H' a xs := by
  obtain ⟨o, c, d, e⟩ := h
  exact ⟨o, c, d, s _ _ e⟩
/-- tuple(l), l a list: the tuple is known -/
def rTupFz (K : PySem.W.Frag) : List V → Hp → VK → Prop := fun xs H Q => ∃ p ys, xs = [.ref p] ∧ SqL K H p ys ∧ ∀ (l : Addr) (o : Obj), H l = none → o.cls = .type "tuple" → o.dict = none → Q (.ref l) (upd H l (.frz o (.tup ys)))
theorem call_tuple_fz : CallR X (.type "tuple") (rTupFz X.K) := by
  intro pins s σ H xs us Q I r h
  obtain ⟨p, ys, rfl, hq, q⟩ := h
  rw [Vals.ref1 r]
  obtain ⟨its, r', pl, hz⟩ := I.list hq
  have hlen := r'.length
  refine call_tuple_list pl.isList (fun h' kp => ?_) (by simp only [List.size_toArray] <;> omega)
  have I1 : Inv X pins σ H { s with heap := h' } := I.kept (t' := s.toks) kp
  have I2 : Inv X pins σ (upd H h'.objs.size (.frz { cls := .type "tuple", data := .seq its.toArray } (.tup ys))) { s with heap := h'.push { cls := .type "tuple", data := .seq its.toArray } } :=
    I1.laid (t' := s.toks) (fun b o e => Heap.get?_push_of_some _ e) (Nat.le_refl _) (show ObjOk X.prog X.w _ _ _ (.frz _ (.tup ys)) from ⟨Heap.get?_push_size _ rfl, hz, its, r', IsTup.new _ _⟩)
  exact ⟨.ref h'.objs.size, _, I2, rfl, q _ _ (I1.hok.fresh (Nat.le_refl _)) rfl rfl⟩
/-- t.index(x), whole numbers -/
def tTIx (K : PySem.W.Frag) (to : TE) (t : TA) : TE := fun σ H Q => to σ H fun x H1 => ∃ (a : Addr) (ns : List Int), x = V.ref a ∧ FzT H1 a (ns.map V.int) ∧ t σ H1 fun ys H2 => ∃ n : Int, ys = [.int n] ∧ FzT H2 a (ns.map V.int) ∧ n ∈ ns ∧ Q (.int ((ns.idxOf n : Nat) : Int)) H2
variable {o : Expr} {es : List Expr} {e : Expr} {to : TE} {t : TA} {apos cpos : Pos}
theorem pe_tindex (ho : PE X o to) (ha : PA X (e :: es) t)
    (hbase : attributeBase o "index" X.env (eval o X.env) = eval o X.env := by rfl)
    (hfew : ((backTo cpos (starEach (e :: es) X.env)).all (fun x => !x.1) && (backToKw cpos (keywordEach [] X.env)).all (fun x => x.1.isSome)
      && decide ((e :: es).length + ([] : List Keyword).length + (if ([] : List Keyword).isEmpty then 0 else 1) < 30)) = true := by rfl)
    (hline : (apos.endLine == cpos.line) = true := by rfl) (hs : starEach (e :: es) X.env = (false, eval e X.env) :: starEach es X.env := by rfl) (hplain : (backTo cpos (starEach es X.env)).any (·.1) = false := by rfl) :
    PE X (.Call (.Attribute o "index" apos) (e :: es) [] cpos) (tTIx X.K to t) := by
  refine ⟨fun pins s σ H Q I h => ?_⟩
  refine wpAny_Call_method_late hbase hfew hline rfl (thn (ho.run pins s σ H _ I h) fun v s1 ⟨x, H1, I1, r1, a, ns, ex, fz, q1⟩ => ?_)
  subst ex
  cases r1
  obtain ⟨ob, oc, od, eo⟩ := fz
  have hob := (I1.hok a _ eo).1
  refine ⟨"tuple", "tuple.index", F.plainAttrs_tuple, F.slot_tuple_index, F.type_tuple_index, ⟨ob, hob, oc⟩, fun b eb => ?_, ?_⟩
  · cases eb
    exact ⟨ob, hob, od⟩
  have hA := ha.run cpos pins s1 σ H1 _ I1 q1
  rw [hs] at hA ⊢
  refine Calls.callWith_builtin (by show (false || (backTo cpos (starEach es X.env)).any (·.1)) = false; rw [hplain] <;> rfl) (Calls.evalArgs_plain ?_)
  refine thn hA fun us s2 ⟨vs, H2, I2, r2, q2⟩ => ?_
  obtain ⟨n, rfl, fz2, mem, q⟩ := q2
  obtain ⟨u, rfl, ru⟩ := Vals.one r2
  obtain ⟨tk, rfl⟩ : ∃ tk, u = Value.int n tk := ru
  obtain ⟨its, rv, tp, hz⟩ := I2.tuple (fz2.sq (K := X.K))
  exact SeqAt.tuple_index_ints tp (ints_vals rv) mem ⟨.int _, H2, I2.tok _, ⟨_, rfl⟩, q⟩
/-- max(t), a tuple of whole numbers -/
def rMaxT (K : PySem.W.Frag) : List V → Hp → VK → Prop := fun vs H Q => ∃ (a : Addr) (ns : List Int), vs = [V.ref a] ∧ SqT K H a (ns.map V.int) ∧ 0 < ns.length ∧ ∀ m, m ∈ ns → (∀ y, y ∈ ns → y ≤ m) → Q (.int m) H
theorem maxOf_ok (x : Int) (xs : List Int) : PySem.W.maxOf x xs ∈ x :: xs ∧ ∀ y ∈ x :: xs, y ≤ PySem.W.maxOf x xs := by
  unfold PySem.W.maxOf
  induction xs generalizing x with
  | nil => exact ⟨List.mem_cons_self, fun y hy => by rw [List.mem_singleton.mp hy]; exact Int.le_refl _⟩
  | cons z zs ih =>
    rw [List.foldl_cons]
    by_cases c : x < z
    · have e : PySem.W.DatumOrd.lt x z = true := decide_eq_true c
      rw [if_pos e]
      obtain ⟨h1, h2⟩ := ih z
      refine ⟨List.mem_cons_of_mem _ h1, fun y hy => ?_⟩
      have hz := h2 z List.mem_cons_self
      rcases List.mem_cons.mp hy with rfl | hy
      · omega
      · exact h2 y hy
    · have e : ¬ PySem.W.DatumOrd.lt x z = true := fun q => c (of_decide_eq_true q)
      rw [if_neg e]
      obtain ⟨h1, h2⟩ := ih x
      have hx := h2 x List.mem_cons_self
      refine ⟨?_, fun y hy => ?_⟩
      · rcases List.mem_cons.mp h1 with q | q
        · rw [q]; exact List.mem_cons_self
        · exact List.mem_cons_of_mem _ (List.mem_cons_of_mem _ q)
      · rcases List.mem_cons.mp hy with rfl | hy
        · exact hx
        · rcases List.mem_cons.mp hy with rfl | hy
          · omega
          · exact h2 y (List.mem_cons_of_mem _ hy)
theorem cr_maxT (quiet : X.calm = true) (hu : X.A.units + 64 < cLine) : CallR X (.builtin "max") (rMaxT X.K) := by
  intro pins s σ H vs us Q I r h
  obtain ⟨a, ns, rfl, ht, pos, q⟩ := h
  rw [Vals.ref1 r]
  obtain ⟨its, rv, tp, hz⟩ := I.tuple ht
  cases ns with
  | nil => exact absurd pos (Nat.lt_irrefl _)
  | cons x xs =>
    have ho : PySem.W.HoldAll s.heap its.toArray.toList (x :: xs) := PySem.W.HoldAll.of_ints (by simpa using ints_vals rv)
    refine PySem.W.max_tuple_datum (I.ok.hd quiet) tp ho (by show _ + 1 + 0 < _; omega) fun i v h' tk hi hh k => ?_
    obtain ⟨as, rd⟩ := hh
    obtain ⟨t, rfl⟩ : ∃ t, v = Value.int (PySem.W.maxOf x xs) t := by
      have rd' : Reads h' v (.int (PySem.W.maxOf x xs)) as := rd
      cases rd'
      exact ⟨_, rfl⟩
    have m := maxOf_ok x xs
    exact ⟨.int _, H, I.kept k, ⟨_, rfl⟩, q _ m.1 m.2⟩
end
end Fw

set_option maxRecDepth 100000
set_option maxHeartbeats 2000000
/-! what a state is told by, in a round, and its sign -/
namespace Fw
open PySem PySem.Spec PyProof.Rows L2
def numK : NestedKey → Int | .num i => i | _ => 0
def keyL : NestedKey → List Int | .num i => [i] | .tup ks => ks.map numK | _ => []
theorem keyL_fK (ns : List Int) : keyL (fK ns) = ns := by
  show (ns.map NestedKey.num).map _ = ns
  rw [List.map_map]
  exact List.map_id _
/-- a key of that kind: a number, a tuple of numbers -/
def Kd (b : Bool) (k : NestedKey) : Prop := if b = true then ∃ i, k = .num i else ∃ ns, k = fK ns
theorem Kd.inj {b : Bool} {x y : NestedKey} (hx : Kd b x) (hy : Kd b y) (e : keyL x = keyL y) : x = y := by
  cases b with
  | true =>
    obtain ⟨i, rfl⟩ := hx
    obtain ⟨j, rfl⟩ := hy
    have : [i] = [j] := e
    cases this
    rfl
  | false =>
    obtain ⟨i, rfl⟩ := hx
    obtain ⟨j, rfl⟩ := hy
    rw [keyL_fK, keyL_fK] at e
    rw [e]
theorem lexL_anti : ∀ {a b : List Int}, HT.lexLt a b = false → HT.lexLt b a = false → a = b
  | [], [], _, _ => rfl
  | [], _ :: _, h, _ => by cases h
  | _ :: _, [], _, h => by cases h
  | x :: a, y :: b, h1, h2 => by
    rw [HT.lexLt_cons] at h1 h2
    by_cases e : x = y
    · subst e
      rw [if_pos rfl] at h1 h2
      rw [lexL_anti h1 h2]
    · rw [if_neg e, decide_eq_false_iff_not] at h1
      rw [if_neg (fun z => e z.symm), decide_eq_false_iff_not] at h2
      omega
/-- the members of src, once each, in order -/
structure Cn (us src : List NestedKey) : Prop where
  nd : us.Nodup
  mem : ∀ x, x ∈ us ↔ x ∈ src
  up : us.Pairwise fun x y => HT.lexLt (keyL y) (keyL x) = false
theorem Cn.one {b : Bool} {us vs xs ys : List NestedKey} (h : Cn us xs) (k : Cn vs ys) (hx : ∀ x ∈ xs, Kd b x) (e : ∀ x, x ∈ xs ↔ x ∈ ys) : us = vs := by
  have p : us.Perm vs := (List.perm_ext_iff_of_nodup h.nd k.nd).mpr fun x => by rw [h.mem, k.mem, e]
  refine List.Perm.eq_of_pairwise (le := fun x y => HT.lexLt (keyL y) (keyL x) = false) (fun x y hx' hy' h1 h2 => ?_) h.up k.up p
  have m1 := (h.mem x).mp hx'
  have m2 := (e y).mpr ((k.mem y).mp hy')
  exact (hx x m1).inj (hx y m2) (lexL_anti h2 h1)
theorem Cn.iff {b : Bool} {us vs xs ys : List NestedKey} (h : Cn us xs) (k : Cn vs ys) (hx : ∀ x ∈ xs, Kd b x) : us = vs ↔ ∀ x, x ∈ xs ↔ x ∈ ys :=
  ⟨fun e x => by rw [← h.mem, ← k.mem, e], h.one k hx⟩
/-- the sign of a state -/
def sgK (k : NestedKey) (b0 b1 b2 : List NestedKey) : NestedKey := .tup [k, .tup [.tup b0, .tup b1, .tup b2]]
theorem sgK_inj {k k' : NestedKey} {a b c a' b' c' : List NestedKey} : sgK k a b c = sgK k' a' b' c' ↔ k = k' ∧ a = a' ∧ b = b' ∧ c = c' := by
  unfold sgK
  constructor
  · intro h
    injection h with h
    injection h with h1 h
    injection h with h _
    injection h with h
    injection h with h2 h
    injection h with h3 h
    injection h with h4 _
    injection h2 with h2
    injection h3 with h3
    injection h4 with h4
    exact ⟨h1, h2, h3, h4⟩
  · rintro ⟨rfl, rfl, rfl, rfl⟩
    rfl
/-! ### alike -/
theorem alikeAll_of : ∀ {xs ys : List PyData}, (∀ x ∈ xs, ∀ y ∈ ys, PySem.W.alike x y = true) → PySem.W.alikeAll xs ys = true
  | [], _, _ => by unfold PySem.W.alikeAll; rfl
  | _ :: _, [], _ => by unfold PySem.W.alikeAll; rfl
  | x :: xs, y :: ys, h => by
    unfold PySem.W.alikeAll
    rw [h x List.mem_cons_self y List.mem_cons_self, alikeAll_of fun a ha b hb => h a (List.mem_cons_of_mem _ ha) b (List.mem_cons_of_mem _ hb)]
    rfl
theorem datas_map : ∀ ks : List NestedKey, NestedKey.datas ks = ks.map NestedKey.data
  | [] => rfl
  | k :: ks => by rw [NestedKey.datas, datas_map ks]; rfl
theorem data_tup (ks : List NestedKey) : (NestedKey.tup ks).data = .tuple (ks.map NestedKey.data) := by rw [NestedKey.data, datas_map]
theorem alike_tup {ks ls : List NestedKey} (h : ∀ x ∈ ks, ∀ y ∈ ls, PySem.W.alike x.data y.data = true) : PySem.W.alike (NestedKey.tup ks).data (NestedKey.tup ls).data = true := by
  rw [data_tup, data_tup]
  unfold PySem.W.alike
  refine alikeAll_of fun x hx y hy => ?_
  obtain ⟨k, hk, rfl⟩ := List.mem_map.mp hx
  obtain ⟨l, hl, rfl⟩ := List.mem_map.mp hy
  exact h k hk l hl
theorem alike_num (i j : Int) : PySem.W.alike (NestedKey.num i).data (NestedKey.num j).data = true := by
  simp only [NestedKey.data]
  unfold PySem.W.alike
  rfl
theorem alike_kd {b : Bool} {x y : NestedKey} (hx : Kd b x) (hy : Kd b y) : PySem.W.alike x.data y.data = true := by
  cases b with
  | true =>
    obtain ⟨i, rfl⟩ := hx
    obtain ⟨j, rfl⟩ := hy
    exact alike_num i j
  | false =>
    obtain ⟨i, rfl⟩ := hx
    obtain ⟨j, rfl⟩ := hy
    refine alike_tup fun x hx y hy => ?_
    obtain ⟨k, _, rfl⟩ := List.mem_map.mp hx
    obtain ⟨l, _, rfl⟩ := List.mem_map.mp hy
    exact alike_num k l
structure SgOk (b : Bool) (k : NestedKey) (b0 b1 b2 : List NestedKey) : Prop where
  k : Kd b k
  b0 : ∀ x ∈ b0, Kd b x
  b1 : ∀ x ∈ b1, Kd b x
  b2 : ∀ x ∈ b2, Kd b x
theorem alike_sg {b : Bool} {k k' : NestedKey} {a c d a' c' d' : List NestedKey} (h : SgOk b k a c d) (h' : SgOk b k' a' c' d') : PySem.W.alike (sgK k a c d).data (sgK k' a' c' d').data = true := by
  have t : ∀ {xs ys : List NestedKey}, (∀ x ∈ xs, Kd b x) → (∀ x ∈ ys, Kd b x) → PySem.W.alike (NestedKey.tup xs).data (NestedKey.tup ys).data = true := fun hx hy => alike_tup fun x mx y my => alike_kd (hx x mx) (hy y my)
  unfold sgK
  rw [data_tup, data_tup]
  simp only [List.map_cons, List.map_nil]
  unfold PySem.W.alike PySem.W.alikeAll PySem.W.alikeAll
  rw [alike_kd h.k h'.k, alike_tup (ks := [.tup a, .tup c, .tup d]) (ls := [.tup a', .tup c', .tup d'])]
  · rfl
  · intro x hx y hy
    simp only [List.mem_cons, List.not_mem_nil, or_false] at hx hy
    rcases hx with rfl | rfl | rfl <;> rcases hy with rfl | rfl | rfl
    all_goals first
      | exact t h.b0 h'.b0 | exact t h.b0 h'.b1 | exact t h.b0 h'.b2
      | exact t h.b1 h'.b0 | exact t h.b1 h'.b1 | exact t h.b1 h'.b2
      | exact t h.b2 h'.b0 | exact t h.b2 h'.b1 | exact t h.b2 h'.b2
theorem kd_low {b : Bool} {x : NestedKey} (h : Kd b x) : x.depth ≤ 1 := by
  cases b with
  | true => obtain ⟨i, rfl⟩ := h; simp only [NestedKey.depth]; omega
  | false =>
    obtain ⟨ns, rfl⟩ := h
    have : ∀ ns : List Int, NestedKey.depthAll (ns.map .num) = 0 := fun ns => by
      induction ns with
      | nil => rfl
      | cons n ns ih => simp only [List.map_cons, NestedKey.depthAll, NestedKey.depth, ih]; rfl
    show NestedKey.depthAll _ + 1 ≤ 1
    rw [this]
    exact Nat.le_refl _
theorem kds_low {b : Bool} : ∀ {xs : List NestedKey}, (∀ x ∈ xs, Kd b x) → NestedKey.depthAll xs ≤ 1
  | [], _ => by simp only [NestedKey.depthAll]; omega
  | x :: xs, h => by
    simp only [NestedKey.depthAll]
    have := kd_low (h x List.mem_cons_self)
    have := kds_low (xs := xs) fun y hy => h y (List.mem_cons_of_mem _ hy)
    omega
theorem sg_low {b : Bool} {k : NestedKey} {a c d : List NestedKey} (h : SgOk b k a c d) : (sgK k a c d).depth ≤ 4 := by
  have h0 := kd_low h.k
  have h1 := kds_low h.b0
  have h2 := kds_low h.b1
  have h3 := kds_low h.b2
  unfold sgK
  simp only [NestedKey.depth, NestedKey.depthAll]
  omega
theorem nmKs_of : ∀ {xs : List NestedKey}, (∀ x ∈ xs, nmK x = true) → nmKs xs = true
  | [], _ => rfl
  | x :: xs, h => by
    unfold nmKs
    rw [h x List.mem_cons_self, nmKs_of fun y hy => h y (List.mem_cons_of_mem _ hy)]
    rfl
theorem kd_nm {b : Bool} {x : NestedKey} (h : Kd b x) : nmK x = true := by
  cases b with
  | true => obtain ⟨i, rfl⟩ := h; rfl
  | false =>
    obtain ⟨ns, rfl⟩ := h
    refine nmKs_of fun x hx => ?_
    obtain ⟨i, _, rfl⟩ := List.mem_map.mp hx
    rfl
theorem tup_nm {xs : List NestedKey} (h : ∀ x ∈ xs, nmK x = true) : nmK (.tup xs) = true := nmKs_of h
theorem sg_nm {b : Bool} {k : NestedKey} {a c d : List NestedKey} (h : SgOk b k a c d) : nmK (sgK k a c d) = true := by
  refine tup_nm fun x hx => ?_
  simp only [List.mem_cons, List.not_mem_nil, or_false] at hx
  rcases hx with rfl | rfl
  · exact kd_nm h.k
  · refine tup_nm fun x hx => ?_
    simp only [List.mem_cons, List.not_mem_nil, or_false] at hx
    rcases hx with rfl | rfl | rfl
    · exact tup_nm fun x hx => kd_nm (h.b0 x hx)
    · exact tup_nm fun x hx => kd_nm (h.b1 x hx)
    · exact tup_nm fun x hx => kd_nm (h.b2 x hx)
/-! ### likeness by signs -/
/-- what the states behind s by l are told by -/
def srcK (W : Wd) (kf : Nat → NestedKey) (s : Nat) (l : Int) : List NestedKey := (W.beh (s : Int) l).map fun y => kf y.toNat
theorem sg_iff {W : Wd} {b : Bool} {r : Nat} {kf : Nat → NestedKey} {B : Nat → Nat → List NestedKey} (hin : W.In) (lb : ∀ p ∈ W.steps, 0 ≤ p.2.1 ∧ p.2.1 < 3) (kd : ∀ s, s < W.n → Kd b (kf s)) (R : ∀ s t, s < W.n → t < W.n → (kf s = kf t ↔ Lk W r s t))
    (C : ∀ s l, s < W.n → l < 3 → Cn (B s l) (srcK W kf s (l : Nat))) {s t : Nat} (hs : s < W.n) (ht : t < W.n) : sgK (kf s) (B s 0) (B s 1) (B s 2) = sgK (kf t) (B t 0) (B t 1) (B t 2) ↔ Lk W (r + 1) s t := by
  have kds : ∀ s l, ∀ x ∈ srcK W kf s l, Kd b x := fun s l x hx => by
    obtain ⟨y, hy, rfl⟩ := List.mem_map.mp hx
    have := hin.beh hy
    exact kd _ (by omega)
  have ms : ∀ s t : Nat, ∀ l : Int, s < W.n → t < W.n → ((∀ x, x ∈ srcK W kf s l ↔ x ∈ srcK W kf t l) ↔ (∀ y ∈ W.beh (s : Int) l, ∃ z ∈ W.beh (t : Int) l, Lk W r y.toNat z.toNat) ∧ (∀ z ∈ W.beh (t : Int) l, ∃ y ∈ W.beh (s : Int) l, Lk W r y.toNat z.toNat)) := fun s t l hs ht => by
    constructor
    · intro h
      refine ⟨fun y hy => ?_, fun z hz => ?_⟩
      · obtain ⟨z, hz, e⟩ := List.mem_map.mp ((h _).mp (List.mem_map.mpr ⟨y, hy, rfl⟩))
        have hy' := hin.beh hy
        have hz' := hin.beh hz
        exact ⟨z, hz, (R _ _ (by omega) (by omega)).mp e.symm⟩
      · obtain ⟨y, hy, e⟩ := List.mem_map.mp ((h _).mpr (List.mem_map.mpr ⟨z, hz, rfl⟩))
        have hy' := hin.beh hy
        have hz' := hin.beh hz
        exact ⟨y, hy, (R _ _ (by omega) (by omega)).mp e⟩
    · rintro ⟨h1, h2⟩ x
      constructor
      · intro hx
        obtain ⟨y, hy, rfl⟩ := List.mem_map.mp hx
        obtain ⟨z, hz, e⟩ := h1 y hy
        have hy' := hin.beh hy
        have hz' := hin.beh hz
        exact List.mem_map.mpr ⟨z, hz, ((R _ _ (by omega) (by omega)).mpr e).symm⟩
      · intro hx
        obtain ⟨z, hz, rfl⟩ := List.mem_map.mp hx
        obtain ⟨y, hy, e⟩ := h2 z hz
        have hy' := hin.beh hy
        have hz' := hin.beh hz
        exact List.mem_map.mpr ⟨y, hy, (R _ _ (by omega) (by omega)).mpr e⟩
  rw [sgK_inj, R s t hs ht, (C s 0 hs (by decide)).iff (C t 0 ht (by decide)) (kds s _), (C s 1 hs (by decide)).iff (C t 1 ht (by decide)) (kds s _), (C s 2 hs (by decide)).iff (C t 2 ht (by decide)) (kds s _),
    ms s t _ hs ht, ms s t _ hs ht, ms s t _ hs ht]
  constructor
  · rintro ⟨h, h0, h1, h2⟩
    refine ⟨h, fun l => ?_⟩
    by_cases c : 0 ≤ l ∧ l < 3
    · obtain rfl | rfl | rfl : l = 0 ∨ l = 1 ∨ l = 2 := by omega
      · exact h0
      · exact h1
      · exact h2
    · have no : ∀ {s : Int} {y : Int}, y ∉ W.beh s l := fun {s y} hy => c (lb _ (hin.beh hy).2.2)
      exact ⟨fun y hy => absurd hy no, fun z hz => absurd hz no⟩
  · rintro ⟨h, k⟩
    exact ⟨h, k _, k _, k _⟩
/-! ### the last: numbers by first places -/
/-- the values, once each, in the order they come -/
theorem first_nums {n : Nat} {R : Nat → Nat → Prop} (E : Eqv n R) {c : Nat → Int} (h : ∀ s t, s < n → t < n → (c s = c t ↔ R s t)) :
    (∀ i, i < n → (c i ∈ (ldrs R i).map c ↔ ldr R i ≠ i)) ∧ ∀ s, s < n → c s ∈ (ldrs R n).map c ∧ ((ldrs R n).map c).idxOf (c s) = numC R s := by
  refine ⟨fun i hi => ?_, fun s hs => ?_⟩
  · have o := ldr_ok E hi
    rw [List.mem_map]
    constructor
    · rintro ⟨t, ht, e⟩ z
      have m := mem_ldrs.mp ht
      have r := (h t i (by omega) hi).mp e
      have := o.2.2 t r (by omega)
      omega
    · intro ne
      have l : ldr R i < i := by omega
      exact ⟨ldr R i, mem_ldrs.mpr ⟨l, ldr_ldr E hi⟩, (h _ _ (by omega) hi).mpr o.2.1⟩
  · have at_ := num_at E hs
    have lt := num_lt E hs
    have ln := ldr_lt E hs
    have o := ldr_ok E hs
    have e1 : c (ldr R s) = c s := (h _ _ ln hs).mpr o.2.1
    have at2 : ((ldrs R n).map c)[numC R s]? = some (c s) := by rw [List.getElem?_map, at_, Option.map_some, e1]
    refine ⟨List.mem_of_getElem? at2, ?_⟩
    have mm := List.mem_of_getElem? at2
    have il : ((ldrs R n).map c).idxOf (c s) < ((ldrs R n).map c).length := List.idxOf_lt_length_iff.mpr mm
    have at3 : ((ldrs R n).map c)[((ldrs R n).map c).idxOf (c s)]? = some (c s) := by
      rw [List.getElem?_eq_getElem il, List.getElem_idxOf]
    rw [List.getElem?_map] at at3
    cases e : (ldrs R n)[((ldrs R n).map c).idxOf (c s)]? with
    | none => rw [e] at at3; cases at3
    | some l =>
      rw [e] at at3
      have e2 : c l = c s := Option.some.inj at3
      have ml := mem_ldrs.mp (List.mem_of_getElem? e)
      have r := (h l s ml.1 hs).mp e2
      rw [← num_of E e]
      exact (num_eq E ml.1 hs).mpr r
end Fw

set_option maxRecDepth 100000
set_option maxHeartbeats 4000000
namespace Fw
open PySem PySem.Spec PyProof.Rows L2 GxR
theorem kall_nums {K : PySem.W.Frag} {H : Hp} : ∀ {vs : List V} {ks : List NestedKey}, KAll K H vs ks → (∀ k ∈ ks, Kd true k) → vs = (ks.map numK).map V.int ∧ ks = (ks.map numK).map NestedKey.num
  | _, _, .nil, _ => ⟨rfl, rfl⟩
  | _, _, .cons (k := k) h r, kd => by
    obtain ⟨i, rfl⟩ := kd k List.mem_cons_self
    cases h
    have := kall_nums r fun k hk => kd k (List.mem_cons_of_mem _ hk)
    refine ⟨?_, ?_⟩
    · rw [List.map_cons, List.map_cons, ← this.1]; rfl
    · rw [List.map_cons, List.map_cons, ← this.2]; rfl
theorem kall_en {K : PySem.W.Frag} {H : Hp} : ∀ {vs : List V} {ks : List NestedKey}, KAll K H vs ks → (∀ k ∈ ks, Kd false k) → ∃ es : List EN, vs = es.map (fun e => V.ref e.1) ∧ ks = es.map (·.2) ∧ ∀ e ∈ es, KIs K H (.ref e.1) e.2
  | _, _, .nil, _ => ⟨[], rfl, rfl, fun e h => by cases h⟩
  | _, _, .cons (k := k) h r, kd => by
    obtain ⟨es, e1, e2, e3⟩ := kall_en r fun k hk => kd k (List.mem_cons_of_mem _ hk)
    obtain ⟨ns, rfl⟩ := kd k List.mem_cons_self
    cases h with
    | @tup a xs ks hs ha =>
      refine ⟨(a, fK ns) :: es, by rw [e1]; rfl, by rw [e2]; rfl, fun e he => ?_⟩
      rcases List.mem_cons.mp he with h | h
      · rw [h]; exact .tup hs ha
      · exact e3 e h
theorem kall_of {K : PySem.W.Frag} {H : Hp} : ∀ {es : List EN}, (∀ e ∈ es, KIs K H (.ref e.1) e.2) → KAll K H (es.map fun e => V.ref e.1) (es.map (·.2))
  | [], _ => .nil
  | e :: es, h => .cons (h e List.mem_cons_self) (kall_of fun x hx => h x (List.mem_cons_of_mem _ hx))
theorem kis_fK_inv {K : PySem.W.Frag} {H : Hp} {a : Addr} {ns : List Int} (h : KIs K H (.ref a) (fK ns)) : SqT K H a (ns.map V.int) := by
  cases h with
  | tup hs ha =>
    have := kall_nums ha fun k hk => by
      obtain ⟨i, _, rfl⟩ := List.mem_map.mp hk
      exact ⟨i, rfl⟩
    have e : (ns.map NestedKey.num).map numK = ns := by rw [List.map_map]; exact List.map_id _
    rw [e] at this
    rw [← this.1]
    exact hs
theorem kis_tup_inv {K : PySem.W.Frag} {H : Hp} {a : Addr} {ks : List NestedKey} (h : KIs K H (.ref a) (.tup ks)) : ∃ xs, SqT K H a xs ∧ KAll K H xs ks := by
  cases h with
  | tup hs ha => exact ⟨_, hs, ha⟩
theorem lex_one {i j : Int} : HT.lexLt [j] [i] = false ↔ i ≤ j := by
  rw [HT.lexLt_cons]
  by_cases e : j = i
  · rw [if_pos e]; subst e; exact ⟨fun _ => Int.le_refl _, fun _ => rfl⟩
  · rw [if_neg e, decide_eq_false_iff_not]; omega
theorem KIs.same {K : PySem.W.Frag} {H H' : Hp} {v : V} {k : NestedKey} (s : Same H H') (h : KIs K H v k) : KIs K H' v k := h.map fun _ _ => SqT.same s
theorem KAll.same {K : PySem.W.Frag} {H H' : Hp} {v : List V} {k : List NestedKey} (s : Same H H') (h : KAll K H v k) : KAll K H' v k := h.map fun _ _ => SqT.same s
theorem sqt_lst {K : PySem.W.Frag} {H : Hp} {l a : Addr} {xs ys : List V} {o : HO} (hl : H l = some (.lst ys)) (h : SqT K H a xs) : SqT K (upd H l o) a xs := by
  rcases h with (h | ⟨u, h⟩) | h
  · exact .inl (.inl (by rw [upd_ne (ne_of h hl (by intro z; cases z))]; exact h))
  · exact .inl (.inr ⟨u, by rw [upd_ne (ne_of h hl (by intro z; cases z))]; exact h⟩)
  · exact .inr h
theorem KAll.snoc {K : PySem.W.Frag} {H : Hp} {v : V} {k : NestedKey} (h : KIs K H v k) : ∀ {vs : List V} {ks : List NestedKey}, KAll K H vs ks → KAll K H (vs ++ [v]) (ks ++ [k])
  | _, _, .nil => .cons h .nil
  | _, _, .cons a r => .cons a (KAll.snoc h r)
theorem data_depth : ∀ (n : Nat) (k : NestedKey), k.depth ≤ n → k.data.depth ≤ n
  | n, .none, _ => by simp only [NestedKey.data, PyData.depth]; omega
  | n, .num i, _ => by simp only [NestedKey.data, PyData.depth]; omega
  | n, .text x, _ => by simp only [NestedKey.data, PyData.depth]; omega
  | 0, .tup ks, h => by simp only [NestedKey.depth] at h; omega
  | n + 1, .tup ks, h => by
    simp only [NestedKey.depth] at h
    rw [data_tup]
    simp only [PyData.depth]
    have : ∀ ks : List NestedKey, NestedKey.depthAll ks ≤ n → PyData.depthAll (ks.map NestedKey.data) ≤ n := fun ks => by
      induction ks with
      | nil => intro _; simp only [List.map_nil, PyData.depthAll]; omega
      | cons k ks ih =>
        intro h
        simp only [NestedKey.depthAll] at h
        simp only [List.map_cons, PyData.depthAll]
        have h1 := data_depth n k (by omega)
        have h2 := ih (by omega)
        omega
    have := this ks (by omega)
    omega
section
variable {P : Program} {w : World} {K : PySem.W.Frag} {mg : Str → Option Value} {base : Heap} {C J B WC NC RC cA tA : Addr}
/-- tuple(sorted(set(l))) -/
theorem inner_set {H : Hp} {Q : VK} {l : Addr} {zs : List V} {ms : List NestedKey} {b : Bool} (hl : SqL K H l zs) (ka : KAll K H zs ms) (kd : ∀ k ∈ ms, Kd b k) (few : ms.length ≤ 76) (few' : ∃ Vs : List Int, Vs.length ≤ 60 ∧ ∀ i, NestedKey.num i ∈ ms → i ∈ Vs)
    (k : ∀ (T : Addr) (us : List V) (ns : List NestedKey) (H' : Hp), Same H H' → H T = none → H' T = some (.tup us) → KAll K H' us ns → Cn ns ms → Q (.ref T) H') :
    rOr (rSetL K w) (rSetTN K w) [.ref l] H fun v H1 => rOr (rSortedSet w) (rSortF K w) [v] H1 fun u H2 => rTupOf K [u] H2 Q := by
  cases b with
  | true =>
    obtain ⟨e1, e2⟩ := kall_nums ka kd
    generalize ms.map numK = ns at e1 e2
    subst e1 e2
    obtain ⟨Vs, v1, v2⟩ := few'
    refine .inl ⟨l, ns, rfl, hl, by rw [List.length_map] at few; omega, fun p c hp hc hV => .inl ⟨p, _, c, rfl, upd_same, ?_, fun out q up mem len hq => ⟨q, _, rfl, .inl ⟨SqL.of upd_same, fun T hT => ?_⟩⟩⟩⟩
    · have := hV Vs fun x hx => v2 x (List.mem_map.mpr ⟨x, hx, rfl⟩)
      omega
    · have s1 := Same.new (o := SetO w p (fun j => decide (j ∈ ns)) c) hp
      have s2 := Same.new (o := .lst (out.map V.int)) hq
      have s3 := Same.new (o := .tup (out.map V.int)) hT
      have s := (s1.trans s2).trans s3
      have hT0 : H T = none := by
        cases e : H T with
        | none => rfl
        | some u => rw [s2 _ _ (s1 _ _ e)] at hT; cases hT
      refine k T _ (out.map .num) _ s hT0 upd_same (kall_ints K _ out) ⟨?_, fun x => ?_, ?_⟩
      · rw [List.nodup_iff_pairwise_ne, List.pairwise_map]
        exact up.imp fun {x y} h e => by have := NestedKey.num.inj e; omega
      · rw [List.mem_map, List.mem_map]
        constructor
        · rintro ⟨i, hi, rfl⟩
          exact ⟨i, of_decide_eq_true ((mem i).mp hi), rfl⟩
        · rintro ⟨i, hi, rfl⟩
          exact ⟨i, (mem i).mpr (decide_eq_true hi), rfl⟩
      · rw [List.pairwise_map]
        exact up.imp fun {x y} h => lex_one.mpr (by omega)
  | false =>
    obtain ⟨es, rfl, rfl, ke⟩ := kall_en ka kd
    have kn : ∀ e ∈ es, KN K H e := fun e he => by
      have kde := kd e.2 (List.mem_map.mpr ⟨e, he, rfl⟩)
      exact ⟨ke e he, by have := kd_low kde; omega, kd_nm kde⟩
    refine .inr ⟨l, es, rfl, hl, kn, by rw [List.length_map] at few; omega, fun a L ha sub all nd => .inr ⟨a, L, fun e => keyL e.2, rfl, upd_same, fun e he => ?_, fun L' p pm up hp => ⟨p, _, rfl, .inl ⟨SqL.of upd_same, fun T hT => ?_⟩⟩⟩⟩
    · have he' := sub e he
      obtain ⟨ns, e2⟩ := kd e.2 (List.mem_map.mpr ⟨e, he', rfl⟩)
      have kk := (ke e he').same (Same.new (o := SetNO w a L) ha)
      show SqT K _ e.1 ((keyL e.2).map V.int) ∧ _ ∧ e.2 = fK (keyL e.2)
      refine ⟨?_, kk, ?_⟩
      · rw [e2] at kk ⊢
        rw [keyL_fK]
        exact kis_fK_inv kk
      · rw [e2, keyL_fK]
    · have s1 := Same.new (o := SetNO w a L) ha
      have s2 := Same.new (o := .lst (L'.map fun e => V.ref e.1)) hp
      have s3 := Same.new (o := .tup (L'.map fun e => V.ref e.1)) hT
      have s := (s1.trans s2).trans s3
      have hT0 : H T = none := by
        cases e : H T with
        | none => rfl
        | some u => rw [s2 _ _ (s1 _ _ e)] at hT; cases hT
      refine k T _ (L'.map (·.2)) _ s hT0 upd_same (kall_of fun e he => (ke e (sub e (pm.mem_iff.mp he))).same s) ⟨(pm.map _).nodup_iff.mpr nd, fun x => ?_, ?_⟩
      · rw [(pm.map (·.2)).mem_iff]
        constructor
        · intro hx
          obtain ⟨e, he, rfl⟩ := List.mem_map.mp hx
          exact List.mem_map.mpr ⟨e, sub e he, rfl⟩
        · intro hx
          obtain ⟨e, he, rfl⟩ := List.mem_map.mp hx
          exact all e he
      · rw [List.pairwise_map]
        exact up
def spIsInt : Sp := fun vs H Q _ => ∃ n : Int, vs = [.int n] ∧ Q (.bl true) H
theorem ok_law_is_integer {f : Addr} {fd : FuncData} (FF : Fun K "_law_is_integer" "_law_is_integer" s_law_is_integer f fd) (T : Txt K mg C J B) : FnOk P w K mg base CX0 1 f fd a_law_is_integer spIsInt := by
  refine FF.ok sc_law_is_integer (fun vs H Q E h => ?_) (fun cdv A outer s H vs Q E hr h => ?_)
  · obtain ⟨n, rfl, _⟩ := h
    rfl
  · obtain ⟨n, rfl, k⟩ := h
    refine ⟨_, (pss_one (ps_ret (pe_and (pe_callB call_isi rfl T.z_isinstance (by decide +kernel) (pa_cons (pv 0) (pa_cons (pe_bltn (v := .ty "int") (u := .type "int") rfl T.z_int (by decide +kernel) rfl) pa_nil))) (pe_one (pe_not (pe_callB call_isi rfl T.z_isinstance (by decide +kernel) (pa_cons (pv 0) (pa_cons (pe_bltn (v := .ty "bool") (u := .type "bool") rfl T.z_bool (by decide +kernel) rfl) pa_nil)))))))), ?_⟩
    refine ⟨.int n, rfl, .int n, .ty "int", .type "int", .type "int", true, rfl, .ty "int", .base (.int n), kit_ty (by decide +kernel), true, rfl, iteT ?_⟩
    exact ⟨.int n, rfl, .int n, .ty "bool", .type "int", .type "bool", false, rfl, .ty "bool", .base (.int n), kit_ty (by decide +kernel), false, rfl, k⟩
end
end Fw

set_option maxRecDepth 100000
set_option maxHeartbeats 8000000
namespace Fw
open PySem PySem.Spec PyProof.Rows L2 GxR
/-- what the states are told by, after r rounds -/
structure NowI (K : PySem.W.Frag) (H : Hp) (W : Wd) (r : Nat) (l : Addr) (b : Bool) (vf : Nat → V) (kf : Nat → NestedKey) : Prop where
  at_ : H l = some (.lst ((List.range W.n).map vf))
  ks : ∀ s, s < W.n → KIs K H (vf s) (kf s)
  kd : ∀ s, s < W.n → Kd b (kf s)
  rel : ∀ s t, s < W.n → t < W.n → (kf s = kf t ↔ Lk W r s t)
theorem NowI.same {K : PySem.W.Frag} {H H' : Hp} {W : Wd} {r : Nat} {l : Addr} {b : Bool} {vf : Nat → V} {kf : Nat → NestedKey} (s : Same H H') (h : NowI K H W r l b vf kf) : NowI K H' W r l b vf kf :=
  ⟨s _ _ h.at_, fun t ht => (h.ks t ht).same s, h.kd, h.rel⟩
theorem rmap_at {α : Type} {f : Nat → α} {n i : Nat} (h : i < n) : ((List.range n).map f)[i]? = some (f i) := by rw [List.getElem?_map, List.getElem?_range h]; rfl
/-- the numbers that are told from -/
theorem NowI.few {K : PySem.W.Frag} {H : Hp} {W : Wd} {r : Nat} {l : Addr} {b : Bool} {vf : Nat → V} {kf : Nat → NestedKey} (h : NowI K H W r l b vf kf) (hin : W.In) (n6 : W.n ≤ 60) (s : Nat) (c : Int) : ∃ Vs : List Int, Vs.length ≤ 60 ∧ ∀ i, NestedKey.num i ∈ srcK W kf s c → i ∈ Vs := by
  refine ⟨(List.range W.n).map fun t => numK (kf t), by rw [List.length_map, List.length_range]; exact n6, fun i hi => ?_⟩
  obtain ⟨y, hy, e⟩ := List.mem_map.mp hi
  have := hin.beh hy
  exact List.mem_map.mpr ⟨y.toNat, List.mem_range.mpr (by omega), by rw [e]; rfl⟩
theorem kall_map {K : PySem.W.Frag} {H : Hp} {α : Type} {f : α → V} {g : α → NestedKey} : ∀ {ys : List α}, (∀ y ∈ ys, KIs K H (f y) (g y)) → KAll K H (ys.map f) (ys.map g)
  | [], _ => .nil
  | y :: ys, h => .cons (h y List.mem_cons_self) (kall_map fun z hz => h z (List.mem_cons_of_mem _ hz))
theorem KAll.length {K : PySem.W.Frag} {H : Hp} : ∀ {vs : List V} {ks : List NestedKey}, KAll K H vs ks → vs.length = ks.length
  | _, _, .nil => rfl
  | _, _, .cons _ r => by rw [List.length_cons, List.length_cons, KAll.length r]
theorem beh_len (W : Wd) (s l : Int) : (W.beh s l).length ≤ W.steps.length := by
  unfold Wd.beh
  rw [List.length_map]
  exact List.length_filter_le _ _
theorem idx_num (c : Int) : ∀ ns : List Int, (ns.map NestedKey.num).idxOf (.num c) = ns.idxOf c
  | [] => rfl
  | n :: ns => by
    rw [List.map_cons, List.idxOf_cons, List.idxOf_cons, idx_num c ns]
    by_cases e : n = c
    · subst e; simp
    · have e1 : (n == c) = false := by simpa using e
      have e2 : (NestedKey.num n == NestedKey.num c) = false := by simpa using e
      rw [e1, e2]
section
variable {P : Program} {w : World} {K : PySem.W.Frag} {mg : Str → Option Value} {base : Heap} {C J B WC NC RC cA tA : Addr}
def spLCls (K : PySem.W.Frag) : Sp := fun vs H Q _ => ∃ (wa sa pa : Addr) (fas pas : List Addr) (W : Wd), vs = [.ref wa] ∧ WAx H wa sa pa fas pas W ∧ W.In ∧ (∀ p ∈ W.steps, 0 ≤ p.2.1 ∧ p.2.1 < 3) ∧ W.n ≤ 60 ∧ W.steps.length ≤ 76 ∧
  ∀ (nt : Addr) H', Same H H' → FzT H' nt ((clsN (LkF W) W.n).map V.int) → Q (.ref nt) H'
theorem ok_law_classes {f : Addr} {fd : FuncData} (FF : Fun K "_law_classes" "_law_classes" s_law_classes f fd) (T : Txt K mg C J B) (h_law_behind : Has P w K mg base "_law_behind" 1 a_law_behind (spBehind K)) : FnOk P w K mg base CX0 2 f fd a_law_classes (spLCls K) := by
  refine FF.ok sc_law_classes (fun vs H Q E h => ?_) (fun cdv A outer s0 H vs Q E hr h => ?_)
  · obtain ⟨wa, sa, pa, fas, pas, W, rfl, _⟩ := h
    rfl
  · obtain ⟨wa, sa, pa, fas, pas, W, rfl, X, hin, lb, n60, st, k⟩ := h
    refine ⟨_, (pss_cons (ps_set (i := 1) sc_law_classes.nd rfl (.inl rfl) (pe_callB call_len_seq rfl T.z_len (by decide +kernel) (pa_cons (pe_ix ix_tup (pv 0) pe_int (fun _ _ => rfl)) pa_nil)))
      (pss_cons (ps_set (i := 3) sc_law_classes.nd rfl (.inr rfl) (pe_lc (own := [("state", 2)]) (g := gName 2) rfl sc_law_classes.nd (pi_range1 rfl T.z_range (pa_cons (pv 1) pa_nil)) (blkOk_by (own := [("state", 2)]) (N := n_law_classes) (sc := defScope s_law_classes) (by decide +kernel)) (fun _ _ _ _ _ => (pg_name (i := 2) sc_law_classes.nd rfl (.inl rfl))) (fun _ _ _ _ _ => pts_nil) (fun _ _ _ _ _ => (pe_callTy (@id (CallR _ (.type "tuple") (rTupOf K)) call_tuple_of) rfl T.z_tuple (by decide +kernel) (pa_cons (pe_ix (@id (IxR _ (rIxL K)) ix_list) (pe_ix (@id (IxR _ (rIxT K)) ix_tup) (pv 0) pe_int (fun _ _ => rfl)) (pv 2) (fun _ _ => rfl)) pa_nil)))))
      (pss_cons (ps_for PassesOwn.never rfl (pi_range1 rfl T.z_range (pa_cons (pe_op op_add (pv 1) pe_int) pa_nil)) (pg_name (i := 4) sc_law_classes.nd rfl (.inl rfl)) (pss_cons (ps_set (i := 5) sc_law_classes.nd rfl (.inl rfl) (pe_lst pa_nil))
      (pss_cons (ps_for PassesOwn.never rfl (pi_range1 rfl T.z_range (pa_cons (pv 1) pa_nil)) (pg_name (i := 2) sc_law_classes.nd rfl (.inr rfl)) (pss_cons (ps_setLc (i := 6) (own := [("label", 9)]) (g := gName 9) rfl sc_law_classes.nd rfl rfl (sw_true rfl rfl rfl (by decide +kernel)) (pi_range1 rfl T.z_range (pa_cons pe_int pa_nil)) (blkOk_by (own := [("label", 9)]) (N := n_law_classes) (sc := defScope s_law_classes) (by decide +kernel)) (fun _ _ _ _ _ => (pg_name (i := 9) sc_law_classes.nd rfl (.inl rfl))) (fun _ _ _ _ _ => pts_nil) (fun _ _ _ _ _ => (pe_callTy (@id (CallR _ (.type "tuple") (rTupOf K)) call_tuple_of) rfl T.z_tuple (by decide +kernel) (pa_cons (pe_callB (show CallR _ _ (rOr (rSortedSet w) (rSortF K w)) from cr_or (cr_sortedSet rfl) (cr_sortF rfl hr.units)) rfl T.z_sorted (by decide +kernel) (pa_cons (pe_callTy (show CallR _ _ (rOr (rSetL K w) (rSetTN K w)) from cr_or (call_setL rfl) (cr_setN rfl hr.units)) rfl T.z_set (by decide +kernel) (pa_cons (pe_lc (own := [("other", 10)]) (g := gName 10) rfl sc_law_classes.nd (@id (PI _ _ _ (iList K _)) (pi_list (pe_callH h_law_behind (hr.mono (by omega)) (pa_cons (pv 0) (pa_cons (pv 2) (pa_cons (pv 9) pa_nil)))))) (blkOk_by (own := [("other", 10)]) (N := n_law_classes) (sc := { kind := PySem.ScopeKind.function, names := [ (PySem.Str.ofString ".0", PySem.NameKind.local), (PySem.Str.ofString "label", PySem.NameKind.local), (PySem.Str.ofString "tuple", PySem.NameKind.globalImplicit), (PySem.Str.ofString "sorted", PySem.NameKind.globalImplicit), (PySem.Str.ofString "set", PySem.NameKind.globalImplicit), (PySem.Str.ofString "_law_behind", PySem.NameKind.globalImplicit), (PySem.Str.ofString "now", PySem.NameKind.cell), (PySem.Str.ofString "state", PySem.NameKind.cell), (PySem.Str.ofString "world", PySem.NameKind.cell)], isGenerator := false, isCoroutine := false, more := [] : PySem.Scope }) (by decide +kernel)) (fun _ _ _ _ _ => (pg_name (i := 10) sc_law_classes.nd rfl (.inl rfl))) (fun _ _ _ _ _ => pts_nil) (fun _ _ _ _ _ => (pe_ix (@id (IxR _ (rIxL K)) ix_list) (pv 3) (pv 10) (fun _ _ => rfl)))) pa_nil)) pa_nil)) pa_nil))))
      (pss_one (ps_expr (pe_bm PySem.F.plainAttrs_list PySem.F.slot_list_append PySem.F.type_list_append mt_append (pv 5) (pa_cons (pe_tup (pa_cons (pe_ix ix_list (pv 3) (pv 2) (fun _ _ => rfl)) (pa_cons (pe_callTy call_tuple_of rfl T.z_tuple (by decide +kernel) (pa_cons (pv 6) pa_nil)) pa_nil))) pa_nil))))))
      (pss_cons (ps_set (i := 7) sc_law_classes.nd rfl (.inr rfl) (pe_callB (show CallR _ _ (rSortD K w) from cr_sortD rfl hr.units) rfl T.z_sorted (by decide +kernel) (pa_cons (pe_callTy (show CallR _ _ (rSetTN K w) from cr_setN rfl hr.units) rfl T.z_set (by decide +kernel) (pa_cons (pv 5) pa_nil)) pa_nil)))
      (pss_one (ps_set (i := 3) sc_law_classes.nd rfl (.inr rfl) (pe_lc (own := [("sign", 8)]) (g := gName 8) rfl sc_law_classes.nd (pi_list (pv 5)) (blkOk_by (own := [("sign", 8)]) (N := n_law_classes) (sc := defScope s_law_classes) (by decide +kernel)) (fun _ _ _ _ _ => (pg_name (i := 8) sc_law_classes.nd rfl (.inl rfl))) (fun _ _ _ _ _ => pts_nil) (fun _ _ _ _ _ => (show PE _ _ (tBM K "list" (rIndexN K) _ _) from pe_bm PySem.F.plainAttrs_list PySem.F.slot_list_index PySem.F.type_list_index (mt_indexN hr.units) (pv 7) (pa_cons (pv 8) pa_nil))))))))))
      (pss_cons (ps_set (i := 7) sc_law_classes.nd rfl (.inr rfl) (pe_lst pa_nil))
      (pss_cons (ps_for PassesOwn.never rfl (pi_list (pv 3)) (pg_name (i := 8) sc_law_classes.nd rfl (.inl rfl)) (pss_one (ps_if (pt_cmpR op_notIn_seq (pv 8) (pv 7) (by rfl)) (pss_one (ps_expr (pe_bm PySem.F.plainAttrs_list PySem.F.slot_list_append PySem.F.type_list_append mt_append (pv 7) (pa_cons (pv 8) pa_nil)))) pss_nil)))
      (pss_one (ps_ret (pe_callTy (show CallR _ _ (rTupFz K) from call_tuple_fz) rfl T.z_tuple (by decide +kernel) (pa_cons (pe_lc (own := [("sign", 8)]) (g := gName 8) rfl sc_law_classes.nd (pi_list (pv 3)) (blkOk_by (own := [("sign", 8)]) (N := n_law_classes) (sc := defScope s_law_classes) (by decide +kernel)) (fun _ _ _ _ _ => (pg_name (i := 8) sc_law_classes.nd rfl (.inl rfl))) (fun _ _ _ _ _ => pts_nil) (fun _ _ _ _ _ => (show PE _ _ (tBM K "list" (rIndexN K) _ _) from pe_bm PySem.F.plainAttrs_list PySem.F.slot_list_index PySem.F.type_list_index (mt_indexN hr.units) (pv 7) (pa_cons (pv 8) pa_nil)))) pa_nil))))))))), ?_⟩
    have fl : fas.length = W.n := X.f.1
    refine ⟨.ref wa, rfl, wa, _, _, .ref sa, rfl, rfl, SqT.of X.w, rfl, sa, fas.map V.ref, rfl, .inl (SqL.of X.s), ?_⟩
    rw [List.length_map, fl]
    refine ⟨.int (W.n : Nat), rfl, _, rfl, by omega, by omega, fun D hD => ?_⟩
    rw [Int.toNat_natCast]
    refine lc_it walk_range (fun i G => Same H G ∧ H D = none ∧ ∃ ts : List Addr, G D = some (.lst (ts.map V.ref)) ∧ RTp G ts (W.facts.take i)) ⟨Same.new hD, hD, [], upd_same, ⟨rfl, fun i a X e _ => by simp at e⟩⟩ (fun _ _ _ _ => trivial) ?_ ?_
    · rintro i x GX G hi ⟨sG, _, ts, gD, rt⟩ ⟨rfl, rfl⟩
      have e0 : (fun i : Nat => V.int (0 + (i : Int))) i = V.int (i : Nat) := by show V.int _ = _; rw [Int.zero_add]
      rw [e0]
      have hfi : W.facts[i]? = some W.facts[i] := List.getElem?_eq_getElem hi
      obtain ⟨a, ha⟩ : ∃ a, fas[i]? = some a := ⟨_, List.getElem?_eq_getElem (by rw [fl]; exact hi)⟩
      have gl := X.f.2 i a _ ha hfi
      refine ⟨rfl, .ref wa, rfl, wa, _, _, .ref sa, rfl, rfl, SqT.of (sG _ _ X.w), rfl, .int ((i : Nat) : Int), rfl, sa, _, _, .ref a, rfl, rfl, SqL.of (sG _ _ X.s), atI_nat (j := i) (by rw [List.getElem?_map, ha]; rfl), a, _, rfl, .inl ⟨SqL.of (sG _ _ gl), fun t ht => ?_⟩⟩
      have s1 := Same.new (o := .tup (W.facts[i].map V.int)) ht
      have tl : ts.length ≤ 60 := by have := rt.1; rw [List.length_take] at this; omega
      have tne : t ≠ D := fun e => by rw [e, gD] at ht; cases ht
      refine ⟨_, s1 _ _ gD, by rw [List.length_map]; exact small1000 (by omega), fun b o e => by rw [upd_ne (ne_of_none e hD)]; exact s1 _ _ (sG _ _ e), hD, ts ++ [t], by rw [upd_same, List.map_append]; rfl, ?_⟩
      rw [List.take_add_one, hfi]
      refine RTp.snoc (rt.map fun b ys e => ?_) (by rw [upd_ne tne]; exact upd_same)
      rw [upd_ne (ne_of e gD (by intro z; cases z))]
      exact s1 _ _ e
    · rintro G ⟨sG, _, ts, gD, rt⟩
      rw [show W.n = W.facts.length from rfl, List.take_length] at rt
      have tl : ts.length = W.n := rt.1
      have N0 : NowI K G W 0 D false (fun s => .ref (ts.getD s 0)) (fun s => fK (W.at (s : Nat))) := by
        have get : ∀ s, s < W.n → ts[s]? = some (ts.getD s 0) := fun s hs => by
          rw [List.getD_eq_getElem?_getD, List.getElem?_eq_getElem (by omega)]; rfl
        refine ⟨?_, fun s hs => ?_, fun s hs => ⟨_, rfl⟩, fun s t hs ht => ⟨fun e => fK_inj e, fun e => congrArg fK e⟩⟩
        · rw [gD]
          congr 2
          refine List.ext_getElem? fun i => ?_
          rw [List.getElem?_map, List.getElem?_map]
          by_cases hi : i < W.n
          · rw [get i hi, List.getElem?_range hi]; rfl
          · rw [List.getElem?_eq_none (by omega), List.getElem?_eq_none (by rw [List.length_range]; omega)]; rfl
        · refine kis_fK (SqT.of (rt.2 s _ _ (get s hs) ?_))
          unfold Wd.at
          rw [Int.toNat_natCast, List.getElem?_eq_getElem hs]
          rfl
      generalize (fun s => V.ref (ts.getD s 0)) = vf0 at N0
      generalize (fun s : Nat => fK (W.at (s : Nat))) = kf0 at N0
      clear gD rt tl
      refine ⟨.int (W.n : Nat), rfl, (W.n : Nat), 1, rfl, rfl, _, rfl, by omega, by omega, ?_⟩
      refine for_range (lo := 0) (n := (((W.n : Nat) : Int) + 1).toNat) (fun r σ G => ∃ (y2 y4 y5 y6 y7 y8 : Option V) (l : Addr) (b : Bool) (vf : Nat → V) (kf : Nat → NestedKey), σ = [some (.ref wa), some (.int (W.n : Nat)), y2, some (.ref l), y4, y5, y6, y7, y8, none, none] ∧ Same H G ∧ NowI K G W r l b vf kf ∧ (r = 0 ∨ b = true))
        ⟨none, none, none, none, none, none, D, false, vf0, kf0, rfl, sG, N0, .inl rfl⟩ ?_ ?_
      · rintro r σ G1 hr' ⟨y2, y4, y5, y6, y7, y8, l, b, vf, kf, rfl, sG1, N, _⟩
        clear sG N0
        refine ⟨Nat.zero_le _, fun LS hLS => ?_⟩
        have gL0 : (upd G1 LS (.lst [])) LS = some (.lst (([] : List EN).map fun e => V.ref e.1)) := upd_same
        have s2 := Same.new (o := .lst []) hLS
        generalize upd G1 LS (.lst []) = G2 at gL0 s2
        refine ⟨.int (W.n : Nat), rfl, _, rfl, by omega, by omega, ?_⟩
        rw [Int.toNat_natCast]
        refine for_range (lo := 0) (n := W.n) (fun j σ G => ∃ (y2 y6 : Option V) (es : List EN) (B : Nat → Nat → List NestedKey), σ = [some (.ref wa), some (.int (W.n : Nat)), y2, some (.ref l), some (.int (0 + (r : Int))), some (.ref LS), y6, y7, y8, none, none] ∧ Same G1 G ∧
            G LS = some (.lst (es.map fun e => V.ref e.1)) ∧ es.length = j ∧ (∀ e ∈ es, KIs K G (.ref e.1) e.2) ∧ (∀ i e, es[i]? = some e → e.2 = sgK (kf i) (B i 0) (B i 1) (B i 2)) ∧ ∀ i c, i < j → c < 3 → Cn (B i c) (srcK W kf i (c : Nat)))
          ⟨y2, y6, [], fun _ _ => [], rfl, s2, gL0, rfl, (fun e h => by cases h), (fun i e h => by simp at h), fun i c h => absurd h (Nat.not_lt_zero _)⟩ ?_ ?_
        · rintro j σ G hj ⟨y2', y6', es, B, rfl, sG, gL, el, ek, eb, cn⟩
          have N' := N.same sG
          have sH := sG1.trans sG
          refine ⟨3, rfl, by omega, by omega, fun LB hLB => ?_⟩
          refine lc_it walk_range (fun c G' => Same G G' ∧ ∃ (Ts : List Addr) (Bs : List (List NestedKey)), G' LB = some (.lst (Ts.map V.ref)) ∧ Ts.length = c ∧ KAll K G' (Ts.map V.ref) (Bs.map NestedKey.tup) ∧ ∀ m Z, Bs[m]? = some Z → Cn Z (srcK W kf j (m : Nat)))
            ⟨Same.new hLB, [], [], upd_same, rfl, .nil, fun m Z h => by simp at h⟩ (fun _ _ _ _ => trivial) ?_ ?_
          · rintro c x GX G3 hc ⟨s3, Ts, Bs, gB, tl, ka, cs⟩ ⟨rfl, rfl⟩
            have e0 : (fun i : Nat => V.int (0 + (i : Int))) c = V.int (c : Nat) := by show V.int _ = _; rw [Int.zero_add]
            rw [e0]
            have hc3 : c < 3 := hc
            have sH3 := sH.trans s3
            refine ⟨rfl, .ref wa, rfl, .int (0 + (j : Int)), rfl, .int ((c : Nat) : Int), rfl, .ref wa, W, 0 + (j : Int), ((c : Nat) : Int), rfl, ⟨wa, sa, pa, fas, pas, rfl, (X.same sH3).gen⟩, by omega, fun ba G4 s4 hba gba => ?_⟩
            rw [Int.zero_add] at gba
            refine ⟨ba, rfl, ⟨_, SqL.of gba⟩, fun LC hLC => ?_⟩
            have s34 := s3.trans s4
            refine lc_list (xs := (W.beh ((j : Nat) : Int) ((c : Nat) : Int)).map V.int) (fun i G' => Same G4 G' ∧ G' LC = some (.lst (((W.beh ((j : Nat) : Int) ((c : Nat) : Int)).take i).map fun y => vf y.toNat))) ⟨Same.new hLC, upd_same⟩ (fun i G' _ q => SqL.of (q.1 _ _ gba)) ?_ ?_
            · rintro i x G5 hx ⟨s5, gC⟩
              obtain ⟨y, hy, rfl⟩ : ∃ y, (W.beh ((j : Nat) : Int) ((c : Nat) : Int))[i]? = some y ∧ V.int y = x := by
                rw [List.getElem?_map] at hx
                cases e : (W.beh ((j : Nat) : Int) ((c : Nat) : Int))[i]? with
                | none => rw [e] at hx; cases hx
                | some y => rw [e] at hx; exact ⟨y, rfl, Option.some.inj hx⟩
              have iny := hin.beh (List.mem_of_getElem? hy)
              have N5 := (N'.same (s34.trans s5)).at_
              have yn : y.toNat < W.n := by omega
              refine ⟨rfl, .ref l, rfl, .int y, rfl, l, _, _, vf y.toNat, rfl, rfl, SqL.of N5, ?_, _, gC, ?_, fun b o e => by rw [upd_ne (ne_of_none e hLC)]; exact s5 b o e, ?_⟩
              · have := atI_nat (j := y.toNat) (rmap_at (f := vf) yn)
                rwa [Int.toNat_of_nonneg iny.1] at this
              · rw [List.length_map, List.length_take]
                exact small1000 (by have := beh_len W ((j : Nat) : Int) ((c : Nat) : Int); omega)
              · rw [upd_same, List.take_add_one, hy, List.map_append]
                rfl
            · rintro G5 ⟨s5, gC⟩
              rw [List.length_map, List.take_length] at gC
              have N5 := N'.same (s34.trans s5)
              have s35 := s34.trans s5
              dsimp only [tNil]
              refine inner_set (K := K) (w := w) (b := b) (ms := srcK W kf j ((c : Nat) : Int)) (SqL.of gC) (kall_map fun y hy => ?_) (fun x hx => ?_) ?_ (N.few hin n60 _ _) fun T us ns G6 s6 nT gT kaT cnT => ?_
              · have iny := hin.beh hy
                exact N5.ks _ (by omega)
              · obtain ⟨y, hy, rfl⟩ := List.mem_map.mp hx
                have iny := hin.beh hy
                exact N5.kd _ (by omega)
              · unfold srcK
                rw [List.length_map]
                have := beh_len W ((j : Nat) : Int) ((c : Nat) : Int)
                omega
              · have s36 := s35.trans s6
                have s4' : Same G3 G6 := (s4.trans s5).trans s6
                have gB6 := s4' _ _ gB
                have ka6 := KAll.snoc (KIs.tup (SqT.of gT) kaT) (ka.same s4')
                refine ⟨_, gB6, by rw [List.length_map]; exact small1000 (by omega), fun b o e => by rw [upd_ne (ne_of_none e hLB)]; exact s36 b o e, Ts ++ [T], Bs ++ [ns], by rw [upd_same, List.map_append]; rfl, by rw [List.length_append, tl]; rfl, ?_, fun m Z hm => ?_⟩
                · rw [List.map_append, List.map_append]
                  exact ka6.map fun _ _ => sqt_lst gB6
                · rcases get_snoc hm with e1 | ⟨e1, rfl⟩
                  · exact cs m Z e1
                  · have bl := ka.length
                    rw [List.length_map, List.length_map] at bl
                    obtain rfl : m = c := by omega
                    exact cnT
          · rintro G3 ⟨s3, Ts, Bs, gB, tl, ka, cs⟩
            have bl : Bs.length = 3 := by
              have := ka.length
              rw [List.length_map, List.length_map, tl] at this
              exact this.symm
            have gL3 := s3 _ _ gL
            have N3 := N'.same s3
            refine ⟨.ref LS, rfl, .inl ⟨rfl, _, SqL.of gL3⟩, .ref l, rfl, .int (0 + (j : Int)), rfl, l, _, _, vf j, rfl, rfl, SqL.of N3.at_, by rw [Int.zero_add]; exact atI_nat (rmap_at hj), .ref LB, rfl, LB, _, rfl, .inl ⟨SqL.of gB, fun TB hTB => ⟨by show 2 ≤ sizeLine; decide, fun te hte => ?_⟩⟩⟩
            have s4 := Same.new (o := .tup (Ts.map V.ref)) hTB
            have kT : KIs K (upd G3 TB (.tup (Ts.map V.ref))) (.ref TB) (.tup (Bs.map .tup)) := .tup (SqT.of upd_same) (ka.same s4)
            generalize upd G3 TB (.tup (Ts.map V.ref)) = G4 at s4 kT hte
            have s5 := Same.new (o := .tup [vf j, .ref TB]) hte
            have kS : KIs K (upd G4 te (.tup [vf j, .ref TB])) (.ref te) (.tup [kf j, .tup (Bs.map .tup)]) := .tup (SqT.of upd_same) (.cons (((N3.same s4).same s5).ks j hj) (.cons (kT.same s5) .nil))
            generalize upd G4 te (.tup [vf j, .ref TB]) = G5 at s5 kS
            have s35 := (s3.trans s4).trans s5
            have gL5 := s35 _ _ gL
            refine ⟨LS, _, _, rfl, rfl, gL5, by rw [List.length_map]; exact small1000 (by omega), ?_⟩
            refine ⟨_, _, es ++ [(te, .tup [kf j, .tup (Bs.map .tup)])], fun i c => if i = j then Bs.getD c [] else B i c, rfl, fun b o e => by rw [upd_ne (ne_of_none e hLS)]; exact s35 _ _ (sG _ _ e), by rw [upd_same, List.map_append]; rfl, by rw [List.length_append, el]; rfl, fun e he => ?_, fun i e he => ?_, fun i c hi hc => ?_⟩
            · rcases List.mem_append.mp he with h | h
              · exact ((ek e h).same s35).map fun _ _ => sqt_lst gL5
              · rw [List.mem_singleton.mp h]
                exact kS.map fun _ _ => sqt_lst gL5
            · rcases get_snoc he with e1 | ⟨e1, rfl⟩
              · have := eb i e e1
                have il := get_len e1
                have ne : i ≠ j := by omega
                simp only [if_neg ne]
                exact this
              · have ij : i = j := by omega
                subst ij
                simp only [if_pos rfl]
                obtain ⟨Z0, Z1, Z2, rfl⟩ : ∃ a b c, Bs = [a, b, c] := by
                  match Bs, bl with
                  | [a, b, c], _ => exact ⟨a, b, c, rfl⟩
                rfl
            · by_cases ij : i = j
              · subst ij
                simp only [if_pos rfl]
                have hc' : c < Bs.length := by omega
                have := cs c Bs[c] (List.getElem?_eq_getElem hc')
                rw [List.getD_eq_getElem?_getD, List.getElem?_eq_getElem hc']
                exact this
              · simp only [if_neg ij]
                exact cn i c (by omega) hc
        · rintro σ G ⟨y2', y6', es, B, rfl, sG, gL, el, ek, eb, cn⟩
          have N' := N.same sG
          have ok : ∀ s, s < W.n → SgOk b (kf s) (B s 0) (B s 1) (B s 2) := fun s hs => by
            have sub : ∀ c, c < 3 → ∀ x ∈ B s c, Kd b x := fun c hc x hx => by
              obtain ⟨y, hy, rfl⟩ := List.mem_map.mp (((cn s c hs hc).mem x).mp hx)
              have iny := hin.beh hy
              exact N.kd _ (by omega)
            exact ⟨N.kd s hs, sub 0 (by decide), sub 1 (by decide), sub 2 (by decide)⟩
          have ese : ∀ e ∈ es, ∃ s, s < W.n ∧ e.2 = sgK (kf s) (B s 0) (B s 1) (B s 2) := fun e he => by
            obtain ⟨i, hi, e1⟩ := List.getElem_of_mem he
            exact ⟨i, by omega, eb i e (by rw [List.getElem?_eq_getElem hi, e1])⟩
          have kn : ∀ e ∈ es, KN K G e := fun e he => by
            obtain ⟨s, hs, e1⟩ := ese e he
            refine ⟨ek e he, ?_, ?_⟩
            · rw [e1]; have := sg_low (ok s hs); omega
            · rw [e1]; exact sg_nm (ok s hs)
          refine ⟨.ref LS, rfl, LS, es, rfl, SqL.of gL, kn, by omega, fun a L ha sub all nd => ⟨a, L, rfl, upd_same, fun e he => (ek e (sub e he)).same (Same.new ha), fun e he => ?_, fun e he e' he' => ?_, fun e he => ?_, fun L' p pm hp => ?_⟩⟩
          · exact data_depth _ _ (kn e (sub e he)).low
          · obtain ⟨s, hs, e1⟩ := ese e (sub e he)
            obtain ⟨s', hs', e1'⟩ := ese e' (sub e' he')
            rw [e1, e1']
            exact alike_sg (ok s hs) (ok s' hs')
          · obtain ⟨s, hs, e1⟩ := ese e (sub e he)
            refine ⟨(kf s).data, [(NestedKey.tup [.tup (B s 0), .tup (B s 1), .tup (B s 2)]).data], ?_⟩
            rw [e1]
            unfold sgK
            rw [data_tup]
            rfl
          · have s3 := Same.new (o := SetNO w a L) ha
            have s4 := Same.new (o := .lst (L'.map fun e => V.ref e.1)) hp
            have gp : (upd (upd G a (SetNO w a L)) p (.lst (L'.map fun e => V.ref e.1))) p = some (.lst (L'.map fun e => V.ref e.1)) := upd_same
            have s34 := s3.trans s4
            generalize upd (upd G a (SetNO w a L)) p (.lst (L'.map fun e => V.ref e.1)) = G1' at gp s34
            have gL3 := s34 _ _ gL
            refine ⟨.ref LS, rfl, LS, rfl, ⟨_, SqL.of gL3⟩, fun D' hD' => ?_⟩
            have sgm : ∀ s, s < W.n → sgK (kf s) (B s 0) (B s 1) (B s 2) ∈ L'.map (·.2) := fun s hs => by
              have hs' : s < es.length := by omega
              have m := all es[s] (List.getElem_mem hs')
              rw [eb s es[s] (List.getElem?_eq_getElem hs')] at m
              exact (pm.map (·.2)).mem_iff.mpr m
            have inj : ∀ {x y : NestedKey}, x ∈ L'.map (·.2) → y ∈ L'.map (·.2) → (L'.map (·.2)).idxOf x = (L'.map (·.2)).idxOf y → x = y := fun {x y} hx hy e => by
              have h1 := List.idxOf_lt_length_iff.mpr hx
              have h2 := List.idxOf_lt_length_iff.mpr hy
              have g1 : (L'.map (·.2))[(L'.map (·.2)).idxOf x] = x := List.getElem_idxOf h1
              have g2 : (L'.map (·.2))[(L'.map (·.2)).idxOf y] = y := List.getElem_idxOf h2
              rw [← g1, ← g2]
              simp only [e]
            have rel : ∀ s t, s < W.n → t < W.n → ((((L'.map (·.2)).idxOf (sgK (kf s) (B s 0) (B s 1) (B s 2)) : Nat) : Int) = (((L'.map (·.2)).idxOf (sgK (kf t) (B t 0) (B t 1) (B t 2)) : Nat) : Int) ↔ Lk W (r + 1) s t) := fun s t hs ht => by
              rw [← sg_iff hin lb N.kd N.rel cn hs ht]
              exact ⟨fun e => inj (sgm s hs) (sgm t ht) (by omega), fun e => by rw [e]⟩
            have kL : ∀ e ∈ L', KIs K G1' (.ref e.1) e.2 := fun e he => (ek e (sub e (pm.mem_iff.mp he))).same s34
            refine lc_list (xs := es.map fun e => V.ref e.1) (fun i G' => Same G1' G' ∧ G' D' = some (.lst ((List.range i).map fun s => V.int (((L'.map (·.2)).idxOf (sgK (kf s) (B s 0) (B s 1) (B s 2)) : Nat) : Int)))) ⟨Same.new hD', upd_same⟩ (fun i G' _ q => SqL.of (q.1 _ _ gL3)) ?_ ?_
            · rintro i x G5 hx ⟨s5, gD⟩
              obtain ⟨e, he, rfl⟩ : ∃ e, es[i]? = some e ∧ V.ref e.1 = x := by
                rw [List.getElem?_map] at hx
                cases q : es[i]? with
                | none => rw [q] at hx; cases hx
                | some e => rw [q] at hx; exact ⟨e, rfl, Option.some.inj hx⟩
              have il := get_len he
              have hi : i < W.n := by omega
              have em := List.mem_of_getElem? he
              have e2 := eb i e he
              have gp5 := s5 _ _ gp
              refine ⟨rfl, .ref p, rfl, .inl ⟨rfl, _, SqL.of gp5⟩, .ref e.1, rfl, p, .ref e.1, e.2, _, _, rfl, rfl, SqL.of gp5, (kall_of kL).same s5, ((ek e em).same s34).same s5, by rw [e2]; exact sgm i hi, (kn e em).low, ?_⟩
              refine ⟨_, gD, by rw [List.length_map, List.length_range]; exact small1000 (by omega), fun b o z => by rw [upd_ne (ne_of_none z hD')]; exact s5 b o z, ?_⟩
              rw [upd_same, List.range_succ, List.map_append, e2]
              rfl
            · rintro G5 ⟨s5, gD⟩
              rw [List.length_map, el] at gD
              obtain ⟨cc, hcc⟩ : ∃ cc : Nat → Int, ∀ s, cc s = (((L'.map (·.2)).idxOf (sgK (kf s) (B s 0) (B s 1) (B s 2)) : Nat) : Int) := ⟨_, fun _ => rfl⟩
              simp only [← hcc] at rel gD
              exact ⟨_, _, _, _, _, _, D', true, fun s => .int (cc s), fun s => .num (cc s), rfl, ((sG1.trans sG).trans s34).trans s5, ⟨gD, fun s hs => .int _, fun s hs => ⟨_, rfl⟩, fun s t hs ht => by rw [← rel s t hs ht]; exact ⟨fun e => NestedKey.num.inj e, fun e => by rw [e]⟩⟩, .inr rfl⟩
      · rintro σ G1 ⟨y2, y4, y5, y6, y7, y8, l, b, vf, kf, rfl, sG1, N, z⟩
        rw [show (((W.n : Nat) : Int) + 1).toNat = W.n + 1 by omega] at N z
        obtain rfl : b = true := z.resolve_left (by omega)
        clear sG N0 z
        have kn : ∀ s, s < W.n → kf s = .num (numK (kf s)) ∧ vf s = .int (numK (kf s)) := fun s hs => by
          obtain ⟨i, e⟩ := N.kd s hs
          have h := N.ks s hs
          rw [e] at h ⊢
          refine ⟨rfl, ?_⟩
          generalize vf s = v at h
          cases h
          rfl
        obtain ⟨cc, hcc⟩ : ∃ cc : Nat → Int, ∀ s, cc s = numK (kf s) := ⟨_, fun _ => rfl⟩
        have gl : G1 l = some (.lst ((List.range W.n).map fun s => V.int (cc s))) := by
          rw [N.at_]
          congr 2
          refine List.map_congr_left fun s hs => ?_
          rw [(kn s (List.mem_range.mp hs)).2, hcc]
        have rel : ∀ s t, s < W.n → t < W.n → (cc s = cc t ↔ LkF W s t) := fun s t hs ht => by
          rw [hcc, hcc]
          show _ ↔ Lk W (W.n + 1) s t
          rw [← N.rel s t hs ht]
          constructor
          · intro e; rw [(kn s hs).1, (kn t ht).1, e]
          · intro e; rw [e]
        have fn := first_nums (LkF.eqv W) rel
        clear N kn hcc
        refine ⟨Nat.zero_le _, fun OL hOL => ?_⟩
        have s2 := Same.new (o := .lst []) hOL
        have gO0 : (upd G1 OL (.lst [])) OL = some (.lst (([] : List Int).map V.int)) := upd_same
        generalize upd G1 OL (.lst []) = G2 at s2 gO0
        have gl2 := s2 _ _ gl
        refine ⟨.ref l, rfl, l, rfl, ⟨_, SqL.of gl2⟩, for_list (xs := (List.range W.n).map fun s => V.int (cc s)) (fun i σ G => ∃ y8, σ = [some (.ref wa), some (.int (W.n : Nat)), y2, some (.ref l), y4, y5, y6, some (.ref OL), y8, none, none] ∧ Same G1 G ∧ G OL = some (.lst (((ldrs (LkF W) i).map cc).map V.int)))
          ⟨y8, rfl, s2, gO0⟩ (fun i σ G _ ⟨_, _, sG, _⟩ => SqL.of (sG _ _ gl)) ?_ ?_⟩
        · rintro i x σ G hx ⟨y8, rfl, sG, gO⟩
          have hi : i < W.n := by have := get_len hx; rwa [List.length_map, List.length_range] at this
          rw [rmap_at hi] at hx
          obtain rfl := Option.some.inj hx
          refine ⟨.int (cc i), rfl, .ref OL, rfl, OL, _, rfl, .inl (SqL.of gO), rfl, flat_ints _, _, rfl, ?_⟩
          rw [if_pos rfl, in_ints]
          have ls : ldrs (LkF W) (i + 1) = ldrs (LkF W) i ++ if ldr (LkF W) i = i then [i] else [] := ldrs_succ
          by_cases c : ldr (LkF W) i = i
          · rw [decide_eq_false (fun z => (fn.1 i hi).mp z c)]
            refine iteT ⟨.ref OL, rfl, .inl ⟨rfl, _, SqL.of gO⟩, .int (cc i), rfl, OL, _, _, rfl, rfl, gO, ?_, ?_⟩
            · rw [List.length_map, List.length_map]
              exact small1000 (by have := ldrs_len (R := LkF W) (n := i); omega)
            · refine ⟨_, rfl, fun b o z => by rw [upd_ne (ne_of_none z hOL)]; exact sG b o z, ?_⟩
              rw [upd_same, ls, if_pos c, List.map_append, List.map_append]
              rfl
          · rw [decide_eq_true ((fn.1 i hi).mpr c)]
            refine iteF ⟨_, rfl, sG, ?_⟩
            rw [ls, if_neg c, List.append_nil]
            exact gO
        · rintro σ G ⟨y8, rfl, sG, gO⟩
          rw [List.length_map, List.length_range] at gO
          have glG := sG _ _ gl
          refine ⟨.ref l, rfl, l, rfl, ⟨_, SqL.of glG⟩, fun D' hD' => ?_⟩
          refine lc_list (xs := (List.range W.n).map fun s => V.int (cc s)) (fun i G' => Same G G' ∧ G' D' = some (.lst ((clsN (LkF W) i).map V.int))) ⟨Same.new hD', upd_same⟩ (fun i G' _ q => SqL.of (q.1 _ _ glG)) ?_ ?_
          · rintro i x G5 hx ⟨s5, gD⟩
            have hi : i < W.n := by have := get_len hx; rwa [List.length_map, List.length_range] at this
            rw [rmap_at hi] at hx
            obtain rfl := Option.some.inj hx
            have gO5 := s5 _ _ gO
            obtain ⟨m1, m2⟩ := fn.2 i hi
            have ka : KAll K G5 (((ldrs (LkF W) W.n).map cc).map V.int) (((ldrs (LkF W) W.n).map cc).map .num) := kall_ints K G5 _
            have ix : (((ldrs (LkF W) W.n).map cc).map NestedKey.num).idxOf (.num (cc i)) = numC (LkF W) i := by rw [idx_num, m2]
            refine ⟨rfl, .ref OL, rfl, .inl ⟨rfl, _, SqL.of gO5⟩, .int (cc i), rfl, OL, .int (cc i), .num (cc i), _, _, rfl, rfl, SqL.of gO5, ka, .int _, List.mem_map.mpr ⟨_, m1, rfl⟩, by simp only [NestedKey.depth]; omega, ?_⟩
            rw [ix]
            refine ⟨_, gD, ?_, fun b o z => by rw [upd_ne (ne_of_none z hD')]; exact s5 b o z, ?_⟩
            · unfold clsN
              rw [List.length_map, List.length_map, List.length_range]
              exact small1000 (by omega)
            · rw [upd_same]
              unfold clsN
              rw [List.range_succ, List.map_append, List.map_append]
              rfl
          · rintro G5 ⟨s5, gD⟩
            rw [List.length_map, List.length_range] at gD
            refine ⟨D', _, rfl, SqL.of gD, fun nt o hnt c d => k nt _ ((sG1.trans (sG.trans s5)).trans (Same.new hnt)) ⟨o, c, d, upd_same⟩⟩
end
end Fw

set_option maxRecDepth 100000
set_option maxHeartbeats 4000000
namespace Fw
open PySem PySem.Spec PyProof.Rows L2 GxR

/-! ### the rounds come to rest -/
theorem ldrs_cond (R : Nat → Nat → Prop) (n : Nat) : ∃ p : Nat → Bool, (∀ t, p t = true ↔ t < n ∧ ldr R t = t) ∧ ldrs R n = (List.range n).filter p := by
  classical
  refine ⟨fun t => decide (t < n ∧ ldr R t = t), fun t => decide_eq_true_iff, ?_⟩
  unfold ldrs
  refine List.filter_congr fun t ht => ?_
  have := List.mem_range.mp ht
  exact decide_eq_decide.mpr ⟨fun h => ⟨this, h⟩, fun h => h.2⟩
theorem ldrs_sub {n : Nat} {R R' : Nat → Nat → Prop} (E : Eqv n R) (E' : Eqv n R') (sub : ∀ s t, s < n → t < n → R' s t → R s t) : (ldrs R n).Sublist (ldrs R' n) := by
  obtain ⟨p, hp, e⟩ := ldrs_cond R n
  obtain ⟨q, hq, e'⟩ := ldrs_cond R' n
  rw [e, e']
  refine filter_sub (fun t ht => ?_) _
  obtain ⟨tn, h⟩ := (hp t).mp ht
  refine (hq t).mpr ⟨tn, ?_⟩
  have o := ldr_ok E tn
  have o' := ldr_ok E' tn
  have := o.2.2 _ (sub _ _ (by omega) tn o'.2.1) (by omega)
  omega
theorem ldrs_rest {n : Nat} {R R' : Nat → Nat → Prop} (E : Eqv n R) (E' : Eqv n R') (sub : ∀ s t, s < n → t < n → R' s t → R s t) (e : (ldrs R n).length = (ldrs R' n).length) : ∀ s t, s < n → t < n → R s t → R' s t := by
  have same := (ldrs_sub E E' sub).eq_of_length e
  have key : ∀ s, s < n → ldr R s = ldr R' s := fun s hs => by
    have ln := ldr_lt E' hs
    have m : ldr R' s ∈ ldrs R' n := mem_ldrs.mpr ⟨ln, ldr_ldr E' hs⟩
    rw [← same] at m
    rw [← (mem_ldrs.mp m).2]
    exact (ldr_eq E hs ln).mpr (E.symm _ _ ln hs (sub _ _ ln hs (ldr_ok E' hs).2.1))
  intro s t hs ht h
  rw [← ldr_eq E' hs ht, ← key s hs, ← key t ht]
  exact (ldr_eq E hs ht).mpr h
theorem Lk.stop (W : Wd) : ∃ r, r ≤ W.n ∧ (ldrs (Lk W r) W.n).length = (ldrs (Lk W (r + 1)) W.n).length := by
  refine Classical.byContradiction fun no => ?_
  have up : ∀ r, r ≤ W.n + 1 → r ≤ (ldrs (Lk W r) W.n).length := fun r => by
    induction r with
    | zero => intro _; exact Nat.zero_le _
    | succ r ih =>
      intro h
      have h1 := ih (by omega)
      have h2 := (ldrs_sub (Lk.eqv W r W.n) (Lk.eqv W (r + 1) W.n) fun s t _ _ q => Lk.pred (Nat.le_succ r) q).length_le
      have h3 : (ldrs (Lk W r) W.n).length ≠ (ldrs (Lk W (r + 1)) W.n).length := fun e => no ⟨r, by omega, e⟩
      omega
  have h1 := up (W.n + 1) (Nat.le_refl _)
  have h2 := ldrs_len (R := Lk W (W.n + 1)) (n := W.n)
  omega
theorem LkF.next {W : Wd} (hin : W.In) {s t : Nat} (hs : s < W.n) (ht : t < W.n) (h : LkF W s t) : Lk W (W.n + 2) s t := by
  obtain ⟨r, hr, e⟩ := Lk.stop W
  have h' : Lk W (W.n + 1) s t := h
  exact Lk.rest hin (ldrs_rest (Lk.eqv W r W.n) (Lk.eqv W (r + 1) W.n) (fun s t _ _ q => Lk.pred (Nat.le_succ r) q) e) (by omega) hs ht (Lk.pred (by omega) h')
/-! ### the folded world -/
noncomputable def fW (W : Wd) (tr : List T3) : Wd := ⟨fRows W, tr⟩
theorem fRows_at {W : Wd} {k l : Nat} (h : (ldrs (LkF W) W.n)[k]? = some l) (tr : List T3) : (fW W tr).at ((k : Nat) : Int) = W.at ((l : Nat) : Int) := by
  unfold Wd.at fW fRows
  simp only [Int.toNat_natCast]
  rw [List.getElem?_map, h]
  rfl
theorem cN_like {W : Wd} {s t : Int} (s0 : 0 ≤ s) (s1 : s < (W.n : Int)) (t0 : 0 ≤ t) (t1 : t < (W.n : Int)) : cN W s = cN W t ↔ LkF W s.toNat t.toNat := by
  unfold cN
  rw [← num_eq (LkF.eqv W) (s := s.toNat) (t := t.toNat) (by omega) (by omega)]
  omega
theorem fold_emb {W : Wd} {tr : List T3} (hin : W.In) (mem : ∀ q, q ∈ tr ↔ ∃ p ∈ W.steps, q = fStep W p) : Emb W (fW W tr) (cN W) := by
  refine ⟨fun k h0 h1 => cN_lt h0 h1, fun k h0 h1 x => ?_, fun k h0 h1 l j hj => ?_, fun k h0 h1 l y hy => ?_⟩
  · have kn : k.toNat < W.n := by omega
    have a := num_at (LkF.eqv W) kn
    have o := ldr_ok (LkF.eqv W) kn
    have r0 : Lk W 0 (ldr (LkF W) k.toNat) k.toNat := Lk.pred (Nat.zero_le _) (show Lk W (W.n + 1) _ _ from o.2.1)
    have e : W.at ((ldr (LkF W) k.toNat : Nat) : Int) = W.at ((k.toNat : Nat) : Int) := r0
    show _ = sIn ((fW W tr).at ((numC (LkF W) k.toNat : Nat) : Int)) x
    rw [fRows_at a, e, Int.toNat_of_nonneg h0]
  · have ij := hin.beh hj
    exact ⟨ij.1, ij.2.1, mem_beh.mpr ((mem _).mpr ⟨(k, l, j), mem_beh.mp hj, rfl⟩)⟩
  · obtain ⟨p, hp, e⟩ := (mem _).mp (mem_beh.mp hy)
    obtain ⟨p1, p2, p3⟩ := p
    have ip := hin _ hp
    simp only at ip
    have e1 : cN W k = cN W p1 := congrArg (·.1) e
    have e2 : l = p2 := congrArg (·.2.1) e
    have e3 : y = cN W p3 := congrArg (·.2.2) e
    subst e2
    have lk := LkF.next hin (by omega) (by omega) ((cN_like h0 h1 ip.1 ip.2.1).mp e1)
    have lk' : Lk W (W.n + 1) k.toNat p1.toNat ∧ ∀ l : Int, (∀ y ∈ W.beh ((k.toNat : Nat) : Int) l, ∃ z ∈ W.beh ((p1.toNat : Nat) : Int) l, Lk W (W.n + 1) y.toNat z.toNat) ∧ (∀ z ∈ W.beh ((p1.toNat : Nat) : Int) l, ∃ y ∈ W.beh ((k.toNat : Nat) : Int) l, Lk W (W.n + 1) y.toNat z.toNat) := lk
    obtain ⟨j, hj, q⟩ := (lk'.2 l).2 p3 (mem_beh.mpr (by rw [Int.toNat_of_nonneg ip.1]; exact hp))
    rw [Int.toNat_of_nonneg h0] at hj
    have ij := hin.beh hj
    exact ⟨j, hj, by rw [e3]; exact (cN_like ij.1 ij.2.1 ip.2.2.1 ip.2.2.2).mpr q⟩
theorem val_fold {W : Wd} {tr : List T3} (hin : W.In) (mem : ∀ q, q ∈ tr ↔ ∃ p ∈ W.steps, q = fStep W p) {t : F} (ht : fv t = []) (d e : Int → List Int) {s : Int} (h0 : 0 ≤ s) (h1 : s < (W.n : Int)) : sIn (val W t d) s = sIn (val (fW W tr) t e) (cN W s) := by
  rw [val_emb (fold_emb hin mem) t d e (fun x hx => by rw [ht] at hx; cases hx) fun x hx => by rw [ht] at hx; cases hx]
  exact sIn_pull h0 h1
theorem rng_up (n : Nat) : (rng n).Pairwise (· < ·) := by
  unfold rng
  rw [List.pairwise_map]
  exact List.pairwise_lt_range.imp fun {a b} h => by show (a : Int) < (b : Int); omega
theorem Norm.up {n : Nat} {X : List Int} (h : Norm n X) : X.Pairwise (· < ·) := by
  rw [h]
  exact List.Pairwise.filter _ (rng_up n)
/-- the truth of the folded world: the classes of the states -/
theorem fold_set {W : Wd} {tr : List T3} (hin : W.In) (mem : ∀ q, q ∈ tr ↔ ∃ p ∈ W.steps, q = fStep W p) {t : F} (ht : fv t = []) (d e : Int → List Int) {out : List Int} (up : out.Pairwise (· < ·)) (om : ∀ k : Int, k ∈ out ↔ ∃ s ∈ val W t d, k = cN W s) : val (fW W tr) t e = out := by
  have nv : Norm (fW W tr).n (val (fW W tr) t e) := val_norm t e fun x hx => by rw [ht] at hx; cases hx
  have nw : Norm W.n (val W t d) := val_norm t d fun x hx => by rw [ht] at hx; cases hx
  refine rising_one nv.up up fun k => ?_
  rw [om]
  constructor
  · intro hk
    obtain ⟨k0, k1⟩ := nv.mem hk
    have kl : k.toNat < (ldrs (LkF W) W.n).length := by
      have e1 : (fW W tr).n = (ldrs (LkF W) W.n).length := by show (fRows W).length = _; unfold fRows; rw [List.length_map]
      omega
    have at_ := List.getElem?_eq_getElem kl
    have nm := num_of (LkF.eqv W) at_
    have ml := mem_ldrs.mp (List.mem_of_getElem? at_)
    generalize (ldrs (LkF W) W.n)[k.toNat] = l at nm ml
    have ek : cN W ((l : Nat) : Int) = k := by rw [cN_nat, nm]; omega
    refine ⟨((l : Nat) : Int), ?_, ek.symm⟩
    rw [← sIn_iff, val_fold hin mem ht d e (by omega) (by omega), ek]
    exact sIn_iff.mpr hk
  · rintro ⟨s, hs, rfl⟩
    obtain ⟨s0, s1⟩ := nw.mem hs
    rw [← sIn_iff, ← val_fold hin mem ht d e s0 s1]
    exact sIn_iff.mpr hs
/-! ### the tuple of classes -/
theorem cls_at {W : Wd} {i : Nat} (h : i < W.n) : (clsN (LkF W) W.n)[i]? = some (cN W (i : Nat)) := by
  unfold clsN
  rw [List.getElem?_map, List.getElem?_range h, cN_nat]
  rfl
theorem cls_len (W : Wd) : (clsN (LkF W) W.n).length = W.n := by unfold clsN; rw [List.length_map, List.length_range]
theorem idx_first' : ∀ {L : List Int} {i : Nat} {v : Int}, L[i]? = some v → (∀ j, j < i → L[j]? ≠ some v) → L.idxOf v = i
  | [], i, v, h, _ => by simp at h
  | x :: L, 0, v, h, _ => by
    have : x = v := Option.some.inj h
    rw [this, List.idxOf_cons_self]
  | x :: L, i + 1, v, h, no => by
    have hx : x ≠ v := fun e => no 0 (Nat.succ_pos _) (by rw [e]; rfl)
    have e1 : (x == v) = false := by simpa using hx
    rw [List.idxOf_cons, e1, idx_first' (L := L) (i := i) h fun j hj => no (j + 1) (Nat.succ_lt_succ hj)]
    rfl
theorem cls_idx {W : Wd} {i : Nat} (h : i < W.n) : (clsN (LkF W) W.n).idxOf (cN W (i : Nat)) = ldr (LkF W) i := by
  have E := LkF.eqv W
  have o := ldr_ok E h
  have ln := ldr_lt E h
  have lk : ∀ {a b : Nat}, a < W.n → b < W.n → (cN W (a : Nat) = cN W (b : Nat) ↔ LkF W a b) := fun {a b} ha hb => by
    have := cN_like (W := W) (s := (a : Nat)) (t := (b : Nat)) (by omega) (by omega) (by omega) (by omega)
    rwa [Int.toNat_natCast, Int.toNat_natCast] at this
  refine idx_first' ?_ fun j hj e => ?_
  · rw [cls_at ln, (lk ln h).mpr o.2.1]
  · rw [cls_at (by omega)] at e
    have := o.2.2 j ((lk (by omega) h).mp (Option.some.inj e)) (by omega)
    omega
theorem cls_mem {W : Wd} {i : Nat} (h : i < W.n) : cN W (i : Nat) ∈ clsN (LkF W) W.n := List.mem_of_getElem? (cls_at h)
theorem cls_max {W : Wd} (n1 : 1 ≤ W.n) {m : Int} (h1 : m ∈ clsN (LkF W) W.n) (h2 : ∀ y ∈ clsN (LkF W) W.n, y ≤ m) : m + 1 = (((ldrs (LkF W) W.n).length : Nat) : Int) := by
  obtain ⟨i, hi, e⟩ := List.getElem_of_mem h1
  rw [cls_len] at hi
  have e1 := cls_at (W := W) hi
  rw [List.getElem?_eq_getElem (by rw [cls_len]; exact hi), e] at e1
  have e2 := Option.some.inj e1
  rw [cN_nat] at e2
  have lt := num_lt (LkF.eqv W) hi
  have pos : 0 < (ldrs (LkF W) W.n).length := by omega
  have at_ := List.getElem?_eq_getElem (show (ldrs (LkF W) W.n).length - 1 < (ldrs (LkF W) W.n).length by omega)
  have nm := num_of (LkF.eqv W) at_
  have ml := mem_ldrs.mp (List.mem_of_getElem? at_)
  generalize (ldrs (LkF W) W.n)[(ldrs (LkF W) W.n).length - 1] = l at nm ml
  have h3 := h2 _ (cls_mem (W := W) ml.1)
  rw [cN_nat, nm] at h3
  omega
/-- the first state of a class -/
theorem cls_of {W : Wd} {k l : Nat} (h : (ldrs (LkF W) W.n)[k]? = some l) : ((k : Nat) : Int) ∈ clsN (LkF W) W.n ∧ (clsN (LkF W) W.n).idxOf ((k : Nat) : Int) = l := by
  have ml := mem_ldrs.mp (List.mem_of_getElem? h)
  have nm := num_of (LkF.eqv W) h
  have e : cN W ((l : Nat) : Int) = ((k : Nat) : Int) := by rw [cN_nat, nm]
  exact ⟨by rw [← e]; exact cls_mem ml.1, by rw [← e, cls_idx ml.1, ml.2]⟩
/-! ### how many steps -/
theorem steps_few {ss : List T3} {n : Nat} (up : ss.Pairwise fun x y => lex3 x y = true) (h : ∀ p ∈ ss, 0 ≤ p.1 ∧ p.1 < (n : Int) ∧ 0 ≤ p.2.1 ∧ p.2.1 < 2 ∧ 0 ≤ p.2.2 ∧ p.2.2 < (n : Int)) (n6 : n ≤ 6) : ss.length ≤ 76 := by
  have nd : (ss.map fun p => (p.1 * 12 + p.2.1 * 6 + p.2.2).toNat).Nodup := by
    rw [List.nodup_iff_pairwise_ne, List.pairwise_map]
    refine up.imp_of_mem fun {x y} hx hy l e => ?_
    have a := h x hx
    have b := h y hy
    rw [lex3_iff] at l
    unfold Lt3 at l
    omega
  have := L2.nat_nodup_len _ (List.range 72) nd fun x hx => by
    obtain ⟨p, hp, rfl⟩ := List.mem_map.mp hx
    have a := h p hp
    exact List.mem_range.mpr (by omega)
  rw [List.length_map, List.length_range] at this
  omega
theorem up3_one {a b : List T3} (ha : a.Pairwise fun x y => lex3 x y = true) (hb : b.Pairwise fun x y => lex3 x y = true) (h : ∀ q, q ∈ a ↔ q ∈ b) : a = b := by
  have nd : ∀ {l : List T3}, (l.Pairwise fun x y => lex3 x y = true) → l.Nodup := fun hl => hl.imp fun {x y} l e => by rw [e, lex3_irr] at l; cases l
  exact sorted_one (ha.imp fun {x y} l => lex3_as l) hb ((List.perm_ext_iff_of_nodup (nd ha) (nd hb)).mpr h)
/-- triples out of a sorted set -/
theorem trips_of {H : Hp} {L L' : List EN} (hL : ∀ e ∈ L, ∃ q : T3, e.2 = fK (of3 q) ∧ H e.1 = some (.tup ((of3 q).map V.int))) (nd : (L.map (·.2)).Nodup) (pm : L'.Perm L) (up : L'.Pairwise fun e e' => HT.lexLt (unK e'.2) (unK e.2) = false) :
    ∃ (sa : List Addr) (ts : List T3), (L'.map fun e => V.ref e.1) = sa.map V.ref ∧ PAt H sa ts ∧ (ts.Pairwise fun x y => lex3 x y = true) ∧ ∀ q, q ∈ ts ↔ fK (of3 q) ∈ L.map (·.2) := by
  refine ⟨L'.map (·.1), L'.map fun e => toT (unK e.2), by rw [List.map_map]; rfl, ⟨by rw [List.length_map, List.length_map], fun i b p e1 e2 => ?_⟩, ?_, fun q => ?_⟩
  · rw [List.getElem?_map] at e1 e2
    cases e : L'[i]? with
    | none => rw [e] at e1; cases e1
    | some x =>
      rw [e] at e1 e2
      obtain rfl := Option.some.inj e1
      obtain rfl := Option.some.inj e2
      obtain ⟨q, z1, z2⟩ := hL x (pm.mem_iff.mp (List.mem_of_getElem? e))
      have et : toT (unK x.2) = q := by rw [z1, unK_fK, toT_of3]
      show H x.1 = some (.tup [.int (toT (unK x.2)).1, .int (toT (unK x.2)).2.1, .int (toT (unK x.2)).2.2])
      rw [et]
      exact z2
  · rw [List.pairwise_map]
    have nd' : (L'.map (·.2)).Nodup := (pm.map (·.2)).nodup_iff.mpr nd
    rw [List.nodup_iff_pairwise_ne, List.pairwise_map] at nd'
    refine (List.pairwise_and_iff.mpr ⟨up, nd'⟩).imp_of_mem fun {x y} hx hy ⟨h1, h2⟩ => ?_
    obtain ⟨q, z1, _⟩ := hL x (pm.mem_iff.mp hx)
    obtain ⟨r, y1, _⟩ := hL y (pm.mem_iff.mp hy)
    have h1 : HT.lexLt (unK y.2) (unK x.2) = false := h1
    show lex3 (toT (unK x.2)) (toT (unK y.2)) = true
    rw [z1, y1, unK_fK, unK_fK] at h1 ⊢
    rw [toT_of3, toT_of3]
    rw [z1, y1] at h2
    obtain ⟨a1, a2, a3⟩ := q
    obtain ⟨b1, b2, b3⟩ := r
    have h1' : lex3 (b1, b2, b3) (a1, a2, a3) = false := by rw [← lex_three]; exact h1
    cases c : lex3 (a1, a2, a3) (b1, b2, b3) with
    | true => rfl
    | false => exact absurd (congrArg (fun q => fK (of3 q)) (lex3_anti c h1')) h2
  · rw [List.mem_map, List.mem_map]
    constructor
    · rintro ⟨e, he, rfl⟩
      obtain ⟨q, z1, _⟩ := hL e (pm.mem_iff.mp he)
      exact ⟨e, pm.mem_iff.mp he, by rw [z1, unK_fK, toT_of3]⟩
    · rintro ⟨e, he, z⟩
      exact ⟨e, pm.mem_iff.mpr he, by rw [z, unK_fK, toT_of3]⟩
/-! ### as data -/
def dRow (X : List Int) : PyData := .tuple (X.map PyData.int)
def dRows (Xs : List (List Int)) : PyData := .tuple (Xs.map dRow)
def dTrip (p : T3) : PyData := .tuple [.int p.1, .int p.2.1, .int p.2.2]
def dTrips (ss : List T3) : PyData := .tuple (ss.map dTrip)
theorem dpAll_of {K : PySem.W.Frag} {H : Hp} {α : Type} (d : α → PyData) : ∀ {as : List Addr} {Xs : List α}, as.length = Xs.length → (∀ (i : Nat) (a : Addr) (X : α), as[i]? = some a → Xs[i]? = some X → Dp K H (.ref a) (d X)) → DpAll K H (as.map V.ref) (Xs.map d)
  | [], [], _, _ => .nil
  | a :: as, X :: Xs, e, h => .cons (h 0 a X rfl rfl) (dpAll_of d (by simpa using e) fun i b Y e1 e2 => h (i + 1) b Y (by simpa using e1) (by simpa using e2))
theorem dp_rows {K : PySem.W.Frag} {H : Hp} {ta : Addr} {as : List Addr} {Xs : List (List Int)} (h : SqT K H ta (as.map V.ref)) (r : RAt K H as Xs) : Dp K H (.ref ta) (dRows Xs) :=
  .tup h (dpAll_of dRow r.1 fun i a X e1 e2 => .tup (r.2 i a X e1 e2) (dp_ints X))
theorem dp_trips {K : PySem.W.Frag} {H : Hp} {ta : Addr} {as : List Addr} {ss : List T3} (h : SqT K H ta (as.map V.ref)) (r : PAt H as ss) : Dp K H (.ref ta) (dTrips ss) :=
  .tup h (dpAll_of dTrip r.1 fun i a X e1 e2 => .tup (SqT.of (r.2 i a X e1 e2)) (.cons (.int _) (.cons (.int _) (.cons (.int _) .nil))))
theorem dRow_lay (X : List Int) : (dRow X).canLay0 = true := by simp [dRow, PyData.canLay0, ints_lay]
theorem dRow_depth (X : List Int) : (dRow X).depth = 1 := by simp [dRow, PyData.depth, ints_depth]
theorem layAll_of {α : Type} {d : α → PyData} (h : ∀ x, (d x).canLay0 = true) : ∀ l : List α, PyData.canLayAll0 (l.map d) = true
  | [] => rfl
  | x :: l => by simp [PyData.canLayAll0, h x, layAll_of h l]
theorem depthAll_of {α : Type} {d : α → PyData} {n : Nat} (h : ∀ x, (d x).depth ≤ n) : ∀ l : List α, PyData.depthAll (l.map d) ≤ n
  | [] => Nat.zero_le _
  | x :: l => by
    have := h x
    have := depthAll_of h l
    simp only [List.map_cons, PyData.depthAll]
    omega
theorem dRows_shaped (Xs : List (List Int)) : SeqAt.shaped (dRows Xs) = true := by
  have h := depthAll_of (d := dRow) (n := 1) (fun X => Nat.le_of_eq (dRow_depth X)) Xs
  simp only [dRows, SeqAt.shaped, PyData.canLay0, PyData.depth, layAll_of dRow_lay Xs, Bool.true_and, Bool.and_eq_true, decide_eq_true_eq]
  omega
theorem dTrip_lay (p : T3) : (dTrip p).canLay0 = true := by simp [dTrip, PyData.canLay0, PyData.canLayAll0]
theorem dTrip_depth (p : T3) : (dTrip p).depth = 1 := by simp [dTrip, PyData.depth, PyData.depthAll]
theorem dTrips_shaped (ss : List T3) : SeqAt.shaped (dTrips ss) = true := by
  have h := depthAll_of (d := dTrip) (n := 1) (fun X => Nat.le_of_eq (dTrip_depth X)) ss
  simp only [dTrips, SeqAt.shaped, PyData.canLay0, PyData.depth, layAll_of dTrip_lay ss, Bool.true_and, Bool.and_eq_true, decide_eq_true_eq]
  omega
theorem dRows_same (Xs : List (List Int)) : PyData.eqv (dRows Xs) (dRows Xs) = true := SeqAt.eqv_refl _ (by simp [dRows, PyData.canLay0, layAll_of dRow_lay])
/-- lists of triples as data -/
def dLTrips (ss : List T3) : PyData := .list (ss.map dTrip)
theorem dp_ltrips {K : PySem.W.Frag} {H : Hp} {ta : Addr} {as : List Addr} {ss : List T3} (h : SqL K H ta (as.map V.ref)) (r : PAt H as ss) : Dp K H (.ref ta) (dLTrips ss) :=
  .lst h (dpAll_of dTrip r.1 fun i a X e1 e2 => .tup (SqT.of (r.2 i a X e1 e2)) (.cons (.int _) (.cons (.int _) (.cons (.int _) .nil))))
theorem dLTrips_shaped (ss : List T3) : SeqAt.shaped (dLTrips ss) = true := by
  have h := depthAll_of (d := dTrip) (n := 1) (fun X => Nat.le_of_eq (dTrip_depth X)) ss
  simp only [dLTrips, SeqAt.shaped, PyData.canLay0, PyData.depth, layAll_of dTrip_lay ss, Bool.true_and, Bool.and_eq_true, decide_eq_true_eq]
  omega
theorem dLTrips_same (ss : List T3) : PyData.eqv (dLTrips ss) (dLTrips ss) = true := SeqAt.eqv_refl _ (by simp [dLTrips, PyData.canLay0, layAll_of dTrip_lay])
theorem dInts_shaped (ns : List Int) : SeqAt.shaped (.tuple (ns.map PyData.int)) = true := by
  unfold SeqAt.shaped
  simp [PyData.canLay0, PyData.depth, ints_lay, ints_depth]
theorem dInts_same (ns : List Int) : PyData.eqv (.tuple (ns.map PyData.int)) (.tuple (ns.map PyData.int)) = true := SeqAt.eqv_refl _ (by simp [PyData.canLay0, ints_lay])
end Fw

set_option maxRecDepth 100000
set_option maxHeartbeats 4000000
/-! list comprehensions of three clauses: one loop within another, each from its own lemma -/
namespace Fw
open PySem PySem.Spec PyProof.Rows L2
/-- what is asked of a clause's inside: it ends in a heap of which Nx is known -/
abbrev TBd := L2.St → Hp → (Hp → Prop) → Prop
def bApp (D : Addr) (te : TE) : TBd := fun σ H Nx => te σ H fun y H1 => ∃ acc, H1 D = some (.lst acc) ∧ acc.length < sizeLine ∧ Nx (upd H1 D (.lst (acc ++ [y])))
/-- a loop over what is iterated -/
def bLoop (J : It) (g : TG) (tt : TT) (vs : List Nat) (tb : TBd) : TBd := fun σ H Nx => ∃ W : Nat → Nat → Hp → Prop, (∃ m, W 0 m H) ∧ ∀ i m H, W i m H →
  (J.stop i H ∧ Nx H) ∨ (J.go i H ∧ ∃ N1 : Hp → Prop, (∀ H', N1 H' → ∃ m', m' < m ∧ W (i + 1) m' H') ∧ ∀ x H', J.yld i H x H' → g x (wipe σ vs) H' fun σ2 H2 => wipe σ2 vs = wipe σ vs ∧ tt σ2 H2 fun b H3 =>
    if b = true then tb σ2 H3 N1 else N1 H3)
def bFor (wi : TI) (g : TG) (tt : TT) (vs : List Nat) (tb : TBd) : TBd := fun σ H Nx => wi σ H fun J H1 => bLoop J g tt vs tb σ H1 Nx
/-- the turn of a clause with another one within it; of the last one -/
def OutEq (e : Expr) (k : Nat) (tg : Expr) (ifs : List Expr) (i1 : Expr) : Prop := ∀ (it acc : Value) (env : Env), ∃ p q : Pos, compTurn e k it acc env = (do
      standAt p
      match ← pyNext it with
      | none => pure (.done .next)
      | some u =>
        letOwnedTupleGo tg it u
        assign tg env u
        let mut good := true
        for c in ifs do
          if good then good ← isTrue c env (eval c env)
        if good then
          let y ← eval i1 env
          standAt q
          let y ← foldedSetIterable i1 env y
          let _ ← runOwn (.compStart e (k + 1) (← holding [y] (pyIter y)) acc env) env
        again (.compLoop e k it acc env))
def InEq (e : Expr) (k : Nat) (tg : Expr) (ifs : List Expr) (elt : Expr) : Prop := ∀ (it acc : Value) (env : Env), ∃ p : Pos, compTurn e k it acc env = (do
      standAt p
      match ← pyNext it with
      | none => pure (.done .next)
      | some u =>
        letOwnedTupleGo tg it u
        assign tg env u
        let mut good := true
        for c in ifs do
          if good then good ← isTrue c env (eval c env)
        if good then
          (do let _ ← call (.builtin "list.append") [acc, ← eval elt env])
        again (.compLoop e k it acc env))
section
variable {P : Program} {w : World} {A : Around} {R : Result → Shared → Prop} {s : Shared} {el tg i1 : Expr} {gens : List Comprehension} {scope : Scope} {pos : Pos} {ifs : List Expr} {k : Nat} {it acc : Value} {env : Env}
theorem loopO (eq : OutEq (.ListComp el gens scope pos) k tg ifs i1) (hs : ∀ x, foldedSetIterable i1 env x = pure x) (I : Nat → Shared → Prop)
    (turn : ∀ n s, I n s → wpAny (model P w) A (pyNext it) (fun r s₁ => match r with
      | none => R (.ok .next) s₁
      | some v => wpAny (model P w) A (letOwnedTupleGo tg it v) (fun _ s₂ => wpAny (model P w) A (assign tg env v) (fun _ s₃ =>
          wpAny (model P w) A (forIn ifs true fun c r => if r = true then do let ok ← isTrue c env (eval c env); pure (ForInStep.yield ok) else pure (ForInStep.yield r)) (fun ok s₄ =>
            if ok = true then wpAny (model P w) A (eval i1 env) (fun x s₅ => wpAny (model P w) A (pyIter x) (fun it1 s₆ =>
              codeAny (model P w) A (.compStart (.ListComp el gens scope pos) (k + 1) it1 acc env) (fun r s' => match r with
                | .ok _ => ∃ m, m < n ∧ I m s'
                | .error _ => False) s₆) (erS P w A env R) s₅) (erS P w A env R) s₄
            else ∃ m, m < n ∧ I m s₄) (erS P w A env R) s₃) (erS P w A env R) s₂) (erS P w A env R) s₁) (erS P w A env R) s)
    (n : Nat) (h : I n s) : codeAny (model P w) A (.compLoop (.ListComp el gens scope pos) k it acc env) R s := by
  refine codeAny_loop rfl I (fun n s hI => ?_) n h
  show wpAny _ A ((compTurn (.ListComp el gens scope pos) k it acc env).onRaise (fun x => do noteFrame x env; theTreesLotGoes x)) _ _ s
  refine wpAny_noted ?_
  obtain ⟨p, q, eq⟩ := eq it acc env
  rw [eq]
  refine wpAny_bind (wpAny_standAt (wpAny_bind (wpAny_mono (turn n s hI) (fun r s₁ h₁ => ?_) fun _ _ e => e)))
  cases r with
  | none => exact wpAny_pure h₁
  | some v =>
    refine wpAny_bind (wpAny_mono h₁ (fun _ s₂ h₂ => wpAny_bind (wpAny_mono h₂ (fun _ s₃ h₃ => wpAny_bind (wpAny_mono h₃ (fun ok s₄ h₄ => ?_) fun _ _ e => e)) fun _ _ e => e)) fun _ _ e => e)
    cases ok with
    | false => exact wpAny_pure ⟨rfl, h₄⟩
    | true =>
      refine wpAny_bind (wpAny_mono h₄ (fun x s₅ h₅ => wpAny_bind (wpAny_standAt (wpAny_bind (wpAny_of_eq (hs x) (wpAny_bind (wpAny_holding (wpAny_mono h₅ (fun it1 s₆ h₆ => wpAny_bind (wpAny_runOwn ?_)) fun _ _ e => e))))))) fun _ _ e => e)
      rw [Around.mark_none]
      refine codeAny_mono h₆ fun r s' hr => ?_
      cases r with
      | ok f =>
        first
          | exact wpAny_pure ⟨rfl, hr⟩
          | exact wpAny_bind (wpAny_pure (wpAny_pure ⟨rfl, hr⟩))
      | error e => exact hr.elim
theorem loopI (eq : InEq (.ListComp el gens scope pos) k tg ifs el) (I : Nat → Shared → Prop)
    (turn : ∀ n s, I n s → wpAny (model P w) A (pyNext it) (fun r s₁ => match r with
      | none => R (.ok .next) s₁
      | some v => wpAny (model P w) A (letOwnedTupleGo tg it v) (fun _ s₂ => wpAny (model P w) A (assign tg env v) (fun _ s₃ =>
          wpAny (model P w) A (forIn ifs true fun c r => if r = true then do let ok ← isTrue c env (eval c env); pure (ForInStep.yield ok) else pure (ForInStep.yield r)) (fun ok s₄ =>
            if ok = true then wpAny (model P w) A (eval el env) (fun x s₅ =>
              wpAny (model P w) A (call (.builtin "list.append") [acc, x]) (fun _ s₆ => ∃ m, m < n ∧ I m s₆) (erS P w A env R) s₅) (erS P w A env R) s₄
            else ∃ m, m < n ∧ I m s₄) (erS P w A env R) s₃) (erS P w A env R) s₂) (erS P w A env R) s₁) (erS P w A env R) s)
    (n : Nat) (h : I n s) : codeAny (model P w) A (.compLoop (.ListComp el gens scope pos) k it acc env) R s := by
  refine codeAny_loop rfl I (fun n s hI => ?_) n h
  show wpAny _ A ((compTurn (.ListComp el gens scope pos) k it acc env).onRaise (fun x => do noteFrame x env; theTreesLotGoes x)) _ _ s
  refine wpAny_noted ?_
  obtain ⟨p, eq⟩ := eq it acc env
  rw [eq]
  refine wpAny_bind (wpAny_standAt (wpAny_bind (wpAny_mono (turn n s hI) (fun r s₁ h₁ => ?_) fun _ _ e => e)))
  cases r with
  | none => exact wpAny_pure h₁
  | some v =>
    refine wpAny_bind (wpAny_mono h₁ (fun _ s₂ h₂ => wpAny_bind (wpAny_mono h₂ (fun _ s₃ h₃ => wpAny_bind (wpAny_mono h₃ (fun ok s₄ h₄ => ?_) fun _ _ e => e)) fun _ _ e => e)) fun _ _ e => e)
    cases ok with
    | false => exact wpAny_pure ⟨rfl, h₄⟩
    | true => exact wpAny_bind (wpAny_bind (wpAny_mono h₄ (fun x s₅ h₅ => wpAny_bind (wpAny_mono h₅ (fun _ s₆ h₆ => wpAny_pure (wpAny_pure ⟨rfl, h₆⟩)) fun _ _ e => e)) fun _ _ e => e))
theorem startK {iter : Expr} (hk : (clausesOf (.ListComp el gens scope pos))[k]? = some ⟨tg, iter, ifs, 0⟩) (h0 : codeAny (model P w) A (.compLoop (.ListComp el gens scope pos) k it acc env) R s)
    (h : wpAny (model P w) A (pyIter it) (fun it' s' => codeAny (model P w) A (.compLoop (.ListComp el gens scope pos) k it' acc env) R s') (erS P w A env R) s) :
    codeAny (model P w) A (.compStart (.ListComp el gens scope pos) k it acc env) R s := by
  refine codeAny_of_tree ?_
  show wpAny _ _ ((compStart (.ListComp el gens scope pos) k it acc env).onRaise (fun x => do noteFrame x env; standAt theWindowsPlace)) _ _ s
  refine wpAny_notedAt ?_
  unfold compStart
  rw [hk]
  show wpAny _ _ (ask >>= _) _ _ s
  refine wpAny_bind (wpAny_askSetting (wpAny_ite ?_))
  split
  · first
      | exact wpAny_bind (wpAny_pure (wpAny_pure (And.intro rfl h0)))
      | exact wpAny_pure (And.intro rfl h0)
  · first
      | exact wpAny_bind (wpAny_rule (wpAny_bind (wpAny_standAt (wpAny_bind (wpAny_mono h (fun it' s' h' => wpAny_pure (And.intro rfl h')) fun _ _ x => x)))))
      | (refine wpAny_bind (wpAny_rule ?_); show wpAny _ _ (standAt iter.pos >>= _) _ _ s; exact wpAny_bind (wpAny_standAt (wpAny_bind (wpAny_mono h (fun it' s' h' => wpAny_pure (And.intro rfl h')) fun _ _ x => x))))
end
section
variable {Y : Cx} {el tg i1 : Expr} {gens : List Comprehension} {scope : Scope} {pos : Pos} {ifs : List Expr} {k : Nat}
/-- the loop of clause k does what b says, in the block -/
def RunC (Y : Cx) (e : Expr) (k : Nat) (acc : Value) (tg : Expr) (vs : List Nat) (b : It → TBd) : Prop :=
  ∀ (pins : List (Addr × Obj)) (s : Shared) (σ : L2.St) (H : Hp) (it : Addr) (fp : List Addr) (tn : Nat → Heap → Prop) (J : It) (Nx : Hp → Prop), Inv Y pins σ H s → Turn Y.prog Y.w Y.K tg J fp it tn → tn 0 s.heap → (∀ b ∈ fp, FpOk Y pins H b) →
    b J σ H Nx → codeAny (model Y.prog Y.w) Y.A (.compLoop e k (.ref it) acc Y.env) (fun r s' => r = .ok .next ∧ ∃ H', Inv Y pins (wipe σ vs) H' s' ∧ Nx H') s
/-- one turn more, from any slots that know what was known -/
theorem turn_over {pins : List (Addr × Obj)} {σ σ9 : L2.St} {vs : List Nat} {G : Hp} {s7 t : Shared} {it : Addr} {fp : List Addr} {tn : Nat → Heap → Prop} {J : It} {i n : Nat} {W : Nat → Nat → Hp → Prop} {N1 : Hp → Prop}
    (T : Turn Y.prog Y.w Y.K tg J fp it tn) (t7 : tn (i + 1) s7.heap) (dec : ∀ H', N1 H' → ∃ m', m' < n ∧ W (i + 1) m' H') (It : Inv Y (pins ++ pinsAt fp s7.heap) σ9 G t) (ln : (wipe σ vs).length = σ9.length)
    (sm : ∀ (j : Nat) v, (wipe σ vs)[j]? = some (some v) → σ9[j]? = some (some v)) (nx : N1 G) :
    ∃ m, m < n ∧ ∃ i G, Inv Y pins (wipe σ vs) G t ∧ tn i t.heap ∧ (∀ b ∈ fp, G b = none) ∧ W i m G := by
  obtain ⟨m', lt, w'⟩ := dec G nx
  have same : ∀ b ∈ fp, ∀ o, s7.heap.get? b = some o → t.heap.get? b = some o ∧ G b = none := fun b hb o e =>
    have z := It.pin (b, o) (List.mem_append_right _ (List.mem_append_right _ (mem_pinsAt hb e)))
    ⟨z.1, z.2.1⟩
  refine ⟨m', lt, i + 1, G, (It.unpinned (pins := pins)).weak ln sm, T.keep _ _ _ t7 fun b hb o e => (same b hb o e).1, fun b hb => ?_, w'⟩
  obtain ⟨o, e, _⟩ := T.obj _ _ t7 b hb
  exact (same b hb o e).2
theorem run_last (quiet : Y.calm = true) (xf : Y.xe = fun _ _ => False) (eq : InEq (.ListComp el gens scope pos) k tg ifs el) {g : TG} {tt : TT} {te : TE} (pg : PG Y tg g) (pt : PTs Y ifs tt) (pe : PE Y el te) (D : Addr) (vs : List Nat) :
    RunC Y (.ListComp el gens scope pos) k (.ref D) tg vs fun J => bLoop J g tt vs (bApp D te) := by
  intro pins s σ H it fp tn J Nx I T t0 fpo ⟨W, ⟨m0, w0⟩, turn⟩
  have held : ∀ {H' : Hp}, (∀ b ∈ fp, H' b = none) → ∀ b ∈ fp, FpOk Y pins H' b := fun hn b hb => ⟨hn b hb, (fpo b hb).2⟩
  refine loopI eq (fun n t => ∃ i G, Inv Y pins (wipe σ vs) G t ∧ tn i t.heap ∧ (∀ b ∈ fp, G b = none) ∧ W i n G) ?_ m0 ⟨0, H, I.weak (wipe_length _ _) (fun j v e => (wipe_some e).1), t0, fun b hb => (fpo b hb).1, w0⟩
  rintro n s5 ⟨i, H5, I5, t5, free5, w5⟩
  rcases turn i n H5 w5 with ⟨stop, qq⟩ | ⟨go, N1, dec, step⟩
  · refine thnF (T.done Y rfl rfl rfl quiet i pins s5 _ H5 (fun _ _ => False) I5 (held free5) t5 stop) fun r s6 ⟨hr, I6⟩ => ?_
    subst hr
    exact ⟨rfl, H5, I6, qq⟩
  · refine thnF (T.item Y rfl rfl rfl quiet i pins s5 _ H5 (fun _ _ => False) I5 (held free5) t5 go) fun r s6 ⟨u, hr, h6⟩ => ?_
    subst hr
    refine thnF h6 fun _ s7 ⟨x, H7, I7, rx, y7, t7, free7⟩ => ?_
    have z1 := pg.run _ s7 _ H7 x u _ (I7.pinned (held free7) (T.obj _ _ t7)) rx (step x H7 y7)
    rw [xf] at z1
    refine thnF z1 fun _ s8 ⟨σ8, H8, I8, wi8, q8⟩ => ?_
    have z2 := pt.run _ s8 σ8 H8 _ I8 q8
    rw [xf] at z2
    refine thnF z2 fun b s9 ⟨H9, I9, q9⟩ => ?_
    have ln8 : (wipe σ vs).length = σ8.length := by rw [← wi8, wipe_length]
    have sm8 : ∀ (j : Nat) v, (wipe σ vs)[j]? = some (some v) → σ8[j]? = some (some v) := fun j v e => by
      rw [← wi8] at e
      exact (wipe_some e).1
    cases b
    · simp only [Bool.false_eq_true, if_false] at q9 ⊢
      exact turn_over T t7 dec I9 ln8 sm8 q9
    · simp only [if_true] at q9 ⊢
      have z3 := pe.run _ s9 σ8 H9 _ I9 q9
      rw [xf] at z3
      refine thnF z3 fun z s10 ⟨yv, H10, I10, rz, acc, hD, hz, nx⟩ => ?_
      exact app_ok I10 hD hz rz fun s11 I11 => turn_over T t7 dec I11 ln8 sm8 nx
theorem run_more (quiet : Y.calm = true) (xf : Y.xe = fun _ _ => False) (eq : OutEq (.ListComp el gens scope pos) k tg ifs i1) {g : TG} {tt : TT} {wi1 : TI} {tg1 : Expr} {ifs1 : List Expr} {acc : Value} {vs vs1 : List Nat} {b1 : It → TBd} (hs : ∀ x, foldedSetIterable i1 Y.env x = pure x)
    (hk : (clausesOf (.ListComp el gens scope pos))[k + 1]? = some ⟨tg1, i1, ifs1, 0⟩) (pg : PG Y tg g) (pt : PTs Y ifs tt) (pi : PI Y tg1 i1 wi1) (hv : ∀ i ∈ vs1, i ∈ vs) (rn : RunC Y (.ListComp el gens scope pos) (k + 1) acc tg1 vs1 b1) :
    RunC Y (.ListComp el gens scope pos) k acc tg vs fun J => bLoop J g tt vs fun σ H Nx => wi1 σ H fun J1 H1 => b1 J1 σ H1 Nx := by
  intro pins s σ H it fp tn J Nx I T t0 fpo ⟨W, ⟨m0, w0⟩, turn⟩
  have held : ∀ {H' : Hp}, (∀ b ∈ fp, H' b = none) → ∀ b ∈ fp, FpOk Y pins H' b := fun hn b hb => ⟨hn b hb, (fpo b hb).2⟩
  refine loopO eq hs (fun n t => ∃ i G, Inv Y pins (wipe σ vs) G t ∧ tn i t.heap ∧ (∀ b ∈ fp, G b = none) ∧ W i n G) ?_ m0 ⟨0, H, I.weak (wipe_length _ _) (fun j v e => (wipe_some e).1), t0, fun b hb => (fpo b hb).1, w0⟩
  rintro n s5 ⟨i, H5, I5, t5, free5, w5⟩
  rcases turn i n H5 w5 with ⟨stop, qq⟩ | ⟨go, N1, dec, step⟩
  · refine thnF (T.done Y rfl rfl rfl quiet i pins s5 _ H5 (fun _ _ => False) I5 (held free5) t5 stop) fun r s6 ⟨hr, I6⟩ => ?_
    subst hr
    exact ⟨rfl, H5, I6, qq⟩
  · refine thnF (T.item Y rfl rfl rfl quiet i pins s5 _ H5 (fun _ _ => False) I5 (held free5) t5 go) fun r s6 ⟨u, hr, h6⟩ => ?_
    subst hr
    refine thnF h6 fun _ s7 ⟨x, H7, I7, rx, y7, t7, free7⟩ => ?_
    have z4 := pg.run _ s7 _ H7 x u _ (I7.pinned (held free7) (T.obj _ _ t7)) rx (step x H7 y7)
    rw [xf] at z4
    refine thnF z4 fun _ s8 ⟨σ8, H8, I8, wi8, q8⟩ => ?_
    have z5 := pt.run _ s8 σ8 H8 _ I8 q8
    rw [xf] at z5
    refine thnF z5 fun b s9 ⟨H9, I9, q9⟩ => ?_
    have ln8 : (wipe σ vs).length = σ8.length := by rw [← wi8, wipe_length]
    have sm8 : ∀ (j : Nat) v, (wipe σ vs)[j]? = some (some v) → σ8[j]? = some (some v) := fun j v e => by
      rw [← wi8] at e
      exact (wipe_some e).1
    have sm9 : ∀ (j : Nat) v, (wipe σ vs)[j]? = some (some v) → (wipe σ8 vs1)[j]? = some (some v) := fun j v e => by
      rw [← wi8] at e
      obtain ⟨a1, a2⟩ := wipe_some e
      rw [wipe_out fun z => a2 (hv j z)]
      exact a1
    cases b
    · simp only [Bool.false_eq_true, if_false] at q9 ⊢
      exact turn_over T t7 dec I9 ln8 sm8 q9
    · simp only [if_true] at q9 ⊢
      have z6 := pi.run _ s9 σ8 H9 _ I9 q9
      rw [xf] at z6
      refine thnF z6 fun xv s10 hx => thnF hx fun itv s11 h11 => ?_
      obtain ⟨it1, fp1, tn1, J1, H11, rfl, I11, T1, t11, fr11, q11⟩ := h11
      have body := rn _ s11 σ8 H11 it1 fp1 tn1 J1 N1 I11 T1 t11 fr11 q11
      have body1 : codeAny (model Y.prog Y.w) Y.A (.compLoop (.ListComp el gens scope pos) (k + 1) (.ref it1) acc Y.env)
          (fun r s' => match r with
            | .ok _ => ∃ m, m < n ∧ ∃ i G, Inv Y pins (wipe σ vs) G s' ∧ tn i s'.heap ∧ (∀ b ∈ fp, G b = none) ∧ W i m G
            | .error _ => False) s11 := codeAny_mono body fun r s' hr => by
        obtain ⟨rfl, H', I', nx⟩ := hr
        exact turn_over T t7 dec I' (ln8.trans (wipe_length σ8 vs1).symm) sm9 nx
      exact startK hk body1 (T1.self Y.A 0 _ _ _ t11 body1)
end
section
variable {X : Cx}
def tLcG (wi : TI) (b : Addr → It → TBd) (vs : List Nat) : TE := fun σ H Q => wi σ H fun J H1 => ∀ D, H1 D = none → b D J (wipe σ vs) (upd H1 D (.lst [])) fun H' => Q (.ref D) H'
theorem lcTop {pins : List (Addr × Obj)} {s : Shared} {σ : L2.St} {H : Hp} {Q : VK} {el tg iter : Expr} {ifs : List Expr} {rest : List Comprehension} {scope : Scope} {own : List (PySem.Str × Nat)} {pos pos' : Pos} {wi : TI} {b : Addr → It → TBd}
    {use : Option (Value → Sem Unit)} {Qf : Value → Shared → Prop} (quiet : X.calm = true) (nd : X.N.Nodup) (I : Inv X pins σ H s) (ii : PI X tg iter wi) (blk : BlkOk X.N X.env.scope scope own)
    (run : ∀ (s : Shared) (H : Hp) (C : Addr) (cl : List (PySem.Str × Addr)) (fp : List Addr) (D : Addr), RunC (X.blk s H scope (compEnvC scope cl C X.env) fp) (.ListComp el (⟨tg, iter, ifs, 0⟩ :: rest) scope pos) 0 (.ref D) tg (own.map (·.2)) (b D))
    (fold : ∀ x, foldedSetIterable iter X.env x = pure x) (h : tLcG wi b (own.map (·.2)) σ H Q)
    (fin : ∀ D C s' m H', Inv X pins σ H' s' → Q (.ref D) H' → s'.heap.Ns C m → FpOk X pins H' C → compPost (model X.prog X.w) X.A X.xe use Qf (.ref D) C (.ok .next) s') :
    wpAny (model X.prog X.w) X.A (comprehension (.ListComp el (⟨tg, iter, ifs, 0⟩ :: rest) scope pos) scope X.env pos' (newList []) false (eval iter X.env) use) Qf X.xe s := by
  have clo : ∀ y ∈ scope.names, y.2 = .free → ∃ c, X.env.cells.lookup y.1 = some c := fun y hy e =>
    (blk.free y hy e).elim (fun k => I.ok.has _ (.inl k)) fun k => I.ok.has _ (.inr k)
  refine wpAny_comprehension_free (use := use) rfl fold (closure_ok clo) blk.kind (fun y hy e => by rw [blk.uniq y hy, e])
    (thn (ii.run pins s σ H _ I h) fun xv s1 hx => thn hx fun itv s2 h2 => ?_)
  obtain ⟨it, fp, tn, J, H2, rfl, I2, T, t0, fp2, q⟩ := h2
  refine wpAny_newObj_type (newEnv_comp ?_) (by show 0 ≤ sizeLine; decide)
  generalize eD : s2.heap.objs.size = D
  have q0 := q D (I2.hok.fresh (Nat.le_of_eq eD))
  generalize e3 : ({ s2 with heap := s2.heap.push { cls := .type "list", data := .seq ([] : List Value).toArray } } : Shared) = s3
  have heap3 : s3.heap = s2.heap.push { cls := .type "list", data := .seq ([] : List Value).toArray } := by rw [← e3]
  have up3 : ∀ b o, s2.heap.get? b = some o → s3.heap.get? b = some o := fun b o e => by
    rw [heap3]
    exact Heap.get?_push_of_some _ e
  generalize eH : upd H2 D (.lst []) = H3 at q0
  have I3 : Inv X pins σ H3 s3 := by
    rw [← eH, ← e3, ← eD]
    exact I2.laid (t' := s2.toks) (fun b o e => Heap.get?_push_of_some _ e) (Nat.le_refl _) ⟨Nat.zero_le _, [], 0, .nil, Heap.get?_push_size _ rfl⟩
  have fp3 : ∀ b ∈ fp, FpOk X pins H3 b ∧ b < s3.heap.objs.size := fun b hb => by
    obtain ⟨o, e, _⟩ := T.obj _ _ t0 b hb
    have lt := Heap.lt_size e
    refine ⟨⟨?_, (fp2 b hb).2⟩, ?_⟩
    · rw [← eH, upd_ne (show b ≠ D by rw [← eD]; exact Nat.ne_of_lt lt)]
      exact (fp2 b hb).1
    · rw [heap3, Heap.size_push]
      exact Nat.lt_succ_of_lt lt
  have t3 : tn 0 s3.heap := T.keep _ _ _ t0 fun b _ o e => up3 b o e
  have I4 := block_start I3 blk nd fp3
  have rn := run s3 H3 s3.heap.objs.size (cellsFrom (s3.heap.objs.size + 1) scope.names (cloFrom X.env.cells scope.names [])) fp D
  show codeAny _ _ (.compStart (.ListComp el (⟨tg, iter, ifs, 0⟩ :: rest) scope pos) 0 (.ref it) (.ref D)
      (compEnvC scope (cellsFrom (s3.heap.objs.size + 1) scope.names (cloFrom X.env.cells scope.names [])) s3.heap.objs.size X.env))
    (compPost (model X.prog X.w) X.A X.xe use Qf (.ref D) s3.heap.objs.size) { s3 with heap := pushCells (s3.heap.push { cls := .type "dict", data := .dict #[] }) scope.names }
  generalize eC : compEnvC scope (cellsFrom (s3.heap.objs.size + 1) scope.names (cloFrom X.env.cells scope.names [])) s3.heap.objs.size X.env = ce at I4 rn ⊢
  have locs : ce.locals = s3.heap.objs.size := by
    subst eC
    rfl
  generalize eS : ({ s3 with heap := pushCells (s3.heap.push { cls := .type "dict", data := .dict #[] }) scope.names } : Shared) = s4 at I4 ⊢
  have ts4 : tn 0 s4.heap := T.keep _ _ _ t3 fun b _ o e => by
    rw [← eS]
    exact pushCells_keeps _ _ _ _ (Heap.get?_push_of_some _ e)
  have held : ∀ b ∈ fp, FpOk (X.blk s3 H3 scope ce fp) [] H3 b := fun b hb =>
    have x := I4.ok.exf b hb
    ⟨(fp3 b hb).1.1, x.1, I4.ok.exfs b hb, .inl hb, fun y c e => x.2 y c e, fun p hp => by cases hp⟩
  have body0 := rn [] s4 _ H3 it fp tn J (fun H' => Q (.ref D) H') I4 T ts4 held q0
  have body : codeAny (model X.prog X.w) X.A (.compLoop (.ListComp el (⟨tg, iter, ifs, 0⟩ :: rest) scope pos) 0 (.ref it) (.ref D) ce)
      (compPost (model X.prog X.w) X.A X.xe use Qf (.ref D) s3.heap.objs.size) s4 := codeAny_mono body0 fun r s6 hr => by
    obtain ⟨rfl, H5, I6, qq⟩ := hr
    have free6 : H5 ce.locals = none := I6.free
    obtain ⟨m, ns6, _⟩ := I6.loc
    have ns6' : s6.heap.Ns ce.locals m := ns6
    rw [locs] at free6 ns6'
    have I7 : Inv X pins σ H5 s6 := I3.call' (ch := fp) I6.os I6.base I6.hok I6.bare fun b hb =>
      have z := (fp3 b hb).1
      ⟨z.2.2.2.1, z.2.1, z.2.2.2.2.1, z.2.2.2.2.2⟩
    exact fin D s3.heap.objs.size s6 m H5 I7 qq ns6' (I3.fpOk (Nat.le_refl _) free6)
  exact codeAny_compStart_list body (T.self X.A 0 _ _ _ ts4 body)
theorem eqL0 (el t0 i0 t1 i1 t2 i2 : Expr) (f0 f1 f2 : List Expr) (scope : Scope) (pos : Pos) : OutEq (.ListComp el [⟨t0, i0, f0, 0⟩, ⟨t1, i1, f1, 0⟩, ⟨t2, i2, f2, 0⟩] scope pos) 0 t0 f0 i1 := fun _ _ _ => ⟨i0.pos, i1.pos, rfl⟩
theorem eqL1 (el t0 i0 t1 i1 t2 i2 : Expr) (f0 f1 f2 : List Expr) (scope : Scope) (pos : Pos) : OutEq (.ListComp el [⟨t0, i0, f0, 0⟩, ⟨t1, i1, f1, 0⟩, ⟨t2, i2, f2, 0⟩] scope pos) 1 t1 f1 i2 := fun _ _ _ => ⟨i1.pos, i2.pos, rfl⟩
theorem eqL2 (el t0 i0 t1 i1 t2 i2 : Expr) (f0 f1 f2 : List Expr) (scope : Scope) (pos : Pos) : InEq (.ListComp el [⟨t0, i0, f0, 0⟩, ⟨t1, i1, f1, 0⟩, ⟨t2, i2, f2, 0⟩] scope pos) 2 t2 f2 el := fun _ _ _ => ⟨i2.pos, rfl⟩
/-- [el for t0 in i0 if .. for t1 in i1 if .. for t2 in i2 if ..] -/
abbrev tLc3 (wi : TI) (g : TG) (tt : TT) (wi1 : TI) (g1 : TG) (tt1 : TT) (wi2 : TI) (g2 : TG) (tt2 : TT) (te : TE) (vs vs1 vs2 : List Nat) : TE :=
  tLcG wi (fun D J => bLoop J g tt vs (bFor wi1 g1 tt1 vs1 (bFor wi2 g2 tt2 vs2 (bApp D te)))) vs
variable {el t0 i0 t1 i1 t2 i2 : Expr} {f0 f1 f2 : List Expr} {scope : Scope} {own : List (PySem.Str × Nat)} {vs1 vs2 : List Nat} {wi wi1 wi2 : TI} {g g1 g2 : TG} {tt tt1 tt2 : TT} {te : TE}
theorem run3 {pos : Pos} (quiet : X.calm = true) (hv1 : ∀ i ∈ vs1, i ∈ own.map (·.2)) (hv2 : ∀ i ∈ vs2, i ∈ vs1) (hs1 : ∀ env x, foldedSetIterable i1 env x = pure x) (hs2 : ∀ env x, foldedSetIterable i2 env x = pure x) (s : Shared) (H : Hp) (C : Addr) (cl : List (PySem.Str × Addr)) (fp : List Addr) (D : Addr)
    (gg : PG (X.blk s H scope (compEnvC scope cl C X.env) fp) t0 g) (tts : PTs (X.blk s H scope (compEnvC scope cl C X.env) fp) f0 tt) (ii1 : PI (X.blk s H scope (compEnvC scope cl C X.env) fp) t1 i1 wi1) (gg1 : PG (X.blk s H scope (compEnvC scope cl C X.env) fp) t1 g1)
    (tts1 : PTs (X.blk s H scope (compEnvC scope cl C X.env) fp) f1 tt1) (ii2 : PI (X.blk s H scope (compEnvC scope cl C X.env) fp) t2 i2 wi2) (gg2 : PG (X.blk s H scope (compEnvC scope cl C X.env) fp) t2 g2) (tts2 : PTs (X.blk s H scope (compEnvC scope cl C X.env) fp) f2 tt2)
    (ee : PE (X.blk s H scope (compEnvC scope cl C X.env) fp) el te) :
    RunC (X.blk s H scope (compEnvC scope cl C X.env) fp) (.ListComp el [⟨t0, i0, f0, 0⟩, ⟨t1, i1, f1, 0⟩, ⟨t2, i2, f2, 0⟩] scope pos) 0 (.ref D) t0 (own.map (·.2)) fun J => bLoop J g tt (own.map (·.2)) (bFor wi1 g1 tt1 vs1 (bFor wi2 g2 tt2 vs2 (bApp D te))) :=
  run_more (Y := X.blk s H scope (compEnvC scope cl C X.env) fp) quiet rfl (eqL0 el t0 i0 t1 i1 t2 i2 f0 f1 f2 scope pos) (hs1 _) rfl gg tts ii1 hv1 (run_more (Y := X.blk s H scope (compEnvC scope cl C X.env) fp) quiet rfl (eqL1 el t0 i0 t1 i1 t2 i2 f0 f1 f2 scope pos) (hs2 _) rfl gg1 tts1 ii2 hv2 (run_last (Y := X.blk s H scope (compEnvC scope cl C X.env) fp) quiet rfl (eqL2 el t0 i0 t1 i1 t2 i2 f0 f1 f2 scope pos) gg2 tts2 ee D vs2))
theorem ps_setLc3 {i : Nat} {y : PySem.Str} {py pos spos : Pos} (quiet : X.calm = true) (nd : X.N.Nodup) (hy : X.N[i]? = some y) (hyl : X.env.scope.names.lookup y = some .local)
    (hsw : swapsWith (.ListComp el [⟨t0, i0, f0, 0⟩, ⟨t1, i1, f1, 0⟩, ⟨t2, i2, f2, 0⟩] scope pos) (some (.Name y py)) spos.line X.env = pure true) (ii : PI X t0 i0 wi) (blk : BlkOk X.N X.env.scope scope own) (hv1 : ∀ i ∈ vs1, i ∈ own.map (·.2)) (hv2 : ∀ i ∈ vs2, i ∈ vs1)
    (gg : ∀ (s : Shared) (H : Hp) (C : Addr) (cl : List (PySem.Str × Addr)) (fp : List Addr), PG (X.blk s H scope (compEnvC scope cl C X.env) fp) t0 g) (tts : ∀ (s : Shared) (H : Hp) (C : Addr) (cl : List (PySem.Str × Addr)) (fp : List Addr), PTs (X.blk s H scope (compEnvC scope cl C X.env) fp) f0 tt)
    (ii1 : ∀ (s : Shared) (H : Hp) (C : Addr) (cl : List (PySem.Str × Addr)) (fp : List Addr), PI (X.blk s H scope (compEnvC scope cl C X.env) fp) t1 i1 wi1)
    (gg1 : ∀ (s : Shared) (H : Hp) (C : Addr) (cl : List (PySem.Str × Addr)) (fp : List Addr), PG (X.blk s H scope (compEnvC scope cl C X.env) fp) t1 g1) (tts1 : ∀ (s : Shared) (H : Hp) (C : Addr) (cl : List (PySem.Str × Addr)) (fp : List Addr), PTs (X.blk s H scope (compEnvC scope cl C X.env) fp) f1 tt1)
    (ii2 : ∀ (s : Shared) (H : Hp) (C : Addr) (cl : List (PySem.Str × Addr)) (fp : List Addr), PI (X.blk s H scope (compEnvC scope cl C X.env) fp) t2 i2 wi2)
    (gg2 : ∀ (s : Shared) (H : Hp) (C : Addr) (cl : List (PySem.Str × Addr)) (fp : List Addr), PG (X.blk s H scope (compEnvC scope cl C X.env) fp) t2 g2) (tts2 : ∀ (s : Shared) (H : Hp) (C : Addr) (cl : List (PySem.Str × Addr)) (fp : List Addr), PTs (X.blk s H scope (compEnvC scope cl C X.env) fp) f2 tt2)
    (ee : ∀ (s : Shared) (H : Hp) (C : Addr) (cl : List (PySem.Str × Addr)) (fp : List Addr), PE (X.blk s H scope (compEnvC scope cl C X.env) fp) el te)
    (hs : ∀ x, foldedSetIterable i0 X.env x = pure x := by intro _; rfl) (hs1 : ∀ env x, foldedSetIterable i1 env x = pure x := by intro _ _; rfl) (hs2 : ∀ env x, foldedSetIterable i2 env x = pure x := by intro _ _; rfl) :
    PS X (.Assign [.Name y py] (.ListComp el [⟨t0, i0, f0, 0⟩, ⟨t1, i1, f1, 0⟩, ⟨t2, i2, f2, 0⟩] scope pos) spos) (tAsg (tLc3 wi g tt wi1 g1 tt1 wi2 g2 tt2 te (own.map (·.2)) vs1 vs2) (gName i)) := by
  constructor
  intro pins s σ H D I h
  rw [exec_Assign_Name_used _ _ _ _ hsw]
  refine wpAny_bind (wpAny_standAt (wpAny_bind ?_))
  show wpAny _ X.A (do let _ ← comprehension (.ListComp el [⟨t0, i0, f0, 0⟩, ⟨t1, i1, f1, 0⟩, ⟨t2, i2, f2, 0⟩] scope pos) scope X.env (firstIterPos [⟨t0, i0, f0, 0⟩, ⟨t1, i1, f1, 0⟩, ⟨t2, i2, f2, 0⟩] pos) (newList []) false (eval i0 X.env) (some (assign (.Name y py) X.env))) _ _ s
  refine wpAny_bind (thn (lcTop (Qf := fun _ s' => SP X pins D .next s') quiet nd I ii blk (fun s H C cl fp D => run3 quiet hv1 hv2 hs1 hs2 s H C cl fp D (gg s H C cl fp) (tts s H C cl fp) (ii1 s H C cl fp) (gg1 s H C cl fp) (tts1 s H C cl fp) (ii2 s H C cl fp) (gg2 s H C cl fp) (tts2 s H C cl fp) (ee s H C cl fp)) hs
    (show tLc3 wi g tt wi1 g1 tt1 wi2 g2 tt2 te (own.map (·.2)) vs1 vs2 σ H (fun x H1 => gName i x σ H1 D.nx) from h) fun L C s' m H' I' q hn f => ?_) fun _ s' hq => wpAny_pure (wpAny_pure hq))
  show wpAny _ _ (assign (.Name y py) X.env (.ref L)) _ _ _
  refine wpAny_assign_Name (store_ok2 (v := V.ref L) I' nd hy (.inl hyl) rfl (fun s2 I2 ⟨a, sb, ha⟩ => ?_) (.inr hyl))
  have far : C ≠ a := ha.elim (fun z => by rw [z]; exact f.2.1) fun z e => f.2.2.2.2.1 y a z e.symm
  exact ⟨m, hn.sameBut sb far, fun h3 sb3 => ⟨_, H', I2.turned (t' := s2.toks) (fun b o hb e => (sb3.2 b hb).trans e) f.1 f.2.1 f.2.2.2.1 f.2.2.2.2.1 f.2.2.2.2.2, q⟩⟩
end
theorem bl_it {J : It} {n : Nat} {G : Hp → Prop} {Y : Nat → Hp → V → Hp → Prop} (wk : Walk J n G Y) {g : TG} {tt : TT} {tb : TBd} {vs : List Nat} {σ : L2.St} {H1 : Hp} {Nx : Hp → Prop} (Pv : Nat → Hp → Prop) (h0 : Pv 0 H1) (hG : ∀ i H, i ≤ n → Pv i H → G H)
    (hs : ∀ i x H H', i < n → Pv i H → Y i H x H' → g x (wipe σ vs) H' fun σ2 H2 => wipe σ2 vs = wipe σ vs ∧ tt σ2 H2 fun b H3 => if b = true then tb σ2 H3 (Pv (i + 1)) else Pv (i + 1) H3) (hd : ∀ H, Pv n H → Nx H) : bLoop J g tt vs tb σ H1 Nx := by
  refine ⟨fun i m H => m = n - i ∧ i ≤ n ∧ Pv i H, ⟨n, by simp, Nat.zero_le _, h0⟩, ?_⟩
  rintro i m H ⟨rfl, hi, p⟩
  have q := hG i H hi p
  by_cases lt : i < n
  · exact .inr ⟨wk.goes i H lt q, Pv (i + 1), fun H' p' => ⟨n - (i + 1), by omega, rfl, lt, p'⟩, fun x H' y => hs i x H H' lt p (wk.yields i H x H' lt q y)⟩
  · obtain rfl : i = n := by omega
    exact .inl ⟨wk.stops H q, hd H p⟩
theorem wipe_set_set {i : Nat} {x : Option V} {σ : L2.St} : ∀ vs : List Nat, (wipe (σ.set i x) vs).set i none = (wipe σ vs).set i none
  | [] => by show (σ.set i x).set i none = σ.set i none; rw [List.set_set]
  | v :: vs => by
    show ((wipe (σ.set i x) vs).set v none).set i none = ((wipe σ vs).set v none).set i none
    by_cases e : v = i
    · subst e
      rw [List.set_set, List.set_set, wipe_set_set vs]
    · rw [List.set_comm _ _ e, wipe_set_set vs, List.set_comm _ _ e]
/-- a slot that is wiped may have held anything -/
theorem wipe_set {i : Nat} {x : Option V} {σ : L2.St} : ∀ {vs : List Nat}, i ∈ vs → wipe (σ.set i x) vs = wipe σ vs
  | v :: vs, h => by
    show (wipe (σ.set i x) vs).set v none = (wipe σ vs).set v none
    by_cases e : i = v
    · subst e
      exact wipe_set_set vs
    · rw [wipe_set (List.mem_of_ne_of_mem e h)]
theorem wipe_in {σ : L2.St} : ∀ {vs ws : List Nat}, (∀ i ∈ ws, i ∈ vs) → wipe (wipe σ ws) vs = wipe σ vs
  | vs, [], _ => rfl
  | vs, w :: ws, h => by
    show wipe ((wipe σ ws).set w none) vs = wipe σ vs
    rw [wipe_set (h w List.mem_cons_self), wipe_in fun i hi => h i (List.mem_cons_of_mem _ hi)]
theorem wipe_idem (σ : L2.St) (vs : List Nat) : wipe (wipe σ vs) vs = wipe σ vs := wipe_in fun _ h => h
end Fw

set_option maxRecDepth 100000
set_option maxHeartbeats 8000000
namespace Fw
open PySem PySem.Spec PyProof.Rows L2 GxR
/-- the numbers of all states before the first round and behind each one; the last comes to rest -/
structure Rds (H : Hp) (la : Addr) (as : List Addr) (W : Wd) (m : Nat) : Prop where
  at_ : H la = some (.lst (as.map V.ref))
  len : as.length = m + 1
  row : ∀ (r : Nat) (a : Addr), as[r]? = some a → H a = some (.tup ((clsN (Lk W r) W.n).map V.int))
theorem Rds.same {H H' : Hp} {la : Addr} {as : List Addr} {W : Wd} {m : Nat} (s : Same H H') (h : Rds H la as W m) : Rds H' la as W m := ⟨s _ _ h.at_, h.len, fun r a e => s _ _ (h.row r a e)⟩
/-- what is asked of a world whose rounds are told -/
structure WdOk (W : Wd) : Prop where
  in_ : W.In
  lb : ∀ p ∈ W.steps, 0 ≤ p.2.1 ∧ p.2.1 < 4
  n1 : 1 ≤ W.n
  n15 : W.n ≤ 15
  st : W.steps.length ≤ 76
def RestAt (W : Wd) (m : Nat) : Prop := ∀ s t, s < W.n → t < W.n → Lk W m s t → Lk W (m + 1) s t
theorem ints_refs {ms : List Nat} {as : List Addr} (e : (ms.map fun m => V.int ((m : Nat) : Int)) = as.map V.ref) : as = [] := by
  cases as with
  | nil => rfl
  | cons a as =>
    cases ms with
    | nil => cases e
    | cons m ms =>
      injection e with h _
      cases h
/-- the list of rounds grows: what Rounds holds stands apart from it -/
theorem Rst.grow {RC : Addr} {H : Hp} {a : RA} {bas : List Addr} {W : Wd} {ls : List Int} {r : Nat} {bs fr : List Nat} {la : Addr} {as : List Addr} {m : Nat} {o : HO} (R : Rst RC H a bas W ls r bs fr) (D : Rds H la as W m) : Rst RC (upd H la o) a bas W ls r bs fr := by
  have ne : as ≠ [] := fun e => by have := D.len; rw [e] at this; cases this
  have ms : ∀ {c : Addr} {xs : List Nat}, MsAt H c xs → c ≠ la := fun {c xs} h => ne_of h D.at_ fun z => ne (ints_refs (HO.lst.inj z))
  refine ⟨by rw [upd_ne (ne_of R.ob D.at_ (by intro z; cases z))]; exact R.ob, ?_, R.len, fun i c l e1 e2 => ?_, ?_, ?_, R.ri, R.cut, R.lsz, R.frl⟩
  · rw [upd_ne (ne_of R.b D.at_ fun z => ?_)]
    · exact R.b
    · have e : bas = as := (List.map_inj_right fun a b e => V.ref.inj e).mp (HO.lst.inj z)
      cases as with
      | nil => exact ne rfl
      | cons a0 as =>
        subst e
        have h1 := D.row 0 a0 rfl
        have ll := R.len
        obtain ⟨l0, hl0⟩ : ∃ l0, ls[0]? = some l0 := ⟨_, List.getElem?_eq_getElem (by rw [← ll]; exact Nat.succ_pos _)⟩
        have h2 : H a0 = some (.lst _) := R.rows 0 a0 l0 rfl hl0
        rw [h1] at h2
        cases h2
  · have h := R.rows i c l e1 e2
    show upd H la o c = _
    rw [upd_ne (ms h)]
    exact h
  · show upd H la o a.la = _
    rw [upd_ne (ms R.l)]
    exact R.l
  · show upd H la o a.fa = _
    rw [upd_ne (ms R.f)]
    exact R.f
theorem Rds.grow {H : Hp} {la : Addr} {as : List Addr} {W : Wd} {m : Nat} {t : Addr} (D : Rds H la as W m) (ht : H t = some (.tup ((clsN (Lk W (m + 1)) W.n).map V.int))) : Rds (upd H la (.lst ((as ++ [t]).map V.ref))) la (as ++ [t]) W (m + 1) := by
  refine ⟨upd_same, by rw [List.length_append, D.len]; rfl, fun r a e => ?_⟩
  rcases get_snoc e with e1 | ⟨e1, rfl⟩
  · have h := D.row r a e1
    rw [upd_ne (ne_of h D.at_ (by intro z; cases z))]
    exact h
  · have : r = m + 1 := by rw [e1, D.len]
    subst this
    rw [upd_ne (ne_of ht D.at_ (by intro z; cases z))]
    exact ht
theorem Rds.but {H H' : Hp} {la p : Addr} {as : List Addr} {W : Wd} {m : Nat} {C dx : Addr} {fs : List (Str × V)} (hp : H p = some (.ins C dx fs)) (b : But p H H') (D : Rds H la as W m) : Rds H' la as W m :=
  ⟨b _ _ (ne_of D.at_ hp (by intro z; cases z)) D.at_, D.len, fun r a e => b _ _ (ne_of (D.row r a e) hp (by intro z; cases z)) (D.row r a e)⟩
section
variable {P : Program} {w : World} {K : PySem.W.Frag} {mg : Str → Option Value} {base : Heap} {C J B WC NC RC cA tA : Addr}
def spAllR (K : PySem.W.Frag) (WC : Addr) : Sp := fun vs H Q _ => ∃ (p dx : Addr) (l f : Int) (ta tb d : Addr) (ras as : List Addr) (H0 : Hp) (W : Wd), vs = [.ref p] ∧ WoE K WC H0 H p dx l f ta tb d ras as W.facts W.steps ∧ RTp H ras W.facts ∧ WdOk W ∧
  ∀ (la : Addr) (rs : List Addr) (m : Nat) H', Same H H' → m < W.n → RestAt W m → Rds H' la rs W m → Q (.ref la) H'
theorem ok_all_rounds {f fA fU : Addr} {fd fdA fdU : FuncData} (FF : Fun K "all_rounds" "all_rounds" s_all_rounds f fd) (T : Txt K mg C J B) (TC : TxtC K WC) (TN : TxtRo K RC) (h_Rounds : HasC P w K mg base "Rounds" RC 2 a_Rounds_init (spRo K RC))
    (m_Rounds_advance : Meth K RC "advance" fA) (g_Rounds_advance : FnOk P w K mg base CX0 3 fA fdA a_Rounds_advance (spAdv RC)) (b_Rounds_advance : L2.Binds K fdA a_Rounds_advance [])
    (m_Rounds_numbers : Meth K RC "numbers" fU) (g_Rounds_numbers : FnOk P w K mg base CX0 4 fU fdU a_Rounds_numbers (spNums RC)) (b_Rounds_numbers : L2.Binds K fdU a_Rounds_numbers []) : FnOk P w K mg base CX0 6 f fd a_all_rounds (spAllR K WC) := by
  refine FF.ok sc_all_rounds (fun vs H Q E h => ?_) (fun cdv A outer s0 H vs Q E hr h => ?_)
  · obtain ⟨p, dx, l, f, ta, tb, d, ras, as, H0, W, rfl, _⟩ := h
    rfl
  · obtain ⟨wp, wdx, l, f, ta, tb, d, ras, as, H0, W, rfl, WE, rt, fo, k⟩ := h
    have hin := fo.in_
    have n1 := fo.n1
    have n15 := fo.n15
    refine ⟨_, (pss_cons (ps_set (i := 1) sc_all_rounds.nd rfl (.inl rfl) (pe_makeH h_Rounds (hr.mono (by omega)) (pa_cons (pe_fld (pv 0) rfl) (pa_cons (pe_fld (pv 0) rfl) pa_nil))))
      (pss_cons (ps_set (i := 2) sc_all_rounds.nd rfl (.inl rfl) (pe_lst (pa_cons (pe_meth0 (pv 1) TN.cl m_Rounds_numbers g_Rounds_numbers (hr.mono (by omega)) b_Rounds_numbers .nil pass0) pa_nil)))
      (pss_cons (ps_while PassesOwn.never (pt_val (pe_meth0 (pv 1) TN.cl m_Rounds_advance g_Rounds_advance (hr.mono (by omega)) b_Rounds_advance .nil pass0)) (pss_one (ps_expr (pe_bm PySem.F.plainAttrs_list PySem.F.slot_list_append PySem.F.type_list_append mt_append (pv 2) (pa_cons (pe_meth0 (pv 1) TN.cl m_Rounds_numbers g_Rounds_numbers (hr.mono (by omega)) b_Rounds_numbers .nil pass0) pa_nil)))))
      (pss_one (ps_ret (pv 2)))))), ?_⟩
    refine ⟨.ref wp, rfl, wp, WC, wdx, _, .ref ta, rfl, WE.ob, TC.cl, TC.nS, rfl, .ref wp, rfl, wp, WC, wdx, _, .ref tb, rfl, WE.ob, TC.cl, TC.nT, rfl, fun p dx hp hdx ndp => ?_⟩
    have sp1 : Same H (upd (upd H dx (.own p)) p (.ins RC dx [])) := fun b o e => by rw [upd_ne (ne_of_none e hp), upd_ne (ne_of_none e hdx)]; exact e
    have gp1 : (upd (upd H dx (.own p)) p (.ins RC dx [])) p = some (.ins RC dx []) := upd_same
    generalize upd (upd H dx (.own p)) p (.ins RC dx []) = H1 at sp1 gp1
    refine ⟨p, dx, ta, tb, ras, as, W, rfl, gp1, SqT.same sp1 WE.st, rt.map fun b ys e => sp1 _ _ e, SqT.same sp1 WE.sp, WE.tr.same sp1, hin, fo.lb, n15, fun a bas ls bs H2 ea b2 R2 => ⟨rfl, ?_⟩⟩
    subst ea
    have same_ : ∀ {G : Hp}, But a.p H1 G → Same H G := fun B b o e => B b o (ne_of_none e hp) (sp1 b o e)
    have sH2 := same_ b2
    have E_ : ∀ r, Eqv W.n (Lk W r) := fun r => Lk.eqv W r W.n
    have pos1 : 1 ≤ bs.length := by
      obtain ⟨b, hb, _⟩ := R2.ri.blk.all 0 (by omega)
      exact List.length_pos_of_mem hb
    refine ⟨.ref a.p, rfl, a.p, a.dx, _, rfl, R2.ob, rfl, a, bas, W, ls, 0, bs, bs, rfl, R2, n15, fun t0 G0 s3 nt0 gt0 => ?_⟩
    have s4 := sH2.trans s3
    have R4 := R2.same s3
    refine ⟨by show 1 ≤ sizeLine; decide, fun la hla => ?_⟩
    have s5 := Same.new (o := .lst [V.ref t0]) hla
    have D5 : Rds (upd G0 la (.lst [V.ref t0])) la [t0] W 0 := ⟨upd_same, rfl, fun r a e => by
      cases r with
      | zero =>
        obtain rfl := Option.some.inj e
        exact s5 _ _ gt0
      | succ r => cases e⟩
    have nHla : H la = none := by
      cases e : H la with
      | none => rfl
      | some u => rw [s4 _ _ e] at hla; cases hla
    have sH5 := s4.trans s5
    have R5 := R4.same s5
    generalize upd G0 la (.lst [V.ref t0]) = G5 at D5 sH5 R5
    clear s3 gt0 hla R4 s5 sH2 R2 b2 s4 sp1
    refine ⟨fun d σ G => ∃ (a' : RA) (r : Nat) (bs' fr' : List Nat) (as' : List Addr), a'.p = a.p ∧ σ = [some (.ref wp), some (.ref a.p), some (.ref la)] ∧ Same H G ∧ Rst RC G a' bas W ls r bs' fr' ∧ r + 1 ≤ bs'.length ∧ d = W.n - bs'.length ∧ Rds G la as' W r, ⟨_, a, 0, bs, bs, [t0], rfl, rfl, sH5, R5, pos1, rfl, D5⟩, ?_⟩
    rintro d σ G ⟨a', r, bs', fr', as', ea, rfl, sG, R, hr1, rfl, D⟩
    have bl := R.ri.blk.len (E_ r)
    refine ⟨.ref a.p, rfl, a.p, a'.dx, _, rfl, by rw [← ea]; exact R.ob, rfl, a', bas, W, ls, r, bs', fr', by rw [ea]; rfl, R, hin, n15, fun a2 cs G2 e2 bG R' hcs => ⟨_, rfl, ?_⟩⟩
    have nHp : H a'.p = none := by rw [ea]; exact hp
    have sG2 : Same H G2 := fun b o e => bG b o (ne_of_none e nHp) (sG b o e)
    have D2 := D.but R.ob bG
    have len' := split_len (cs := cs) R.ri.blk.ne
    have bl' := R'.ri.blk.len (E_ (r + 1))
    by_cases fn : freshB bs' cs = []
    · have e0 : decide (0 < (freshB bs' cs).length) = false := by rw [fn]; rfl
      rw [e0]
      refine iteF ⟨.ref la, rfl, ?_⟩
      exact k la as' r G2 sG2 (by omega) (R.ri.rest hin R.cut hcs fn) D2
    · have e0 : decide (0 < (freshB bs' cs).length) = true := decide_eq_true (List.length_pos_iff.mpr fn)
      rw [e0]
      have l2 := len'.2 fn
      refine iteT ⟨fun σ G => ∃ (a' : RA) (bs'' fr' : List Nat) (as'' : List Addr), a'.p = a.p ∧ σ = [some (.ref wp), some (.ref a.p), some (.ref la)] ∧ Same H G ∧ Rst RC G a' bas W ls (r + 1) bs'' fr' ∧ r + 2 ≤ bs''.length ∧ bs'.length < bs''.length ∧ bs''.length ≤ W.n ∧ Rds G la as'' W (r + 1), ?_, ?_⟩
      · rintro σ' G' ⟨a3, bs3, fr3, as3, e3, rfl, s3, R3, h1, h2, h3, D3⟩
        exact ⟨W.n - bs3.length, by omega, a3, r + 1, bs3, fr3, as3, e3, rfl, s3, R3, h1, rfl, D3⟩
      refine ⟨.ref la, rfl, .inl ⟨rfl, _, SqL.of D2.at_⟩, .ref a.p, rfl, a.p, a2.dx, _, rfl, by rw [← ea, ← e2]; exact R'.ob, rfl, a2, bas, W, ls, r + 1, _, _, by rw [e2, ea]; rfl, R', n15, fun t G3 s3 nt gt => ?_⟩
      have D3 := D2.same s3
      have R3 := R'.same s3
      refine ⟨la, _, _, rfl, rfl, D3.at_, by rw [List.length_map, D3.len]; exact small1000 (by omega), ?_⟩
      have D6 := D3.grow gt
      have R6 := R3.grow (o := .lst ((as' ++ [t]).map V.ref)) D3
      have sG3 := sG2.trans s3
      rw [show as'.map V.ref ++ [V.ref t] = (as' ++ [t]).map V.ref by rw [List.map_append]; rfl]
      exact ⟨a2, _, _, as' ++ [t], by rw [e2, ea], rfl, fun b o e => by rw [upd_ne (ne_of_none e nHla)]; exact sG3 b o e, R6, by omega, l2, bl', D6⟩
def spFstR (K : PySem.W.Frag) : Sp := fun vs H Q _ => ∃ (la : Addr) (as : List Addr) (W : Wd) (m s t : Nat), vs = [.ref la, .int (s : Nat), .int (t : Nat)] ∧ Rds H la as W m ∧ m < W.n ∧ W.n ≤ 15 ∧ s < W.n ∧ t < W.n ∧ ¬ Lk W m s t ∧
  ∀ r : Nat, r ≤ m → ¬ Lk W r s t → (∀ r', r' < r → Lk W r' s t) → Q (.int (r : Nat)) H
theorem ok_first_round {f : Addr} {fd : FuncData} (FF : Fun K "first_round" "first_round" s_first_round f fd) (T : Txt K mg C J B) : FnOk P w K mg base CX0 1 f fd a_first_round (spFstR K) := by
  refine FF.ok sc_first_round (fun vs H Q E h => ?_) (fun cdv A outer s0 H vs Q E hr h => ?_)
  · obtain ⟨la, as, W, m, s, t, rfl, _⟩ := h
    rfl
  · obtain ⟨la, as, W, m, s, t, rfl, D, mn, n15, hs, ht, nl, k⟩ := h
    refine ⟨_, (pss_cons (ps_set (i := 3) sc_first_round.nd rfl (.inl rfl) pe_int)
      (pss_cons (ps_while PassesOwn.never (pt_cmpR op_eq (pe_ix ix_tup (pe_ix ix_list (pv 0) (pv 3) (fun _ _ => rfl)) (pv 1) (fun _ _ => rfl)) (pe_ix ix_tup (pe_ix ix_list (pv 0) (pv 3) (fun _ _ => rfl)) (pv 2) (fun _ _ => rfl)) (nomark _)) (pss_one (ps_aug (i := 3) sc_first_round.nd rfl (.inl rfl) pe_int ip_add)))
      (pss_one (ps_ret (pv 3))))), ?_⟩
    refine ⟨fun d σ G => ∃ r : Nat, σ = [some (.ref la), some (.int (s : Nat)), some (.int (t : Nat)), some (.int (r : Nat))] ∧ G = H ∧ r ≤ m ∧ (∀ r', r' < r → Lk W r' s t) ∧ d = m - r, ⟨_, 0, rfl, rfl, Nat.zero_le _, fun r' h => absurd h (Nat.not_lt_zero _), rfl⟩, ?_⟩
    rintro d σ G ⟨r, rfl, rfl, hr', all, rfl⟩
    obtain ⟨a, ha⟩ : ∃ a, as[r]? = some a := ⟨_, List.getElem?_eq_getElem (by rw [D.len]; omega)⟩
    have ga := D.row r a ha
    have at_ : ∀ {u : Nat}, u < W.n → ((clsN (Lk W r) W.n).map V.int)[u]? = some (.int ((numC (Lk W r) u : Nat) : Int)) := fun {u} hu => by
      unfold clsN
      rw [List.map_map, List.getElem?_map, List.getElem?_range hu]
      rfl
    refine ⟨.ref la, rfl, .int (r : Nat), rfl, la, _, _, .ref a, rfl, rfl, SqL.of D.at_, atI_nat (j := r) (by rw [List.getElem?_map, ha]; rfl), .int (s : Nat), rfl, a, _, _, .int ((numC (Lk W r) s : Nat) : Int), rfl, rfl, SqT.of ga, atI_nat (j := s) (at_ hs),
      .ref la, rfl, .int (r : Nat), rfl, la, _, _, .ref a, rfl, rfl, SqL.of D.at_, atI_nat (j := r) (by rw [List.getElem?_map, ha]; rfl), .int (t : Nat), rfl, a, _, _, .int ((numC (Lk W r) t : Nat) : Int), rfl, rfl, SqT.of ga, atI_nat (j := t) (at_ ht), ?_⟩
    have ne := num_eq (Lk.eqv W r W.n) hs ht
    by_cases c : Lk W r s t
    · have e := ne.mpr c
      refine ⟨rfl, true, congrArg V.bl (by rw [e]; simp), iteT ?_⟩
      have rm : r < m := by
        rcases Nat.lt_or_ge r m with h | h
        · exact h
        · exact absurd (by have : r = m := by omega
                           subst this
                           exact c) nl
      refine ⟨fun σ G' => σ = [some (.ref la), some (.int (s : Nat)), some (.int (t : Nat)), some (.int ((r + 1 : Nat) : Int))] ∧ G' = G, ?_, ?_⟩
      · rintro σ' G' ⟨rfl, rfl⟩
        refine ⟨m - (r + 1), by omega, r + 1, rfl, rfl, rm, fun r' h => ?_, rfl⟩
        by_cases e : r' = r
        · rw [e]; exact c
        · exact all r' (by omega)
      · exact ⟨.int (r : Nat), rfl, (r : Nat), 1, rfl, rfl, rfl, rfl⟩
    · refine ⟨rfl, false, congrArg V.bl (decide_eq_false fun z => c (ne.mp (by have := V.int.inj z; omega))), iteF ⟨.int (r : Nat), rfl, ?_⟩⟩
      exact k r hr' c all
end
end Fw

set_option maxRecDepth 100000
set_option maxHeartbeats 8000000
namespace Fw
open PySem PySem.Spec PyProof.Rows L2 GxR
/-- what it has written of the error TooLarge -/
structure TxtTL (K : PySem.W.Frag) (mg : Str → Option Value) (LC : Addr) : Prop where
  gC : mg "TooLarge" = some (.ref LC)
  xC : PySem.W.excIn K LC [.type "ValueError", .type "Exception", .type "BaseException", .type "object"] "ValueError.__new__" = true
  kC : PySem.W.keepIn K (.ref LC) = true
  bC : PySem.W.subIn K (.ref LC) (.type "BaseException") = some true
  tC : PySem.W.typeIn K (.ref LC) = some (.type "type")
  eC : PySem.W.exmOne K (.ref LC) (.ref LC) = some true
structure TxtGa (K : PySem.W.Frag) (GC : Addr) : Prop where
  cl : Cls K GC
  nW : NoAttr K GC "_world"
  nR : NoAttr K GC "_rounds"
/-- a game about the likeness of states -/
def Gm (K : PySem.W.Frag) (WC GC : Addr) (l : Int) (H0 H : Hp) (g : Addr) (W : Wd) : Prop := ∃ (gx p dx : Addr) (f : Int) (ta tb d : Addr) (ras as : List Addr) (la : Addr) (rs : List Addr) (m : Nat),
  H g = some (.ins GC gx [("_world", .ref p), ("_rounds", .ref la)]) ∧ WoE K WC H0 H p dx l f ta tb d ras as W.facts W.steps ∧ Rds H la rs W m ∧ m < W.n ∧ RestAt W m
theorem Gm.same {K : PySem.W.Frag} {WC GC : Addr} {l : Int} {H0 H H' : Hp} {g : Addr} {W : Wd} (s : Same H H') (h : Gm K WC GC l H0 H g W) : Gm K WC GC l H0 H' g W := by
  obtain ⟨gx, p, dx, f, ta, tb, d, ras, as, la, rs, m, h1, h2, h3, h4⟩ := h
  exact ⟨gx, p, dx, f, ta, tb, d, ras, as, la, rs, m, s _ _ h1, h2.same s, h3.same s, h4⟩
theorem cls_row {W : Wd} {r u : Nat} (hu : u < W.n) : ((clsN (Lk W r) W.n).map V.int)[u]? = some (.int ((numC (Lk W r) u : Nat) : Int)) := by
  unfold clsN
  rw [List.map_map, List.getElem?_map, List.getElem?_range hu]
  rfl
theorem num_like {W : Wd} {r u v : Nat} (hu : u < W.n) (hv : v < W.n) : decide (V.int ((numC (Lk W r) u : Nat) : Int) = V.int ((numC (Lk W r) v : Nat) : Int)) = true ↔ Lk W r u v := by
  rw [decide_eq_true_eq, ← num_eq (Lk.eqv W r W.n) hu hv]
  constructor
  · intro e; have := V.int.inj e; omega
  · intro e; rw [e]
theorem Rds.last {H : Hp} {la : Addr} {as : List Addr} {W : Wd} {m : Nat} (D : Rds H la as W m) : ∃ a, atI (as.map V.ref) (-1) = some (.ref a) ∧ H a = some (.tup ((clsN (Lk W m) W.n).map V.int)) := by
  obtain ⟨a, ha⟩ : ∃ a, as[m]? = some a := ⟨_, List.getElem?_eq_getElem (by rw [D.len]; exact Nat.lt_succ_self m)⟩
  have e : as = as.take m ++ [a] := by
    have := List.take_add_one (l := as) (i := m)
    rw [ha, ← D.len, List.take_length] at this
    exact this
  refine ⟨a, ?_, D.row m a ha⟩
  rw [e, List.map_append]
  exact atI_last _ _
section
variable {P : Program} {w : World} {K : PySem.W.Frag} {mg : Str → Option Value} {base : Heap} {C J B WC NC RC GC LC cA tA : Addr}
def spWin (K : PySem.W.Frag) (WC GC : Addr) : Sp := fun vs H Q _ => ∃ (g : Addr) (l : Int) (H0 : Hp) (W : Wd) (s t : Nat), vs = [.ref g, .int (s : Nat), .int (t : Nat)] ∧ Gm K WC GC l H0 H g W ∧ W.In ∧ s < W.n ∧ t < W.n ∧ (LkF W s t → Q (.int 0) H) ∧ (¬ LkF W s t → Q (.int 1) H)
theorem rest_full {W : Wd} (hin : W.In) {m : Nat} (mn : m < W.n) (h : RestAt W m) {s t : Nat} (hs : s < W.n) (ht : t < W.n) : Lk W m s t ↔ LkF W s t :=
  ⟨fun q => Lk.rest hin h (by omega) hs ht q, fun q => Lk.pred (show m ≤ W.n + 1 by omega) q⟩
theorem ok_winner {f : Addr} {fd : FuncData} (FF : Fun K "winner" "LikenessGame.winner" s_LikenessGame_winner f fd) (T : Txt K mg C J B) (TG : TxtGa K GC) : FnOk P w K mg base CX0 1 f fd a_LikenessGame_winner (spWin K WC GC) := by
  refine FF.ok sc_LikenessGame_winner (fun vs H Q E h => ?_) (fun cdv A outer s0 H vs Q E hr h => ?_)
  · obtain ⟨g, l, H0, W, s, t, rfl, _⟩ := h
    rfl
  · obtain ⟨g, l, H0, W, s, t, rfl, ⟨gx, p, dx, f, ta, tb, d, ras, as, la, rs, m, ob, WE, D, mn, rest⟩, hin, hs, ht, k1, k2⟩ := h
    refine ⟨_, (pss_cons (ps_set (i := 3) sc_LikenessGame_winner.nd rfl (.inl rfl) (pe_ix ix_list (pe_fld (pv 0) rfl) (pe_un un_neg pe_int) (fun _ _ => rfl)))
      (pss_one (ps_ret (pe_ifExp (pt_cmpR op_eq (pe_ix ix_tup (pv 3) (pv 1) (fun _ _ => rfl)) (pe_ix ix_tup (pv 3) (pv 2) (fun _ _ => rfl)) (nomark _)) pe_int pe_int)))), ?_⟩
    obtain ⟨a, e1, e2⟩ := D.last
    refine ⟨.ref g, rfl, g, GC, gx, _, .ref la, rfl, ob, TG.cl, TG.nR, rfl, 1, rfl, la, _, -1, .ref a, rfl, rfl, SqL.of D.at_, e1, .ref a, rfl, .int (s : Nat), rfl, a, _, _, .int ((numC (Lk W m) s : Nat) : Int), rfl, rfl, SqT.of e2, atI_nat (j := s) (cls_row hs), .ref a, rfl, .int (t : Nat), rfl, a, _, _, .int ((numC (Lk W m) t : Nat) : Int), rfl, rfl, SqT.of e2, atI_nat (j := t) (cls_row ht), rfl, _, rfl, ?_⟩
    have nl := num_like (r := m) hs ht
    have rf := rest_full hin mn rest hs ht
    by_cases c : Lk W m s t
    · rw [nl.mpr c]
      exact iteT (k1 (rf.mp c))
    · have e0 : decide (V.int ((numC (Lk W m) s : Nat) : Int) = V.int ((numC (Lk W m) t : Nat) : Int)) = false := by
        cases q : decide (V.int ((numC (Lk W m) s : Nat) : Int) = V.int ((numC (Lk W m) t : Nat) : Int)) with
        | false => rfl
        | true => exact absurd (nl.mp q) c
      rw [e0]
      exact iteF (k2 fun h => c (rf.mpr h))
def spAns (K : PySem.W.Frag) (WC GC : Addr) : Sp := fun vs H Q _ => ∃ (g na : Addr) (l : Int) (H0 : Hp) (W : Wd) (r o e : Nat) (b : Int), vs = [.ref g, .ref na, .int (o : Nat), .int b, .int (e : Nat)] ∧ Gm K WC GC l H0 H g W ∧ W.In ∧ W.steps.length ≤ 76 ∧ o < W.n ∧ e < W.n ∧ H na = some (.tup ((clsN (Lk W r) W.n).map V.int)) ∧
  ∀ (D : Addr) (ys : List Int) H', Same H H' → H D = none → IL H' D ys → (∀ y, y ∈ ys ↔ y ∈ W.beh (o : Nat) b ∧ Lk W r y.toNat e) → Q (.ref D) H'
theorem ok_answers {f : Addr} {fd : FuncData} (FF : Fun K "_answers" "LikenessGame._answers" s_LikenessGame__answers f fd) (T : Txt K mg C J B) (TG : TxtGa K GC) (h_followers : Has P w K mg base "followers" 1 a_followers (spFol K WC)) : FnOk P w K mg base CX0 2 f fd a_LikenessGame__answers (spAns K WC GC) := by
  refine FF.ok sc_LikenessGame__answers (fun vs H Q E h => ?_) (fun cdv A outer s0 H vs Q E hr h => ?_)
  · obtain ⟨g, na, l, H0, W, r, o, e, b, rfl, _⟩ := h
    rfl
  · obtain ⟨g, na, l, H0, W, r, o, e, b, rfl, ⟨gx, p, dx, f, ta, tb, d, ras, as, la, rs, m, ob, WE, R, mn, rest⟩, hin, st, ho, he, gna, k⟩ := h
    refine ⟨_, (pss_one (ps_ret (pe_lc (own := [("each", 5)]) (g := gName 5) rfl sc_LikenessGame__answers.nd (pi_list (pe_callH h_followers (hr.mono (by omega)) (pa_cons (pe_fld (pv 0) rfl) (pa_cons (pv 2) (pa_cons (pv 3) pa_nil))))) (blkOk_by (own := [("each", 5)]) (N := n_LikenessGame__answers) (sc := defScope s_LikenessGame__answers) (by decide +kernel)) (fun _ _ _ _ _ => (pg_name (i := 5) sc_LikenessGame__answers.nd rfl (.inl rfl))) (fun _ _ _ _ _ => (pts_one (pt_cmpR op_eq (pe_ix (@id (IxR _ (rIxT K)) ix_tup) (pv 1) (pv 5) (fun _ _ => rfl)) (pe_ix (@id (IxR _ (rIxT K)) ix_tup) (pv 1) (pv 4) (fun _ _ => rfl)) (nomark _)))) (fun _ _ _ _ _ => (pv 5))))), ?_⟩
    refine ⟨.ref g, rfl, g, GC, gx, _, .ref p, rfl, ob, TG.cl, TG.nW, rfl, .int (o : Nat), rfl, .int b, rfl, H0, p, dx, l, f, ta, tb, d, ras, as, W.facts, W.steps, (o : Nat), b, rfl, WE, fun fa H1 s1 nfa gfa => ⟨fa, rfl, ⟨_, SqL.of gfa⟩, fun D hD => ?_⟩⟩
    have gfa : IL H1 fa (W.beh (o : Nat) b) := gfa
    have gna1 := s1 _ _ gna
    refine lc_list (xs := (W.beh ((o : Nat) : Int) b).map V.int) (fun i G => Same H1 G ∧ ∃ ys : List Int, G D = some (.lst (ys.map V.int)) ∧ ys.length ≤ i ∧ ∀ y, y ∈ ys ↔ y ∈ (W.beh ((o : Nat) : Int) b).take i ∧ Lk W r y.toNat e) ⟨Same.new hD, [], upd_same, Nat.le_refl _, fun y => by simp⟩ (fun i G _ q => SqL.of (q.1 _ _ gfa)) ?_ ?_
    · rintro i x G hx ⟨sG, ys, gD, yl, ym⟩
      obtain ⟨y, hy, rfl⟩ : ∃ y, (W.beh ((o : Nat) : Int) b)[i]? = some y ∧ V.int y = x := by
        rw [List.getElem?_map] at hx
        cases e : (W.beh ((o : Nat) : Int) b)[i]? with
        | none => rw [e] at hx; cases hx
        | some y => rw [e] at hx; exact ⟨y, rfl, Option.some.inj hx⟩
      have iny := hin.beh (List.mem_of_getElem? hy)
      obtain ⟨u, rfl⟩ := Int.eq_ofNat_of_zero_le iny.1
      have hu : u < W.n := by omega
      have il := get_len hy
      have bl := beh_len W ((o : Nat) : Int) b
      have gna2 := SqT.of (K := K) (sG _ _ gna1)
      have tk : (W.beh ((o : Nat) : Int) b).take (i + 1) = (W.beh ((o : Nat) : Int) b).take i ++ [((u : Nat) : Int)] := by rw [List.take_add_one, hy]; rfl
      refine ⟨rfl, .ref na, rfl, .int ((u : Nat) : Int), rfl, na, _, _, .int ((numC (Lk W r) u : Nat) : Int), rfl, rfl, gna2, atI_nat (j := u) (cls_row hu), .ref na, rfl, .int ((e : Nat) : Int), rfl, na, _, _, .int ((numC (Lk W r) e : Nat) : Int), rfl, rfl, gna2, atI_nat (j := e) (cls_row he), rfl, _, rfl, ?_⟩
      have nl := num_like (r := r) hu he
      by_cases c : Lk W r u e
      · rw [nl.mpr c]
        refine iteT ⟨.int ((u : Nat) : Int), rfl, _, gD, by rw [List.length_map]; exact small1000 (by omega), fun b o z => by rw [upd_ne (ne_of_none z hD)]; exact sG b o z, ys ++ [((u : Nat) : Int)], by rw [upd_same, List.map_append]; rfl, by rw [List.length_append, List.length_singleton]; omega, fun y => ?_⟩
        rw [tk, List.mem_append, List.mem_append, ym, List.mem_singleton]
        constructor
        · rintro (h | rfl)
          · exact ⟨.inl h.1, h.2⟩
          · exact ⟨.inr rfl, by rw [Int.toNat_natCast]; exact c⟩
        · rintro ⟨h | rfl, h2⟩
          · exact .inl ⟨h, h2⟩
          · exact .inr rfl
      · have e0 : decide (V.int ((numC (Lk W r) u : Nat) : Int) = V.int ((numC (Lk W r) e : Nat) : Int)) = false := by
          cases q : decide (V.int ((numC (Lk W r) u : Nat) : Int) = V.int ((numC (Lk W r) e : Nat) : Int)) with
          | false => rfl
          | true => exact absurd (nl.mp q) c
        rw [e0]
        refine iteF ⟨sG, ys, gD, by omega, fun y => ?_⟩
        rw [tk, List.mem_append, ym, List.mem_singleton]
        constructor
        · exact fun h => ⟨.inl h.1, h.2⟩
        · rintro ⟨h | rfl, h2⟩
          · exact ⟨h, h2⟩
          · rw [Int.toNat_natCast] at h2; exact absurd h2 c
    · rintro G ⟨sG, ys, gD, yl, ym⟩
      rw [List.length_map, List.take_length] at ym
      have nHD : H D = none := by
        cases q : H D with
        | none => rfl
        | some u => rw [s1 _ _ q] at hD; cases hD
      exact k D ys G (s1.trans sG) nHD gD ym
def spAnr (K : PySem.W.Frag) (WC GC : Addr) : Sp := fun vs H Q _ => ∃ (g : Addr) (l : Int) (H0 : Hp) (W : Wd) (s t e : Nat) (sd b : Int), vs = [.ref g, .int (s : Nat), .int (t : Nat), .int sd, .int b, .int (e : Nat)] ∧ Gm K WC GC l H0 H g W ∧ W.In ∧ W.steps.length ≤ 76 ∧ s < W.n ∧ t < W.n ∧ e < W.n ∧
  (∃ y ∈ W.beh ((if sd = 0 then t else s : Nat) : Int) b, LkF W y.toNat e) ∧ ∀ (y : Nat) H', Same H H' → ((y : Nat) : Int) ∈ W.beh ((if sd = 0 then t else s : Nat) : Int) b → LkF W y e → Q (.int (y : Nat)) H'
theorem ok_answer {f fA : Addr} {fd fdA : FuncData} (FF : Fun K "answer" "LikenessGame.answer" s_LikenessGame_answer f fd) (T : Txt K mg C J B) (TG : TxtGa K GC) (m_LikenessGame_answers : Meth K GC "_answers" fA)
    (g_LikenessGame_answers : FnOk P w K mg base CX0 2 fA fdA a_LikenessGame__answers (spAns K WC GC)) (b_LikenessGame_answers : L2.Binds K fdA a_LikenessGame__answers []) : FnOk P w K mg base CX0 3 f fd a_LikenessGame_answer (spAnr K WC GC) := by
  refine FF.ok sc_LikenessGame_answer (fun vs H Q E h => ?_) (fun cdv A outer s0 H vs Q E hr h => ?_)
  · obtain ⟨g, l, H0, W, s, t, e, sd, b, rfl, _⟩ := h
    rfl
  · obtain ⟨g, l, H0, W, s, t, e, sd, b, rfl, gm, hin, st, hs, ht, he, ⟨y0, hy0, ly0⟩, k⟩ := h
    obtain ⟨gx, p, dx, f, ta, tb, d, ras, as, la, rs, m, ob, WE, D, mn, rest⟩ := id gm
    refine ⟨_, (pss_cons (ps_set (i := 6) sc_LikenessGame_answer.nd rfl (.inl rfl) (pe_ifExp (pt_cmpR op_eq (pv 3) pe_int (nomark _)) (pv 2) (pv 1)))
      (pss_one (ps_ret (pe_ix ix_list (pe_meth (pv 0) TG.cl m_LikenessGame_answers g_LikenessGame_answers (hr.mono (by omega)) b_LikenessGame_answers .nil pass0 (pa_cons (pe_ix ix_list (pe_fld (pv 0) rfl) (pe_un un_neg pe_int) (fun _ _ => rfl)) (pa_cons (pv 6) (pa_cons (pv 4) (pa_cons (pv 5) pa_nil))))) pe_int (fun _ _ => rfl))))), ?_⟩
    obtain ⟨a, e1, e2⟩ := D.last
    have ho : (if sd = 0 then t else s) < W.n := by split <;> assumption
    have go : ∀ (o : Nat), o = (if sd = 0 then t else s) → (∀ H' (D2 : Addr) (ys : List Int), Same H H' → IL H' D2 ys → (∀ y, y ∈ ys ↔ y ∈ W.beh (o : Nat) b ∧ Lk W m y.toNat e) → ∃ y : Nat, atI (ys.map V.int) 0 = some (.int (y : Nat)) ∧ Q (.int (y : Nat)) H') := fun o eo H' D2 ys s' gD ym => by
      subst eo
      have iny0 := hin.beh hy0
      have m0 := (ym y0).mpr ⟨hy0, (rest_full hin mn rest (by omega) he).mpr ly0⟩
      cases ys with
      | nil => cases m0
      | cons y ys =>
        obtain ⟨h1, h2⟩ := (ym y).mp List.mem_cons_self
        have iny := hin.beh h1
        obtain ⟨u, rfl⟩ := Int.eq_ofNat_of_zero_le iny.1
        rw [Int.toNat_natCast] at h2
        exact ⟨u, atI_nat (j := 0) rfl, k u H' s' h1 ((rest_full hin mn rest (by omega) he).mp h2)⟩
    refine ⟨.int sd, rfl, rfl, _, rfl, ?_⟩
    by_cases c : sd = 0
    · rw [decide_eq_true (show V.int sd = V.int 0 by rw [c])]
      refine iteT ⟨.int (t : Nat), rfl, .ref g, rfl, g, gx, _, rfl, ob, rfl, .ref g, rfl, g, GC, gx, _, .ref la, rfl, ob, TG.cl, TG.nR, rfl, 1, rfl, la, _, -1, .ref a, rfl, rfl, SqL.of D.at_, e1, .int (t : Nat), rfl, .int b, rfl, .int (e : Nat), rfl, g, a, l, H0, W, m, t, e, b, rfl, gm, hin, st, ht, he, e2, fun D2 ys H' s' nD gD ym => ?_⟩
      obtain ⟨y, h1, h2⟩ := go t (by rw [if_pos c]) H' D2 ys s' gD ym
      exact ⟨D2, _, 0, .int (y : Nat), rfl, rfl, SqL.of gD, h1, h2⟩
    · rw [decide_eq_false (show ¬ V.int sd = V.int 0 from fun z => c (V.int.inj z))]
      refine iteF ⟨.int (s : Nat), rfl, .ref g, rfl, g, gx, _, rfl, ob, rfl, .ref g, rfl, g, GC, gx, _, .ref la, rfl, ob, TG.cl, TG.nR, rfl, 1, rfl, la, _, -1, .ref a, rfl, rfl, SqL.of D.at_, e1, .int (s : Nat), rfl, .int b, rfl, .int (e : Nat), rfl, g, a, l, H0, W, m, s, e, b, rfl, gm, hin, st, hs, he, e2, fun D2 ys H' s' nD gD ym => ?_⟩
      obtain ⟨y, h1, h2⟩ := go s (by rw [if_neg c]) H' D2 ys s' gD ym
      exact ⟨D2, _, 0, .int (y : Nat), rfl, rfl, SqL.of gD, h1, h2⟩
end
end Fw

set_option maxRecDepth 100000
set_option maxHeartbeats 400000
namespace Fw
open PySem PySem.Spec PyProof.Rows L2 GxR
/-- the one side of a pair, and the other -/
def sdA (s t : Nat) (sd : Int) : Nat := if sd = 0 then s else t
def sdB (s t : Nat) (sd : Int) : Nat := if sd = 0 then t else s
/-- a step of the one side that no step of the other answers in r rounds -/
def GoodA (W : Wd) (r s t : Nat) (q : T3) : Prop := q.2.2 ∈ W.beh (sdA s t q.1 : Nat) q.2.1 ∧ ∀ z ∈ W.beh (sdB s t q.1 : Nat) q.2.1, ¬ Lk W r z.toNat q.2.2.toNat
theorem good_ex {W : Wd} {r s t : Nat} (h : Lk W r s t) (n : ¬ Lk W (r + 1) s t) : ∃ q : T3, (q.1 = 0 ∨ q.1 = 1) ∧ GoodA W r s t q := by
  refine Classical.byContradiction fun no => n ⟨h, fun l => ⟨fun y hy => ?_, fun z hz => ?_⟩⟩
  · refine Classical.byContradiction fun c => no ⟨(0, l, y), .inl rfl, hy, fun z hz q => c ⟨z, hz, q.symm⟩⟩
  · refine Classical.byContradiction fun c => no ⟨(1, l, z), .inr rfl, hz, fun y hy q => c ⟨y, hy, q⟩⟩
/-- the attacks found so far: all good, and one if any that is done is good -/
def AttI (H0 G : Hp) (D : Addr) (Good done : T3 → Prop) (cnt : Nat) : Prop := Same H0 G ∧ ∃ (as : List Addr) (ps : List T3), G D = some (.lst (as.map V.ref)) ∧ PAt G as ps ∧ (∀ q ∈ ps, (q.1 = 0 ∨ q.1 = 1) ∧ Good q) ∧ (∀ q, done q → Good q → ps ≠ []) ∧ as.length ≤ cnt
theorem AttI.mono {H0 G : Hp} {D : Addr} {Good done done' : T3 → Prop} {cnt cnt' : Nat} (h : AttI H0 G D Good done cnt) (l : cnt ≤ cnt') (d : ∀ q, done' q → Good q → done q) : AttI H0 G D Good done' cnt' := by
  obtain ⟨s, as, ps, g, p, a, b, c⟩ := h
  exact ⟨s, as, ps, g, p, a, fun q hq gq => b q (d q hq gq) gq, by omega⟩
section
variable {P : Program} {w : World} {K : PySem.W.Frag} {mg : Str → Option Value} {base : Heap} {C J B WC NC RC GC LC cA tA : Addr}
def spAtt (K : PySem.W.Frag) (WC GC : Addr) : Sp := fun vs H Q _ => ∃ (g : Addr) (l : Int) (H0 : Hp) (W : Wd) (r s t : Nat), vs = [.ref g, .int (s : Nat), .int (t : Nat)] ∧ Gm K WC GC l H0 H g W ∧ W.In ∧ W.steps.length ≤ 76 ∧ W.n ≤ 15 ∧ 0 ≤ l ∧ l ≤ 4 ∧ (∀ p ∈ W.steps, 0 ≤ p.2.1 ∧ p.2.1 < l) ∧ s < W.n ∧ t < W.n ∧ Lk W r s t ∧ ¬ Lk W (r + 1) s t ∧
  ∀ (a3 : Addr) (q : T3) H', Same H H' → (q.1 = 0 ∨ q.1 = 1) → GoodA W r s t q → H' a3 = some (.tup [.int q.1, .int q.2.1, .int q.2.2]) → Q (.ref a3) H'
theorem ok_attack {f fA : Addr} {fd fdA : FuncData} (FF : Fun K "attack" "LikenessGame.attack" s_LikenessGame_attack f fd) (T : Txt K mg C J B) (TC : TxtC K WC) (TG : TxtGa K GC) (h_first_round : Has P w K mg base "first_round" 1 a_first_round (spFstR K)) (h_followers : Has P w K mg base "followers" 1 a_followers (spFol K WC)) (m_LikenessGame_answers : Meth K GC "_answers" fA)
    (g_LikenessGame_answers : FnOk P w K mg base CX0 2 fA fdA a_LikenessGame__answers (spAns K WC GC)) (b_LikenessGame_answers : L2.Binds K fdA a_LikenessGame__answers []) : FnOk P w K mg base CX0 3 f fd a_LikenessGame_attack (spAtt K WC GC) := by
  refine FF.ok sc_LikenessGame_attack (fun vs H Q E h => ?_) (fun cdv A outer s0 H vs Q E hr h => ?_)
  · obtain ⟨g, l, H0, W, r, s, t, rfl, _⟩ := h
    rfl
  · obtain ⟨g, l, H0, W, r, s, t, rfl, gm, hin, st, n15, l0, l4, lb, hs, ht, lk, nlk, k⟩ := h
    obtain ⟨gx, p, dx, f, ta, tb, d, ras, as, la, rs, m, ob, WE, D, mn, rest⟩ := id gm
    refine ⟨_, (pss_cons (ps_set (i := 3) sc_LikenessGame_attack.nd rfl (.inr rfl) (pe_ix ix_list (pe_fld (pv 0) rfl) (pe_op op_sub (pe_callH h_first_round (hr.mono (by omega)) (pa_cons (pe_fld (pv 0) rfl) (pa_cons (pv 1) (pa_cons (pv 2) pa_nil)))) pe_int) (fun _ _ => rfl)))
      (pss_cons (ps_set (i := 4) sc_LikenessGame_attack.nd rfl (.inl rfl) (pe_lst (pa_cons (pe_tup (pa_cons pe_int (pa_cons (pv 1) (pa_cons (pv 2) pa_nil)))) (pa_cons (pe_tup (pa_cons pe_int (pa_cons (pv 2) (pa_cons (pv 1) pa_nil)))) pa_nil))))
      (pss_cons (ps_setLc3 (i := 5) (own := [("side", 6), ("state", 7), ("other", 8), ("label", 9), ("end", 10)]) (vs1 := [9, 10]) (vs2 := [10]) rfl sc_LikenessGame_attack.nd rfl rfl (sw_true rfl rfl rfl (by decide +kernel)) (pi_list (pv 4)) (blkOk_by (own := [("side", 6), ("state", 7), ("other", 8), ("label", 9), ("end", 10)]) (N := n_LikenessGame_attack) (sc := defScope s_LikenessGame_attack) (by decide +kernel)) (by decide) (by decide) (fun _ _ _ _ _ => (show PG _ _ (gTup K 3 _) from pg_tup rfl (pgs_cons (pg_name (i := 6) sc_LikenessGame_attack.nd rfl (.inl rfl)) (pgs_cons (pg_name (i := 7) sc_LikenessGame_attack.nd rfl (.inl rfl)) (pgs_cons (pg_name (i := 8) sc_LikenessGame_attack.nd rfl (.inl rfl)) pgs_nil))))) (fun _ _ _ _ _ => pts_nil) (fun _ _ _ _ _ => (pi_range1 rfl T.z_range (pa_cons (show PE _ _ (tFld K _ "labels") from pe_fld (show PE _ _ (tFld K _ "_world") from pe_fld (pv 0) rfl) rfl) pa_nil))) (fun _ _ _ _ _ => (pg_name (i := 9) sc_LikenessGame_attack.nd rfl (.inl rfl))) (fun _ _ _ _ _ => pts_nil) (fun _ _ _ _ _ => (@id (PI _ _ _ (iList K _)) (pi_list (pe_callH h_followers (hr.mono (by omega)) (pa_cons (show PE _ _ (tFld K _ "_world") from pe_fld (pv 0) rfl) (pa_cons (pv 7) (pa_cons (pv 9) pa_nil))))))) (fun _ _ _ _ _ => (pg_name (i := 10) sc_LikenessGame_attack.nd rfl (.inl rfl))) (fun _ _ _ _ _ => (pts_one (pt_not (@id (PT _ _ (tTru K _)) (pt_truth (pe_meth (pv 0) TG.cl m_LikenessGame_answers g_LikenessGame_answers (hr.mono (by omega)) b_LikenessGame_answers .nil pass0 (pa_cons (pv 3) (pa_cons (pv 8) (pa_cons (pv 9) (pa_cons (pv 10) pa_nil))))) (by intro _; rfl)))))) (fun _ _ _ _ _ => (pe_tup (pa_cons (pv 6) (pa_cons (pv 9) (pa_cons (pv 10) pa_nil))))))
      (pss_one (ps_ret (pe_ix ix_list (pv 5) pe_int (fun _ _ => rfl))))))), ?_⟩
    have nlm : ¬ Lk W m s t := fun h => nlk (by
      rcases Nat.lt_or_ge r m with c | c
      · exact Lk.pred (by omega) h
      · exact Lk.rest hin rest (by omega) hs ht h)
    refine ⟨.ref g, rfl, g, GC, gx, _, .ref la, rfl, ob, TG.cl, TG.nR, rfl, .ref g, rfl, g, GC, gx, _, .ref la, rfl, ob, TG.cl, TG.nR, rfl, .int (s : Nat), rfl, .int (t : Nat), rfl, la, rs, W, m, s, t, rfl, D, mn, n15, hs, ht, nlm, fun r1 r1m nr1 allr => ?_⟩
    have er : r1 = r + 1 := by
      rcases Nat.lt_trichotomy r1 (r + 1) with c | c | c
      · exact absurd (Lk.pred (by omega) lk) nr1
      · exact c
      · exact absurd (allr (r + 1) c) nlk
    subst er
    obtain ⟨na, hna⟩ : ∃ a, rs[r]? = some a := ⟨_, List.getElem?_eq_getElem (by rw [D.len]; omega)⟩
    have gna := D.row r na hna
    refine ⟨((r + 1 : Nat) : Int), 1, rfl, rfl, la, _, ((r + 1 : Nat) : Int) - 1, .ref na, rfl, rfl, SqL.of D.at_, by rw [show ((r + 1 : Nat) : Int) - 1 = ((r : Nat) : Int) by omega]; exact atI_nat (j := r) (by rw [List.getElem?_map, hna]; rfl), ?_⟩
    refine ⟨.int (s : Nat), rfl, .int (t : Nat), rfl, by show 3 ≤ sizeLine; decide, fun p1 hp1 => ⟨.int (t : Nat), rfl, .int (s : Nat), rfl, by show 3 ≤ sizeLine; decide, fun p2 hp2 => ⟨by show 2 ≤ sizeLine; decide, fun SL hSL => ?_⟩⟩⟩
    have s1 := Same.new (o := .tup [.int 0, .int (s : Nat), .int (t : Nat)]) hp1
    have g1 : (upd H p1 (.tup [.int 0, .int (s : Nat), .int (t : Nat)])) p1 = some (.tup [.int 0, .int (s : Nat), .int (t : Nat)]) := upd_same
    generalize upd H p1 (.tup [.int 0, .int (s : Nat), .int (t : Nat)]) = H1 at hp2 hSL s1 g1 ⊢
    have s2 := Same.new (o := .tup [.int 1, .int (t : Nat), .int (s : Nat)]) hp2
    have g2 : (upd H1 p2 (.tup [.int 1, .int (t : Nat), .int (s : Nat)])) p2 = some (.tup [.int 1, .int (t : Nat), .int (s : Nat)]) := upd_same
    generalize upd H1 p2 (.tup [.int 1, .int (t : Nat), .int (s : Nat)]) = H2 at hSL s2 g2 ⊢
    have s3 := Same.new (o := .lst [.ref p1, .ref p2]) hSL
    have g3 : (upd H2 SL (.lst [.ref p1, .ref p2])) SL = some (.lst [.ref p1, .ref p2]) := upd_same
    have s03 := (s1.trans s2).trans s3
    have g13 := s3 _ _ (s2 _ _ g1)
    have g23 := s3 _ _ g2
    generalize upd H2 SL (.lst [.ref p1, .ref p2]) = H3 at s03 g3 g13 g23 ⊢
    clear hSL s3 s2 g2 hp2 s1 g1 hp1
    have gm3 := gm.same s03
    have ob3 := s03 _ _ ob
    have WE3 := WE.same s03
    have gna3 := s03 _ _ gna
    refine ⟨.ref SL, rfl, SL, rfl, ⟨_, SqL.of g3⟩, fun DL hDL => ?_⟩
    show bLoop _ _ _ [6, 7, 8, 9, 10] _ [some (.ref g), some (.int (s : Nat)), some (.int (t : Nat)), some (.ref na), some (.ref SL), none, none, none, none, none, none] _ _
    refine bl_it walk_list (fun i G => AttI H3 G DL (GoodA W r s t) (fun q => ∃ j : Nat, j < i ∧ q.1 = (j : Nat)) (i * 304)) ⟨Same.new hDL, [], [], upd_same, PAt.nil _, (fun q h => by cases h), (fun q ⟨j, h, _⟩ _ => absurd h (Nat.not_lt_zero _)), by simp⟩ (fun i G _ q => SqL.of (q.1 _ _ g3)) ?_ ?_
    · rintro i x GX G hi At ⟨rfl, hx⟩
      have i2 : i < 2 := hi
      obtain ⟨pa, rfl, hpa⟩ : ∃ pa, x = .ref pa ∧ H3 pa = some (.tup [.int (i : Nat), .int (sdA s t (i : Nat) : Nat), .int (sdB s t (i : Nat) : Nat)]) := by
        obtain rfl | rfl : i = 0 ∨ i = 1 := by omega
        · exact ⟨p1, (Option.some.inj hx).symm, g13⟩
        · exact ⟨p2, (Option.some.inj hx).symm, g23⟩
      have hA : sdA s t ((i : Nat) : Int) < W.n := by unfold sdA; split <;> assumption
      have hB : sdB s t ((i : Nat) : Int) < W.n := by unfold sdB; split <;> assumption
      have sG := At.1
      obtain ⟨sa, ea⟩ : ∃ sa, sa = sdA s t ((i : Nat) : Int) := ⟨_, rfl⟩
      obtain ⟨sb, eb⟩ : ∃ sb, sb = sdB s t ((i : Nat) : Int) := ⟨_, rfl⟩
      obtain ⟨ii, ei⟩ : ∃ ii : Int, ii = ((i : Nat) : Int) := ⟨_, rfl⟩
      rw [← ea] at hpa hA
      rw [← eb] at hpa hB
      rw [← ei] at hpa
      have hT := SqT.of (K := K) (sG _ _ hpa)
      refine ⟨pa, _, rfl, hT, rfl, .int ii, _, rfl, .int (sa : Nat), _, rfl, .int (sb : Nat), _, rfl, rfl, ?_, ?_⟩
      · rfl
      dsimp only [tYes]
      rw [if_pos rfl]
      show bFor _ _ _ [9, 10] _ [some (.ref g), some (.int (s : Nat)), some (.int (t : Nat)), some (.ref na), some (.ref SL), none, some (.int ii), some (.int (sa : Nat)), some (.int (sb : Nat)), none, none] _ _
      refine ⟨.ref g, rfl, g, GC, gx, _, .ref p, rfl, sG _ _ ob3, TG.cl, TG.nW, rfl, p, WC, dx, _, .int l, rfl, (WE3.same sG).ob, TC.cl, TC.nL, rfl, l, rfl, by omega, by omega, ?_⟩
      refine bl_it walk_range (fun c G => AttI H3 G DL (GoodA W r s t) (fun q => (∃ j : Nat, j < i ∧ q.1 = (j : Nat)) ∨ (q.1 = (i : Nat) ∧ 0 ≤ q.2.1 ∧ q.2.1 < (c : Nat))) (i * 304 + c * 76)) (At.mono (by omega) fun q h _ => h.elim id fun h => by omega) (fun _ _ _ _ => trivial) ?_ ?_
      · clear At sG
        rintro c x GX G hc At ⟨rfl, rfl⟩
        have e0 : (fun i : Nat => V.int (0 + (i : Int))) c = V.int (c : Nat) := by show V.int _ = _; rw [Int.zero_add]
        rw [e0]
        have sG := At.1
        refine ⟨by rw [wipe_set (by decide), wipe_idem], ?_⟩
        dsimp only [tYes]
        rw [if_pos rfl]
        show bFor _ _ _ [10] _ [some (.ref g), some (.int (s : Nat)), some (.int (t : Nat)), some (.ref na), some (.ref SL), none, some (.int ii), some (.int (sa : Nat)), some (.int (sb : Nat)), some (.int (c : Nat)), none] _ _
        refine ⟨.ref g, rfl, g, GC, gx, _, .ref p, rfl, sG _ _ ob3, TG.cl, TG.nW, rfl, .int (sa : Nat), rfl, .int (c : Nat), rfl, H0, p, dx, l, f, ta, tb, d, ras, as, W.facts, W.steps, ((sa : Nat) : Int), ((c : Nat) : Int), rfl, WE3.same sG, fun fa G5 s5 nfa gfa => ⟨fa, rfl, ⟨_, SqL.of gfa⟩, ?_⟩⟩
        have gfa : IL G5 fa (W.beh ((sa : Nat) : Int) ((c : Nat) : Int)) := gfa
        have bl := beh_len W ((sa : Nat) : Int) ((c : Nat) : Int)
        have s35 := sG.trans s5
        have At5 : AttI H3 G5 DL (GoodA W r s t) (fun q => (∃ j : Nat, j < i ∧ q.1 = (j : Nat)) ∨ (q.1 = (i : Nat) ∧ 0 ≤ q.2.1 ∧ q.2.1 < (c : Nat))) (i * 304 + c * 76) := by
          obtain ⟨_, as', ps, gD, pat, all, some_, ln⟩ := At
          exact ⟨s35, as', ps, s5 _ _ gD, pat.same s5, all, some_, ln⟩
        refine bl_it (walk_list (xs := (W.beh ((sa : Nat) : Int) ((c : Nat) : Int)).map V.int)) (fun j G' => IL G' fa (W.beh ((sa : Nat) : Int) ((c : Nat) : Int)) ∧ AttI H3 G' DL (GoodA W r s t) (fun q => ((∃ j : Nat, j < i ∧ q.1 = (j : Nat)) ∨ (q.1 = (i : Nat) ∧ 0 ≤ q.2.1 ∧ q.2.1 < (c : Nat))) ∨ (q.1 = (i : Nat) ∧ q.2.1 = (c : Nat) ∧ q.2.2 ∈ (W.beh ((sa : Nat) : Int) ((c : Nat) : Int)).take j)) (i * 304 + c * 76 + j))
          ⟨gfa, At5.mono (by omega) fun q h _ => h.elim id fun h => by simp at h⟩ (fun j G' _ q => SqL.of q.1) ?_ ?_
        · clear At5
          have nfD : fa ≠ DL := by
            obtain ⟨_, as', ps, gD, _⟩ := At
            exact (ne_of_none gD nfa).symm
          clear At
          rintro j x GY G' hj ⟨gfa', At⟩ ⟨rfl, hx⟩
          obtain ⟨y, hy, rfl⟩ : ∃ y, (W.beh ((sa : Nat) : Int) ((c : Nat) : Int))[j]? = some y ∧ V.int y = x := by
            rw [List.getElem?_map] at hx
            cases e : (W.beh ((sa : Nat) : Int) ((c : Nat) : Int))[j]? with
            | none => rw [e] at hx; cases hx
            | some y => rw [e] at hx; exact ⟨y, rfl, Option.some.inj hx⟩
          have my := List.mem_of_getElem? hy
          have iny := hin.beh my
          obtain ⟨u, rfl⟩ := Int.eq_ofNat_of_zero_le iny.1
          have hu : u < W.n := by omega
          have jl := get_len hy
          have sG' := At.1
          have gm' := gm3.same sG'
          refine ⟨by rw [wipe_set (by decide), wipe_idem], ?_⟩
          refine ⟨.ref g, rfl, g, gx, _, rfl, sG' _ _ ob3, rfl, .ref na, rfl, .int (sb : Nat), rfl, .int (c : Nat), rfl, .int ((u : Nat) : Int), rfl, g, na, l, H0, W, r, sb, u, ((c : Nat) : Int), rfl, gm', hin, st, hB, hu, sG' _ _ gna3, fun D2 ys G7 s6 nD2 gD2 ym => ?_⟩
          have gfa7 := s6 _ _ gfa'
          have At7 : AttI H3 G7 DL (GoodA W r s t) (fun q => ((∃ j : Nat, j < i ∧ q.1 = (j : Nat)) ∨ (q.1 = (i : Nat) ∧ 0 ≤ q.2.1 ∧ q.2.1 < (c : Nat))) ∨ (q.1 = (i : Nat) ∧ q.2.1 = (c : Nat) ∧ q.2.2 ∈ (W.beh ((sa : Nat) : Int) ((c : Nat) : Int)).take j)) (i * 304 + c * 76 + j) := by
            obtain ⟨_, as', ps, gD, pat, all, some_, ln⟩ := At
            exact ⟨sG'.trans s6, as', ps, s6 _ _ gD, pat.same s6, all, some_, ln⟩
          have tk : (W.beh ((sa : Nat) : Int) ((c : Nat) : Int)).take (j + 1) = (W.beh ((sa : Nat) : Int) ((c : Nat) : Int)).take j ++ [((u : Nat) : Int)] := by rw [List.take_add_one, hy]; rfl
          refine ⟨!ys.isEmpty, .inl ⟨_, SqL.of gD2, by cases ys <;> rfl⟩, ?_⟩
          cases ys with
          | nil =>
            refine (if_pos (by rfl)).mpr ?_
            obtain ⟨sG7, as', ps, gD, pat, all, some_, ln⟩ := At7
            refine ⟨.int ii, rfl, .int ((c : Nat) : Int), rfl, .int ((u : Nat) : Int), rfl, by show 3 ≤ sizeLine; decide, fun te hte => ?_⟩
            have s8 := Same.new (o := .tup [V.int ii, V.int ((c : Nat) : Int), V.int ((u : Nat) : Int)]) hte
            have gte : (upd G7 te (.tup [V.int ii, V.int ((c : Nat) : Int), V.int ((u : Nat) : Int)])) te = some (.tup [V.int ii, V.int ((c : Nat) : Int), V.int ((u : Nat) : Int)]) := upd_same
            generalize upd G7 te (.tup [V.int ii, V.int ((c : Nat) : Int), V.int ((u : Nat) : Int)]) = G8 at s8 gte
            have gD8 := s8 _ _ gD
            have pat8 := pat.same s8
            have gq : GoodA W r s t (((i : Nat) : Int), ((c : Nat) : Int), ((u : Nat) : Int)) := by
              refine ⟨?_, fun z hz q => ?_⟩
              · show ((u : Nat) : Int) ∈ W.beh ((sdA s t ((i : Nat) : Int) : Nat) : Int) ((c : Nat) : Int)
                rw [← ea]
                exact my
              · have hz' : z ∈ W.beh ((sb : Nat) : Int) ((c : Nat) : Int) := by rw [eb]; exact hz
                have := (ym z).mpr ⟨hz', q⟩
                cases this
            have i01 : ((i : Nat) : Int) = 0 ∨ ((i : Nat) : Int) = 1 := by omega
            refine ⟨_, gD8, by rw [List.length_map]; exact small1000 (by have : l.toNat ≤ 4 := by omega
                                                                         have : c * 76 ≤ 3 * 76 := Nat.mul_le_mul_right 76 (by omega)
                                                                         have : i * 304 ≤ 1 * 304 := Nat.mul_le_mul_right 304 (by omega)
                                                                         omega), ?_⟩
            refine ⟨by show upd _ _ _ fa = _; rw [upd_ne nfD]; exact s8 _ _ gfa7, fun b o z => by rw [upd_ne (ne_of_none z hDL)]; exact s8 _ _ (sG7 b o z), as' ++ [te], ps ++ [(((i : Nat) : Int), ((c : Nat) : Int), ((u : Nat) : Int))], by rw [upd_same, List.map_append]; rfl, ?_, fun q hq => ?_, fun q _ _ e => by simp at e, by rw [List.length_append, List.length_singleton]; omega⟩
            · refine PAt.snoc ⟨pat8.1, fun i a p e1 e2 => ?_⟩ ?_
              · rw [upd_ne (ne_of (pat8.2 i a p e1 e2) gD8 (by intro z; cases z))]
                exact pat8.2 i a p e1 e2
              · show upd _ _ _ te = _
                rw [upd_ne (ne_of gte gD8 (by intro z; cases z)), gte, ei]
            · rcases List.mem_append.mp hq with h | h
              · exact all q h
              · rw [List.mem_singleton.mp h]
                exact ⟨i01, gq⟩
          | cons y0 ys =>
            refine (if_neg (by simp)).mpr ?_
            refine ⟨gfa7, At7.mono (by omega) fun q h gq => ?_⟩
            rcases h with h | ⟨h1, h2, h3⟩
            · exact .inl h
            · rw [tk, List.mem_append, List.mem_singleton] at h3
              rcases h3 with h3 | h3
              · exact .inr ⟨h1, h2, h3⟩
              · obtain ⟨m1, m2⟩ := (ym y0).mp List.mem_cons_self
                have := gq.2 y0 (by rw [h1, h2, ← eb]; exact m1)
                rw [h3, Int.toNat_natCast] at this
                exact absurd m2 this
        · rintro G' ⟨_, At⟩
          rw [List.length_map, List.take_length] at At
          refine At.mono (by have : (c + 1) * 76 = c * 76 + 76 := by omega
                             omega) fun q h gq => ?_
          rcases h with h | ⟨h1, h2, h3⟩
          · exact .inl (.inl h)
          · by_cases e : q.2.1 = (c : Nat)
            · refine .inr ⟨h1, e, ?_⟩
              have := gq.1
              rw [h1, e, ← ea] at this
              exact this
            · exact .inl (.inr ⟨h1, h2, by omega⟩)
      · rintro G6 At6
        refine At6.mono (by have : l.toNat ≤ 4 := by omega
                            have := Nat.mul_le_mul_right 76 this
                            omega) fun q ⟨j, h1, h2⟩ gq => ?_
        rcases Nat.lt_or_ge j i with h | h
        · exact .inl ⟨j, h, h2⟩
        · have ij : j = i := by omega
          subst ij
          have q2 := lb _ (hin.beh gq.1).2.2
          simp only at q2
          exact .inr ⟨h2, by omega, by omega⟩
    · rintro G ⟨sG, as', ps, gD, pat, all, some_, ln⟩
      obtain ⟨q0, side, gq⟩ := good_ex lk nlk
      have ne : ps ≠ [] := some_ q0 (by
        rcases side with h | h
        · exact ⟨0, by show 0 < 2; omega, h⟩
        · exact ⟨1, by show 1 < 2; omega, h⟩) gq
      cases ps with
      | nil => exact absurd rfl ne
      | cons q ps =>
        cases as' with
        | nil => have := pat.1; cases this
        | cons a0 as' =>
          have g0 := pat.2 0 a0 q rfl rfl
          have gq' := (all q List.mem_cons_self).2
          refine ⟨.ref DL, rfl, DL, _, 0, .ref a0, rfl, rfl, SqL.of gD, atI_nat (j := 0) rfl, ?_⟩
          exact k a0 q G (s03.trans sG) (all q List.mem_cons_self).1 gq' g0
end
end Fw

set_option maxRecDepth 100000
set_option maxHeartbeats 800000
namespace Fw
open PySem PySem.Spec PyProof.Rows L2 GxR
theorem WoE.butG {K : PySem.W.Frag} {WC : Addr} {H0 H H' : Hp} {p dx : Addr} {l f : Int} {ta tb d : Addr} {ras as : List Addr} {Xs : List (List Int)} {ss : List T3} {g GC gx : Addr} {fs : List (Str × V)} (W : WoE K WC H0 H p dx l f ta tb d ras as Xs ss)
    (ne : (HO.ins WC dx (wf l f ta tb ++ ([("_ends", V.ref d)] : List (Str × V)))) ≠ .ins GC gx fs) (hg : H g = some (.ins GC gx fs)) (b : But g H H') : WoE K WC H0 H' p dx l f ta tb d ras as Xs ss :=
  ⟨b _ _ (ne_of W.ob hg ne) W.ob, SqT.butO hg b W.st, W.rw.butO hg b, SqT.butO hg b W.sp, W.tr.butO hg b, W.en.butO hg b⟩
section
variable {P : Program} {w : World} {K : PySem.W.Frag} {mg : Str → Option Value} {base : Heap} {C J B WC NC RC GC LC cA tA : Addr} {t1 t2 t3 t12 : Tok}
def spGIn (K : PySem.W.Frag) (WC GC LC : Addr) : Sp := fun vs H Q E => ∃ (g gx p dx : Addr) (l f : Int) (ta tb d : Addr) (ras as : List Addr) (H0 : Hp) (W : Wd), vs = [.ref g, .ref p] ∧ H g = some (.ins GC gx []) ∧ WoE K WC H0 H p dx l f ta tb d ras as W.facts W.steps ∧ RTp H ras W.facts ∧
  (W.n ≤ 12 → WdOk W ∧ ∀ H', But g H H' → Gm K WC GC l H0 H' g W → Q .non H') ∧ (12 < W.n → ∀ H', E (.ref LC) none H')
theorem ok_Game_init {f : Addr} {fd : FuncData} (FF : Fun K "__init__" "LikenessGame.__init__" s_LikenessGame_init f fd) (T : Txt K mg C J B) (TC : TxtC K WC) (TG : TxtGa K GC) (TL : TxtTL K mg LC) (mS : mg "MOST_STATES_likegames" = some (.int 12 t12)) (h_all_rounds : Has P w K mg base "all_rounds" 6 a_all_rounds (spAllR K WC)) :
    FnOk P w K mg base (L2.CX P w) 7 f fd a_LikenessGame_init (spGIn K WC GC LC) := by
  refine FF.okX sc_LikenessGame_init (fun vs H Q E h => ?_) (fun cdv A outer s0 H vs Q E hr h => ?_)
  · obtain ⟨g, gx, p, dx, l, f, ta, tb, d, ras, as, H0, W, rfl, _⟩ := h
    rfl
  · obtain ⟨g, gx, p, dx, l, f, ta, tb, d, ras, as, H0, W, rfl, hg, WE, rt, k1, k2⟩ := h
    refine ⟨_, (pss_cons (ps_if (pt_cmpR op_gt (pe_callB call_len_seq rfl T.z_len (by decide +kernel) (pa_cons (pe_fld (pv 1) rfl) pa_nil)) (pe_glob rfl mS (show RelV (.int 12) _ from ⟨_, rfl⟩)) (nomark _)) (pss_one (ps_raise rfl (takes_of rfl rfl rfl rfl) (pmk_own PySem.F.excBase_ValueError TL.xC TL.gC TL.kC (raises_own TL.bC TL.tC) (by exact rfl)))) pss_nil)
      (PSs.nox (pss_cons (ps_fld (pv 0) (pv 1) rfl)
      (pss_one (ps_fld (pv 0) (pe_callH h_all_rounds (hr.mono (by omega)) (pa_cons (pv 1) pa_nil)) rfl))))), ?_⟩
    refine ⟨.ref p, rfl, p, WC, dx, _, .ref ta, rfl, WE.ob, TC.cl, TC.nS, rfl, ta, ras.map V.ref, rfl, .inr WE.st, ?_⟩
    rw [List.length_map, rt.1]
    refine ⟨((W.facts.length : Nat) : Int), 12, rfl, rfl, _, rfl, ?_⟩
    by_cases c : 12 < W.n
    · rw [decide_eq_true (show (12 : Int) < ((W.facts.length : Nat) : Int) by have : 12 < W.facts.length := c; omega)]
      exact iteT (k2 c _)
    · rw [decide_eq_false (show ¬ (12 : Int) < ((W.facts.length : Nat) : Int) by have : ¬ 12 < W.facts.length := c; omega)]
      refine iteF ?_
      obtain ⟨wok, k1⟩ := k1 (by omega)
      refine ⟨.ref p, rfl, .ref g, rfl, g, GC, gx, [], rfl, hg, TG.cl, TG.nW, by show 0 < 1000; decide, ?_⟩
      have b1 : But g H (upd H g (.ins GC gx (putF "_world" (V.ref p) []))) := But.upd
      have g1 : (upd H g (.ins GC gx (putF "_world" (V.ref p) []))) g = some (.ins GC gx [("_world", .ref p)]) := by rw [upd_same]; rfl
      generalize upd H g (.ins GC gx (putF "_world" (V.ref p) [])) = H1 at b1 g1
      have WE1 := WE.butG (by intro z; cases z) hg b1
      refine ⟨.ref p, rfl, p, dx, l, f, ta, tb, d, ras, as, H0, W, rfl, WE1, rt.map fun a ys e => b1 _ _ (ne_of e hg (by intro z; cases z)) e, wok, fun la rs m H2 s2 mn rest D => ?_⟩
      have g2 := s2 _ _ g1
      have WE2 := WE1.same s2
      refine ⟨.ref g, rfl, g, GC, gx, _, rfl, g2, TG.cl, TG.nR, by show 1 < 1000; decide, ?_⟩
      have b3 : But g H2 (upd H2 g (.ins GC gx (putF "_rounds" (V.ref la) [("_world", .ref p)]))) := But.upd
      have g3 : (upd H2 g (.ins GC gx (putF "_rounds" (V.ref la) [("_world", .ref p)]))) g = some (.ins GC gx [("_world", .ref p), ("_rounds", .ref la)]) := by rw [upd_same]; rfl
      generalize upd H2 g (.ins GC gx (putF "_rounds" (V.ref la) [("_world", .ref p)])) = H3 at b3 g3
      have b : But g H H3 := (b1.trans (Same.but s2)).trans b3
      exact k1 H3 b ⟨gx, p, dx, f, ta, tb, d, ras, as, la, rs, m, g3, WE2.butG (by intro z; cases z) g2 b3, D.but g2 b3, mn, rest⟩
def spLOut (K : PySem.W.Frag) (WC GC : Addr) : Sp := fun vs H Q _ => ∃ (p dx : Addr) (l f : Int) (ta tb d : Addr) (ras as : List Addr) (H0 : Hp) (W : Wd), vs = [.ref p] ∧ WoE K WC H0 H p dx l f ta tb d ras as W.facts W.steps ∧ RTp H ras W.facts ∧
  (W.n ≤ 12 → WdOk W ∧ ∀ g H', Same H H' → Gm K WC GC l H0 H' g W → Q (.ref g) H') ∧ (12 < W.n → ∀ H', Q .non H')
theorem ok_law_outcome {f : Addr} {fd : FuncData} (FF : Fun K "_law_outcome" "_law_outcome" s_law_outcome f fd) (T : Txt K mg C J B) (TL : TxtTL K mg LC) (h_LikenessGame : HasCX P w K mg base "LikenessGame" GC 7 a_LikenessGame_init (spGIn K WC GC LC)) : FnOk P w K mg base CX0 9 f fd a_law_outcome (spLOut K WC GC) := by
  refine FF.ok sc_law_outcome (fun vs H Q E h => ?_) (fun cdv A outer s0 H vs Q E hr h => ?_)
  · obtain ⟨p, dx, l, f, ta, tb, d, ras, as, H0, W, rfl, _⟩ := h
    rfl
  · obtain ⟨p, dx, l, f, ta, tb, d, ras, as, H0, W, rfl, WE, rt, k1, k2⟩ := h
    refine ⟨_, (pss_one (ps_try_only rfl rfl ⟨rfl, by decide, .inl TL.gC⟩ takes0 (fun W pn xe tk _ => (pss_one (ps_ret (pe_makeX h_LikenessGame (hr.mono (by omega)) tk (pa_cons (pv 0) pa_nil))))) (fun a oe cls d pn _ _ => (pss_one (ps_ret pe_non))))), ?_⟩
    refine ⟨.ref p, rfl, fun x gx hx hgx ne => ?_⟩
    have s1 : Same H (upd (upd H gx (.own x)) x (.ins GC gx [])) := fun b o e => by rw [upd_ne (ne_of_none e hx), upd_ne (ne_of_none e hgx)]; exact e
    refine ⟨x, gx, p, dx, l, f, ta, tb, d, ras, as, H0, W, rfl, upd_same, WE.same s1, rt.map fun b ys e => s1 _ _ e, fun n12 => ⟨(k1 n12).1, fun H' b gm => ⟨rfl, ?_⟩⟩, fun n13 H' => ?_⟩
    · exact (k1 n12).2 x H' (fun b' o e => b _ _ (ne_of_none e hx) (s1 _ _ e)) gm
    · exact ⟨true, TL.eC, fun _ a0 _ => k2 n13 _, fun q => Bool.noConfusion q⟩
end
end Fw

set_option maxRecDepth 100000
set_option maxHeartbeats 800000
namespace Fw
open PySem PySem.Spec PyProof.Rows L2 GxR
theorem WoE.butD {K : PySem.W.Frag} {WC : Addr} {H0 H H' : Hp} {p dx d0 : Addr} {l f : Int} {ta tb d : Addr} {ras as : List Addr} {Xs : List (List Int)} {ss : List T3} (h0 : H0 d0 ≠ none) (dr : Draws H d0) (z : But d0 H H') (h : WoE K WC H0 H p dx l f ta tb d ras as Xs ss) : WoE K WC H0 H' p dx l f ta tb d ras as Xs ss := by
  have lst := dr.lst
  obtain ⟨ds, q⟩ := id dr
  exact ⟨z _ _ (ne_of h.ob q (by intro z; cases z)) h.ob, SqT.but lst z h.st, ⟨h.rw.1, fun i a X e1 e2 => SqT.but lst z (h.rw.2 i a X e1 e2)⟩, SqT.but lst z h.sp, h.tr.butD dr z,
    h.en.map (fun kvs e => z _ _ (ne_of e q (by intro z; cases z)) e) fun a xs n e => z _ _ (fun e2 => h0 (by rw [← e2]; exact n)) e⟩
theorem rows_eqv (xs ys : List Int) : PyData.eqv (.list (xs.map PyData.int)) (.list (ys.map PyData.int)) = decide (xs = ys) := by
  have : ∀ xs ys : List Int, PyData.eqvAll (xs.map PyData.int) (ys.map PyData.int) = decide (xs = ys) := fun xs => by
    induction xs with
    | nil => intro ys; cases ys <;> simp [PyData.eqvAll]
    | cons x xs ih =>
      intro ys
      cases ys with
      | nil => simp [PyData.eqvAll]
      | cons y ys =>
        rw [List.map_cons, List.map_cons]
        simp only [PyData.eqvAll, ih, PyData.eqv]
        by_cases h1 : x = y <;> by_cases h2 : xs = ys <;> simp [h1, h2]
  simp only [PyData.eqv, this]
theorem intsV_refs {ns : List Int} {as : List Addr} (e : as.map V.ref = ns.map V.int) : as = [] := by
  cases as with
  | nil => rfl
  | cons a as =>
    cases ns with
    | nil => cases e
    | cons m ms =>
      injection e with h _
      cases h
theorem Rds.butD {H H' : Hp} {d la : Addr} {as : List Addr} {W : Wd} {m : Nat} (dr : Draws H d) (b : But d H H') (D : Rds H la as W m) : Rds H' la as W m := by
  obtain ⟨ds, q⟩ := dr
  refine ⟨b _ _ (ne_of D.at_ q fun z => ?_) D.at_, D.len, fun r a e => b _ _ (ne_of (D.row r a e) q (by intro z; cases z)) (D.row r a e)⟩
  have := D.len
  rw [intsV_refs (HO.lst.inj z)] at this
  cases this
theorem Gm.butD {K : PySem.W.Frag} {WC GC : Addr} {l : Int} {H0 H H' : Hp} {g d : Addr} {W : Wd} (h0 : H0 d ≠ none) (dr : Draws H d) (b : But d H H') (h : Gm K WC GC l H0 H g W) : Gm K WC GC l H0 H' g W := by
  obtain ⟨gx, p, dx, f, ta, tb, dd, ras, as, la, rs, m, h1, h2, h3, h4⟩ := h
  exact ⟨gx, p, dx, f, ta, tb, dd, ras, as, la, rs, m, b _ _ (by obtain ⟨ds, q⟩ := dr; exact ne_of h1 q (by intro z; cases z)) h1, h2.butD h0 dr b, h3.butD dr b, h4⟩
/-- not alike to the last: parted within as many rounds as there are states -/
theorem part_n {W : Wd} (hin : W.In) {m : Nat} (mn : m < W.n) (rest : RestAt W m) {s t : Nat} (hs : s < W.n) (ht : t < W.n) (h : ¬ LkF W s t) : ¬ Lk W W.n s t := fun q => h ((rest_full hin mn rest hs ht).mp (Lk.pred (by omega) q))
theorem first_part {W : Wd} {s t q : Nat} (h : ¬ Lk W q s t) (h0 : Lk W 0 s t) : ∃ r, r < q ∧ Lk W r s t ∧ ¬ Lk W (r + 1) s t := by
  induction q with
  | zero => exact absurd h0 h
  | succ q ih =>
    by_cases c : Lk W q s t
    · exact ⟨q, Nat.lt_succ_self q, c, h⟩
    · obtain ⟨r, h1, h2⟩ := ih c
      exact ⟨r, by omega, h2⟩
theorem pickA {s t : Nat} {sd : Int} (h : sd = 0 ∨ sd = 1) : atI [V.int ((s : Nat) : Int), V.int ((t : Nat) : Int)] sd = some (.int ((sdA s t sd : Nat) : Int)) := by
  rcases h with h | h <;> subst h <;> rfl
theorem pickB {s t : Nat} {sd : Int} (h : sd = 0 ∨ sd = 1) : atI [V.int ((s : Nat) : Int), V.int ((t : Nat) : Int)] (1 - sd) = some (.int ((sdB s t sd : Nat) : Int)) := by
  rcases h with h | h <;> subst h <;> rfl
section
variable {P : Program} {w : World} {K : PySem.W.Frag} {mg : Str → Option Value} {base : Heap} {C J B WC NC RC GC LC cA tA : Addr} {t1 t2 t3 t12 : Tok}
def spAttd (K : PySem.W.Frag) (WC GC : Addr) : Sp := fun vs H Q _ => ∃ (d wa sa pa g : Addr) (fas pas : List Addr) (l : Int) (H0 : Hp) (W : Wd) (s t : Nat), vs = [.ref d, .ref wa, .ref g, .int (s : Nat), .int (t : Nat)] ∧ Draws H d ∧ WAx H wa sa pa fas pas W ∧ sa ≠ d ∧ pa ≠ d ∧ (∀ a ∈ fas, a ≠ d) ∧ Gm K WC GC l H0 H g W ∧ H0 d ≠ none ∧
  W.In ∧ W.steps.length ≤ 76 ∧ W.n ≤ 15 ∧ 0 ≤ l ∧ l ≤ 4 ∧ (∀ p ∈ W.steps, 0 ≤ p.2.1 ∧ p.2.1 < l) ∧ s < W.n ∧ t < W.n ∧ ¬ LkF W s t ∧ ∀ H', But d H H' → Draws H' d → Q (.bl true) H'
theorem ok_law_attacked {f fA : Addr} {fd fdA : FuncData} (FF : Fun K "_law_attacked" "_law_attacked" s_law_attacked f fd) (T : Txt K mg C J B) (TG : TxtGa K GC) (h_law_take : Has P w K mg base "_law_take" 1 a_law_take spTake) (h_law_behind : Has P w K mg base "_law_behind" 1 a_law_behind (spBehind K)) (m_LikenessGame_attack : Meth K GC "attack" fA)
    (g_LikenessGame_attack : FnOk P w K mg base CX0 3 fA fdA a_LikenessGame_attack (spAtt K WC GC)) (b_LikenessGame_attack : L2.Binds K fdA a_LikenessGame_attack []) : FnOk P w K mg base CX0 4 f fd a_law_attacked (spAttd K WC GC) := by
  refine FF.ok sc_law_attacked (fun vs H Q E h => ?_) (fun cdv A outer s0 H vs Q E hr h => ?_)
  · obtain ⟨d, wa, sa, pa, g, fas, pas, l, H0, W, s, t, rfl, _⟩ := h
    rfl
  · obtain ⟨d, wa, sa, pa, g, fas, pas, l, H0, W, s, t, rfl, dr, X, nsd, npd, nfd, gm, h0d, hin, st, n15, l0, l4, lb, hs, ht, nl, k⟩ := h
    refine ⟨_, (pss_cons (ps_for PassesOwn.never rfl (pi_range1 rfl T.z_range (pa_cons (pe_op op_add (pe_callB call_len_seq rfl T.z_len (by decide +kernel) (pa_cons (pe_ix ix_tup (pv 1) pe_int (fun _ _ => rfl)) pa_nil)) pe_int) pa_nil)) (pg_name (i := 5) sc_law_attacked.nd rfl (.inl rfl)) (pss_cons (ps_if (pt_cmpR (op_neD hr.units) (pe_ix ix_seq (pe_ix ix_tup (pv 1) pe_int (fun _ _ => rfl)) (pv 3) (fun _ _ => rfl)) (pe_ix ix_seq (pe_ix ix_tup (pv 1) pe_int (fun _ _ => rfl)) (pv 4) (fun _ _ => rfl)) (nomark _)) (pss_one (ps_ret pe_bl)) pss_nil)
      (pss_cons (ps_set (i := 6) sc_law_attacked.nd rfl (.inl rfl) (pe_meth (pv 2) TG.cl m_LikenessGame_attack g_LikenessGame_attack (hr.mono (by omega)) b_LikenessGame_attack .nil pass0 (pa_cons (pv 3) (pa_cons (pv 4) pa_nil))))
      (pss_cons (ps_if (PW.pt (pw_or (pt_not (pt_val (pe_callB call_isi rfl T.z_isinstance (by decide +kernel) (pa_cons (pv 6) (pa_cons (pe_bltn (v := .ty "tuple") (u := .type "tuple") rfl T.z_tuple (by decide +kernel) rfl) pa_nil))))) (pw_or (pt_cmpR op_ne (pe_callB call_len_seq rfl T.z_len (by decide +kernel) (pa_cons (pv 6) pa_nil)) pe_int (nomark _)) (pw_or1 (pt_cmpR op_notIn_seq (pe_ix ix_tup (pv 6) pe_int (fun _ _ => rfl)) (pe_tup (pa_cons pe_int (pa_cons pe_int pa_nil))) (by rfl)))))) (pss_one (ps_ret pe_bl)) pss_nil)
      (pss_cons (ps_asg (pv 6) (pg_tup rfl (pgs_cons (pg_name (i := 7) sc_law_attacked.nd rfl (.inl rfl)) (pgs_cons (pg_name (i := 8) sc_law_attacked.nd rfl (.inl rfl)) (pgs_cons (pg_name (i := 9) sc_law_attacked.nd rfl (.inl rfl)) pgs_nil)))))
      (pss_cons (ps_set (i := 10) sc_law_attacked.nd rfl (.inl rfl) (pe_ix ix_list (pe_lst (pa_cons (pv 3) (pa_cons (pv 4) pa_nil))) (pv 7) (fun _ _ => rfl)))
      (pss_cons (ps_set (i := 11) sc_law_attacked.nd rfl (.inl rfl) (pe_ix ix_list (pe_lst (pa_cons (pv 3) (pa_cons (pv 4) pa_nil))) (pe_op op_sub pe_int (pv 7)) (fun _ _ => rfl)))
      (pss_cons (ps_if (pt_cmpR op_notIn_seq (pv 9) (pe_callH h_law_behind (hr.mono (by omega)) (pa_cons (pv 1) (pa_cons (pv 10) (pa_cons (pv 8) pa_nil)))) (by rfl)) (pss_one (ps_ret pe_bl)) pss_nil)
      (pss_cons (ps_set (i := 12) sc_law_attacked.nd rfl (.inl rfl) (pe_callH h_law_behind (hr.mono (by omega)) (pa_cons (pv 1) (pa_cons (pv 11) (pa_cons (pv 8) pa_nil)))))
      (pss_cons (ps_if (pt_cmpR op_eq (pe_callB call_len_seq rfl T.z_len (by decide +kernel) (pa_cons (pv 12) pa_nil)) pe_int (nomark _)) (pss_one (ps_ret pe_bl)) pss_nil)
      (pss_cons (ps_set (i := 13) sc_law_attacked.nd rfl (.inl rfl) (pe_ix ix_list (pv 12) (pe_callH h_law_take (hr.mono (by omega)) (pa_cons (pv 0) (pa_cons (pe_callB call_len_seq rfl T.z_len (by decide +kernel) (pa_cons (pv 12) pa_nil)) pa_nil))) (fun _ _ => rfl)))
      (pss_cons (ps_set (i := 3) sc_law_attacked.nd rfl (.inl rfl) (pe_ix ix_list (pe_lst (pa_cons (pv 9) (pa_cons (pv 13) pa_nil))) (pv 7) (fun _ _ => rfl)))
      (pss_one (ps_set (i := 4) sc_law_attacked.nd rfl (.inl rfl) (pe_ix ix_list (pe_lst (pa_cons (pv 13) (pa_cons (pv 9) pa_nil))) (pv 7) (fun _ _ => rfl))))))))))))))))
      (pss_one (ps_ret pe_bl))), ?_⟩
    have nln : ¬ Lk W W.n s t := by
      obtain ⟨gx, p, dx, f, ta, tb, dd, ras, as, la, rs, m, h1, h2, h3, mn, rest⟩ := id gm
      exact part_n hin mn rest hs ht nl
    refine ⟨.ref wa, rfl, wa, _, _, .ref sa, rfl, rfl, SqT.of X.w, rfl, sa, _, rfl, .inl (SqL.of X.s), (W.n : Nat), 1, by rw [List.length_map, X.f.1]; rfl, rfl, _, rfl, by omega, by omega, ?_⟩
    rw [show (((W.n : Nat) : Int) + 1).toNat = W.n + 1 by omega]
    refine for_range (lo := 0) (n := W.n + 1) (fun i σ G => ∃ (s t q : Nat) (y5 y6 y7 y8 y9 y10 y11 y12 y13 : Option V), σ = [some (.ref d), some (.ref wa), some (.ref g), some (.int (s : Nat)), some (.int (t : Nat)), y5, y6, y7, y8, y9, y10, y11, y12, y13] ∧ But d H G ∧ Draws G d ∧ WAx G wa sa pa fas pas W ∧ Gm K WC GC l H0 G g W ∧ s < W.n ∧ t < W.n ∧ q + i ≤ W.n ∧ ¬ Lk W q s t)
      ⟨s, t, W.n, none, none, none, none, none, none, none, none, none, rfl, But.refl _ _, dr, X, gm, hs, ht, by omega, nln⟩ ?_ ?_
    · clear dr X gm hs ht nl nln s t
      rintro i σ G hi ⟨s, t, q, y5, y6, y7, y8, y9, y10, y11, y12, y13, rfl, bG, dr, X, gm, hs, ht, qi, nl⟩
      have row : ∀ {u : Nat}, u < W.n → ∃ fa, fas[u]? = some fa ∧ IL G fa (W.at ((u : Nat) : Int)) := fun {u} hu => by
        have h1 := List.getElem?_eq_getElem (show u < fas.length by rw [X.f.1]; exact hu)
        refine ⟨_, h1, X.f.2 u _ _ h1 ?_⟩
        unfold Wd.at
        rw [Int.toNat_natCast, List.getElem?_eq_getElem hu]
        rfl
      obtain ⟨fa, ha, ga⟩ := row hs
      obtain ⟨fb, hb, gb⟩ := row ht
      refine ⟨.ref wa, rfl, wa, _, _, .ref sa, rfl, rfl, SqT.of X.w, rfl, .int (s : Nat), rfl, .inl ⟨sa, _, _, .ref fa, rfl, rfl, SqL.of X.s, atI_nat (j := s) (by rw [List.getElem?_map, ha]; rfl), .ref wa, rfl, wa, _, _, .ref sa, rfl, rfl, SqT.of X.w, rfl, .int (t : Nat), rfl, .inl ⟨sa, _, _, .ref fb, rfl, rfl, SqL.of X.s, atI_nat (j := t) (by rw [List.getElem?_map, hb]; rfl), _, _, .lst (SqL.of ga) (dp_ints _), .lst (SqL.of gb) (dp_ints _), ints_shaped _, ints_shaped _, _, rfl, ?_⟩⟩⟩
      rw [rows_eqv]
      by_cases c : W.at ((s : Nat) : Int) = W.at ((t : Nat) : Int)
      · rw [decide_eq_true c]
        refine iteF ?_
        obtain ⟨r, rq, lk, nlk⟩ := first_part nl c
        obtain ⟨gx, p, dx, f2, ta, tb, dd, ras, as, la, rs, m, ob, _⟩ := id gm
        refine ⟨.ref g, rfl, g, gx, _, rfl, ob, rfl, .int (s : Nat), rfl, .int (t : Nat), rfl, g, l, H0, W, r, s, t, rfl, gm, hin, st, n15, l0, l4, lb, hs, ht, lk, nlk, fun a3 q3 G1 s1 side gq ga3 => ?_⟩
        obtain ⟨sd, b, e⟩ := q3
        simp only at side ga3
        have X1 := X.same s1
        have gm1 := gm.same s1
        have dr1 := dr.same s1
        have b1 := bG.trans (Same.but s1)
        clear X gm dr bG ga gb ob s1
        refine ⟨.ref a3, rfl, .ref a3, .ty "tuple", .type "tuple", .type "tuple", true, rfl, .ty "tuple", .base (.tup ga3), kit_ty (by decide +kernel), true, rfl, iteF ?_⟩
        refine ⟨.ref a3, rfl, a3, _, rfl, .inr (SqT.of ga3), rfl, false, congrArg V.bl (by simp), iteF ?_⟩
        refine ⟨.ref a3, rfl, a3, _, _, .int sd, rfl, rfl, SqT.of ga3, rfl, by show 2 ≤ sizeLine; decide, fun tp htp => ⟨tp, _, rfl, .inr (SqT.of upd_same), rfl, rfl, false, ?_, iteF ?_⟩⟩
        · rcases side with h | h <;> subst h <;> rfl
        have s2 := Same.new (o := .tup [.int 0, .int 1]) htp
        have ga4 := s2 _ _ ga3
        have X2 := X1.same s2
        have gm2 := gm1.same s2
        have dr2 := dr1.same s2
        have b2 := b1.trans (Same.but s2)
        generalize upd G1 tp (.tup [.int 0, .int 1]) = G2 at s2 ga4 X2 gm2 dr2 b2 ⊢
        clear ga3 X1 gm1 dr1 b1 s2 htp
        refine ⟨.ref a3, rfl, a3, _, rfl, SqT.of ga4, rfl, .int sd, _, rfl, .int b, _, rfl, .int e, _, rfl, rfl, ?_⟩
        refine ⟨.int (s : Nat), rfl, .int (t : Nat), rfl, by show 2 ≤ sizeLine; decide, fun L1 hL1 => ⟨.int sd, rfl, L1, _, _, .int (sdA s t sd : Nat), rfl, rfl, SqL.of upd_same, pickA side, ?_⟩⟩
        have s3 := Same.new (o := .lst [.int (s : Nat), .int (t : Nat)]) hL1
        refine ⟨.int (s : Nat), rfl, .int (t : Nat), rfl, by show 2 ≤ sizeLine; decide, fun L2 hL2 => ⟨.int sd, rfl, 1, sd, rfl, rfl, L2, _, _, .int (sdB s t sd : Nat), rfl, rfl, SqL.of upd_same, pickB side, ?_⟩⟩
        have s4 := Same.new (o := .lst [.int (s : Nat), .int (t : Nat)]) hL2
        have s34 := s3.trans s4
        have X4 := X2.same s34
        have gm4 := gm2.same s34
        have dr4 := dr2.same s34
        have b4 := b2.trans (Same.but s34)
        generalize upd (upd G2 L1 (.lst [.int (s : Nat), .int (t : Nat)])) L2 (.lst [.int (s : Nat), .int (t : Nat)]) = G4 at X4 gm4 dr4 b4 ⊢
        clear hL2 s4 s34 s3 X2 gm2 dr2 b2
        obtain ⟨gq1, gq2⟩ := gq
        simp only at gq1 gq2
        refine ⟨.int e, rfl, .ref wa, rfl, .int (sdA s t sd : Nat), rfl, .int b, rfl, .ref wa, W, ((sdA s t sd : Nat) : Int), b, rfl, ⟨wa, sa, pa, fas, pas, rfl, X4.gen⟩, by omega, fun ba G5 s5 nba gba => ⟨ba, _, rfl, .inl (SqL.of gba), rfl, flat_ints _, _, rfl, ?_⟩⟩
        rw [if_pos rfl, in_ints, decide_eq_true gq1]
        refine iteF ?_
        have X5 := X4.same s5
        have gm5 := gm4.same s5
        have dr5 := dr4.same s5
        have b5 := b4.trans (Same.but s5)
        clear X4 gm4 dr4 b4 s5
        refine ⟨.ref wa, rfl, .int (sdB s t sd : Nat), rfl, .int b, rfl, .ref wa, W, ((sdB s t sd : Nat) : Int), b, rfl, ⟨wa, sa, pa, fas, pas, rfl, X5.gen⟩, by omega, fun bb G6 s6 nbb gbb => ?_⟩
        have X6 := X5.same s6
        have gm6 := gm5.same s6
        have dr6 := dr5.same s6
        have b6 := b5.trans (Same.but s6)
        have nbd : bb ≠ d := dr5.ne nbb
        clear X5 gm5 dr5 b5 s6
        have bl := beh_len W ((sdB s t sd : Nat) : Int) b
        refine ⟨.ref bb, rfl, bb, _, rfl, .inl (SqL.of gbb), rfl, _, rfl, ?_⟩
        rw [List.length_map]
        by_cases z0 : (W.beh ((sdB s t sd : Nat) : Int) b).length = 0
        · rw [decide_eq_true (show V.int (((W.beh ((sdB s t sd : Nat) : Int) b).length : Nat) : Int) = V.int 0 by rw [z0]; rfl)]
          exact iteT (k G6 b6 dr6)
        · rw [decide_eq_false (show ¬ V.int (((W.beh ((sdB s t sd : Nat) : Int) b).length : Nat) : Int) = V.int 0 from fun q => z0 (by have := V.int.inj q; omega))]
          refine iteF ⟨.ref bb, rfl, .ref d, rfl, .ref bb, rfl, bb, _, rfl, .inl (SqL.of gbb), d, _, rfl, dr6, by rw [List.length_map]; omega, fun v G7 v0 vm b7 dr7 => ?_⟩
          rw [List.length_map] at vm
          obtain ⟨v, rfl⟩ := Int.eq_ofNat_of_zero_le v0
          have gbb7 := b7 _ _ nbd gbb
          have vl : v < (W.beh ((sdB s t sd : Nat) : Int) b).length := by omega
          have hz := List.getElem?_eq_getElem vl
          generalize (W.beh ((sdB s t sd : Nat) : Int) b)[v] = z at hz
          have mz := List.mem_of_getElem? hz
          have inz := hin.beh mz
          have ine := hin.beh gq1
          have np := gq2 z mz
          obtain ⟨zn, rfl⟩ := Int.eq_ofNat_of_zero_le inz.1
          obtain ⟨en, rfl⟩ := Int.eq_ofNat_of_zero_le ine.1
          rw [Int.toNat_natCast, Int.toNat_natCast] at np
          refine ⟨bb, _, _, .int ((zn : Nat) : Int), rfl, rfl, SqL.of gbb7, atI_nat (j := v) (by rw [List.getElem?_map, hz]; rfl), ?_⟩
          have X7 := X6.butD dr6 b7 nsd npd nfd
          have gm7 := gm6.butD h0d dr6 b7
          have b07 := b6.trans b7
          clear X6 gm6 dr6 b6 b7 gbb7
          refine ⟨.int ((en : Nat) : Int), rfl, .int ((zn : Nat) : Int), rfl, by show 2 ≤ sizeLine; decide, fun L3 hL3 => ⟨.int sd, rfl, L3, _, _, .int ((sdA en zn sd : Nat) : Int), rfl, rfl, SqL.of upd_same, pickA side, ?_⟩⟩
          have s8 := Same.new (o := .lst [.int ((en : Nat) : Int), .int ((zn : Nat) : Int)]) hL3
          refine ⟨.int ((zn : Nat) : Int), rfl, .int ((en : Nat) : Int), rfl, by show 2 ≤ sizeLine; decide, fun L4 hL4 => ⟨.int sd, rfl, L4, _, _, .int ((sdA zn en sd : Nat) : Int), rfl, rfl, SqL.of upd_same, pickA side, ?_⟩⟩
          have s9 := Same.new (o := .lst [.int ((zn : Nat) : Int), .int ((en : Nat) : Int)]) hL4
          have s89 := s8.trans s9
          refine ⟨sdA en zn sd, sdA zn en sd, r, _, _, _, _, _, _, _, _, _, rfl, b07.trans (Same.but s89), dr7.same s89, X7.same s89, gm7.same s89, by unfold sdA; split <;> omega, by unfold sdA; split <;> omega, by omega, fun q => ?_⟩
          rcases side with h | h
          · subst h
            exact np (Lk.symm q)
          · subst h
            exact np q
      · rw [decide_eq_false c]
        exact iteT (k G bG dr)
    · rintro σ G ⟨s, t, q, y5, y6, y7, y8, y9, y10, y11, y12, y13, rfl, bG, dr, X, gm, hs, ht, qi, nl⟩
      omega
end
end Fw

set_option maxRecDepth 100000
set_option maxHeartbeats 800000
namespace Fw
open PySem PySem.Spec PyProof.Rows L2 GxR
theorem FzT.butD {H H' : Hp} {d a : Addr} {xs : List V} (dr : Draws H d) (b : But d H H') (h : FzT H a xs) : FzT H' a xs := by
  obtain ⟨ds, q⟩ := dr
  obtain ⟨o, c, e, f⟩ := h
  exact ⟨o, c, e, b _ _ (ne_of f q (by intro z; cases z)) f⟩
theorem like_step {W : Wd} (hin : W.In) {s t : Nat} (hs : s < W.n) (ht : t < W.n) (h : LkF W s t) {sd b : Int} {e : Nat} (he : ((e : Nat) : Int) ∈ W.beh ((sdA s t sd : Nat) : Int) b) : ∃ y ∈ W.beh ((sdB s t sd : Nat) : Int) b, LkF W y.toNat e := by
  have n := LkF.next hin hs ht h
  have n' : Lk W (W.n + 1) s t ∧ ∀ l : Int, (∀ y ∈ W.beh ((s : Nat) : Int) l, ∃ z ∈ W.beh ((t : Nat) : Int) l, Lk W (W.n + 1) y.toNat z.toNat) ∧ (∀ z ∈ W.beh ((t : Nat) : Int) l, ∃ y ∈ W.beh ((s : Nat) : Int) l, Lk W (W.n + 1) y.toNat z.toNat) := n
  by_cases c : sd = 0
  · have e1 : sdA s t sd = s := if_pos c
    have e2 : sdB s t sd = t := if_pos c
    rw [e1] at he
    rw [e2]
    obtain ⟨z, hz, q⟩ := (n'.2 b).1 _ he
    rw [Int.toNat_natCast] at q
    exact ⟨z, hz, Lk.symm q⟩
  · have e1 : sdA s t sd = t := if_neg c
    have e2 : sdB s t sd = s := if_neg c
    rw [e1] at he
    rw [e2]
    obtain ⟨y, hy, q⟩ := (n'.2 b).2 _ he
    rw [Int.toNat_natCast] at q
    exact ⟨y, hy, q⟩
section
variable {P : Program} {w : World} {K : PySem.W.Frag} {mg : Str → Option Value} {base : Heap} {C J B WC NC RC GC LC cA tA : Addr} {t1 t2 t3 t12 : Tok}
def spAnsd (K : PySem.W.Frag) (WC GC : Addr) : Sp := fun vs H Q _ => ∃ (d wa sa pa g nt : Addr) (fas pas : List Addr) (l : Int) (H0 : Hp) (W : Wd) (s t : Nat), vs = [.ref d, .ref wa, .ref g, .int (s : Nat), .int (t : Nat), .ref nt] ∧ Draws H d ∧ WAx H wa sa pa fas pas W ∧ sa ≠ d ∧ pa ≠ d ∧ (∀ a ∈ fas, a ≠ d) ∧ Gm K WC GC l H0 H g W ∧ H0 d ≠ none ∧ FzT H nt ((clsN (LkF W) W.n).map V.int) ∧
  W.In ∧ W.steps.length ≤ 76 ∧ s < W.n ∧ t < W.n ∧ LkF W s t ∧ ∀ H', But d H H' → Draws H' d → Q (.bl true) H'
theorem ok_law_answered {f fA : Addr} {fd fdA : FuncData} (FF : Fun K "_law_answered" "_law_answered" s_law_answered f fd) (T : Txt K mg C J B) (TG : TxtGa K GC) (h_law_take : Has P w K mg base "_law_take" 1 a_law_take spTake) (h_law_behind : Has P w K mg base "_law_behind" 1 a_law_behind (spBehind K)) (m_LikenessGame_answer : Meth K GC "answer" fA)
    (g_LikenessGame_answer : FnOk P w K mg base CX0 3 fA fdA a_LikenessGame_answer (spAnr K WC GC)) (b_LikenessGame_answer : L2.Binds K fdA a_LikenessGame_answer []) : FnOk P w K mg base CX0 4 f fd a_law_answered (spAnsd K WC GC) := by
  refine FF.ok sc_law_answered (fun vs H Q E h => ?_) (fun cdv A outer s0 H vs Q E hr h => ?_)
  · obtain ⟨d, wa, sa, pa, g, nt, fas, pas, l, H0, W, s, t, rfl, _⟩ := h
    rfl
  · obtain ⟨d, wa, sa, pa, g, nt, fas, pas, l, H0, W, s, t, rfl, dr, X, nsd, npd, nfd, gm, h0d, fz, hin, st, hs, ht, lk, k⟩ := h
    refine ⟨_, (pss_cons (ps_for PassesOwn.never rfl (pi_range1 rfl T.z_range (pa_cons pe_int pa_nil)) (pg_name (i := 6) sc_law_answered.nd rfl (.inl rfl)) (pss_cons (ps_set (i := 7) sc_law_answered.nd rfl (.inl rfl) (pe_callH h_law_take (hr.mono (by omega)) (pa_cons (pv 0) (pa_cons pe_int pa_nil))))
      (pss_cons (ps_set (i := 8) sc_law_answered.nd rfl (.inl rfl) (pe_callH h_law_take (hr.mono (by omega)) (pa_cons (pv 0) (pa_cons pe_int pa_nil))))
      (pss_cons (ps_set (i := 9) sc_law_answered.nd rfl (.inl rfl) (pe_ix ix_list (pe_lst (pa_cons (pv 3) (pa_cons (pv 4) pa_nil))) (pv 7) (fun _ _ => rfl)))
      (pss_cons (ps_set (i := 10) sc_law_answered.nd rfl (.inl rfl) (pe_callH h_law_behind (hr.mono (by omega)) (pa_cons (pv 1) (pa_cons (pv 9) (pa_cons (pv 8) pa_nil)))))
      (pss_one (ps_if (pt_cmpR op_gt (pe_callB call_len_seq rfl T.z_len (by decide +kernel) (pa_cons (pv 10) pa_nil)) pe_int (nomark _)) (pss_cons (ps_set (i := 11) sc_law_answered.nd rfl (.inl rfl) (pe_ix ix_list (pv 10) (pe_callH h_law_take (hr.mono (by omega)) (pa_cons (pv 0) (pa_cons (pe_callB call_len_seq rfl T.z_len (by decide +kernel) (pa_cons (pv 10) pa_nil)) pa_nil))) (fun _ _ => rfl)))
      (pss_cons (ps_set (i := 12) sc_law_answered.nd rfl (.inl rfl) (pe_meth (pv 2) TG.cl m_LikenessGame_answer g_LikenessGame_answer (hr.mono (by omega)) b_LikenessGame_answer .nil pass0 (pa_cons (pv 3) (pa_cons (pv 4) (pa_cons (pv 7) (pa_cons (pv 8) (pa_cons (pv 11) pa_nil)))))))
      (pss_cons (ps_if (PW.pt (pw_or (pt_cmpR op_notIn_seq (pv 12) (pe_callH h_law_behind (hr.mono (by omega)) (pa_cons (pv 1) (pa_cons (pe_ix ix_list (pe_lst (pa_cons (pv 3) (pa_cons (pv 4) pa_nil))) (pe_op op_sub pe_int (pv 7)) (fun _ _ => rfl)) (pa_cons (pv 8) pa_nil)))) (by rfl)) (pw_or1 (pt_cmpR op_ne (pe_ix ix_tup (pv 5) (pv 12) (fun _ _ => rfl)) (pe_ix ix_tup (pv 5) (pv 11) (fun _ _ => rfl)) (nomark _))))) (pss_one (ps_ret pe_bl)) pss_nil)
      (pss_cons (ps_set (i := 3) sc_law_answered.nd rfl (.inl rfl) (pe_ix ix_list (pe_lst (pa_cons (pv 11) (pa_cons (pv 12) pa_nil))) (pv 7) (fun _ _ => rfl)))
      (pss_one (ps_set (i := 4) sc_law_answered.nd rfl (.inl rfl) (pe_ix ix_list (pe_lst (pa_cons (pv 12) (pa_cons (pv 11) pa_nil))) (pv 7) (fun _ _ => rfl)))))))) pss_nil)))))))
      (pss_one (ps_ret pe_bl))), ?_⟩
    refine ⟨20, rfl, by omega, by omega, ?_⟩
    refine for_range (lo := 0) (n := 20) (fun i σ G => ∃ (s t : Nat) (y6 y7 y8 y9 y10 y11 y12 : Option V), σ = [some (.ref d), some (.ref wa), some (.ref g), some (.int (s : Nat)), some (.int (t : Nat)), some (.ref nt), y6, y7, y8, y9, y10, y11, y12] ∧ But d H G ∧ Draws G d ∧ WAx G wa sa pa fas pas W ∧ Gm K WC GC l H0 G g W ∧ FzT G nt ((clsN (LkF W) W.n).map V.int) ∧ s < W.n ∧ t < W.n ∧ LkF W s t)
      ⟨s, t, none, none, none, none, none, none, none, rfl, But.refl _ _, dr, X, gm, fz, hs, ht, lk⟩ ?_ ?_
    · clear dr X gm hs ht lk s t fz
      rintro i σ G hi ⟨s, t, y6, y7, y8, y9, y10, y11, y12, rfl, bG, dr, X, gm, fz, hs, ht, lk⟩
      refine ⟨.ref d, rfl, d, 2, rfl, dr, by decide, fun sd G1 sd0 sd2 b1 dr1 => ?_⟩
      refine ⟨.ref d, rfl, d, 2, rfl, dr1, by decide, fun b G2 bb0 bb2 b2 dr2 => ?_⟩
      have side : sd = 0 ∨ sd = 1 := by omega
      have X2 := (X.butD dr b1 nsd npd nfd).butD dr1 b2 nsd npd nfd
      have gm2 := (gm.butD h0d dr b1).butD h0d dr1 b2
      have fz2 := (fz.butD dr b1).butD dr1 b2
      have bG2 := (bG.trans b1).trans b2
      clear X gm fz bG dr b1 b2 dr1
      refine ⟨.int (s : Nat), rfl, .int (t : Nat), rfl, by show 2 ≤ sizeLine; decide, fun L1 hL1 => ⟨.int sd, rfl, L1, _, _, .int (sdA s t sd : Nat), rfl, rfl, SqL.of upd_same, pickA side, ?_⟩⟩
      have s3 := Same.new (o := .lst [.int (s : Nat), .int (t : Nat)]) hL1
      have X3 := X2.same s3
      have gm3 := gm2.same s3
      have fz3 := fz2.same s3
      have dr3 := dr2.same s3
      have b3 := bG2.trans (Same.but s3)
      generalize upd G2 L1 (.lst [.int (s : Nat), .int (t : Nat)]) = G3 at X3 gm3 fz3 dr3 b3 ⊢
      clear s3 X2 gm2 fz2 dr2 bG2 hL1
      refine ⟨.ref wa, rfl, .int (sdA s t sd : Nat), rfl, .int b, rfl, .ref wa, W, ((sdA s t sd : Nat) : Int), b, rfl, ⟨wa, sa, pa, fas, pas, rfl, X3.gen⟩, by omega, fun ba G4 s4 nba gba => ?_⟩
      have nbd : ba ≠ d := dr3.ne nba
      have X4 := X3.same s4
      have gm4 := gm3.same s4
      have fz4 := fz3.same s4
      have dr4 := dr3.same s4
      have b4 := b3.trans (Same.but s4)
      clear s4 X3 gm3 fz3 dr3 b3
      have bl := beh_len W ((sdA s t sd : Nat) : Int) b
      refine ⟨.ref ba, rfl, ba, _, rfl, .inl (SqL.of gba), _, 0, rfl, rfl, _, rfl, ?_⟩
      rw [List.length_map]
      by_cases z0 : 0 < (W.beh ((sdA s t sd : Nat) : Int) b).length
      · rw [decide_eq_true (show (0 : Int) < (((W.beh ((sdA s t sd : Nat) : Int) b).length : Nat) : Int) by omega)]
        refine iteT ⟨.ref ba, rfl, .ref d, rfl, .ref ba, rfl, ba, _, rfl, .inl (SqL.of gba), d, _, rfl, dr4, by rw [List.length_map]; omega, fun v G5 v0 vm b5 dr5 => ?_⟩
        rw [List.length_map] at vm
        obtain ⟨v, rfl⟩ := Int.eq_ofNat_of_zero_le v0
        have gba5 := b5 _ _ nbd gba
        have vl : v < (W.beh ((sdA s t sd : Nat) : Int) b).length := by omega
        have hz := List.getElem?_eq_getElem vl
        generalize (W.beh ((sdA s t sd : Nat) : Int) b)[v] = z at hz
        have mz := List.mem_of_getElem? hz
        have inz := hin.beh mz
        obtain ⟨en, rfl⟩ := Int.eq_ofNat_of_zero_le inz.1
        have hen : en < W.n := by omega
        refine ⟨ba, _, _, .int ((en : Nat) : Int), rfl, rfl, SqL.of gba5, atI_nat (j := v) (by rw [List.getElem?_map, hz]; rfl), ?_⟩
        have X5 := X4.butD dr4 b5 nsd npd nfd
        have gm5 := gm4.butD h0d dr4 b5
        have fz5 := fz4.butD dr4 b5
        have b05 := b4.trans b5
        clear X4 gm4 fz4 b4 b5 dr4 gba gba5
        obtain ⟨gx, p, dx, f2, ta, tb, dd, ras, as, la, rs, m, ob, _⟩ := id gm5
        refine ⟨.ref g, rfl, g, gx, _, rfl, ob, rfl, .int (s : Nat), rfl, .int (t : Nat), rfl, .int sd, rfl, .int b, rfl, .int (en : Nat), rfl, g, l, H0, W, s, t, en, sd, b, rfl, gm5, hin, st, hs, ht, hen, like_step hin hs ht lk mz, fun y G6 s6 my ly => ?_⟩
        have my : ((y : Nat) : Int) ∈ W.beh ((sdB s t sd : Nat) : Int) b := my
        have iny := hin.beh my
        have X6 := X5.same s6
        have gm6 := gm5.same s6
        have fz6 := fz5.same s6
        have dr6 := dr5.same s6
        have b6 := b05.trans (Same.but s6)
        clear X5 gm5 fz5 dr5 b05 s6 ob
        refine ⟨.int (y : Nat), rfl, .ref wa, rfl, .int (s : Nat), rfl, .int (t : Nat), rfl, by show 2 ≤ sizeLine; decide, fun L2 hL2 => ⟨.int sd, rfl, 1, sd, rfl, rfl, L2, _, _, .int (sdB s t sd : Nat), rfl, rfl, SqL.of upd_same, pickB side, ?_⟩⟩
        have s7 := Same.new (o := .lst [.int (s : Nat), .int (t : Nat)]) hL2
        have X7 := X6.same s7
        have gm7 := gm6.same s7
        have fz7 := fz6.same s7
        have dr7 := dr6.same s7
        have b7 := b6.trans (Same.but s7)
        generalize upd G6 L2 (.lst [.int (s : Nat), .int (t : Nat)]) = G7 at X7 gm7 fz7 dr7 b7 ⊢
        clear s7 X6 gm6 fz6 dr6 b6 hL2
        refine ⟨.int b, rfl, .ref wa, W, ((sdB s t sd : Nat) : Int), b, rfl, ⟨wa, sa, pa, fas, pas, rfl, X7.gen⟩, by omega, fun bb G8 s8 nbb gbb => ⟨bb, _, rfl, .inl (SqL.of gbb), rfl, flat_ints _, _, rfl, ?_⟩⟩
        rw [if_pos rfl, in_ints, decide_eq_true my]
        have X8 := X7.same s8
        have gm8 := gm7.same s8
        have fz8 := fz7.same s8
        have dr8 := dr7.same s8
        have b8 := b7.trans (Same.but s8)
        clear s8 X7 gm7 fz7 dr7 b7
        have hyn : y < W.n := by omega
        have eq : cN W ((y : Nat) : Int) = cN W ((en : Nat) : Int) := by
          rw [cN_like (by omega) (by omega) (by omega) (by omega), Int.toNat_natCast, Int.toNat_natCast]
          exact ly
        refine iteF ⟨.ref nt, rfl, .int (y : Nat), rfl, nt, _, _, .int (cN W ((y : Nat) : Int)), rfl, rfl, fz8.sq, atI_nat (j := y) (by rw [List.getElem?_map, cls_at hyn]; rfl), .ref nt, rfl, .int (en : Nat), rfl, nt, _, _, .int (cN W ((en : Nat) : Int)), rfl, rfl, fz8.sq, atI_nat (j := en) (by rw [List.getElem?_map, cls_at hen]; rfl), rfl, false, congrArg V.bl (by rw [eq]; simp), iteF ?_⟩
        refine ⟨.int ((en : Nat) : Int), rfl, .int ((y : Nat) : Int), rfl, by show 2 ≤ sizeLine; decide, fun L3 hL3 => ⟨.int sd, rfl, L3, _, _, .int ((sdA en y sd : Nat) : Int), rfl, rfl, SqL.of upd_same, pickA side, ?_⟩⟩
        have s8 := Same.new (o := .lst [.int ((en : Nat) : Int), .int ((y : Nat) : Int)]) hL3
        refine ⟨.int ((y : Nat) : Int), rfl, .int ((en : Nat) : Int), rfl, by show 2 ≤ sizeLine; decide, fun L4 hL4 => ⟨.int sd, rfl, L4, _, _, .int ((sdA y en sd : Nat) : Int), rfl, rfl, SqL.of upd_same, pickA side, ?_⟩⟩
        have s9 := Same.new (o := .lst [.int ((y : Nat) : Int), .int ((en : Nat) : Int)]) hL4
        have s89 := s8.trans s9
        refine ⟨sdA en y sd, sdA y en sd, _, _, _, _, _, _, _, rfl, b8.trans (Same.but s89), dr8.same s89, X8.same s89, gm8.same s89, fz8.same s89, by unfold sdA; split <;> omega, by unfold sdA; split <;> omega, ?_⟩
        rcases side with h | h
        · subst h
          exact Lk.symm ly
        · subst h
          exact ly
      · rw [decide_eq_false (show ¬ (0 : Int) < (((W.beh ((sdA s t sd : Nat) : Int) b).length : Nat) : Int) by omega)]
        exact iteF ⟨s, t, _, _, _, _, _, _, _, rfl, b4, dr4, X4, gm4, fz4, hs, ht, lk⟩
    · rintro σ G ⟨s, t, y6, y7, y8, y9, y10, y11, y12, rfl, bG, dr, X, gm, fz, hs, ht, lk⟩
      exact k G bG dr
end
end Fw

set_option maxRecDepth 100000
set_option maxHeartbeats 1600000
namespace Fw
open PySem PySem.Spec PyProof.Rows L2 GxR
theorem rep_refs (n : Nat) (e : Addr) : (List.replicate n [V.ref e]).flatten = (List.replicate n e).map V.ref := by
  induction n with
  | zero => rfl
  | succ n ih => rw [List.replicate_succ, List.replicate_succ, List.flatten_cons, List.map_cons, ih]; rfl
section
variable {P : Program} {w : World} {K : PySem.W.Frag} {mg : Str → Option Value} {base : Heap} {C J B WC NC RC GC LC cA tA : Addr} {t1 t2 t3 t12 : Tok}
def spLaw (K : PySem.W.Frag) (tA : Addr) : Sp := fun vs H Q _ => ∃ (a : Addr) (ns : List Int), vs = [.ref a] ∧ SqL K H a (ns.map V.int) ∧ TabG H tA ∧ ns.length ≤ 63 ∧ ∀ H', Q (.bl true) H'
theorem ok_law {f fW : Addr} {fd fdW : FuncData} (FF : Fun K "law" "law" s_law f fd) (T : Txt K mg C J B) (TC : TxtC K WC) (TG : TxtGa K GC) (h_law_draws : Has P w K mg base "_law_draws" 1 a_law_draws (spDraws K)) (h_law_take : Has P w K mg base "_law_take" 1 a_law_take spTake)
    (h_law_world : Has P w K mg base "_law_world" 2 a_law_world spWorld) (h_law_made : HasX P w K mg base "_law_made" 8 a_law_made (spMade K WC tA)) (h_World : HasCX P w K mg base "World" WC 6 a_World_init (spWInit K NC WC tA))
    (h_law_outcome : Has P w K mg base "_law_outcome" 9 a_law_outcome (spLOut K WC GC)) (h_law_classes : Has P w K mg base "_law_classes" 2 a_law_classes (spLCls K)) (h_law_is_integer : Has P w K mg base "_law_is_integer" 1 a_law_is_integer spIsInt)
    (h_law_attacked : Has P w K mg base "_law_attacked" 4 a_law_attacked (spAttd K WC GC)) (h_law_answered : Has P w K mg base "_law_answered" 4 a_law_answered (spAnsd K WC GC))
    (m_LikenessGame_winner : Meth K GC "winner" fW) (g_LikenessGame_winner : FnOk P w K mg base CX0 1 fW fdW a_LikenessGame_winner (spWin K WC GC)) (b_LikenessGame_winner : L2.Binds K fdW a_LikenessGame_winner []) : FnOk P w K mg base CX0 10 f fd a_law (spLaw K tA) := by
  refine FF.ok sc_law (fun vs H Q E h => ?_) (fun cdv A outer s H vs Q E hr h => ?_)
  · obtain ⟨a, ns, rfl, _⟩ := h
    rfl
  · obtain ⟨a, ns, rfl, hS, tg, hlen, k⟩ := h
    refine ⟨_, (pss_cons (ps_set (i := 1) sc_law.nd rfl (.inl rfl) (pe_callH h_law_draws (hr.mono (by omega)) (pa_cons (pv 0) (pa_cons pe_int pa_nil))))
      (pss_cons (ps_set (i := 2) sc_law.nd rfl (.inl rfl) (pe_op op_add pe_int (pe_callH h_law_take (hr.mono (by omega)) (pa_cons (pv 1) (pa_cons pe_int pa_nil)))))
      (pss_cons (ps_set (i := 3) sc_law.nd rfl (.inl rfl) (pe_callH h_law_world (hr.mono (by omega)) (pa_cons (pv 1) (pa_cons pe_int (pa_cons (pv 2) pa_nil)))))
      (pss_cons (ps_if (pt_cmpR op_eq (pe_callH h_law_take (hr.mono (by omega)) (pa_cons (pv 1) (pa_cons pe_int pa_nil))) pe_int (nomark _)) (pss_one (ps_ret (pe_cmpR op_isN (pe_callH h_law_outcome (hr.mono (by omega)) (pa_cons (pe_makeX h_World (hr.mono (by omega)) takes0 (pa_cons pe_int (pa_cons pe_int (pa_cons (pe_op op_rep (pe_lst (pa_cons (pe_lst pa_nil) pa_nil)) (pe_op op_add pe_int (pe_callH h_law_take (hr.mono (by omega)) (pa_cons (pv 1) (pa_cons pe_int pa_nil))))) (pa_cons (pe_lst pa_nil) pa_nil))))) pa_nil)) pe_non (nomark _)))) pss_nil)
      (pss_cons (ps_set (i := 4) sc_law.nd rfl (.inl rfl) (pe_callH h_law_outcome (hr.mono (by omega)) (pa_cons (pe_callL h_law_made (hr.mono (by omega)) (pa_cons (pv 3) (pa_cons pe_int (pa_cons (pv 2) pa_nil)))) pa_nil)))
      (pss_cons (ps_if (pt_cmpR op_isN (pv 4) pe_non (nomark _)) (pss_one (ps_ret pe_bl)) pss_nil)
      (pss_cons (ps_set (i := 5) sc_law.nd rfl (.inl rfl) (pe_callH h_law_classes (hr.mono (by omega)) (pa_cons (pv 3) pa_nil)))
      (pss_cons (ps_set (i := 6) sc_law.nd rfl (.inl rfl) (pe_callB call_len_seq rfl T.z_len (by decide +kernel) (pa_cons (pe_ix ix_tup (pv 3) pe_int (fun _ _ => rfl)) pa_nil)))
      (pss_cons (ps_for PassesOwn.never rfl (pi_range1 rfl T.z_range (pa_cons (pv 6) pa_nil)) (pg_name (i := 7) sc_law.nd rfl (.inl rfl)) (pss_one (ps_for PassesOwn.never rfl (pi_range1 rfl T.z_range (pa_cons (pv 6) pa_nil)) (pg_name (i := 8) sc_law.nd rfl (.inl rfl)) (pss_cons (ps_set (i := 9) sc_law.nd rfl (.inl rfl) (pe_meth (pv 4) TG.cl m_LikenessGame_winner g_LikenessGame_winner (hr.mono (by omega)) b_LikenessGame_winner .nil pass0 (pa_cons (pv 7) (pa_cons (pv 8) pa_nil))))
      (pss_one (ps_if (PW.pt (pw_or (pt_not (pt_val (pe_callH h_law_is_integer (hr.mono (by omega)) (pa_cons (pv 9) pa_nil)))) (pw_or1 (pt_cmpR op_ne (pv 9) (pe_callTy call_int1 rfl T.z_int (by decide +kernel) (pa_cons (pe_cmpR op_ne (pe_ix ix_tup (pv 5) (pv 7) (fun _ _ => rfl)) (pe_ix ix_tup (pv 5) (pv 8) (fun _ _ => rfl)) (nomark _)) pa_nil)) (nomark _))))) (pss_one (ps_ret pe_bl)) pss_nil))))))
      (pss_cons (ps_for PassesOwn.never rfl (pi_range1 rfl T.z_range (pa_cons pe_int pa_nil)) (pg_name (i := 10) sc_law.nd rfl (.inl rfl)) (pss_cons (ps_set (i := 7) sc_law.nd rfl (.inl rfl) (pe_callH h_law_take (hr.mono (by omega)) (pa_cons (pv 1) (pa_cons (pv 6) pa_nil))))
      (pss_cons (ps_set (i := 8) sc_law.nd rfl (.inl rfl) (pe_callH h_law_take (hr.mono (by omega)) (pa_cons (pv 1) (pa_cons (pv 6) pa_nil))))
      (pss_one (ps_if (pt_cmpR op_ne (pe_ix ix_tup (pv 5) (pv 7) (fun _ _ => rfl)) (pe_ix ix_tup (pv 5) (pv 8) (fun _ _ => rfl)) (nomark _)) (pss_one (ps_if (pt_not (pt_val (pe_callH h_law_attacked (hr.mono (by omega)) (pa_cons (pv 1) (pa_cons (pv 3) (pa_cons (pv 4) (pa_cons (pv 7) (pa_cons (pv 8) pa_nil)))))))) (pss_one (ps_ret pe_bl)) pss_nil)) (pss_one (ps_if (pt_not (pt_val (pe_callH h_law_answered (hr.mono (by omega)) (pa_cons (pv 1) (pa_cons (pv 3) (pa_cons (pv 4) (pa_cons (pv 7) (pa_cons (pv 8) (pa_cons (pv 5) pa_nil))))))))) (pss_one (ps_ret pe_bl)) pss_nil)))))))
      (pss_one (ps_ret pe_bl)))))))))))), ?_⟩
    refine ⟨.ref a, rfl, a, ns, 300, rfl, hS, hlen, by decide, by decide, fun d H1 s1 hd0 d1 => ?_⟩
    have ntd : tA ≠ d := fun e => by obtain ⟨qs, q, _⟩ := tg; rw [e, hd0] at q; cases q
    refine ⟨.ref d, rfl, d, 2, rfl, d1, by decide, fun v H2 v0 v2 b2 d2 => ⟨1, v, rfl, rfl, ?_⟩⟩
    refine ⟨.ref d, rfl, .int (1 + v), rfl, d, 6, 1 + v, rfl, d2, by decide, by decide, by omega, by omega, fun wa sa pa fas pas W H3 b3 d3 X nsd npd nfd fit up n6 => ?_⟩
    have tg3 : TabG H3 tA := by
      obtain ⟨qs, q, t⟩ := tg.same s1
      exact ⟨qs, b3 _ _ ntd (b2 _ _ ntd q), t⟩
    clear hS hlen tg s1 hd0 d1 b2 d2 b3
    refine ⟨.ref d, rfl, d, 10, rfl, d3, by decide, fun u H4 u0 u9 b4 d4 => ?_⟩
    have X4 := X.butD d3 b4 nsd npd nfd
    have tg4 : TabG H4 tA := by
      obtain ⟨qs, q, t⟩ := tg3
      exact ⟨qs, b4 _ _ ntd q, t⟩
    clear X tg3 b4 d3
    refine ⟨rfl, _, rfl, ?_⟩
    by_cases c : u = 0
    · rw [decide_eq_true (show V.int u = V.int 0 by rw [c])]
      refine iteT ?_
      refine ⟨Nat.zero_le _, fun e1 he1 => ⟨by show 1 ≤ sizeLine; decide, fun L1 hL1 => ?_⟩⟩
      have s5 := Same.new (o := .lst []) he1
      have g5 : (upd H4 e1 (.lst [])) e1 = some (.lst (([] : List Int).map V.int)) := upd_same
      generalize upd H4 e1 (.lst []) = H5 at hL1 s5 g5 ⊢
      have s6 := Same.new (o := .lst [.ref e1]) hL1
      have g6 : (upd H5 L1 (.lst [.ref e1])) L1 = some (.lst [.ref e1]) := upd_same
      have g56 := s6 _ _ g5
      have d6 := (d4.same s5).same s6
      have tg6 := (tg4.same s5).same s6
      have nd1 : L1 ≠ d := (d4.same s5).ne hL1
      have nde : e1 ≠ d := d4.ne he1
      generalize upd H5 L1 (.lst [.ref e1]) = H6 at s6 g6 g56 d6 tg6 ⊢
      refine ⟨.ref d, rfl, d, 3, rfl, d6, by decide, fun u3 H7 u30 u33 b7 d7 => ⟨13, u3, rfl, rfl, ?_⟩⟩
      obtain ⟨n, hn⟩ : ∃ n : Nat, 13 + u3 = (n : Int) := ⟨(13 + u3).toNat, by omega⟩
      have g7 := b7 _ _ nd1 g6
      have ge7 := b7 _ _ nde g56
      have tg7 : TabG H7 tA := by
        obtain ⟨qs, q, t⟩ := tg6
        exact ⟨qs, b7 _ _ ntd q, t⟩
      refine ⟨L1, 13 + u3, _, rfl, rfl, g7, by omega, by omega, by show 1 * (13 + u3).toNat ≤ 16777216; omega, fun p hp => ?_⟩
      have n13 : 13 ≤ n := by omega
      have n16 : n ≤ 16 := by omega
      rw [hn, Int.toNat_natCast, show (List.replicate n [V.ref e1]).flatten = (List.replicate n e1).map V.ref from rep_refs n e1]
      have s8 := Same.new (o := .lst ((List.replicate n e1).map V.ref)) hp
      have g8 : (upd H7 p (.lst ((List.replicate n e1).map V.ref))) p = some (.lst ((List.replicate n e1).map V.ref)) := upd_same
      have ge8 := s8 _ _ ge7
      have tg8 := tg7.same s8
      generalize upd H7 p (.lst ((List.replicate n e1).map V.ref)) = H8 at s8 g8 ge8 tg8 ⊢
      refine ⟨Nat.zero_le _, fun q hq x dx hx hdx ne => ?_⟩
      have s9 := Same.new (o := .lst []) hq
      have s10 : Same (upd H8 q (.lst [])) (upd (upd (upd H8 q (.lst [])) dx (.own x)) x (.ins WC dx [])) := fun b o e => by rw [upd_ne (ne_of_none e hx), upd_ne (ne_of_none e hdx)]; exact e
      have s910 := s9.trans s10
      have gq := s10 _ _ (upd_same (H := H8) (a := q) (o := .lst []))
      have ger := s910 _ _ ge8
      have rat : ∀ {i : Nat} {b : Addr}, (List.replicate n e1)[i]? = some b → b = e1 := fun {i b} e => (List.mem_replicate.mp (List.mem_of_getElem? e)).2
      have raX : ∀ {i : Nat} {X : List Int}, (List.replicate n ([] : List Int))[i]? = some X → X = [] := fun {i X} e => (List.mem_replicate.mp (List.mem_of_getElem? e)).2
      have good : okWorld 1 0 (List.replicate n ([] : List Int)) [] = true := ok_of ⟨by decide, by decide⟩ ⟨by decide, by decide⟩ (by rw [List.length_replicate]; omega) (by rw [List.length_replicate]; omega) (fun X hX => by
        rw [(List.mem_replicate.mp hX).2]
        exact ⟨List.Pairwise.nil, fun x hx => by cases hx⟩) List.Pairwise.nil fun q hq => by cases hq
      refine ⟨x, dx, 1, 0, p, q, List.replicate n e1, [], List.replicate n [], [], rfl, upd_same, .inl (SqL.of (s910 _ _ g8)), ⟨by rw [List.length_replicate, List.length_replicate], fun i b X e1' e2' => ?_⟩, fun i b X e1' e2' => ?_, .inl (SqL.of gq), PAt.nil _, tg8.same s910, by rw [List.length_replicate]; omega, fun X hX => ?_, by show 0 ≤ 1000; omega,
        fun ss ta tb d' ras as H' so pe ok b2 tg' W2 RT2 => ⟨rfl, ?_⟩, fun ss so pe ok H' => ?_⟩
      · rw [rat e1', raX e2']
        exact .inl (SqL.of ger)
      · rw [rat e1', raX e2']
        exact .inl ger
      · rw [(List.mem_replicate.mp hX).2]
        exact Nat.zero_le _
      · have ess : ss = [] := List.Perm.eq_nil pe
        subst ess
        refine ⟨x, dx, 1, 0, ta, tb, d', ras, as, _, ⟨List.replicate n [], []⟩, rfl, W2, RT2, fun n12 => ?_, fun _ H9 => ⟨rfl, ?_⟩⟩
        · have : (List.replicate n ([] : List Int)).length ≤ 12 := n12
          rw [List.length_replicate] at this
          omega
        · exact k _
      · have ess : ss = [] := List.Perm.eq_nil pe
        subst ess
        rw [good] at ok
        cases ok
    rw [decide_eq_false (show ¬ V.int u = V.int 0 from fun z => c (V.int.inj z))]
    refine iteF ?_
    refine ⟨.ref wa, rfl, .int (1 + v), rfl, wa, sa, pa, fas, pas, W, 2, 1 + v, 1 + v, rfl, X4, fit, up, by decide, by decide, by omega, by omega, by omega, tg4, fun p dx ta tb dd ras as H5 t5 WE5 RT5 => ?_⟩
    have X5 := X4.tb tg4 t5
    have d5 : Draws H5 d := by
      obtain ⟨ds, q⟩ := d4
      exact ⟨ds, t5.1 _ _ ntd.symm q⟩
    have h0d : H4 d ≠ none := by
      obtain ⟨ds, q⟩ := d4
      rw [q]; intro z; cases z
    have n1 := fit.one
    have inn : ∀ p ∈ W.steps, 0 ≤ p.1 ∧ p.1 < (W.n : Int) ∧ 0 ≤ p.2.1 ∧ p.2.1 < 2 ∧ 0 ≤ p.2.2 ∧ p.2.2 < (W.n : Int) := fun p hp => by
      obtain ⟨a, b, c, d, e, f, _⟩ := up.in_ p hp
      exact ⟨a, b, c, d, e, f⟩
    have hin : W.In := fun p hp => by have := inn p hp; exact ⟨this.1, this.2.1, this.2.2.2.2.1, this.2.2.2.2.2⟩
    have st := steps_few up.steps inn (by omega)
    have wok : WdOk W := ⟨hin, fun p hp => by have := inn p hp; omega, n1, by omega, st⟩
    refine ⟨p, dx, 2, 1 + v, ta, tb, dd, ras, as, H4, W, rfl, WE5, RT5, fun n12 => ⟨wok, fun g H6 s6 gm6 => ?_⟩, fun n13 => absurd n13 (by omega)⟩
    have X6 := X5.same s6
    have d6 := d5.same s6
    clear X5 d5 X4 d4 tg4 t5 WE5 RT5 s6 fit up
    have fl : fas.length = W.n := X6.f.1
    refine ⟨.ref g, rfl, rfl, _, rfl, ?_⟩
    rw [decide_eq_false (show ¬ V.ref g = V.non by intro z; cases z)]
    refine iteF ?_
    refine ⟨.ref wa, rfl, wa, sa, pa, fas, pas, W, rfl, X6, hin, (fun p hp => by have := inn p hp; omega), by omega, st, fun nt H7 s7 fz7 => ?_⟩
    have X7 := X6.same s7
    have gm7 := gm6.same s7
    have d7 := d6.same s7
    clear X6 gm6 d6 s7
    refine ⟨.ref wa, rfl, wa, _, _, .ref sa, rfl, rfl, SqT.of X7.w, rfl, sa, fas.map V.ref, rfl, .inl (SqL.of X7.s), ?_⟩
    rw [List.length_map, fl]
    have cl : ∀ {i : Nat}, i < W.n → atI ((clsN (LkF W) W.n).map V.int) ((i : Nat) : Int) = some (.int (cN W ((i : Nat) : Int))) := fun {i} hi => atI_nat (j := i) (by rw [List.getElem?_map, cls_at hi]; rfl)
    have lk_ : ∀ {a b : Nat}, a < W.n → b < W.n → (cN W (a : Nat) = cN W (b : Nat) ↔ LkF W a b) := fun {a b} ha hb => by
      have := cN_like (W := W) (s := (a : Nat)) (t := (b : Nat)) (by omega) (by omega) (by omega) (by omega)
      rwa [Int.toNat_natCast, Int.toNat_natCast] at this
    refine ⟨.int (W.n : Nat), rfl, _, rfl, by omega, by omega, ?_⟩
    rw [Int.toNat_natCast]
    refine for_range (lo := 0) (n := W.n) (fun i σ G => ∃ y7 y8 y9 : Option V, σ = [some (.ref a), some (.ref d), some (.int (1 + v)), some (.ref wa), some (.ref g), some (.ref nt), some (.int (W.n : Nat)), y7, y8, y9, none] ∧ G = H7) ⟨none, none, none, rfl, rfl⟩ ?_ ?_
    · rintro i σ G hi ⟨y7, y8, y9, rfl, rfl⟩
      rw [Int.zero_add]
      refine ⟨.int (W.n : Nat), rfl, _, rfl, by omega, by omega, ?_⟩
      rw [Int.toNat_natCast]
      refine for_range (lo := 0) (n := W.n) (fun j σ G' => ∃ y8 y9 : Option V, σ = [some (.ref a), some (.ref d), some (.int (1 + v)), some (.ref wa), some (.ref g), some (.ref nt), some (.int (W.n : Nat)), some (.int (i : Nat)), y8, y9, none] ∧ G' = G) ⟨y8, y9, rfl, rfl⟩ ?_ ?_
      · rintro j σ G' hj ⟨y8, y9, rfl, rfl⟩
        rw [Int.zero_add]
        obtain ⟨gx, p0, dx0, f2, ta0, tb0, dd0, ras0, as0, la, rs, m, ob, _⟩ := id gm7
        refine ⟨.ref g, rfl, g, gx, _, rfl, ob, rfl, .int (i : Nat), rfl, .int (j : Nat), rfl, g, 2, H4, W, i, j, rfl, gm7, hin, hi, hj, fun h => ?_, fun h => ?_⟩
        · refine ⟨.int 0, rfl, 0, rfl, true, rfl, iteF ?_⟩
          refine ⟨.int 0, rfl, .ref nt, rfl, .int (i : Nat), rfl, nt, _, _, .int (cN W ((i : Nat) : Int)), rfl, rfl, fz7.sq, cl hi, .ref nt, rfl, .int (j : Nat), rfl, nt, _, _, .int (cN W ((j : Nat) : Int)), rfl, rfl, fz7.sq, cl hj, rfl, .inr ⟨_, rfl, rfl, false, ?_, iteF ⟨_, _, rfl, rfl⟩⟩⟩
          rw [(lk_ hi hj).mpr h]
          exact congrArg V.bl (by simp)
        · refine ⟨.int 1, rfl, 1, rfl, true, rfl, iteF ?_⟩
          refine ⟨.int 1, rfl, .ref nt, rfl, .int (i : Nat), rfl, nt, _, _, .int (cN W ((i : Nat) : Int)), rfl, rfl, fz7.sq, cl hi, .ref nt, rfl, .int (j : Nat), rfl, nt, _, _, .int (cN W ((j : Nat) : Int)), rfl, rfl, fz7.sq, cl hj, rfl, .inr ⟨_, rfl, rfl, false, ?_, iteF ⟨_, _, rfl, rfl⟩⟩⟩
          rw [decide_eq_false (show ¬ V.int (cN W ((i : Nat) : Int)) = V.int (cN W ((j : Nat) : Int)) from fun z => h ((lk_ hi hj).mp (V.int.inj z)))]
          exact congrArg V.bl (by simp)
      · rintro σ G' ⟨y8, y9, rfl, rfl⟩
        exact ⟨_, _, _, rfl, rfl⟩
    · rintro σ G ⟨y7, y8, y9, rfl, rfl⟩
      refine ⟨4, rfl, by omega, by omega, ?_⟩
      refine for_range (lo := 0) (n := 4) (fun i σ G' => ∃ y7 y8 y10 : Option V, σ = [some (.ref a), some (.ref d), some (.int (1 + v)), some (.ref wa), some (.ref g), some (.ref nt), some (.int (W.n : Nat)), y7, y8, y9, y10] ∧ Draws G' d ∧ WAx G' wa sa pa fas pas W ∧ Gm K WC GC 2 H4 G' g W ∧ FzT G' nt ((clsN (LkF W) W.n).map V.int)) ⟨y7, y8, none, rfl, d7, X7, gm7, fz7⟩ ?_ ?_
      · clear d7 X7 gm7 fz7 y7 y8
        rintro i σ G' hi ⟨y7, y8, y10, rfl, d8, X8, gm8, fz8⟩
        refine ⟨.ref d, rfl, .int (W.n : Nat), rfl, d, (W.n : Nat), rfl, d8, by omega, fun x G1 x0 xn b1 d9 => ?_⟩
        refine ⟨.ref d, rfl, .int (W.n : Nat), rfl, d, (W.n : Nat), rfl, d9, by omega, fun y G2 y0 yn b2 d10 => ?_⟩
        obtain ⟨s, rfl⟩ := Int.eq_ofNat_of_zero_le x0
        obtain ⟨t, rfl⟩ := Int.eq_ofNat_of_zero_le y0
        have hs : s < W.n := by omega
        have ht : t < W.n := by omega
        have X10 := (X8.butD d8 b1 nsd npd nfd).butD d9 b2 nsd npd nfd
        have gm10 := (gm8.butD h0d d8 b1).butD h0d d9 b2
        have fz10 := (fz8.butD d8 b1).butD d9 b2
        clear X8 gm8 fz8 d8 b1 b2 d9
        refine ⟨.ref nt, rfl, .int (s : Nat), rfl, nt, _, _, .int (cN W ((s : Nat) : Int)), rfl, rfl, fz10.sq, cl hs, .ref nt, rfl, .int (t : Nat), rfl, nt, _, _, .int (cN W ((t : Nat) : Int)), rfl, rfl, fz10.sq, cl ht, rfl, _, rfl, ?_⟩
        by_cases e : cN W ((s : Nat) : Int) = cN W ((t : Nat) : Int)
        · rw [decide_eq_true (show V.int (cN W ((s : Nat) : Int)) = V.int (cN W ((t : Nat) : Int)) by rw [e])]
          refine iteF ?_
          refine ⟨.ref d, rfl, .ref wa, rfl, .ref g, rfl, .int (s : Nat), rfl, .int (t : Nat), rfl, .ref nt, rfl, d, wa, sa, pa, g, nt, fas, pas, 2, H4, W, s, t, rfl, d10, X10, nsd, npd, nfd, gm10, h0d, fz10, hin, st, hs, ht, (lk_ hs ht).mp e, fun G3 b3 d11 => ⟨true, rfl, iteF ?_⟩⟩
          exact ⟨_, _, _, rfl, d11, X10.butD d10 b3 nsd npd nfd, gm10.butD h0d d10 b3, fz10.butD d10 b3⟩
        · rw [decide_eq_false (show ¬ V.int (cN W ((s : Nat) : Int)) = V.int (cN W ((t : Nat) : Int)) from fun z => e (V.int.inj z))]
          refine iteT ?_
          refine ⟨.ref d, rfl, .ref wa, rfl, .ref g, rfl, .int (s : Nat), rfl, .int (t : Nat), rfl, d, wa, sa, pa, g, fas, pas, 2, H4, W, s, t, rfl, d10, X10, nsd, npd, nfd, gm10, h0d, hin, st, by omega, by decide, by decide, (fun q hq => by have := inn q hq; omega), hs, ht, fun h => e ((lk_ hs ht).mpr h), fun G3 b3 d11 => ⟨true, rfl, iteF ?_⟩⟩
          exact ⟨_, _, _, rfl, d11, X10.butD d10 b3 nsd npd nfd, gm10.butD h0d d10 b3, fz10.butD d10 b3⟩
      · rintro σ G' ⟨y7, y8, y10, rfl, _⟩
        exact k _
end
end Fw

set_option maxRecDepth 100000
set_option maxHeartbeats 4000000
namespace Fw
open PySem PySem.Spec PyProof.Rows L2
theorem exm_own {K : PySem.W.Frag} {S : Addr} (h1 : PySem.W.subIn K (.ref S) (.type "BaseException") = some true) (h2 : PySem.W.hasDictIn K S = true) (h3 : PySem.W.typeIn K (.ref S) = some (.type "type")) (h4 : PySem.W.subIn K (.ref S) (.ref S) = some true) :
    PySem.W.exmOne K (.ref S) (.ref S) = some true := PySem.W.exm_ref h1 h2 h3 h4
/-- what is known of the law where the worlds are tried -/
def Top34 (P : Program) (w : World) (K : PySem.W.Frag) (mg : Str → Option Value) (fa : Addr) : Prop :=
  ∃ (fd : FuncData) (cA tA : Addr), PySem.W.tabIn K "ascends" = some (cA, tA) ∧ K.lookup tA = none ∧ (∀ (s : Shared) (u : Value), BindsTo s fd ⟨[u], []⟩ [("script", u)]) ∧
    ∀ base : Heap, K.In base → base.Ns mainGlobals mg → GxR.TabB base mg cA tA → FnOk P w K mg base CX0 10 fa fd ["script"] (spLaw K tA)
theorem pairK {K : PySem.W.Frag} {J : Addr} {d : Option Addr} {n : Nat} {sl : Array (Option Value)} {t1 t2 : Tok} {x y : Str} (l : K.lookup J = some ⟨.type "tuple", d, .seq #[.str x t1, .str y t2] n, sl⟩) (H : Hp) : SqT K H J [.str x, .str y] :=
  .inr ⟨_, #[.str x t1, .str y t2], n, l, rfl, rfl, by show 2 ≤ sizeLine; decide, .cons ⟨t1, rfl⟩ (.cons ⟨t2, rfl⟩ .nil)⟩
theorem all_mk {P : Program} {w : World} {K : PySem.W.Frag} {h : Heap} {mg : Str → Option Value} {c_ascends t_ascends : Addr}
    {LC : Addr}
    {NC : Addr}
    {C_LikenessGame : Addr}
    {C_World : Addr}
    {C_Rounds : Addr}
    {fa f0 f1 f2 f3 f4 f5 f6 f7 f8 f9 f10 f11 f12 f13 f14 f15 f16 f17 f18 f19 f20 f21 f22 f23 f24 f25 f26 f27 f28 f29 f30 f31 f32 f33 f34 : Addr}
    {od0 an0 od1 an1 od2 an2 od3 an3 od4 an4 od5 an5 od6 an6 od7 an7 od8 an8 od9 an9 od10 an10 od11 an11 od12 an12 od13 an13 od14 an14 od15 an15 od16 an16 od17 an17 od18 an18 od19 an19 od20 an20 od21 an21 od22 an22 od23 an23 od24 an24 od25 an25 od26 an26 od27 an27 od28 an28 od29 an29 od30 an30 od31 an31 od32 an32 od33 an33 od34 an34 : Option Addr} {sl0 sl1 sl2 sl3 sl4 sl5 sl6 sl7 sl8 sl9 sl10 sl11 sl12 sl13 sl14 sl15 sl16 sl17 sl18 sl19 sl20 sl21 sl22 sl23 sl24 sl25 sl26 sl27 sl28 sl29 sl30 sl31 sl32 sl33 sl34 : Array (Option Value)} {oc0 kV0 dc0 pm0 cd0 ct0 oc1 kV1 dc1 pm1 cd1 ct1 oc2 kV2 dc2 pm2 cd2 ct2 oc3 kV3 dc3 pm3 cd3 ct3 oc4 kV4 dc4 pm4 cd4 ct4 oc5 kV5 dc5 pm5 cd5 ct5 oc6 kV6 dc6 pm6 cd6 ct6 oc7 kV7 dc7 pm7 cd7 ct7 oc8 kV8 dc8 pm8 cd8 ct8 oc9 kV9 dc9 pm9 cd9 ct9 oc10 kV10 dc10 pm10 cd10 ct10 oc11 kV11 dc11 pm11 cd11 ct11 oc12 kV12 dc12 pm12 cd12 ct12 oc13 kV13 dc13 pm13 cd13 ct13 oc14 kV14 dc14 pm14 cd14 ct14 oc15 kV15 dc15 pm15 cd15 ct15 oc16 kV16 dc16 pm16 cd16 ct16 oc17 kV17 dc17 pm17 cd17 ct17 oc18 kV18 dc18 pm18 cd18 ct18 oc19 kV19 dc19 pm19 cd19 ct19 oc20 kV20 dc20 pm20 cd20 ct20 oc21 kV21 dc21 pm21 cd21 ct21 oc22 kV22 dc22 pm22 cd22 ct22 oc23 kV23 dc23 pm23 cd23 ct23 oc24 kV24 dc24 pm24 cd24 ct24 oc25 kV25 dc25 pm25 cd25 ct25 oc26 kV26 dc26 pm26 cd26 ct26 oc27 kV27 dc27 pm27 cd27 ct27 oc28 kV28 dc28 pm28 cd28 ct28 oc29 kV29 dc29 pm29 cd29 ct29 oc30 kV30 dc30 pm30 cd30 ct30 oc31 kV31 dc31 pm31 cd31 ct31 oc32 kV32 dc32 pm32 cd32 ct32 oc33 kV33 dc33 pm33 cd33 ct33 oc34 kV34 dc34 pm34 cd34 ct34 : Value}
    {t_MOST_LABELS : Tok}
    {t_MOST_FACTS : Tok}
    {t_MOST_STATES_worlds : Tok}
    {t_MOST_STATES_likegames : Tok}
    {cc_ascends : Value} {cd_ascends : Option Addr} {cv_ascends : Array Value} {cn_ascends : Array (Option Value)}
    (X : K.In h) (G : h.Ns mainGlobals mg) (hfa : mg "law" = some (.ref fa))
    (aC_Rounds : PySem.W.nsIn K mainGlobals "Rounds" = some (some (.ref C_Rounds)))
    (aC_World : PySem.W.nsIn K mainGlobals "World" = some (some (.ref C_World)))
    (aC_LikenessGame : PySem.W.nsIn K mainGlobals "LikenessGame" = some (some (.ref C_LikenessGame)))
    (a0 : PySem.W.nsIn K mainGlobals "states_in" = some (some (.ref f0)))
    (l0 : K.lookup f0 = some ⟨oc0, od0, .func (PySem.W.fnOf "states_in" "states_in" (defArgs s_states_in) (defBody s_states_in) (defScope s_states_in) .none kV0 dc0 pm0 an0 cd0 ct0), sl0⟩)
    (c0 : PySem.W.codeIn K cd0 "states_in" = true)
    (k0 : PySem.W.keepIn K (.ref f0) = true)
    (a1 : PySem.W.nsIn K mainGlobals "led" = some (some (.ref f1)))
    (l1 : K.lookup f1 = some ⟨oc1, od1, .func (PySem.W.fnOf "led" "led" (defArgs s_led) (defBody s_led) (defScope s_led) .none kV1 dc1 pm1 an1 cd1 ct1), sl1⟩)
    (c1 : PySem.W.codeIn K cd1 "led" = true)
    (k1 : PySem.W.keepIn K (.ref f1) = true)
    (a2 : PySem.W.nsIn K mainGlobals "step_masks" = some (some (.ref f2)))
    (l2 : K.lookup f2 = some ⟨oc2, od2, .func (PySem.W.fnOf "step_masks" "step_masks" (defArgs s_step_masks) (defBody s_step_masks) (defScope s_step_masks) .none kV2 dc2 pm2 an2 cd2 ct2), sl2⟩)
    (c2 : PySem.W.codeIn K cd2 "step_masks" = true)
    (k2 : PySem.W.keepIn K (.ref f2) = true)
    (a3 : PySem.W.findIn K (.ref C_Rounds) "__init__" = some (some (.ref f3)))
    (i3 : PySem.W.isFn K (.ref f3) = true)
    (l3 : K.lookup f3 = some ⟨oc3, od3, .func (PySem.W.fnOf "__init__" "Rounds.__init__" (defArgs s_Rounds_init) (defBody s_Rounds_init) (defScope s_Rounds_init) .none kV3 dc3 pm3 an3 cd3 ct3), sl3⟩)
    (c3 : PySem.W.codeIn K cd3 "Rounds.__init__" = true)
    (k3 : PySem.W.keepIn K (.ref f3) = true)
    (a4 : PySem.W.findIn K (.ref C_Rounds) "advance" = some (some (.ref f4)))
    (i4 : PySem.W.isFn K (.ref f4) = true)
    (l4 : K.lookup f4 = some ⟨oc4, od4, .func (PySem.W.fnOf "advance" "Rounds.advance" (defArgs s_Rounds_advance) (defBody s_Rounds_advance) (defScope s_Rounds_advance) .none kV4 dc4 pm4 an4 cd4 ct4), sl4⟩)
    (c4 : PySem.W.codeIn K cd4 "Rounds.advance" = true)
    (k4 : PySem.W.keepIn K (.ref f4) = true)
    (a5 : PySem.W.findIn K (.ref C_Rounds) "numbers" = some (some (.ref f5)))
    (i5 : PySem.W.isFn K (.ref f5) = true)
    (l5 : K.lookup f5 = some ⟨oc5, od5, .func (PySem.W.fnOf "numbers" "Rounds.numbers" (defArgs s_Rounds_numbers) (defBody s_Rounds_numbers) (defScope s_Rounds_numbers) .none kV5 dc5 pm5 an5 cd5 ct5), sl5⟩)
    (c5 : PySem.W.codeIn K cd5 "Rounds.numbers" = true)
    (k5 : PySem.W.keepIn K (.ref f5) = true)
    (a6 : PySem.W.nsIn K mainGlobals "like_at_once" = some (some (.ref f6)))
    (l6 : K.lookup f6 = some ⟨oc6, od6, .func (PySem.W.fnOf "like_at_once" "like_at_once" (defArgs s_like_at_once) (defBody s_like_at_once) (defScope s_like_at_once) .none kV6 dc6 pm6 an6 cd6 ct6), sl6⟩)
    (c6 : PySem.W.codeIn K cd6 "like_at_once" = true)
    (k6 : PySem.W.keepIn K (.ref f6) = true)
    (a7 : PySem.W.nsIn K mainGlobals "cut_up" = some (some (.ref f7)))
    (l7 : K.lookup f7 = some ⟨oc7, od7, .func (PySem.W.fnOf "cut_up" "cut_up" (defArgs s_cut_up) (defBody s_cut_up) (defScope s_cut_up) .none kV7 dc7 pm7 an7 cd7 ct7), sl7⟩)
    (c7 : PySem.W.codeIn K cd7 "cut_up" = true)
    (k7 : PySem.W.keepIn K (.ref f7) = true)
    (a8 : PySem.W.nsIn K mainGlobals "least_of" = some (some (.ref f8)))
    (l8 : K.lookup f8 = some ⟨oc8, od8, .func (PySem.W.fnOf "least_of" "least_of" (defArgs s_least_of) (defBody s_least_of) (defScope s_least_of) .none kV8 dc8 pm8 an8 cd8 ct8), sl8⟩)
    (c8 : PySem.W.codeIn K cd8 "least_of" = true)
    (k8 : PySem.W.keepIn K (.ref f8) = true)
    (a9 : PySem.W.nsIn K mainGlobals "all_rounds" = some (some (.ref f9)))
    (l9 : K.lookup f9 = some ⟨oc9, od9, .func (PySem.W.fnOf "all_rounds" "all_rounds" (defArgs s_all_rounds) (defBody s_all_rounds) (defScope s_all_rounds) .none kV9 dc9 pm9 an9 cd9 ct9), sl9⟩)
    (c9 : PySem.W.codeIn K cd9 "all_rounds" = true)
    (k9 : PySem.W.keepIn K (.ref f9) = true)
    (a10 : PySem.W.nsIn K mainGlobals "first_round" = some (some (.ref f10)))
    (l10 : K.lookup f10 = some ⟨oc10, od10, .func (PySem.W.fnOf "first_round" "first_round" (defArgs s_first_round) (defBody s_first_round) (defScope s_first_round) .none kV10 dc10 pm10 an10 cd10 ct10), sl10⟩)
    (c10 : PySem.W.codeIn K cd10 "first_round" = true)
    (k10 : PySem.W.keepIn K (.ref f10) = true)
    (a11 : PySem.W.nsIn K mainGlobals "is_number" = some (some (.ref f11)))
    (l11 : K.lookup f11 = some ⟨oc11, od11, .func (PySem.W.fnOf "is_number" "is_number" (defArgs s_is_number) (defBody s_is_number) (defScope s_is_number) .none kV11 dc11 pm11 an11 cd11 ct11), sl11⟩)
    (c11 : PySem.W.codeIn K cd11 "is_number" = true)
    (k11 : PySem.W.keepIn K (.ref f11) = true)
    (a12 : PySem.W.nsIn K mainGlobals "ascends" = some (some (.ref f12)))
    (l12 : K.lookup f12 = some ⟨oc12, od12, .func (PySem.W.fnOf "ascends" "ascends" (defArgs s_ascends) (defBody s_ascends) (defScope s_ascends) .none kV12 dc12 pm12 an12 cd12 ct12), sl12⟩)
    (c12 : PySem.W.codeIn K cd12 "ascends" = true)
    (k12 : PySem.W.keepIn K (.ref f12) = true)
    (a13 : PySem.W.findIn K (.ref C_World) "__init__" = some (some (.ref f13)))
    (i13 : PySem.W.isFn K (.ref f13) = true)
    (l13 : K.lookup f13 = some ⟨oc13, od13, .func (PySem.W.fnOf "__init__" "World.__init__" (defArgs s_World_init) (defBody s_World_init) (defScope s_World_init) .none kV13 dc13 pm13 an13 cd13 ct13), sl13⟩)
    (c13 : PySem.W.codeIn K cd13 "World.__init__" = true)
    (k13 : PySem.W.keepIn K (.ref f13) = true)
    (a14 : PySem.W.nsIn K mainGlobals "check_numbers" = some (some (.ref f14)))
    (l14 : K.lookup f14 = some ⟨oc14, od14, .func (PySem.W.fnOf "check_numbers" "check_numbers" (defArgs s_check_numbers) (defBody s_check_numbers) (defScope s_check_numbers) .none kV14 dc14 pm14 an14 cd14 ct14), sl14⟩)
    (c14 : PySem.W.codeIn K cd14 "check_numbers" = true)
    (k14 : PySem.W.keepIn K (.ref f14) = true)
    (a15 : PySem.W.nsIn K mainGlobals "check_states" = some (some (.ref f15)))
    (l15 : K.lookup f15 = some ⟨oc15, od15, .func (PySem.W.fnOf "check_states" "check_states" (defArgs s_check_states) (defBody s_check_states) (defScope s_check_states) .none kV15 dc15 pm15 an15 cd15 ct15), sl15⟩)
    (c15 : PySem.W.codeIn K cd15 "check_states" = true)
    (k15 : PySem.W.keepIn K (.ref f15) = true)
    (a16 : PySem.W.nsIn K mainGlobals "check_steps" = some (some (.ref f16)))
    (l16 : K.lookup f16 = some ⟨oc16, od16, .func (PySem.W.fnOf "check_steps" "check_steps" (defArgs s_check_steps) (defBody s_check_steps) (defScope s_check_steps) .none kV16 dc16 pm16 an16 cd16 ct16), sl16⟩)
    (c16 : PySem.W.codeIn K cd16 "check_steps" = true)
    (k16 : PySem.W.keepIn K (.ref f16) = true)
    (a17 : PySem.W.nsIn K mainGlobals "ends_of" = some (some (.ref f17)))
    (l17 : K.lookup f17 = some ⟨oc17, od17, .func (PySem.W.fnOf "ends_of" "ends_of" (defArgs s_ends_of) (defBody s_ends_of) (defScope s_ends_of) .none kV17 dc17 pm17 an17 cd17 ct17), sl17⟩)
    (c17 : PySem.W.codeIn K cd17 "ends_of" = true)
    (k17 : PySem.W.keepIn K (.ref f17) = true)
    (a18 : PySem.W.nsIn K mainGlobals "followers" = some (some (.ref f18)))
    (l18 : K.lookup f18 = some ⟨oc18, od18, .func (PySem.W.fnOf "followers" "followers" (defArgs s_followers) (defBody s_followers) (defScope s_followers) .none kV18 dc18 pm18 an18 cd18 ct18), sl18⟩)
    (c18 : PySem.W.codeIn K cd18 "followers" = true)
    (k18 : PySem.W.keepIn K (.ref f18) = true)
    (a19 : PySem.W.findIn K (.ref C_LikenessGame) "__init__" = some (some (.ref f19)))
    (i19 : PySem.W.isFn K (.ref f19) = true)
    (l19 : K.lookup f19 = some ⟨oc19, od19, .func (PySem.W.fnOf "__init__" "LikenessGame.__init__" (defArgs s_LikenessGame_init) (defBody s_LikenessGame_init) (defScope s_LikenessGame_init) .none kV19 dc19 pm19 an19 cd19 ct19), sl19⟩)
    (c19 : PySem.W.codeIn K cd19 "LikenessGame.__init__" = true)
    (k19 : PySem.W.keepIn K (.ref f19) = true)
    (a20 : PySem.W.findIn K (.ref C_LikenessGame) "winner" = some (some (.ref f20)))
    (i20 : PySem.W.isFn K (.ref f20) = true)
    (l20 : K.lookup f20 = some ⟨oc20, od20, .func (PySem.W.fnOf "winner" "LikenessGame.winner" (defArgs s_LikenessGame_winner) (defBody s_LikenessGame_winner) (defScope s_LikenessGame_winner) .none kV20 dc20 pm20 an20 cd20 ct20), sl20⟩)
    (c20 : PySem.W.codeIn K cd20 "LikenessGame.winner" = true)
    (k20 : PySem.W.keepIn K (.ref f20) = true)
    (a21 : PySem.W.findIn K (.ref C_LikenessGame) "attack" = some (some (.ref f21)))
    (i21 : PySem.W.isFn K (.ref f21) = true)
    (l21 : K.lookup f21 = some ⟨oc21, od21, .func (PySem.W.fnOf "attack" "LikenessGame.attack" (defArgs s_LikenessGame_attack) (defBody s_LikenessGame_attack) (defScope s_LikenessGame_attack) .none kV21 dc21 pm21 an21 cd21 ct21), sl21⟩)
    (c21 : PySem.W.codeIn K cd21 "LikenessGame.attack" = true)
    (k21 : PySem.W.keepIn K (.ref f21) = true)
    (a22 : PySem.W.findIn K (.ref C_LikenessGame) "answer" = some (some (.ref f22)))
    (i22 : PySem.W.isFn K (.ref f22) = true)
    (l22 : K.lookup f22 = some ⟨oc22, od22, .func (PySem.W.fnOf "answer" "LikenessGame.answer" (defArgs s_LikenessGame_answer) (defBody s_LikenessGame_answer) (defScope s_LikenessGame_answer) .none kV22 dc22 pm22 an22 cd22 ct22), sl22⟩)
    (c22 : PySem.W.codeIn K cd22 "LikenessGame.answer" = true)
    (k22 : PySem.W.keepIn K (.ref f22) = true)
    (a23 : PySem.W.findIn K (.ref C_LikenessGame) "_answers" = some (some (.ref f23)))
    (i23 : PySem.W.isFn K (.ref f23) = true)
    (l23 : K.lookup f23 = some ⟨oc23, od23, .func (PySem.W.fnOf "_answers" "LikenessGame._answers" (defArgs s_LikenessGame__answers) (defBody s_LikenessGame__answers) (defScope s_LikenessGame__answers) .none kV23 dc23 pm23 an23 cd23 ct23), sl23⟩)
    (c23 : PySem.W.codeIn K cd23 "LikenessGame._answers" = true)
    (k23 : PySem.W.keepIn K (.ref f23) = true)
    (a24 : PySem.W.nsIn K mainGlobals "_law_draws" = some (some (.ref f24)))
    (l24 : K.lookup f24 = some ⟨oc24, od24, .func (PySem.W.fnOf "_law_draws" "_law_draws" (defArgs s_law_draws) (defBody s_law_draws) (defScope s_law_draws) .none kV24 dc24 pm24 an24 cd24 ct24), sl24⟩)
    (c24 : PySem.W.codeIn K cd24 "_law_draws" = true)
    (k24 : PySem.W.keepIn K (.ref f24) = true)
    (a25 : PySem.W.nsIn K mainGlobals "_law_take" = some (some (.ref f25)))
    (l25 : K.lookup f25 = some ⟨oc25, od25, .func (PySem.W.fnOf "_law_take" "_law_take" (defArgs s_law_take) (defBody s_law_take) (defScope s_law_take) .none kV25 dc25 pm25 an25 cd25 ct25), sl25⟩)
    (c25 : PySem.W.codeIn K cd25 "_law_take" = true)
    (k25 : PySem.W.keepIn K (.ref f25) = true)
    (a26 : PySem.W.nsIn K mainGlobals "_law_is_integer" = some (some (.ref f26)))
    (l26 : K.lookup f26 = some ⟨oc26, od26, .func (PySem.W.fnOf "_law_is_integer" "_law_is_integer" (defArgs s_law_is_integer) (defBody s_law_is_integer) (defScope s_law_is_integer) .none kV26 dc26 pm26 an26 cd26 ct26), sl26⟩)
    (c26 : PySem.W.codeIn K cd26 "_law_is_integer" = true)
    (k26 : PySem.W.keepIn K (.ref f26) = true)
    (a27 : PySem.W.nsIn K mainGlobals "_law_world" = some (some (.ref f27)))
    (l27 : K.lookup f27 = some ⟨oc27, od27, .func (PySem.W.fnOf "_law_world" "_law_world" (defArgs s_law_world) (defBody s_law_world) (defScope s_law_world) .none kV27 dc27 pm27 an27 cd27 ct27), sl27⟩)
    (c27 : PySem.W.codeIn K cd27 "_law_world" = true)
    (k27 : PySem.W.keepIn K (.ref f27) = true)
    (a28 : PySem.W.nsIn K mainGlobals "_law_made" = some (some (.ref f28)))
    (l28 : K.lookup f28 = some ⟨oc28, od28, .func (PySem.W.fnOf "_law_made" "_law_made" (defArgs s_law_made) (defBody s_law_made) (defScope s_law_made) .none kV28 dc28 pm28 an28 cd28 ct28), sl28⟩)
    (c28 : PySem.W.codeIn K cd28 "_law_made" = true)
    (k28 : PySem.W.keepIn K (.ref f28) = true)
    (a29 : PySem.W.nsIn K mainGlobals "_law_behind" = some (some (.ref f29)))
    (l29 : K.lookup f29 = some ⟨oc29, od29, .func (PySem.W.fnOf "_law_behind" "_law_behind" (defArgs s_law_behind) (defBody s_law_behind) (defScope s_law_behind) .none kV29 dc29 pm29 an29 cd29 ct29), sl29⟩)
    (c29 : PySem.W.codeIn K cd29 "_law_behind" = true)
    (k29 : PySem.W.keepIn K (.ref f29) = true)
    (a30 : PySem.W.nsIn K mainGlobals "_law_classes" = some (some (.ref f30)))
    (l30 : K.lookup f30 = some ⟨oc30, od30, .func (PySem.W.fnOf "_law_classes" "_law_classes" (defArgs s_law_classes) (defBody s_law_classes) (defScope s_law_classes) .none kV30 dc30 pm30 an30 cd30 ct30), sl30⟩)
    (c30 : PySem.W.codeIn K cd30 "_law_classes" = true)
    (k30 : PySem.W.keepIn K (.ref f30) = true)
    (a31 : PySem.W.nsIn K mainGlobals "_law_outcome" = some (some (.ref f31)))
    (l31 : K.lookup f31 = some ⟨oc31, od31, .func (PySem.W.fnOf "_law_outcome" "_law_outcome" (defArgs s_law_outcome) (defBody s_law_outcome) (defScope s_law_outcome) .none kV31 dc31 pm31 an31 cd31 ct31), sl31⟩)
    (c31 : PySem.W.codeIn K cd31 "_law_outcome" = true)
    (k31 : PySem.W.keepIn K (.ref f31) = true)
    (a32 : PySem.W.nsIn K mainGlobals "_law_attacked" = some (some (.ref f32)))
    (l32 : K.lookup f32 = some ⟨oc32, od32, .func (PySem.W.fnOf "_law_attacked" "_law_attacked" (defArgs s_law_attacked) (defBody s_law_attacked) (defScope s_law_attacked) .none kV32 dc32 pm32 an32 cd32 ct32), sl32⟩)
    (c32 : PySem.W.codeIn K cd32 "_law_attacked" = true)
    (k32 : PySem.W.keepIn K (.ref f32) = true)
    (a33 : PySem.W.nsIn K mainGlobals "_law_answered" = some (some (.ref f33)))
    (l33 : K.lookup f33 = some ⟨oc33, od33, .func (PySem.W.fnOf "_law_answered" "_law_answered" (defArgs s_law_answered) (defBody s_law_answered) (defScope s_law_answered) .none kV33 dc33 pm33 an33 cd33 ct33), sl33⟩)
    (c33 : PySem.W.codeIn K cd33 "_law_answered" = true)
    (k33 : PySem.W.keepIn K (.ref f33) = true)
    (a34 : PySem.W.nsIn K mainGlobals "law" = some (some (.ref f34)))
    (l34 : K.lookup f34 = some ⟨oc34, od34, .func (PySem.W.fnOf "law" "law" (defArgs s_law) (defBody s_law) (defScope s_law) .none kV34 dc34 pm34 an34 cd34 ct34), sl34⟩)
    (c34 : PySem.W.codeIn K cd34 "law" = true)
    (k34 : PySem.W.keepIn K (.ref f34) = true)
    (pg_Rounds : PySem.W.plainGet K C_Rounds Str.empty = true)
    (hd_Rounds : PySem.W.hasDictIn K C_Rounds = true)
    (po_Rounds : PySem.W.plainOver K C_Rounds = true)
    (sa_Rounds : PySem.W.findIn K (.ref C_Rounds) "__setattr__" = some (some (.builtin "object.__setattr__")))
    (mk_Rounds : PySem.W.makesIn K C_Rounds = true)
    (kc_Rounds : PySem.W.keepIn K (.ref C_Rounds) = true)
    (n_Rounds__many : PySem.W.findIn K (.ref C_Rounds) "_many" = some none)
    (n_Rounds__before : PySem.W.findIn K (.ref C_Rounds) "_before" = some none)
    (n_Rounds__blocks : PySem.W.findIn K (.ref C_Rounds) "_blocks" = some none)
    (n_Rounds__fresh : PySem.W.findIn K (.ref C_Rounds) "_fresh" = some none)
    (pg_World : PySem.W.plainGet K C_World Str.empty = true)
    (hd_World : PySem.W.hasDictIn K C_World = true)
    (po_World : PySem.W.plainOver K C_World = true)
    (sa_World : PySem.W.findIn K (.ref C_World) "__setattr__" = some (some (.builtin "object.__setattr__")))
    (mk_World : PySem.W.makesIn K C_World = true)
    (kc_World : PySem.W.keepIn K (.ref C_World) = true)
    (n_World_labels : PySem.W.findIn K (.ref C_World) "labels" = some none)
    (n_World_facts : PySem.W.findIn K (.ref C_World) "facts" = some none)
    (n_World_states : PySem.W.findIn K (.ref C_World) "states" = some none)
    (n_World_steps : PySem.W.findIn K (.ref C_World) "steps" = some none)
    (n_World__ends : PySem.W.findIn K (.ref C_World) "_ends" = some none)
    (pg_LikenessGame : PySem.W.plainGet K C_LikenessGame Str.empty = true)
    (hd_LikenessGame : PySem.W.hasDictIn K C_LikenessGame = true)
    (po_LikenessGame : PySem.W.plainOver K C_LikenessGame = true)
    (sa_LikenessGame : PySem.W.findIn K (.ref C_LikenessGame) "__setattr__" = some (some (.builtin "object.__setattr__")))
    (mk_LikenessGame : PySem.W.makesIn K C_LikenessGame = true)
    (kc_LikenessGame : PySem.W.keepIn K (.ref C_LikenessGame) = true)
    (n_LikenessGame__world : PySem.W.findIn K (.ref C_LikenessGame) "_world" = some none)
    (n_LikenessGame__rounds : PySem.W.findIn K (.ref C_LikenessGame) "_rounds" = some none)
    (z_all : PySem.W.nsIn K mainGlobals "all" = some none)
    (z_bool : PySem.W.nsIn K mainGlobals "bool" = some none)
    (z_enumerate : PySem.W.nsIn K mainGlobals "enumerate" = some none)
    (z_int : PySem.W.nsIn K mainGlobals "int" = some none)
    (z_isinstance : PySem.W.nsIn K mainGlobals "isinstance" = some none)
    (z_len : PySem.W.nsIn K mainGlobals "len" = some none)
    (z_list : PySem.W.nsIn K mainGlobals "list" = some none)
    (z_range : PySem.W.nsIn K mainGlobals "range" = some none)
    (z_set : PySem.W.nsIn K mainGlobals "set" = some none)
    (z_sorted : PySem.W.nsIn K mainGlobals "sorted" = some none)
    (z_tuple : PySem.W.nsIn K mainGlobals "tuple" = some none)
    (z_zip : PySem.W.nsIn K mainGlobals "zip" = some none)
    (aI_MOST_LABELS : PySem.W.nsIn K mainGlobals "MOST_LABELS" = some (some (.int 3 t_MOST_LABELS)))
    (aI_MOST_FACTS : PySem.W.nsIn K mainGlobals "MOST_FACTS" = some (some (.int 6 t_MOST_FACTS)))
    (aI_MOST_STATES_worlds : PySem.W.nsIn K mainGlobals "MOST_STATES_worlds" = some (some (.int 400 t_MOST_STATES_worlds)))
    (aI_MOST_STATES_likegames : PySem.W.nsIn K mainGlobals "MOST_STATES_likegames" = some (some (.int 12 t_MOST_STATES_likegames)))
    (e_gC : PySem.W.nsIn K mainGlobals "InvalidWorld" = some (some (.ref NC)))
    (e_xC : PySem.W.excIn K NC [.type "ValueError", .type "Exception", .type "BaseException", .type "object"] "ValueError.__new__" = true)
    (e_kC : PySem.W.keepIn K (.ref NC) = true)
    (e_bC : PySem.W.subIn K (.ref NC) (.type "BaseException") = some true)
    (e_tC : PySem.W.typeIn K (.ref NC) = some (.type "type"))
    (e_sC : PySem.W.subIn K (.ref NC) (.ref NC) = some true)
    (e_xd : PySem.W.hasDictIn K NC = true)
    (q_gC : PySem.W.nsIn K mainGlobals "TooLarge" = some (some (.ref LC)))
    (q_xC : PySem.W.excIn K LC [.type "ValueError", .type "Exception", .type "BaseException", .type "object"] "ValueError.__new__" = true)
    (q_kC : PySem.W.keepIn K (.ref LC) = true)
    (q_bC : PySem.W.subIn K (.ref LC) (.type "BaseException") = some true)
    (q_tC : PySem.W.typeIn K (.ref LC) = some (.type "type"))
    (q_sC : PySem.W.subIn K (.ref LC) (.ref LC) = some true)
    (q_xd : PySem.W.hasDictIn K LC = true)
    (hc_ascends : cd12 = .ref c_ascends)
    (lc_ascends : K.lookup c_ascends = some ⟨cc_ascends, cd_ascends, .fields cv_ascends, cn_ascends⟩)
    (pT_ascends : (cv_ascends[11]? : Option Value) = some (.ref t_ascends))
    (nT_ascends : K.lookup t_ascends = none) :
    Top34 P w K mg fa := by
  have e := hfa.symm.trans (PySem.W.mg_of X G a34)
  cases e
  have F_states_in := fun_mk (st := s_states_in) l0 c0 k0
  have b_states_in := F_states_in.binds (ps := a_states_in) fun _ _ _ _ _ _ us hl => match us, hl with | [_], _ => rfl
  have m_states_in := PySem.W.mg_of X G a0
  have F_led := fun_mk (st := s_led) l1 c1 k1
  have b_led := F_led.binds (ps := a_led) fun _ _ _ _ _ _ us hl => match us, hl with | [_, _], _ => rfl
  have m_led := PySem.W.mg_of X G a1
  have F_step_masks := fun_mk (st := s_step_masks) l2 c2 k2
  have b_step_masks := F_step_masks.binds (ps := a_step_masks) fun _ _ _ _ _ _ us hl => match us, hl with | [_, _, _], _ => rfl
  have m_step_masks := PySem.W.mg_of X G a2
  have F_Rounds_init := fun_mk (st := s_Rounds_init) l3 c3 k3
  have b_Rounds_init := F_Rounds_init.binds (ps := a_Rounds_init) fun _ _ _ _ _ _ us hl => match us, hl with | [_, _, _], _ => rfl
  have F_Rounds_advance := fun_mk (st := s_Rounds_advance) l4 c4 k4
  have b_Rounds_advance := F_Rounds_advance.binds (ps := a_Rounds_advance) fun _ _ _ _ _ _ us hl => match us, hl with | [_], _ => rfl
  have F_Rounds_numbers := fun_mk (st := s_Rounds_numbers) l5 c5 k5
  have b_Rounds_numbers := F_Rounds_numbers.binds (ps := a_Rounds_numbers) fun _ _ _ _ _ _ us hl => match us, hl with | [_], _ => rfl
  have F_like_at_once := fun_mk (st := s_like_at_once) l6 c6 k6
  have b_like_at_once := F_like_at_once.binds (ps := a_like_at_once) fun _ _ _ _ _ _ us hl => match us, hl with | [_], _ => rfl
  have m_like_at_once := PySem.W.mg_of X G a6
  have F_cut_up := fun_mk (st := s_cut_up) l7 c7 k7
  have b_cut_up := F_cut_up.binds (ps := a_cut_up) fun _ _ _ _ _ _ us hl => match us, hl with | [_, _], _ => rfl
  have m_cut_up := PySem.W.mg_of X G a7
  have F_least_of := fun_mk (st := s_least_of) l8 c8 k8
  have b_least_of := F_least_of.binds (ps := a_least_of) fun _ _ _ _ _ _ us hl => match us, hl with | [_], _ => rfl
  have m_least_of := PySem.W.mg_of X G a8
  have F_all_rounds := fun_mk (st := s_all_rounds) l9 c9 k9
  have b_all_rounds := F_all_rounds.binds (ps := a_all_rounds) fun _ _ _ _ _ _ us hl => match us, hl with | [_], _ => rfl
  have m_all_rounds := PySem.W.mg_of X G a9
  have F_first_round := fun_mk (st := s_first_round) l10 c10 k10
  have b_first_round := F_first_round.binds (ps := a_first_round) fun _ _ _ _ _ _ us hl => match us, hl with | [_, _, _], _ => rfl
  have m_first_round := PySem.W.mg_of X G a10
  have F_is_number := fun_mk (st := s_is_number) l11 c11 k11
  have b_is_number := F_is_number.binds (ps := a_is_number) fun _ _ _ _ _ _ us hl => match us, hl with | [_, _, _], _ => rfl
  have m_is_number := PySem.W.mg_of X G a11
  have F_ascends := fun_mk (st := s_ascends) l12 c12 k12
  have b_ascends := F_ascends.binds (ps := a_ascends) fun _ _ _ _ _ _ us hl => match us, hl with | [_], _ => rfl
  have m_ascends := PySem.W.mg_of X G a12
  have F_World_init := fun_mk (st := s_World_init) l13 c13 k13
  have b_World_init := F_World_init.binds (ps := a_World_init) fun _ _ _ _ _ _ us hl => match us, hl with | [_, _, _, _, _], _ => rfl
  have F_check_numbers := fun_mk (st := s_check_numbers) l14 c14 k14
  have b_check_numbers := F_check_numbers.binds (ps := a_check_numbers) fun _ _ _ _ _ _ us hl => match us, hl with | [_, _], _ => rfl
  have m_check_numbers := PySem.W.mg_of X G a14
  have F_check_states := fun_mk (st := s_check_states) l15 c15 k15
  have b_check_states := F_check_states.binds (ps := a_check_states) fun _ _ _ _ _ _ us hl => match us, hl with | [_], _ => rfl
  have m_check_states := PySem.W.mg_of X G a15
  have F_check_steps := fun_mk (st := s_check_steps) l16 c16 k16
  have b_check_steps := F_check_steps.binds (ps := a_check_steps) fun _ _ _ _ _ _ us hl => match us, hl with | [_], _ => rfl
  have m_check_steps := PySem.W.mg_of X G a16
  have F_ends_of := fun_mk (st := s_ends_of) l17 c17 k17
  have b_ends_of := F_ends_of.binds (ps := a_ends_of) fun _ _ _ _ _ _ us hl => match us, hl with | [_], _ => rfl
  have m_ends_of := PySem.W.mg_of X G a17
  have F_followers := fun_mk (st := s_followers) l18 c18 k18
  have b_followers := F_followers.binds (ps := a_followers) fun _ _ _ _ _ _ us hl => match us, hl with | [_, _, _], _ => rfl
  have m_followers := PySem.W.mg_of X G a18
  have F_LikenessGame_init := fun_mk (st := s_LikenessGame_init) l19 c19 k19
  have b_LikenessGame_init := F_LikenessGame_init.binds (ps := a_LikenessGame_init) fun _ _ _ _ _ _ us hl => match us, hl with | [_, _], _ => rfl
  have F_LikenessGame_winner := fun_mk (st := s_LikenessGame_winner) l20 c20 k20
  have b_LikenessGame_winner := F_LikenessGame_winner.binds (ps := a_LikenessGame_winner) fun _ _ _ _ _ _ us hl => match us, hl with | [_, _, _], _ => rfl
  have F_LikenessGame_attack := fun_mk (st := s_LikenessGame_attack) l21 c21 k21
  have b_LikenessGame_attack := F_LikenessGame_attack.binds (ps := a_LikenessGame_attack) fun _ _ _ _ _ _ us hl => match us, hl with | [_, _, _], _ => rfl
  have F_LikenessGame_answer := fun_mk (st := s_LikenessGame_answer) l22 c22 k22
  have b_LikenessGame_answer := F_LikenessGame_answer.binds (ps := a_LikenessGame_answer) fun _ _ _ _ _ _ us hl => match us, hl with | [_, _, _, _, _, _], _ => rfl
  have F_LikenessGame__answers := fun_mk (st := s_LikenessGame__answers) l23 c23 k23
  have b_LikenessGame__answers := F_LikenessGame__answers.binds (ps := a_LikenessGame__answers) fun _ _ _ _ _ _ us hl => match us, hl with | [_, _, _, _, _], _ => rfl
  have F_law_draws := fun_mk (st := s_law_draws) l24 c24 k24
  have b_law_draws := F_law_draws.binds (ps := a_law_draws) fun _ _ _ _ _ _ us hl => match us, hl with | [_, _], _ => rfl
  have m_law_draws := PySem.W.mg_of X G a24
  have F_law_take := fun_mk (st := s_law_take) l25 c25 k25
  have b_law_take := F_law_take.binds (ps := a_law_take) fun _ _ _ _ _ _ us hl => match us, hl with | [_, _], _ => rfl
  have m_law_take := PySem.W.mg_of X G a25
  have F_law_is_integer := fun_mk (st := s_law_is_integer) l26 c26 k26
  have b_law_is_integer := F_law_is_integer.binds (ps := a_law_is_integer) fun _ _ _ _ _ _ us hl => match us, hl with | [_], _ => rfl
  have m_law_is_integer := PySem.W.mg_of X G a26
  have F_law_world := fun_mk (st := s_law_world) l27 c27 k27
  have b_law_world := F_law_world.binds (ps := a_law_world) fun _ _ _ _ _ _ us hl => match us, hl with | [_, _, _], _ => rfl
  have m_law_world := PySem.W.mg_of X G a27
  have F_law_made := fun_mk (st := s_law_made) l28 c28 k28
  have b_law_made := F_law_made.binds (ps := a_law_made) fun _ _ _ _ _ _ us hl => match us, hl with | [_, _, _], _ => rfl
  have m_law_made := PySem.W.mg_of X G a28
  have F_law_behind := fun_mk (st := s_law_behind) l29 c29 k29
  have b_law_behind := F_law_behind.binds (ps := a_law_behind) fun _ _ _ _ _ _ us hl => match us, hl with | [_, _, _], _ => rfl
  have m_law_behind := PySem.W.mg_of X G a29
  have F_law_classes := fun_mk (st := s_law_classes) l30 c30 k30
  have b_law_classes := F_law_classes.binds (ps := a_law_classes) fun _ _ _ _ _ _ us hl => match us, hl with | [_], _ => rfl
  have m_law_classes := PySem.W.mg_of X G a30
  have F_law_outcome := fun_mk (st := s_law_outcome) l31 c31 k31
  have b_law_outcome := F_law_outcome.binds (ps := a_law_outcome) fun _ _ _ _ _ _ us hl => match us, hl with | [_], _ => rfl
  have m_law_outcome := PySem.W.mg_of X G a31
  have F_law_attacked := fun_mk (st := s_law_attacked) l32 c32 k32
  have b_law_attacked := F_law_attacked.binds (ps := a_law_attacked) fun _ _ _ _ _ _ us hl => match us, hl with | [_, _, _, _, _], _ => rfl
  have m_law_attacked := PySem.W.mg_of X G a32
  have F_law_answered := fun_mk (st := s_law_answered) l33 c33 k33
  have b_law_answered := F_law_answered.binds (ps := a_law_answered) fun _ _ _ _ _ _ us hl => match us, hl with | [_, _, _, _, _, _], _ => rfl
  have m_law_answered := PySem.W.mg_of X G a33
  have F_law := fun_mk (st := s_law) l34 c34 k34
  have T : Txt K mg C_World C_World C_World := ⟨PySem.W.mg_none_of X G z_all, PySem.W.mg_none_of X G z_bool, PySem.W.mg_none_of X G z_enumerate, PySem.W.mg_none_of X G z_int, PySem.W.mg_none_of X G z_isinstance, PySem.W.mg_none_of X G z_len, PySem.W.mg_none_of X G z_list, PySem.W.mg_none_of X G z_range, PySem.W.mg_none_of X G z_set, PySem.W.mg_none_of X G z_sorted, PySem.W.mg_none_of X G z_tuple, PySem.W.mg_none_of X G z_zip⟩
  have TE : TxtEW K mg NC := ⟨PySem.W.mg_of X G e_gC, e_xC, e_kC, e_bC, e_tC, exm_own e_bC e_xd e_tC e_sC⟩
  have TC : TxtC K C_World := ⟨⟨pg_World, hd_World, po_World, sa_World⟩, n_World_labels, n_World_facts, n_World_states, n_World_steps, n_World__ends⟩
  have TD : TxtRo K C_Rounds := ⟨⟨pg_Rounds, hd_Rounds, po_Rounds, sa_Rounds⟩, n_Rounds__many, n_Rounds__before, n_Rounds__blocks, n_Rounds__fresh⟩
  have TG : TxtGa K C_LikenessGame := ⟨⟨pg_LikenessGame, hd_LikenessGame, po_LikenessGame, sa_LikenessGame⟩, n_LikenessGame__world, n_LikenessGame__rounds⟩
  have TL : TxtTL K mg LC := ⟨PySem.W.mg_of X G q_gC, q_xC, q_kC, q_bC, q_tC, exm_own q_bC q_xd q_tC q_sC⟩
  have TR : TxtL mg t_MOST_LABELS t_MOST_FACTS t_MOST_STATES_worlds := ⟨PySem.W.mg_of X G aI_MOST_LABELS, PySem.W.mg_of X G aI_MOST_FACTS, PySem.W.mg_of X G aI_MOST_STATES_worlds⟩
  subst hc_ascends
  have aT_ascends : PySem.W.tabIn K "ascends" = some (c_ascends, t_ascends) := by
    simp only [PySem.W.tabIn, a12, l12, PySem.W.fnOf, lc_ascends, pT_ascends]
  have FC : FunC K "ascends" "ascends" s_ascends f12 _ c_ascends := ⟨⟨_, _, _, _, _, _, _, _, rfl, l12, c12⟩⟩
  refine ⟨PySem.W.fnOf "law" "law" (defArgs s_law) (defBody s_law) (defScope s_law) .none kV34 dc34 pm34 an34 cd34 ct34, c_ascends, t_ascends, aT_ascends, nT_ascends, fun s u => .of_eq rfl, fun base _ _ TB => ?_⟩
  have h_num : Has P w K mg base "is_number" 1 a_is_number spNum := ⟨_, _, m_is_number, F_is_number.kp, b_is_number, ok_is_number F_is_number T⟩
  have h_asc : Has P w K mg base "ascends" 4 a_ascends (spAsc K t_ascends) := ⟨_, _, m_ascends, F_ascends.kp, b_ascends, ok_ascends FC T TB⟩
  have h_ckn : HasX P w K mg base "check_numbers" 2 a_check_numbers (spCkN NC) := ⟨_, _, m_check_numbers, F_check_numbers.kp, b_check_numbers, ok_check_numbers F_check_numbers T TE TR h_num⟩
  have h_cks : HasX P w K mg base "check_states" 5 a_check_states (spCkS K NC C_World t_ascends) := ⟨_, _, m_check_states, F_check_states.kp, b_check_states, ok_check_states F_check_states T TC TE TR h_num h_asc⟩
  have h_ckt : HasX P w K mg base "check_steps" 5 a_check_steps (spCkT K NC C_World t_ascends) := ⟨_, _, m_check_steps, F_check_steps.kp, b_check_steps, ok_check_steps F_check_steps T TC TE h_num h_asc⟩
  have h_ends : Has P w K mg base "ends_of" 1 a_ends_of (spEnds K) := ⟨_, _, m_ends_of, F_ends_of.kp, b_ends_of, ok_ends_of F_ends_of T⟩
  have h_World : HasCX P w K mg base "World" C_World 6 a_World_init (spWInit K NC C_World t_ascends) := ⟨_, _, PySem.W.mg_of X G aC_World, ⟨mk_World, a13, i13, kc_World⟩, b_World_init, ok_World_init F_World_init T TC h_ckn h_cks h_ckt h_ends⟩
  have h_sti : Has P w K mg base "states_in" 1 a_states_in spSt := ⟨_, _, m_states_in, F_states_in.kp, b_states_in, ok_states_in F_states_in⟩
  have h_led : Has P w K mg base "led" 2 a_led spLed := ⟨_, _, m_led, F_led.kp, b_led, ok_led F_led h_sti⟩
  have h_stm : Has P w K mg base "step_masks" 1 a_step_masks (spSM K) := ⟨_, _, m_step_masks, F_step_masks.kp, b_step_masks, ok_step_masks F_step_masks⟩
  have h_like : Has P w K mg base "like_at_once" 1 a_like_at_once (spLike K) := ⟨_, _, m_like_at_once, F_like_at_once.kp, b_like_at_once, ok_like_at_once F_like_at_once T⟩
  have h_least : Has P w K mg base "least_of" 1 a_least_of spLeast := ⟨_, _, m_least_of, F_least_of.kp, b_least_of, ok_least_of F_least_of⟩
  have h_cut : Has P w K mg base "cut_up" 1 a_cut_up spCut := ⟨_, _, m_cut_up, F_cut_up.kp, b_cut_up, ok_cut_up F_cut_up⟩
  have M_ad : Meth K C_Rounds "advance" f4 := ⟨a4, i4, k4⟩
  have M_nu : Meth K C_Rounds "numbers" f5 := ⟨a5, i5, k5⟩
  have g_ad := ok_Rounds_advance (P := P) (w := w) (mg := mg) (base := base) F_Rounds_advance T TD h_led h_cut
  have g_nu := ok_Rounds_numbers (P := P) (w := w) (mg := mg) (base := base) F_Rounds_numbers T TD h_sti h_least
  have h_Rounds : HasC P w K mg base "Rounds" C_Rounds 2 a_Rounds_init (spRo K C_Rounds) := ⟨_, _, PySem.W.mg_of X G aC_Rounds, ⟨mk_Rounds, a3, i3, kc_Rounds⟩, b_Rounds_init, ok_Rounds_init F_Rounds_init T TD h_stm h_like⟩
  have h_all : Has P w K mg base "all_rounds" 6 a_all_rounds (spAllR K C_World) := ⟨_, _, m_all_rounds, F_all_rounds.kp, b_all_rounds, ok_all_rounds F_all_rounds T TC TD h_Rounds M_ad g_ad b_Rounds_advance M_nu g_nu b_Rounds_numbers⟩
  have h_fst : Has P w K mg base "first_round" 1 a_first_round (spFstR K) := ⟨_, _, m_first_round, F_first_round.kp, b_first_round, ok_first_round F_first_round T⟩
  have h_fol : Has P w K mg base "followers" 1 a_followers (spFol K C_World) := ⟨_, _, m_followers, F_followers.kp, b_followers, ok_followers F_followers T TC⟩
  have M_wi : Meth K C_LikenessGame "winner" f20 := ⟨a20, i20, k20⟩
  have M_at : Meth K C_LikenessGame "attack" f21 := ⟨a21, i21, k21⟩
  have M_an : Meth K C_LikenessGame "answer" f22 := ⟨a22, i22, k22⟩
  have M_as : Meth K C_LikenessGame "_answers" f23 := ⟨a23, i23, k23⟩
  have g_wi := ok_winner (P := P) (w := w) (mg := mg) (base := base) (WC := C_World) F_LikenessGame_winner T TG
  have g_as := ok_answers (P := P) (w := w) (mg := mg) (base := base) F_LikenessGame__answers T TG h_fol
  have g_an := ok_answer F_LikenessGame_answer T TG M_as g_as b_LikenessGame__answers
  have g_at := ok_attack F_LikenessGame_attack T TC TG h_fst h_fol M_as g_as b_LikenessGame__answers
  have h_Game : HasCX P w K mg base "LikenessGame" C_LikenessGame 7 a_LikenessGame_init (spGIn K C_World C_LikenessGame LC) := ⟨_, _, PySem.W.mg_of X G aC_LikenessGame, ⟨mk_LikenessGame, a19, i19, kc_LikenessGame⟩, b_LikenessGame_init, ok_Game_init F_LikenessGame_init T TC TG TL (PySem.W.mg_of X G aI_MOST_STATES_likegames) h_all⟩
  have h_out : Has P w K mg base "_law_outcome" 9 a_law_outcome (spLOut K C_World C_LikenessGame) := ⟨_, _, m_law_outcome, F_law_outcome.kp, b_law_outcome, ok_law_outcome F_law_outcome T TL h_Game⟩
  have h_draws : Has P w K mg base "_law_draws" 1 a_law_draws (spDraws K) := ⟨_, _, m_law_draws, F_law_draws.kp, b_law_draws, ok_law_draws F_law_draws T⟩
  have h_take : Has P w K mg base "_law_take" 1 a_law_take spTake := ⟨_, _, m_law_take, F_law_take.kp, b_law_take, ok_law_take F_law_take T⟩
  have h_world : Has P w K mg base "_law_world" 2 a_law_world spWorld := ⟨_, _, m_law_world, F_law_world.kp, b_law_world, ok_law_world F_law_world T h_take⟩
  have h_behind : Has P w K mg base "_law_behind" 1 a_law_behind (spBehind K) := ⟨_, _, m_law_behind, F_law_behind.kp, b_law_behind, ok_law_behind F_law_behind T⟩
  have h_made : HasX P w K mg base "_law_made" 8 a_law_made (spMade K C_World t_ascends) := ⟨_, _, m_law_made, F_law_made.kp, b_law_made, ok_law_made F_law_made T h_World⟩
  have h_int : Has P w K mg base "_law_is_integer" 1 a_law_is_integer spIsInt := ⟨_, _, m_law_is_integer, F_law_is_integer.kp, b_law_is_integer, ok_law_is_integer F_law_is_integer T⟩
  have h_lcls : Has P w K mg base "_law_classes" 2 a_law_classes (spLCls K) := ⟨_, _, m_law_classes, F_law_classes.kp, b_law_classes, ok_law_classes F_law_classes T h_behind⟩
  have h_atd : Has P w K mg base "_law_attacked" 4 a_law_attacked (spAttd K C_World C_LikenessGame) := ⟨_, _, m_law_attacked, F_law_attacked.kp, b_law_attacked, ok_law_attacked F_law_attacked T TG h_take h_behind M_at g_at b_LikenessGame_attack⟩
  have h_asd : Has P w K mg base "_law_answered" 4 a_law_answered (spAnsd K C_World C_LikenessGame) := ⟨_, _, m_law_answered, F_law_answered.kp, b_law_answered, ok_law_answered F_law_answered T TG h_take h_behind M_an g_an b_LikenessGame_answer⟩
  exact ok_law F_law T TC TG h_draws h_take h_world h_made h_World h_out h_lcls h_int h_atd h_asd M_wi g_wi b_LikenessGame_winner
theorem walk {l : PySem.W.OpenLaw} {q : Program} {loose : List Str} {XP : (Str → Option Value) → Heap → Prop} {YP : World → Heap → Prop} {d dA : DefRec} {K : Params → PySem.W.Frag} (hn : l.most = some 63) (hdf : d.params.defaults = [])
    (hY : ∀ (w : World) (h : Heap), YP w h → (K w.params).In h) (hA : (recsOf q).find? (fun e => e.name == ("ascends" : Str)) = some dA)
    (F : ∀ (w : World) (mg : Str → Option Value) (fa : Addr) (h : Heap), (K w.params).In h → h.Ns mainGlobals mg → mg d.name = some (.ref fa) → Top34 l.prog w (K w.params) mg fa) :
    PySem.W.WalkO q loose XP YP l.row.toRowW d [] (fun f vs => PySem.call f vs) := by
  refine Att.attach_callB hn hdf fun w s₀ s₁ mg mb fa o pm cd doc a vs ns G Y ho hd hcd hmg hobj hints hlen hbits hg => ?_
  have KX := hY w _ Y
  obtain ⟨fd, cA, tA, tA1, nT, hb, hF⟩ := F w mg fa _ KX G.T.g hmg
  obtain ⟨C, hT⟩ := PySem.W.tab_of G.T KX hA tA1
  refine LamX.law_callTs (cs := [(cA, tA)]) (k := 10) (sp := spLaw (K w.params) tA) (CX := CX0) KX G.T.g G.T.b G.T.builtins G.T.nolimit hg (fun p hp => ?_) (fun p hp => ?_) (fun p hp => ?_) G.T.bmain hobj hints (Nat.le_trans hlen (by decide)) ⟨rfl, by decide, by decide⟩ (fun base b1 b2 TB => ?_) hb (fun H hH hS => ?_) fun H e s' z => z
  · rw [List.mem_singleton.mp hp]; exact hT
  · rw [List.mem_singleton.mp hp]; exact nT
  · rw [List.mem_singleton.mp hp]; exact C
  · have tb := TB _ List.mem_cons_self
    exact hF base b1 b2 ⟨tb.code, tb.bm, tb.gP⟩
  · exact ⟨a, ns, rfl, hS, ⟨_, hH _ List.mem_cons_self, trivial⟩, hlen, fun _ => rfl⟩
end Fw

set_option maxRecDepth 100000
open PySem PySem.W PyProof.Rows
set_option maxHeartbeats 0 in
theorem PySem.Challenge.cw_fixworlds_k34_whole_likeness_games_holds : PySem.Challenge.rw_fixworlds_k34_whole_likeness_games.Holds := by
  w_on; o_law; k_head; (case hw => w_witness2)
  k_fill
  refine Fw.walk (l := PySem.Challenge.rw_fixworlds_k34_whole_likeness_games) rfl rfl (fun w h Y => PySem.W.kIn_of Y) rfl ?F
  case F =>
    intro w mg fa h KX G hmg
    refine' Fw.all_mk KX G hmg ?aC_Rounds ?aC_World ?aC_LikenessGame ?a0 ?l0 ?c0 ?k0 ?a1 ?l1 ?c1 ?k1 ?a2 ?l2 ?c2 ?k2 ?a3 ?i3 ?l3 ?c3 ?k3 ?a4 ?i4 ?l4 ?c4 ?k4 ?a5 ?i5 ?l5 ?c5 ?k5 ?a6 ?l6 ?c6 ?k6 ?a7 ?l7 ?c7 ?k7 ?a8 ?l8 ?c8 ?k8 ?a9 ?l9 ?c9 ?k9 ?a10 ?l10 ?c10 ?k10 ?a11 ?l11 ?c11 ?k11 ?a12 ?l12 ?c12 ?k12 ?a13 ?i13 ?l13 ?c13 ?k13 ?a14 ?l14 ?c14 ?k14 ?a15 ?l15 ?c15 ?k15 ?a16 ?l16 ?c16 ?k16 ?a17 ?l17 ?c17 ?k17 ?a18 ?l18 ?c18 ?k18 ?a19 ?i19 ?l19 ?c19 ?k19 ?a20 ?i20 ?l20 ?c20 ?k20 ?a21 ?i21 ?l21 ?c21 ?k21 ?a22 ?i22 ?l22 ?c22 ?k22 ?a23 ?i23 ?l23 ?c23 ?k23 ?a24 ?l24 ?c24 ?k24 ?a25 ?l25 ?c25 ?k25 ?a26 ?l26 ?c26 ?k26 ?a27 ?l27 ?c27 ?k27 ?a28 ?l28 ?c28 ?k28 ?a29 ?l29 ?c29 ?k29 ?a30 ?l30 ?c30 ?k30 ?a31 ?l31 ?c31 ?k31 ?a32 ?l32 ?c32 ?k32 ?a33 ?l33 ?c33 ?k33 ?a34 ?l34 ?c34 ?k34 ?pg_Rounds ?hd_Rounds ?po_Rounds ?sa_Rounds ?mk_Rounds ?kc_Rounds ?n_Rounds__many ?n_Rounds__before ?n_Rounds__blocks ?n_Rounds__fresh ?pg_World ?hd_World ?po_World ?sa_World ?mk_World ?kc_World ?n_World_labels ?n_World_facts ?n_World_states ?n_World_steps ?n_World__ends ?pg_LikenessGame ?hd_LikenessGame ?po_LikenessGame ?sa_LikenessGame ?mk_LikenessGame ?kc_LikenessGame ?n_LikenessGame__world ?n_LikenessGame__rounds ?z_all ?z_bool ?z_enumerate ?z_int ?z_isinstance ?z_len ?z_list ?z_range ?z_set ?z_sorted ?z_tuple ?z_zip ?aI_MOST_LABELS ?aI_MOST_FACTS ?aI_MOST_STATES_worlds ?aI_MOST_STATES_likegames ?e_gC ?e_xC ?e_kC ?e_bC ?e_tC ?e_sC ?e_xd ?q_gC ?q_xC ?q_kC ?q_bC ?q_tC ?q_sC ?q_xd ?hc_ascends ?lc_ascends ?pT_ascends ?nT_ascends
    (case aC_Rounds => k_is)
    (case aC_World => k_is)
    (case aC_LikenessGame => k_is)
    (case a0 => k_is)
    (case l0 => k_is)
    (case c0 => k_is)
    (case k0 => k_is)
    (case a1 => k_is)
    (case l1 => k_is)
    (case c1 => k_is)
    (case k1 => k_is)
    (case a2 => k_is)
    (case l2 => k_is)
    (case c2 => k_is)
    (case k2 => k_is)
    (case a3 => k_is)
    (case i3 => k_is)
    (case l3 => k_is)
    (case c3 => k_is)
    (case k3 => k_is)
    (case a4 => k_is)
    (case i4 => k_is)
    (case l4 => k_is)
    (case c4 => k_is)
    (case k4 => k_is)
    (case a5 => k_is)
    (case i5 => k_is)
    (case l5 => k_is)
    (case c5 => k_is)
    (case k5 => k_is)
    (case a6 => k_is)
    (case l6 => k_is)
    (case c6 => k_is)
    (case k6 => k_is)
    (case a7 => k_is)
    (case l7 => k_is)
    (case c7 => k_is)
    (case k7 => k_is)
    (case a8 => k_is)
    (case l8 => k_is)
    (case c8 => k_is)
    (case k8 => k_is)
    (case a9 => k_is)
    (case l9 => k_is)
    (case c9 => k_is)
    (case k9 => k_is)
    (case a10 => k_is)
    (case l10 => k_is)
    (case c10 => k_is)
    (case k10 => k_is)
    (case a11 => k_is)
    (case l11 => k_is)
    (case c11 => k_is)
    (case k11 => k_is)
    (case a12 => k_is)
    (case l12 => k_is)
    (case c12 => k_is)
    (case k12 => k_is)
    (case a13 => k_is)
    (case i13 => k_is)
    (case l13 => k_is)
    (case c13 => k_is)
    (case k13 => k_is)
    (case a14 => k_is)
    (case l14 => k_is)
    (case c14 => k_is)
    (case k14 => k_is)
    (case a15 => k_is)
    (case l15 => k_is)
    (case c15 => k_is)
    (case k15 => k_is)
    (case a16 => k_is)
    (case l16 => k_is)
    (case c16 => k_is)
    (case k16 => k_is)
    (case a17 => k_is)
    (case l17 => k_is)
    (case c17 => k_is)
    (case k17 => k_is)
    (case a18 => k_is)
    (case l18 => k_is)
    (case c18 => k_is)
    (case k18 => k_is)
    (case a19 => k_is)
    (case i19 => k_is)
    (case l19 => k_is)
    (case c19 => k_is)
    (case k19 => k_is)
    (case a20 => k_is)
    (case i20 => k_is)
    (case l20 => k_is)
    (case c20 => k_is)
    (case k20 => k_is)
    (case a21 => k_is)
    (case i21 => k_is)
    (case l21 => k_is)
    (case c21 => k_is)
    (case k21 => k_is)
    (case a22 => k_is)
    (case i22 => k_is)
    (case l22 => k_is)
    (case c22 => k_is)
    (case k22 => k_is)
    (case a23 => k_is)
    (case i23 => k_is)
    (case l23 => k_is)
    (case c23 => k_is)
    (case k23 => k_is)
    (case a24 => k_is)
    (case l24 => k_is)
    (case c24 => k_is)
    (case k24 => k_is)
    (case a25 => k_is)
    (case l25 => k_is)
    (case c25 => k_is)
    (case k25 => k_is)
    (case a26 => k_is)
    (case l26 => k_is)
    (case c26 => k_is)
    (case k26 => k_is)
    (case a27 => k_is)
    (case l27 => k_is)
    (case c27 => k_is)
    (case k27 => k_is)
    (case a28 => k_is)
    (case l28 => k_is)
    (case c28 => k_is)
    (case k28 => k_is)
    (case a29 => k_is)
    (case l29 => k_is)
    (case c29 => k_is)
    (case k29 => k_is)
    (case a30 => k_is)
    (case l30 => k_is)
    (case c30 => k_is)
    (case k30 => k_is)
    (case a31 => k_is)
    (case l31 => k_is)
    (case c31 => k_is)
    (case k31 => k_is)
    (case a32 => k_is)
    (case l32 => k_is)
    (case c32 => k_is)
    (case k32 => k_is)
    (case a33 => k_is)
    (case l33 => k_is)
    (case c33 => k_is)
    (case k33 => k_is)
    (case a34 => k_is)
    (case l34 => k_is)
    (case c34 => k_is)
    (case k34 => k_is)
    (case pg_Rounds => k_is)
    (case hd_Rounds => k_is)
    (case po_Rounds => k_is)
    (case sa_Rounds => k_is)
    (case mk_Rounds => k_is)
    (case kc_Rounds => k_is)
    (case n_Rounds__many => k_is)
    (case n_Rounds__before => k_is)
    (case n_Rounds__blocks => k_is)
    (case n_Rounds__fresh => k_is)
    (case pg_World => k_is)
    (case hd_World => k_is)
    (case po_World => k_is)
    (case sa_World => k_is)
    (case mk_World => k_is)
    (case kc_World => k_is)
    (case n_World_labels => k_is)
    (case n_World_facts => k_is)
    (case n_World_states => k_is)
    (case n_World_steps => k_is)
    (case n_World__ends => k_is)
    (case pg_LikenessGame => k_is)
    (case hd_LikenessGame => k_is)
    (case po_LikenessGame => k_is)
    (case sa_LikenessGame => k_is)
    (case mk_LikenessGame => k_is)
    (case kc_LikenessGame => k_is)
    (case n_LikenessGame__world => k_is)
    (case n_LikenessGame__rounds => k_is)
    (case z_all => k_is)
    (case z_bool => k_is)
    (case z_enumerate => k_is)
    (case z_int => k_is)
    (case z_isinstance => k_is)
    (case z_len => k_is)
    (case z_list => k_is)
    (case z_range => k_is)
    (case z_set => k_is)
    (case z_sorted => k_is)
    (case z_tuple => k_is)
    (case z_zip => k_is)
    (case aI_MOST_LABELS => k_is)
    (case aI_MOST_FACTS => k_is)
    (case aI_MOST_STATES_worlds => k_is)
    (case aI_MOST_STATES_likegames => k_is)
    (case e_gC => k_is)
    (case e_xC => k_exc)
    (case e_kC => k_is)
    (case e_bC => k_is)
    (case e_tC => k_is)
    (case e_sC => first | rfl | k_is)
    (case e_xd => k_is)
    (case q_gC => k_is)
    (case q_xC => k_exc)
    (case q_kC => k_is)
    (case q_bC => k_is)
    (case q_tC => k_is)
    (case q_sC => first | rfl | k_is)
    (case q_xd => k_is)
    (case hc_ascends => rfl)
    (case lc_ascends => k_is)
    (case pT_ascends => rfl)
    (case nT_ascends => first | rfl | kernel_rfl | decide)

