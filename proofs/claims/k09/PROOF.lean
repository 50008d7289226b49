import PyProof.Rows.All
import Wide.All
import OpenK.AllK
import Wide.FinOn
import PyProof.EqAt
import PyProof.EqKinds
import PyProof.TupleCall
import HandS.ForMost
import HandS.ForExc
import HandS.Strs
import HandS.SetFor
import HandS.SetBool
import HandS.Walk
import HandS.TupAny
import HandS.Rev
import HandS.RevRange
import HandS.IsInst
import HandS.SortInts
import HandS.ExcIs
import HandS.Flow
import PySem.Challenge.RW_fixworlds_k09_world_texts
import HandS.AnyAll
import HandS.Zip
import PyProof.GenCompD
import HandS.SetKeys
import HandS.SortRule
import PyProof.DictMoreH
import HandS.NamedTupSort
import KE.KSortTupAny
import HandS.Text
import HandS.Codes
import HandS.StrMore
import HandS.Comp
import HandS.Exc
import HandS.TryOnly
import HandS.ExcOwn
import HandS.TupSets
import HandS.EndTab
set_option Elab.async false
set_option linter.all false
set_option maxRecDepth 100000
set_option maxHeartbeats 4000000
/-! two rules for sets of ints: made of a list, and by a comprehension -/
namespace Fw
open PySem PySem.Spec PyProof.Rows L2
abbrev freshSet (w : World) : Obj :=
  { cls := .type "set", dict := none, data := .set #[] 0 (.fresh 0 0 (!w.params.followText "set-order")) }
section
variable {P : Program} {w : World} {A : Around} {E : Value → Shared → Prop} {s : Shared}
/-- set(xs), xs a list of ints -/
theorem setOfList {l : Addr} {its : Array Value} (ns : List Int) {Q : Value → Shared → Prop}
    (quiet : A.handled = none) (lst : s.heap.IsList l its) (iv : IntsAre its.toList ns) (few : ns.length + 1 < scanBound)
    (next : ∀ (h' : Heap) (tk c : Nat), SetR w h' s.heap.objs.size (fun j => decide (j ∈ ns)) c → c ≤ ns.length →
      (∀ b o, s.heap.get? b = some o → h'.get? b = some o) → Q (.ref s.heap.objs.size) { s with heap := h', toks := tk }) :
    wpAny (model P w) A (call (.type "set") [.ref l]) Q E s := by
  have many : its.size = ns.length := by
    rw [← Array.length_toList]
    exact IntsAre.length iv
  have f1 := F.called_set.mro
  obtain ⟨c, tl, hmro⟩ := f1
  have f2 := F.called_set.made
  have f3 := F.called_set.sub
  refine wpAny_call (codeAny_of_tree ?_)
  show wpAny _ _ (callAny (.type "set") _) _ _ _
  refine wpAny_pure ⟨Code.quiet_builtin _ (by decide +kernel), codeAny_builtin F.entry_type_call ?_⟩
  rw [Around.under_plain (weight_type_call_type "set" [.ref l] []) rfl]
  have f4 := F.called_set.notType
  have f5 := F.called_set.canCreate
  have f6 := F.typeCall_set_1 (.ref l)
  repeat (any_goals (first | assumption | wp_step))
  generalize hN : s.heap.objs.size = N
  refine codeAny_mono (code_set_led1 (.ref l) (E := E)
    (Q₁ := fun v t => v = .ref N ∧ t = { s with heap := s.heap.push (freshSet w) }) ⟨by rw [hN], rfl⟩) fun r s₁ hr => ?_
  rcases r with e | fl
  · exact hr
  · cases fl
    case ret v =>
      obtain ⟨rfl, rfl⟩ := hr
      have got : (s.heap.push (freshSet w)).get? N = some (freshSet w) := by
        rw [← hN]
        exact Heap.get?_push_size _ rfl
      have ty : Shared.TypeIs { s with heap := s.heap.push (freshSet w) } (.ref N) "set" := ⟨_, got, rfl⟩
      have g1 := F.called_set.init.lookup
      have g2 := F.called_set.init.bind (.ref N)
      repeat (any_goals (first | assumption | wp_step))
      refine codeAny_mono (codeAny_call_builtin (R := wants (fun v t => v = .none ∧ ∃ h' tk c, t = { s with heap := h', toks := tk } ∧
          SetR w h' N (fun j => decide (j ∈ ns)) c ∧ c ≤ ns.length ∧ (∀ b o, s.heap.get? b = some o → h'.get? b = some o)) E)
          F.called_set.init.plain F.entry_set_init (check_set_init_1 ty ?_)) fun r₂ s₂ hr₂ => ?_
      · obtain ⟨ol, hol, hcl, nl, hdl⟩ := lst
        obtain ⟨ocls, odict, odata, oslots⟩ := ol
        simp only at hcl hdl
        subst hcl
        subst hdl
        have hol' : (s.heap.push (freshSet w)).get? l = some { cls := .type "list", dict := odict, data := .seq its nl, slots := oslots } :=
          Heap.get?_push_of_some _ hol
        have k1 := F.sub_list_set
        have k2 := F.sub_list_frozenset
        have k3 : (Value.type "list" == Value.type "dict") = false := by decide
        have lst1 : (s.heap.push (freshSet w)).IsList l its := ⟨_, hol', rfl, nl, rfl⟩
        unfold Builtin.«set.__init__» noKeywords Builtin.Frozenset.updateFrom
        generalize hPI : pyIter = PI
        wp_walk
        subst hPI
        refine wpAny_pyIter_list lst1 (wpAny_bind (wpAny_runValue ?_))
        have lN : l < N := by
          rw [← hN]
          exact Heap.lt_size hol
        have quiet3 : A.in1.in1.in1.handled = none := by simp [quiet]
        have size1 : (s.heap.push (freshSet w)).objs.size = N + 1 := by rw [Heap.size_push, hN]
        have l1 : l ≠ (s.heap.push (freshSet w)).objs.size := by
          rw [size1]
          exact Nat.ne_of_lt (Nat.lt_succ_of_lt lN)
        have n1 : N ∉ [(s.heap.push (freshSet w)).objs.size, l] := by
          rw [size1]
          simp only [List.mem_cons, List.not_mem_nil, or_false, not_or]
          exact ⟨Nat.ne_of_lt (Nat.lt_succ_self _), Nat.ne_of_gt lN⟩
        refine set_update_ints ((Walks.list quiet3 _ l l1 its).toS) N n1 ns many few (fun i v hv => ?_) (its.size - 0) 0 _ (by omega) (Nat.zero_le _)
          ⟨⟨_, Heap.get?_push_size _ rfl, rfl, rfl⟩, lst1.push _⟩ ⟨0, Nat.le_refl 0, setR_new_at (Heap.get?_push_of_some _ got)⟩ fun s' c' hm hc' hS' => ?_
        · have hi : i < ns.length := by
            rw [← many]
            exact (Array.getElem?_eq_some_iff.mp hv).1
          obtain ⟨t, e⟩ := PyProof.Rows.IntsAre.int_at iv i v (by rw [Array.getElem?_toList]; exact hv)
          refine ⟨ns[i], t, List.getElem?_eq_getElem hi, ?_⟩
          rw [e, List.getD_eq_getElem?_getD, List.getElem?_eq_getElem hi]
          rfl
        · obtain ⟨h', g2, d', tk', os'⟩ := s'
          obtain rfl : g2 = s.gens := hm.gens
          obtain rfl : d' = s.drawn := hm.drawn
          obtain rfl : os' = s.os := hm.os
          show wpAny _ _ _ _ _ _
          refine wpAny_pure ?_
          show wpAny _ _ (ret Value.none) _ _ _
          rw [many] at hc'
          refine wpAny_pure ⟨rfl, h', tk', c', rfl, hS', hc', fun b o e => ?_⟩
          have bN : b < N := by
            rw [← hN]
            exact Heap.lt_size e
          refine hm.heap b o ?_ (Heap.get?_push_of_some _ (Heap.get?_push_of_some _ e))
          rw [size1]
          simp only [List.mem_cons, List.not_mem_nil, or_false, not_or]
          exact ⟨Nat.ne_of_lt bN, Nat.ne_of_lt (Nat.lt_succ_of_lt bN)⟩
      · rcases r₂ with e | fl₂
        · exact hr₂
        · cases fl₂
          case ret r =>
            obtain ⟨rfl, h', tk, c', rfl, hS', hc', hk'⟩ := hr₂
            repeat (any_goals (first | assumption | wp_step))
            subst hN
            exact next _ _ _ hS' hc' hk'
          all_goals exact hr₂.elim
    all_goals exact hr.elim
end
end Fw

set_option maxRecDepth 100000
set_option maxHeartbeats 4000000
namespace Fw
open PySem PySem.Spec PyProof.Rows L2
theorem intsOfVals : ∀ {ns : List Int} {us : List Value}, Vals (ns.map V.int) us → IntsAre us ns
  | [], _, .nil => .nil
  | k :: _, _, .cons r t => by
    obtain ⟨tk, rfl⟩ := r
    exact .cons k tk (intsOfVals t)
theorem nodup_le : ∀ {l Vs : List Int}, l.Nodup → (∀ x ∈ l, x ∈ Vs) → l.length ≤ Vs.length
  | [], Vs, _, _ => Nat.zero_le _
  | a :: l, Vs, nd, h => by
    have nd' := List.nodup_cons.mp nd
    have ha := h a List.mem_cons_self
    have ih := nodup_le (Vs := Vs.erase a) nd'.2 fun x hx =>
      (List.mem_erase_of_ne (fun e => nd'.1 (by rw [← e]; exact hx))).mpr (h x (List.mem_cons_of_mem _ hx))
    have := List.length_erase_of_mem ha
    have : 0 < Vs.length := List.length_pos_of_mem ha
    rw [List.length_cons]
    omega
section
variable {X : Cx}
/-- set(xs), xs a list of ints -/
def rSetL (K : PySem.W.Frag) (w : World) : List V → Hp → VK → Prop := fun vs H Q => ∃ (l : Addr) (ns : List Int),
  vs = [V.ref l] ∧ SqL K H l (ns.map V.int) ∧ ns.length ≤ 4000 ∧
  ∀ p c, H p = none → c ≤ ns.length → (∀ Vs : List Int, (∀ x ∈ ns, x ∈ Vs) → c ≤ Vs.length) → Q (.ref p) (upd H p (SetO w p (fun j => decide (j ∈ ns)) c))
theorem call_setL (quiet : X.calm = true) : CallR X (.type "set") (rSetL X.K X.w) := by
  intro pins s σ H vs us Q I r h
  obtain ⟨l, ns, rfl, hl, few, q⟩ := h
  obtain ⟨its, rv, pl, _⟩ := I.list hl
  rw [Vals.ref1 r]
  have iv := intsOfVals rv
  have isl : s.heap.IsList l its.toArray := by
    obtain ⟨o, n, e1, e2, e3, e4⟩ := pl
    exact ⟨o, e1, e2, n, e4⟩
  refine setOfList ns (I.ok.hd quiet) isl (by simpa using iv) (Nat.lt_of_le_of_lt (Nat.succ_le_succ few) (by decide)) fun h' tk c R hc kp => ?_
  have fr : H s.heap.objs.size = none := I.hok.fresh (Nat.le_refl _)
  refine ⟨.ref _, _, I.laid (t' := tk) kp (Nat.le_refl _) (setO_new R), rfl, q _ c fr hc fun Vs hV => ?_⟩
  obtain ⟨o, es, ep, t, _, _, _, _, nd, mem, _, _, size, _⟩ := R
  rw [← size, ← Array.length_toList, ← List.length_map (f := keyOf)]
  exact nodup_le nd fun x hx => hV x (of_decide_eq_true ((mem x).mpr hx))
/-- what a comprehension of ints into a set asks: W tells the turns, D is the new set -/
def tSci (w : World) (wi : TI) (g : TG) (tt : TT) (te : TE) (vs : List Nat) : TE := fun σ H Q => wi σ H fun J H1 => ∀ D, H1 D = none →
  ∃ W : Nat → Nat → Hp → Prop, (∃ m, W 0 m (upd H1 D (SetO w D (fun _ => false) 0))) ∧ ∀ i m H, W i m H →
    (J.stop i H ∧ Q (.ref D) H) ∨ (J.go i H ∧ ∃ Nx : Hp → Prop, (∀ H', Nx H' → ∃ m', m' < m ∧ W (i + 1) m' H') ∧
      ∀ x H', J.yld i H x H' → g x (wipe σ vs) H' fun σ2 H2 => wipe σ2 vs = wipe σ vs ∧ tt σ2 H2 fun b H3 =>
        if b = true then te σ2 H3 fun y H4 => ∃ (k : Int) (S : Int → Bool) (n : Nat), y = .int k ∧ H4 D = some (SetO w D S n) ∧ n + 1 < scanBound ∧
          Nx (upd H4 D (SetO w D (fun j => S j || decide (j = k)) (if S k = true then n else n + 1))) else Nx H3)
theorem addInt {pins : List (Addr × Obj)} {σ : L2.St} {H : Hp} {s : Shared} {E : Value → Shared → Prop} {D : Addr} {S : Int → Bool} {n : Nat} {k : Int} {tk : Tok} {Q : Value → Shared → Prop}
    (I : Inv X pins σ H s) (at_ : H D = some (SetO X.w D S n)) (room : n + 1 < scanBound)
    (next : ∀ s', Inv X pins σ (upd H D (SetO X.w D (fun j => S j || decide (j = k)) (if S k = true then n else n + 1))) s' → Q .none s') :
    wpAny (model X.prog X.w) X.A (call (.builtin "set.add") [.ref D, .int k tk]) Q E s := by
  refine setR_add (setO_get I at_) room fun h' sb R => next _ ?_
  have there : ∃ u, h'.get? D = some u := by
    obtain ⟨o, _, _, _, e, _⟩ := id R
    exact ⟨o, e⟩
  exact I.write (e := D) (t' := s.toks + 1) (by rw [at_]; trivial) (.inl rfl) (fun b u hb hu => (sb.2 b hb).trans hu) there (setO_new R)
abbrev inner (X : Cx) (s : Shared) (scope : Scope) : Env :=
  compEnvC scope (cellsFrom (s.heap.objs.size + 1) scope.names (cloFrom X.env.cells scope.names [])) s.heap.objs.size X.env
theorem setComp {pins : List (Addr × Obj)} {s : Shared} {σ : L2.St} {H : Hp} {Q : VK} {elt tg iter : Expr} {ifs : List Expr} {scope : Scope} {own : List (PySem.Str × Nat)} {pos pos' : Pos} {wi : TI} {g : TG} {tt : TT} {te : TE}
    {use : Option (Value → Sem Unit)} {Qf : Value → Shared → Prop}
    (quiet : X.calm = true) (nd : X.N.Nodup) (I : Inv X pins σ H s) (ii : PI X tg iter wi) (blk : BlkOk X.N X.env.scope scope own)
    (gg : ∀ s H C cl fp, PG (X.blk s H scope (compEnvC scope cl C X.env) fp) tg g)
    (tts : ∀ s H C cl fp, PTs (X.blk s H scope (compEnvC scope cl C X.env) fp) ifs tt)
    (ee : ∀ s H C cl fp, PE (X.blk s H scope (compEnvC scope cl C X.env) fp) elt te)
    (fold : ∀ x, foldedSetIterable iter X.env x = pure x) (h : tSci X.w wi g tt te (own.map (·.2)) σ H Q)
    (fin : ∀ D C s' m H', Inv X pins σ H' s' → Q (.ref D) H' → s'.heap.Ns C m → FpOk X pins H' C →
      compPost (model X.prog X.w) X.A X.xe use Qf (.ref D) C (.ok .next) s') :
    wpAny (model X.prog X.w) X.A (comprehension (.SetComp elt [⟨tg, iter, ifs, 0⟩] scope pos) scope X.env pos' (newSet (.type "set")) false (eval iter X.env) use) Qf X.xe s := by
  have clo : ∀ y ∈ scope.names, y.2 = .free → ∃ c, X.env.cells.lookup y.1 = some c := fun y hy e =>
    (blk.free y hy e).elim (fun k => I.ok.has _ (.inl k)) fun k => I.ok.has _ (.inr k)
  refine wpAny_comprehension_free (use := use) rfl fold (closure_ok clo) blk.kind (fun y hy e => by rw [blk.uniq y hy, e])
    (thn (ii.run pins s σ H _ I h) fun xv s1 hx => thn hx fun itv s2 h2 => ?_)
  obtain ⟨it, fp, tn, J, H2, rfl, I2, T, t0, fp2, q⟩ := h2
  refine PpSet.newSet_ok (newEnv_comp ?_)
  generalize eD : s2.heap.objs.size = D
  obtain ⟨W, ⟨m0, w0⟩, turn⟩ := q D (I2.hok.fresh (Nat.le_of_eq eD))
  generalize e3 : ({ s2 with heap := s2.heap.push (freshSet X.w) } : Shared) = s3
  have heap3 : s3.heap = s2.heap.push (freshSet X.w) := by rw [← e3]
  have up3 : ∀ b o, s2.heap.get? b = some o → s3.heap.get? b = some o := fun b o e => by
    rw [heap3]
    exact Heap.get?_push_of_some _ e
  generalize eH : upd H2 D (SetO X.w D (fun _ => false) 0) = H3 at w0
  have I3 : Inv X pins σ H3 s3 := by
    rw [← eH, ← e3, ← eD]
    exact I2.laid (t' := s2.toks) (fun b o e => Heap.get?_push_of_some _ e) (Nat.le_refl _) (setO_new (setR_fresh X.w))
  have fp3 : ∀ b ∈ fp, FpOk X pins H3 b ∧ b < s3.heap.objs.size := fun b hb => by
    obtain ⟨o, e, _⟩ := T.obj _ _ t0 b hb
    have lt := Heap.lt_size e
    refine ⟨⟨?_, (fp2 b hb).2⟩, ?_⟩
    · rw [← eH, upd_ne (show b ≠ D by rw [← eD]; exact Nat.ne_of_lt lt)]
      exact (fp2 b hb).1
    · rw [heap3, Heap.size_push]
      exact Nat.lt_succ_of_lt lt
  have t3 : tn 0 s3.heap := T.keep _ _ _ t0 fun b _ o e => up3 b o e
  have I4 := block_start I3 blk nd fp3
  have g4 := gg s3 H3 s3.heap.objs.size (cellsFrom (s3.heap.objs.size + 1) scope.names (cloFrom X.env.cells scope.names [])) fp
  have t4 := tts s3 H3 s3.heap.objs.size (cellsFrom (s3.heap.objs.size + 1) scope.names (cloFrom X.env.cells scope.names [])) fp
  have e4 := ee s3 H3 s3.heap.objs.size (cellsFrom (s3.heap.objs.size + 1) scope.names (cloFrom X.env.cells scope.names [])) fp
  show codeAny _ _ (.compStart (.SetComp elt [⟨tg, iter, ifs, 0⟩] scope pos) 0 (.ref it) (.ref D)
      (compEnvC scope (cellsFrom (s3.heap.objs.size + 1) scope.names (cloFrom X.env.cells scope.names [])) s3.heap.objs.size X.env))
    (compPost (model X.prog X.w) X.A X.xe use Qf (.ref D) s3.heap.objs.size) { s3 with heap := pushCells (s3.heap.push { cls := .type "dict", data := .dict #[] }) scope.names }
  generalize eC : compEnvC scope (cellsFrom (s3.heap.objs.size + 1) scope.names (cloFrom X.env.cells scope.names [])) s3.heap.objs.size X.env = ce at I4 g4 t4 e4 ⊢
  have locs : ce.locals = s3.heap.objs.size := by
    subst eC
    rfl
  generalize eS : ({ s3 with heap := pushCells (s3.heap.push { cls := .type "dict", data := .dict #[] }) scope.names } : Shared) = s4 at I4 ⊢
  have ts4 : tn 0 s4.heap := T.keep _ _ _ t3 fun b _ o e => by
    rw [← eS]
    exact pushCells_keeps _ _ _ _ (Heap.get?_push_of_some _ e)
  have held : ∀ {σ' : L2.St} {H' : Hp} {s' : Shared}, Inv (X.blk s3 H3 scope ce fp) [] σ' H' s' → (∀ b ∈ fp, H' b = none) →
      ∀ b ∈ fp, FpOk (X.blk s3 H3 scope ce fp) [] H' b := fun {σ' H' s'} I' hn b hb =>
    have x := I'.ok.exf b hb
    ⟨hn b hb, x.1, I'.ok.exfs b hb, .inl hb, fun y c e => x.2 y c e, fun p hp => by cases hp⟩
  have body : codeAny (model X.prog X.w) X.A (.compLoop (.SetComp elt [⟨tg, iter, ifs, 0⟩] scope pos) 0 (.ref it) (.ref D) ce)
      (compPost (model X.prog X.w) X.A X.xe use Qf (.ref D) s3.heap.objs.size) s4 := by
    refine PpSet.compLoopS_any (fun n t => ∃ i G, Inv (X.blk s3 H3 scope ce fp) [] (wipe σ (own.map (·.2))) G t ∧ tn i t.heap ∧ (∀ b ∈ fp, G b = none) ∧ W i n G)
      ?_ m0 ⟨0, H3, I4, ts4, fun b hb => (fp3 b hb).1.1, w0⟩
    rintro n s5 ⟨i, H5, I5, t5, free5, w5⟩
    rcases turn i n H5 w5 with ⟨stop, qq⟩ | ⟨go, Nx, dec, step⟩
    · refine thnF (T.done (X.blk s3 H3 scope ce fp) rfl rfl rfl quiet i [] s5 _ H5 (fun _ _ => False) I5 (held I5 free5) t5 stop) fun r s6 ⟨hr, I6⟩ => ?_
      subst hr
      have free6 : H5 ce.locals = none := I6.free
      obtain ⟨m, ns6, _⟩ := I6.loc
      have ns6' : s6.heap.Ns ce.locals m := ns6
      rw [locs] at free6 ns6'
      have I7 : Inv X pins σ H5 s6 := I3.call' (ch := fp) I6.os I6.base I6.hok I6.bare fun b hb =>
        have z := (fp3 b hb).1
        ⟨z.2.2.2.1, z.2.1, z.2.2.2.2.1, z.2.2.2.2.2⟩
      exact fin D s3.heap.objs.size s6 m H5 I7 qq ns6' (I3.fpOk (Nat.le_refl _) free6)
    · refine thnF (T.item (X.blk s3 H3 scope ce fp) rfl rfl rfl quiet i [] s5 _ H5 (fun _ _ => False) I5 (held I5 free5) t5 go) fun r s6 ⟨u, hr, h6⟩ => ?_
      subst hr
      refine thnF h6 fun _ s7 ⟨x, H7, I7, rx, y7, t7, free7⟩ => ?_
      refine thnF (g4.run _ s7 _ H7 x u _ (I7.pinned (held I7 free7) (T.obj _ _ t7)) rx (step x H7 y7)) fun _ s8 ⟨σ8, H8, I8, wi8, q8⟩ => ?_
      refine thnF (t4.run _ s8 σ8 H8 _ I8 q8) fun b s9 ⟨H9, I9, q9⟩ => ?_
      have over : ∀ {t : Shared} {G : Hp}, Inv (X.blk s3 H3 scope ce fp) ([] ++ pinsAt fp s7.heap) σ8 G t → Nx G →
          ∃ m, m < n ∧ ∃ i G, Inv (X.blk s3 H3 scope ce fp) [] (wipe σ (own.map (·.2))) G t ∧ tn i t.heap ∧ (∀ b ∈ fp, G b = none) ∧ W i m G := fun {t G} It nx => by
        obtain ⟨m', lt, w'⟩ := dec G nx
        have same : ∀ b ∈ fp, ∀ o, s7.heap.get? b = some o → t.heap.get? b = some o ∧ G b = none := fun b hb o e =>
          have z := It.pin (b, o) (List.mem_append_right _ (List.mem_append_right _ (mem_pinsAt hb e)))
          ⟨z.1, z.2.1⟩
        refine ⟨m', lt, i + 1, G, (It.unpinned (pins := [])).weak (by rw [← wi8, wipe_length]) (fun j v e => ?_), T.keep _ _ _ t7 fun b hb o e => (same b hb o e).1, fun b hb => ?_, w'⟩
        · rw [← wi8] at e
          exact (wipe_some e).1
        · obtain ⟨o, e, _⟩ := T.obj _ _ t7 b hb
          exact (same b hb o e).2
      cases b
      · simp only [Bool.false_eq_true, if_false] at q9 ⊢
        exact over I9 q9
      · simp only [if_true] at q9 ⊢
        refine thnF (e4.run _ s9 σ8 H9 _ I9 q9) fun z s10 ⟨yv, H10, I10, rz, k, S0, n0, ey, hD, room, nx⟩ => ?_
        subst ey
        obtain ⟨tk, rfl⟩ : ∃ tk, z = Value.int k tk := rz
        exact addInt (X := X.blk s3 H3 scope ce fp) I10 hD room fun s11 I11 => over I11 nx
  exact PpSet.codeAny_compStart_set body (T.self X.A 0 _ _ _ ts4 body)
/-- {e for target in iter if test}, e an int -/
theorem pe_sci {elt tg iter : Expr} {ifs : List Expr} {scope : Scope} {own : List (PySem.Str × Nat)} {pos : Pos} {wi : TI} {g : TG} {tt : TT} {te : TE} (quiet : X.calm = true) (nd : X.N.Nodup) (ii : PI X tg iter wi) (blk : BlkOk X.N X.env.scope scope own)
    (gg : ∀ (s : Shared) (H : Hp) (C : Addr) (cl : List (PySem.Str × Addr)) (fp : List Addr), PG (X.blk s H scope (compEnvC scope cl C X.env) fp) tg g)
    (tts : ∀ (s : Shared) (H : Hp) (C : Addr) (cl : List (PySem.Str × Addr)) (fp : List Addr), PTs (X.blk s H scope (compEnvC scope cl C X.env) fp) ifs tt)
    (ee : ∀ (s : Shared) (H : Hp) (C : Addr) (cl : List (PySem.Str × Addr)) (fp : List Addr), PE (X.blk s H scope (compEnvC scope cl C X.env) fp) elt te)
    (fold : ∀ x, foldedSetIterable iter X.env x = pure x := by intro _; rfl) :
    PE X (.SetComp elt [⟨tg, iter, ifs, 0⟩] scope pos) (tSci X.w wi g tt te (own.map (·.2))) := by
  constructor
  intro pins s σ H Q I h
  rw [PpSet.eval_SetComp]
  refine setComp quiet nd I ii blk gg tts ee fold h fun D C s' m H' I' q hn f => ⟨m, hn, fun h'' sb => ⟨.ref D, H', ?_, rfl, q⟩⟩
  exact I'.turned (t' := s'.toks) (fun b o hb e => (sb.2 b hb).trans e) f.1 f.2.1 f.2.2.2.1 f.2.2.2.2.1 f.2.2.2.2.2
end
/-- over any walk: Pv by the turn and the heap -/
theorem sci_it {J : It} {n : Nat} {G : Hp → Prop} {Y : Nat → Hp → V → Hp → Prop} (w : Walk J n G Y) {wd : World} {g : TG} {tt : TT} {te : TE} {vs : List Nat} {σ : L2.St} {H1 : Hp} {D : Addr} {Qd : Hp → Prop} (Pv : Nat → Hp → Prop)
    (h0 : Pv 0 (upd H1 D (SetO wd D (fun _ => false) 0))) (hG : ∀ i H, i ≤ n → Pv i H → G H)
    (hs : ∀ i x H H', i < n → Pv i H → Y i H x H' → g x (wipe σ vs) H' fun σ2 H2 => wipe σ2 vs = wipe σ vs ∧ tt σ2 H2 fun b H3 =>
      if b = true then te σ2 H3 fun y H4 => ∃ (k : Int) (S : Int → Bool) (m : Nat), y = .int k ∧ H4 D = some (SetO wd D S m) ∧ m + 1 < scanBound ∧
        Pv (i + 1) (upd H4 D (SetO wd D (fun j => S j || decide (j = k)) (if S k = true then m else m + 1))) else Pv (i + 1) H3) (hd : ∀ H, Pv n H → Qd H) :
    ∃ W : Nat → Nat → Hp → Prop, (∃ m, W 0 m (upd H1 D (SetO wd D (fun _ => false) 0))) ∧ ∀ i m H, W i m H →
      (J.stop i H ∧ Qd H) ∨ (J.go i H ∧ ∃ Nx : Hp → Prop, (∀ H', Nx H' → ∃ m', m' < m ∧ W (i + 1) m' H') ∧ ∀ x H', J.yld i H x H' → g x (wipe σ vs) H' fun σ2 H2 => wipe σ2 vs = wipe σ vs ∧ tt σ2 H2 fun b H3 =>
        if b = true then te σ2 H3 fun y H4 => ∃ (k : Int) (S : Int → Bool) (m : Nat), y = .int k ∧ H4 D = some (SetO wd D S m) ∧ m + 1 < scanBound ∧
          Nx (upd H4 D (SetO wd D (fun j => S j || decide (j = k)) (if S k = true then m else m + 1))) else Nx H3) := by
  refine ⟨fun i m H => m + i = n ∧ Pv i H, ⟨n, rfl, h0⟩, fun i m H hW => ?_⟩
  obtain ⟨e, p⟩ := hW
  have q := hG i H (by omega) p
  cases m with
  | zero =>
    have e2 : i = n := by omega
    subst e2
    exact .inl ⟨w.stops H q, hd H p⟩
  | succ m =>
    have lt : i < n := by omega
    exact .inr ⟨w.goes i H lt q, Pv (i + 1), fun H' p' => ⟨m, Nat.lt_succ_self m, by omega, p'⟩, fun x H' y => hs i x H H' lt p (w.yields i H x H' lt q y)⟩
end Fw

/-! Statements as trees, and what the passes over their parts find. Plain Lean. -/
namespace Fw
inductive Leaf | has | lacks | var
  deriving DecidableEq
inductive One | some | all | least | most
  deriving DecidableEq
def One.bind : One → Bool
  | .least => true
  | .most => true
  | _ => false
inductive F
  | nul (b : Bool)
  | leaf (k : Leaf) (n : Int)
  | two (b : Bool) (f g : F)
  | one (k : One) (n : Int) (f : F)
  deriving DecidableEq
inductive Hd
  | nul (b : Bool)
  | leaf (k : Leaf) (n : Int)
  | two (b : Bool)
  | one (k : One) (n : Int)
  deriving DecidableEq
def F.hd : F → Hd
  | .nul b => .nul b
  | .leaf k n => .leaf k n
  | .two b _ _ => .two b
  | .one k n _ => .one k n
def F.size : F → Nat
  | .nul _ => 1
  | .leaf _ _ => 1
  | .two _ f g => f.size + g.size + 1
  | .one _ _ f => f.size + 1
def F.depth : F → Nat
  | .nul _ => 1
  | .leaf _ _ => 1
  | .two _ f g => max f.depth g.depth + 1
  | .one _ _ f => f.depth + 1
theorem F.size_pos (t : F) : 0 < t.size := by cases t <;> simp [F.size]
theorem F.size_depth : ∀ t : F, t.size + 1 ≤ 2 ^ t.depth
  | .nul _ => by simp [F.size, F.depth]
  | .leaf _ _ => by simp [F.size, F.depth]
  | .two _ f g => by
    have h1 := F.size_depth f
    have h2 := F.size_depth g
    have m1 : 2 ^ f.depth ≤ 2 ^ max f.depth g.depth := Nat.pow_le_pow_right (by decide) (Nat.le_max_left _ _)
    have m2 : 2 ^ g.depth ≤ 2 ^ max f.depth g.depth := Nat.pow_le_pow_right (by decide) (Nat.le_max_right _ _)
    simp only [F.size, F.depth, Nat.pow_succ]
    omega
  | .one _ _ f => by
    have h1 := F.size_depth f
    have h2 := F.size_pos f
    simp only [F.size, F.depth, Nat.pow_succ]
    omega
abbrev Stk := List (Int × Nat)
structure Rec where
  sub : F
  aro : Int
  stk : Stk
def pushS : F → Nat → Stk → Stk
  | .one k n _, i, st => if k.bind then (n, i) :: st else st
  | _, _, st => st
def info : F → Int → Nat → Stk → List Rec
  | .nul b, a, _, st => [⟨.nul b, a, st⟩]
  | .leaf k n, a, _, st => [⟨.leaf k n, a, st⟩]
  | .two b f g, a, i, st => ⟨.two b f g, a, st⟩ :: (info f i (i + 1) st ++ info g i (i + 1 + f.size) st)
  | .one k n f, a, i, st => ⟨.one k n f, a, st⟩ :: info f i (i + 1) (if k.bind then (n, i) :: st else st)
theorem info_len : ∀ (t : F) (a : Int) (i : Nat) (st : Stk), (info t a i st).length = t.size
  | .nul _, _, _, _ => rfl
  | .leaf _ _, _, _, _ => rfl
  | .two _ f g, a, i, st => by simp [info, F.size, info_len f, info_len g]
  | .one k n f, a, i, st => by simp [info, F.size, info_len f]
theorem info_head : ∀ (t : F) (a : Int) (i : Nat) (st : Stk), (info t a i st)[0]? = some ⟨t, a, st⟩
  | .nul _, _, _, _ => rfl
  | .leaf _ _, _, _, _ => rfl
  | .two _ _ _, _, _, _ => rfl
  | .one _ _ _, _, _, _ => rfl
/-! ### a part's record and the one around it -/
theorem info_up : ∀ (t : F) (a : Int) (i : Nat) (st : Stk) (j : Nat) (r : Rec), (info t a i st)[j]? = some r →
    (j = 0 ∧ r = ⟨t, a, st⟩) ∨ ∃ p r', p < j ∧ (info t a i st)[p]? = some r' ∧ r.aro = ((i + p : Nat) : Int) ∧ r.stk = pushS r'.sub (i + p) r'.stk
  | .nul b, a, i, st, j, r, h => by
    cases j with
    | zero => exact .inl ⟨rfl, (Option.some.inj h).symm⟩
    | succ j => simp [info] at h
  | .leaf k n, a, i, st, j, r, h => by
    cases j with
    | zero => exact .inl ⟨rfl, (Option.some.inj h).symm⟩
    | succ j => simp [info] at h
  | .two b f g, a, i, st, j, r, h => by
    cases j with
    | zero => exact .inl ⟨rfl, (Option.some.inj h).symm⟩
    | succ j =>
      simp only [info, List.getElem?_cons_succ] at h
      by_cases lt : j < f.size
      · rw [List.getElem?_append_left (by rw [info_len]; exact lt)] at h
        rcases info_up f i (i + 1) st j r h with ⟨rfl, rfl⟩ | ⟨p, r', hp, e, e1, e2⟩
        · exact .inr ⟨0, ⟨.two b f g, a, st⟩, Nat.succ_pos _, rfl, by simp, rfl⟩
        · refine .inr ⟨p + 1, r', by omega, ?_, by rw [e1]; congr 1; omega, by rw [e2]; congr 1; omega⟩
          simp only [info, List.getElem?_cons_succ]
          rw [List.getElem?_append_left (by rw [info_len]; omega)]
          exact e
      · rw [List.getElem?_append_right (by rw [info_len]; omega), info_len] at h
        rcases info_up g i (i + 1 + f.size) st (j - f.size) r h with ⟨e0, rfl⟩ | ⟨p, r', hp, e, e1, e2⟩
        · exact .inr ⟨0, ⟨.two b f g, a, st⟩, Nat.succ_pos _, rfl, by simp, rfl⟩
        · refine .inr ⟨p + f.size + 1, r', by omega, ?_, by rw [e1]; congr 1; omega, by rw [e2]; congr 1; omega⟩
          simp only [info, List.getElem?_cons_succ]
          rw [List.getElem?_append_right (by rw [info_len]; omega), info_len, show p + f.size - f.size = p by omega]
          exact e
  | .one k n f, a, i, st, j, r, h => by
    cases j with
    | zero => exact .inl ⟨rfl, (Option.some.inj h).symm⟩
    | succ j =>
      simp only [info, List.getElem?_cons_succ] at h
      rcases info_up f i (i + 1) _ j r h with ⟨rfl, rfl⟩ | ⟨p, r', hp, e, e1, e2⟩
      · exact .inr ⟨0, ⟨.one k n f, a, st⟩, Nat.succ_pos _, rfl, by simp, rfl⟩
      · refine .inr ⟨p + 1, r', by omega, ?_, by rw [e1]; congr 1; omega, by rw [e2]; congr 1; omega⟩
        simp only [info, List.getElem?_cons_succ]
        exact e
/-- the whole, seen from its root -/
abbrev infos (t : F) : List Rec := info t (-1) 0 []
theorem infos_stk {t : F} : ∀ (m j : Nat) (r : Rec) (x : Int) (q : Nat) (rest : Stk), j ≤ m → (infos t)[j]? = some r → r.stk = (x, q) :: rest →
    q < j ∧ ∃ k f a, (infos t)[q]? = some ⟨.one k x f, a, rest⟩ ∧ k.bind = true := by
  intro m
  induction m with
  | zero =>
    intro j r x q rest hj h e
    have : j = 0 := by omega
    subst this
    rw [info_head] at h
    cases h
    cases e
  | succ m ih =>
    intro j r x q rest hj h e
    rcases info_up t (-1) 0 [] j r h with ⟨rfl, rfl⟩ | ⟨p, r', hp, e1, _, e2⟩
    · cases e
    · rw [Nat.zero_add] at e2
      obtain ⟨s, a', st'⟩ := r'
      have old : r.stk = st' → q < j ∧ ∃ k f a, (infos t)[q]? = some ⟨.one k x f, a, rest⟩ ∧ k.bind = true := fun e3 => by
        have z := ih p ⟨s, a', st'⟩ x q rest (by omega) e1 (by rw [← e3]; exact e)
        exact ⟨by omega, z.2⟩
      cases s with
      | nul b => exact old e2
      | leaf k n => exact old e2
      | two b f g => exact old e2
      | one k n f =>
        simp only [pushS] at e2
        by_cases hb : k.bind = true
        · rw [if_pos hb, e] at e2
          injection e2 with e3 e4
          injection e3 with e5 e6
          subst e5
          subst e6
          subst e4
          exact ⟨hp, k, f, a', e1, hb⟩
        · rw [if_neg hb] at e2
          exact old e2
/-! ### the parts directly in a part -/
def kidsFrom : List Int → Nat → Nat → List Nat
  | [], _, _ => []
  | a :: r, j, i => if a = (i : Int) then j :: kidsFrom r (j + 1) i else kidsFrom r (j + 1) i
theorem kids_app : ∀ (A B : List Int) (j i : Nat), kidsFrom (A ++ B) j i = kidsFrom A j i ++ kidsFrom B (j + A.length) i
  | [], _, _, _ => by simp [kidsFrom]
  | a :: A, B, j, i => by
    simp only [List.cons_append, kidsFrom, List.length_cons]
    rw [kids_app A B (j + 1) i, show j + 1 + A.length = j + (A.length + 1) by omega]
    split <;> simp
theorem kids_none : ∀ (A : List Int) (j i : Nat), (∀ a ∈ A, a ≠ (i : Int)) → kidsFrom A j i = []
  | [], _, _, _ => rfl
  | a :: A, j, i, h => by
    simp only [kidsFrom]
    rw [if_neg (h a List.mem_cons_self)]
    exact kids_none A _ _ fun b hb => h b (List.mem_cons_of_mem _ hb)
def arounds (I : List Rec) : List Int := I.map Rec.aro
theorem aro_range : ∀ (t : F) (a : Int) (i : Nat) (st : Stk) (x : Int), x ∈ arounds (info t a i st) → x = a ∨ ((i : Int) ≤ x ∧ x < ((i + t.size : Nat) : Int))
  | .nul _, a, i, st, x, h => by
    simp [arounds, info] at h
    exact .inl h
  | .leaf _ _, a, i, st, x, h => by
    simp [arounds, info] at h
    exact .inl h
  | .two b f g, a, i, st, x, h => by
    simp only [arounds, info, List.map_cons, List.map_append, List.mem_cons, List.mem_append] at h
    rcases h with h | h | h
    · exact .inl h
    · have := aro_range f i (i + 1) st x h
      simp only [F.size]
      omega
    · have := aro_range g i (i + 1 + f.size) st x h
      simp only [F.size]
      omega
  | .one k n f, a, i, st, x, h => by
    simp only [arounds, info, List.map_cons, List.mem_cons] at h
    rcases h with h | h
    · exact .inl h
    · have := aro_range f i (i + 1) _ x h
      simp only [F.size]
      omega
/-- where a part's own parts stand among all -/
def Sits (I : List Rec) (i j : Nat) (r : Rec) : Prop :=
  ∃ A B, I = A ++ info r.sub r.aro (i + j) r.stk ++ B ∧ A.length = j ∧ (∀ x ∈ arounds A, x ≠ ((i + j : Nat) : Int)) ∧ (∀ x ∈ arounds B, x < ((i + j : Nat) : Int) ∨ ((i + j + r.sub.size : Nat) : Int) ≤ x) ∧ r.aro < ((i + j : Nat) : Int) ∧
    (∀ x ∈ arounds A, x < ((i + j : Nat) : Int))
theorem info_sits : ∀ (t : F) (a : Int) (i : Nat) (st : Stk) (j : Nat) (r : Rec), a < (i : Int) → (info t a i st)[j]? = some r → Sits (info t a i st) i j r := by
  have zero : ∀ (t : F) (a : Int) (i : Nat) (st : Stk) (r : Rec), a < (i : Int) → (info t a i st)[0]? = some r → Sits (info t a i st) i 0 r := by
    intro t a i st r ha h
    rw [info_head] at h
    cases h
    exact ⟨[], [], by simp, rfl, by simp [arounds], by simp [arounds], by simpa using ha, by simp [arounds]⟩
  intro t
  induction t with
  | nul b =>
    intro a i st j r ha h
    cases j with
    | zero => exact zero _ _ _ _ _ ha h
    | succ j => simp [info] at h
  | leaf k n =>
    intro a i st j r ha h
    cases j with
    | zero => exact zero _ _ _ _ _ ha h
    | succ j => simp [info] at h
  | two b f g ihf ihg =>
    intro a i st j r ha h
    cases j with
    | zero => exact zero _ _ _ _ _ ha h
    | succ j =>
      simp only [info, List.getElem?_cons_succ] at h
      by_cases lt : j < f.size
      · rw [List.getElem?_append_left (by rw [info_len]; exact lt)] at h
        obtain ⟨A, B, e, eA, hA, hB, hr, hA2⟩ := ihf i (i + 1) st j r (by omega) h
        have ee : i + 1 + j = i + (j + 1) := by omega
        rw [ee] at e hA hB hr hA2
        have szr : r.sub.size + j ≤ f.size := by
          have z := congrArg List.length e
          simp only [info_len, List.length_append, eA] at z
          omega
        refine ⟨⟨.two b f g, a, st⟩ :: A, B ++ info g i (i + 1 + f.size) st, by simp [info, e], by simp [eA], ?_, ?_, hr, ?_⟩
        · intro x hx
          simp only [arounds, List.map_cons, List.mem_cons] at hx
          rcases hx with rfl | hx
          · omega
          · exact hA x hx
        · intro x hx
          simp only [arounds, List.map_append, List.mem_append] at hx
          rcases hx with hx | hx
          · exact hB x hx
          · have := aro_range g i (i + 1 + f.size) st x hx
            omega
        · intro x hx
          simp only [arounds, List.map_cons, List.mem_cons] at hx
          rcases hx with rfl | hx
          · omega
          · exact hA2 x hx
      · rw [List.getElem?_append_right (by rw [info_len]; omega), info_len] at h
        obtain ⟨A, B, e, eA, hA, hB, hr, hA2⟩ := ihg i (i + 1 + f.size) st (j - f.size) r (by omega) h
        have ee : i + 1 + f.size + (j - f.size) = i + (j + 1) := by omega
        rw [ee] at e hA hB hr hA2
        refine ⟨⟨.two b f g, a, st⟩ :: (info f i (i + 1) st ++ A), B, by simp [info, e], by simp [eA, info_len]; omega, ?_, hB, hr, ?_⟩
        · intro x hx
          simp only [arounds, List.map_cons, List.map_append, List.mem_cons, List.mem_append] at hx
          rcases hx with rfl | hx | hx
          · omega
          · have := aro_range f i (i + 1) st x hx
            omega
          · exact hA x hx
        · intro x hx
          simp only [arounds, List.map_cons, List.map_append, List.mem_cons, List.mem_append] at hx
          rcases hx with rfl | hx | hx
          · omega
          · have := aro_range f i (i + 1) st x hx
            omega
          · exact hA2 x hx
  | one k n f ih =>
    intro a i st j r ha h
    cases j with
    | zero => exact zero _ _ _ _ _ ha h
    | succ j =>
      simp only [info, List.getElem?_cons_succ] at h
      obtain ⟨A, B, e, eA, hA, hB, hr, hA2⟩ := ih i (i + 1) _ j r (by omega) h
      have ee : i + 1 + j = i + (j + 1) := by omega
      rw [ee] at e hA hB hr hA2
      refine ⟨⟨.one k n f, a, st⟩ :: A, B, by simp [info, e], by simp [eA], ?_, hB, hr, ?_⟩
      · intro x hx
        simp only [arounds, List.map_cons, List.mem_cons] at hx
        rcases hx with rfl | hx
        · omega
        · exact hA x hx
      · intro x hx
        simp only [arounds, List.map_cons, List.mem_cons] at hx
        rcases hx with rfl | hx
        · omega
        · exact hA2 x hx
/-- the places of the parts directly in one -/
def inPlaces : F → Nat → List Nat
  | .two _ f _, i => [i + 1, i + 1 + f.size]
  | .one _ _ _, i => [i + 1]
  | _, _ => []
theorem kids_own : ∀ (t : F) (a : Int) (i : Nat) (st : Stk), a < (i : Int) → kidsFrom (arounds (info t a i st)) i i = inPlaces t i
  | .nul _, a, i, st, ha => by
    simp only [arounds, info, List.map_cons, List.map_nil, kidsFrom, inPlaces]
    rw [if_neg (by omega)]
  | .leaf _ _, a, i, st, ha => by
    simp only [arounds, info, List.map_cons, List.map_nil, kidsFrom, inPlaces]
    rw [if_neg (by omega)]
  | .two b f g, a, i, st, ha => by
    have rest : ∀ (u : F) (j : Nat) (st : Stk), i < j → kidsFrom (arounds (info u i j st)) j i = [j] := by
      intro u j st hj
      have tail : ∀ (I : List Rec), (∀ x ∈ arounds I, (j : Int) ≤ x) → kidsFrom (arounds I) (j + 1) i = [] := fun I hI =>
        kids_none _ _ _ fun x hx => by have := hI x hx; omega
      cases u with
      | nul b => simp [arounds, info, kidsFrom]
      | leaf k n => simp [arounds, info, kidsFrom]
      | two b f g =>
        simp only [arounds, info, List.map_cons, kidsFrom, if_true]
        have := tail (info f j (j + 1) st ++ info g j (j + 1 + f.size) st) (fun x hx => by
          simp only [arounds, List.map_append, List.mem_append] at hx
          rcases hx with hx | hx
          · have := aro_range f j (j + 1) st x hx
            omega
          · have := aro_range g j (j + 1 + f.size) st x hx
            omega)
        rw [arounds] at this
        rw [this]
      | one k n f =>
        simp only [arounds, info, List.map_cons, kidsFrom, if_true]
        have := tail (info f j (j + 1) (if k.bind then (n, j) :: st else st)) (fun x hx => by
          have := aro_range f j (j + 1) _ x hx
          omega)
        rw [arounds] at this
        rw [this]
    have h1 := rest f (i + 1) st (by omega)
    have h2 := rest g (i + 1 + f.size) st (by omega)
    simp only [arounds] at h1 h2
    simp only [arounds, info, List.map_cons, List.map_append, kidsFrom, inPlaces]
    rw [if_neg (by omega), kids_app, h1, List.length_map, info_len, h2]
    rfl
  | .one k n f, a, i, st, ha => by
    have rest : ∀ (u : F) (j : Nat) (st : Stk), i < j → kidsFrom (arounds (info u i j st)) j i = [j] := by
      intro u j st hj
      have tail : ∀ (I : List Rec), (∀ x ∈ arounds I, (j : Int) ≤ x) → kidsFrom (arounds I) (j + 1) i = [] := fun I hI =>
        kids_none _ _ _ fun x hx => by have := hI x hx; omega
      cases u with
      | nul b => simp [arounds, info, kidsFrom]
      | leaf k n => simp [arounds, info, kidsFrom]
      | two b f g =>
        simp only [arounds, info, List.map_cons, kidsFrom, if_true]
        have := tail (info f j (j + 1) st ++ info g j (j + 1 + f.size) st) (fun x hx => by
          simp only [arounds, List.map_append, List.mem_append] at hx
          rcases hx with hx | hx
          · have := aro_range f j (j + 1) st x hx
            omega
          · have := aro_range g j (j + 1 + f.size) st x hx
            omega)
        rw [arounds] at this
        rw [this]
      | one k n f =>
        simp only [arounds, info, List.map_cons, kidsFrom, if_true]
        have := tail (info f j (j + 1) (if k.bind then (n, j) :: st else st)) (fun x hx => by
          have := aro_range f j (j + 1) _ x hx
          omega)
        rw [arounds] at this
        rw [this]
    have h1 := rest f (i + 1) (if k.bind then (n, i) :: st else st) (by omega)
    simp only [arounds] at h1
    simp only [arounds, info, List.map_cons, kidsFrom, inPlaces]
    rw [if_neg (by omega), h1]
theorem kids_at {t : F} {j : Nat} {r : Rec} (h : (infos t)[j]? = some r) : kidsFrom (arounds (infos t)) 0 j = inPlaces r.sub j := by
  obtain ⟨A, B, e, eA, hA, hB, hr, _⟩ := info_sits t (-1) 0 [] j r (by omega) h
  rw [Nat.zero_add] at e hA hB hr
  have ea : arounds (infos t) = arounds A ++ arounds (info r.sub r.aro j r.stk) ++ arounds B := by
    rw [show infos t = _ from e]
    simp [arounds]
  have lA : (arounds A).length = j := by simp [arounds, eA]
  rw [ea, kids_app, kids_app, kids_none _ _ _ hA, Nat.zero_add, lA, kids_own _ _ _ _ hr, kids_none (arounds B)]
  · simp
  · intro x hx
    have := hB x hx
    have := F.size_pos r.sub
    omega
/-- the parts of a part are among all, at their places -/
theorem sub_at {t : F} {j : Nat} {r : Rec} (h : (infos t)[j]? = some r) : ∀ (k : Nat) (q : Rec), (info r.sub r.aro j r.stk)[k]? = some q → (infos t)[j + k]? = some q := by
  intro k q hq
  obtain ⟨A, B, e, eA, _⟩ := info_sits t (-1) 0 [] j r (by omega) h
  rw [Nat.zero_add] at e
  have lt := (List.getElem?_eq_some_iff.mp hq).1
  rw [show infos t = _ from e, List.append_assoc, List.getElem?_append_right (by omega), eA, show j + k - j = k by omega, List.getElem?_append_left lt]
  exact hq

/-! ### the binder around, and the one of a variable -/
def topPos : Stk → Int
  | [] => -1
  | (_, p) :: _ => (p : Int)
def posOf (x : Int) : Stk → Int
  | [] => -1
  | (y, p) :: r => if y = x then (p : Int) else posOf x r
def isB : F → Bool
  | .one k _ _ => k.bind
  | _ => false
theorem pushS_top (s : F) (p : Nat) (st : Stk) : topPos (pushS s p st) = if isB s = true then (p : Int) else topPos st := by
  cases s with
  | one k n f => cases hk : k.bind <;> simp [pushS, isB, topPos, hk]
  | _ => rfl
theorem top_step {t : F} {j : Nat} {r : Rec} (h : (infos t)[j]? = some r) :
    (r.aro = -1 ∧ topPos r.stk = -1 ∧ j = 0) ∨ ∃ p r', p < j ∧ (infos t)[p]? = some r' ∧ r.aro = (p : Int) ∧ topPos r.stk = if isB r'.sub = true then (p : Int) else topPos r'.stk := by
  rcases info_up t (-1) 0 [] j r h with ⟨rfl, rfl⟩ | ⟨p, r', hp, e, e1, e2⟩
  · exact .inl ⟨rfl, rfl, rfl⟩
  · rw [Nat.zero_add] at e1 e2
    exact .inr ⟨p, r', hp, e, e1, by rw [e2, pushS_top]⟩
theorem posOf_ge (x : Int) : ∀ st : Stk, -1 ≤ posOf x st
  | [] => by simp [posOf]
  | (y, p) :: r => by
    simp only [posOf]
    split
    · omega
    · exact posOf_ge x r
theorem posOf_neg (x : Int) : ∀ st : Stk, posOf x st < 0 ↔ x ∉ st.map (·.1)
  | [] => by simp [posOf]
  | (y, p) :: r => by
    have ih := posOf_neg x r
    simp only [posOf, List.map_cons, List.mem_cons, not_or]
    split
    · rename_i e
      constructor
      · intro z
        omega
      · intro z
        exact absurd e.symm z.1
    · rename_i e
      rw [ih]
      constructor
      · exact fun z => ⟨fun q => e q.symm, z⟩
      · exact fun z => z.2
/-! ### free variables -/
def freeL : F → List Int → List Int
  | .nul _, _ => []
  | .leaf .var x, bound => if x ∈ bound then [] else [x]
  | .leaf _ _, _ => []
  | .two _ f g, bound => freeL f bound ++ freeL g bound
  | .one k x f, bound => if k.bind then freeL f (bound ++ [x]) else freeL f bound
theorem free_iff (x : Int) : ∀ (t : F) (bound : List Int) (a : Int) (i : Nat) (st : Stk), (∀ y, y ∈ bound ↔ y ∈ st.map (·.1)) →
    (x ∈ freeL t bound ↔ ∃ r ∈ info t a i st, r.sub = .leaf .var x ∧ x ∉ r.stk.map (·.1))
  | .nul b, bound, a, i, st, hb => by simp [freeL, info]
  | .leaf .has n, bound, a, i, st, hb => by simp [freeL, info]
  | .leaf .lacks n, bound, a, i, st, hb => by simp [freeL, info]
  | .leaf .var n, bound, a, i, st, hb => by
    simp only [freeL, info, List.mem_singleton]
    constructor
    · intro h
      split at h
      · cases h
      · rename_i hn
        rw [List.mem_singleton] at h
        subst h
        exact ⟨_, rfl, rfl, fun z => hn ((hb _).mpr z)⟩
    · rintro ⟨r, rfl, e, hn⟩
      injection e with _ e
      subst e
      rw [if_neg (fun z => hn ((hb _).mp z))]
      exact List.mem_singleton.mpr rfl
  | .two b f g, bound, a, i, st, hb => by
    simp only [freeL, info, List.mem_append, List.mem_cons]
    rw [free_iff x f bound i (i + 1) st hb, free_iff x g bound i (i + 1 + f.size) st hb]
    constructor
    · rintro (⟨r, h1, h2⟩ | ⟨r, h1, h2⟩)
      · exact ⟨r, .inr (.inl h1), h2⟩
      · exact ⟨r, .inr (.inr h1), h2⟩
    · rintro ⟨r, h1, h2, h3⟩
      rcases h1 with rfl | h1 | h1
      · cases h2
      · exact .inl ⟨r, h1, h2, h3⟩
      · exact .inr ⟨r, h1, h2, h3⟩
  | .one k n f, bound, a, i, st, hb => by
    simp only [freeL, info, List.mem_cons]
    have key : ∀ (bound' : List Int) (st' : Stk), (∀ y, y ∈ bound' ↔ y ∈ st'.map (·.1)) →
        (x ∈ freeL f bound' ↔ ∃ r, (r = ⟨.one k n f, a, st⟩ ∨ r ∈ info f i (i + 1) st') ∧ r.sub = .leaf .var x ∧ x ∉ r.stk.map (·.1)) := by
      intro bound' st' h'
      rw [free_iff x f bound' i (i + 1) st' h']
      constructor
      · rintro ⟨r, h1, h2⟩
        exact ⟨r, .inr h1, h2⟩
      · rintro ⟨r, h1, h2, h3⟩
        rcases h1 with rfl | h1
        · cases h2
        · exact ⟨r, h1, h2, h3⟩
    by_cases hk : k.bind = true
    · rw [if_pos hk, if_pos hk]
      refine key _ _ fun y => ?_
      simp only [List.mem_append, hb y, List.map_cons, List.mem_cons, List.not_mem_nil, or_false]
      exact Or.comm
    · rw [if_neg hk, if_neg hk]
      exact key _ _ hb
def Closed (t : F) : Prop := ∀ r ∈ infos t, ∀ x, r.sub = .leaf .var x → x ∈ r.stk.map (·.1)
theorem closed_iff {t : F} : freeL t [] = [] ↔ Closed t := by
  constructor
  · intro h r hr x e
    refine Classical.byContradiction fun hn => ?_
    have := (free_iff x t [] (-1) 0 [] (by simp)).mpr ⟨r, hr, e, hn⟩
    rw [h] at this
    cases this
  · intro h
    refine List.eq_nil_iff_forall_not_mem.mpr fun x hx => ?_
    obtain ⟨r, hr, e, hn⟩ := (free_iff x t [] (-1) 0 [] (by simp)).mp hx
    exact hn (h r hr x e)
/-! ### the same shape, the same places -/
def skel : F → F
  | .nul _ => .nul true
  | .leaf _ _ => .nul true
  | .two _ f g => .two true (skel f) (skel g)
  | .one _ _ f => .one .some 0 (skel f)
theorem skel_size : ∀ t : F, (skel t).size = t.size
  | .nul _ => rfl
  | .leaf _ _ => rfl
  | .two _ f g => by simp [skel, F.size, skel_size f, skel_size g]
  | .one _ _ f => by simp [skel, F.size, skel_size f]
theorem skel_depth : ∀ t : F, (skel t).depth = t.depth
  | .nul _ => rfl
  | .leaf _ _ => rfl
  | .two _ f g => by simp [skel, F.depth, skel_depth f, skel_depth g]
  | .one _ _ f => by simp [skel, F.depth, skel_depth f]
theorem skel_aro : ∀ (t : F) (a : Int) (i : Nat) (st : Stk), arounds (info t a i st) = arounds (info (skel t) a i [])
  | .nul _, _, _, _ => rfl
  | .leaf _ _, _, _, _ => rfl
  | .two _ f g, a, i, st => by
    have h1 := skel_aro f i (i + 1) st
    have h2 := skel_aro g i (i + 1 + f.size) st
    simp only [arounds] at h1 h2
    simp only [arounds, info, skel, List.map_cons, List.map_append, h1, h2, skel_size]
  | .one k n f, a, i, st => by
    have h1 := skel_aro f i (i + 1) (if k.bind then (n, i) :: st else st)
    simp only [arounds] at h1
    simp only [arounds, info, skel, List.map_cons]
    rw [h1]
    rfl
theorem same_aro {t u : F} (h : skel t = skel u) : arounds (infos t) = arounds (infos u) := by
  rw [skel_aro t, skel_aro u, h]
theorem same_size {t u : F} (h : skel t = skel u) : t.size = u.size := by rw [← skel_size t, h, skel_size]
/-! ### the tidy form -/
def tidyF : F → (Int → Int) → Int → F × Int
  | .nul b, _, n => (.nul b, n)
  | .leaf .var x, nm, n => (.leaf .var (nm x), n)
  | .leaf k x, _, n => (.leaf k x, n)
  | .two b f g, nm, n => (.two b (tidyF f nm n).1 (tidyF g nm (tidyF f nm n).2).1, (tidyF g nm (tidyF f nm n).2).2)
  | .one k x f, nm, n =>
    if k.bind then (.one k n (tidyF f (fun y => if y = x then n else nm y) (n + 1)).1, (tidyF f (fun y => if y = x then n else nm y) (n + 1)).2)
    else (.one k x (tidyF f nm n).1, (tidyF f nm n).2)
theorem tidy_skel : ∀ (t : F) (nm : Int → Int) (n : Int), skel (tidyF t nm n).1 = skel t
  | .nul _, _, _ => rfl
  | .leaf .var _, _, _ => rfl
  | .leaf .has _, _, _ => rfl
  | .leaf .lacks _, _, _ => rfl
  | .two _ f g, nm, n => by simp only [tidyF, skel, tidy_skel f, tidy_skel g]
  | .one k x f, nm, n => by
    simp only [tidyF]
    split <;> simp only [skel, tidy_skel f]
def cntB (I : List Rec) : Nat := (I.filter fun r => isB r.sub).length
theorem cntB_app (A B : List Rec) : cntB (A ++ B) = cntB A + cntB B := by simp [cntB]
theorem cntB_cons (r : Rec) (B : List Rec) : cntB (r :: B) = (if isB r.sub = true then 1 else 0) + cntB B := by
  simp only [cntB, List.filter_cons]
  split <;> simp <;> omega
def newHd (ρ : Nat → Int) (q : Nat) (r : Rec) : Hd :=
  match r.sub with
  | .leaf .var x => .leaf .var (ρ (posOf x r.stk).toNat)
  | .one k x _ => if k.bind then .one k (ρ q) else .one k x
  | s => s.hd
theorem tidy_heads (ρ : Nat → Int) : ∀ (t : F) (a : Int) (i : Nat) (st : Stk) (nm : Int → Int) (n : Int),
    (∀ r ∈ info t a i st, ∀ x, r.sub = .leaf .var x → x ∈ r.stk.map (·.1)) → (∀ x ∈ st.map (·.1), nm x = ρ (posOf x st).toNat) →
    (∀ j r, (info t a i st)[j]? = some r → isB r.sub = true → ρ (i + j) = n + (cntB ((info t a i st).take j) : Nat)) →
    (tidyF t nm n).2 = n + (cntB (info t a i st) : Nat) ∧
    ∀ (st' : Stk) (j : Nat) (r : Rec), (info t a i st)[j]? = some r → ((info (tidyF t nm n).1 a i st')[j]?).map (fun r => r.sub.hd) = some (newHd ρ (i + j) r)
  | .nul b, a, i, st, nm, n, hc, hs, hr => by
    refine ⟨by simp [tidyF, info, cntB, isB], fun st' j r h => ?_⟩
    cases j with
    | zero =>
      cases h
      rfl
    | succ j => simp [info] at h
  | .leaf .has b, a, i, st, nm, n, hc, hs, hr => by
    refine ⟨by simp [tidyF, info, cntB, isB], fun st' j r h => ?_⟩
    cases j with
    | zero =>
      cases h
      rfl
    | succ j => simp [info] at h
  | .leaf .lacks b, a, i, st, nm, n, hc, hs, hr => by
    refine ⟨by simp [tidyF, info, cntB, isB], fun st' j r h => ?_⟩
    cases j with
    | zero =>
      cases h
      rfl
    | succ j => simp [info] at h
  | .leaf .var x, a, i, st, nm, n, hc, hs, hr => by
    refine ⟨by simp [tidyF, info, cntB, isB], fun st' j r h => ?_⟩
    cases j with
    | zero =>
      cases h
      have hx : x ∈ st.map (·.1) := hc ⟨.leaf .var x, a, st⟩ (by simp [info]) x rfl
      simp only [tidyF, info, newHd, List.getElem?_cons_zero, Option.map_some, F.hd]
      rw [hs x hx]
    | succ j => simp [info] at h
  | .two b f g, a, i, st, nm, n, hc, hs, hr => by
    have If : ∀ j r, (info f i (i + 1) st)[j]? = some r → (info (.two b f g) a i st)[j + 1]? = some r := fun j r h => by
      simp only [info, List.getElem?_cons_succ]
      rw [List.getElem?_append_left (List.getElem?_eq_some_iff.mp h).1]
      exact h
    have Ig : ∀ j r, (info g i (i + 1 + f.size) st)[j]? = some r → (info (.two b f g) a i st)[f.size + j + 1]? = some r := fun j r h => by
      simp only [info, List.getElem?_cons_succ]
      rw [List.getElem?_append_right (by rw [info_len]; omega), info_len, show f.size + j - f.size = j by omega]
      exact h
    obtain ⟨f1, f2⟩ := tidy_heads ρ f i (i + 1) st nm n (fun r hr' => hc r (by simp [info, hr'])) hs (fun j r h hb => by
      have := hr (j + 1) r (If j r h) hb
      rw [show i + (j + 1) = i + 1 + j by omega] at this
      rw [this]
      simp only [info, List.take_succ_cons, cntB_cons, isB]
      rw [List.take_append_of_le_length (Nat.le_of_lt (List.getElem?_eq_some_iff.mp h).1)]
      simp)
    obtain ⟨g1, g2⟩ := tidy_heads ρ g i (i + 1 + f.size) st nm (tidyF f nm n).2 (fun r hr' => hc r (by simp [info, hr'])) hs (fun j r h hb => by
      have := hr (f.size + j + 1) r (Ig j r h) hb
      rw [show i + (f.size + j + 1) = i + 1 + f.size + j by omega] at this
      rw [this, f1]
      simp only [info, List.take_succ_cons, cntB_cons, isB]
      rw [List.take_append, info_len, List.take_of_length_le (by rw [info_len]; omega), show f.size + j - f.size = j by omega, cntB_app]
      simp
      omega)
    refine ⟨?_, fun st' j r h => ?_⟩
    · simp only [tidyF, info, cntB_cons, cntB_app, isB]
      rw [g1, f1]
      simp
      omega
    · have sz : (tidyF f nm n).1.size = f.size := same_size (tidy_skel f nm n)
      cases j with
      | zero =>
        cases h
        rfl
      | succ j =>
        simp only [info, List.getElem?_cons_succ] at h
        simp only [tidyF, info, List.getElem?_cons_succ]
        by_cases lt : j < f.size
        · rw [List.getElem?_append_left (by rw [info_len]; exact lt)] at h
          rw [List.getElem?_append_left (by rw [info_len, sz]; exact lt), f2 st' j r h, show i + 1 + j = i + (j + 1) by omega]
        · rw [List.getElem?_append_right (by rw [info_len]; omega), info_len] at h
          rw [List.getElem?_append_right (by rw [info_len, sz]; omega), info_len, sz, g2 st' (j - f.size) r h, show i + 1 + f.size + (j - f.size) = i + (j + 1) by omega]
  | .one k x f, a, i, st, nm, n, hc, hs, hr => by
    by_cases hk : k.bind = true
    · have If : ∀ j r, (info f i (i + 1) ((x, i) :: st))[j]? = some r → (info (.one k x f) a i st)[j + 1]? = some r := fun j r h => by
        simp only [info, List.getElem?_cons_succ, if_pos hk]
        exact h
      have ρi : ρ i = n := by
        have := hr 0 ⟨.one k x f, a, st⟩ rfl hk
        simpa [cntB] using this
      obtain ⟨f1, f2⟩ := tidy_heads ρ f i (i + 1) ((x, i) :: st) (fun y => if y = x then n else nm y) (n + 1) (fun r hr' => hc r (by simp [info, hk, hr'])) (fun y hy => by
        simp only [posOf]
        by_cases e : y = x
        · rw [if_pos e, if_pos e.symm]
          exact ρi.symm
        · rw [if_neg e, if_neg (fun z => e z.symm)]
          rw [List.map_cons, List.mem_cons] at hy
          exact hs y (hy.resolve_left e)) (fun j r h hb => by
        have := hr (j + 1) r (If j r h) hb
        rw [show i + (j + 1) = i + 1 + j by omega] at this
        rw [this]
        simp only [info, List.take_succ_cons, cntB_cons]
        rw [if_pos (show isB (F.one k x f) = true from hk), if_pos hk]
        omega)
      refine ⟨?_, fun st' j r h => ?_⟩
      · simp only [tidyF, info, cntB_cons]
        rw [if_pos (show isB (F.one k x f) = true from hk), if_pos hk, if_pos hk, f1]
        omega
      · cases j with
        | zero =>
          cases h
          simp only [tidyF, if_pos hk, info, newHd, List.getElem?_cons_zero, Option.map_some, F.hd]
          rw [Nat.add_zero, ρi]
        | succ j =>
          simp only [info, List.getElem?_cons_succ, if_pos hk] at h
          simp only [tidyF, if_pos hk, info, List.getElem?_cons_succ]
          rw [f2 _ j r h, show i + 1 + j = i + (j + 1) by omega]
    · have If : ∀ j r, (info f i (i + 1) st)[j]? = some r → (info (.one k x f) a i st)[j + 1]? = some r := fun j r h => by
        simp only [info, List.getElem?_cons_succ, if_neg hk]
        exact h
      obtain ⟨f1, f2⟩ := tidy_heads ρ f i (i + 1) st nm n (fun r hr' => hc r (by simp [info, hk, hr'])) hs (fun j r h hb => by
        have := hr (j + 1) r (If j r h) hb
        rw [show i + (j + 1) = i + 1 + j by omega] at this
        rw [this]
        simp only [info, List.take_succ_cons, cntB_cons]
        rw [if_neg (show ¬ isB (F.one k x f) = true from hk), if_neg hk]
        omega)
      refine ⟨?_, fun st' j r h => ?_⟩
      · simp only [tidyF, info, cntB_cons]
        rw [if_neg (show ¬ isB (F.one k x f) = true from hk), if_neg hk, if_neg hk, f1]
        omega
      · cases j with
        | zero =>
          cases h
          simp only [tidyF, if_neg hk, info, newHd, List.getElem?_cons_zero, Option.map_some, F.hd]
        | succ j =>
          simp only [info, List.getElem?_cons_succ, if_neg hk] at h
          simp only [tidyF, if_neg hk, info, List.getElem?_cons_succ]
          rw [f2 _ j r h, show i + 1 + j = i + (j + 1) by omega]
/-- of a closed one: the head of each part in the tidy form -/
def rankOf (t : F) (q : Nat) : Int := (cntB ((infos t).take q) : Nat)
theorem tidy_whole {t : F} (hc : Closed t) (nm : Int → Int) {j : Nat} {r : Rec} (h : (infos t)[j]? = some r) :
    ((infos (tidyF t nm 0).1)[j]?).map (fun r => r.sub.hd) = some (newHd (rankOf t) j r) := by
  have := (tidy_heads (rankOf t) t (-1) 0 [] nm 0 hc (by simp) (fun j r h hb => by simp [rankOf])).2 [] j r h
  rwa [Nat.zero_add] at this
/-! ### tidy twice -/
theorem tidy_again : ∀ (t : F) (nm nm2 : Int → Int) (n : Int), (∀ y, nm2 (nm y) = nm y) → tidyF (tidyF t nm n).1 nm2 n = tidyF t nm n
  | .nul _, _, _, _, _ => rfl
  | .leaf .has _, _, _, _, _ => rfl
  | .leaf .lacks _, _, _, _, _ => rfl
  | .leaf .var x, nm, nm2, n, h => by simp only [tidyF, h]
  | .two b f g, nm, nm2, n, h => by
    simp only [tidyF]
    rw [tidy_again f nm nm2 n h, tidy_again g nm nm2 _ h]
  | .one k x f, nm, nm2, n, h => by
    by_cases hk : k.bind = true
    · have ih := tidy_again f (fun y => if y = x then n else nm y) (fun y => if y = n then n else nm2 y) (n + 1) (fun y => by
        by_cases e : y = x
        · simp [e]
        · simp only [if_neg e]
          by_cases e2 : nm y = n
          · simp [e2]
          · rw [if_neg e2]
            exact h y)
      simp only [tidyF, if_pos hk, ih]
    · have ih := tidy_again f nm nm2 n h
      simp only [tidyF, if_neg hk, ih]
end Fw
namespace Fw
/-! ### taking a statement apart with a stack -/
def pre (t : F) (a : Int) (i : Nat) : List (Hd × Int) := (info t a i []).map fun r => (r.sub.hd, r.aro)
theorem pre_len (t : F) (a : Int) (i : Nat) : (pre t a i).length = t.size := by simp [pre, info_len]
theorem info_plain : ∀ (t : F) (a : Int) (i : Nat) (st : Stk), ((info t a i st).map fun r => (r.sub.hd, r.aro)) = pre t a i
  | .nul _, _, _, _ => rfl
  | .leaf _ _, _, _, _ => rfl
  | .two _ f g, a, i, st => by
    have h1 := info_plain f i (i + 1)
    have h2 := info_plain g i (i + 1 + f.size)
    simp only [pre, info, List.map_cons, List.map_append] at *
    rw [h1 st, h2 st]
  | .one k n f, a, i, st => by
    have h1 := info_plain f i (i + 1)
    simp only [pre, info, List.map_cons] at *
    rw [h1 (if k.bind then (n, i) :: st else st), h1 (if k.bind then [(n, i)] else [])]
def F.kids : F → List F
  | .two _ f g => [f, g]
  | .one _ _ f => [f]
  | _ => []
def fin (L : List (Hd × Int)) : List (F × Int) → List (Hd × Int)
  | [] => L
  | (t, a) :: r => fin (L ++ pre t a L.length) r
theorem fin_step (L : List (Hd × Int)) (t : F) (a : Int) (r : List (F × Int)) :
    fin L ((t, a) :: r) = fin (L ++ [(t.hd, a)]) (t.kids.map (fun f => (f, (L.length : Int))) ++ r) := by
  cases t with
  | nul b => rfl
  | leaf k n => rfl
  | two b f g =>
    have hf := info_plain f L.length (L.length + 1) []
    have hg := info_plain g L.length (L.length + 1 + f.size) []
    simp only [fin, F.kids, List.map_cons, List.map_nil, List.cons_append, List.nil_append, F.hd, List.length_append, List.length_cons, List.length_nil, pre_len]
    congr 1
    simp only [pre, info, List.map_cons, List.map_append, F.hd]
    simp
  | one k n f =>
    have hf := info_plain f L.length (L.length + 1) (if k.bind then [(n, L.length)] else [])
    simp only [fin, F.kids, List.map_cons, List.map_nil, List.cons_append, List.nil_append, F.hd, List.length_append, List.length_cons, List.length_nil]
    congr 1
    simp only [pre, info, List.map_cons, F.hd] at *
    rw [hf]
    simp
def stSize : List (F × Int) → Nat
  | [] => 0
  | (t, _) :: r => t.size + stSize r
theorem stSize_app : ∀ A B : List (F × Int), stSize (A ++ B) = stSize A + stSize B
  | [], B => by simp [stSize]
  | (t, a) :: A, B => by simp [stSize, stSize_app A B]; omega
theorem stSize_kids (t : F) (i : Int) : stSize (t.kids.map fun f => (f, i)) + 1 = t.size := by
  cases t <;> simp [F.kids, stSize, F.size]
theorem st_len : ∀ A : List (F × Int), A.length ≤ stSize A
  | [] => Nat.le_refl _
  | (t, a) :: A => by
    have := st_len A
    have := F.size_pos t
    simp only [List.length_cons, stSize]
    omega
theorem fin_len : ∀ (S : List (F × Int)) (L : List (Hd × Int)), (fin L S).length = L.length + stSize S
  | [], L => by simp [fin, stSize]
  | (t, a) :: S, L => by
    simp only [fin, stSize]
    rw [fin_len S, List.length_append, pre_len]
    omega
end Fw
namespace Fw
theorem kids_recs {t : F} {j : Nat} {r : Rec} (h : (infos t)[j]? = some r) :
    (inPlaces r.sub j).length = r.sub.kids.length ∧ ∀ (m p : Nat), (inPlaces r.sub j)[m]? = some p → ∃ r', (infos t)[p]? = some r' ∧ r.sub.kids[m]? = some r'.sub ∧ j < p := by
  have sa := sub_at h
  obtain ⟨s, a, st⟩ := r
  cases s with
  | nul b => exact ⟨rfl, fun m p e => by simp [inPlaces] at e⟩
  | leaf k n => exact ⟨rfl, fun m p e => by simp [inPlaces] at e⟩
  | two b f g =>
    refine ⟨rfl, fun m p e => ?_⟩
    match m, e with
    | 0, e =>
      cases e
      refine ⟨⟨f, j, st⟩, sa 1 _ ?_, rfl, by omega⟩
      simp only [info, List.getElem?_cons_succ]
      rw [List.getElem?_append_left (by rw [info_len]; exact F.size_pos f)]
      exact info_head _ _ _ _
    | 1, e =>
      cases e
      have z := sa (1 + f.size) ⟨g, j, st⟩ (by
        rw [Nat.add_comm 1]
        simp only [info, List.getElem?_cons_succ]
        rw [List.getElem?_append_right (by rw [info_len]; omega), info_len, Nat.sub_self]
        exact info_head _ _ _ _)
      rw [← Nat.add_assoc] at z
      exact ⟨_, z, rfl, by omega⟩
    | m + 2, e => simp [inPlaces] at e
  | one k n f =>
    refine ⟨rfl, fun m p e => ?_⟩
    match m, e with
    | 0, e =>
      cases e
      refine ⟨⟨f, j, if k.bind then (n, j) :: st else st⟩, sa 1 _ ?_, rfl, by omega⟩
      simp only [info, List.getElem?_cons_succ]
      exact info_head _ _ _ _
    | m + 1, e => simp [inPlaces] at e
end Fw
namespace Fw
theorem F.kids_le : ∀ t : F, t.kids.length ≤ 2
  | .nul _ => Nat.zero_le 2
  | .leaf _ _ => Nat.zero_le 2
  | .two _ _ _ => Nat.le_refl 2
  | .one _ _ _ => Nat.le_succ 1
end Fw
namespace Fw
theorem infos_pos {t : F} {x : Int} : ∀ (st : Stk) (j : Nat) (r : Rec), (infos t)[j]? = some r → r.stk = st → x ∈ st.map (·.1) →
    ∃ (p : Nat) (r' : Rec), posOf x st = (p : Int) ∧ p < j ∧ (infos t)[p]? = some r' ∧ isB r'.sub = true
  | [], _, _, _, _, h => by cases h
  | (y, q) :: rest, j, r, hr, e, h => by
    obtain ⟨hq, k, f, a, h2, h3⟩ := infos_stk j j r y q rest (Nat.le_refl _) hr e
    simp only [posOf]
    by_cases c : y = x
    · rw [if_pos c]
      exact ⟨q, _, rfl, hq, h2, h3⟩
    · rw [if_neg c]
      have h' : x ∈ rest.map (·.1) := by
        rw [List.map_cons, List.mem_cons] at h
        exact h.resolve_left fun z => c z.symm
      obtain ⟨p, r', e1, e2, e3⟩ := infos_pos rest q _ h2 rfl h'
      exact ⟨p, r', e1, by omega, e3⟩
end Fw
namespace Fw
/-! ### what the law draws -/
def fv : F → List Int
  | .nul _ => []
  | .leaf .var x => [x]
  | .leaf _ _ => []
  | .two _ f g => fv f ++ fv g
  | .one k x f => if k.bind then (fv f).filter (fun y => y ≠ x) else fv f
theorem free_fv (y : Int) : ∀ (t : F) (b : List Int), y ∈ freeL t b ↔ y ∈ fv t ∧ y ∉ b
  | .nul _, b => by simp [freeL, fv]
  | .leaf .has _, b => by simp [freeL, fv]
  | .leaf .lacks _, b => by simp [freeL, fv]
  | .leaf .var x, b => by
    simp only [freeL, fv, List.mem_singleton]
    split
    · rename_i h
      constructor
      · intro z
        cases z
      · rintro ⟨rfl, z⟩
        exact absurd h z
    · rename_i h
      rw [List.mem_singleton]
      constructor
      · rintro rfl
        exact ⟨rfl, h⟩
      · exact fun z => z.1
  | .two _ f g, b => by
    simp only [freeL, fv, List.mem_append, free_fv y f b, free_fv y g b]
    constructor
    · rintro (⟨h1, h2⟩ | ⟨h1, h2⟩)
      · exact ⟨.inl h1, h2⟩
      · exact ⟨.inr h1, h2⟩
    · rintro ⟨h1 | h1, h2⟩
      · exact .inl ⟨h1, h2⟩
      · exact .inr ⟨h1, h2⟩
  | .one k x f, b => by
    simp only [freeL, fv]
    by_cases hk : k.bind = true
    · rw [if_pos hk, if_pos hk, free_fv y f (b ++ [x])]
      simp only [List.mem_append, List.mem_singleton, not_or, List.mem_filter, decide_eq_true_eq]
      constructor
      · rintro ⟨h1, h2, h3⟩
        exact ⟨⟨h1, h3⟩, h2⟩
      · rintro ⟨⟨h1, h3⟩, h2⟩
        exact ⟨h1, h2, h3⟩
    · rw [if_neg hk, if_neg hk, free_fv y f b]
theorem closed_fv {t : F} : fv t = [] ↔ Closed t := by
  rw [← closed_iff]
  constructor
  · intro h
    refine List.eq_nil_iff_forall_not_mem.mpr fun x hx => ?_
    have := ((free_fv x t []).mp hx).1
    rw [h] at this
    cases this
  · intro h
    refine List.eq_nil_iff_forall_not_mem.mpr fun x hx => ?_
    have := (free_fv x t []).mpr ⟨hx, by simp⟩
    rw [h] at this
    cases this
abbrev V4 : List Int := [0, 1, 2, 7]
def Ok : F → Prop
  | .nul _ => True
  | .leaf .var x => x ∈ V4
  | .leaf _ n => 0 ≤ n ∧ n < 2
  | .two _ f g => Ok f ∧ Ok g
  | .one k n f => (if k.bind = true then n ∈ V4 else 0 ≤ n ∧ n < 2) ∧ Ok f
theorem ok_fv : ∀ {t : F}, Ok t → ∀ x ∈ fv t, x ∈ V4
  | .nul _, _, x, h => by cases h
  | .leaf .has _, _, x, h => by cases h
  | .leaf .lacks _, _, x, h => by cases h
  | .leaf .var y, o, x, h => by
    rw [show fv (.leaf .var y) = [y] from rfl, List.mem_singleton] at h
    subst h
    exact o
  | .two _ f g, o, x, h => by
    rcases List.mem_append.mp (show x ∈ fv f ++ fv g from h) with h | h
    · exact ok_fv o.1 x h
    · exact ok_fv o.2 x h
  | .one k n f, o, x, h => by
    refine ok_fv o.2 x ?_
    simp only [fv] at h
    split at h
    · exact (List.mem_filter.mp h).1
    · exact h
structure Gen (n : Nat) (W R : List Int) (t : F) : Prop where
  dep : t.depth ≤ n + 1
  ok : Ok t
  fr : ∀ x ∈ fv t, x ∈ W ∨ x ∈ R
end Fw
namespace Fw
theorem tidy_fv : ∀ (t : F) (nm : Int → Int) (n y : Int), y ∈ fv (tidyF t nm n).1 → ∃ x ∈ fv t, y = nm x
  | .nul _, _, _, _, h => by cases h
  | .leaf .has _, _, _, _, h => by cases h
  | .leaf .lacks _, _, _, _, h => by cases h
  | .leaf .var x, nm, n, y, h => ⟨x, List.mem_singleton.mpr rfl, List.mem_singleton.mp h⟩
  | .two b f g, nm, n, y, h => by
    rcases List.mem_append.mp (show y ∈ fv (tidyF f nm n).1 ++ fv (tidyF g nm (tidyF f nm n).2).1 from h) with h | h
    · obtain ⟨x, h1, h2⟩ := tidy_fv f nm n y h
      exact ⟨x, List.mem_append_left _ h1, h2⟩
    · obtain ⟨x, h1, h2⟩ := tidy_fv g nm _ y h
      exact ⟨x, List.mem_append_right _ h1, h2⟩
  | .one k z f, nm, n, y, h => by
    by_cases hk : k.bind = true
    · simp only [tidyF, if_pos hk, fv, List.mem_filter, decide_eq_true_eq] at h
      obtain ⟨x, h1, h2⟩ := tidy_fv f _ _ y h.1
      by_cases e : x = z
      · rw [if_pos e] at h2
        exact absurd h2 h.2
      · rw [if_neg e] at h2
        refine ⟨x, ?_, h2⟩
        simp only [fv, if_pos hk, List.mem_filter, decide_eq_true_eq]
        exact ⟨h1, e⟩
    · simp only [tidyF, if_neg hk, fv] at h
      obtain ⟨x, h1, h2⟩ := tidy_fv f nm n y h
      refine ⟨x, ?_, h2⟩
      simp only [fv, if_neg hk]
      exact h1
theorem tidy_closed {t : F} (nm : Int → Int) (n : Int) (h : Closed t) : Closed (tidyF t nm n).1 := by
  rw [← closed_fv] at h ⊢
  refine List.eq_nil_iff_forall_not_mem.mpr fun y hy => ?_
  obtain ⟨x, hx, _⟩ := tidy_fv t nm n y hy
  rw [h] at hx
  cases hx
end Fw

set_option maxRecDepth 100000
set_option maxHeartbeats 2000000
namespace Fw
open PySem PySem.Spec PyProof.Rows L2
/-! ### the text by places -/
def top (i : Nat) : Stmt := PySem.Challenge.pw_fixworlds_k09_world_texts.main.body.getD i (.Pass ⟨0, 0, 0, 0⟩)
abbrev s_is_number : Stmt := top 4
abbrev s_ascends : Stmt := top 5
abbrev s_World_init : Stmt := inClass (top 11) 0
abbrev s_check_numbers : Stmt := top 12
abbrev s_check_states : Stmt := top 13
abbrev s_check_steps : Stmt := top 14
abbrev s_ends_of : Stmt := top 15
abbrev s_format_world : Stmt := top 16
abbrev s_line_of : Stmt := top 17
abbrev s_parse_world : Stmt := top 18
abbrev s_row_of : Stmt := top 19
abbrev s_law_draws : Stmt := top 21
abbrev s_law_take : Stmt := top 22
abbrev s_law_world : Stmt := top 23
abbrev s_law_made : Stmt := top 24
abbrev s_law_outcome : Stmt := top 25
abbrev s_law_line : Stmt := top 26
abbrev s_law_number : Stmt := top 27
abbrev s_law_read : Stmt := top 28
abbrev s_law : Stmt := top 29
abbrev n_is_number : List Str := ["value", "least", "greatest"]
abbrev a_is_number : List Str := ["value", "least", "greatest"]
theorem sc_is_number : FnScope n_is_number a_is_number (defScope s_is_number) := ⟨rfl, rfl, rfl, by decide +kernel, rfl, by decide +kernel, by decide +kernel⟩
abbrev n_ascends : List Str := ["row", "low", "high"]
abbrev a_ascends : List Str := ["row"]
theorem sc_ascends : FnScope n_ascends a_ascends (defScope s_ascends) := ⟨rfl, rfl, rfl, by decide +kernel, rfl, by decide +kernel, by decide +kernel⟩
abbrev n_World_init : List Str := ["self", "labels", "facts", "states", "steps", "row", "step"]
abbrev a_World_init : List Str := ["self", "labels", "facts", "states", "steps"]
theorem sc_World_init : FnScope n_World_init a_World_init (defScope s_World_init) := ⟨rfl, rfl, rfl, by decide +kernel, rfl, by decide +kernel, by decide +kernel⟩
abbrev n_check_numbers : List Str := ["labels", "facts"]
abbrev a_check_numbers : List Str := ["labels", "facts"]
theorem sc_check_numbers : FnScope n_check_numbers a_check_numbers (defScope s_check_numbers) := ⟨rfl, rfl, rfl, by decide +kernel, rfl, by decide +kernel, by decide +kernel⟩
abbrev n_check_states : List Str := ["world", "row", "fact"]
abbrev a_check_states : List Str := ["world"]
theorem sc_check_states : FnScope n_check_states a_check_states (defScope s_check_states) := ⟨rfl, rfl, rfl, by decide +kernel, rfl, by decide +kernel, by decide +kernel⟩
abbrev n_check_steps : List Str := ["world", "greatest", "step"]
abbrev a_check_steps : List Str := ["world"]
theorem sc_check_steps : FnScope n_check_steps a_check_steps (defScope s_check_steps) := ⟨rfl, rfl, rfl, by decide +kernel, rfl, by decide +kernel, by decide +kernel⟩
abbrev n_ends_of : List Str := ["steps", "ends", "start", "label", "end"]
abbrev a_ends_of : List Str := ["steps"]
theorem sc_ends_of : FnScope n_ends_of a_ends_of (defScope s_ends_of) := ⟨rfl, rfl, rfl, by decide +kernel, rfl, by decide +kernel, by decide +kernel⟩
abbrev n_format_world : List Str := ["world", "lines", "row", "step"]
abbrev a_format_world : List Str := ["world"]
theorem sc_format_world : FnScope n_format_world a_format_world (defScope s_format_world) := ⟨rfl, rfl, rfl, by decide +kernel, rfl, by decide +kernel, by decide +kernel⟩
abbrev n_line_of : List Str := ["word", "numbers", "number"]
abbrev a_line_of : List Str := ["word", "numbers"]
theorem sc_line_of : FnScope n_line_of a_line_of (defScope s_line_of) := ⟨rfl, rfl, rfl, by decide +kernel, rfl, by decide +kernel, by decide +kernel⟩
abbrev n_parse_world : List Str := ["text", "rows", "labels", "facts", "_", "states", "steps", "world", "line", "word", "numbers"]
abbrev a_parse_world : List Str := ["text"]
theorem sc_parse_world : FnScope n_parse_world a_parse_world (defScope s_parse_world) := ⟨rfl, rfl, rfl, by decide +kernel, rfl, by decide +kernel, by decide +kernel⟩
abbrev n_row_of : List Str := ["line", "words", "word"]
abbrev a_row_of : List Str := ["line"]
theorem sc_row_of : FnScope n_row_of a_row_of (defScope s_row_of) := ⟨rfl, rfl, rfl, by decide +kernel, rfl, by decide +kernel, by decide +kernel⟩
abbrev n_law_draws : List Str := ["script", "count", "cells", "found", "mixed", "k", "j", "cell", "again"]
abbrev a_law_draws : List Str := ["script", "count"]
theorem sc_law_draws : FnScope n_law_draws a_law_draws (defScope s_law_draws) := ⟨rfl, rfl, rfl, by decide +kernel, rfl, by decide +kernel, by decide +kernel⟩
abbrev n_law_take : List Str := ["draws", "limit"]
abbrev a_law_take : List Str := ["draws", "limit"]
theorem sc_law_take : FnScope n_law_take a_law_take (defScope s_law_take) := ⟨rfl, rfl, rfl, by decide +kernel, rfl, by decide +kernel, by decide +kernel⟩
abbrev n_law_world : List Str := ["draws", "most", "facts", "size", "state", "states", "steps", "label", "other", "fact"]
abbrev a_law_world : List Str := ["draws", "most", "facts"]
theorem sc_law_world : FnScope n_law_world a_law_world (defScope s_law_world) := ⟨rfl, rfl, rfl, by decide +kernel, rfl, by decide +kernel, by decide +kernel⟩
abbrev n_law_made : List Str := ["world", "labels", "facts", "state"]
abbrev a_law_made : List Str := ["world", "labels", "facts"]
theorem sc_law_made : FnScope n_law_made a_law_made (defScope s_law_made) := ⟨rfl, rfl, rfl, by decide +kernel, rfl, by decide +kernel, by decide +kernel⟩
abbrev n_law_outcome : List Str := ["text", "found"]
abbrev a_law_outcome : List Str := ["text"]
theorem sc_law_outcome : FnScope n_law_outcome a_law_outcome (defScope s_law_outcome) := ⟨rfl, rfl, rfl, by decide +kernel, rfl, by decide +kernel, by decide +kernel⟩
abbrev n_law_line : List Str := ["word", "numbers", "number"]
abbrev a_law_line : List Str := ["word", "numbers"]
theorem sc_law_line : FnScope n_law_line a_law_line (defScope s_law_line) := ⟨rfl, rfl, rfl, by decide +kernel, rfl, by decide +kernel, by decide +kernel⟩
abbrev n_law_number : List Str := ["word", "char"]
abbrev a_law_number : List Str := ["word"]
theorem sc_law_number : FnScope n_law_number a_law_number (defScope s_law_number) := ⟨rfl, rfl, rfl, by decide +kernel, rfl, by decide +kernel, by decide +kernel⟩
abbrev n_law_read : List Str := ["text", "lines", "rows", "line", "words", "word", "numbers", "labels", "facts", "size", "states", "steps", "k"]
abbrev a_law_read : List Str := ["text"]
theorem sc_law_read : FnScope n_law_read a_law_read (defScope s_law_read) := ⟨rfl, rfl, rfl, by decide +kernel, rfl, by decide +kernel, by decide +kernel⟩
abbrev n_law : List Str := ["script", "draws", "world", "text", "state", "step", "k", "at", "sign", "kind", "lines", "row"]
abbrev a_law : List Str := ["script"]
theorem sc_law : FnScope n_law a_law (defScope s_law) := ⟨rfl, rfl, rfl, by decide +kernel, rfl, by decide +kernel, by decide +kernel⟩
/-! ### calls -/
def Has (P : Program) (w : World) (K : PySem.W.Frag) (mg : Str → Option Value) (base : Heap) (x : Str) (k : Nat) (ps : List Str) (sp : Sp) : Prop :=
  ∃ f fd, mg x = some (.ref f) ∧ PySem.W.keepIn K (.ref f) = true ∧ Binds K fd ps [] ∧ FnOk P w K mg base CX0 k f fd ps sp
theorem pe_callH {X : Cx} {x : Str} {k : Nat} {ps : List Str} {sp : Sp} {e : Expr} {es : List Expr} {t : TA} {p pos : Pos} (h : Has X.prog X.w X.K X.mg X.base x k ps sp) (hr : Room k X.A) (ha : PA X (e :: es) t) (hg : Gl X x := by rfl)
    (hdb : (x == ("__debug__" : Str)) = false := by decide) (he : starEach (e :: es) X.env = (false, eval e X.env) :: starEach es X.env := by rfl) (hpl : (backTo pos (starEach es X.env)).any (·.1) = false := by rfl) :
    PE X (.Call (.Name x p) (e :: es) [] pos) (tCall sp [] E0 t) := by
  obtain ⟨f, fd, m, kp, b, G⟩ := h
  exact pe_call G hr hg m kp b .nil pass0 ha hdb he hpl
/-- .. of a def that may raise -/
def HasX (P : Program) (w : World) (K : PySem.W.Frag) (mg : Str → Option Value) (base : Heap) (x : Str) (k : Nat) (ps : List Str) (sp : Sp) : Prop :=
  ∃ f fd, mg x = some (.ref f) ∧ PySem.W.keepIn K (.ref f) = true ∧ Binds K fd ps [] ∧ FnOk P w K mg base (L2.CX P w) k f fd ps sp
theorem pe_callX {X : Cx} {W : WX} {x : Str} {k : Nat} {ps : List Str} {sp : Sp} {e : Expr} {es : List Expr} {t : TA} {p pos : Pos} (h : HasX X.prog X.w X.K X.mg X.base x k ps sp) (hr : Room k X.A) (tk : Takes X W) (ha : PA X (e :: es) t) (hg : Gl X x := by rfl)
    (hdb : (x == ("__debug__" : Str)) = false := by decide) (he : starEach (e :: es) X.env = (false, eval e X.env) :: starEach es X.env := by rfl) (hpl : (backTo pos (starEach es X.env)).any (·.1) = false := by rfl) :
    PE X (.Call (.Name x p) (e :: es) [] pos) (tCallS sp (WE W) t) := by
  obtain ⟨f, fd, m, kp, b, G⟩ := h
  exact pe_callS G hr hg m kp b (fun σ => passAt tk σ) ha hdb he hpl
theorem pe_callL {X : Cx} {x : Str} {k : Nat} {ps : List Str} {sp : Sp} {e : Expr} {es : List Expr} {t : TA} {p pos : Pos} (h : HasX X.prog X.w X.K X.mg X.base x k ps sp) (hr : Room k X.A) (ha : PA X (e :: es) t) (hg : Gl X x := by rfl)
    (hdb : (x == ("__debug__" : Str)) = false := by decide) (he : starEach (e :: es) X.env = (false, eval e X.env) :: starEach es X.env := by rfl) (hpl : (backTo pos (starEach es X.env)).any (·.1) = false := by rfl) :
    PE X (.Call (.Name x p) (e :: es) [] pos) (tCall sp [] E0 t) := by
  obtain ⟨f, fd, m, kp, b, G⟩ := h
  exact pe_call G hr hg m kp b .nil passL ha hdb he hpl
theorem pss_when {X : Cx} {sts : List Stmt} {t : TS} {p : Prop} (h : p → PSs X sts t) : PSs X sts (fun D σ H => p ∧ t D σ H) :=
  ⟨fun pins s σ H D I q => (h q.1).run pins s σ H D I q.2⟩
def HasC (P : Program) (w : World) (K : PySem.W.Frag) (mg : Str → Option Value) (base : Heap) (x : Str) (C : Addr) (k : Nat) (ps : List Str) (sp : Sp) : Prop :=
  ∃ f fd, mg x = some (.ref C) ∧ Mk K C f ∧ Binds K fd ps [] ∧ FnOk P w K mg base CX0 k f fd ps sp
theorem pe_makeH {X : Cx} {x : Str} {C : Addr} {k : Nat} {ps : List Str} {sp : Sp} {e : Expr} {es : List Expr} {t : TA} {p pos : Pos} (h : HasC X.prog X.w X.K X.mg X.base x C k ps sp) (hr : Room (k + 1) X.A) (ha : PA X (e :: es) t) (hg : Gl X x := by rfl)
    (hdb : (x == ("__debug__" : Str)) = false := by decide) (he : starEach (e :: es) X.env = (false, eval e X.env) :: starEach es X.env := by rfl) (hpl : (backTo pos (starEach es X.env)).any (·.1) = false := by rfl) :
    PE X (.Call (.Name x p) (e :: es) [] pos) (tMake C sp [] E0 t) := by
  obtain ⟨f, fd, m, M, b, G⟩ := h
  exact pe_make M G hr hg m b .nil pass0 ha hdb he hpl
/-! ### statements in memory -/
def wN (b : Bool) : Str := if b then "true" else "false"
def wT (b : Bool) : Str := if b then "and" else "or"
def wL : Leaf → Str
  | .has => "has"
  | .lacks => "lacks"
  | .var => "var"
def wO : One → Str
  | .some => "some"
  | .all => "all"
  | .least => "least"
  | .most => "most"
def hv : Hd → List V
  | .nul b => [.str (wN b)]
  | .leaf k n => [.str (wL k), .int n]
  | .two b => [.str (wT b)]
  | .one k n => [.str (wO k), .int n]
def hw : Hd → Str
  | .nul b => wN b
  | .leaf k _ => wL k
  | .two b => wT b
  | .one k _ => wO k
inductive IsF (K : PySem.W.Frag) (H : Hp) : V → F → Prop
  | nul {a : Addr} {b : Bool} : SqT K H a (hv (.nul b)) → IsF K H (.ref a) (.nul b)
  | leaf {a : Addr} {k : Leaf} {n : Int} : SqT K H a (hv (.leaf k n)) → IsF K H (.ref a) (.leaf k n)
  | two {a : Addr} {b : Bool} {x y : V} {f g : F} : SqT K H a (hv (.two b) ++ [x, y]) → IsF K H x f → IsF K H y g → IsF K H (.ref a) (.two b f g)
  | one {a : Addr} {k : One} {n : Int} {x : V} {f : F} : SqT K H a (hv (.one k n) ++ [x]) → IsF K H x f → IsF K H (.ref a) (.one k n f)
/-- all but what stands at d is as it was -/
def But (d : Addr) (H H' : Hp) : Prop := ∀ b o, b ≠ d → H b = some o → H' b = some o
theorem Same.but {d : Addr} {H H' : Hp} (s : Same H H') : But d H H' := fun b o _ e => s b o e
theorem But.refl (d : Addr) (H : Hp) : But d H H := fun _ _ _ e => e
theorem But.trans {d : Addr} {H H1 H2 : Hp} (a : But d H H1) (b : But d H1 H2) : But d H H2 := fun c o n e => b c o n (a c o n e)
theorem But.upd {d : Addr} {H : Hp} {o : HO} : But d H (upd H d o) := fun b u n e => by rw [upd_ne n]; exact e
theorem Same.new {H : Hp} {p : Addr} {o : HO} (h : H p = none) : Same H (upd H p o) := fun b u e => by rw [upd_ne (ne_of_none e h)]; exact e
theorem SqT.keepAt {K : PySem.W.Frag} {H H' : Hp} {a : Addr} {xs : List V} (k : ∀ o, H a = some o → H' a = some o) (h : SqT K H a xs) : SqT K H' a xs := by
  rcases h with h | h
  · rcases h with h | ⟨u, h⟩
    · exact .inl (.inl (k _ h))
    · exact .inl (.inr ⟨u, k _ h⟩)
  · exact .inr h
theorem SqL.keepAt {K : PySem.W.Frag} {H H' : Hp} {a : Addr} {xs : List V} (k : ∀ o, H a = some o → H' a = some o) (h : SqL K H a xs) : SqL K H' a xs := by
  rcases h with h | h
  · rcases h with h | ⟨u, h⟩
    · exact .inl (.inl (k _ h))
    · exact .inl (.inr ⟨u, k _ h⟩)
  · exact .inr h
theorem SqT.same {K : PySem.W.Frag} {H H' : Hp} {a : Addr} {xs : List V} (s : Same H H') (h : SqT K H a xs) : SqT K H' a xs := SqT.keepAt (fun o e => s a o e) h
/-- what stands at d is a list: tuples are elsewhere -/
def IsLst (H : Hp) (d : Addr) : Prop := ∃ xs, H d = some (.lst xs)
theorem SqT.but {K : PySem.W.Frag} {H H' : Hp} {a d : Addr} {xs : List V} (hd : IsLst H d) (s : But d H H') (h : SqT K H a xs) : SqT K H' a xs := by
  rcases h with h | h
  · obtain ⟨ys, e⟩ := hd
    rcases h with h | ⟨u, h⟩
    · exact .inl (.inl (s _ _ (ne_of h e (by intro z; cases z)) h))
    · exact .inl (.inr ⟨u, s _ _ (ne_of h e (by intro z; cases z)) h⟩)
  · exact .inr h
theorem IsF.map {K : PySem.W.Frag} {H H' : Hp} (s : ∀ a xs, SqT K H a xs → SqT K H' a xs) {v : V} {t : F} (h : IsF K H v t) : IsF K H' v t := by
  induction h with
  | nul h => exact .nul (s _ _ h)
  | leaf h => exact .leaf (s _ _ h)
  | two h _ _ f g => exact .two (s _ _ h) f g
  | one h _ f => exact .one (s _ _ h) f
theorem IsF.same {K : PySem.W.Frag} {H H' : Hp} (s : Same H H') {v : V} {t : F} (h : IsF K H v t) : IsF K H' v t := h.map fun _ _ => SqT.same s
theorem IsF.but {K : PySem.W.Frag} {H H' : Hp} {d : Addr} (hd : IsLst H d) (s : But d H H') {v : V} {t : F} (h : IsF K H v t) : IsF K H' v t := h.map fun _ _ => SqT.but hd s
inductive AllF (K : PySem.W.Frag) (H : Hp) : List V → List F → Prop
  | nil : AllF K H [] []
  | cons {x : V} {f : F} {xs : List V} {fs : List F} : IsF K H x f → AllF K H xs fs → AllF K H (x :: xs) (f :: fs)
theorem IsF.open {K : PySem.W.Frag} {H : Hp} {v : V} {t : F} (h : IsF K H v t) : ∃ a ks, v = .ref a ∧ SqT K H a (hv t.hd ++ ks) ∧ AllF K H ks t.kids := by
  cases h with
  | nul h => exact ⟨_, [], rfl, by simpa [F.hd] using h, .nil⟩
  | leaf h => exact ⟨_, [], rfl, by simpa [F.hd] using h, .nil⟩
  | two h f g => exact ⟨_, _, rfl, h, .cons f (.cons g .nil)⟩
  | one h f => exact ⟨_, _, rfl, h, .cons f .nil⟩
theorem IsF.close {K : PySem.W.Frag} {H : Hp} {a : Addr} {t : F} {ks : List V} (h : SqT K H a (hv t.hd ++ ks)) (hk : AllF K H ks t.kids) : IsF K H (.ref a) t := by
  cases t with
  | nul b =>
    cases hk
    exact .nul (by simpa [F.hd] using h)
  | leaf k n =>
    cases hk
    exact .leaf (by simpa [F.hd] using h)
  | two b f g =>
    cases hk with
    | cons x hk =>
      cases hk with
      | cons y hk =>
        cases hk
        exact .two h x y
  | one k n f =>
    cases hk with
    | cons x hk =>
      cases hk
      exact .one h x
theorem hv_len (h : Hd) : (hv h).length = 1 ∨ (hv h).length = 2 := by cases h <;> simp [hv]
theorem hv_head (h : Hd) : (hv h)[0]? = some (.str (hw h)) := by cases h <;> rfl
def isTwo : Hd → Bool
  | .two _ => true
  | _ => false
theorem in_joins (h : Hd) : inV (.str (hw h)) [.str "and", .str "or"] = isTwo h := by
  cases h with
  | nul b => cases b <;> rfl
  | leaf k n => cases k <;> rfl
  | two b => cases b <;> rfl
  | one k n => cases k <;> rfl
def isBH : Hd → Bool
  | .one k _ => k.bind
  | _ => false
theorem in_binders (h : Hd) : inV (.str (hw h)) [.str "least", .str "most"] = isBH h := by
  cases h with
  | nul b => cases b <;> rfl
  | leaf k n => cases k <;> rfl
  | two b => cases b <;> rfl
  | one k n => cases k <;> rfl
/-! ### what the top has written -/
structure Txt (K : PySem.W.Frag) (mg : Str → Option Value) (C J B : Addr) : Prop where
  z_all : mg "all" = none
  z_bool : mg "bool" = none
  z_int : mg "int" = none
  z_isinstance : mg "isinstance" = none
  z_len : mg "len" = none
  z_list : mg "list" = none
  z_max : mg "max" = none
  z_min : mg "min" = none
  z_range : mg "range" = none
  z_set : mg "set" = none
  z_sorted : mg "sorted" = none
  z_str : mg "str" = none
  z_tuple : mg "tuple" = none
  z_zip : mg "zip" = none
/-- what it has written of the class of worlds -/
structure TxtC (K : PySem.W.Frag) (WC : Addr) : Prop where
  cl : Cls K WC
  nL : NoAttr K WC "labels"
  nF : NoAttr K WC "facts"
  nS : NoAttr K WC "states"
  nT : NoAttr K WC "steps"
  nE : NoAttr K WC "_ends"
/-- what it has written of the errors -/
structure TxtE (K : PySem.W.Frag) (mg : Str → Option Value) (NC FE : Addr) : Prop where
  gC : mg "NotClosed" = some (.ref NC)
  gF : mg "FixError" = some (.ref FE)
  xC : PySem.W.excIn K NC [.type "ValueError", .type "Exception", .type "BaseException", .type "object"] "ValueError.__new__" = true
  kC : PySem.W.keepIn K (.ref NC) = true
  bC : PySem.W.subIn K (.ref NC) (.type "BaseException") = some true
  tC : PySem.W.typeIn K (.ref NC) = some (.type "type")
  eC : PySem.W.exmOne K (.ref NC) (.ref NC) = some true
  is : ExcC K NC
  kF : PySem.W.kitOne K (.ref NC) (.ref FE) = some true
  kV : PySem.W.kitOne K (.ref NC) (.type "ValueError") = some true
def pf (h : V) (a : Int) (l : Addr) : List (Str × V) := [("head", h), ("around", .int a), ("inner", .ref l)]
theorem pf_make (h : V) (a : Int) (l : Addr) : putF "inner" (.ref l) (putF "around" (.int a) (putF "head" h [])) = pf h a l := by rfl
theorem join {c : Bool} {A : Prop} {C : Hp → Prop} {G : Hp} (Fa : Hp → Prop) (hr : ∀ G5, Fa G5 → C G5) (h1 : c = true → (∀ G5, Fa G5 → C G5) → A) (h2 : c = false → Fa G) : if c = true then A else C G := by
  cases c with
  | true => exact h1 rfl hr
  | false => exact hr _ (h2 rfl)
end Fw

set_option maxRecDepth 100000
set_option maxHeartbeats 2000000
namespace Fw
open PySem PySem.Spec PyProof.Rows L2
/-! ### parts in memory -/
/-- all but what stands at the addresses of X is as it was -/
def Kp (X : List Addr) (H H' : Hp) : Prop := ∀ b o, b ∉ X → H b = some o → H' b = some o
/-- all but lists is as it was -/
def LKp (H H' : Hp) : Prop := ∀ b o, (∀ xs, o ≠ .lst xs) → H b = some o → H' b = some o
theorem LKp.refl (H : Hp) : LKp H H := fun _ _ _ e => e
theorem LKp.trans {H H1 H2 : Hp} (a : LKp H H1) (b : LKp H1 H2) : LKp H H2 := fun c o n e => b c o n (a c o n e)
theorem LKp.same {H H' : Hp} (s : Same H H') : LKp H H' := fun b o _ e => s b o e
theorem LKp.upd {H : Hp} {d : Addr} {xs : List V} {o : HO} (h : H d = some (.lst xs)) : LKp H (upd H d o) := fun b u n e => by
  rw [upd_ne (ne_of e h (n xs))]
  exact e
theorem SqT.lk {K : PySem.W.Frag} {H H' : Hp} {a : Addr} {xs : List V} (s : LKp H H') (h : SqT K H a xs) : SqT K H' a xs := by
  rcases h with h | h
  · rcases h with h | ⟨u, h⟩
    · exact .inl (.inl (s _ _ (by intro xs z; cases z) h))
    · exact .inl (.inr ⟨u, s _ _ (by intro xs z; cases z) h⟩)
  · exact .inr h
theorem IsF.lk {K : PySem.W.Frag} {H H' : Hp} (s : LKp H H') {v : V} {t : F} (h : IsF K H v t) : IsF K H' v t := h.map fun _ _ => SqT.lk s
theorem AllF.lk {K : PySem.W.Frag} {H H' : Hp} (s : LKp H H') {vs : List V} {ts : List F} (h : AllF K H vs ts) : AllF K H' vs ts := by
  induction h with
  | nil => exact .nil
  | cons a _ ih => exact .cons (a.lk s) ih
theorem AllF.len {K : PySem.W.Frag} {H : Hp} {vs : List V} {ts : List F} (h : AllF K H vs ts) : vs.length = ts.length := by
  induction h with
  | nil => rfl
  | cons _ _ ih => simp [ih]
theorem AllF.get {K : PySem.W.Frag} {H : Hp} {vs : List V} {ts : List F} (h : AllF K H vs ts) : ∀ {m : Nat} {y : V} {f : F}, vs[m]? = some y → ts[m]? = some f → IsF K H y f := by
  induction h with
  | nil => intro m y f e _; cases e
  | cons a _ ih =>
    intro m y f e1 e2
    cases m with
    | zero =>
      cases e1
      cases e2
      exact a
    | succ m => exact ih e1 e2
structure PRec where
  p : Addr
  l : Addr
  dx : Addr
  h : Addr
structure PartIs (K : PySem.W.Frag) (C : Addr) (H : Hp) (pr : PRec) (hd : Hd) (a : Int) (ks : List Nat) : Prop where
  ob : H pr.p = some (.ins C pr.dx (pf (.ref pr.h) a pr.l))
  hd : SqT K H pr.h (hv hd)
  inn : H pr.l = some (.lst (ks.map fun n => V.int (n : Nat)))
def Parts (K : PySem.W.Frag) (C : Addr) (H : Hp) (R : List PRec) (L : List (Hd × Int)) : Prop :=
  R.length = L.length ∧ ∀ i pr hd a, R[i]? = some pr → L[i]? = some (hd, a) → PartIs K C H pr hd a (kidsFrom (L.map (·.2)) 0 i)
def PartsAt (K : PySem.W.Frag) (C : Addr) (H : Hp) (pa : Addr) (L : List (Hd × Int)) : Prop :=
  ∃ R : List PRec, SqL K H pa (R.map fun r => V.ref r.p) ∧ Parts K C H R L
theorem PartIs.same {K : PySem.W.Frag} {C : Addr} {H H' : Hp} {pr : PRec} {hd : Hd} {a : Int} {ks : List Nat} (s : Same H H') (h : PartIs K C H pr hd a ks) : PartIs K C H' pr hd a ks :=
  ⟨s _ _ h.ob, SqT.same s h.hd, s _ _ h.inn⟩
theorem PartsAt.same {K : PySem.W.Frag} {C : Addr} {H H' : Hp} {pa : Addr} {L : List (Hd × Int)} (s : Same H H') (h : PartsAt K C H pa L) : PartsAt K C H' pa L := by
  obtain ⟨R, h1, h2, h3⟩ := h
  exact ⟨R, s.seq h1, h2, fun i pr hd a e1 e2 => (h3 i pr hd a e1 e2).same s⟩
/-- what waits: bottom first in memory, top first in the list -/
inductive SA (K : PySem.W.Frag) (H : Hp) : List V → List (F × Int) → Prop
  | nil : SA K H [] []
  | snoc {ws : List V} {st : List (F × Int)} {q : Addr} {x : V} {t : F} {a : Int} : SA K H ws st → SqT K H q [x, .int a] → IsF K H x t → SA K H (ws ++ [.ref q]) ((t, a) :: st)
theorem SA.lk {K : PySem.W.Frag} {H H' : Hp} (s : LKp H H') {ws : List V} {st : List (F × Int)} (h : SA K H ws st) : SA K H' ws st := by
  induction h with
  | nil => exact .nil
  | snoc _ b c ih => exact .snoc ih (SqT.lk s b) (c.lk s)
theorem SA.len {K : PySem.W.Frag} {H : Hp} {ws : List V} {st : List (F × Int)} (h : SA K H ws st) : ws.length = st.length := by
  induction h with
  | nil => rfl
  | snoc _ _ _ ih => simp [ih]
theorem kids_snoc (L : List (Hd × Int)) (h : Hd) (a : Int) (i : Nat) :
    kidsFrom ((L ++ [(h, a)]).map (·.2)) 0 i = kidsFrom (L.map (·.2)) 0 i ++ if a = (i : Int) then [L.length] else [] := by
  rw [List.map_append, kids_app]
  simp only [List.map_cons, List.map_nil, kidsFrom, Nat.zero_add, List.length_map]
theorem kids_out : ∀ (A : List Int) (j i : Nat), (∀ a ∈ A, a < (i : Int)) → kidsFrom A j i = [] := fun A j i h => kids_none A j i fun a ha => by have := h a ha; omega
theorem Parts.more {K : PySem.W.Frag} {C : Addr} {G G5 : Hp} {R : List PRec} {L : List (Hd × Int)} {n : PRec} {hd : Hd} {a : Int} (PR : Parts K C G R L) (lk : LKp G G5)
    (hin : ∀ i pr, R[i]? = some pr → G5 pr.l = some (.lst ((kidsFrom (L.map (·.2)) 0 i ++ if a = (i : Int) then [L.length] else []).map fun n => V.int (n : Nat))))
    (Lb : ∀ x ∈ L, x.2 < (L.length : Int)) (ha : a < (L.length : Int)) (new : PartIs K C G5 n hd a []) : Parts K C G5 (R ++ [n]) (L ++ [(hd, a)]) := by
  obtain ⟨len, h⟩ := PR
  refine ⟨by simp [len], fun i pr hd' a' e1 e2 => ?_⟩
  rw [kids_snoc]
  by_cases lt : i < R.length
  · rw [List.getElem?_append_left lt] at e1
    rw [List.getElem?_append_left (by omega)] at e2
    have z := h i pr hd' a' e1 e2
    exact ⟨lk _ _ (by intro xs q; cases q) z.ob, SqT.lk lk z.hd, hin i pr e1⟩
  · have ei : i = R.length := by
      have q := (List.getElem?_eq_some_iff.mp e1).1
      rw [List.length_append, List.length_singleton] at q
      omega
    subst ei
    rw [List.getElem?_append_right (Nat.le_refl _), Nat.sub_self] at e1
    rw [List.getElem?_append_right (by omega), len, Nat.sub_self] at e2
    cases e1
    cases e2
    have none : kidsFrom (L.map (·.2)) 0 R.length = [] := by
      refine kids_out _ _ _ fun b hb => ?_
      obtain ⟨x, hx, rfl⟩ := List.mem_map.mp hb
      rw [len]
      exact Lb x hx
    rw [none, if_neg (by rw [len]; omega)]
    exact new
end Fw

set_option maxRecDepth 100000
set_option maxHeartbeats 2000000
namespace Fw
open PySem PySem.Spec PyProof.Rows L2
def Draws (H : Hp) (d : Addr) : Prop := ∃ ds : List Int, H d = some (.lst (ds.map V.int))
theorem Draws.lst {H : Hp} {d : Addr} (h : Draws H d) : IsLst H d := by
  obtain ⟨ds, e⟩ := h
  exact ⟨_, e⟩
theorem fmod_in {a b : Int} (h : 0 < b) : 0 ≤ a.fmod b ∧ a.fmod b < b := by
  rw [Int.fmod_eq_emod_of_nonneg a (Int.le_of_lt h)]
  exact ⟨Int.emod_nonneg a (by omega), Int.emod_lt_of_pos a h⟩
theorem nz1 : (1000 : Int) ≠ 0 := by decide
theorem nz2 : (2147483647 : Int) ≠ 0 := by decide
theorem nz3 : (1000003 : Int) ≠ 0 := by decide
theorem sq_small {m : Int} (h0 : 0 ≤ m) (h1 : m < 2147483647) : -(2 ^ 64) < m ∧ m < 2 ^ 64 := ⟨by omega, by omega⟩
theorem isTup {K : PySem.W.Frag} {H : Hp} {a : Addr} {xs : List V} (h : SqT K H a xs) : TyX K H (.ref a) (.type "tuple") := by
  rcases h with h | ⟨o, _, _, e, c, _⟩
  · rcases h with h | ⟨u, h⟩
    · exact .base (.tup h)
    · exact .fTuple h
  · exact .kTuple e c
theorem IsF.ty {K : PySem.W.Frag} {H : Hp} {v : V} {t : F} (h : IsF K H v t) : TyX K H v (.type "tuple") := by
  obtain ⟨a, ks, rfl, sq, _⟩ := h.open
  exact isTup sq
section
variable {P : Program} {w : World} {K : PySem.W.Frag} {mg : Str → Option Value} {base : Heap} {C J B NC FE : Addr}
/-! ### the law's draws -/
def spDraws (K : PySem.W.Frag) : Sp := fun vs H Q _ => ∃ (a : Addr) (ns : List Int) (c : Int), vs = [.ref a, .int c] ∧ SqL K H a (ns.map V.int) ∧ ns.length ≤ 63 ∧ 0 ≤ c ∧ c ≤ 1000 ∧
  ∀ d H', Same H H' → H d = none → Draws H' d → Q (.ref d) H'
theorem ok_law_draws {f : Addr} {fd : FuncData} (FF : Fun K "_law_draws" "_law_draws" s_law_draws f fd) (T : Txt K mg C J B) : FnOk P w K mg base CX0 1 f fd a_law_draws (spDraws K) := by
  refine FF.ok sc_law_draws (fun vs H Q E h => ?_) (fun cdv A outer s H vs Q E hr h => ?_)
  · obtain ⟨a, ns, c, rfl, _⟩ := h
    rfl
  · obtain ⟨a, ns, c, rfl, hS, hlen, c0, c1, k⟩ := h
    refine ⟨_, (pss_cons (ps_set (i := 2) sc_law_draws.nd rfl (.inl rfl) (pe_callTy call_list_of rfl T.z_list (by decide +kernel) (pa_cons (pv 0) pa_nil)))
      (pss_cons (ps_if (pt_cmpR op_eq (pe_callB call_len_seq rfl T.z_len (by decide +kernel) (pa_cons (pv 2) pa_nil)) pe_int (nomark _)) (pss_one (ps_set (i := 2) sc_law_draws.nd rfl (.inl rfl) (pe_lst (pa_cons pe_int pa_nil)))) pss_nil)
      (pss_cons (ps_set (i := 3) sc_law_draws.nd rfl (.inl rfl) (pe_lst pa_nil))
      (pss_cons (ps_set (i := 4) sc_law_draws.nd rfl (.inl rfl) pe_int)
      (pss_cons (ps_for PassesOwn.never rfl (pi_range1 rfl T.z_range (pa_cons (pv 1) pa_nil)) (pg_name (i := 5) sc_law_draws.nd rfl (.inl rfl)) (pss_cons (ps_set (i := 6) sc_law_draws.nd rfl (.inl rfl) (pe_op op_modN (pv 5) (pe_callB call_len_seq rfl T.z_len (by decide +kernel) (pa_cons (pv 2) pa_nil))))
      (pss_cons (ps_set (i := 7) sc_law_draws.nd rfl (.inl rfl) (pe_ix ix_list (pv 2) (pv 6) (fun _ _ => rfl)))
      (pss_cons (ps_set (i := 4) sc_law_draws.nd rfl (.inl rfl) (pe_op op_modN (pe_callTy call_int1 rfl T.z_int (by decide +kernel) (pa_cons (pe_op op_add (pe_op op_add (pe_op op_add (pe_op op_mul (pv 4) pe_int) (pe_op op_mul (pe_op op_modN (pe_callTy call_int1 rfl T.z_int (by decide +kernel) (pa_cons (pv 7) pa_nil)) pe_int) pe_int)) (pe_op op_mul (pv 5) pe_int)) pe_int) pa_nil)) pe_int))
      (pss_cons (ps_set (i := 8) sc_law_draws.nd rfl (.inl rfl) (pe_op op_modN (pe_callTy call_int1 rfl T.z_int (by decide +kernel) (pa_cons (pe_op op_add (pe_op op_add (pe_op op_mul (pv 4) (pv 4)) (pe_op op_mul pe_int (pv 4))) (pv 5)) pa_nil)) pe_int))
      (pss_one (ps_if (pt_cmpR op_ge (pv 7) (pe_op op_pow pe_int pe_int) (nomark _)) (pss_cons (ps_expr (pe_bm PySem.F.plainAttrs_list PySem.F.slot_list_append PySem.F.type_list_append mt_append (pv 3) (pa_cons (pe_op op_modN (pe_callTy call_int1 rfl T.z_int (by decide +kernel) (pa_cons (pv 7) pa_nil)) pe_int) pa_nil)))
      (pss_one (ps_asg (pe_op op_fdivN (pv 7) pe_int) (pg_sub (pv 2) (pv 6) set_list)))) (pss_one (ps_expr (pe_bm PySem.F.plainAttrs_list PySem.F.slot_list_append PySem.F.type_list_append mt_append (pv 3) (pa_cons (pe_op op_modN (pe_callTy call_int1 rfl T.z_int (by decide +kernel) (pa_cons (pv 8) pa_nil)) pe_int) pa_nil)))))))))))
      (pss_cons (ps_expr (pe_bm0 PySem.F.plainAttrs_list PySem.F.slot_list_reverse PySem.F.type_list_reverse mt_reverse (pv 3)))
      (pss_one (ps_ret (pv 3))))))))), ?_⟩
    refine ⟨.ref a, rfl, a, _, rfl, .inl hS, fun ca hca => ?_⟩
    have s1 := Same.new (o := .lst (ns.map V.int)) hca
    refine ⟨.ref ca, rfl, ca, _, rfl, .inl (SqL.of upd_same), rfl, _, rfl, ?_⟩
    have fresh : H ca = none := hca
    have goal : ∀ (cb : Addr) (cs : List Int) (G0 : Hp), Same H G0 → H cb = none → G0 cb = some (.lst (cs.map V.int)) → cs ≠ [] → cs.length ≤ 63 → True := fun _ _ _ _ _ _ _ _ => trivial
    refine ite2 (fun c => ?_) (fun c => ?_)
    · refine ⟨by show 1 ≤ sizeLine; decide, fun cb hcb => ?_⟩
      have s2 := Same.new (o := .lst [V.int 7]) hcb
      have sG0 := s1.trans s2
      have hcb0 := s1.free hcb
      have gcb : (upd (upd H ca (.lst (ns.map V.int))) cb (.lst [V.int 7])) cb = some (.lst (([7] : List Int).map V.int)) := upd_same
      generalize upd (upd H ca (.lst (ns.map V.int))) cb (.lst [V.int 7]) = G0 at sG0 gcb
      have hne : ([7] : List Int) ≠ [] := by simp
      have hl63 : ([7] : List Int).length ≤ 63 := by decide
      generalize ([7] : List Int) = cs at gcb hne hl63
      clear s2 s1 hca fresh hcb c goal hlen hS
      refine ⟨Nat.zero_le _, fun fa hfa => ?_⟩
      have s3 := Same.new (o := .lst []) hfa
      have hfa0 := sG0.free hfa
      have fcb : fa ≠ cb := fun e => by rw [e, gcb] at hfa; cases hfa
      refine ⟨.int c, rfl, c, rfl, by omega, by omega, ?_⟩
      refine for_range (lo := 0) (n := c.toNat) (fun i σ G => ∃ (cs' ds : List Int) (m : Int) (y5 y6 y7 y8 : Option V), σ = [some (.ref a), some (.int c), some (.ref cb), some (.ref fa), some (.int m), y5, y6, y7, y8] ∧ Same H G ∧
          G cb = some (.lst (cs'.map V.int)) ∧ cs'.length = cs.length ∧ G fa = some (.lst (ds.map V.int)) ∧ ds.length = i ∧ 0 ≤ m ∧ m < 2147483647)
        ⟨cs, [], 12345, none, none, none, none, rfl, sG0.trans s3, s3 _ _ gcb, rfl, upd_same, rfl, by decide, by decide⟩ ?_ ?_
      · rintro i σ G hi ⟨cs', ds, m, y5, y6, y7, y8, rfl, sG, gc, lc, gf, ld, m0, m1⟩
        have hic : (i : Int) < c := by omega
        rw [Int.zero_add]
        have lpos : 0 < cs'.length := by rw [lc]; exact List.length_pos_iff.mpr hne
        have lmap : ((cs'.map V.int).length : Int) = (cs'.length : Int) := by rw [List.length_map]
        -- j = k % len(cells)
        refine ⟨.int (i : Nat), rfl, .ref cb, rfl, cb, _, rfl, .inl (SqL.of gc), _, _, rfl, rfl, by rw [lmap]; omega, ?_⟩
        rw [lmap]
        have hj := fmod_in (a := (i : Int)) (b := (cs'.length : Int)) (by omega)
        obtain ⟨j, hJ⟩ : ∃ j : Nat, (i : Int).fmod (cs'.length : Int) = (j : Int) := ⟨((i : Int).fmod (cs'.length : Int)).toNat, by omega⟩
        rw [hJ] at hj
        have hjl : j < cs'.length := by omega
        obtain ⟨x, hx⟩ : ∃ x, cs'[j]? = some x := ⟨cs'[j], by simp [hjl]⟩
        -- cell = cells[j]
        refine ⟨.ref cb, rfl, _, rfl, cb, _, _, .int x, rfl, rfl, SqL.of gc, by rw [hJ]; exact atI_nat (j := j) (by rw [List.getElem?_map, hx]; rfl), ?_⟩
        -- mixed
        have x3 := fmod_in (a := x) (b := 1000003) (by decide)
        refine ⟨.int m, rfl, m, 48271, rfl, rfl, .inl (sq_small m0 m1), .int x, rfl, .inl ⟨x, rfl, x, 1000003, rfl, rfl, nz3, x.fmod 1000003, 69621, rfl, rfl, .inl ⟨by omega, by omega⟩, _, _, rfl, rfl, .int (i : Nat), rfl, (i : Int), 7919, rfl, rfl, .inl ⟨by omega, by omega⟩, _, _, rfl, rfl, _, 11, rfl, rfl, .inl ⟨_, rfl, _, 2147483647, rfl, rfl, nz2, ?_⟩⟩⟩
        have mm := fmod_in (a := m * 48271 + x.fmod 1000003 * 69621 + (i : Int) * 7919 + 11) (b := 2147483647) (by decide)
        -- again
        refine ⟨_, rfl, _, rfl, _, _, rfl, rfl, .inl (sq_small mm.1 mm.2), _, rfl, 31, _, rfl, rfl, .inl ⟨by decide, by decide⟩, _, _, rfl, rfl, _, rfl, _, _, rfl, rfl, .inl ⟨_, rfl, _, 1000003, rfl, rfl, nz3, ?_⟩⟩
        -- if cell >= 10 ** 18
        refine ⟨.int x, rfl, 10, 18, rfl, rfl, ⟨by decide, by decide, by decide⟩, _, _, rfl, rfl, _, rfl, ite2 (fun _ => ?_) (fun _ => ?_)⟩
        · refine ⟨.ref fa, rfl, .inl ⟨rfl, _, SqL.of gf⟩, .int x, rfl, .inl ⟨x, rfl, x, 1000, rfl, rfl, nz1, fa, _, _, rfl, rfl, gf, by rw [List.length_map]; exact small1000 (by omega), ?_⟩⟩
          have gc2 : (upd G fa (.lst (ds.map V.int ++ [V.int (x.fmod 1000)]))) cb = some (.lst (cs'.map V.int)) := by rw [upd_ne fcb.symm]; exact gc
          refine ⟨.int x, rfl, x, 1000, rfl, rfl, ⟨by decide, by decide⟩, .ref cb, rfl, _, rfl, cb, _, _, j, rfl, rfl, gc2, by rw [hJ]; unfold ixN; rw [if_pos (by omega), if_pos (by rw [List.length_map]; omega), Int.toNat_natCast], ?_⟩
          refine ⟨cs'.set j (x.fdiv 1000), ds ++ [x.fmod 1000], _, _, _, _, _, rfl, fun b o e => ?_, ?_, by rw [List.length_set]; exact lc, ?_, by rw [List.length_append, ld]; rfl, mm.1, mm.2⟩
          · rw [upd_ne (ne_of_none e hcb0), upd_ne (ne_of_none e hfa0)]
            exact sG b o e
          · rw [upd_same, List.map_set]
          · rw [upd_ne fcb, upd_same, List.map_append]
            rfl
        · refine ⟨.ref fa, rfl, .inl ⟨rfl, _, SqL.of gf⟩, _, rfl, .inl ⟨_, rfl, _, 1000, rfl, rfl, nz1, fa, _, _, rfl, rfl, gf, by rw [List.length_map]; exact small1000 (by omega), ?_⟩⟩
          obtain ⟨ag, hag⟩ : ∃ ag : Int, ag = (((m * 48271 + x.fmod 1000003 * 69621 + (i : Int) * 7919 + 11).fmod 2147483647 * (m * 48271 + x.fmod 1000003 * 69621 + (i : Int) * 7919 + 11).fmod 2147483647 + 31 * (m * 48271 + x.fmod 1000003 * 69621 + (i : Int) * 7919 + 11).fmod 2147483647 + (i : Int)).fmod 1000003).fmod 1000 := ⟨_, rfl⟩
          refine ⟨cs', ds ++ [ag], _, _, _, _, _, rfl, fun b o e => ?_, ?_, lc, ?_, by rw [List.length_append, ld]; rfl, mm.1, mm.2⟩
          · rw [upd_ne (ne_of_none e hfa0)]
            exact sG b o e
          · rw [upd_ne fcb.symm]
            exact gc
          · rw [upd_same, List.map_append, hag]
            rfl
      · rintro σ G ⟨cs', ds, m, y5, y6, y7, y8, rfl, sG, gc, lc, gf, ld, m0, m1⟩
        refine ⟨.ref fa, rfl, .inl ⟨rfl, _, SqL.of gf⟩, fa, _, rfl, rfl, gf, .ref fa, rfl, ?_⟩
        refine k fa _ (fun b o e => ?_) hfa0 ⟨ds.reverse, by rw [upd_same, List.map_reverse]⟩
        rw [upd_ne (ne_of_none e hfa0)]
        exact sG b o e
    · have hne : ns ≠ [] := fun e => c (decide_eq_true (by rw [e]; rfl))
      have sG0 := s1
      have hcb0 := fresh
      have gcb : (upd H ca (.lst (ns.map V.int))) ca = some (.lst (ns.map V.int)) := upd_same
      generalize upd H ca (.lst (ns.map V.int)) = G0 at sG0 gcb
      have hl63 := hlen
      clear s1 hca fresh c goal hlen hS
      obtain ⟨cb, ecb⟩ : ∃ cb : Addr, cb = ca := ⟨_, rfl⟩
      obtain ⟨cs, ecs⟩ : ∃ cs : List Int, cs = ns := ⟨_, rfl⟩
      subst ecb
      subst ecs
      refine ⟨Nat.zero_le _, fun fa hfa => ?_⟩
      have s3 := Same.new (o := .lst []) hfa
      have hfa0 := sG0.free hfa
      have fcb : fa ≠ cb := fun e => by rw [e, gcb] at hfa; cases hfa
      refine ⟨.int c, rfl, c, rfl, by omega, by omega, ?_⟩
      refine for_range (lo := 0) (n := c.toNat) (fun i σ G => ∃ (cs' ds : List Int) (m : Int) (y5 y6 y7 y8 : Option V), σ = [some (.ref a), some (.int c), some (.ref cb), some (.ref fa), some (.int m), y5, y6, y7, y8] ∧ Same H G ∧
          G cb = some (.lst (cs'.map V.int)) ∧ cs'.length = cs.length ∧ G fa = some (.lst (ds.map V.int)) ∧ ds.length = i ∧ 0 ≤ m ∧ m < 2147483647)
        ⟨cs, [], 12345, none, none, none, none, rfl, sG0.trans s3, s3 _ _ gcb, rfl, upd_same, rfl, by decide, by decide⟩ ?_ ?_
      · rintro i σ G hi ⟨cs', ds, m, y5, y6, y7, y8, rfl, sG, gc, lc, gf, ld, m0, m1⟩
        have hic : (i : Int) < c := by omega
        rw [Int.zero_add]
        have lpos : 0 < cs'.length := by rw [lc]; exact List.length_pos_iff.mpr hne
        have lmap : ((cs'.map V.int).length : Int) = (cs'.length : Int) := by rw [List.length_map]
        -- j = k % len(cells)
        refine ⟨.int (i : Nat), rfl, .ref cb, rfl, cb, _, rfl, .inl (SqL.of gc), _, _, rfl, rfl, by rw [lmap]; omega, ?_⟩
        rw [lmap]
        have hj := fmod_in (a := (i : Int)) (b := (cs'.length : Int)) (by omega)
        obtain ⟨j, hJ⟩ : ∃ j : Nat, (i : Int).fmod (cs'.length : Int) = (j : Int) := ⟨((i : Int).fmod (cs'.length : Int)).toNat, by omega⟩
        rw [hJ] at hj
        have hjl : j < cs'.length := by omega
        obtain ⟨x, hx⟩ : ∃ x, cs'[j]? = some x := ⟨cs'[j], by simp [hjl]⟩
        -- cell = cells[j]
        refine ⟨.ref cb, rfl, _, rfl, cb, _, _, .int x, rfl, rfl, SqL.of gc, by rw [hJ]; exact atI_nat (j := j) (by rw [List.getElem?_map, hx]; rfl), ?_⟩
        -- mixed
        have x3 := fmod_in (a := x) (b := 1000003) (by decide)
        refine ⟨.int m, rfl, m, 48271, rfl, rfl, .inl (sq_small m0 m1), .int x, rfl, .inl ⟨x, rfl, x, 1000003, rfl, rfl, nz3, x.fmod 1000003, 69621, rfl, rfl, .inl ⟨by omega, by omega⟩, _, _, rfl, rfl, .int (i : Nat), rfl, (i : Int), 7919, rfl, rfl, .inl ⟨by omega, by omega⟩, _, _, rfl, rfl, _, 11, rfl, rfl, .inl ⟨_, rfl, _, 2147483647, rfl, rfl, nz2, ?_⟩⟩⟩
        have mm := fmod_in (a := m * 48271 + x.fmod 1000003 * 69621 + (i : Int) * 7919 + 11) (b := 2147483647) (by decide)
        -- again
        refine ⟨_, rfl, _, rfl, _, _, rfl, rfl, .inl (sq_small mm.1 mm.2), _, rfl, 31, _, rfl, rfl, .inl ⟨by decide, by decide⟩, _, _, rfl, rfl, _, rfl, _, _, rfl, rfl, .inl ⟨_, rfl, _, 1000003, rfl, rfl, nz3, ?_⟩⟩
        -- if cell >= 10 ** 18
        refine ⟨.int x, rfl, 10, 18, rfl, rfl, ⟨by decide, by decide, by decide⟩, _, _, rfl, rfl, _, rfl, ite2 (fun _ => ?_) (fun _ => ?_)⟩
        · refine ⟨.ref fa, rfl, .inl ⟨rfl, _, SqL.of gf⟩, .int x, rfl, .inl ⟨x, rfl, x, 1000, rfl, rfl, nz1, fa, _, _, rfl, rfl, gf, by rw [List.length_map]; exact small1000 (by omega), ?_⟩⟩
          have gc2 : (upd G fa (.lst (ds.map V.int ++ [V.int (x.fmod 1000)]))) cb = some (.lst (cs'.map V.int)) := by rw [upd_ne fcb.symm]; exact gc
          refine ⟨.int x, rfl, x, 1000, rfl, rfl, ⟨by decide, by decide⟩, .ref cb, rfl, _, rfl, cb, _, _, j, rfl, rfl, gc2, by rw [hJ]; unfold ixN; rw [if_pos (by omega), if_pos (by rw [List.length_map]; omega), Int.toNat_natCast], ?_⟩
          refine ⟨cs'.set j (x.fdiv 1000), ds ++ [x.fmod 1000], _, _, _, _, _, rfl, fun b o e => ?_, ?_, by rw [List.length_set]; exact lc, ?_, by rw [List.length_append, ld]; rfl, mm.1, mm.2⟩
          · rw [upd_ne (ne_of_none e hcb0), upd_ne (ne_of_none e hfa0)]
            exact sG b o e
          · rw [upd_same, List.map_set]
          · rw [upd_ne fcb, upd_same, List.map_append]
            rfl
        · refine ⟨.ref fa, rfl, .inl ⟨rfl, _, SqL.of gf⟩, _, rfl, .inl ⟨_, rfl, _, 1000, rfl, rfl, nz1, fa, _, _, rfl, rfl, gf, by rw [List.length_map]; exact small1000 (by omega), ?_⟩⟩
          obtain ⟨ag, hag⟩ : ∃ ag : Int, ag = (((m * 48271 + x.fmod 1000003 * 69621 + (i : Int) * 7919 + 11).fmod 2147483647 * (m * 48271 + x.fmod 1000003 * 69621 + (i : Int) * 7919 + 11).fmod 2147483647 + 31 * (m * 48271 + x.fmod 1000003 * 69621 + (i : Int) * 7919 + 11).fmod 2147483647 + (i : Int)).fmod 1000003).fmod 1000 := ⟨_, rfl⟩
          refine ⟨cs', ds ++ [ag], _, _, _, _, _, rfl, fun b o e => ?_, ?_, lc, ?_, by rw [List.length_append, ld]; rfl, mm.1, mm.2⟩
          · rw [upd_ne (ne_of_none e hfa0)]
            exact sG b o e
          · rw [upd_ne fcb.symm]
            exact gc
          · rw [upd_same, List.map_append, hag]
            rfl
      · rintro σ G ⟨cs', ds, m, y5, y6, y7, y8, rfl, sG, gc, lc, gf, ld, m0, m1⟩
        refine ⟨.ref fa, rfl, .inl ⟨rfl, _, SqL.of gf⟩, fa, _, rfl, rfl, gf, .ref fa, rfl, ?_⟩
        refine k fa _ (fun b o e => ?_) hfa0 ⟨ds.reverse, by rw [upd_same, List.map_reverse]⟩
        rw [upd_ne (ne_of_none e hfa0)]
        exact sG b o e
/-! ### one draw -/
def spTake : Sp := fun vs H Q _ => ∃ (d : Addr) (lim : Int), vs = [.ref d, .int lim] ∧ Draws H d ∧ 0 < lim ∧ ∀ v H', 0 ≤ v → v < lim → But d H H' → Draws H' d → Q (.int v) H'
theorem ok_law_take {f : Addr} {fd : FuncData} (FF : Fun K "_law_take" "_law_take" s_law_take f fd) (T : Txt K mg C J B) : FnOk P w K mg base CX0 1 f fd a_law_take spTake := by
  refine FF.ok sc_law_take (fun vs H Q E h => ?_) (fun cdv A outer s H vs Q E hr h => ?_)
  · obtain ⟨d, lim, rfl, _⟩ := h
    rfl
  · obtain ⟨d, lim, rfl, ⟨ds, hd⟩, hl, k⟩ := h
    refine ⟨_, (pss_cons (ps_if (pt_cmpR op_eq (pe_callB call_len_seq rfl T.z_len (by decide +kernel) (pa_cons (pv 0) pa_nil)) pe_int (nomark _)) (pss_one (ps_ret pe_int)) pss_nil)
      (pss_one (ps_ret (pe_op op_modN (pe_callTy call_int1 rfl T.z_int (by decide +kernel) (pa_cons (pe_bm0 PySem.F.plainAttrs_list PySem.F.slot_list_pop PySem.F.type_list_pop mt_pop (pv 0)) pa_nil)) (pv 1))))), ?_⟩
    refine ⟨.ref d, rfl, d, _, rfl, .inl (SqL.of hd), rfl, _, rfl, ite2 (fun c => ?_) (fun c => ?_)⟩
    · exact k 0 H (Int.le_refl 0) hl (But.refl _ _) ⟨ds, hd⟩
    · have ne : ds ≠ [] := fun e => c (decide_eq_true (by rw [e]; rfl))
      obtain ⟨l, x, rfl⟩ : ∃ l x, ds = l ++ [x] := ⟨ds.dropLast, ds.getLast ne, (List.dropLast_concat_getLast ne).symm⟩
      refine ⟨.ref d, rfl, .inl ⟨rfl, _, SqL.of hd⟩, d, _, .int x, rfl, rfl, hd, by simp, .inl ⟨x, rfl, ?_⟩⟩
      have := fmod_in (a := x) hl
      refine ⟨.int lim, rfl, x, lim, rfl, rfl, by omega, ?_⟩
      refine k _ _ this.1 this.2 (fun b o nb e => by rw [upd_ne nb]; exact e) ⟨l, ?_⟩
      rw [upd_same]
      simp
/-! ### the statements in one -/
def spInner (K : PySem.W.Frag) : Sp := fun vs H Q _ => ∃ (v : V) (t : F), vs = [v] ∧ IsF K H v t ∧ ∀ l ks H', Same H H' → H' l = some (.lst ks) → AllF K H' ks t.kids → Q (.ref l) H'
theorem cut_one (xs : List V) : cutV xs (some 1) none = xs.drop 1 := by
  unfold cutV
  rw [show HT.sIx xs.length 0 (some 1) = min 1 xs.length from HT.sIx_nat _ _ 1, HT.sIx_none]
  rcases Nat.le_total 1 xs.length with h | h
  · rw [Nat.min_eq_left h, List.take_of_length_le (by rw [List.length_drop]; exact Nat.le_refl _)]
  · rw [Nat.min_eq_right h, List.drop_length, List.drop_eq_nil_of_le h]
    simp
end
end Fw

set_option maxRecDepth 100000
set_option maxHeartbeats 2000000
namespace Fw
open PySem PySem.Spec PyProof.Rows L2
theorem iteF_out {A B : Prop} (h : if false = true then A else B) : B := by
  rw [if_neg Bool.false_ne_true] at h
  exact h
theorem iteT_out {A B : Prop} (h : if true = true then A else B) : A := by
  rw [if_pos rfl] at h
  exact h
theorem Draws.but {d : Addr} {H H' : Hp} (s : ∀ o, H d = some o → H' d = some o) (h : Draws H d) : Draws H' d := by
  obtain ⟨ds, e⟩ := h
  exact ⟨ds, s _ e⟩
theorem Draws.same {d : Addr} {H H' : Hp} (s : Same H H') (h : Draws H d) : Draws H' d := h.but fun o e => s d o e
theorem SqL.but {K : PySem.W.Frag} {H H' : Hp} {a d : Addr} {xs : List V} (n : a ≠ d) (s : But d H H') (h : SqL K H a xs) : SqL K H' a xs := SqL.keepAt (fun o e => s a o n e) h
theorem Draws.ne {H : Hp} {d q : Addr} (h : Draws H d) (hq : H q = none) : q ≠ d := fun e => by
  obtain ⟨ds, z⟩ := h
  rw [← e, hq] at z
  cases z
def ofB (b : Bool) : Int := if b = true then 1 else 0
abbrev IL (H : Hp) (a : Addr) (xs : List Int) : Prop := H a = some (.lst (xs.map V.int))
end Fw

set_option maxRecDepth 100000
set_option maxHeartbeats 4000000
namespace Fw
open PySem PySem.Spec PyProof.Rows L2
/-! ### statements as data -/
def dV : V → PyData
  | .str z => .str z
  | .int i => .int i
  | _ => .none
def dF : F → PyData
  | .nul b => .tuple ((hv (.nul b)).map dV)
  | .leaf k n => .tuple ((hv (.leaf k n)).map dV)
  | .two b f g => .tuple ((hv (.two b)).map dV ++ [dF f, dF g])
  | .one k n f => .tuple ((hv (.one k n)).map dV ++ [dF f])
theorem dp_F {K : PySem.W.Frag} {H : Hp} {v : V} {t : F} (h : IsF K H v t) : Dp K H v (dF t) := by
  induction h with
  | nul h => exact .tup h (.cons (.str _) .nil)
  | leaf h => exact .tup h (.cons (.str _) (.cons (.int _) .nil))
  | two h _ _ f g => exact .tup h (.cons (.str _) (.cons f (.cons g .nil)))
  | one h _ f => exact .tup h (.cons (.str _) (.cons (.int _) (.cons f .nil)))
theorem ok_hw (h : Hd) : PyData.strOk (hw h) = true := by
  cases h with
  | nul b => cases b <;> decide +kernel
  | leaf k n =>
    show PyData.strOk (wL k) = true
    cases k <;> decide +kernel
  | two b => cases b <;> decide +kernel
  | one k n =>
    show PyData.strOk (wO k) = true
    cases k <;> decide +kernel
theorem dF_lay : ∀ t : F, (dF t).canLay0 = true
  | .nul b => by
    have := ok_hw (.nul b)
    simp only [hw] at this
    simp [dF, hv, dV, PyData.canLay0, PyData.canLayAll0, this]
  | .leaf k n => by
    have := ok_hw (.leaf k n)
    simp only [hw] at this
    simp [dF, hv, dV, PyData.canLay0, PyData.canLayAll0, this]
  | .two b f g => by
    have := ok_hw (.two b)
    simp only [hw] at this
    simp [dF, hv, dV, PyData.canLay0, PyData.canLayAll0, this, dF_lay f, dF_lay g]
  | .one k n f => by
    have := ok_hw (.one k n)
    simp only [hw] at this
    simp [dF, hv, dV, PyData.canLay0, PyData.canLayAll0, this, dF_lay f]
theorem dF_depth : ∀ t : F, (dF t).depth ≤ t.depth
  | .nul b => by simp [dF, hv, dV, PyData.depth, PyData.depthAll, F.depth]
  | .leaf k n => by simp [dF, hv, dV, PyData.depth, PyData.depthAll, F.depth]
  | .two b f g => by
    have := dF_depth f
    have := dF_depth g
    simp [dF, hv, dV, PyData.depth, PyData.depthAll, F.depth]
    omega
  | .one k n f => by
    have := dF_depth f
    simp [dF, hv, dV, PyData.depth, PyData.depthAll, F.depth]
    omega
theorem dF_shaped {t : F} (h : t.depth ≤ 64) : SeqAt.shaped (dF t) = true := by
  unfold SeqAt.shaped
  rw [dF_lay, decide_eq_true (Nat.le_trans (dF_depth t) h)]
  rfl
theorem dF_same (t : F) : PyData.eqv (dF t) (dF t) = true := SeqAt.eqv_refl _ (dF_lay t)
theorem dp_ints {K : PySem.W.Frag} {H : Hp} : ∀ ns : List Int, DpAll K H (ns.map V.int) (ns.map PyData.int)
  | [] => .nil
  | n :: ns => .cons (.int n) (dp_ints ns)
theorem ints_lay : ∀ ns : List Int, PyData.canLayAll0 (ns.map PyData.int) = true
  | [] => by simp [PyData.canLayAll0]
  | n :: ns => by simp [PyData.canLayAll0, PyData.canLay0, ints_lay ns]
theorem ints_depth : ∀ ns : List Int, PyData.depthAll (ns.map PyData.int) = 0
  | [] => by simp [PyData.depthAll]
  | n :: ns => by simp [PyData.depthAll, PyData.depth, ints_depth ns]
theorem ints_shaped (ns : List Int) : SeqAt.shaped (.list (ns.map PyData.int)) = true := by
  unfold SeqAt.shaped
  simp [PyData.canLay0, PyData.depth, ints_lay, ints_depth]
theorem ints_same (ns : List Int) : PyData.eqv (.list (ns.map PyData.int)) (.list (ns.map PyData.int)) = true := SeqAt.eqv_refl _ (by simp [PyData.canLay0, ints_lay])
/-- two rising lists of the same members are one -/
theorem rising_one : ∀ {a b : List Int}, a.Pairwise (· < ·) → b.Pairwise (· < ·) → (∀ x, x ∈ a ↔ x ∈ b) → a = b
  | [], [], _, _, _ => rfl
  | [], y :: b, _, _, h => by have := (h y).mpr List.mem_cons_self; cases this
  | x :: a, [], _, _, h => by have := (h x).mp List.mem_cons_self; cases this
  | x :: a, y :: b, ha, hb, h => by
    have ha' := List.pairwise_cons.mp ha
    have hb' := List.pairwise_cons.mp hb
    have e : x = y := by
      rcases List.mem_cons.mp ((h x).mp List.mem_cons_self) with q | q
      · exact q
      · rcases List.mem_cons.mp ((h y).mpr List.mem_cons_self) with r | r
        · exact r.symm
        · have := ha'.1 y r
          have := hb'.1 x q
          omega
    subst e
    congr 1
    refine rising_one ha'.2 hb'.2 fun z => ?_
    constructor
    · intro hz
      rcases List.mem_cons.mp ((h z).mp (List.mem_cons_of_mem _ hz)) with q | q
      · have := ha'.1 z hz
        omega
      · exact q
    · intro hz
      rcases List.mem_cons.mp ((h z).mpr (List.mem_cons_of_mem _ hz)) with q | q
      · have := hb'.1 z hz
        omega
      · exact q
def isOneH : Hd → Bool
  | .one _ _ => true
  | _ => false
theorem in_four (h : Hd) : inV (.str (hw h)) [.str "least", .str "most", .str "some", .str "all"] = isOneH h := by
  cases h with
  | nul b => cases b <;> rfl
  | leaf k n => cases k <;> rfl
  | two b => cases b <;> rfl
  | one k n => cases k <;> rfl
section
variable {P : Program} {w : World} {K : PySem.W.Frag} {mg : Str → Option Value} {base : Heap} {C J B NC FE : Addr}
end
end Fw

namespace Fw
/-! ### opposites -/
def Leaf.opp : Leaf → Leaf
  | .has => .lacks
  | .lacks => .has
  | .var => .var
def One.opp : One → One
  | .some => .all
  | .all => .some
  | .least => .most
  | .most => .least
def opp : F → F
  | .nul b => .nul !b
  | .leaf k n => .leaf k.opp n
  | .two b f g => .two (!b) (opp f) (opp g)
  | .one k n f => .one k.opp n (opp f)
def oppH : Hd → Hd
  | .nul b => .nul !b
  | .leaf k n => .leaf k.opp n
  | .two b => .two !b
  | .one k n => .one k.opp n
theorem opp_hd (t : F) : (opp t).hd = oppH t.hd := by cases t <;> rfl
theorem opp_skel : ∀ t : F, skel (opp t) = skel t
  | .nul _ => rfl
  | .leaf _ _ => rfl
  | .two _ f g => by simp [opp, skel, opp_skel f, opp_skel g]
  | .one _ _ f => by simp [opp, skel, opp_skel f]
theorem opp_size (t : F) : (opp t).size = t.size := same_size (opp_skel t)
theorem opp_depth (t : F) : (opp t).depth = t.depth := by rw [← skel_depth, opp_skel, skel_depth]
theorem opp_opp : ∀ t : F, opp (opp t) = t
  | .nul b => by simp [opp]
  | .leaf k n => by cases k <;> rfl
  | .two b f g => by simp [opp, opp_opp f, opp_opp g]
  | .one k n f => by cases k <;> simp [opp, One.opp, opp_opp f]
theorem bind_opp (k : One) : k.opp.bind = k.bind := by cases k <;> rfl
theorem opp_fv : ∀ t : F, fv (opp t) = fv t
  | .nul _ => rfl
  | .leaf k n => by cases k <;> rfl
  | .two b f g => by simp [opp, fv, opp_fv f, opp_fv g]
  | .one k n f => by simp only [opp, fv, bind_opp, opp_fv f]
theorem opp_closed {t : F} (h : Closed t) : Closed (opp t) := by
  rw [← closed_fv] at h ⊢
  rw [opp_fv, h]
theorem opp_heads : ∀ (t : F) (a : Int) (i : Nat) (st st' : Stk), ((info (opp t) a i st').map fun r => r.sub.hd) = (info t a i st).map fun r => oppH r.sub.hd
  | .nul _, _, _, _, _ => rfl
  | .leaf _ _, _, _, _, _ => rfl
  | .two b f g, a, i, st, st' => by
    simp only [opp, info, List.map_cons, List.map_append, opp_heads f i (i + 1) st st', opp_size, opp_heads g i (i + 1 + f.size) st st']
    rfl
  | .one k n f, a, i, st, st' => by
    simp only [opp, info, List.map_cons, opp_heads f i (i + 1) (if k.bind = true then (n, i) :: st else st)]
    rfl
end Fw

/-! Worlds as the laws draw them, and what is true in them: pure mathematics. -/
namespace Fw
structure Wd where
  facts : List (List Int)
  steps : List (Int × Int × Int)
def Wd.n (W : Wd) : Nat := W.facts.length
def rng (n : Nat) : List Int := (List.range n).map Int.ofNat
theorem rng_get {n i : Nat} (h : i < n) : (rng n)[i]? = some (i : Int) := by
  unfold rng
  rw [List.getElem?_map, List.getElem?_range h]
  rfl
theorem rng_len (n : Nat) : (rng n).length = n := by unfold rng; rw [List.length_map, List.length_range]
theorem rng_mem {n : Nat} {x : Int} : x ∈ rng n ↔ 0 ≤ x ∧ x < n := by
  unfold rng
  rw [List.mem_map]
  constructor
  · rintro ⟨a, h, rfl⟩
    have := List.mem_range.mp h
    exact ⟨Int.natCast_nonneg a, Int.ofNat_lt.mpr this⟩
  · rintro ⟨h1, h2⟩
    exact ⟨x.toNat, List.mem_range.mpr (by omega), Int.toNat_of_nonneg h1⟩
theorem rng_succ (n : Nat) : rng (n + 1) = rng n ++ [(n : Int)] := by
  unfold rng
  rw [List.range_succ, List.map_append]
  rfl
theorem rng_take {n i : Nat} (h : i ≤ n) : (rng n).take i = rng i := by
  unfold rng
  rw [← List.map_take, List.take_range, Nat.min_eq_left h]
/-- the facts of a state -/
def Wd.at (W : Wd) (s : Int) : List Int := (W.facts[s.toNat]?).getD []
def Wd.beh (W : Wd) (s l : Int) : List Int := (W.steps.filter fun p => decide (p.1 = s) && decide (p.2.1 = l)).map fun p => p.2.2
/-- each step leads to a state -/
def Wd.Good (W : Wd) : Prop := ∀ p ∈ W.steps, 0 ≤ p.2.2 ∧ p.2.2 < W.n
def sIn (X : List Int) (s : Int) : Bool := decide (s ∈ X)
def flt (n : Nat) (p : Int → Bool) : List Int := (rng n).filter p
def setE (e : Int → List Int) (x : Int) (X : List Int) : Int → List Int := fun y => if y = x then X else e y
def iter (f : List Int → List Int) : Nat → List Int → List Int
  | 0, X => X
  | k + 1, X => f (iter f k X)
def val (W : Wd) : F → (Int → List Int) → List Int
  | .nul b, _ => if b = true then rng W.n else []
  | .leaf .has n, _ => flt W.n fun s => sIn (W.at s) n
  | .leaf .lacks n, _ => flt W.n fun s => !sIn (W.at s) n
  | .leaf .var x, e => e x
  | .two b f g, e => if b = true then flt W.n (fun s => sIn (val W g e) s && sIn (val W f e) s) else flt W.n (fun s => sIn (val W g e) s || sIn (val W f e) s)
  | .one .some l f, e => flt W.n fun s => decide (0 < (((W.beh s l).filter (sIn (val W f e))).length : Int))
  | .one .all l f, e => flt W.n fun s => decide ((((W.beh s l).filter (fun k => !sIn (val W f e) k)).length : Int) = 0)
  | .one .least x f, e => iter (fun X => val W f (setE e x X)) (W.n + 1) []
  | .one .most x f, e => iter (fun X => val W f (setE e x X)) (W.n + 1) (rng W.n)
/-- the others -/
def co (n : Nat) (X : List Int) : List Int := flt n fun s => !sIn X s
theorem flt_congr {n : Nat} {p q : Int → Bool} (h : ∀ s : Int, 0 ≤ s → s < (n : Int) → p s = q s) : flt n p = flt n q :=
  List.filter_congr fun s hs => h s (rng_mem.mp hs).1 (rng_mem.mp hs).2
theorem sIn_flt {n : Nat} {p : Int → Bool} {s : Int} (h0 : 0 ≤ s) (h1 : s < (n : Int)) : sIn (flt n p) s = p s := by
  unfold sIn flt
  cases e : p s with
  | true => exact decide_eq_true (List.mem_filter.mpr ⟨rng_mem.mpr ⟨h0, h1⟩, e⟩)
  | false => exact decide_eq_false fun h => by rw [(List.mem_filter.mp h).2] at e; cases e
theorem co_flt {n : Nat} {p : Int → Bool} : co n (flt n p) = flt n fun s => !p s := flt_congr fun s h0 h1 => by rw [sIn_flt h0 h1]
theorem sIn_co {n : Nat} {X : List Int} {s : Int} (h0 : 0 ≤ s) (h1 : s < (n : Int)) : sIn (co n X) s = !sIn X s := sIn_flt h0 h1
theorem rng_flt (n : Nat) : rng n = flt n fun _ => true := (List.filter_eq_self.mpr fun _ _ => rfl).symm
theorem co_rng (n : Nat) : co n (rng n) = [] := by
  rw [rng_flt, co_flt]
  exact List.filter_eq_nil_iff.mpr fun _ _ h => by cases h
theorem co_nil (n : Nat) : co n [] = rng n := by
  unfold co
  rw [rng_flt]
  exact flt_congr fun s _ _ => rfl
theorem setE_co {n : Nat} {e : Int → List Int} {x : Int} {X : List Int} : setE (fun y => co n (e y)) x (co n X) = fun y => co n (setE e x X y) := by
  funext y
  unfold setE
  by_cases h : y = x
  · rw [if_pos h, if_pos h]
  · rw [if_neg h, if_neg h]
theorem iter_co {n : Nat} {f g : List Int → List Int} (h : ∀ X, g (co n X) = co n (f X)) : ∀ (k : Nat) (X : List Int), iter g k (co n X) = co n (iter f k X)
  | 0, X => rfl
  | k + 1, X => by
    show g (iter g k (co n X)) = co n (f (iter f k X))
    rw [iter_co h k X, h]
theorem val_opp {W : Wd} (G : W.Good) : ∀ (t : F) (e : Int → List Int), val W (opp t) (fun y => co W.n (e y)) = co W.n (val W t e)
  | .nul b, e => by
    cases b
    · show (if true = true then rng W.n else []) = co W.n (if false = true then rng W.n else [])
      rw [if_pos rfl, if_neg Bool.false_ne_true, co_nil]
    · show (if false = true then rng W.n else []) = co W.n (if true = true then rng W.n else [])
      rw [if_pos rfl, if_neg Bool.false_ne_true, co_rng]
  | .leaf .has n, e => by
    show flt W.n _ = co W.n (flt W.n _)
    rw [co_flt]
  | .leaf .lacks n, e => by
    show flt W.n _ = co W.n (flt W.n _)
    rw [co_flt]
    exact flt_congr fun s _ _ => (Bool.not_not _).symm
  | .leaf .var x, e => rfl
  | .two b f g, e => by
    cases b
    · show (if true = true then _ else _) = co W.n (if false = true then _ else _)
      rw [if_pos rfl, if_neg Bool.false_ne_true, co_flt, val_opp G f e, val_opp G g e]
      exact flt_congr fun s h0 h1 => by rw [sIn_co h0 h1, sIn_co h0 h1, Bool.not_or]
    · show (if false = true then _ else _) = co W.n (if true = true then _ else _)
      rw [if_pos rfl, if_neg Bool.false_ne_true, co_flt, val_opp G f e, val_opp G g e]
      exact flt_congr fun s h0 h1 => by rw [sIn_co h0 h1, sIn_co h0 h1, Bool.not_and]
  | .one .some l f, e => by
    show flt W.n _ = co W.n (flt W.n _)
    rw [co_flt, val_opp G f e]
    refine flt_congr fun s h0 h1 => ?_
    have : (W.beh s l).filter (fun k => !sIn (co W.n (val W f e)) k) = (W.beh s l).filter (sIn (val W f e)) := by
      refine List.filter_congr fun k hk => ?_
      obtain ⟨p, hp, rfl⟩ := List.mem_map.mp hk
      have := G p (List.mem_filter.mp hp).1
      rw [sIn_co this.1 this.2, Bool.not_not]
    rw [this, ← decide_not]
    exact decide_eq_decide.mpr ⟨fun h => by omega, fun h => by omega⟩
  | .one .all l f, e => by
    show flt W.n _ = co W.n (flt W.n _)
    rw [co_flt, val_opp G f e]
    refine flt_congr fun s h0 h1 => ?_
    have : (W.beh s l).filter (sIn (co W.n (val W f e))) = (W.beh s l).filter (fun k => !sIn (val W f e) k) := by
      refine List.filter_congr fun k hk => ?_
      obtain ⟨p, hp, rfl⟩ := List.mem_map.mp hk
      have := G p (List.mem_filter.mp hp).1
      rw [sIn_co this.1 this.2]
    rw [this, ← decide_not]
    exact decide_eq_decide.mpr ⟨fun h => by omega, fun h => by omega⟩
  | .one .least x f, e => by
    show iter (fun X => val W (opp f) (setE (fun y => co W.n (e y)) x X)) (W.n + 1) (rng W.n) = co W.n (iter (fun X => val W f (setE e x X)) (W.n + 1) [])
    rw [← co_nil, iter_co (f := fun X => val W f (setE e x X))]
    exact fun X => by rw [setE_co, val_opp G f]
  | .one .most x f, e => by
    show iter (fun X => val W (opp f) (setE (fun y => co W.n (e y)) x X)) (W.n + 1) [] = co W.n (iter (fun X => val W f (setE e x X)) (W.n + 1) (rng W.n))
    rw [← co_rng W.n, iter_co (f := fun X => val W f (setE e x X))]
    exact fun X => by rw [setE_co, val_opp G f]
/-- all values are ranks of states -/
theorem val_in {W : Wd} : ∀ (t : F) (e : Int → List Int), (∀ x ∈ fv t, (e x).length ≤ W.n) → (val W t e).length ≤ W.n
  | .nul b, e, h => by
    show (if b = true then rng W.n else []).length ≤ _
    split
    · rw [rng_len]; exact Nat.le_refl _
    · exact Nat.zero_le _
  | .leaf .has n, e, h => Nat.le_trans (List.length_filter_le _ _) (by rw [rng_len]; exact Nat.le_refl _)
  | .leaf .lacks n, e, h => Nat.le_trans (List.length_filter_le _ _) (by rw [rng_len]; exact Nat.le_refl _)
  | .leaf .var x, e, h => h x (List.mem_singleton.mpr rfl)
  | .two b f g, e, h => by
    show (if b = true then flt _ _ else flt _ _).length ≤ _
    split <;> exact Nat.le_trans (List.length_filter_le _ _) (by rw [rng_len]; exact Nat.le_refl _)
  | .one .some l f, e, h => Nat.le_trans (List.length_filter_le _ _) (by rw [rng_len]; exact Nat.le_refl _)
  | .one .all l f, e, h => Nat.le_trans (List.length_filter_le _ _) (by rw [rng_len]; exact Nat.le_refl _)
  | .one .least x f, e, h => iter_in (fun X hX => val_in f _ fun y hy => setE_in (fv_one rfl) h hX y hy) _ _ (Nat.zero_le _)
  | .one .most x f, e, h => iter_in (fun X hX => val_in f _ fun y hy => setE_in (fv_one rfl) h hX y hy) _ _ (by rw [rng_len]; exact Nat.le_refl _)
where
  iter_in {n : Nat} {f : List Int → List Int} (hf : ∀ X, X.length ≤ n → (f X).length ≤ n) : ∀ (k : Nat) (X : List Int), X.length ≤ n → (iter f k X).length ≤ n
    | 0, X, h => h
    | k + 1, X, h => hf _ (iter_in hf k X h)
  fv_one {k : One} {x : Int} {f : F} (hk : k.bind = true) : ∀ y ∈ fv f, y ≠ x → y ∈ fv (.one k x f) := fun y hy hn => by
    simp only [fv, if_pos hk, List.mem_filter, decide_eq_true_eq]
    exact ⟨hy, hn⟩
  setE_in {n : Nat} {e : Int → List Int} {x : Int} {X : List Int} {A B : List Int} (hs : ∀ y ∈ A, y ≠ x → y ∈ B) (h : ∀ y ∈ B, (e y).length ≤ n) (hX : X.length ≤ n) : ∀ y ∈ A, (setE e x X y).length ≤ n := fun y hy => by
    unfold setE
    by_cases c : y = x
    · rw [if_pos c]; exact hX
    · rw [if_neg c]; exact h y (hs y hy c)
end Fw

set_option maxRecDepth 100000
set_option maxHeartbeats 4000000
/-! all of a generator expression over zip of two lists or two tuples. -/
namespace Fw
open PySem PySem.Spec PyProof.Rows L2 GxR
theorem walksU_zipL {prog : Program} {w : World} {A : Around} (hh : A.handled = none) {z TI TO i1 i2 l1 l2 : Addr} (D : ZipApart z TI TO i1 i2 l1 l2) (xs ys : Array Value) :
    WalksU prog w A z [z, TI, TO, i1, i2, l1, l2] [z, TO, i1, i2] (min xs.size ys.size)
      (fun i vals => ∃ x y, xs[i]? = some x ∧ ys[i]? = some y ∧ vals = #[x, y])
      (fun i h => IsZip h z TI TO .none ∧ IsPair h TI (.ref i1) (.ref i2) ∧ (∃ a b, IsPair h TO a b) ∧ h.IsListIter i1 l1 i ∧ h.IsListIter i2 l2 i ∧ h.IsList l1 xs ∧ h.IsList l2 ys)
      (fun i T h => IsZip h z TI TO (rawInt T) ∧ IsPair h TI (.ref i1) (.ref i2) ∧ (∃ a b, IsPair h TO a b) ∧ h.IsListIter i1 l1 (i + 1) ∧ h.IsListIter i2 l2 (i + 1) ∧ h.IsList l1 xs ∧ h.IsList l2 ys ∧
        T ≠ z ∧ T ≠ TO ∧ T ≠ i1 ∧ T ≠ i2) := (WalksT.zip2 hh z TI TO i1 i2 l1 l2 D xs ys).toU
theorem isTuple_at {h h' : Heap} {a : Addr} {xs : Array Value} (x : h.IsTuple a xs) (k : ∀ o, h.get? a = some o → h'.get? a = some o) : h'.IsTuple a xs := let ⟨o, e, r⟩ := x; ⟨o, k o e, r⟩
theorem walksU_zipT {prog : Program} {w : World} {A : Around} (hh : A.handled = none) {z TI TO i1 i2 l1 l2 : Addr} (D : ZipApart z TI TO i1 i2 l1 l2) (xs ys : Array Value) :
    WalksU prog w A z [z, TI, TO, i1, i2, l1, l2] [z, TO, i1, i2] (min xs.size ys.size)
      (fun i vals => ∃ x y, xs[i]? = some x ∧ ys[i]? = some y ∧ vals = #[x, y])
      (fun i h => IsZip h z TI TO .none ∧ IsPair h TI (.ref i1) (.ref i2) ∧ (∃ a b, IsPair h TO a b) ∧ h.IsTupleIter i1 l1 i ∧ h.IsTupleIter i2 l2 i ∧ h.IsTuple l1 xs ∧ h.IsTuple l2 ys)
      (fun i T h => IsZip h z TI TO (rawInt T) ∧ IsPair h TI (.ref i1) (.ref i2) ∧ (∃ a b, IsPair h TO a b) ∧ h.IsTupleIter i1 l1 (i + 1) ∧ h.IsTupleIter i2 l2 (i + 1) ∧ h.IsTuple l1 xs ∧ h.IsTuple l2 ys ∧
        T ≠ z ∧ T ≠ TO ∧ T ≠ i1 ∧ T ≠ i2) where
  sub := fun c hc => by simp at hc ⊢; rcases hc with rfl | rfl | rfl | rfl <;> simp
  frame := fun i h h' hst hk => by
    obtain ⟨hz, hTI, ⟨a, b, hTO⟩, h1, h2, hl1, hl2⟩ := hst
    exact ⟨hk z (by simp) _ hz, hk TI (by simp) _ hTI, ⟨a, b, hk TO (by simp) _ hTO⟩, h1.at fun o e => hk i1 (by simp) o e, h2.at fun o e => hk i2 (by simp) o e,
      isTuple_at hl1 fun o e => hk l1 (by simp) o e, isTuple_at hl2 fun o e => hk l2 (by simp) o e⟩
  item := fun i s Q E hi hst hQ => by
    obtain ⟨hz, hTI, ⟨a, b, hTO⟩, h1, h2, hl1, hl2⟩ := hst
    have hix : i < xs.size := Nat.lt_of_lt_of_le hi (Nat.min_le_left ..)
    have hiy : i < ys.size := Nat.lt_of_lt_of_le hi (Nat.min_le_right ..)
    refine RZ.pyNext_zipT_item D hz hTI hTO h1 h2 hl1 hl2 (Array.getElem?_eq_getElem hix) (Array.getElem?_eq_getElem hiy) fun h' a1 a2 a3 a4 a5 a6 hk => ?_
    have lt : ∀ {c o}, s.heap.get? c = some o → s.heap.objs.size ≠ c := fun e => Nat.ne_of_gt (Heap.lt_size e)
    exact hQ s.heap.objs.size #[xs[i], ys[i]] h' s.toks ⟨_, _, Array.getElem?_eq_getElem hix, Array.getElem?_eq_getElem hiy, rfl⟩ ⟨_, a5, rfl, _, rfl⟩
      ⟨a1, hk _ _ D.TIz D.TITO D.TIi1 D.TIi2 hTI, ⟨_, _, a2⟩, a3, a4, isTuple_at hl1 fun o e => hk _ o D.l1z D.l1TO D.l1i1 D.l1i2 e, isTuple_at hl2 fun o e => hk _ o D.l2z D.l2TO D.l2i1 D.l2i2 e,
        lt hz, lt hTO, (by obtain ⟨_, e, _⟩ := h1; exact lt e), (by obtain ⟨_, e, _⟩ := h2; exact lt e)⟩
      fun c o hc e => hk c o (fun x => hc (by simp [x])) (fun x => hc (by simp [x])) (fun x => hc (by simp [x])) (fun x => hc (by simp [x])) e
  go := fun elts k pos i T s Q E hm hQ => by
    obtain ⟨hz, hTI, ⟨a, b, hTO⟩, h1, h2, hl1, hl2, _⟩ := hm
    refine wpAny_letOwnedTupleGo_zip hz fun h' hz' hs' => hQ h' ⟨hz', hs'.extBut _ _ D.TIz hTI, ⟨a, b, hs'.extBut _ _ D.TOz hTO⟩, h1.at fun o e => hs'.extBut _ _ D.i1z e, h2.at fun o e => hs'.extBut _ _ D.i2z e,
      isTuple_at hl1 fun o e => hs'.extBut _ _ D.l1z e, isTuple_at hl2 fun o e => hs'.extBut _ _ D.l2z e⟩ fun c o hc e => hs'.extBut _ _ (fun x => hc (by simp [x])) e
  apart := fun i T h hm hT => by
    obtain ⟨_, _, _, _, _, _, _, t1, t2, t3, t4⟩ := hm
    simp at hT
    rcases hT with rfl | rfl | rfl | rfl
    · exact t1 rfl
    · exact t2 rfl
    · exact t3 rfl
    · exact t4 rfl
  done := fun s Q E hst hQ => by
    obtain ⟨hz, hTI, ⟨a, b, hTO⟩, h1, h2, hl1, hl2⟩ := hst
    have hend : xs[min xs.size ys.size]? = none ∨ ys[min xs.size ys.size]? = none := by
      rcases Nat.le_total xs.size ys.size with h | h
      · exact .inl (by rw [Nat.min_eq_left h]; exact Array.getElem?_eq_none (Nat.le_refl _))
      · exact .inr (by rw [Nat.min_eq_right h]; exact Array.getElem?_eq_none (Nat.le_refl _))
    exact RZ.pyNext_zipT_end hh D hz hTI hTO h1 h2 hl1 hl2 hend fun h' hk => hQ h' s.toks fun c o hc e =>
      hk c o (fun x => hc (by simp [x])) (fun x => hc (by simp [x])) (fun x => hc (by simp [x])) (fun x => hc (by simp [x])) e
  self := fun i s Q E hst hQ => wpAny_pyIter_zip hst.1 hQ
theorem vals_get : ∀ {xs : List V} {us : List Value} {j : Nat} {u : Value}, Vals xs us → us[j]? = some u → ∃ x, xs[j]? = some x ∧ RelV x u
  | _, _, 0, _, .cons r _, e => by
    simp at e
    subst e
    exact ⟨_, rfl, r⟩
  | _, _, j + 1, _, .cons _ rr, e => by
    simp at e
    obtain ⟨x, hx, r⟩ := vals_get rr e
    exact ⟨x, by simpa using hx, r⟩
/-- the generator expression's own scope, two names -/
structure GenS2 (env : Env) (scope : Scope) (xa xb : Str) : Prop where
  kind : scope.kind = .function
  co : scope.isCoroutine = false
  cell : ∀ y ∈ scope.names, y.2 ≠ .cell
  dot : scope.names.lookup (".0" : Str) = some NameKind.local
  la : scope.names.lookup xa = some .local
  lb : scope.names.lookup xb = some .local
  free : ∀ y ∈ scope.names, y.2 = .free → ∃ c, env.cells.lookup y.1 = some c
/-- the element at two values: a test whose outcome is r -/
def EltZ (prog : Program) (w : World) (scope : Scope) (xa xb : Str) (elt : Expr) (U : Nat) (hb : Heap) (P : Addr) (x y : V) (r : Bool) : Prop :=
  ∀ (cenv : Env) (A' : Around) (E' : Value → Shared → Prop) (va vb : Value) (s₂ : Shared) (m₂ : Str → Option Value), cenv.scope = scope → A'.units ≤ U → s₂.heap.Ns cenv.locals m₂ → m₂ xa = some va → m₂ xb = some vb → RelV x va → RelV y vb →
    (∀ b o, b ≠ P → hb.get? b = some o → s₂.heap.get? b = some o) → wpAny (model prog w) A' (eval elt cenv) (fun v s₃ => v = .bool r ∧ Keeps s₂ s₃) E' s₂
def ReadyZ (X : Cx) (pins : List (Addr × Obj)) (σ : L2.St) (H1 : Hp) (P : Addr) (rs : List Bool) (g : Addr) (s5 : Shared) : Prop :=
  ∃ (fp wr : List Addr) (G : Array GenState → Array GenState → Prop) (n : Nat) (F : Nat → Value → Prop) (St : Nat → Shared → Prop),
    n = rs.length ∧ WalksS X.prog X.w X.A.in1 g fp wr G n F St ∧ St 0 s5 ∧
    TruthOf X.prog X.w X.A.in1 F (fun j => (rs[j]?).getD false) ∧
    ∀ s', Moved wr G s5 s' → ∃ H2, Tabbed P H1 H2 ∧ Inv X pins σ H2 s'
section
variable {X : Cx} {pins : List (Addr × Obj)} {σ : L2.St} {H : Hp} {s : Shared}
/-- what the test does at each pair, in any heap like H1 -/
def EltsZ (X : Cx) (scope : Scope) (xa xb : Str) (elt : Expr) (P : Addr) (H1 : Hp) (xs ys : List V) (rs : List Bool) : Prop :=
  rs.length = min xs.length ys.length ∧ ∀ (s : Shared) (pins : List (Addr × Obj)) (σ : L2.St), Inv X pins σ H1 s → ∀ (i : Nat) (x y : V) (r : Bool), xs[i]? = some x → ys[i]? = some y → rs[i]? = some r → EltZ X.prog X.w scope xa xb elt (X.A.units + 8) s.heap P x y r
theorem gen_zip {c P : Addr} {elt e e2 : Expr} {xa xb : Str} {pa pb pt pz cpos gpos : Pos} {kt : Nat} {scope : Scope} {ta : TA} {k : Nat} {Q' : Value → Shared → Prop} {R : List Bool → Hp → Prop}
    (hr : Room k X.A) (TB : TabB X.base X.mg c P) (hcode : X.env.code = .ref c) (S : GenS2 X.env scope xa xb) (hab : xa ≠ xb) (hg : Gl X "zip") (hm : X.mg "zip" = none) (ha : PA X [e, e2] ta)
    (hse : starEach [e, e2] X.env = (false, eval e X.env) :: starEach [e2] X.env) (hpl : (backTo cpos (starEach [e2] X.env)).any (·.1) = false)
    (hs : ∀ v, genFold (.Call (.Name "zip" pz) [e, e2] [] cpos) X.env v = pure v) (I : Inv X pins σ H s)
    (h : ta σ H fun vs H1 => ∃ a b xs ys rs, vs = [.ref a, .ref b] ∧ ((SqL X.K H1 a xs ∧ SqL X.K H1 b ys) ∨ (SqT X.K H1 a xs ∧ SqT X.K H1 b ys)) ∧ TabG H1 P ∧ EltsZ X scope xa xb elt P H1 xs ys rs ∧ R rs H1)
    (hQ : ∀ rs H1 g s5, R rs H1 → ReadyZ X pins σ H1 P rs g s5 → Q' (.ref g) s5) :
    wpAny (model X.prog X.w) X.A (eval (.GeneratorExp elt [⟨.Tuple [.Name xa pa, .Name xb pb] kt pt, .Call (.Name "zip" pz) [e, e2] [] cpos, [], 0⟩] scope gpos) X.env) Q' X.xe s := by
  refine wpAny_GeneratorExp_walksQTD hr.hd S.co (closure_ok S.free) S.cell S.dot S.la S.lb hab S.kind (by have := hr.dp; omega) ?_ hs
  refine Call_ (ld_blt I hg hm PyProof.Rows.boot_zip (PyProof.Rows.callWith_type1 (thn (ha.run cpos pins s σ H _ I h) fun us s1 ⟨vs, H1, I1, r1, q1⟩ => ?_) hse hpl))
  obtain ⟨a, b, xs, ys, rs, ex, hab2, ⟨ps, hP, ht⟩, ⟨hlen, hel⟩, q1⟩ := q1
  subst ex
  cases r1 with
  | cons r rr =>
  cases rr with
  | cons r' rr =>
  cases rr
  cases r
  cases r'
  have hPs : s1.heap.get? P = some { cls := .none, data := .fields ps } := I1.hok P _ hP
  have hPlt : P < s1.heap.objs.size := Heap.lt_size hPs
  -- from the zip object on, over lists or over tuples
  have go : ∀ (h' : Heap) (its its2 : List Value) (St₀ : Nat → Heap → Prop) (Mid : Nat → Addr → Heap → Prop), Vals xs its → Vals ys its2 → (∀ c o, s1.heap.get? c = some o → h'.get? c = some o) → h'.objs.size = s1.heap.objs.size + 5 →
      a < s1.heap.objs.size → b < s1.heap.objs.size → a ≠ P → b ≠ P →
      (∀ A' : Around, A'.handled = none → WalksU X.prog X.w A' (s1.heap.objs.size + 4) [s1.heap.objs.size + 4, s1.heap.objs.size + 2, s1.heap.objs.size + 3, s1.heap.objs.size, s1.heap.objs.size + 1, a, b] [s1.heap.objs.size + 4, s1.heap.objs.size + 3, s1.heap.objs.size, s1.heap.objs.size + 1] (min its.toArray.size its2.toArray.size)
        (fun i vals => ∃ x y, its.toArray[i]? = some x ∧ its2.toArray[i]? = some y ∧ vals = #[x, y]) St₀ Mid) → St₀ 0 h' →
      { s1 with heap := h' }.heap.NoLimit ∧
      wpAny (model X.prog X.w) X.A (genexprCode X.env gpos (X.env.qual ++ "<genexpr>") scope) (fun code s₃ => wpAny (model X.prog X.w) X.A (builtinsFor X.env.globals X.env.builtins) (fun bi s₄ =>
        ∃ Ia fp wr n₀ Pt St₀ Mid pz F, Value.ref (s1.heap.objs.size + 4) = .ref Ia ∧ (∀ A' : Around, A'.handled = none → WalksU X.prog X.w A' Ia fp wr n₀ Pt St₀ Mid) ∧ (∀ i vals, Pt i vals → ∃ va vb, vals = #[va, vb]) ∧ St₀ 0 s₄.heap ∧ (∀ b ∈ fp, b < s₄.heap.objs.size) ∧ s₄.heap.NoLimit ∧ cStatics ∉ wr ∧
          (∀ href : Heap, (∀ b o, s₄.heap.get? b = some o → href.get? b = some o) →
            QuietGenTD X.prog X.w (genEnv scope (cloFrom X.env.cells scope.names []) s₄.heap.objs.size code bi X.env) xa xb [] elt (List.range s₄.heap.objs.size) wr Pt pz F href (X.A.depth + 1) (X.A.units + 8)) ∧
          (∀ a h₅ tk gs, gs.bare = true → s₄.heap.objs.size < a → h₅.objs.size = a + 1 → (∀ b o, s₄.heap.get? b = some o → h₅.get? b = some o) →
            WalksS X.prog X.w X.A.in4 a (a :: s₄.heap.objs.size :: List.range s₄.heap.objs.size) (s₄.heap.objs.size :: wr) (GenOnlyQ s₄.gens.size) (passing pz n₀ 0).length
              (fun j y => ∃ i, (passing pz n₀ 0)[j]? = some i ∧ F i y) (GenAt X.prog X.w X.A.in4 a s₄.gens.size s₄.heap.objs.size (List.range s₄.heap.objs.size) wr pz n₀ F) →
            GenAt X.prog X.w X.A.in4 a s₄.gens.size s₄.heap.objs.size (List.range s₄.heap.objs.size) wr pz n₀ F 0 { s₄ with gens := s₄.gens.push gs, toks := tk, heap := h₅ } →
            Q' (.ref a) { s₄ with gens := s₄.gens.push gs, toks := tk, heap := h₅ })) X.xe s₃) X.xe { s1 with heap := h' } := by
    intro h' its its2 St Mid rv rv2 hk hsz' la lb aP bP W hst
    have l1 := rv.length
    have l2 := rv2.length
    have hP2 : h'.get? P = some { cls := .none, data := .fields ps } := hk _ _ hPs
    have cd : PySem.W.CodeHd h' c P := TB.code.keeps fun b u e => hk _ _ (I1.bk b u e)
    have lim2 : h'.NoLimit := I1.nolimit.keeps hk
    have cont : ∀ (code : Value) (h3 : Heap) (tk : Nat) (ps' : Array Value), Heap.ExtBut P h' h3 → h'.objs.size ≤ h3.objs.size → h3.get? P = some { cls := .none, data := .fields ps' } → (∃ more, ps' = ps ++ more) → TriplesOk ps'.toList →
        wpAny (model X.prog X.w) X.A (builtinsFor X.env.globals X.env.builtins) (fun bi s₄ =>
          ∃ Ia fp wr n₀ Pt St₀ Mid pz F, Value.ref (s1.heap.objs.size + 4) = .ref Ia ∧ (∀ A' : Around, A'.handled = none → WalksU X.prog X.w A' Ia fp wr n₀ Pt St₀ Mid) ∧ (∀ i vals, Pt i vals → ∃ va vb, vals = #[va, vb]) ∧ St₀ 0 s₄.heap ∧ (∀ b ∈ fp, b < s₄.heap.objs.size) ∧ s₄.heap.NoLimit ∧ cStatics ∉ wr ∧
          (∀ href : Heap, (∀ b o, s₄.heap.get? b = some o → href.get? b = some o) →
            QuietGenTD X.prog X.w (genEnv scope (cloFrom X.env.cells scope.names []) s₄.heap.objs.size code bi X.env) xa xb [] elt (List.range s₄.heap.objs.size) wr Pt pz F href (X.A.depth + 1) (X.A.units + 8)) ∧
          (∀ a h₅ tk gs, gs.bare = true → s₄.heap.objs.size < a → h₅.objs.size = a + 1 → (∀ b o, s₄.heap.get? b = some o → h₅.get? b = some o) →
            WalksS X.prog X.w X.A.in4 a (a :: s₄.heap.objs.size :: List.range s₄.heap.objs.size) (s₄.heap.objs.size :: wr) (GenOnlyQ s₄.gens.size) (passing pz n₀ 0).length
              (fun j y => ∃ i, (passing pz n₀ 0)[j]? = some i ∧ F i y) (GenAt X.prog X.w X.A.in4 a s₄.gens.size s₄.heap.objs.size (List.range s₄.heap.objs.size) wr pz n₀ F) →
            GenAt X.prog X.w X.A.in4 a s₄.gens.size s₄.heap.objs.size (List.range s₄.heap.objs.size) wr pz n₀ F 0 { s₄ with gens := s₄.gens.push gs, toks := tk, heap := h₅ } →
            Q' (.ref a) { s₄ with gens := s₄.gens.push gs, toks := tk, heap := h₅ })) X.xe { s1 with heap := h3, toks := tk } := by
      intro code h3 tk ps' hx hsz hP3 hmore ht3
      obtain ⟨bm, ob, e1, e2, e3, e4, e5, e6, e7, e8⟩ := TB.bm
      have hcP : cStatics ≠ P := fun e => by
        obtain ⟨_, hns, _⟩ := I1.nolimit
        obtain ⟨o', es, ep, ho, hd, _⟩ := hns
        rw [e, hPs] at ho
        cases ho
        cases hd
      have hcl : cStatics < s1.heap.objs.size := let ⟨_, hns, _⟩ := I1.nolimit; hns.lt
      have keep3 : ∀ b u, b ≠ P → s1.heap.get? b = some u → h3.get? b = some u := fun b u hb e => hx b u hb (hk _ _ e)
      refine wpAny_builtinsFor (m := X.mg) (by rw [I1.ok.glob]; exact ((I1.mod.glob.keeps I1.bk).keeps hk).extBut hx TB.gP) e1 e2 (keep3 _ _ e4 (I1.bk _ _ e5)) e6 e7 e8 ?_
      refine ⟨s1.heap.objs.size + 4, _, _, _, _, St, Mid, (fun _ => true), (fun i y => ∃ r, rs[i]? = some r ∧ y = .bool r), rfl, W, ?_, ?_, ?_, lim2.extBut hx hcP, ?_, ?_, ?_⟩
      · rintro i vals ⟨x, y, _, _, e⟩
        exact ⟨x, y, e⟩
      · refine (W X.A hr.hd).frame _ _ _ hst fun b' hb u e => hx b' u (fun z => ?_) e
        have : b' = s1.heap.objs.size + 4 ∨ b' = s1.heap.objs.size + 2 ∨ b' = s1.heap.objs.size + 3 ∨ b' = s1.heap.objs.size ∨ b' = s1.heap.objs.size + 1 ∨ b' = a ∨ b' = b := by simpa using hb
        rw [z] at this
        rcases this with q | q | q | q | q | q | q
        · exact absurd hPlt (by rw [q]; exact Nat.not_lt.mpr (Nat.le_add_right _ _))
        · exact absurd hPlt (by rw [q]; exact Nat.not_lt.mpr (Nat.le_add_right _ _))
        · exact absurd hPlt (by rw [q]; exact Nat.not_lt.mpr (Nat.le_add_right _ _))
        · exact absurd hPlt (by rw [q]; exact Nat.lt_irrefl _)
        · exact absurd hPlt (by rw [q]; exact Nat.not_lt.mpr (Nat.le_add_right _ _))
        · exact aP q.symm
        · exact bP q.symm
      · intro b' hb
        show b' < h3.objs.size
        have : b' = s1.heap.objs.size + 4 ∨ b' = s1.heap.objs.size + 2 ∨ b' = s1.heap.objs.size + 3 ∨ b' = s1.heap.objs.size ∨ b' = s1.heap.objs.size + 1 ∨ b' = a ∨ b' = b := by simpa using hb
        refine Nat.lt_of_lt_of_le ?_ (Nat.le_trans (Nat.le_of_eq hsz'.symm) hsz)
        rcases this with q | q | q | q | q | q | q
        · rw [q]; exact Nat.add_lt_add_left (by decide) _
        · rw [q]; exact Nat.add_lt_add_left (by decide) _
        · rw [q]; exact Nat.add_lt_add_left (by decide) _
        · rw [q]; exact Nat.lt_add_of_pos_right (by decide)
        · rw [q]; exact Nat.add_lt_add_left (by decide) _
        · rw [q]; exact Nat.lt_of_lt_of_le la (Nat.le_add_right _ _)
        · rw [q]; exact Nat.lt_of_lt_of_le lb (Nat.le_add_right _ _)
      · intro z
        have : cStatics = s1.heap.objs.size + 4 ∨ cStatics = s1.heap.objs.size + 3 ∨ cStatics = s1.heap.objs.size ∨ cStatics = s1.heap.objs.size + 1 := by simpa using z
        rcases this with q | q | q | q
        · exact absurd hcl (by rw [q]; exact Nat.not_lt.mpr (Nat.le_add_right _ _))
        · exact absurd hcl (by rw [q]; exact Nat.not_lt.mpr (Nat.le_add_right _ _))
        · exact absurd hcl (by rw [q]; exact Nat.lt_irrefl _)
        · exact absurd hcl (by rw [q]; exact Nat.not_lt.mpr (Nat.le_add_right _ _))
      · intro href hhref
        refine ⟨fun A' E' i va vb s₂ m₂ hA _ _ hPv hn hma hmb hkk => ?_, fun A' E' i va vb s₂ m₂ hA _ hu hPv hp hn hma hmb hkk => ?_⟩
        · simp only [List.forIn_nil]
          exact wpAny_pure ⟨rfl, keeps_refl _⟩
        · obtain ⟨x, y, hx', hy', ee⟩ := hPv
          have ea : va = x := by have := congrArg (fun z => z[0]?) ee; simpa using this
          have eb : vb = y := by have := congrArg (fun z => z[1]?) ee; simpa using this
          subst ea eb
          have hx2 : its[i]? = some va := by simpa using hx'
          have hy2 : its2[i]? = some vb := by simpa using hy'
          obtain ⟨x, hxx, rx⟩ := vals_get rv hx2
          obtain ⟨y, hyy, ry⟩ := vals_get rv2 hy2
          have hi : i < rs.length := by
            have h1 := (List.getElem?_eq_some_iff.mp hxx).1
            have h2 := (List.getElem?_eq_some_iff.mp hyy).1
            omega
          have hrr : rs[i]? = some rs[i] := List.getElem?_eq_getElem hi
          refine wpAny_mono (hel s1 pins σ I1 i x y _ hxx hyy hrr _ A' E' va vb s₂ m₂ rfl hu hn hma hmb rx ry fun b' o hb' e => ?_) (fun v s3 r => ⟨⟨_, hrr, r.1⟩, r.2⟩) fun _ _ e => e
          have e3 := keep3 b' o hb' e
          have lt := Heap.lt_size e
          refine hkk b' (List.mem_range.mpr (Nat.lt_of_lt_of_le lt (Nat.le_trans (by rw [hsz']; exact Nat.le_add_right _ _) hsz))) (fun hw => ?_) o (hhref _ _ e3)
          have : b' = s1.heap.objs.size + 4 ∨ b' = s1.heap.objs.size + 3 ∨ b' = s1.heap.objs.size ∨ b' = s1.heap.objs.size + 1 := by simpa using hw
          rcases this with q | q | q | q
          · exact absurd lt (by rw [q]; exact Nat.not_lt.mpr (Nat.le_add_right _ _))
          · exact absurd lt (by rw [q]; exact Nat.not_lt.mpr (Nat.le_add_right _ _))
          · exact absurd lt (by rw [q]; exact Nat.lt_irrefl _)
          · exact absurd lt (by rw [q]; exact Nat.not_lt.mpr (Nat.le_add_right _ _))
      · intro g h5 tk5 gs hgb hag hsz5 hk5 W5 hat
        simp only [GxR.passing_true, List.length_range] at W5
        have en : min its.toArray.size its2.toArray.size = rs.length := by rw [List.size_toArray, List.size_toArray, hlen, ← l1, ← l2]
        refine hQ rs H1 g _ q1 ⟨_, _, _, _, _, _, en, W5.in4_1, hat, ?_, fun s' hm => ?_⟩
        · intro j y sj Qj Ej hy hQj
          obtain ⟨i, hij, r, hrr, rfl⟩ := hy
          obtain ⟨hj, ej⟩ := List.getElem?_eq_some_iff.mp hij
          rw [List.getElem_range] at ej
          subst ej
          have hQ2 : Qj ((rs[j]?).getD false) sj := hQj
          rw [hrr] at hQ2
          exact wpAny_truthy_bool hQ2
        · obtain ⟨more, em⟩ := hmore
          have nwr : ∀ b' u, s1.heap.get? b' = some u → b' ∉ h3.objs.size :: [s1.heap.objs.size + 4, s1.heap.objs.size + 3, s1.heap.objs.size, s1.heap.objs.size + 1] := fun b' u e hb => by
            have hl := Heap.lt_size e
            have : b' = h3.objs.size ∨ b' = s1.heap.objs.size + 4 ∨ b' = s1.heap.objs.size + 3 ∨ b' = s1.heap.objs.size ∨ b' = s1.heap.objs.size + 1 := by simpa using hb
            rcases this with q | q | q | q | q
            · exact absurd hl (by rw [q]; exact Nat.not_lt.mpr (Nat.le_trans (by rw [hsz']; exact Nat.le_add_right _ _) hsz))
            · exact absurd hl (by rw [q]; exact Nat.not_lt.mpr (Nat.le_add_right _ _))
            · exact absurd hl (by rw [q]; exact Nat.not_lt.mpr (Nat.le_add_right _ _))
            · exact absurd hl (by rw [q]; exact Nat.lt_irrefl _)
            · exact absurd hl (by rw [q]; exact Nat.not_lt.mpr (Nat.le_add_right _ _))
          have J := inv_tab (more := more) (h' := s'.heap) (g' := s'.gens) (d' := s'.drawn) (t' := s'.toks) I1 hP (fun b' u hb e => hm.heap b' u (nwr b' u e) (hk5 b' u (keep3 b' u hb e)))
            (by rw [← em]; exact hm.heap P _ (nwr P _ hPs) (hk5 P _ hP3)) (AllBare.movedS (I1.bare.push hgb) hm)
          rw [sh_eta s1 s' hm.os] at J
          exact ⟨upd H1 P (.tbl (ps ++ more)), ⟨⟨ps ++ more, upd_same, by rw [← em]; exact ht3⟩, fun b hb => upd_ne hb⟩, J⟩
    refine ⟨lim2, ?_⟩
    cases hf : codeAmong gpos ps.toList with
    | none =>
      refine wpAny_genexprCodeX hcode (cd.code hP2 ht) (cd.tab hP2) hf fun c' h'' tk hx hge hlt hco' _ htab' _ => ?_
      obtain ⟨o1, vs, f1, tf, fl, tg, inF, tx, tt, op, _, _, _, _, _, _, _, _, _, htr, _⟩ := hco'
      exact cont _ h'' tk _ hx (Nat.le_trans hge (Nat.le_of_lt hlt)) htab'.2 ⟨_, rfl⟩ htr
    | some cv =>
      refine wpAny_genexprCode_hit hcode (cd.code hP2 ht) hf ?_
      exact cont cv h' s1.toks ps (Heap.ExtBut.refl _ _) (Nat.le_refl _) hP2 ⟨#[], by simp⟩ ht
  rcases hab2 with ⟨hqx, hqy⟩ | ⟨hqx, hqy⟩
  · obtain ⟨its, rv, p1, _⟩ := I1.list hqx
    obtain ⟨its2, rv2, p2, _⟩ := I1.list hqy
    refine call_zip_2 p1.isList p2.isList fun h' hz hTI hTO h1 h2 hsz hk => wpAny_pyIter_zip hz ?_
    refine go h' its its2 _ _ rv rv2 hk hsz p1.lt p2.lt ?_ ?_ (fun A' hA => walksU_zipL hA (zipApart_new p1.lt p2.lt) _ _) ⟨hz, hTI, ⟨_, _, hTO⟩, h1, h2, Heap.IsList.at p1.isList (fun o e => hk _ o e), Heap.IsList.at p2.isList (fun o e => hk _ o e)⟩
    · intro e; subst e
      obtain ⟨o, ho, hc, _⟩ := p1.isList
      rw [hPs] at ho; cases ho; cases hc
    · intro e; subst e
      obtain ⟨o, ho, hc, _⟩ := p2.isList
      rw [hPs] at ho; cases ho; cases hc
  · obtain ⟨its, rv, p1, _⟩ := I1.tuple hqx
    obtain ⟨its2, rv2, p2, _⟩ := I1.tuple hqy
    obtain ⟨o1, ho1, hc1, _⟩ := id p1
    obtain ⟨o2, ho2, hc2, _⟩ := id p2
    refine RZ.call_zipT (show s1.heap.IsTuple a its.toArray from p1) (show s1.heap.IsTuple b its2.toArray from p2) fun h' hz hTI hTO h1 h2 hsz hk => wpAny_pyIter_zip hz ?_
    refine go h' its its2 _ _ rv rv2 hk hsz (Heap.lt_size ho1) (Heap.lt_size ho2) ?_ ?_ (fun A' hA => walksU_zipT hA (zipApart_new (Heap.lt_size ho1) (Heap.lt_size ho2)) _ _) ⟨hz, hTI, ⟨_, _, hTO⟩, h1, h2, isTuple_at p1 (fun o e => hk _ o e), isTuple_at p2 (fun o e => hk _ o e)⟩
    · intro e; subst e
      rw [hPs] at ho1; cases ho1; cases hc1
    · intro e; subst e
      rw [hPs] at ho2; cases ho2; cases hc2
theorem all_getD (rs : List Bool) : (List.range rs.length).all (fun j => (rs[j]?).getD false) = rs.all id := by
  rw [Bool.eq_iff_iff, List.all_eq_true, List.all_eq_true]
  constructor
  · intro h b hb
    obtain ⟨j, hj, e⟩ := List.getElem_of_mem hb
    have q := h j (List.mem_range.mpr hj)
    rw [List.getElem?_eq_getElem hj, e] at q
    exact q
  · intro h j hj
    have hj' := List.mem_range.mp hj
    rw [List.getElem?_eq_getElem hj']
    exact h _ (List.getElem_mem hj')
/-- all(test for a, b in zip(x, y)), x and y two lists or two tuples; behind it the def's table may have grown -/
def tAllZ (X : Cx) (scope : Scope) (xa xb : Str) (elt : Expr) (P : Addr) (ta : TA) : TE := fun σ H Q => ta σ H fun vs H1 => ∃ a b xs ys rs, vs = [.ref a, .ref b] ∧ ((SqL X.K H1 a xs ∧ SqL X.K H1 b ys) ∨ (SqT X.K H1 a xs ∧ SqT X.K H1 b ys)) ∧ TabG H1 P ∧
  EltsZ X scope xa xb elt P H1 xs ys rs ∧ ∀ H2, Tabbed P H1 H2 → Q (.bl (rs.all id)) H2
theorem pe_allZ {c P : Addr} {elt e e2 : Expr} {xa xb : Str} {pa pb pt pz p pos cpos gpos : Pos} {kt : Nat} {scope : Scope} {ta : TA} {k : Nat}
    (hr : Room k X.A) (TB : TabB X.base X.mg c P) (hcode : X.env.code = .ref c) (S : GenS2 X.env scope xa xb) (hab : xa ≠ xb) (hg : Gl X "all") (hm : X.mg "all" = none) (hgz : Gl X "zip") (hmz : X.mg "zip" = none) (ha : PA X [e, e2] ta)
    (hb : bootBuiltins "all" = some (.builtin "all") := by decide +kernel)
    (hse : starEach [e, e2] X.env = (false, eval e X.env) :: starEach [e2] X.env := by rfl) (hpl : (backTo cpos (starEach [e2] X.env)).any (·.1) = false := by rfl)
    (hs : ∀ v, genFold (.Call (.Name "zip" pz) [e, e2] [] cpos) X.env v = pure v := by intro _; rfl)
    (he : starEach [.GeneratorExp elt [⟨.Tuple [.Name xa pa, .Name xb pb] kt pt, .Call (.Name "zip" pz) [e, e2] [] cpos, [], 0⟩] scope gpos] X.env = (false, eval (.GeneratorExp elt [⟨.Tuple [.Name xa pa, .Name xb pb] kt pt, .Call (.Name "zip" pz) [e, e2] [] cpos, [], 0⟩] scope gpos) X.env) :: starEach [] X.env := by rfl) :
    PE X (.Call (.Name "all" p) [.GeneratorExp elt [⟨.Tuple [.Name xa pa, .Name xb pb] kt pt, .Call (.Name "zip" pz) [e, e2] [] cpos, [], 0⟩] scope gpos] [] pos) (tAllZ X scope xa xb elt P ta) := by
  refine ⟨fun pins s σ H Q I h => ?_⟩
  refine wpAny_Call_Name_kw (ld_blt I hg hm hb ?_)
  refine PyProof.Rows.callWith_builtin1 ?_ he (by rfl)
  rw [he]
  show wpAny _ _ (spliced ((false, eval (.GeneratorExp elt [⟨.Tuple [.Name xa pa, .Name xb pb] kt pt, .Call (.Name "zip" pz) [e, e2] [] cpos, [], 0⟩] scope gpos) X.env) :: backTo pos (starEach [] X.env))) _ _ s
  refine Calls.spliced_cons (gen_zip (R := fun rs H1 => ∀ H2, Tabbed P H1 H2 → Q (.bl (rs.all id)) H2) hr TB hcode S hab hgz hmz ha hse hpl hs I h fun rs H1 g s5 hR hG => ?_)
  obtain ⟨fp, wr, G, n, F, St, hn, W, hst, htr, hI⟩ := hG
  refine Calls.spliced_nil ?_
  refine call_all_walkS (W.self 0 _ _ _ hst ⟨g, fp, wr, G, _, F, St, _, rfl, W, hst, htr, fun s' hmv => ?_⟩)
  obtain ⟨H2, hT, J⟩ := hI s' hmv
  refine ⟨.bl _, H2, J, rfl, ?_⟩
  rw [hn, all_getD rs]
  exact hR H2 hT
end
end Fw

set_option maxRecDepth 100000
set_option maxHeartbeats 4000000
/-! Sorting of triples of whole numbers, setdefault on tuple keys, tests within a generator. -/
namespace Fw
open PySem PySem.Spec PyProof.Rows L2 GxR
/-! ### triples -/
abbrev T3 := Int × Int × Int
def lex3 (p q : T3) : Bool := if p.1 = q.1 then (if p.2.1 = q.2.1 then decide (p.2.2 < q.2.2) else decide (p.2.1 < q.2.1)) else decide (p.1 < q.1)
def Lt3 (p q : T3) : Prop := p.1 < q.1 ∨ (p.1 = q.1 ∧ (p.2.1 < q.2.1 ∨ (p.2.1 = q.2.1 ∧ p.2.2 < q.2.2)))
theorem lex3_iff {p q : T3} : lex3 p q = true ↔ Lt3 p q := by
  unfold lex3 Lt3
  split
  · split
    · rw [decide_eq_true_eq]; omega
    · rw [decide_eq_true_eq]; omega
  · rw [decide_eq_true_eq]; omega
theorem lex3_no {p q : T3} : lex3 p q = false ↔ ¬ Lt3 p q := by
  rw [← lex3_iff]
  cases lex3 p q <;> simp
theorem swo3 {α : Type} (k : α → T3) : SrtO.Swo fun v u => lex3 (k v) (k u) := by
  refine ⟨fun x y h => ?_, fun x y z h1 h2 => ?_⟩
  · have a := lex3_iff.mp h
    refine lex3_no.mpr ?_
    unfold Lt3 at *
    omega
  · have a := lex3_no.mp h1
    have b := lex3_no.mp h2
    refine lex3_no.mpr ?_
    unfold Lt3 at *
    omega
def IsTrip (h : Heap) (v : Value) (x : T3) : Prop := ∃ a o t u r n, v = .ref a ∧ h.get? a = some o ∧ o.cls = .type "tuple" ∧ o.data = .seq #[.int x.1 t, .int x.2.1 u, .int x.2.2 r] n
theorem IsTrip.keeps {h h' : Heap} {v : Value} {x : T3} (p : IsTrip h v x) (k : ∀ b o, h.get? b = some o → o.cls = .type "tuple" → h'.get? b = some o) : IsTrip h' v x := by
  obtain ⟨a, o, t, u, r, n, e, ho, hc, hd⟩ := p
  exact ⟨a, o, t, u, r, n, e, k a o ho hc, hc, hd⟩
section
variable {prog : Program} {w : World} {A : Around} {E : Value → Shared → Prop} {s : Shared}
theorem trip_cmp {vs : List Value} {k : Value → T3} (hp : ∀ v ∈ vs, IsTrip s.heap v (k v)) : SrtO.Cmp prog w A s (PyProof.Rows.tuples' true) (fun p => p.1 ∈ vs) (SrtO.lt2 fun v u => lex3 (k v) (k u)) := by
  intro p q hm hm'
  have h1 := hp _ hm
  have h2 := hp _ hm'
  show wpAny (model prog w) A (keyLt' (PyProof.Rows.tuples' true) p.1 q.1) (fun r s' => s' = s ∧ r = lex3 (k p.1) (k q.1)) (fun _ _ => False) s
  unfold lex3
  generalize (k p.1) = x at h1 ⊢
  generalize (k q.1) = x' at h2 ⊢
  obtain ⟨x, y, z⟩ := x
  obtain ⟨x', y', z'⟩ := x'
  obtain ⟨a, o, t, u, r, n, e, ho, hc, hd⟩ := h1
  obtain ⟨a', o', t', u', r', n', e', ho', hc', hd'⟩ := h2
  rw [e, e']
  simp only at hd hd' ⊢
  refine PySem.W.kat_lt ho hd ho' hd' ?_
  show PySem.W.KatLex prog w A true (decide (3 < 3)) _ [(.int x t, .int x' t'), (.int y u, .int y' u'), (.int z r, .int z' r')] 0 s
  refine PySem.W.kat_cons (SeqAt.EqAt.int_int x t x' t' prog w _ _ ?_)
  refine PySem.W.kat_go (fun e1 => ?_) (fun e1 => ?_)
  · have ex : x = x' := by simpa using e1
    rw [if_pos ex]
    refine PySem.W.kat_yes (PySem.W.kat_cons (SeqAt.EqAt.int_int y u y' u' prog w _ _ ?_))
    refine PySem.W.kat_go (fun e2 => ?_) (fun e2 => ?_)
    · have ey : y = y' := by simpa using e2
      rw [if_pos ey]
      refine PySem.W.kat_yes (PySem.W.kat_cons (SeqAt.EqAt.int_int z r z' r' prog w _ _ ?_))
      refine PySem.W.kat_go (fun e3 => ?_) (fun e3 => ?_)
      · have ez : z = z' := by simpa using e3
        have e4 : decide (z < z') = false := by rw [ez]; exact decide_eq_false (Int.lt_irrefl _)
        rw [e4]
        exact PySem.W.kat_yes (PySem.W.kat_nil ⟨rfl, rfl⟩)
      · refine PySem.W.kat_no (PySem.W.kat_one _ _ (PyProof.Rows.lt_int ?_))
        exact (show s = s ∧ decide (z < z') = decide (z < z') from ⟨rfl, rfl⟩)
    · have ey : ¬ y = y' := by simpa using e2
      rw [if_neg ey]
      refine PySem.W.kat_no (PySem.W.kat_one _ _ (PyProof.Rows.lt_int ?_))
      exact (show s = s ∧ decide (y < y') = decide (y < y') from ⟨rfl, rfl⟩)
  · have ex : ¬ x = x' := by simpa using e1
    rw [if_neg ex]
    exact PySem.W.kat_no (PyProof.Rows.oneLt_int ⟨rfl, rfl⟩)
theorem firsts3 {h : Heap} {k : Value → T3} : ∀ {vs : List Value}, (∀ v ∈ vs, IsTrip h v (k v)) → ∃ fs : List Value, PySem.W.KatTups h vs fs ∧ fs.length = vs.length ∧ ∀ f ∈ fs, ∃ x t, f = Value.int x t
  | [], _ => ⟨[], PySem.W.KatTups.nil, rfl, fun _ hm => by simp at hm⟩
  | v :: vs, hp => by
    obtain ⟨fs, h1, h2, h3⟩ := firsts3 (vs := vs) fun v' hm => hp v' (List.mem_cons_of_mem _ hm)
    obtain ⟨a, o, t, u, r, n, e, ho, hc, hd⟩ := hp v (List.mem_cons_self ..)
    refine ⟨.int (k v).1 t :: fs, ?_, by rw [List.length_cons, List.length_cons, h2], fun f hm => ?_⟩
    · generalize k v = kv at hd ⊢
      subst e
      exact PySem.W.KatTups.cons ho hc hd rfl h1
    · rcases List.mem_cons.mp hm with rfl | hm
      · exact ⟨_, t, rfl⟩
      · exact h3 f hm
theorem trips_sortableO {a : Addr} {vs : List Value} {k : Value → T3} (h0 : 0 < vs.length) (hp : ∀ v ∈ vs, IsTrip s.heap v (k v)) (ha : ∀ o, s.heap.get? a = some o → o.cls ≠ .type "tuple") : SrtO.SortableO prog w A s a vs fun v u => lex3 (k v) (k u) := by
  intro h' keep
  have hp' : ∀ v ∈ vs, IsTrip h' v (k v) := fun v hm => (hp v hm).keeps fun b o e c => keep b o (fun z => by subst z; exact ha o e c) e
  obtain ⟨fs, h1, h2, h3⟩ := firsts3 hp'
  refine ⟨PyProof.Rows.tuples' true, fun Q E hq => ?_, trip_cmp hp'⟩
  refine PySem.W.kat_kind (T := .type "int") h1 (by omega) (fun f hm => ?_) (by rfl) ?_
  · obtain ⟨x, t, rfl⟩ := h3 f hm
    exact PySem.W.Looks.now
  · have e : (Value.type "int" != Value.type "tuple") = true := by first | decide +kernel | rfl | decide
    rw [e]
    exact hq
theorem sorted_trips {l : Addr} {vs : List Value} {k : Value → T3} {Q : Value → Shared → Prop} (hl : s.heap.IsList l vs.toArray) (hz : vs.length ≤ sizeLine) (hp : ∀ v ∈ vs, IsTrip s.heap v (k v))
    (h : ∀ (h' : Heap) (d : Addr) (out : List Value), SrtO.Srtd (fun v u => lex3 (k v) (k u)) out → SrtO.Stb (fun v u => lex3 (k v) (k u)) out vs → (∀ b o, s.heap.get? b = some o → h'.get? b = some o) → s.heap.objs.size ≤ d → (∃ n, h'.get? d = some (seqObj "list" out.toArray n)) → Q (.ref d) { s with heap := h' }) :
    wpAny (model prog w) A (call (.builtin "sorted") [.ref l]) Q E s := by
  refine SrtO.sorted_ord (swo3 k) hl hz (fun h2 h₁ a ha kk => ?_) fun out hs hb => ?_
  · refine trips_sortableO (s := { s with heap := h₁ }) (by omega) (fun v hm => (hp v hm).keeps fun b o e _ => (kk b o e).2) fun o e => ?_
    have e' : some o = some (seqObj "list" vs.toArray 0) := e.symm.trans ha
    cases e'
    intro c
    exact absurd (Value.type.inj c) (by decide)
  · exact h _ _ out hs hb (fun b o e => sortedAll_old e) (Nat.le_succ _) (sortedAll_at s.heap vs out.toArray)
end
/-- sorted(xs), xs a list of triples of ints (k says which): a new list, sorted, equal ones in their order -/
def rSorted3 (K : PySem.W.Frag) : List V → Hp → VK → Prop := fun vs H Q => ∃ (a : Addr) (xs : List V) (k : V → T3), vs = [V.ref a] ∧ SqL K H a xs ∧ (∀ x ∈ xs, ∃ t, x = V.ref t ∧ H t = some (.tup [.int (k x).1, .int (k x).2.1, .int (k x).2.2])) ∧
  ∀ ys p, SrtO.Srtd (fun x y => lex3 (k x) (k y)) ys → SrtO.Stb (fun x y => lex3 (k x) (k y)) ys xs → H p = none → Q (.ref p) (upd H p (.lst ys))
section
variable {X : Cx}
theorem vals3 {x y z : V} {its : List Value} (r : Vals [x, y, z] its) : ∃ u1 u2 u3, its = [u1, u2, u3] ∧ RelV x u1 ∧ RelV y u2 ∧ RelV z u3 := by
  cases r with
  | cons a r => cases r with
    | cons b r => cases r with
      | cons c r => cases r; exact ⟨_, _, _, rfl, a, b, c⟩
theorem cr_sorted3 : CallR X (.builtin "sorted") (rSorted3 X.K) := by
  intro pins s σ H vs us Q I r h
  obtain ⟨a, xs, k, rfl, hs, hx, q⟩ := h
  obtain ⟨its, rv, hl, hz⟩ := I.list hs
  obtain ⟨u, rfl, ru⟩ := vals1 r
  obtain rfl : u = Value.ref a := ru
  obtain ⟨e1, e2⟩ := refs_back rv fun x m => by
    obtain ⟨t, e, _⟩ := hx x m
    exact ⟨t, e⟩
  refine sorted_trips (k := fun u => k (backV u)) hl.isList (by rw [← rv.length]; exact hz) (fun v hv => ?_) fun h' d out h1 h2 kp hd hn => ?_
  · obtain ⟨t, rfl⟩ := e2 v hv
    have hm : V.ref t ∈ xs := by rw [e1]; exact List.mem_map.mpr ⟨_, hv, rfl⟩
    obtain ⟨t', e, ht⟩ := hx _ hm
    cases e
    obtain ⟨_, its2, r2, o, ho, hc, n, hd⟩ := I.hok _ _ ht
    obtain ⟨u1, u2, u3, rfl, ri, rj, rk⟩ := vals3 r2
    obtain ⟨t1, rfl⟩ := ri
    obtain ⟨t2, rfl⟩ := rj
    obtain ⟨t3, rfl⟩ := rk
    exact ⟨t, o, t1, t2, t3, n, rfl, ho, hc, hd⟩
  · have h3 : ∀ u ∈ out, ∃ a, u = Value.ref a := fun u hu => e2 u (h2.perm.mem_iff.mp hu)
    obtain ⟨n, hn⟩ := hn
    have hb : SrtO.Stb (fun x y => lex3 (k x) (k y)) (out.map backV) xs := by
      rw [e1]
      exact SrtO.Stb.map (swo3 k) backV h2
    refine ⟨.ref d, upd H d (.lst (out.map backV)), I.laid (t' := s.toks) kp hd ⟨?_, out, n, vals_back h3, hn⟩, rfl, q _ d (SrtO.srtd_map h1) hb (I.hok.fresh hd)⟩
    rw [hb.len]
    exact hz
end
/-! ### d.setdefault(k, z), k a tuple -/
section
variable {X : Cx} {pins : List (Addr × Obj)} {σ : L2.St} {H : Hp} {s : Shared} {a b : Addr} {r : Value} {d : V} {k : List Key} {A : Around} {E : Value → Shared → Prop}
theorem d_setdT {kvs : List (List Key × V)} {Q : Value → Shared → Prop} (hu : A.units + 1 < cLine) (I : Inv X pins σ H s) (e : H a = some (.dT kvs)) (eb : H b = some (.tup (k.map kV))) (rd : RelV d r) (hl : kvs.length < sizeLine)
    (h1 : ∀ v, valV kvs k = some v → ∀ (w' : Value) (s' : Shared), Inv X pins σ H s' → RelV v w' → Q w' s') (h2 : valV kvs k = none → ∀ (w' : Value) (s' : Shared), Inv X pins σ (upd H a (.dT (putK kvs k d))) s' → RelV d w' → Q w' s') :
    wpAny (model X.prog X.w) A (call (.builtin "dict.setdefault") [.ref a, .ref b, r]) Q E s := by
  obtain ⟨z, hd, xs, rel, dd⟩ := dt_of I.hok e
  have hz : xs.length ≤ sizeLine := by rw [← Paired.length rel]; exact z
  have hl2 : (putK kvs k d).length ≤ sizeLine := by have := length_putK kvs k d; omega
  refine call_setdefault_heap (hsz := hz) (tupleKind_room_in1 hu) (key_of I.hok eb) hd dd (fun p hp => ?_) fun hn h' dd' hs => ?_
  · have q := rel.val k
    rw [hp] at q
    cases q0 : valV kvs k with
    | none =>
      rw [q0] at q
      exact (show False from q).elim
    | some v0 =>
      rw [q0] at q
      exact h1 v0 q0 _ _ (I.tok _) q
  · have q := rel.val k
    rw [hn] at q
    cases q0 : valV kvs k with
    | some v0 =>
      rw [q0] at q
      exact (show False from q).elim
    | none =>
      obtain ⟨q, es, ep, hq, h2', h3, h4, _, h5⟩ := dd'
      refine h2 q0 _ _ (d_write (t' := s.toks + _) I (by rw [e]; exact True.intro) hs ⟨q, hq⟩ ⟨hl2, hd, _, (rel.put k eb rd).keeps fun c ys ec => ?_, q, es, ep, hq, h2', h3, h4, h5⟩) rd
      rw [upd_ne (ne_of ec e (fun z => nomatch z))]
      exact ec
end
def tDSetdT (td ty tx : TE) : TE := fun σ H Q => td σ H fun x H1 => ∃ a, x = .ref a ∧ IsD H1 a ∧ ty σ H1 fun y H2 => tx σ H2 fun z H3 => ∃ (kvs : List (List Key × V)) (k : List Key) (b : Addr), H3 a = some (.dT kvs) ∧ y = .ref b ∧ H3 b = some (.tup (k.map kV)) ∧ kvs.length < sizeLine ∧
  (∀ v, valV kvs k = some v → Q v H3) ∧ (valV kvs k = none → Q z (upd H3 a (.dT (putK kvs k z))))
section
variable {X : Cx} {o e f : Expr} {td ty tx : TE} {apos cpos : Pos}
theorem pe_dsetdT (hu : X.A.units + 1 < cLine) (ho : PE X o td) (he : PE X e ty) (hf : PE X f tx) (m : M2 X o "setdefault" apos e f cpos) : PE X (.Call (.Attribute o "setdefault" apos) [e, f] [] cpos) (tDSetdT td ty tx) := by
  refine ⟨fun pins s σ H Q I h => ?_⟩
  refine wpAny_Call_method m.base m.few m.line PySem.F.plainAttrs_dict PySem.F.slot_dict_setdefault PySem.F.type_dict_setdefault (thn (ho.run pins s σ H _ I h) fun u s1 ⟨x, H1, I1, rx, a, ex, d, q1⟩ => ?_)
  subst ex
  obtain rfl : u = Value.ref a := rx
  obtain ⟨t1, t2, _⟩ := isD_at I1 d
  refine ⟨t1, t2, ?_⟩
  rw [m.trees]
  refine Calls.callWith_builtin rfl (Calls.evalArgs_plain (Calls.spliced_cons (thn (he.run pins s1 σ H1 _ I1 q1) fun iv s2 ⟨y, H2, I2, ry, q2⟩ =>
    Calls.spliced_cons (thn (hf.run pins s2 σ H2 _ I2 q2) fun fv s3 ⟨z, H3, I3, rz, kvs, k, b, ea, ey, eb, hl, q3, q4⟩ => Calls.spliced_nil ?_))))
  subst ey
  obtain rfl : iv = Value.ref b := ry
  exact d_setdT hu I3 ea eb rz hl (fun v hv w' s4 I4 rw' => ⟨v, _, I4, rw', q3 v hv⟩) fun hn w' s4 I4 rw' => ⟨z, _, I4, rw', q4 hn⟩
end
/-! ### tests within a generator -/
theorem eltZ_lt_int {prog : Program} {w : World} {scope : Scope} {xa xb : Str} {U : Nat} {hb : Heap} {P : Addr} {p1 p2 p3 : Pos} (a b : Int) (hk : scope.kind = .function) (la : scope.names.lookup xa = some .local) (lb : scope.names.lookup xb = some .local)
    (da : (xa == ("__debug__" : Str)) = false := by decide) (db : (xb == ("__debug__" : Str)) = false := by decide) :
    EltZ prog w scope xa xb (.Compare (.Name xa p1) [.Lt] [.Name xb p2] p3) U hb P (.int a) (.int b) (decide (a < b)) := by
  intro cenv A' E' va vb s₂ m₂ hs _ hn hma hmb ra rb _
  obtain ⟨t, rfl⟩ := ra
  obtain ⟨u, rfl⟩ := rb
  refine wpAny_Compare1 ?_
  refine wpAny_Name (wpAny_loadName_local (by rw [hs]; exact hk) (show cenv.scope.names.lookup xa = some .local by rw [hs]; exact la) hn hma ?_) da
  refine wpAny_Name (wpAny_loadName_local (by rw [hs]; exact hk) (show cenv.scope.names.lookup xb = some .local by rw [hs]; exact lb) hn hmb ?_) db
  exact PyProof.Rows.lt_int ⟨rfl, keeps_refl _⟩
theorem lexLt3 (p q : T3) : HT.lexLt [p.1, p.2.1, p.2.2] [q.1, q.2.1, q.2.2] = lex3 p q := by
  unfold lex3
  rw [HT.lexLt_cons, HT.lexLt_cons, HT.lexLt_cons, HT.lexLt_nil_nil]
  by_cases h : p.1 = q.1
  · rw [if_pos h, if_pos h]
    by_cases h2 : p.2.1 = q.2.1
    · rw [if_pos h2, if_pos h2]
      by_cases h3 : p.2.2 = q.2.2
      · rw [if_pos h3, h3]
        exact (decide_eq_false (Int.lt_irrefl _)).symm
      · rw [if_neg h3]
    · rw [if_neg h2, if_neg h2]
  · rw [if_neg h, if_neg h]
theorem eltZ_lt_trip {X : Cx} {pins : List (Addr × Obj)} {σ : L2.St} {H1 : Hp} {s : Shared} {scope : Scope} {xa xb : Str} {U : Nat} {P : Addr} {p1 p2 p3 : Pos} (I : Inv X pins σ H1 s) (hP : TabG H1 P) (hU : U < cLine) {t u : Addr} {p q : T3}
    (ht : H1 t = some (.tup [.int p.1, .int p.2.1, .int p.2.2])) (hu : H1 u = some (.tup [.int q.1, .int q.2.1, .int q.2.2])) (hk : scope.kind = .function) (la : scope.names.lookup xa = some .local) (lb : scope.names.lookup xb = some .local)
    (da : (xa == ("__debug__" : Str)) = false := by decide) (db : (xb == ("__debug__" : Str)) = false := by decide) :
    EltZ X.prog X.w scope xa xb (.Compare (.Name xa p1) [.Lt] [.Name xb p2] p3) U s.heap P (.ref t) (.ref u) (lex3 p q) := by
  intro cenv A' E' va vb s₂ m₂ hs hA hn hma hmb ra rb hkp
  cases ra
  cases rb
  obtain ⟨ps, hP, _⟩ := hP
  have nP : ∀ {b : Addr} {xs : List V}, H1 b = some (.tup xs) → b ≠ P := fun e z => by rw [z, hP] at e; cases e
  have tup : ∀ {b : Addr} {p : T3}, H1 b = some (.tup [.int p.1, .int p.2.1, .int p.2.2]) → ∃ its : Array Value, IsTup s₂.heap b its ∧ IntsAre its.toList [p.1, p.2.1, p.2.2] := fun {b p} e => by
    obtain ⟨_, its2, r2, o, ho, hc, n, hd⟩ := I.hok _ _ e
    obtain ⟨u1, u2, u3, rfl, ri, rj, rk⟩ := vals3 r2
    obtain ⟨t1, rfl⟩ := ri
    obtain ⟨t2, rfl⟩ := rj
    obtain ⟨t3, rfl⟩ := rk
    exact ⟨_, ⟨o, hkp b o (nP e) ho, hc, n, hd⟩, .cons _ _ (.cons _ _ (.cons _ _ .nil))⟩
  obtain ⟨its, T1, i1⟩ := tup ht
  obtain ⟨its2, T2, i2⟩ := tup hu
  refine wpAny_Compare1 ?_
  refine wpAny_Name (wpAny_loadName_local (by rw [hs]; exact hk) (show cenv.scope.names.lookup xa = some .local by rw [hs]; exact la) hn hma ?_) da
  refine wpAny_Name (wpAny_loadName_local (by rw [hs]; exact hk) (show cenv.scope.names.lookup xb = some .local by rw [hs]; exact lb) hn hmb ?_) db
  refine HT.lt_tupInts T1 T2 i1 i2 (Nat.lt_of_le_of_lt hA hU) ?_
  rw [lexLt3]
  exact ⟨rfl, keeps_refl _⟩
end Fw

/-! What a class of worlds asks of numbers, rows and steps: pure mathematics. -/
namespace Fw
def asc {α : Type} (lt : α → α → Bool) : List α → Bool
  | [] => true
  | [_] => true
  | x :: y :: l => lt x y && asc lt (y :: l)
def adj {α : Type} (lt : α → α → Bool) (l : List α) : List Bool := (l.zip l.tail).map fun p => lt p.1 p.2
theorem adj_len {α : Type} (lt : α → α → Bool) (l : List α) : (adj lt l).length = min l.length l.tail.length := by
  unfold adj
  rw [List.length_map, List.length_zip]
theorem adj_get {α : Type} {lt : α → α → Bool} {l : List α} {i : Nat} {r : Bool} (h : (adj lt l)[i]? = some r) : ∃ x y, l[i]? = some x ∧ l.tail[i]? = some y ∧ r = lt x y := by
  unfold adj at h
  rw [List.getElem?_map] at h
  cases e : (l.zip l.tail)[i]? with
  | none => rw [e] at h; cases h
  | some p =>
    rw [e] at h
    have := List.getElem?_zip_eq_some.mp e
    exact ⟨p.1, p.2, this.1, this.2, (Option.some.inj h).symm⟩
theorem adj_asc {α : Type} (lt : α → α → Bool) : ∀ l : List α, (adj lt l).all id = asc lt l
  | [] => rfl
  | [_] => rfl
  | x :: y :: l => by
    have ih := adj_asc lt (y :: l)
    show (id (lt x y) && (adj lt (y :: l)).all id) = (lt x y && asc lt (y :: l))
    rw [ih]
    rfl
theorem asc_pair {α : Type} {lt : α → α → Bool} (tr : ∀ x y z, lt x y = true → lt y z = true → lt x z = true) : ∀ {l : List α}, asc lt l = true ↔ l.Pairwise fun x y => lt x y = true
  | [] => ⟨fun _ => .nil, fun _ => rfl⟩
  | [x] => ⟨fun _ => List.pairwise_singleton _ _, fun _ => rfl⟩
  | x :: y :: l => by
    have ih := asc_pair tr (l := y :: l)
    unfold asc
    rw [Bool.and_eq_true, ih, List.pairwise_cons (a := x)]
    constructor
    · rintro ⟨h1, h2⟩
      refine ⟨fun z hz => ?_, h2⟩
      rcases List.mem_cons.mp hz with rfl | hz
      · exact h1
      · exact tr _ _ _ h1 ((List.pairwise_cons.mp h2).1 z hz)
    · rintro ⟨h1, h2⟩
      exact ⟨h1 y List.mem_cons_self, h2⟩
def ltI (x y : Int) : Bool := decide (x < y)
theorem ltI_tr (x y z : Int) (h1 : ltI x y = true) (h2 : ltI y z = true) : ltI x z = true := by
  unfold ltI at *
  rw [decide_eq_true_eq] at *
  omega
theorem lex3_tr (x y z : T3) (h1 : lex3 x y = true) (h2 : lex3 y z = true) : lex3 x z = true := by
  rw [lex3_iff] at *
  unfold Lt3 at *
  omega
theorem lex3_irr (x : T3) : lex3 x x = false := by
  rw [lex3_no]
  unfold Lt3
  omega
theorem lex3_anti {x y : T3} (h1 : lex3 x y = false) (h2 : lex3 y x = false) : x = y := by
  rw [lex3_no] at *
  unfold Lt3 at *
  obtain ⟨a, b, c⟩ := x
  obtain ⟨a', b', c'⟩ := y
  simp only at *
  have : a = a' ∧ b = b' ∧ c = c' := by omega
  obtain ⟨rfl, rfl, rfl⟩ := this
  rfl
theorem lex3_as {x y : T3} (h : lex3 x y = true) : lex3 y x = false := by
  rw [lex3_no]
  rw [lex3_iff] at h
  unfold Lt3 at *
  omega
/-- one order alone of the same triples, none twice -/
theorem sorted_one : ∀ {a b : List T3}, (a.Pairwise fun x y => lex3 y x = false) → (b.Pairwise fun x y => lex3 x y = true) → a.Perm b → a = b
  | [], b, _, _, h => (List.Perm.nil_eq h)
  | x :: a, [], _, _, h => by have := h.length_eq; cases this
  | x :: a, y :: b, ha, hb, h => by
    have ha' := List.pairwise_cons.mp ha
    have hb' := List.pairwise_cons.mp hb
    have e : x = y := by
      rcases List.mem_cons.mp (h.mem_iff.mp List.mem_cons_self) with q | q
      · exact q
      · rcases List.mem_cons.mp (h.mem_iff.mpr (List.mem_cons_self (a := y) (l := b))) with r | r
        · exact r.symm
        · exact lex3_anti (lex3_as (hb'.1 x q) |> fun z => by
            have z1 := ha'.1 y r
            have z2 := hb'.1 x q
            rw [z1] at z2
            cases z2) (ha'.1 y r)
    subst e
    rw [sorted_one ha'.2 hb'.2 h.cons_inv]
def okNums (l f : Int) : Bool := (decide (1 ≤ l) && decide (l ≤ 3)) && (decide (0 ≤ f) && decide (f ≤ 6))
def okRow (f : Int) (X : List Int) : Bool := X.all (fun x => decide (0 ≤ x) && decide (x ≤ f - 1)) && asc ltI X
def okRows (f : Int) (Xs : List (List Int)) : Bool := (decide (1 ≤ (Xs.length : Int)) && decide ((Xs.length : Int) ≤ 400)) && Xs.all (okRow f)
def okStep (l : Int) (n : Nat) (p : T3) : Bool := (decide (0 ≤ p.2.1) && decide (p.2.1 ≤ l - 1)) && ((decide (0 ≤ p.1) && decide (p.1 ≤ (n : Int) - 1)) && (decide (0 ≤ p.2.2) && decide (p.2.2 ≤ (n : Int) - 1)))
def okSteps (l : Int) (n : Nat) (ss : List T3) : Bool := ss.all (okStep l n) && asc lex3 ss
/-- the ends of the steps from s with l -/
def begS (ss : List T3) (s l : Int) : List Int := (ss.filter fun p => decide (p.1 = s) && decide (p.2.1 = l)).map fun p => p.2.2
theorem begS_snoc (ps : List T3) (p : T3) (s l : Int) : begS (ps ++ [p]) s l = begS ps s l ++ (if (decide (p.1 = s) && decide (p.2.1 = l)) = true then [p.2.2] else []) := by
  unfold begS
  rw [List.filter_append, List.map_append]
  congr 1
  cases c : decide (p.1 = s) && decide (p.2.1 = l)
  · simp [c]
  · simp [c]
theorem beh_begS (W : Wd) (s l : Int) : W.beh s l = begS W.steps s l := rfl
/-- in order they ascend -/
theorem begS_up {ss : List T3} (h : ss.Pairwise fun x y => lex3 x y = true) (s l : Int) : (begS ss s l).Pairwise (· < ·) := by
  unfold begS
  rw [List.pairwise_map]
  have h2 := List.Pairwise.sublist (List.filter_sublist (p := fun p : T3 => decide (p.1 = s) && decide (p.2.1 = l)) (l := ss)) h
  refine h2.imp_of_mem fun {a b} ha hb hab => ?_
  have pa := (List.mem_filter.mp ha).2
  have pb := (List.mem_filter.mp hb).2
  rw [Bool.and_eq_true, decide_eq_true_eq, decide_eq_true_eq] at pa pb
  rw [lex3_iff] at hab
  unfold Lt3 at hab
  omega
end Fw

set_option maxRecDepth 100000
set_option maxHeartbeats 4000000
namespace Fw
open PySem PySem.Spec PyProof.Rows L2 GxR
/-! ### a class whose making may raise -/
def HasCX (P : Program) (w : World) (K : PySem.W.Frag) (mg : Str → Option Value) (base : Heap) (x : Str) (C : Addr) (k : Nat) (ps : List Str) (sp : Sp) : Prop :=
  ∃ f fd, mg x = some (.ref C) ∧ Mk K C f ∧ Binds K fd ps [] ∧ FnOk P w K mg base (L2.CX P w) k f fd ps sp
def tMakeS (C : Addr) (sp : Sp) (E : L2.St → XK) (t : TA) : TE := fun σ H Q => t σ H fun vs H1 => ∀ x dx, H1 x = none → H1 dx = none → dx ≠ x →
  sp (.ref x :: vs) (upd (upd H1 dx (.own x)) x (.ins C dx [])) (fun v H2 => v = .non ∧ Q (.ref x) H2) (E σ)
theorem run_makeS {X : Cx} {CX : CXT} {k : Nat} {f C : Addr} {fd : FuncData} {ps : List Str} {sp : Sp} {E : XK} {pins : List (Addr × Obj)} {σ : L2.St} {H : Hp} {s : Shared} {Q : VK} {us : List Value} {vs : List V} (M : Mk X.K C f) (F : FnOk X.prog X.w X.K X.mg X.base CX k f fd ps sp) (hr : Room (k + 1) X.A) (hb : Binds X.K fd ps [])
    (hx : PassesAt CX X σ E) (I : Inv X pins σ H s) (r : Vals vs us)
    (h : ∀ x dx, H x = none → H dx = none → dx ≠ x → sp (.ref x :: vs) (upd (upd H dx (.own x)) x (.ins C dx [])) (fun v H2 => v = .non ∧ Q (.ref x) H2) E) :
    wpAny (model X.prog X.w) X.A (call (.ref C) us) (EP X pins σ Q) X.xe s := by
  have hq := h (s.heap.objs.size + 1) s.heap.objs.size (I.hok.fresh (Nat.le_succ _)) (I.hok.fresh (Nat.le_refl _)) (Nat.ne_of_lt (Nat.lt_succ_self _))
  have I2 := Inv.made (C := C) I
  have r2 : Vals (V.ref (s.heap.objs.size + 1) :: vs) (Value.ref (s.heap.objs.size + 1) :: us) := .cons rfl r
  have hl : (Value.ref (s.heap.objs.size + 1) :: us ++ []).length = ps.length := by
    have e := r2.length
    rw [F.len _ _ _ _ hq] at e
    rw [List.append_nil]
    exact e.symm
  have b := hb _ (Value.ref (s.heap.objs.size + 1) :: us) I2.kIn hl
  rw [List.append_nil] at b
  refine wpAny_call (make_map (f := f) I.kIn M.makes M.init (beq_iff_eq.mp M.fn) (codeAny_mono (F.run _ X.stack _ _ ⟨Value.ref (s.heap.objs.size + 1) :: us, []⟩ (Value.ref (s.heap.objs.size + 1) :: us) _ _ E (hr.make C us [])
    (I2.env0.make C us []) b r2 hq) fun r s' hq' => ?_))
  cases r with
  | error e => exact hx pins _ _ e s' I2 hq'
  | ok fl =>
    cases fl with
    | ret u =>
      obtain ⟨v, H', I3, rv, ev, q3⟩ := I2.after hq'
      subst ev
      exact ⟨rv, ⟨V.ref (s.heap.objs.size + 1), H', I3, rfl, q3⟩⟩
    | next => exact False.elim hq'
    | brk => exact False.elim hq'
    | cont => exact False.elim hq'
theorem pe_makeX {X : Cx} {W : WX} {x : Str} {C : Addr} {k : Nat} {ps : List Str} {sp : Sp} {e : Expr} {es : List Expr} {t : TA} {p pos : Pos} (h : HasCX X.prog X.w X.K X.mg X.base x C k ps sp) (hr : Room (k + 1) X.A) (tk : Takes X W) (ha : PA X (e :: es) t) (hg : Gl X x := by rfl)
    (hdb : (x == ("__debug__" : Str)) = false := by decide) (he : starEach (e :: es) X.env = (false, eval e X.env) :: starEach es X.env := by rfl) (hpl : (backTo pos (starEach es X.env)).any (·.1) = false := by rfl) :
    PE X (.Call (.Name x p) (e :: es) [] pos) (tMakeS C sp (WE W) t) := by
  obtain ⟨f, fd, m, M, b, G⟩ := h
  refine ⟨fun pins s σ H Q I h => ?_⟩
  refine wpAny_Call_Name_kw (ld_glob I hg m ?_ hdb)
  refine PySem.W.callWith_K (h₀ := X.base) I.ok.mod.kin M.kp (thn (ha.run pos pins s σ H _ I h) fun us s1 ⟨vs, H1, I1, r, q⟩ => ⟨I1.kIn, ?_⟩) he hpl
  exact run_makeS M G hr b (passAt tk σ) I1 r q
/-! ### a def whose code object is told -/
structure FunC (K : PySem.W.Frag) (x qual : Str) (st : Stmt) (f : Addr) (fd : FuncData) (c : Addr) : Prop where
  ex : ∃ (oc : Value) (od : Option Addr) (kV doc pm : Value) (an : Option Addr) (ct : Value) (osl : Array (Option Value)),
    fd = PySem.W.fnOf x qual (defArgs st) (defBody st) (defScope st) .none kV doc pm an (.ref c) ct ∧ K.lookup f = some ⟨oc, od, .func fd, osl⟩ ∧ PySem.W.codeIn K (.ref c) qual = true
theorem FunC.ok {P : Program} {w : World} {K : PySem.W.Frag} {mg : Str → Option Value} {base : Heap} {x qual : Str} {st : Stmt} {f c : Addr} {fd : FuncData} {N ps : List Str} {k : Nat} {sp : Sp} (F : FunC K x qual st f fd c) (S : FnScope N ps (defScope st)) (len : ∀ vs H Q E, sp vs H Q E → vs.length = ps.length)
    (hbody : ∀ (A : Around) (outer : List Env) (s : Shared) (H : Hp) (vs : List V) (Q : VK) (E : XK), Room k (A.deeper (envOfC qual (defScope st) s.heap.objs.size f (.ref c))) → sp vs H Q E →
      ∃ t, PSs (cxOf CX0 P w K mg base N qual (defScope st) f (.ref c) A outer s H E).nox (defBody st) t ∧ t { nx := fun _ H' => Q .non H', rt := Q } (start N vs) H) : FnOk P w K mg base CX0 (k + 1) f fd ps sp := by
  obtain ⟨oc, od, kV, doc, pm, an, ct, osl, rfl, lk, hcd⟩ := F.ex
  refine fn_of lk hcd S len fun A outer s H vs Q E hr hsp => ?_
  obtain ⟨t, h, q⟩ := hbody A outer s H vs Q E hr hsp
  exact ⟨t, h.nox, q⟩
/-- what stood is kept but for the table at P -/
def Tb (P : Addr) (H H' : Hp) : Prop := But P H H' ∧ TabG H' P
theorem Tb.refl {P : Addr} {H : Hp} (h : TabG H P) : Tb P H H := ⟨But.refl P H, h⟩
theorem Tb.trans {P : Addr} {H H1 H2 : Hp} (a : Tb P H H1) (b : Tb P H1 H2) : Tb P H H2 := ⟨a.1.trans b.1, b.2⟩
theorem _root_.GxR.TabG.same {P : Addr} {H H' : Hp} (s : Same H H') (h : TabG H P) : TabG H' P := by
  obtain ⟨ps, e, t⟩ := h
  exact ⟨ps, s _ _ e, t⟩
theorem Tb.same {P : Addr} {H H' : Hp} (s : Same H H') (h : TabG H P) : Tb P H H' := ⟨Same.but s, h.same s⟩
theorem _root_.GxR.TabG.ne {P b : Addr} {H : Hp} {o : HO} (h : TabG H P) (e : H b = some o) (n : ∀ ps, o ≠ .tbl ps) : b ≠ P := by
  obtain ⟨ps, q, _⟩ := h
  rintro rfl
  rw [e] at q
  exact n _ (Option.some.inj q)
theorem SqT.tb {K : PySem.W.Frag} {P : Addr} {H H' : Hp} {a : Addr} {xs : List V} (g : TabG H P) (t : Tb P H H') (h : SqT K H a xs) : SqT K H' a xs := by
  rcases h with h | h
  · rcases h with h | ⟨u, h⟩
    · exact .inl (.inl (t.1 _ _ (g.ne h (by intro _ z; cases z)) h))
    · exact .inl (.inr ⟨u, t.1 _ _ (g.ne h (by intro _ z; cases z)) h⟩)
  · exact .inr h
theorem tabbed_tb {P : Addr} {H H' : Hp} (h : Tabbed P H H') : Tb P H H' := ⟨fun b o n e => by rw [h.2 b n]; exact e, h.1⟩
/-- what it has written of the errors -/
structure TxtEW (K : PySem.W.Frag) (mg : Str → Option Value) (NC : Addr) : Prop where
  gC : mg "InvalidWorld" = some (.ref NC)
  xC : PySem.W.excIn K NC [.type "ValueError", .type "Exception", .type "BaseException", .type "object"] "ValueError.__new__" = true
  kC : PySem.W.keepIn K (.ref NC) = true
  bC : PySem.W.subIn K (.ref NC) (.type "BaseException") = some true
  tC : PySem.W.typeIn K (.ref NC) = some (.type "type")
  eC : PySem.W.exmOne K (.ref NC) (.ref NC) = some true
structure TxtL (mg : Str → Option Value) (t1 t2 t3 : Tok) : Prop where
  m_MOST_LABELS : mg "MOST_LABELS" = some (.int 3 t1)
  m_MOST_FACTS : mg "MOST_FACTS" = some (.int 6 t2)
  m_MOST_STATES : mg "MOST_STATES" = some (.int 400 t3)
section
variable {P : Program} {w : World} {K : PySem.W.Frag} {mg : Str → Option Value} {base : Heap} {C J B NC WC cA tA : Addr} {t1 t2 t3 : Tok}
def spNum : Sp := fun vs H Q _ => ∃ n lo hi : Int, vs = [.int n, .int lo, .int hi] ∧ Q (.bl (decide (lo ≤ n) && decide (n ≤ hi))) H
theorem ok_is_number {f : Addr} {fd : FuncData} (FF : Fun K "is_number" "is_number" s_is_number f fd) (T : Txt K mg C J B) : FnOk P w K mg base CX0 1 f fd a_is_number spNum := by
  refine FF.ok sc_is_number (fun vs H Q E h => ?_) (fun cdv A outer s H vs Q E hr h => ?_)
  · obtain ⟨n, lo, hi, rfl, _⟩ := h
    rfl
  · obtain ⟨n, lo, hi, rfl, k⟩ := h
    refine ⟨_, (pss_one (ps_ret (pe_and (pe_callB call_isi rfl T.z_isinstance (by decide +kernel) (pa_cons (pv 0) (pa_cons (pe_bltn (v := .ty "int") (u := .type "int") rfl T.z_int (by decide +kernel) rfl) pa_nil))) (pe_and (pe_not (pe_callB call_isi rfl T.z_isinstance (by decide +kernel) (pa_cons (pv 0) (pa_cons (pe_bltn (v := .ty "bool") (u := .type "bool") rfl T.z_bool (by decide +kernel) rfl) pa_nil)))) (pe_one (pe_chain op_le op_le (pv 1) (pv 0) (pv 2))))))), ?_⟩
    refine ⟨.int n, rfl, .int n, .ty "int", .type "int", .type "int", true, rfl, .ty "int", .base (.int n), kit_ty (by decide +kernel), true, rfl, iteT ?_⟩
    refine ⟨.int n, rfl, .int n, .ty "bool", .type "int", .type "bool", false, rfl, .ty "bool", .base (.int n), kit_ty (by decide +kernel), false, rfl, true, rfl, iteT ?_⟩
    refine ⟨.int lo, rfl, .int n, rfl, lo, n, rfl, rfl, _, rfl, ?_⟩
    by_cases c : lo ≤ n
    · refine (if_pos (decide_eq_true c)).mpr ⟨.int hi, rfl, n, hi, rfl, rfl, ?_⟩
      rw [decide_eq_true c, Bool.true_and] at k
      exact k
    · refine (if_neg (by rw [decide_eq_false c]; exact Bool.false_ne_true)).mpr ?_
      rw [decide_eq_false c, Bool.false_and] at k
      exact k
end
end Fw

set_option maxRecDepth 100000
set_option maxHeartbeats 4000000
namespace Fw
open PySem PySem.Spec PyProof.Rows L2
def FAt (H : Hp) (as : List Addr) (Xs : List (List Int)) : Prop := as.length = Xs.length ∧ ∀ (i : Nat) (a : Addr) (X : List Int), as[i]? = some a → Xs[i]? = some X → IL H a X
def PAt (H : Hp) (as : List Addr) (ps : List (Int × Int × Int)) : Prop := as.length = ps.length ∧ ∀ (i : Nat) (a : Addr) (p : Int × Int × Int), as[i]? = some a → ps[i]? = some p → H a = some (.tup [.int p.1, .int p.2.1, .int p.2.2])
structure WAx (H : Hp) (wa sa pa : Addr) (fas pas : List Addr) (W : Wd) : Prop where
  w : H wa = some (.tup [.ref sa, .ref pa])
  s : H sa = some (.lst (fas.map V.ref))
  p : H pa = some (.lst (pas.map V.ref))
  f : FAt H fas W.facts
  t : PAt H pas W.steps
def WAt (H : Hp) (v : V) (W : Wd) : Prop := ∃ (wa sa pa : Addr) (fas pas : List Addr), v = .ref wa ∧ WAx H wa sa pa fas pas W
theorem WAx.same {H H' : Hp} {wa sa pa : Addr} {fas pas : List Addr} {W : Wd} (z : Same H H') (h : WAx H wa sa pa fas pas W) : WAx H' wa sa pa fas pas W :=
  ⟨z _ _ h.w, z _ _ h.s, z _ _ h.p, ⟨h.f.1, fun i a X e1 e2 => z _ _ (h.f.2 i a X e1 e2)⟩, ⟨h.t.1, fun i a X e1 e2 => z _ _ (h.t.2 i a X e1 e2)⟩⟩
theorem WAt.same {H H' : Hp} {v : V} {W : Wd} (z : Same H H') (h : WAt H v W) : WAt H' v W := by
  obtain ⟨wa, sa, pa, fas, pas, e, x⟩ := h
  exact ⟨wa, sa, pa, fas, pas, e, x.same z⟩
/-- the world's size fits -/
structure Wd.Fit (W : Wd) : Prop where
  good : W.Good
  one : 1 ≤ W.n
  n8 : W.n ≤ 8
  st : W.steps.length ≤ 200
  fc : ∀ X ∈ W.facts, X.length ≤ 8
theorem FAt.nil (H : Hp) : FAt H [] [] := ⟨rfl, fun i a X e _ => by cases e⟩
theorem PAt.nil (H : Hp) : PAt H [] [] := ⟨rfl, fun i a X e _ => by cases e⟩
theorem FAt.map {H H' : Hp} {as : List Addr} {Xs : List (List Int)} (h : FAt H as Xs) (z : ∀ a o, a ∈ as → H a = some o → H' a = some o) : FAt H' as Xs :=
  ⟨h.1, fun i a X e1 e2 => z _ _ (List.mem_of_getElem? e1) (h.2 i a X e1 e2)⟩
theorem PAt.map {H H' : Hp} {as : List Addr} {Xs : List (Int × Int × Int)} (h : PAt H as Xs) (z : ∀ a o, a ∈ as → H a = some o → H' a = some o) : PAt H' as Xs :=
  ⟨h.1, fun i a X e1 e2 => z _ _ (List.mem_of_getElem? e1) (h.2 i a X e1 e2)⟩
theorem get_snoc {α : Type} {l : List α} {x : α} {i : Nat} {y : α} (h : (l ++ [x])[i]? = some y) : l[i]? = some y ∨ (i = l.length ∧ x = y) := by
  by_cases lt : i < l.length
  · rw [List.getElem?_append_left lt] at h
    exact .inl h
  · have e : i = l.length := by
      have := (List.getElem?_eq_some_iff.mp h).1
      rw [List.length_append, List.length_singleton] at this
      omega
    subst e
    rw [List.getElem?_append_right (Nat.le_refl _), Nat.sub_self] at h
    exact .inr ⟨rfl, Option.some.inj h⟩
theorem get_len {α : Type} {l : List α} {i : Nat} {y : α} (h : l[i]? = some y) : i < l.length := (List.getElem?_eq_some_iff.mp h).1
theorem FAt.snoc {H : Hp} {as : List Addr} {Xs : List (List Int)} {a : Addr} {X : List Int} (h : FAt H as Xs) (z : IL H a X) : FAt H (as ++ [a]) (Xs ++ [X]) :=
  ⟨by rw [List.length_append, List.length_append, h.1]; rfl, fun i b Y e1 e2 => by
    rcases get_snoc e1 with e1' | ⟨q, rfl⟩
    · rcases get_snoc e2 with e2' | ⟨q, rfl⟩
      · exact h.2 i b Y e1' e2'
      · have := get_len e1'; rw [h.1] at this; omega
    · rcases get_snoc e2 with e2' | ⟨q2, rfl⟩
      · have := get_len e2'; rw [← h.1] at this; omega
      · exact z⟩
theorem PAt.snoc {H : Hp} {as : List Addr} {Xs : List (Int × Int × Int)} {a : Addr} {p : Int × Int × Int} (h : PAt H as Xs) (z : H a = some (.tup [.int p.1, .int p.2.1, .int p.2.2])) : PAt H (as ++ [a]) (Xs ++ [p]) :=
  ⟨by rw [List.length_append, List.length_append, h.1]; rfl, fun i b Y e1 e2 => by
    rcases get_snoc e1 with e1' | ⟨q, rfl⟩
    · rcases get_snoc e2 with e2' | ⟨q, rfl⟩
      · exact h.2 i b Y e1' e2'
      · have := get_len e1'; rw [h.1] at this; omega
    · rcases get_snoc e2 with e2' | ⟨q2, rfl⟩
      · have := get_len e2'; rw [← h.1] at this; omega
      · exact z⟩
section
variable {P : Program} {w : World} {K : PySem.W.Frag} {mg : Str → Option Value} {base : Heap} {C J B NC FE OD : Addr}
def RowUp (f : Int) (X : List Int) : Prop := X.Pairwise (· < ·) ∧ ∀ x ∈ X, 0 ≤ x ∧ x < f
def StUp (n : Nat) (q p : T3) : Prop := 0 ≤ p.1 ∧ p.1 < (n : Int) ∧ 0 ≤ p.2.1 ∧ p.2.1 < 2 ∧ 0 ≤ p.2.2 ∧ p.2.2 < (n : Int) ∧ lex3 p q = true
theorem StUp.up {n : Nat} {q q' p : T3} (h : StUp n q p) (z : Lt3 p q → Lt3 p q') : StUp n q' p := by
  obtain ⟨a, b, c, d, e, f, g⟩ := h
  exact ⟨a, b, c, d, e, f, lex3_iff.mpr (z (lex3_iff.mp g))⟩
/-- its rows ascend, and its steps -/
structure Wd.Up (W : Wd) (f : Int) : Prop where
  rows : ∀ X ∈ W.facts, RowUp f X
  steps : W.steps.Pairwise fun x y => lex3 x y = true
  in_ : ∀ p ∈ W.steps, StUp W.n (W.n, 0, 0) p
def spWorld : Sp := fun vs H Q _ => ∃ (d : Addr) (mo fc : Int), vs = [.ref d, .int mo, .int fc] ∧ Draws H d ∧ 1 ≤ mo ∧ mo ≤ 8 ∧ 0 ≤ fc ∧ fc ≤ 8 ∧
  ∀ (wa sa pa : Addr) (fas pas : List Addr) W H', But d H H' → Draws H' d → WAx H' wa sa pa fas pas W → sa ≠ d → pa ≠ d → (∀ a ∈ fas, a ≠ d) → W.Fit → W.Up fc → (W.n : Int) ≤ mo → Q (.ref wa) H'
theorem ok_law_world {f : Addr} {fd : FuncData} (FF : Fun K "_law_world" "_law_world" s_law_world f fd) (T : Txt K mg C J B) (h_law_take : Has P w K mg base "_law_take" 1 a_law_take spTake) : FnOk P w K mg base CX0 2 f fd a_law_world spWorld := by
  refine FF.ok sc_law_world (fun vs H Q E h => ?_) (fun cdv A outer s H vs Q E hr h => ?_)
  · obtain ⟨d, mo, fc, rfl, _⟩ := h
    rfl
  · obtain ⟨d, mo, fc, rfl, hd, m1, m8, f0, f8, k⟩ := h
    refine ⟨_, (pss_cons (ps_set (i := 3) sc_law_world.nd rfl (.inl rfl) (pe_op op_add pe_int (pe_callH h_law_take (hr.mono (by omega)) (pa_cons (pv 0) (pa_cons (pv 1) pa_nil)))))
      (pss_cons (ps_setLc (i := 5) (own := [("state", 4)]) (g := gName 4) rfl sc_law_world.nd rfl rfl (sw_true rfl rfl rfl (by decide +kernel)) (pi_range1 rfl T.z_range (pa_cons (pv 3) pa_nil)) (blkOk_by (own := [("state", 4)]) (N := n_law_world) (sc := defScope s_law_world) (by decide +kernel)) (fun _ _ _ _ _ => (pg_name (i := 4) sc_law_world.nd rfl (.inl rfl))) (fun _ _ _ _ _ => pts_nil) (fun _ _ _ _ _ => (pe_lc (own := [("fact", 9)]) (g := gName 9) rfl sc_law_world.nd (pi_range1 rfl T.z_range (pa_cons (pv 2) pa_nil)) (blkOk_by (own := [("fact", 9)]) (N := n_law_world) (sc := { kind := PySem.ScopeKind.function, names := [ (PySem.Str.ofString ".0", PySem.NameKind.local), (PySem.Str.ofString "state", PySem.NameKind.local), (PySem.Str.ofString "range", PySem.NameKind.globalImplicit), (PySem.Str.ofString "draws", PySem.NameKind.cell), (PySem.Str.ofString "facts", PySem.NameKind.cell)], isGenerator := false, isCoroutine := false, more := [] : PySem.Scope }) (by decide +kernel)) (fun _ _ _ _ _ => (pg_name (i := 9) sc_law_world.nd rfl (.inl rfl))) (fun _ _ _ _ _ => (pts_one (pt_cmpR op_eq (pe_callH h_law_take (hr.mono (by omega)) (pa_cons (pv 0) (pa_cons pe_int pa_nil))) pe_int (nomark _)))) (fun _ _ _ _ _ => (pv 9)))))
      (pss_cons (ps_set (i := 6) sc_law_world.nd rfl (.inl rfl) (pe_lst pa_nil))
      (pss_cons (ps_for PassesOwn.never rfl (pi_range1 rfl T.z_range (pa_cons (pv 3) pa_nil)) (pg_name (i := 4) sc_law_world.nd rfl (.inl rfl)) (pss_one (ps_for PassesOwn.never rfl (pi_range1 rfl T.z_range (pa_cons pe_int pa_nil)) (pg_name (i := 7) sc_law_world.nd rfl (.inl rfl)) (pss_one (ps_for PassesOwn.never rfl (pi_range1 rfl T.z_range (pa_cons (pv 3) pa_nil)) (pg_name (i := 8) sc_law_world.nd rfl (.inl rfl)) (pss_one (ps_if (pt_cmpR op_lt (pe_callH h_law_take (hr.mono (by omega)) (pa_cons (pv 0) (pa_cons (pe_op op_add pe_int (pv 3)) pa_nil))) pe_int (nomark _)) (pss_one (ps_expr (pe_bm PySem.F.plainAttrs_list PySem.F.slot_list_append PySem.F.type_list_append mt_append (pv 6) (pa_cons (pe_tup (pa_cons (pv 4) (pa_cons (pv 7) (pa_cons (pv 8) pa_nil)))) pa_nil)))) pss_nil)))))))
      (pss_one (ps_ret (pe_tup (pa_cons (pv 5) (pa_cons (pv 6) pa_nil))))))))), ?_⟩
    refine ⟨.ref d, rfl, .int mo, rfl, d, mo, rfl, hd, by omega, fun v1 H1 v10 v1m b1 d1 => ⟨1, v1, rfl, rfl, ?_⟩⟩
    obtain ⟨n, hn⟩ : ∃ n : Nat, 1 + v1 = (n : Int) := ⟨(1 + v1).toNat, by omega⟩
    show gName 3 (V.int (1 + v1)) _ _ _
    rw [hn]
    have n1 : 1 ≤ n := by omega
    have n8 : n ≤ 8 := by omega
    refine ⟨.int (n : Nat), rfl, (n : Nat), rfl, by omega, by omega, fun D hD => ?_⟩
    have dD : D ≠ d := d1.ne hD
    refine lc_range (lo := 0) (n := ((n : Int)).toNat) (fun i G => But d H1 G ∧ Draws G d ∧ ∃ (fas : List Addr) (Xs : List (List Int)), G D = some (.lst (fas.map V.ref)) ∧ fas.length = i ∧ FAt G fas Xs ∧ (∀ a ∈ fas, a ≠ d ∧ a ≠ D) ∧ ∀ X ∈ Xs, X.length ≤ 8 ∧ RowUp fc X)
      ⟨Same.but (Same.new hD), d1.same (Same.new hD), [], [], upd_same, rfl, FAt.nil _, fun a h => (by cases h), fun X h => (by cases h)⟩ ?_ ?_
    · rintro i G hi ⟨bG, dG, fas, Xs, gD, li, fa, ne, x8⟩
      rw [Int.toNat_natCast] at hi
      refine ⟨rfl, ?_⟩
      refine ⟨.int fc, rfl, fc, rfl, by omega, by omega, fun D2 hD2 => ?_⟩
      have dD2 : D2 ≠ d := dG.ne hD2
      have dDD : D2 ≠ D := fun e => by rw [e, gD] at hD2; cases hD2
      refine lc_range (lo := 0) (n := fc.toNat) (fun j G2 => But d G G2 ∧ Draws G2 d ∧ ∃ X : List Int, IL G2 D2 X ∧ X.length ≤ j ∧ RowUp j X)
        ⟨Same.but (Same.new hD2), dG.same (Same.new hD2), [], upd_same, Nat.le_refl 0, List.Pairwise.nil, fun x hx => (by cases hx)⟩ ?_ ?_
      · rintro j G2 hj ⟨bG2, dG2, X, gD2, lX, rX⟩
        refine ⟨rfl, ?_⟩
        refine ⟨.ref d, rfl, d, 2, rfl, dG2, by decide, fun v2 H2 v20 v22 b2 d2 => ⟨rfl, _, rfl, ?_⟩⟩
        have gD2' := b2 _ _ dD2 gD2
        refine ite2 (fun c => ?_) (fun c => ?_)
        · refine ⟨_, rfl, _, gD2', by rw [List.length_map]; exact small1000 (by omega), fun b o nb e => ?_, ?_, X ++ [0 + (j : Int)], ?_, by rw [List.length_append]; exact Nat.succ_le_succ lX, ?_⟩
          · rw [upd_ne (ne_of_none e hD2)]
            exact b2 _ _ nb (bG2 _ _ nb e)
          · obtain ⟨ds, e⟩ := d2
            exact ⟨ds, by rw [upd_ne dD2.symm]; exact e⟩
          · show _ = _
            rw [upd_same, List.map_append]
            rfl
          · refine ⟨List.pairwise_append.mpr ⟨rX.1, List.pairwise_singleton _ _, fun a ha b hb => ?_⟩, fun x hx => ?_⟩
            · rw [List.mem_singleton.mp hb]
              have := (rX.2 a ha).2
              omega
            · rcases List.mem_append.mp hx with hx | hx
              · have := rX.2 x hx
                omega
              · rw [List.mem_singleton.mp hx]
                omega
        · exact ⟨bG2.trans b2, d2, X, gD2', Nat.le_succ_of_le lX, rX.1, fun x hx => by have := rX.2 x hx; omega⟩
      · rintro G2 ⟨bG2, dG2, X, gD2, lX, rX⟩
        have gD' := bG2 _ _ dD gD
        refine ⟨_, gD', by rw [List.length_map]; exact small1000 (by omega), fun b o nb e => ?_, ?_, fas ++ [D2], Xs ++ [X], by rw [upd_same, List.map_append]; rfl, by rw [List.length_append, li]; rfl, FAt.snoc (fa.map fun a o ha e => ?_) ?_, fun a ha => ?_, fun Y hY => ?_⟩
        · rw [upd_ne (ne_of_none e hD)]
          exact bG2 _ _ nb (bG _ _ nb e)
        · obtain ⟨ds, e⟩ := dG2
          exact ⟨ds, by rw [upd_ne dD.symm]; exact e⟩
        · rw [upd_ne (ne a ha).2]
          exact bG2 _ _ (ne a ha).1 e
        · show _ = _
          rw [upd_ne dDD]
          exact gD2
        · rcases List.mem_append.mp ha with ha | ha
          · exact ne a ha
          · rw [List.mem_singleton.mp ha]
            exact ⟨dD2, dDD⟩
        · rcases List.mem_append.mp hY with hY | hY
          · exact x8 Y hY
          · rw [List.mem_singleton.mp hY]
            refine ⟨by omega, rX.1, fun x hx => ?_⟩
            have := rX.2 x hx
            omega
    · rintro G0 ⟨bG0, dG0, fas, Xs, gD, li, fa, ne, x8⟩
      rw [Int.toNat_natCast] at li
      refine ⟨Nat.zero_le _, fun L hL => ?_⟩
      have s2 := Same.new (o := .lst []) hL
      have dL : L ≠ d := dG0.ne hL
      have bH := bG0.trans (Same.but s2)
      refine ⟨.int (n : Nat), rfl, (n : Nat), rfl, by omega, by omega, ?_⟩
      refine for_range (lo := 0) (n := ((n : Int)).toNat) (fun i σ G => ∃ (y4 y7 y8 y9 : Option V) (pas : List Addr) (ps : List (Int × Int × Int)), σ = [some (.ref d), some (.int mo), some (.int fc), some (.int (n : Nat)), y4, some (.ref D), some (.ref L), y7, y8, y9] ∧
          But d G0 G ∧ Draws G d ∧ G L = some (.lst (pas.map V.ref)) ∧ PAt G pas ps ∧ (∀ a ∈ pas, a ≠ d ∧ a ≠ L) ∧ ps.length ≤ i * 16 ∧ ps.Pairwise (fun x y => lex3 x y = true) ∧ ∀ p ∈ ps, StUp n ((i : Int), 0, 0) p)
        ⟨_, _, _, _, [], [], rfl, Same.but s2, dG0.same s2, upd_same, PAt.nil _, fun a h => (by cases h), Nat.zero_le _, List.Pairwise.nil, fun p h => (by cases h)⟩ ?_ ?_
      · rintro i σ G hi ⟨y4, y7, y8, y9, pas, ps, rfl, bG, dG, gL, pAt, ne2, pl, pw, pg⟩
        rw [Int.toNat_natCast] at hi
        refine ⟨2, rfl, by omega, by omega, ?_⟩
        refine for_range (lo := 0) (n := 2) (fun j σ G => ∃ (y7 y8 y9 : Option V) (pas : List Addr) (ps : List (Int × Int × Int)), σ = [some (.ref d), some (.int mo), some (.int fc), some (.int (n : Nat)), some (.int (0 + (i : Int))), some (.ref D), some (.ref L), y7, y8, y9] ∧
            But d G0 G ∧ Draws G d ∧ G L = some (.lst (pas.map V.ref)) ∧ PAt G pas ps ∧ (∀ a ∈ pas, a ≠ d ∧ a ≠ L) ∧ ps.length ≤ i * 16 + j * 8 ∧ ps.Pairwise (fun x y => lex3 x y = true) ∧ ∀ p ∈ ps, StUp n ((i : Int), (j : Int), 0) p)
          ⟨_, _, _, pas, ps, rfl, bG, dG, gL, pAt, ne2, pl, pw, pg⟩ ?_ ?_
        · clear bG dG gL pAt ne2 pl pw pg
          rintro j σ G hj ⟨y7, y8, y9, pas, ps, rfl, bG, dG, gL, pAt, ne2, pl, pw, pg⟩
          refine ⟨.int (n : Nat), rfl, (n : Nat), rfl, by omega, by omega, ?_⟩
          refine for_range (lo := 0) (n := ((n : Int)).toNat) (fun o σ G => ∃ (y8 y9 : Option V) (pas : List Addr) (ps : List (Int × Int × Int)), σ = [some (.ref d), some (.int mo), some (.int fc), some (.int (n : Nat)), some (.int (0 + (i : Int))), some (.ref D), some (.ref L), some (.int (0 + (j : Int))), y8, y9] ∧
              But d G0 G ∧ Draws G d ∧ G L = some (.lst (pas.map V.ref)) ∧ PAt G pas ps ∧ (∀ a ∈ pas, a ≠ d ∧ a ≠ L) ∧ ps.length ≤ i * 16 + j * 8 + o ∧ ps.Pairwise (fun x y => lex3 x y = true) ∧ ∀ p ∈ ps, StUp n ((i : Int), (j : Int), (o : Int)) p)
            ⟨_, _, pas, ps, rfl, bG, dG, gL, pAt, ne2, pl, pw, pg⟩ ?_ ?_
          · clear bG dG gL pAt ne2 pl pw pg
            rintro o σ G ho ⟨y8, y9, pas, ps, rfl, bG, dG, gL, pAt, ne2, pl, pw, pg⟩
            rw [Int.toNat_natCast] at ho
            refine ⟨.ref d, rfl, .int (n : Nat), rfl, 2, _, rfl, rfl, d, _, rfl, dG, by omega, fun v3 H3 v30 v3m b3 d3 => ⟨_, _, rfl, rfl, _, rfl, ?_⟩⟩
            have gL3 := b3 _ _ dL gL
            refine ite2 (fun c => ?_) (fun c => ?_)
            · refine ⟨.ref L, rfl, .inl ⟨rfl, _, SqL.of gL3⟩, _, rfl, _, rfl, _, rfl, by show 3 ≤ sizeLine; decide, fun p hp => ?_⟩
              have s4 := Same.new (o := .tup [.int (0 + (i : Int)), .int (0 + (j : Int)), .int (0 + (o : Int))]) hp
              have gL4 := s4 _ _ gL3
              have pd : p ≠ d := d3.ne hp
              have pL : p ≠ L := fun e => by rw [e, gL3] at hp; cases hp
              refine ⟨L, _, _, rfl, rfl, gL4, by rw [List.length_map, pAt.1]; exact small1000 (by omega), ?_⟩
              refine ⟨_, _, pas ++ [p], ps ++ [(0 + (i : Int), 0 + (j : Int), 0 + (o : Int))], rfl, fun b u nb e => ?_, ?_, by rw [upd_same, List.map_append]; rfl, PAt.snoc (pAt.map fun a u ha e => ?_) ?_, fun a ha => ?_, by rw [List.length_append, List.length_singleton]; omega, ?_, fun q hq => ?_⟩
              · rw [upd_ne (ne_of_none e hL)]
                exact s4 _ _ (b3 _ _ nb (bG _ _ nb e))
              · obtain ⟨ds, e⟩ := d3.same s4
                exact ⟨ds, by rw [upd_ne dL.symm]; exact e⟩
              · rw [upd_ne (ne2 a ha).2]
                exact s4 _ _ (b3 _ _ (ne2 a ha).1 e)
              · rw [upd_ne pL]
                exact upd_same
              · rcases List.mem_append.mp ha with ha | ha
                · exact ne2 a ha
                · rw [List.mem_singleton.mp ha]
                  exact ⟨pd, pL⟩
              · refine List.pairwise_append.mpr ⟨pw, List.pairwise_singleton _ _, fun a ha b hb => ?_⟩
                rw [List.mem_singleton.mp hb, Int.zero_add, Int.zero_add, Int.zero_add]
                exact (pg a ha).2.2.2.2.2.2
              · rcases List.mem_append.mp hq with hq | hq
                · exact (pg q hq).up fun z => by unfold Lt3 at *; simp only at *; omega
                · rw [List.mem_singleton.mp hq, Int.zero_add, Int.zero_add, Int.zero_add]
                  refine ⟨by simp only; omega, by simp only; omega, by simp only; omega, by simp only; omega, by simp only; omega, by simp only; omega, lex3_iff.mpr ?_⟩
                  exact .inr ⟨rfl, .inr ⟨rfl, by show (o : Int) < ((o + 1 : Nat) : Int); omega⟩⟩
            · exact ⟨_, _, pas, ps, rfl, bG.trans b3, d3, gL3, pAt.map fun a u ha e => b3 _ _ (ne2 a ha).1 e, ne2, by omega, pw, fun q hq => (pg q hq).up fun z => by unfold Lt3 at *; simp only at *; omega⟩
          · rintro σ G ⟨y8, y9, pas, ps, rfl, bG, dG, gL, pAt, ne2, pl, pw, pg⟩
            rw [Int.toNat_natCast] at pl pg
            exact ⟨_, _, _, pas, ps, rfl, bG, dG, gL, pAt, ne2, by omega, pw, fun q hq => (pg q hq).up fun z => by unfold Lt3 at *; simp only at *; omega⟩
        · rintro σ G ⟨y7, y8, y9, pas, ps, rfl, bG, dG, gL, pAt, ne2, pl, pw, pg⟩
          exact ⟨_, _, _, _, pas, ps, rfl, bG, dG, gL, pAt, ne2, by omega, pw, fun q hq => (pg q hq).up fun z => by have := (pg q hq).2.2.2.1; unfold Lt3 at *; simp only at *; omega⟩
      · rintro σ G ⟨y4, y7, y8, y9, pas, ps, rfl, bG, dG, gL, pAt, ne2, pl, pw, pg⟩
        rw [Int.toNat_natCast] at pl pg
        refine ⟨_, rfl, _, rfl, by show 2 ≤ sizeLine; decide, fun p hp => ?_⟩
        have s5 := Same.new (o := .tup [.ref D, .ref L]) hp
        have eL : Xs.length = n := by rw [← fa.1]; exact li
        refine k p D L fas pas ⟨Xs, ps⟩ _ (b1.trans ((bG0.trans bG).trans (Same.but s5))) (dG.same s5) ⟨upd_same, s5 _ _ (bG _ _ dD gD), s5 _ _ gL, fa.map fun a u ha e => s5 _ _ (bG _ _ (ne a ha).1 e), pAt.map fun a u _ e => s5 _ _ e⟩ dD dL (fun a ha => (ne a ha).1) ⟨?_, ?_, ?_, ?_, fun X hX => (x8 X hX).1⟩ ⟨fun X hX => (x8 X hX).2, pw, fun q hq => ?_⟩ (by show ((Xs.length : Nat) : Int) ≤ mo; omega)
        · intro q hq
          show 0 ≤ q.2.2 ∧ q.2.2 < ((Xs.length : Nat) : Int)
          rw [eL]
          have := pg q hq
          exact ⟨this.2.2.2.2.1, this.2.2.2.2.2.1⟩
        · show 1 ≤ Xs.length
          omega
        · show Xs.length ≤ 8
          omega
        · show ps.length ≤ 200
          omega
        · show StUp Xs.length (((Xs.length : Nat) : Int), 0, 0) q
          rw [eL]
          exact pg q hq
/-! ### where the steps lead -/
/-- lists or tuples -/
abbrev Sq (K : PySem.W.Frag) (H : Hp) (a : Addr) (xs : List V) : Prop := SqL K H a xs ∨ SqT K H a xs
theorem Sq.same {K : PySem.W.Frag} {H H' : Hp} {a : Addr} {xs : List V} (z : Same H H') (h : Sq K H a xs) : Sq K H' a xs := h.imp (SqL.keepAt fun o e => z a o e) (SqT.same z)
structure WSx (K : PySem.W.Frag) (H : Hp) (wa sa pa : Addr) (fas pas : List Addr) (W : Wd) : Prop where
  w : H wa = some (.tup [.ref sa, .ref pa])
  s : Sq K H sa (fas.map V.ref)
  p : Sq K H pa (pas.map V.ref)
  f : fas.length = W.facts.length ∧ ∀ (i : Nat) (a : Addr) (X : List Int), fas[i]? = some a → W.facts[i]? = some X → Sq K H a (X.map V.int)
  t : PAt H pas W.steps
def WSt (K : PySem.W.Frag) (H : Hp) (v : V) (W : Wd) : Prop := ∃ (wa sa pa : Addr) (fas pas : List Addr), v = .ref wa ∧ WSx K H wa sa pa fas pas W
theorem WSx.same {K : PySem.W.Frag} {H H' : Hp} {wa sa pa : Addr} {fas pas : List Addr} {W : Wd} (z : Same H H') (h : WSx K H wa sa pa fas pas W) : WSx K H' wa sa pa fas pas W :=
  ⟨z _ _ h.w, h.s.same z, h.p.same z, ⟨h.f.1, fun i a X e1 e2 => (h.f.2 i a X e1 e2).same z⟩, ⟨h.t.1, fun i a X e1 e2 => z _ _ (h.t.2 i a X e1 e2)⟩⟩
theorem WSt.same {K : PySem.W.Frag} {H H' : Hp} {v : V} {W : Wd} (z : Same H H') (h : WSt K H v W) : WSt K H' v W := by
  obtain ⟨wa, sa, pa, fas, pas, e, x⟩ := h
  exact ⟨wa, sa, pa, fas, pas, e, x.same z⟩
theorem WAx.gen {K : PySem.W.Frag} {H : Hp} {wa sa pa : Addr} {fas pas : List Addr} {W : Wd} (h : WAx H wa sa pa fas pas W) : WSx K H wa sa pa fas pas W :=
  ⟨h.w, .inl (SqL.of h.s), .inl (SqL.of h.p), ⟨h.f.1, fun i a X e1 e2 => .inl (SqL.of (h.f.2 i a X e1 e2))⟩, h.t⟩
/-- the size of a world that is walked -/
structure Wd.Fix (W : Wd) : Prop where
  n16 : W.n ≤ 16
  st : W.steps.length ≤ 400
theorem pe_alt {X : Cx} {e : Expr} {t1 t2 : TE} (h1 : PE X e t1) (h2 : PE X e t2) : PE X e (fun σ H Q => t1 σ H Q ∨ t2 σ H Q) :=
  ⟨fun pins s σ H Q I h => h.elim (h1.run pins s σ H Q I) (h2.run pins s σ H Q I)⟩
def spBehind (K : PySem.W.Frag) : Sp := fun vs H Q _ => ∃ (v : V) (W : Wd) (s l : Int), vs = [v, .int s, .int l] ∧ WSt K H v W ∧ W.steps.length ≤ 400 ∧
  ∀ (b : Addr) H', Same H H' → H b = none → IL H' b (W.beh s l) → Q (.ref b) H'
theorem beh_snoc (ps : List (Int × Int × Int)) (p : Int × Int × Int) (s l : Int) :
    ((ps ++ [p]).filter fun p => decide (p.1 = s) && decide (p.2.1 = l)).map (fun p => p.2.2) = (ps.filter fun p => decide (p.1 = s) && decide (p.2.1 = l)).map (fun p => p.2.2) ++ (if (decide (p.1 = s) && decide (p.2.1 = l)) = true then [p.2.2] else []) := by
  rw [List.filter_append, List.map_append]
  congr 1
  cases c : decide (p.1 = s) && decide (p.2.1 = l)
  · simp [c]
  · simp [c]
end
end Fw

set_option maxRecDepth 100000
set_option maxHeartbeats 4000000
namespace Fw
open PySem PySem.Spec PyProof.Rows L2 GxR
/-- a row of ints, or of triples, and whether it ascends -/
inductive RowA (H : Hp) : List V → Bool → Prop
  | i (ns : List Int) : RowA H (ns.map V.int) (asc ltI ns)
  | t {as : List Addr} {ts : List T3} : PAt H as ts → RowA H (as.map V.ref) (asc lex3 ts)
abbrev genSc : Stmt → Scope
  | .FunctionDef (body := [.Return (some (.Call _ [.GeneratorExp _ _ sc _] _ _)) _]) .. => sc
  | _ => default
abbrev genEl : Stmt → Expr
  | .FunctionDef (body := [.Return (some (.Call _ [.GeneratorExp e _ _ _] _ _)) _]) .. => e
  | _ => .Constant .none 0 ⟨0, 0, 0, 0⟩
theorem asc_free : ∀ y ∈ (genSc s_ascends).names, y.2 ≠ .free := by decide +kernel
theorem map_tail {α β : Type} (f : α → β) : ∀ l : List α, (l.map f).tail = l.tail.map f
  | [] => rfl
  | _ :: _ => rfl
theorem cut_tail (xs : List V) : cutV xs (some 1) none = xs.tail := by
  cases xs with
  | nil => rfl
  | cons x xs =>
    unfold cutV
    rw [HT.sIx_none, show (1 : Int) = ((1 : Nat) : Int) from rfl, HT.sIx_nat]
    rw [List.length_cons, Nat.min_eq_left (by omega)]
    show (xs.take (xs.length + 1 - 1)) = xs
    rw [Nat.add_sub_cancel, List.take_length]
section
variable {P : Program} {w : World} {K : PySem.W.Frag} {mg : Str → Option Value} {base : Heap} {C J B NC WC cA tA : Addr} {t1 t2 t3 : Tok}
def spAsc (K : PySem.W.Frag) (tA : Addr) : Sp := fun vs H Q _ => ∃ (a : Addr) (xs : List V) (r : Bool), vs = [.ref a] ∧ SqT K H a xs ∧ TabG H tA ∧ RowA H xs r ∧ ∀ H', Tb tA H H' → Q (.bl r) H'
theorem ok_ascends {f : Addr} {fd : FuncData} (FF : FunC K "ascends" "ascends" s_ascends f fd cA) (T : Txt K mg C J B) (TB : TabB base mg cA tA) : FnOk P w K mg base CX0 4 f fd a_ascends (spAsc K tA) := by
  refine FF.ok sc_ascends (fun vs H Q E h => ?_) (fun A outer s H vs Q E hr h => ?_)
  · obtain ⟨a, xs, r, rfl, _⟩ := h
    rfl
  · obtain ⟨a, xs, r, rfl, sq, tg, ra, k⟩ := h
    have gs2 : GenS2 (envOfC "ascends" (defScope s_ascends) s.heap.objs.size f (.ref cA)) (genSc s_ascends) "low" "high" := ⟨rfl, rfl, by decide +kernel, rfl, rfl, rfl, fun y hy e => absurd e (asc_free y hy)⟩
    refine ⟨_, (pss_one (ps_ret (pe_allZ hr TB rfl gs2 (by decide) rfl T.z_all rfl T.z_zip (pa_cons (pv 0) (pa_cons (pe_slice sl_tupA (pv 0) (po_some pe_int) po_none) pa_nil))))), ?_⟩
    -- from the tail on, wherever it stands
    have go : ∀ (q : Addr) (G : Hp), Same H G → SqT K G q xs.tail → ∃ rs : List Bool, EltsZ (cxOf CX0 P w K mg base n_ascends "ascends" (defScope s_ascends) f (.ref cA) A outer s H E).nox (genSc s_ascends) "low" "high" (genEl s_ascends) tA G xs xs.tail rs ∧ rs.all id = r := by
      intro q G sG sqt
      cases ra with
      | i ns =>
        refine ⟨adj ltI ns, ⟨?_, fun s' pins σ I i x y r hx hy hr' => ?_⟩, adj_asc ltI ns⟩
        · rw [adj_len, map_tail, List.length_map, List.length_map]
        · obtain ⟨x', y', e1, e2, rfl⟩ := adj_get hr'
          rw [map_tail, List.getElem?_map, e2] at hy
          rw [List.getElem?_map, e1] at hx
          cases hx
          cases hy
          exact eltZ_lt_int x' y' rfl rfl rfl
      | @t as ts pa =>
        have pa' : PAt G as ts := pa.map fun a o _ e => sG a o e
        refine ⟨adj lex3 ts, ⟨?_, fun s' pins σ I i x y r hx hy hr' => ?_⟩, adj_asc lex3 ts⟩
        · rw [adj_len, map_tail, List.length_map, List.length_map, List.length_tail, List.length_tail, pa.1]
        · obtain ⟨x', y', e1, e2, rfl⟩ := adj_get hr'
          rw [map_tail, List.getElem?_map] at hy
          rw [List.getElem?_map] at hx
          cases ex : as[i]? with
          | none => rw [ex] at hx; cases hx
          | some u =>
          cases ey : as.tail[i]? with
          | none => rw [ey] at hy; cases hy
          | some v =>
          rw [ex] at hx
          rw [ey] at hy
          cases hx
          cases hy
          rw [List.getElem?_tail] at ey e2
          exact eltZ_lt_trip I (tg.same sG) (by have := hr.un; show (A.deeper (envOfC "ascends" (defScope s_ascends) s.heap.objs.size f (.ref cA))).units + 8 < _; omega) (pa'.2 _ _ _ ex e1) (pa'.2 _ _ _ ey e2) rfl rfl rfl
    refine ⟨.ref a, rfl, .ref a, rfl, 1, rfl, a, xs, rfl, sq, fun hw => ?_, fun _ q hq => ?_⟩
    · have e : xs.tail = xs := by
        have h1 := hw.1
        cases xs with
        | nil => rfl
        | cons x xs =>
          rw [show (1 : Int) = ((1 : Nat) : Int) from rfl, HT.sIx_nat, List.length_cons, Nat.min_eq_left (by omega)] at h1
          cases h1
      obtain ⟨rs, el, er⟩ := go a H (fun _ _ e => e) (by rw [e]; exact sq)
      rw [e] at el
      refine ⟨a, a, xs, xs, rs, rfl, .inr ⟨sq, sq⟩, tg, el, fun H2 t2 => ?_⟩
      rw [er]
      exact k H2 (tabbed_tb t2)
    · have s1 := Same.new (o := .tup (cutV xs (some 1) none)) hq
      obtain ⟨rs, el, er⟩ := go q _ s1 (SqT.of (by rw [upd_same, cut_tail]))
      refine ⟨a, q, xs, xs.tail, rs, rfl, .inr ⟨SqT.same s1 sq, SqT.of (by rw [upd_same, cut_tail])⟩, tg.same s1, el, fun H2 t2 => ?_⟩
      rw [er]
      exact k H2 ((Tb.same s1 tg).trans (tabbed_tb t2))
end
end Fw

set_option maxRecDepth 100000
set_option maxHeartbeats 4000000
namespace Fw
open PySem PySem.Spec PyProof.Rows L2 GxR
def RAt (K : PySem.W.Frag) (H : Hp) (as : List Addr) (Xs : List (List Int)) : Prop := as.length = Xs.length ∧ ∀ (i : Nat) (a : Addr) (X : List Int), as[i]? = some a → Xs[i]? = some X → SqT K H a (X.map V.int)
def wf (l f : Int) (ta tb : Addr) : List (Str × V) := [("labels", .int l), ("facts", .int f), ("states", .ref ta), ("steps", .ref tb)]
/-- a world being made: its parts, without its ends -/
structure WoA (K : PySem.W.Frag) (WC : Addr) (H : Hp) (p dx : Addr) (l f : Int) (ta tb : Addr) (ras as : List Addr) (Xs : List (List Int)) (ss : List T3) : Prop where
  ob : H p = some (.ins WC dx (wf l f ta tb))
  st : SqT K H ta (ras.map V.ref)
  rw : RAt K H ras Xs
  sp : SqT K H tb (as.map V.ref)
  tr : PAt H as ss
theorem RAt.tb {K : PySem.W.Frag} {P : Addr} {H H' : Hp} {as : List Addr} {Xs : List (List Int)} (g : TabG H P) (t : Tb P H H') (h : RAt K H as Xs) : RAt K H' as Xs := ⟨h.1, fun i a X e1 e2 => SqT.tb g t (h.2 i a X e1 e2)⟩
theorem PAt.tb {P : Addr} {H H' : Hp} {as : List Addr} {ts : List T3} (g : TabG H P) (t : Tb P H H') (h : PAt H as ts) : PAt H' as ts :=
  ⟨h.1, fun i a p e1 e2 => t.1 _ _ (g.ne (h.2 i a p e1 e2) (by intro _ z; cases z)) (h.2 i a p e1 e2)⟩
theorem WoA.tb {K : PySem.W.Frag} {WC P : Addr} {H H' : Hp} {p dx : Addr} {l f : Int} {ta tb : Addr} {ras as : List Addr} {Xs : List (List Int)} {ss : List T3} (g : TabG H P) (t : Tb P H H') (h : WoA K WC H p dx l f ta tb ras as Xs ss) : WoA K WC H' p dx l f ta tb ras as Xs ss :=
  ⟨t.1 _ _ (g.ne h.ob (by intro _ z; cases z)) h.ob, SqT.tb g t h.st, h.rw.tb g t, SqT.tb g t h.sp, h.tr.tb g t⟩
theorem all_take {α : Type} {l : List α} {q : α → Bool} (h : ∀ (i : Nat) (x : α), l[i]? = some x → q x = true) : l.all q = true := List.all_eq_true.mpr fun x hx => by
  obtain ⟨i, hi, e⟩ := List.getElem_of_mem hx
  exact h i x (by rw [List.getElem?_eq_getElem hi, e])
theorem all_no {α : Type} {l : List α} {q : α → Bool} {i : Nat} {x : α} (h : l[i]? = some x) (n : q x = false) : l.all q = false := by
  cases e : l.all q with
  | false => rfl
  | true =>
    have := List.all_eq_true.mp e x (List.mem_of_getElem? h)
    rw [n] at this
    cases this
theorem RAt.nth {K : PySem.W.Frag} {H : Hp} {as : List Addr} {Xs : List (List Int)} (h : RAt K H as Xs) {i : Nat} {x : V} (e : (as.map V.ref)[i]? = some x) : ∃ a X, x = .ref a ∧ as[i]? = some a ∧ Xs[i]? = some X ∧ SqT K H a (X.map V.int) := by
  rw [List.getElem?_map] at e
  cases q : as[i]? with
  | none => rw [q] at e; cases e
  | some a =>
    rw [q] at e
    have il : i < Xs.length := by rw [← h.1]; exact (List.getElem?_eq_some_iff.mp q).1
    exact ⟨a, Xs[i], (Option.some.inj e).symm, rfl, List.getElem?_eq_getElem il, h.2 i a _ q (List.getElem?_eq_getElem il)⟩
theorem PAt.nth {H : Hp} {as : List Addr} {ss : List T3} (h : PAt H as ss) {i : Nat} {x : V} (e : (as.map V.ref)[i]? = some x) : ∃ a p, x = .ref a ∧ as[i]? = some a ∧ ss[i]? = some p ∧ H a = some (.tup [.int p.1, .int p.2.1, .int p.2.2]) := by
  rw [List.getElem?_map] at e
  cases q : as[i]? with
  | none => rw [q] at e; cases e
  | some a =>
    rw [q] at e
    have il : i < ss.length := by rw [← h.1]; exact (List.getElem?_eq_some_iff.mp q).1
    exact ⟨a, ss[i], (Option.some.inj e).symm, rfl, List.getElem?_eq_getElem il, h.2 i a _ q (List.getElem?_eq_getElem il)⟩
section
variable {P : Program} {w : World} {K : PySem.W.Frag} {mg : Str → Option Value} {base : Heap} {C J B NC WC cA tA : Addr} {t1 t2 t3 : Tok}
def spCkN (NC : Addr) : Sp := fun vs H Q E => ∃ l f : Int, vs = [.int l, .int f] ∧ (okNums l f = true → Q .non H) ∧ (okNums l f = false → E (.ref NC) none H)
theorem ok_check_numbers {f : Addr} {fd : FuncData} (FF : Fun K "check_numbers" "check_numbers" s_check_numbers f fd) (T : Txt K mg C J B) (TE : TxtEW K mg NC) (TR : TxtL mg t1 t2 t3)
    (h_is_number : Has P w K mg base "is_number" 1 a_is_number spNum) : FnOk P w K mg base (L2.CX P w) 2 f fd a_check_numbers (spCkN NC) := by
  refine FF.okX sc_check_numbers (fun vs H Q E h => ?_) (fun cdv A outer s H vs Q E hr h => ?_)
  · obtain ⟨l, f, rfl, _⟩ := h
    rfl
  · obtain ⟨l, f, rfl, k1, k2⟩ := h
    refine ⟨_, (pss_cons (ps_if (pt_not (pt_val (pe_callH h_is_number (hr.mono (by omega)) (pa_cons (pv 0) (pa_cons pe_int (pa_cons (pe_glob rfl TR.m_MOST_LABELS (show RelV (.int 3) _ from ⟨_, rfl⟩)) pa_nil)))))) (pss_one (ps_raise rfl (takes_of rfl rfl rfl rfl) (pmk_own PySem.F.excBase_ValueError TE.xC TE.gC TE.kC (raises_own TE.bC TE.tC) (by exact rfl)))) pss_nil)
      (pss_one (ps_if (pt_not (pt_val (pe_callH h_is_number (hr.mono (by omega)) (pa_cons (pv 1) (pa_cons pe_int (pa_cons (pe_glob rfl TR.m_MOST_FACTS (show RelV (.int 6) _ from ⟨_, rfl⟩)) pa_nil)))))) (pss_one (ps_raise rfl (takes_of rfl rfl rfl rfl) (pmk_own PySem.F.excBase_ValueError TE.xC TE.gC TE.kC (raises_own TE.bC TE.tC) (by exact rfl)))) pss_nil))), ?_⟩
    unfold okNums at k1 k2
    refine ⟨.int l, rfl, l, 1, 3, rfl, _, rfl, ?_⟩
    cases c1 : decide (1 ≤ l) && decide (l ≤ 3) with
    | false =>
      rw [c1] at k2
      exact iteT (k2 rfl)
    | true =>
      rw [c1, Bool.true_and] at k1 k2
      refine iteF ⟨.int f, rfl, f, 0, 6, rfl, _, rfl, ?_⟩
      cases c2 : decide (0 ≤ f) && decide (f ≤ 6) with
      | false => exact iteT (k2 c2)
      | true => exact iteF (k1 c2)
/-- a world being made: its states -/
structure WoS (K : PySem.W.Frag) (WC : Addr) (H : Hp) (p dx : Addr) (l f : Int) (ta tb : Addr) (ras : List Addr) (Xs : List (List Int)) : Prop where
  ob : H p = some (.ins WC dx (wf l f ta tb))
  st : SqT K H ta (ras.map V.ref)
  rw : RAt K H ras Xs
theorem WoS.tb {K : PySem.W.Frag} {WC P : Addr} {H H' : Hp} {p dx : Addr} {l f : Int} {ta tb : Addr} {ras : List Addr} {Xs : List (List Int)} (g : TabG H P) (t : Tb P H H') (h : WoS K WC H p dx l f ta tb ras Xs) : WoS K WC H' p dx l f ta tb ras Xs :=
  ⟨t.1 _ _ (g.ne h.ob (by intro _ z; cases z)) h.ob, SqT.tb g t h.st, h.rw.tb g t⟩
def spCkS (K : PySem.W.Frag) (NC WC tA : Addr) : Sp := fun vs H Q E => ∃ (p dx : Addr) (l f : Int) (ta tb : Addr) (ras : List Addr) (Xs : List (List Int)), vs = [.ref p] ∧ WoS K WC H p dx l f ta tb ras Xs ∧ TabG H tA ∧ Xs.length ≤ 1000 ∧
  (okRows f Xs = true → ∀ H', Tb tA H H' → Q .non H') ∧ (okRows f Xs = false → ∀ H', E (.ref NC) none H')
theorem ok_check_states {f : Addr} {fd : FuncData} (FF : Fun K "check_states" "check_states" s_check_states f fd) (T : Txt K mg C J B) (TC : TxtC K WC) (TE : TxtEW K mg NC) (TR : TxtL mg t1 t2 t3)
    (h_is_number : Has P w K mg base "is_number" 1 a_is_number spNum) (h_ascends : Has P w K mg base "ascends" 4 a_ascends (spAsc K tA)) : FnOk P w K mg base (L2.CX P w) 5 f fd a_check_states (spCkS K NC WC tA) := by
  refine FF.okX sc_check_states (fun vs H Q E h => ?_) (fun cdv A outer s H vs Q E hr h => ?_)
  · obtain ⟨p, dx, l, f, ta, tb, ras, Xs, rfl, _⟩ := h
    rfl
  · obtain ⟨p, dx, l, f, ta, tb, ras, Xs, rfl, W, tg, hsz, k1, k2⟩ := h
    refine ⟨_, (pss_cons (ps_if (pt_not (pt_val (pe_callH h_is_number (hr.mono (by omega)) (pa_cons (pe_callB call_len_seq rfl T.z_len (by decide +kernel) (pa_cons (pe_fld (pv 0) rfl) pa_nil)) (pa_cons pe_int (pa_cons (pe_glob rfl TR.m_MOST_STATES (show RelV (.int 400) _ from ⟨_, rfl⟩)) pa_nil)))))) (pss_one (ps_raise rfl (takes_of rfl rfl rfl rfl) (pmk_own PySem.F.excBase_ValueError TE.xC TE.gC TE.kC (raises_own TE.bC TE.tC) (by exact rfl)))) pss_nil)
      (pss_one (ps_for (passes_of rfl) rfl (pi_tup (pe_fld (pv 0) rfl)) (pg_name (i := 1) sc_check_states.nd rfl (.inl rfl)) (pss_cons (ps_for (passes_of rfl) rfl (pi_tup (pv 1)) (pg_name (i := 2) sc_check_states.nd rfl (.inl rfl)) (pss_one (ps_if (pt_not (pt_val (pe_callH h_is_number (hr.mono (by omega)) (pa_cons (pv 2) (pa_cons pe_int (pa_cons (pe_op op_sub (pe_fld (pv 0) rfl) pe_int) pa_nil)))))) (pss_one (ps_raise rfl (takes_of rfl rfl rfl rfl) (pmk_own PySem.F.excBase_ValueError TE.xC TE.gC TE.kC (raises_own TE.bC TE.tC) (by exact rfl)))) pss_nil)))
      (pss_one (ps_if (pt_not (pt_val (pe_callH h_ascends (hr.mono (by omega)) (pa_cons (pv 1) pa_nil)))) (pss_one (ps_raise rfl (takes_of rfl rfl rfl rfl) (pmk_own PySem.F.excBase_ValueError TE.xC TE.gC TE.kC (raises_own TE.bC TE.tC) (by exact rfl)))) pss_nil)))))), ?_⟩
    unfold okRows at k1 k2
    have len : (ras.map V.ref).length = Xs.length := by rw [List.length_map, W.rw.1]
    refine ⟨.ref p, rfl, p, WC, dx, _, .ref ta, rfl, W.ob, TC.cl, TC.nS, rfl, ta, _, rfl, .inr W.st, ?_⟩
    rw [len]
    refine ⟨Xs.length, 1, 400, rfl, _, rfl, ?_⟩
    cases c1 : decide (1 ≤ (Xs.length : Int)) && decide ((Xs.length : Int) ≤ 400) with
    | false =>
      rw [c1] at k2
      exact iteT (k2 rfl _)
    | true =>
      rw [c1, Bool.true_and] at k1 k2
      refine iteF ?_
      refine ⟨.ref p, rfl, p, WC, dx, _, .ref ta, rfl, W.ob, TC.cl, TC.nS, rfl, ta, rfl, ⟨_, W.st⟩, ?_⟩
      refine for_tup (xs := ras.map V.ref) (fun i σ G => ∃ (y1 y2 : Option V), σ = [some (.ref p), y1, y2] ∧ Tb tA H G ∧ ∀ j X, j < i → Xs[j]? = some X → okRow f X = true)
        ⟨none, none, rfl, Tb.refl tg, fun j X hj => absurd hj (Nat.not_lt_zero _)⟩ (fun i σ G _ ⟨_, _, _, t, _⟩ => SqT.tb tg t W.st) ?_ ?_
      · rintro i x σ G hx ⟨y1, y2, rfl, tG, pre⟩
        have WG := W.tb tg tG
        obtain ⟨a, X, rfl, ha, hX, sqX⟩ := WG.rw.nth hx
        have bad : okRow f X = false → ∀ H', E (.ref NC) none H' := fun n => k2 (all_no hX n)
        unfold okRow at bad
        refine ⟨.ref a, rfl, a, rfl, ⟨_, sqX⟩, ?_⟩
        refine for_tup (xs := X.map V.int) (fun j σ G2 => ∃ y2 : Option V, σ = [some (.ref p), some (.ref a), y2] ∧ G2 = G ∧ ∀ m x, m < j → X[m]? = some x → (decide (0 ≤ x) && decide (x ≤ f - 1)) = true)
          ⟨_, rfl, rfl, fun m x hm => absurd hm (Nat.not_lt_zero _)⟩ (fun j σ G2 _ ⟨_, _, e, _⟩ => by rw [e]; exact sqX) ?_ ?_
        · rintro j y σ G2 hy ⟨y2, rfl, rfl, pre2⟩
          obtain ⟨n, hn, rfl⟩ : ∃ n, X[j]? = some n ∧ V.int n = y := by
            rw [List.getElem?_map] at hy
            cases e : X[j]? with
            | none => rw [e] at hy; cases hy
            | some n => rw [e] at hy; exact ⟨n, rfl, Option.some.inj hy⟩
          refine ⟨.int n, rfl, .ref p, rfl, p, WC, dx, _, .int f, rfl, WG.ob, TC.cl, TC.nF, rfl, f, 1, rfl, rfl, n, 0, f - 1, rfl, _, rfl, ?_⟩
          cases c2 : decide (0 ≤ n) && decide (n ≤ f - 1) with
          | false =>
            refine iteT (bad ?_ _)
            rw [all_no hn c2, Bool.false_and]
          | true =>
            refine iteF ⟨_, rfl, rfl, fun m x hm hx => ?_⟩
            by_cases e : m = j
            · subst e
              rw [hn] at hx
              cases hx
              exact c2
            · exact pre2 m x (by omega) hx
        · rintro σ G2 ⟨y2, rfl, rfl, pre2⟩
          rw [List.length_map] at pre2
          have all : X.all (fun x => decide (0 ≤ x) && decide (x ≤ f - 1)) = true := all_take fun m x hm => pre2 m x (List.getElem?_eq_some_iff.mp hm).1 hm
          refine ⟨.ref a, rfl, a, _, asc ltI X, rfl, sqX, tG.2, .i X, fun H' t' => ⟨_, rfl, ?_⟩⟩
          rw [all, Bool.true_and] at bad
          cases c3 : asc ltI X with
          | false => exact iteT (bad c3 _)
          | true =>
            refine iteF ⟨_, _, rfl, tG.trans t', fun j Y hj hY => ?_⟩
            by_cases e : j = i
            · subst e
              rw [hX] at hY
              cases hY
              unfold okRow
              rw [all, c3]
              rfl
            · exact pre j Y (by omega) hY
      · rintro σ G ⟨y1, y2, rfl, tG, pre⟩
        rw [len] at pre
        exact k1 (all_take fun j X hj => pre j X (List.getElem?_eq_some_iff.mp hj).1 hj) G tG
end
end Fw

set_option maxRecDepth 100000
set_option maxHeartbeats 4000000
namespace Fw
open PySem PySem.Spec PyProof.Rows L2 GxR
abbrev kSL (s l : Int) : List Key := [Sum.inl s, Sum.inl l]
/-- the dict of the steps' ends, as it grows -/
structure EndsK (H G : Hp) (kvs : List (List Key × V)) (ss : List T3) : Prop where
  one : ∀ k v, valV kvs k = some v → ∃ s l la, k = kSL s l ∧ v = .ref la ∧ H la = none ∧ IL G la (begS ss s l)
  no : ∀ s l, valV kvs (kSL s l) = none → begS ss s l = []
  inj : ∀ k k' la, valV kvs k = some (.ref la) → valV kvs k' = some (.ref la) → k = k'
def EndsAt (H0 H : Hp) (d : Addr) (ss : List T3) : Prop := ∃ kvs : List (List Key × V), H d = some (.dT kvs) ∧ ∀ s l, (∃ la, valV kvs (kSL s l) = some (.ref la) ∧ H0 la = none ∧ IL H la (begS ss s l)) ∨ (valV kvs (kSL s l) = none ∧ begS ss s l = [])
theorem kSL_inj {s l s' l' : Int} (h : kSL s l = kSL s' l') : s = s' ∧ l = l' := by
  injection h with h1 h2
  injection h2 with h2 _
  exact ⟨Sum.inl.inj h1, Sum.inl.inj h2⟩
theorem EndsK.at_ {H G : Hp} {d : Addr} {kvs : List (List Key × V)} {ss : List T3} (h : EndsK H G kvs ss) (e : G d = some (.dT kvs)) : EndsAt H G d ss := ⟨kvs, e, fun s l => by
  cases q : valV kvs (kSL s l) with
  | none => exact .inr ⟨rfl, h.no s l q⟩
  | some v =>
    obtain ⟨s', l', la, e1, e2, e3, il⟩ := h.one _ _ q
    obtain ⟨rfl, rfl⟩ := kSL_inj e1
    exact .inl ⟨la, by rw [e2], e3, il⟩⟩
theorem EndsAt.map {H0 H H' : Hp} {d : Addr} {ss : List T3} (hd : ∀ kvs, H d = some (.dT kvs) → H' d = some (.dT kvs)) (hl : ∀ a xs, H0 a = none → H a = some (.lst xs) → H' a = some (.lst xs)) (h : EndsAt H0 H d ss) : EndsAt H0 H' d ss := by
  obtain ⟨kvs, e, x⟩ := h
  refine ⟨kvs, hd _ e, fun s l => ?_⟩
  rcases x s l with ⟨la, e1, e0, e2⟩ | z
  · exact .inl ⟨la, e1, e0, hl _ _ e0 e2⟩
  · exact .inr z
theorem EndsAt.weak {H0 H0' H : Hp} {d : Addr} {ss : List T3} (dom : ∀ b, H0' b = none → H0 b = none) (h : EndsAt H0' H d ss) : EndsAt H0 H d ss := by
  obtain ⟨kvs, e, x⟩ := h
  refine ⟨kvs, e, fun s l => ?_⟩
  rcases x s l with ⟨la, e1, e0, e2⟩ | z
  · exact .inl ⟨la, e1, dom _ e0, e2⟩
  · exact .inr z
theorem EndsAt.tb {P : Addr} {H0 H H' : Hp} {d : Addr} {ss : List T3} (g : TabG H P) (t : Tb P H H') (h : EndsAt H0 H d ss) : EndsAt H0 H' d ss :=
  h.map (fun kvs e => t.1 _ _ (g.ne e (by intro _ z; cases z)) e) fun a xs _ e => t.1 _ _ (g.ne e (by intro _ z; cases z)) e
/-- a world that is made -/
structure WoE (K : PySem.W.Frag) (WC : Addr) (H0 H : Hp) (p dx : Addr) (l f : Int) (ta tb d : Addr) (ras as : List Addr) (Xs : List (List Int)) (ss : List T3) : Prop where
  ob : H p = some (.ins WC dx (wf l f ta tb ++ ([("_ends", V.ref d)] : List (Str × V))))
  st : SqT K H ta (ras.map V.ref)
  rw : RAt K H ras Xs
  sp : SqT K H tb (as.map V.ref)
  tr : PAt H as ss
  en : EndsAt H0 H d ss
section
variable {P : Program} {w : World} {K : PySem.W.Frag} {mg : Str → Option Value} {base : Heap} {C J B NC WC cA tA : Addr} {t1 t2 t3 : Tok}
def of3 (p : T3) : List Int := [p.1, p.2.1, p.2.2]
def LAt (H : Hp) (as : List Addr) (ts : List (List Int)) : Prop := as.length = ts.length ∧ ∀ (i : Nat) (a : Addr) (X : List Int), as[i]? = some a → ts[i]? = some X → H a = some (.tup (X.map V.int))
theorem LAt.nth {H : Hp} {as : List Addr} {ts : List (List Int)} (h : LAt H as ts) {i : Nat} {x : V} (e : (as.map V.ref)[i]? = some x) : ∃ a X, x = .ref a ∧ as[i]? = some a ∧ ts[i]? = some X ∧ H a = some (.tup (X.map V.int)) := by
  rw [List.getElem?_map] at e
  cases q : as[i]? with
  | none => rw [q] at e; cases e
  | some a =>
    rw [q] at e
    have il : i < ts.length := by rw [← h.1]; exact (List.getElem?_eq_some_iff.mp q).1
    exact ⟨a, ts[i], (Option.some.inj e).symm, rfl, List.getElem?_eq_getElem il, h.2 i a _ q (List.getElem?_eq_getElem il)⟩
theorem LAt.pat {H : Hp} {as : List Addr} {ss : List T3} (h : LAt H as (ss.map of3)) : PAt H as ss := ⟨by rw [h.1, List.length_map], fun i a p e1 e2 => h.2 i a (of3 p) e1 (by rw [List.getElem?_map, e2]; rfl)⟩
theorem LAt.same {H H' : Hp} {as : List Addr} {ts : List (List Int)} (s : Same H H') (h : LAt H as ts) : LAt H' as ts := ⟨h.1, fun i a X e1 e2 => s _ _ (h.2 i a X e1 e2)⟩
theorem LAt.tb {P : Addr} {H H' : Hp} {as : List Addr} {ts : List (List Int)} (g : TabG H P) (t : Tb P H H') (h : LAt H as ts) : LAt H' as ts :=
  ⟨h.1, fun i a p e1 e2 => t.1 _ _ (g.ne (h.2 i a p e1 e2) (by intro _ z; cases z)) (h.2 i a p e1 e2)⟩
theorem LAt.butO {H H' : Hp} {as : List Addr} {ts : List (List Int)} {d C dx : Addr} {fs : List (Str × V)} (hd : H d = some (.ins C dx fs)) (s : But d H H') (h : LAt H as ts) : LAt H' as ts :=
  ⟨h.1, fun i a p e1 e2 => s _ _ (ne_of (h.2 i a p e1 e2) hd (by intro z; cases z)) (h.2 i a p e1 e2)⟩
theorem of3_inj {p q : T3} (h : of3 p = of3 q) : p = q := by
  obtain ⟨a, b, c⟩ := p
  obtain ⟨a', b', c'⟩ := q
  injection h with h1 h
  injection h with h2 h
  injection h with h3 _
  simp only at h1 h2 h3
  rw [h1, h2, h3]
theorem three_of {X : List Int} (h : X.length = 3) : ∃ q : T3, X = of3 q := by
  match X, h with
  | [a, b, c], _ => exact ⟨(a, b, c), rfl⟩
/-- a world being made, its steps of any length -/
structure WoAL (K : PySem.W.Frag) (WC : Addr) (H : Hp) (p dx : Addr) (l f : Int) (ta tb : Addr) (ras as : List Addr) (Xs : List (List Int)) (ts : List (List Int)) : Prop where
  ob : H p = some (.ins WC dx (wf l f ta tb))
  st : SqT K H ta (ras.map V.ref)
  rw : RAt K H ras Xs
  sp : SqT K H tb (as.map V.ref)
  tr : LAt H as ts
theorem WoAL.tb {K : PySem.W.Frag} {WC P : Addr} {H H' : Hp} {p dx : Addr} {l f : Int} {ta tb : Addr} {ras as : List Addr} {Xs : List (List Int)} {ts : List (List Int)} (g : TabG H P) (t : Tb P H H') (h : WoAL K WC H p dx l f ta tb ras as Xs ts) : WoAL K WC H' p dx l f ta tb ras as Xs ts :=
  ⟨t.1 _ _ (g.ne h.ob (by intro _ z; cases z)) h.ob, SqT.tb g t h.st, h.rw.tb g t, SqT.tb g t h.sp, h.tr.tb g t⟩
def spCkT (K : PySem.W.Frag) (NC WC tA : Addr) : Sp := fun vs H Q E => ∃ (p dx : Addr) (l f : Int) (ta tb : Addr) (ras as : List Addr) (Xs : List (List Int)) (ts : List (List Int)), vs = [.ref p] ∧ WoAL K WC H p dx l f ta tb ras as Xs ts ∧ TabG H tA ∧
  (∀ ss : List T3, ts = ss.map of3 → okSteps l Xs.length ss = true → ∀ H', Tb tA H H' → Q .non H') ∧ ((∀ ss : List T3, ts = ss.map of3 → okSteps l Xs.length ss = false) → ∀ H', E (.ref NC) none H')
theorem ok_check_steps {f : Addr} {fd : FuncData} (FF : Fun K "check_steps" "check_steps" s_check_steps f fd) (T : Txt K mg C J B) (TC : TxtC K WC) (TE : TxtEW K mg NC)
    (h_is_number : Has P w K mg base "is_number" 1 a_is_number spNum) (h_ascends : Has P w K mg base "ascends" 4 a_ascends (spAsc K tA)) : FnOk P w K mg base (L2.CX P w) 5 f fd a_check_steps (spCkT K NC WC tA) := by
  refine FF.okX sc_check_steps (fun vs H Q E h => ?_) (fun cdv A outer s H vs Q E hr h => ?_)
  · obtain ⟨p, dx, l, f, ta, tb, ras, as, Xs, ss, rfl, _⟩ := h
    rfl
  · obtain ⟨p, dx, l, f, ta, tb, ras, as, Xs, ts, rfl, W, tg, k1, k2⟩ := h
    refine ⟨_, (pss_cons (ps_set (i := 1) sc_check_steps.nd rfl (.inl rfl) (pe_op op_sub (pe_callB call_len_seq rfl T.z_len (by decide +kernel) (pa_cons (pe_fld (pv 0) rfl) pa_nil)) pe_int))
      (pss_cons (ps_for (passes_of rfl) rfl (pi_tup (pe_fld (pv 0) rfl)) (pg_name (i := 2) sc_check_steps.nd rfl (.inl rfl)) (pss_cons (ps_if (PW.pt (pw_or (pt_cmpR op_ne (pe_callB call_len_seq rfl T.z_len (by decide +kernel) (pa_cons (pv 2) pa_nil)) pe_int (nomark _)) (pw_or1 (pt_not (pt_val (pe_callH h_is_number (hr.mono (by omega)) (pa_cons (pe_ix ix_tup (pv 2) pe_int (fun _ _ => rfl)) (pa_cons pe_int (pa_cons (pe_op op_sub (pe_fld (pv 0) rfl) pe_int) pa_nil))))))))) (pss_one (ps_raise rfl (takes_of rfl rfl rfl rfl) (pmk_own PySem.F.excBase_ValueError TE.xC TE.gC TE.kC (raises_own TE.bC TE.tC) (by exact rfl)))) pss_nil)
      (pss_one (ps_if (PW.pt (pw_or (pt_not (pt_val (pe_callH h_is_number (hr.mono (by omega)) (pa_cons (pe_ix ix_tup (pv 2) pe_int (fun _ _ => rfl)) (pa_cons pe_int (pa_cons (pv 1) pa_nil)))))) (pw_or1 (pt_not (pt_val (pe_callH h_is_number (hr.mono (by omega)) (pa_cons (pe_ix ix_tup (pv 2) pe_int (fun _ _ => rfl)) (pa_cons pe_int (pa_cons (pv 1) pa_nil))))))))) (pss_one (ps_raise rfl (takes_of rfl rfl rfl rfl) (pmk_own PySem.F.excBase_ValueError TE.xC TE.gC TE.kC (raises_own TE.bC TE.tC) (by exact rfl)))) pss_nil))))
      (pss_one (ps_if (pt_not (pt_val (pe_callH h_ascends (hr.mono (by omega)) (pa_cons (pe_fld (pv 0) rfl) pa_nil)))) (pss_one (ps_raise rfl (takes_of rfl rfl rfl rfl) (pmk_own PySem.F.excBase_ValueError TE.xC TE.gC TE.kC (raises_own TE.bC TE.tC) (by exact rfl)))) pss_nil)))), ?_⟩
    have len : (ras.map V.ref).length = Xs.length := by rw [List.length_map, W.rw.1]
    have lens : (as.map V.ref).length = ts.length := by rw [List.length_map, W.tr.1]
    refine ⟨.ref p, rfl, p, WC, dx, _, .ref ta, rfl, W.ob, TC.cl, TC.nS, rfl, ta, _, rfl, .inr W.st, ?_⟩
    rw [len]
    refine ⟨Xs.length, 1, rfl, rfl, ?_⟩
    refine ⟨.ref p, rfl, p, WC, dx, _, .ref tb, rfl, W.ob, TC.cl, TC.nT, rfl, tb, rfl, ⟨_, W.sp⟩, ?_⟩
    refine for_tup (xs := as.map V.ref) (fun i σ G => ∃ (y2 : Option V), σ = [some (.ref p), some (.int ((Xs.length : Int) - 1)), y2] ∧ G = H ∧ ∀ (j : Nat) X, j < i → ts[j]? = some X → ∃ q, X = of3 q ∧ okStep l Xs.length q = true)
      ⟨none, rfl, rfl, fun j X hj => absurd hj (Nat.not_lt_zero _)⟩ (fun i σ G _ ⟨_, _, e, _⟩ => by rw [e]; exact W.sp) ?_ ?_
    · rintro i x σ G hx ⟨y2, rfl, rfl, pre⟩
      obtain ⟨a, X, rfl, ha, hX, atX⟩ := W.tr.nth hx
      have sqX := SqT.of (K := K) atX
      refine ⟨.ref a, rfl, a, _, rfl, .inr sqX, rfl, _, rfl, ?_⟩
      rw [List.length_map]
      by_cases c0 : X.length = 3
      rotate_left
      · refine (if_pos (by rw [decide_eq_false (fun e : V.int (X.length : Int) = V.int 3 => c0 (by have := V.int.inj e; omega))]; rfl)).mpr (k2 (fun ss e => ?_) _)
        rw [e, List.getElem?_map] at hX
        cases z : ss[i]? with
        | none => rw [z] at hX; cases hX
        | some q => rw [z] at hX; cases hX; exact absurd rfl c0
      obtain ⟨q, rfl⟩ := three_of c0
      have at_ : _ = some (HO.tup [V.int q.1, V.int q.2.1, V.int q.2.2]) := atX
      have bad : okStep l Xs.length q = false → ∀ H', E (.ref NC) none H' := fun n => k2 fun ss e => by
        have hq : ss[i]? = some q := by
          rw [e, List.getElem?_map] at hX
          cases z : ss[i]? with
          | none => rw [z] at hX; cases hX
          | some q' =>
            rw [z] at hX
            rw [of3_inj (Option.some.inj hX)]
        unfold okSteps
        rw [all_no hq n, Bool.false_and]
      unfold okStep at bad
      have sq := SqT.of (K := K) at_
      have i0 : atI [V.int q.1, V.int q.2.1, V.int q.2.2] 0 = some (.int q.1) := rfl
      have i1 : atI [V.int q.1, V.int q.2.1, V.int q.2.2] 1 = some (.int q.2.1) := rfl
      have i2 : atI [V.int q.1, V.int q.2.1, V.int q.2.2] 2 = some (.int q.2.2) := rfl
      have l3 : V.int ((of3 q).length : Int) = V.int 3 := rfl
      refine (if_neg (by rw [decide_eq_true l3]; exact Bool.false_ne_true)).mpr ?_
      refine ⟨.ref a, rfl, a, _, 1, _, rfl, rfl, sq, i1, .ref p, rfl, p, WC, dx, _, .int l, rfl, W.ob, TC.cl, TC.nL, rfl, l, 1, rfl, rfl, q.2.1, 0, l - 1, rfl, _, rfl, ?_⟩
      cases c1 : decide (0 ≤ q.2.1) && decide (q.2.1 ≤ l - 1) with
      | false =>
        rw [c1] at bad
        exact iteT (bad rfl _)
      | true =>
        rw [c1, Bool.true_and] at bad
        refine iteF ?_
        refine ⟨.ref a, rfl, a, _, 0, _, rfl, rfl, sq, i0, .int ((Xs.length : Int) - 1), rfl, q.1, 0, (Xs.length : Int) - 1, rfl, _, rfl, ?_⟩
        cases c2 : decide (0 ≤ q.1) && decide (q.1 ≤ (Xs.length : Int) - 1) with
        | false =>
          rw [c2] at bad
          exact iteT (bad rfl _)
        | true =>
          rw [c2, Bool.true_and] at bad
          refine iteF ?_
          refine ⟨.ref a, rfl, a, _, 2, _, rfl, rfl, sq, i2, .int ((Xs.length : Int) - 1), rfl, q.2.2, 0, (Xs.length : Int) - 1, rfl, _, rfl, ?_⟩
          cases c3 : decide (0 ≤ q.2.2) && decide (q.2.2 ≤ (Xs.length : Int) - 1) with
          | false => exact iteT (bad c3 _)
          | true =>
            refine iteF ⟨_, rfl, rfl, fun j r hj hr' => ?_⟩
            by_cases e : j = i
            · subst e
              rw [hX] at hr'
              cases hr'
              refine ⟨q, rfl, ?_⟩
              unfold okStep
              rw [c1, c2, c3]
              rfl
            · exact pre j r (by omega) hr'
    · rintro σ G ⟨y2, rfl, rfl, pre⟩
      rw [lens] at pre
      obtain ⟨ss, rfl, okA⟩ : ∃ ss : List T3, ts = ss.map of3 ∧ ∀ q ∈ ss, okStep l Xs.length q = true := by
        have pre' : ∀ X ∈ ts, ∃ q, X = of3 q ∧ okStep l Xs.length q = true := fun X hX => by
          obtain ⟨j, hj, ej⟩ := List.getElem_of_mem hX
          exact pre j X hj (by rw [List.getElem?_eq_getElem hj, ej])
        clear pre lens k1 k2 W
        induction ts with
        | nil => exact ⟨[], rfl, fun q h => by cases h⟩
        | cons X ts ih =>
          obtain ⟨q, e, ok⟩ := pre' X List.mem_cons_self
          obtain ⟨ss, e2, ok2⟩ := ih fun Y hY => pre' Y (List.mem_cons_of_mem _ hY)
          exact ⟨q :: ss, by rw [e, e2]; rfl, fun r hr => (List.mem_cons.mp hr).elim (fun z => by rw [z]; exact ok) (ok2 r)⟩
      have all : ss.all (okStep l Xs.length) = true := List.all_eq_true.mpr okA
      have one : ∀ ss' : List T3, ss.map of3 = ss'.map of3 → ss' = ss := fun ss' e => by
        clear okA all k1 k2 W pre lens
        induction ss generalizing ss' with
        | nil => cases ss' with
          | nil => rfl
          | cons _ _ => cases e
        | cons q ss ih => cases ss' with
          | nil => cases e
          | cons q' ss' =>
            injection e with e1 e2
            rw [of3_inj e1, ih ss' e2]
      refine ⟨.ref p, rfl, p, WC, dx, _, .ref tb, rfl, W.ob, TC.cl, TC.nT, rfl, tb, _, asc lex3 ss, rfl, W.sp, tg, .t W.tr.pat, fun H' t' => ⟨_, rfl, ?_⟩⟩
      cases c : asc lex3 ss with
      | false => exact iteT (k2 (fun ss' e => by rw [one ss' e]; unfold okSteps; rw [c, Bool.and_false]) _)
      | true => exact iteF (k1 ss rfl (by unfold okSteps; rw [all, c]; rfl) _ t')
def spEnds (K : PySem.W.Frag) : Sp := fun vs H Q _ => ∃ (tb : Addr) (as : List Addr) (ss : List T3), vs = [.ref tb] ∧ SqT K H tb (as.map V.ref) ∧ PAt H as ss ∧ ss.length ≤ 1000 ∧ ∀ d H', Same H H' → EndsAt H H' d ss → Q (.ref d) H'
theorem ok_ends_of {f : Addr} {fd : FuncData} (FF : Fun K "ends_of" "ends_of" s_ends_of f fd) (T : Txt K mg C J B) : FnOk P w K mg base CX0 1 f fd a_ends_of (spEnds K) := by
  refine FF.ok sc_ends_of (fun vs H Q E h => ?_) (fun cdv A outer s H vs Q E hr h => ?_)
  · obtain ⟨tb, as, ss, rfl, _⟩ := h
    rfl
  · obtain ⟨tb, as, ss, rfl, sq, tr, hsz, k⟩ := h
    have hu := hu_of hr
    refine ⟨_, (pss_cons (ps_set (i := 1) sc_ends_of.nd rfl (.inl rfl) pe_dnewT)
      (pss_cons (ps_for PassesOwn.never rfl (pi_tup (pv 0)) (pg_tup rfl (pgs_cons (pg_name (i := 2) sc_ends_of.nd rfl (.inl rfl)) (pgs_cons (pg_name (i := 3) sc_ends_of.nd rfl (.inl rfl)) (pgs_cons (pg_name (i := 4) sc_ends_of.nd rfl (.inl rfl)) pgs_nil)))) (pss_one (ps_expr (pe_bm PySem.F.plainAttrs_list PySem.F.slot_list_append PySem.F.type_list_append mt_append (pe_dsetdT hu (pv 1) (pe_tup (pa_cons (pv 2) (pa_cons (pv 3) pa_nil))) (pe_lst pa_nil) ⟨rfl, rfl, rfl, rfl⟩) (pa_cons (pv 4) pa_nil)))))
      (pss_one (ps_ret (pv 1))))), ?_⟩
    have lens : (as.map V.ref).length = ss.length := by rw [List.length_map, tr.1]
    intro d hd
    have s0 := Same.new (o := .dT []) hd
    refine ⟨.ref tb, rfl, tb, rfl, ⟨_, SqT.same s0 sq⟩, ?_⟩
    refine for_tup (xs := as.map V.ref) (fun i σ G => ∃ (y2 y3 y4 : Option V) (kvs : List (List Key × V)), σ = [some (.ref tb), some (.ref d), y2, y3, y4] ∧ Same H G ∧ G d = some (.dT kvs) ∧ kvs.length ≤ i ∧ (ss.take i).length ≤ i ∧ EndsK H G kvs (ss.take i))
      ⟨none, none, none, [], rfl, s0, upd_same, Nat.le_refl _, by simp, ⟨fun k v e => (by cases e), fun s l _ => rfl, fun k k' la e => (by cases e)⟩⟩ (fun i σ G _ ⟨_, _, _, _, _, sG, _⟩ => SqT.same sG sq) ?_ ?_
    · rintro i x σ G hx ⟨y2, y3, y4, kvs, rfl, sG, gD, lk, lt, EK⟩
      have il : i < ss.length := by
        have := (List.getElem?_eq_some_iff.mp hx).1
        rw [lens] at this
        exact this
      obtain ⟨a, q, rfl, ha, hq, at0⟩ := tr.nth hx
      have at_ := sG _ _ at0
      have nx : ss.take (i + 1) = ss.take i ++ [q] := by rw [List.take_add_one, hq]; rfl
      refine ⟨a, _, rfl, SqT.of at_, rfl, .int q.1, _, rfl, .int q.2.1, _, rfl, .int q.2.2, _, rfl, rfl, ?_⟩
      refine ⟨.ref d, rfl, d, rfl, .inr ⟨kvs, .inl gD⟩, .int q.1, rfl, .int q.2.1, rfl, by show 2 ≤ sizeLine; decide, fun kt hkt => ⟨Nat.zero_le _, fun ql hql => ?_⟩⟩
      have s1 := Same.new (o := .tup [.int q.1, .int q.2.1]) hkt
      have s2 := Same.new (o := .lst []) hql
      have kt2 := s2 _ _ (upd_same (H := G) (a := kt) (o := .tup [.int q.1, .int q.2.1]))
      have gD2 := s2 _ _ (s1 _ _ gD)
      have gq2 : (upd (upd G kt (.tup [.int q.1, .int q.2.1])) ql (.lst [])) ql = some (.lst []) := upd_same
      have s12 := s1.trans s2
      have qn : H ql = none := sG.free (s1.free hql)
      have qd : ql ≠ d := fun e => by rw [e] at hql; rw [s1 _ _ gD] at hql; cases hql
      have sG2 := sG.trans s12
      have EK2 : EndsK H (upd (upd G kt (.tup [.int q.1, .int q.2.1])) ql (.lst [])) kvs (ss.take i) := ⟨fun k v e => by
        obtain ⟨s', l', la, e1, e2, e3, e4⟩ := EK.one k v e
        exact ⟨s', l', la, e1, e2, e3, s12 _ _ e4⟩, EK.no, EK.inj⟩
      have old : ∀ k la, valV kvs k = some (.ref la) → la ≠ ql := fun k la e z => by
        obtain ⟨s', l', la', e1, e2, e3, e4⟩ := EK.one k _ e
        cases e2
        rw [z] at e4
        rw [s1 _ _ e4] at hql
        cases hql
      generalize upd (upd G kt (.tup [.int q.1, .int q.2.1])) ql (.lst []) = G2 at s12 kt2 gD2 gq2 sG2 EK2
      have dl : ∀ k la, valV kvs k = some (.ref la) → la ≠ d := fun k la e z => by
        obtain ⟨s', l', la', e1, e2, e3, e4⟩ := EK2.one k _ e
        cases e2
        rw [z] at e4
        have e5 := gD2.symm.trans e4
        cases e5
      refine ⟨kvs, kSL q.1 q.2.1, kt, gD2, rfl, kt2, small1000 (by omega), fun v hv => ?_, fun hn => ?_⟩
      · obtain ⟨s', l', la, e1, rfl, e3, e4⟩ := EK2.one _ _ hv
        obtain ⟨rfl, rfl⟩ := kSL_inj e1
        have bl : (begS (ss.take i) q.1 q.2.1).length ≤ 1000 := by
          unfold begS
          rw [List.length_map]
          have := List.length_filter_le (fun p : T3 => decide (p.1 = q.1) && decide (p.2.1 = q.2.1)) (ss.take i)
          omega
        refine ⟨.inl ⟨rfl, _, SqL.of e4⟩, .int q.2.2, rfl, la, _, _, rfl, rfl, e4, by rw [List.length_map]; exact small1000 (by have := bl; unfold begS at *; rw [List.length_map] at *; have := List.length_filter_le (fun p : T3 => decide (p.1 = q.1) && decide (p.2.1 = q.2.1)) (ss.take i); omega), ?_⟩
        refine ⟨_, _, _, kvs, rfl, fun b o e => by rw [upd_ne (ne_of_none e e3)]; exact sG2 _ _ e, by rw [upd_ne (dl _ _ hv).symm]; exact gD2, by omega, by rw [List.length_take]; omega, ?_⟩
        rw [nx]
        refine ⟨fun k v e => ?_, fun s2 l2 e => ?_, EK2.inj⟩
        · obtain ⟨s2, l2, la2, f1, f2, f3, f4⟩ := EK2.one k v e
          refine ⟨s2, l2, la2, f1, f2, f3, ?_⟩
          rw [begS_snoc]
          by_cases c : la2 = la
          · subst c
            rw [f2] at e
            have kk := EK2.inj _ _ _ e hv
            rw [f1] at kk
            obtain ⟨rfl, rfl⟩ := kSL_inj kk
            show _ = _
            rw [upd_same, decide_eq_true rfl, decide_eq_true rfl, List.map_append]
            rfl
          · show _ = _
            have nk : ¬ (q.1 = s2 ∧ q.2.1 = l2) := fun z => by
              obtain ⟨z1, z2⟩ := z
              rw [f1, ← z1, ← z2] at e
              rw [hv] at e
              rw [f2] at e
              exact c (V.ref.inj (Option.some.inj e)).symm
            rw [upd_ne c, if_neg (by rw [Bool.and_eq_true, decide_eq_true_eq, decide_eq_true_eq]; exact nk), List.append_nil]
            exact f4
        · rw [begS_snoc, EK2.no s2 l2 e]
          have nk : ¬ (q.1 = s2 ∧ q.2.1 = l2) := fun z => by
            obtain ⟨z1, z2⟩ := z
            rw [← z1, ← z2, hv] at e
            cases e
          rw [if_neg (by rw [Bool.and_eq_true, decide_eq_true_eq, decide_eq_true_eq]; exact nk)]
          rfl
      · have e0 := EK2.no _ _ hn
        have gq3 : (upd G2 d (.dT (putK kvs (kSL q.1 q.2.1) (.ref ql)))) ql = some (.lst []) := by rw [upd_ne qd]; exact gq2
        refine ⟨.inl ⟨rfl, _, SqL.of gq3⟩, .int q.2.2, rfl, ql, _, _, rfl, rfl, gq3, by show 0 < sizeLine; decide, ?_⟩
        refine ⟨_, _, _, putK kvs (kSL q.1 q.2.1) (.ref ql), rfl, fun b o e => by rw [upd_ne (ne_of_none e qn), upd_ne (ne_of_none e hd)]; exact sG2 _ _ e, by rw [upd_ne qd.symm, upd_same], by have := length_putK kvs (kSL q.1 q.2.1) (.ref ql); omega, by rw [List.length_take]; omega, ?_⟩
        rw [nx]
        refine ⟨fun k v e => ?_, fun s2 l2 e => ?_, fun k k' la e e' => ?_⟩
        · rw [valV_put] at e
          by_cases c : k = kSL q.1 q.2.1
          · rw [if_pos c] at e
            cases e
            refine ⟨q.1, q.2.1, ql, c, rfl, qn, ?_⟩
            show _ = _
            rw [upd_same, begS_snoc, e0, decide_eq_true rfl, decide_eq_true rfl]
            rfl
          · rw [if_neg c] at e
            obtain ⟨s2, l2, la2, f1, f2, f3, f4⟩ := EK2.one k v e
            refine ⟨s2, l2, la2, f1, f2, f3, ?_⟩
            rw [f2] at e
            have nk : ¬ (q.1 = s2 ∧ q.2.1 = l2) := fun z => by
              obtain ⟨z1, z2⟩ := z
              rw [f1, ← z1, ← z2] at c
              exact c rfl
            show _ = _
            rw [upd_ne (old _ _ e), upd_ne (dl _ _ e), begS_snoc, if_neg (by rw [Bool.and_eq_true, decide_eq_true_eq, decide_eq_true_eq]; exact nk), List.append_nil]
            exact f4
        · rw [valV_put] at e
          by_cases c : kSL s2 l2 = kSL q.1 q.2.1
          · rw [if_pos c] at e
            cases e
          · rw [if_neg c] at e
            rw [begS_snoc, EK2.no s2 l2 e]
            have nk : ¬ (q.1 = s2 ∧ q.2.1 = l2) := fun z => by
              obtain ⟨z1, z2⟩ := z
              rw [← z1, ← z2] at c
              exact c rfl
            rw [if_neg (by rw [Bool.and_eq_true, decide_eq_true_eq, decide_eq_true_eq]; exact nk)]
            rfl
        · rw [valV_put] at e e'
          by_cases c : k = kSL q.1 q.2.1
          · by_cases c' : k' = kSL q.1 q.2.1
            · rw [c, c']
            · rw [if_pos c] at e
              rw [if_neg c'] at e'
              cases e
              exact absurd rfl (old _ _ e')
          · by_cases c' : k' = kSL q.1 q.2.1
            · rw [if_neg c] at e
              rw [if_pos c'] at e'
              cases e'
              exact absurd rfl (old _ _ e)
            · rw [if_neg c] at e
              rw [if_neg c'] at e'
              exact EK2.inj _ _ _ e e'
    · rintro σ G ⟨y2, y3, y4, kvs, rfl, sG, gD, lk, lt, EK⟩
      rw [lens, List.take_length] at EK
      exact ⟨_, rfl, k d G sG (EK.at_ gD)⟩
end
end Fw

set_option maxRecDepth 100000
set_option maxHeartbeats 4000000
/-! Sorting of tuples of whole numbers, of any lengths. -/
namespace Fw
open PySem PySem.Spec PyProof.Rows L2
theorem lexL_asym : ∀ a b : List Int, HT.lexLt a b = true → HT.lexLt b a = false
  | [], [], h => by cases h
  | [], _ :: _, _ => rfl
  | _ :: _, [], h => by cases h
  | x :: a, y :: b, h => by
    rw [HT.lexLt_cons] at h ⊢
    by_cases e : x = y
    · rw [if_pos e] at h
      rw [if_pos e.symm]
      exact lexL_asym a b h
    · rw [if_neg e, decide_eq_true_eq] at h
      rw [if_neg (fun z => e z.symm), decide_eq_false_iff_not]
      omega
theorem lexL_tr : ∀ a b c : List Int, HT.lexLt b a = false → HT.lexLt c b = false → HT.lexLt c a = false
  | [], b, [], _, _ => rfl
  | _ :: _, [], c, h1, _ => by cases h1
  | _ :: _, _ :: _, [], _, h2 => by cases h2
  | [], b, _ :: _, _, _ => by rfl
  | x :: a, y :: b, z :: c, h1, h2 => by
    rw [HT.lexLt_cons] at h1 h2 ⊢
    by_cases e1 : y = x
    · subst e1
      rw [if_pos rfl] at h1
      by_cases e2 : z = y
      · rw [if_pos e2] at h2 ⊢
        exact lexL_tr a b c h1 h2
      · rw [if_neg e2] at h2 ⊢
        exact h2
    · rw [if_neg e1, decide_eq_false_iff_not] at h1
      by_cases e2 : z = y
      · subst e2
        rw [if_neg e1, decide_eq_false_iff_not]
        exact h1
      · rw [if_neg e2, decide_eq_false_iff_not] at h2
        rw [if_neg (by omega), decide_eq_false_iff_not]
        omega
theorem swoL {α : Type} (k : α → List Int) : SrtO.Swo fun v u => HT.lexLt (k v) (k u) := ⟨fun x y h => lexL_asym _ _ h, fun x y z h1 h2 => lexL_tr _ _ _ h1 h2⟩
def IsInts (h : Heap) (v : Value) (xs : List Int) : Prop := ∃ a o its n, v = .ref a ∧ h.get? a = some o ∧ o.cls = .type "tuple" ∧ o.data = .seq its n ∧ IntsAre its.toList xs
theorem IsInts.keeps {h h' : Heap} {v : Value} {xs : List Int} (p : IsInts h v xs) (k : ∀ b o, h.get? b = some o → o.cls = .type "tuple" → h'.get? b = some o) : IsInts h' v xs := by
  obtain ⟨a, o, its, n, e, ho, hc, hd, i⟩ := p
  exact ⟨a, o, its, n, e, k a o ho hc, hc, hd, i⟩
section
variable {prog : Program} {w : World} {A : Around} {E : Value → Shared → Prop} {s : Shared}
theorem kat_ints {b fin : Bool} {Q : Bool → Shared → Prop} : ∀ (ps qs : List Value) (i : Nat) (as bs : List Int), IntsAre ps as → IntsAre qs bs → fin = decide (ps.length < qs.length) → Q (HT.lexLt as bs) s → PySem.W.KatLex prog w A b fin Q (ps.zip qs) i s
  | [], [], i, as, bs, ha, hb, hf, h => by
    cases ha; cases hb
    have e : fin = false := by rw [hf]; rfl
    subst e
    exact PySem.W.kat_nil h
  | [], q :: qs, i, as, bs, ha, hb, hf, h => by
    cases ha; cases hb
    have e : fin = true := by rw [hf]; exact decide_eq_true (Nat.succ_pos _)
    subst e
    exact PySem.W.kat_nil h
  | p :: ps, [], i, as, bs, ha, hb, hf, h => by
    cases ha; cases hb
    have e : fin = false := by rw [hf]; exact decide_eq_false (Nat.not_lt_zero _)
    subst e
    exact PySem.W.kat_nil h
  | p :: ps, q :: qs, i, as, bs, ha, hb, hf, h => by
    have hf' : fin = decide (ps.length < qs.length) := by
      rw [hf]; simp only [List.length_cons, Nat.add_lt_add_iff_right]
    cases ha with
    | cons n t ha' =>
    cases hb with
    | cons m u hb' =>
    rw [HT.lexLt_cons] at h
    refine PySem.W.kat_cons (SeqAt.EqAt.int_int n t m u prog w _ _ ?_)
    refine PySem.W.kat_go (fun e => PySem.W.kat_yes ?_) (fun e => PySem.W.kat_no ?_)
    · have hnm : n = m := by simpa using e
      rw [if_pos hnm] at h
      exact kat_ints ps qs (i + 1) _ _ ha' hb' hf' h
    · have hnm : ¬ n = m := by simpa using e
      rw [if_neg hnm] at h
      exact PyProof.Rows.oneLt_any_int h
theorem tupLt_t {b : Bool} {v u : Value} {xs ys : List Int} {Q : Bool → Shared → Prop} (hv : IsInts s.heap v xs) (hw : IsInts s.heap u ys) (h : Q (HT.lexLt xs ys) s) : wpAny (model prog w) A (keyLt' (PyProof.Rows.tuples' b) v u) Q E s := by
  obtain ⟨a, o, its, n, rfl, ho, hc, hd, i⟩ := hv
  obtain ⟨a', o', its', n', rfl, ho', hc', hd', i'⟩ := hw
  exact PySem.W.kat_lt ho hd ho' hd' (kat_ints _ _ 0 _ _ i i' (by rw [Array.length_toList, Array.length_toList]) h)
theorem tupLt_g {v u : Value} {xs ys : List Int} {Q : Bool → Shared → Prop} (hu : A.units < cLine) (hv : IsInts s.heap v xs) (hw : IsInts s.heap u ys) (h : Q (HT.lexLt xs ys) s) : wpAny (model prog w) A (oneLt' false v u) Q E s := by
  obtain ⟨a, o, its, n, rfl, ho, hc, hd, i⟩ := hv
  obtain ⟨a', o', its', n', rfl, ho', hc', hd', i'⟩ := hw
  exact PySem.W.kat_one _ _ (HT.lt_tupInts ⟨o, ho, hc, n, hd⟩ ⟨o', ho', hc', n', hd'⟩ i i' hu h)
theorem tupLt_o {v u : Value} {xs ys : List Int} {Q : Bool → Shared → Prop} (hu : A.units < cLine) (hv : IsInts s.heap v xs) (hw : IsInts s.heap u ys) (h : Q (HT.lexLt xs ys) s) : wpAny (model prog w) A (oneLt' true v u) Q E s := by
  obtain ⟨a, o, its, n, rfl, ho, hc, hd, i⟩ := hv
  obtain ⟨a', o', its', n', rfl, ho', hc', hd', i'⟩ := hw
  obtain ⟨cls, dd, data, sl⟩ := o
  obtain ⟨cls2, dd2, data2, sl2⟩ := o'
  simp only at hc hd hc' hd'
  subst hc hd hc' hd'
  rw [oneLt'_eq]
  simp only [if_true]
  refine wpAny_bind (wpAny_cRoomFor hu ?_)
  refine wpAny_bind (wpAny_callSpecialIfBound?_slot (T := "tuple") ⟨_, ho, rfl⟩ PySem.F.slot_tuple_lt (call_meets PySem.F.slot_tuple_lt ⟨_, ho, rfl⟩ PySem.F.entry_tuple_lt (PySem.F.args_tuple_lt_2 _ _) (HT.tuple_lt_ints a a' its its' n n' dd dd2 sl sl2 xs ys i i') ⟨ho, ho', ?_⟩))
  exact wpAny_truthy_bool h
/-! ### the kind of the keys -/
def FstOf (h : Heap) : List Value → List (Option Value) → Prop
  | [], [] => True
  | v :: vs, f :: fs => (∃ a o xs n, v = .ref a ∧ h.get? a = some o ∧ o.cls = .type "tuple" ∧ o.data = .seq xs n ∧ xs[0]? = f) ∧ FstOf h vs fs
  | _, _ => False
theorem firstsO {M : Model} : ∀ (vs : List Value) (fs : List (Option Value)) {Q : List (Option Value) → Shared → Prop}, FstOf s.heap vs fs → Q fs s → wpAny M A (vs.mapM firstOfTuple') Q E s
  | [], [], _, _, h => by rw [List.mapM_nil]; exact wpAny_pure h
  | [], _ :: _, _, t, _ => t.elim
  | _ :: _, [], _, t, _ => t.elim
  | v :: vs, f :: fs, Q, t, h => by
    obtain ⟨⟨a, o, xs, n, rfl, ho, hc, hd, hf⟩, t⟩ := t
    rw [List.mapM_cons]
    refine wpAny_bind ?_
    rw [PySem.W.kas_first_eq]
    refine wpAny_bind (PySem.W.Looks.here (show PySem.W.Looks M s.heap (typeOf (.ref a)) o.cls from (PySem.W.Looks.ld ho).andThen .now) ?_)
    rw [hc, if_neg (by first | decide | simp)]
    refine wpAny_bind (listItems_at ho hd (wpAny_pure ?_))
    rw [hf]
    exact wpAny_bind (firstsO vs fs (Q := fun bs s' => wpAny M A (pure (f :: bs)) Q E s') t (wpAny_pure h))
theorem fst_of {h : Heap} {k : Value → List Int} : ∀ {vs : List Value}, (∀ v ∈ vs, IsInts h v (k v)) → ∃ fs, FstOf h vs fs ∧ fs.length = vs.length ∧ ∀ f ∈ fs, f = none ∨ ∃ x t, f = some (Value.int x t)
  | [], _ => ⟨[], trivial, rfl, fun _ hm => by cases hm⟩
  | v :: vs, hp => by
    obtain ⟨fs, h1, h2, h3⟩ := fst_of (vs := vs) fun v' hm => hp v' (List.mem_cons_of_mem _ hm)
    obtain ⟨a, o, its, n, e, ho, hc, hd, i⟩ := hp v (List.mem_cons_self ..)
    refine ⟨its[0]? :: fs, ⟨⟨a, o, its, n, e, ho, hc, hd, rfl⟩, h1⟩, by rw [List.length_cons, List.length_cons, h2], fun f hm => ?_⟩
    rcases List.mem_cons.mp hm with rfl | hm
    · rw [← Array.getElem?_toList]
      generalize its.toList = l at i
      generalize k v = kv at i
      cases i with
      | nil => exact .inl rfl
      | cons x t _ => exact .inr ⟨x, t, rfl⟩
    · exact h3 f hm
theorem some_all {fs : List (Option Value)} (h : fs.toArray.all (fun x => x.isSome) = true) : ∃ gs : List Value, fs = gs.map some := by
  simp only [List.all_toArray] at h
  induction fs with
  | nil => exact ⟨[], rfl⟩
  | cons f fs ih =>
    rw [List.all_cons, Bool.and_eq_true] at h
    obtain ⟨gs, e⟩ := ih h.2
    cases f with
    | none => cases h.1
    | some g => exact ⟨g :: gs, by rw [e]; rfl⟩
theorem kat_of_fst {h : Heap} : ∀ {vs gs : List Value}, FstOf h vs (gs.map some) → PySem.W.KatTups h vs gs
  | [], [], _ => trivial
  | [], _ :: _, t => t.elim
  | _ :: _, [], t => t.elim
  | v :: vs, g :: gs, t => ⟨t.1, kat_of_fst t.2⟩
/-- tuples of whole numbers have a kind, and by it they are compared -/
theorem ints_kind {vs : List Value} {k : Value → List Int} (h0 : 0 < vs.length) (hu : A.units < cLine) (hp : ∀ v ∈ vs, IsInts s.heap v (k v)) :
    ∃ κ, (∀ (Q : SortKind → Shared → Prop) (E : Value → Shared → Prop), Q κ s → wpAny (model prog w) A (keyKind' vs.toArray) Q E s) ∧ SrtO.Cmp prog w A s κ (fun p => p.1 ∈ vs) (SrtO.lt2 fun v u => HT.lexLt (k v) (k u)) := by
  obtain ⟨fs, h1, h2, h3⟩ := fst_of hp
  have tOf : ∀ v ∈ vs, ∀ M : Model, PySem.W.Looks M s.heap (typeOf v) (.type "tuple") := fun v hv M => by
    obtain ⟨a, o, its, n, rfl, ho, hc, hd, i⟩ := hp v hv
    have := (show PySem.W.Looks M s.heap (typeOf (.ref a)) o.cls from (PySem.W.Looks.ld ho).andThen .now)
    rw [hc] at this
    exact this
  by_cases hall : fs.toArray.all (fun x => x.isSome) = true
  · obtain ⟨gs, rfl⟩ := some_all hall
    refine ⟨PyProof.Rows.tuples' true, fun Q E hq => ?_, fun p q m m' => tupLt_t (Q := fun r s' => s' = s ∧ r = HT.lexLt (k p.1) (k q.1)) (hp _ m) (hp _ m') ⟨rfl, rfl⟩⟩
    rw [List.length_map] at h2
    refine PySem.W.kat_kind (T := .type "int") (kat_of_fst h1) (by omega) (fun f hm => ?_) (by rfl) ?_
    · rcases h3 (some f) (List.mem_map.mpr ⟨f, hm, rfl⟩) with e | ⟨x, t, e⟩
      · cases e
      · cases e
        exact PySem.W.Looks.now
    · have e : (Value.type "int" != Value.type "tuple") = true := by first | decide +kernel | rfl | decide
      rw [e]
      exact hq
  · by_cases hf : (fs.toArray[0]?.bind id).isSome = true
    · refine ⟨general', fun Q E hq => ?_, fun p q m m' => tupLt_g (Q := fun r s' => s' = s ∧ r = HT.lexLt (k p.1) (k q.1)) hu (hp _ m) (hp _ m') ⟨rfl, rfl⟩⟩
      rw [PyProof.Rows.kat_kind_eq, List.mapM_toArray, map_eq_pure_bind]
      refine wpAny_bind (wpAny_bind (firstsO vs _ h1 (wpAny_pure ?_)))
      rw [if_neg hall, if_pos hf]
      exact wpAny_pure hq
    · refine ⟨oneType', fun Q E hq => ?_, fun p q m m' => tupLt_o (Q := fun r s' => s' = s ∧ r = HT.lexLt (k p.1) (k q.1)) hu (hp _ m) (hp _ m') ⟨rfl, rfl⟩⟩
      rw [PyProof.Rows.kat_kind_eq, List.mapM_toArray, map_eq_pure_bind]
      refine wpAny_bind (wpAny_bind (firstsO vs _ h1 (wpAny_pure ?_)))
      rw [if_neg hall, if_neg hf]
      obtain ⟨v₁, rest, rfl⟩ : ∃ v₁ rest, vs = v₁ :: rest := by
        cases vs with
        | nil => exact absurd h0 (Nat.lt_irrefl _)
        | cons v r => exact ⟨v, r, rfl⟩
      rw [oneTypeOnly'_eq, List.mapM_toArray, map_eq_pure_bind]
      refine wpAny_bind (wpAny_bind (wpAny_bind (PySem.W.kas_mapM (r := Value.type "tuple") _ (fun v hv Q' hq' => (tOf v hv _).here hq') (wpAny_pure ?_))))
      have hall2 : ((List.map (fun _ => Value.type "tuple") (v₁ :: rest)).toArray.all fun x => x == Value.type "tuple") = true := by
        simp only [List.all_toArray, List.all_map, List.all_eq_true]
        intro _ _
        rfl
      have e0 : (List.map (fun _ => Value.type "tuple") (v₁ :: rest)).toArray[0]? = some (Value.type "tuple") := by simp
      rw [e0]
      simp only [hall2, if_true]
      exact wpAny_pure (wpAny_pure hq)
theorem ints_sortableO {a : Addr} {vs : List Value} {k : Value → List Int} (h0 : 0 < vs.length) (hu : A.units < cLine) (hp : ∀ v ∈ vs, IsInts s.heap v (k v)) (ha : ∀ o, s.heap.get? a = some o → o.cls ≠ .type "tuple") : SrtO.SortableO prog w A s a vs fun v u => HT.lexLt (k v) (k u) := by
  intro h' keep
  exact ints_kind (s := { s with heap := h' }) h0 hu fun v hm => (hp v hm).keeps fun b o e c => keep b o (fun z => by subst z; exact ha o e c) e
theorem sorted_ints {l : Addr} {vs : List Value} {k : Value → List Int} {Q : Value → Shared → Prop} (hu : A.units + 64 < cLine) (hl : s.heap.IsList l vs.toArray) (hz : vs.length ≤ sizeLine) (hp : ∀ v ∈ vs, IsInts s.heap v (k v))
    (h : ∀ (h' : Heap) (d : Addr) (out : List Value), SrtO.Srtd (fun v u => HT.lexLt (k v) (k u)) out → SrtO.Stb (fun v u => HT.lexLt (k v) (k u)) out vs → (∀ b o, s.heap.get? b = some o → h'.get? b = some o) → s.heap.objs.size ≤ d → (∃ n, h'.get? d = some (seqObj "list" out.toArray n)) → Q (.ref d) { s with heap := h' }) :
    wpAny (model prog w) A (call (.builtin "sorted") [.ref l]) Q E s := by
  refine SrtO.sorted_ord (swoL k) hl hz (fun h2 h₁ a ha kk => ?_) fun out hs hb => ?_
  · refine ints_sortableO (s := { s with heap := h₁ }) (by omega) ?_ (fun v hm => (hp v hm).keeps fun b o e _ => (kk b o e).2) fun o e => ?_
    · first | omega | exact Nat.lt_of_le_of_lt (Nat.le_add_right _ _) hu | (show _ < cLine; simp [Around.in1]; omega)
    have e' : some o = some (seqObj "list" vs.toArray 0) := e.symm.trans ha
    cases e'
    intro c
    exact absurd (Value.type.inj c) (by decide)
  · exact h _ _ out hs hb (fun b o e => sortedAll_old e) (Nat.le_succ _) (sortedAll_at s.heap vs out.toArray)
end
/-- sorted(xs), xs a list of tuples of whole numbers (k says which): a new list, sorted, equal ones in their order -/
def rSortedL (K : PySem.W.Frag) : List V → Hp → VK → Prop := fun vs H Q => ∃ (a : Addr) (xs : List V) (k : V → List Int), vs = [V.ref a] ∧ SqL K H a xs ∧ (∀ x ∈ xs, ∃ t, x = V.ref t ∧ H t = some (.tup ((k x).map V.int))) ∧
  ∀ ys p, SrtO.Srtd (fun x y => HT.lexLt (k x) (k y)) ys → SrtO.Stb (fun x y => HT.lexLt (k x) (k y)) ys xs → H p = none → Q (.ref p) (upd H p (.lst ys))
theorem ints_vals : ∀ {ns : List Int} {its : List Value}, Vals (ns.map V.int) its → IntsAre its ns
  | [], its, r => by cases r; exact .nil
  | n :: ns, its, r => by
    cases r with
    | cons h r =>
      obtain ⟨t, rfl⟩ := h
      exact .cons n t (ints_vals r)
section
variable {X : Cx}
theorem cr_sortedL (hu : X.A.units + 64 < cLine) : CallR X (.builtin "sorted") (rSortedL X.K) := by
  intro pins s σ H vs us Q I r h
  obtain ⟨a, xs, k, rfl, hs, hx, q⟩ := h
  obtain ⟨its, rv, hl, hz⟩ := I.list hs
  obtain ⟨u, rfl, ru⟩ := vals1 r
  obtain rfl : u = Value.ref a := ru
  obtain ⟨e1, e2⟩ := refs_back rv fun x m => by
    obtain ⟨t, e, _⟩ := hx x m
    exact ⟨t, e⟩
  refine sorted_ints (k := fun u => k (backV u)) hu hl.isList (by rw [← rv.length]; exact hz) (fun v hv => ?_) fun h' d out h1 h2 kp hd hn => ?_
  · obtain ⟨t, rfl⟩ := e2 v hv
    have hm : V.ref t ∈ xs := by rw [e1]; exact List.mem_map.mpr ⟨_, hv, rfl⟩
    obtain ⟨t', e, ht⟩ := hx _ hm
    cases e
    obtain ⟨_, its2, r2, o, ho, hc, n, hd⟩ := I.hok _ _ ht
    exact ⟨t, o, _, n, rfl, ho, hc, hd, ints_vals r2⟩
  · have h3 : ∀ u ∈ out, ∃ a, u = Value.ref a := fun u hu => e2 u (h2.perm.mem_iff.mp hu)
    obtain ⟨n, hn⟩ := hn
    have hb : SrtO.Stb (fun x y => HT.lexLt (k x) (k y)) (out.map backV) xs := by
      rw [e1]
      exact SrtO.Stb.map (swoL k) backV h2
    refine ⟨.ref d, upd H d (.lst (out.map backV)), I.laid (t' := s.toks) kp hd ⟨?_, out, n, vals_back h3, hn⟩, rfl, q _ d (SrtO.srtd_map h1) hb (I.hok.fresh hd)⟩
    rw [hb.len]
    exact hz
end
end Fw

set_option maxRecDepth 100000
set_option maxHeartbeats 8000000
namespace Fw
open PySem PySem.Spec PyProof.Rows L2 GxR
abbrev rTupOf (K : PySem.W.Frag) : List V → Hp → VK → Prop := fun xs H Q => ∃ p ys, xs = [.ref p] ∧ ((SqL K H p ys ∧ ∀ l, H l = none → Q (.ref l) (upd H l (.tup ys))) ∨ (SqT K H p ys ∧ Q (.ref p) H))
abbrev rListOf (K : PySem.W.Frag) : List V → Hp → VK → Prop := fun xs H Q => ∃ p ys, xs = [.ref p] ∧ (SqL K H p ys ∨ SqT K H p ys) ∧ ∀ l, H l = none → Q (.ref l) (upd H l (.lst ys))
theorem FAt.same {H H' : Hp} {as : List Addr} {Xs : List (List Int)} (s : Same H H') (h : FAt H as Xs) : FAt H' as Xs := ⟨h.1, fun i a X e1 e2 => s _ _ (h.2 i a X e1 e2)⟩
theorem PAt.same {H H' : Hp} {as : List Addr} {ts : List T3} (s : Same H H') (h : PAt H as ts) : PAt H' as ts := ⟨h.1, fun i a X e1 e2 => s _ _ (h.2 i a X e1 e2)⟩
theorem RAt.same {K : PySem.W.Frag} {H H' : Hp} {as : List Addr} {Xs : List (List Int)} (s : Same H H') (h : RAt K H as Xs) : RAt K H' as Xs := ⟨h.1, fun i a X e1 e2 => SqT.same s (h.2 i a X e1 e2)⟩
theorem FAt.nth {H : Hp} {as : List Addr} {Xs : List (List Int)} (h : FAt H as Xs) {i : Nat} {x : V} (e : (as.map V.ref)[i]? = some x) : ∃ a X, x = .ref a ∧ as[i]? = some a ∧ Xs[i]? = some X ∧ IL H a X := by
  rw [List.getElem?_map] at e
  cases q : as[i]? with
  | none => rw [q] at e; cases e
  | some a =>
    rw [q] at e
    have il : i < Xs.length := by rw [← h.1]; exact (List.getElem?_eq_some_iff.mp q).1
    exact ⟨a, Xs[i], (Option.some.inj e).symm, rfl, List.getElem?_eq_getElem il, h.2 i a _ q (List.getElem?_eq_getElem il)⟩
/-- what was there is there, but for the object at p -/
theorem but_new {p q : Addr} {H G : Hp} {o : HO} (b : But p H G) (h : G q = none) : But p H (upd G q o) := fun a u n e => by
  have := b a u n e
  rw [upd_ne (ne_of_none this h)]
  exact this
theorem SqT.butO {K : PySem.W.Frag} {H H' : Hp} {a d : Addr} {xs : List V} {C dx : Addr} {fs : List (Str × V)} (hd : H d = some (.ins C dx fs)) (s : But d H H') (h : SqT K H a xs) : SqT K H' a xs := by
  rcases h with h | h
  · rcases h with h | ⟨u, h⟩
    · exact .inl (.inl (s _ _ (ne_of h hd (by intro z; cases z)) h))
    · exact .inl (.inr ⟨u, s _ _ (ne_of h hd (by intro z; cases z)) h⟩)
  · exact .inr h
theorem PAt.butO {H H' : Hp} {as : List Addr} {ts : List T3} {d C dx : Addr} {fs : List (Str × V)} (hd : H d = some (.ins C dx fs)) (s : But d H H') (h : PAt H as ts) : PAt H' as ts :=
  ⟨h.1, fun i a p e1 e2 => s _ _ (ne_of (h.2 i a p e1 e2) hd (by intro z; cases z)) (h.2 i a p e1 e2)⟩
theorem RAt.butO {K : PySem.W.Frag} {H H' : Hp} {as : List Addr} {Xs : List (List Int)} {d C dx : Addr} {fs : List (Str × V)} (hd : H d = some (.ins C dx fs)) (s : But d H H') (h : RAt K H as Xs) : RAt K H' as Xs :=
  ⟨h.1, fun i a X e1 e2 => SqT.butO hd s (h.2 i a X e1 e2)⟩
theorem EndsAt.butO {H0 H H' : Hp} {ss : List T3} {e d C dx : Addr} {fs : List (Str × V)} (hd : H d = some (.ins C dx fs)) (s : But d H H') (h : EndsAt H0 H e ss) : EndsAt H0 H' e ss :=
  h.map (fun kvs q => s _ _ (ne_of q hd (by intro z; cases z)) q) fun a xs _ q => s _ _ (ne_of q hd (by intro z; cases z)) q
/-- triples at addresses that came out of a sort -/
theorem trips_back {H : Hp} {as : List Addr} {ts : List T3} (h : PAt H as ts) : ∃ k : V → T3, ∀ (a : Addr) (p : T3) (i : Nat), as[i]? = some a → ts[i]? = some p → k (.ref a) = p := by
  refine ⟨fun v => match v with | .ref a => (match H a with | some (.tup [.int x, .int y, .int z]) => (x, y, z) | _ => (0, 0, 0)) | _ => (0, 0, 0), fun a p i e1 e2 => ?_⟩
  show (match H a with | some (.tup [.int x, .int y, .int z]) => (x, y, z) | _ => (0, 0, 0)) = p
  rw [h.2 i a p e1 e2]
/-! ### a list or a tuple -/
def IsSq (K : PySem.W.Frag) (H : Hp) (a : Addr) (xs : List V) (It : It) : Prop := (It = Itl K a ∧ SqL K H a xs) ∨ (It = Itt K a ∧ SqT K H a xs)
def iSq (K : PySem.W.Frag) (tl : TE) : TI := fun σ H R => tl σ H fun x H1 => ∃ a xs, x = .ref a ∧ Sq K H1 a xs ∧ ∀ It, IsSq K H1 a xs It → R It H1
theorem pi_sq {X : Cx} {tg l : Expr} {tl : TE} (hl : PE X l tl) : PI X tg l (iSq X.K tl) := by
  have hv : PE X l tl := hl
  refine ⟨fun pins s σ H R I h => ?_⟩
  have key := hv.run pins s σ H _ I h
  refine thn key fun v s1 ⟨x, H1, I1, r1, q1⟩ => ?_
  obtain ⟨a, xs, e, hs, q⟩ := q1
  subst e
  cases r1
  rcases hs with hq | hq
  · obtain ⟨its, rv, p, hz⟩ := I1.list hq
    refine wpAny_pyIter_list p.isList ?_
    refine ⟨s1.heap.objs.size, [s1.heap.objs.size], _, _, H1, rfl, I1.kept (t' := s1.toks) fun b o e => Heap.get?_push_of_some _ e, turn_list a _, ⟨_, Heap.get?_push_size _ rfl, rfl, rfl⟩, fun b hb => ?_, q _ (.inl ⟨rfl, hq⟩)⟩
    have e : b = s1.heap.objs.size := by simpa using hb
    subst e
    exact I1.fpOk (Nat.le_refl _) (I1.hok.fresh (Nat.le_refl _))
  · obtain ⟨its, rv, p, hz⟩ := I1.tuple hq
    refine wpAny_pyIter_tuple (show s1.heap.IsTuple a its.toArray from p) ?_
    refine ⟨s1.heap.objs.size, [s1.heap.objs.size], _, _, H1, rfl, I1.kept (t' := s1.toks) fun b o e => Heap.get?_push_of_some _ e, turn_tuple a _, ⟨_, Heap.get?_push_size _ rfl, rfl, rfl⟩, fun b hb => ?_, q _ (.inr ⟨rfl, hq⟩)⟩
    have e : b = s1.heap.objs.size := by simpa using hb
    subst e
    exact I1.fpOk (Nat.le_refl _) (I1.hok.fresh (Nat.le_refl _))
theorem lc_sq {K : PySem.W.Frag} {It : It} {a : Addr} {xs : List V} {g : TG} {tt : TT} {te : TE} {vs : List Nat} {σ : L2.St} {H0 H1 : Hp} {D : Addr} {Qd : Hp → Prop} (hIt : IsSq K H0 a xs It) (Pv : Nat → Hp → Prop) (h0 : Pv 0 (upd H1 D (.lst []))) (hk : ∀ i H, Pv i H → Same H0 H)
    (hs : ∀ i x H, xs[i]? = some x → Pv i H → g x (wipe σ vs) H fun σ2 H2 => wipe σ2 vs = wipe σ vs ∧ tt σ2 H2 fun b H3 =>
      if b = true then te σ2 H3 fun y H4 => ∃ acc, H4 D = some (.lst acc) ∧ acc.length < sizeLine ∧ Pv (i + 1) (upd H4 D (.lst (acc ++ [y]))) else Pv (i + 1) H3) (hd : ∀ H, Pv xs.length H → Qd H) :
    ∃ W : Nat → Nat → Hp → Prop, (∃ m, W 0 m (upd H1 D (.lst []))) ∧ ∀ i m H, W i m H →
      (It.stop i H ∧ Qd H) ∨ (It.go i H ∧ ∃ Nx : Hp → Prop, (∀ H', Nx H' → ∃ m', m' < m ∧ W (i + 1) m' H') ∧ ∀ x H', It.yld i H x H' → g x (wipe σ vs) H' fun σ2 H2 => wipe σ2 vs = wipe σ vs ∧ tt σ2 H2 fun b H3 =>
        if b = true then te σ2 H3 fun y H4 => ∃ acc, H4 D = some (.lst acc) ∧ acc.length < sizeLine ∧ Nx (upd H4 D (.lst (acc ++ [y]))) else Nx H3) := by
  rcases hIt with ⟨rfl, h⟩ | ⟨rfl, h⟩
  · exact lc_list Pv h0 (fun i H _ q => SqL.keepAt (fun o e => hk i H q _ o e) h) hs hd
  · exact lc_tup Pv h0 (fun i H _ q => SqT.same (hk i H q) h) hs hd
def FAtS (K : PySem.W.Frag) (H : Hp) (as : List Addr) (Xs : List (List Int)) : Prop := as.length = Xs.length ∧ ∀ (i : Nat) (a : Addr) (X : List Int), as[i]? = some a → Xs[i]? = some X → Sq K H a (X.map V.int)
theorem FAtS.same {K : PySem.W.Frag} {H H' : Hp} {as : List Addr} {Xs : List (List Int)} (s : Same H H') (h : FAtS K H as Xs) : FAtS K H' as Xs := ⟨h.1, fun i a X e1 e2 => (h.2 i a X e1 e2).same s⟩
theorem FAt.sq {K : PySem.W.Frag} {H : Hp} {as : List Addr} {Xs : List (List Int)} (h : FAt H as Xs) : FAtS K H as Xs := ⟨h.1, fun i a X e1 e2 => .inl (SqL.of (h.2 i a X e1 e2))⟩
theorem RAt.sq {K : PySem.W.Frag} {H : Hp} {as : List Addr} {Xs : List (List Int)} (h : RAt K H as Xs) : FAtS K H as Xs := ⟨h.1, fun i a X e1 e2 => .inr (h.2 i a X e1 e2)⟩
theorem FAtS.nth {K : PySem.W.Frag} {H : Hp} {as : List Addr} {Xs : List (List Int)} (h : FAtS K H as Xs) {i : Nat} {x : V} (e : (as.map V.ref)[i]? = some x) : ∃ a X, x = .ref a ∧ as[i]? = some a ∧ Xs[i]? = some X ∧ Sq K H a (X.map V.int) := by
  rw [List.getElem?_map] at e
  cases q : as[i]? with
  | none => rw [q] at e; cases e
  | some a =>
    rw [q] at e
    have il : i < Xs.length := by rw [← h.1]; exact (List.getElem?_eq_some_iff.mp q).1
    exact ⟨a, Xs[i], (Option.some.inj e).symm, rfl, List.getElem?_eq_getElem il, h.2 i a _ q (List.getElem?_eq_getElem il)⟩
theorem Sq.butO {K : PySem.W.Frag} {H H' : Hp} {a d : Addr} {xs : List V} {C dx : Addr} {fs : List (Str × V)} (hd : H d = some (.ins C dx fs)) (s : But d H H') (h : Sq K H a xs) : Sq K H' a xs := by
  rcases h with h | h
  · rcases h with h | h
    · rcases h with h | ⟨u, h⟩
      · exact .inl (.inl (.inl (s _ _ (ne_of h hd (by intro z; cases z)) h)))
      · exact .inl (.inl (.inr ⟨u, s _ _ (ne_of h hd (by intro z; cases z)) h⟩))
    · exact .inl (.inr h)
  · exact .inr (SqT.butO hd s h)
/-- lists or tuples of whole numbers, tracked -/
def FAtJ (H : Hp) (as : List Addr) (ps : List (List Int)) : Prop := as.length = ps.length ∧ ∀ (i : Nat) (a : Addr) (X : List Int), as[i]? = some a → ps[i]? = some X → H a = some (.lst (X.map V.int)) ∨ H a = some (.tup (X.map V.int))
theorem FAtJ.same {H H' : Hp} {as : List Addr} {ps : List (List Int)} (s : Same H H') (h : FAtJ H as ps) : FAtJ H' as ps := ⟨h.1, fun i a X e1 e2 => (h.2 i a X e1 e2).imp (s _ _) (s _ _)⟩
theorem FAtJ.butO {H H' : Hp} {as : List Addr} {ps : List (List Int)} {d C dx : Addr} {fs : List (Str × V)} (hd : H d = some (.ins C dx fs)) (s : But d H H') (h : FAtJ H as ps) : FAtJ H' as ps :=
  ⟨h.1, fun i a X e1 e2 => (h.2 i a X e1 e2).imp (fun e => s _ _ (ne_of e hd (by intro z; cases z)) e) (fun e => s _ _ (ne_of e hd (by intro z; cases z)) e)⟩
theorem FAtJ.nth {H : Hp} {as : List Addr} {Xs : List (List Int)} (h : FAtJ H as Xs) {i : Nat} {x : V} (e : (as.map V.ref)[i]? = some x) : ∃ a X, x = .ref a ∧ as[i]? = some a ∧ Xs[i]? = some X ∧ (H a = some (.lst (X.map V.int)) ∨ H a = some (.tup (X.map V.int))) := by
  rw [List.getElem?_map] at e
  cases q : as[i]? with
  | none => rw [q] at e; cases e
  | some a =>
    rw [q] at e
    have il : i < Xs.length := by rw [← h.1]; exact (List.getElem?_eq_some_iff.mp q).1
    exact ⟨a, Xs[i], (Option.some.inj e).symm, rfl, List.getElem?_eq_getElem il, h.2 i a _ q (List.getElem?_eq_getElem il)⟩
theorem LAt.snoc {H : Hp} {as : List Addr} {Xs : List (List Int)} {a : Addr} {X : List Int} (h : LAt H as Xs) (z : H a = some (.tup (X.map V.int))) : LAt H (as ++ [a]) (Xs ++ [X]) :=
  ⟨by rw [List.length_append, List.length_append, h.1]; rfl, fun i b Y e1 e2 => by
    rcases get_snoc e1 with e1' | ⟨q, rfl⟩
    · rcases get_snoc e2 with e2' | ⟨q, rfl⟩
      · exact h.2 i b Y e1' e2'
      · have := get_len e1'; rw [h.1] at this; omega
    · rcases get_snoc e2 with e2' | ⟨q2, rfl⟩
      · have := get_len e2'; rw [← h.1] at this; omega
      · exact z⟩
theorem LAt.updL {H : Hp} {as : List Addr} {Xs : List (List Int)} {D : Addr} {xs : List V} {u : HO} (h : LAt H as Xs) (hD : H D = some (.lst xs)) : LAt (upd H D u) as Xs :=
  ⟨h.1, fun i a X e1 e2 => by
    have := h.2 i a X e1 e2
    rw [upd_ne (ne_of this hD (by intro z; cases z))]
    exact this⟩
/-- tuples at addresses that came out of a sort -/
theorem lats_back {H : Hp} {as : List Addr} {ts : List (List Int)} (h : LAt H as ts) : ∃ k : V → List Int, ∀ (a : Addr) (X : List Int) (i : Nat), as[i]? = some a → ts[i]? = some X → k (.ref a) = X := by
  refine ⟨fun v => match v with | .ref a => (match H a with | some (.tup xs) => xs.filterMap (fun x => match x with | .int n => some n | _ => none) | _ => []) | _ => [], fun a X i e1 e2 => ?_⟩
  show (match H a with | some (.tup xs) => xs.filterMap (fun x => match x with | .int n => some n | _ => none) | _ => []) = X
  rw [h.2 i a X e1 e2]
  show (X.map V.int).filterMap _ = X
  rw [List.filterMap_map]
  exact List.filterMap_some
theorem lex_of3 (p q : T3) : HT.lexLt (of3 p) (of3 q) = lex3 p q := lexLt3 p q
section
variable {P : Program} {w : World} {K : PySem.W.Frag} {mg : Str → Option Value} {base : Heap} {C J B NC WC cA tA : Addr} {t1 t2 t3 : Tok}
def okWorld (l f : Int) (Xs : List (List Int)) (ss : List T3) : Bool := okNums l f && (okRows f Xs && okSteps l Xs.length ss)
def But2 (p q : Addr) (H H' : Hp) : Prop := ∀ b o, b ≠ p → b ≠ q → H b = some o → H' b = some o
def spWInit (K : PySem.W.Frag) (NC WC tA : Addr) : Sp := fun vs H Q E => ∃ (p dx : Addr) (l f : Int) (sa pa : Addr) (ras0 as0 : List Addr) (Xs : List (List Int)) (ps : List (List Int)), vs = [.ref p, .int l, .int f, .ref sa, .ref pa] ∧ H p = some (.ins WC dx []) ∧
  Sq K H sa (ras0.map V.ref) ∧ FAtS K H ras0 Xs ∧ Sq K H pa (as0.map V.ref) ∧ FAtJ H as0 ps ∧ TabG H tA ∧ Xs.length ≤ 1000 ∧ (∀ X ∈ Xs, X.length ≤ 1000) ∧ (∀ X ∈ ps, X.length ≤ 1000) ∧ ps.length ≤ 1000 ∧
  (∀ (ss : List T3) (ta tb d : Addr) (ras as : List Addr) H', (ss.Pairwise fun x y => lex3 y x = false) → (ss.map of3).Perm ps → okWorld l f Xs ss = true → But2 p tA H H' → TabG H' tA → WoE K WC H H' p dx l f ta tb d ras as Xs ss → Q .non H') ∧
  (∀ ts : List (List Int), (ts.Pairwise fun x y => HT.lexLt y x = false) → ts.Perm ps → (∀ ss : List T3, ts = ss.map of3 → okWorld l f Xs ss = false) → ∀ H', E (.ref NC) none H')
theorem ok_World_init {f : Addr} {fd : FuncData} (FF : Fun K "__init__" "World.__init__" s_World_init f fd) (T : Txt K mg C J B) (TC : TxtC K WC)
    (h_check_numbers : HasX P w K mg base "check_numbers" 2 a_check_numbers (spCkN NC)) (h_check_states : HasX P w K mg base "check_states" 5 a_check_states (spCkS K NC WC tA)) (h_check_steps : HasX P w K mg base "check_steps" 5 a_check_steps (spCkT K NC WC tA))
    (h_ends_of : Has P w K mg base "ends_of" 1 a_ends_of (spEnds K)) : FnOk P w K mg base (L2.CX P w) 6 f fd a_World_init (spWInit K NC WC tA) := by
  refine FF.okX sc_World_init (fun vs H Q E h => ?_) (fun cdv A outer s H vs Q E hr h => ?_)
  · obtain ⟨p, dx, l, f, sa, pa, ras0, as0, Xs, ps, rfl, _⟩ := h
    rfl
  · obtain ⟨p, dx, l, f, sa, pa, ras0, as0, Xs, ps, rfl, hp, hsa, fat, hpa, pat, tg, xs1, xs2, ps0, ps1, k1, k2⟩ := h
    refine ⟨_, (pss_cons (ps_fld (pv 0) (pv 1) rfl)
      (pss_cons (ps_fld (pv 0) (pv 2) rfl)
      (pss_cons (ps_fld (pv 0) (pe_callTy call_tuple_of rfl T.z_tuple (by decide +kernel) (pa_cons (pe_lc (own := [("row", 5)]) (g := gName 5) rfl sc_World_init.nd (pi_sq (pv 3)) (blkOk_by (own := [("row", 5)]) (N := n_World_init) (sc := defScope s_World_init) (by decide +kernel)) (fun _ _ _ _ _ => (pg_name (i := 5) sc_World_init.nd rfl (.inl rfl))) (fun _ _ _ _ _ => pts_nil) (fun _ _ _ _ _ => (pe_callTy (@id (CallR _ (.type "tuple") (rTupOf K)) call_tuple_of) rfl T.z_tuple (by decide +kernel) (pa_cons (pv 5) pa_nil)))) pa_nil)) rfl)
      (pss_cons (ps_fld (pv 0) (pe_callTy call_tuple_of rfl T.z_tuple (by decide +kernel) (pa_cons (pe_callB (cr_sortedL hr.units) rfl T.z_sorted (by decide +kernel) (pa_cons (pe_lc (own := [("step", 6)]) (g := gName 6) rfl sc_World_init.nd (pi_sq (pv 4)) (blkOk_by (own := [("step", 6)]) (N := n_World_init) (sc := defScope s_World_init) (by decide +kernel)) (fun _ _ _ _ _ => (pg_name (i := 6) sc_World_init.nd rfl (.inl rfl))) (fun _ _ _ _ _ => pts_nil) (fun _ _ _ _ _ => (pe_callTy (@id (CallR _ (.type "tuple") (rTupOf K)) call_tuple_of) rfl T.z_tuple (by decide +kernel) (pa_cons (pv 6) pa_nil)))) pa_nil)) pa_nil)) rfl)
      (pss_cons (ps_expr (pe_callX h_check_numbers (hr.mono (by omega)) (takes_of rfl rfl rfl rfl) (pa_cons (pv 1) (pa_cons (pv 2) pa_nil))))
      (pss_cons (ps_expr (pe_callX h_check_states (hr.mono (by omega)) (takes_of rfl rfl rfl rfl) (pa_cons (pv 0) pa_nil)))
      (pss_cons (ps_expr (pe_callX h_check_steps (hr.mono (by omega)) (takes_of rfl rfl rfl rfl) (pa_cons (pv 0) pa_nil)))
      (PSs.nox (pss_one (ps_fld (pv 0) (pe_callH h_ends_of (hr.mono (by omega)) (pa_cons (pe_fld (pv 0) rfl) pa_nil)) rfl)))))))))), ?_⟩
    refine ⟨.int l, rfl, .ref p, rfl, p, WC, dx, [], rfl, hp, TC.cl, TC.nL, by show 0 < 1000; decide, ?_⟩
    refine ⟨.int f, rfl, .ref p, rfl, p, WC, dx, _, rfl, upd_same, TC.cl, TC.nF, by show 1 < 1000; decide, ?_⟩
    have bu2 : But p H (upd (upd H p (.ins WC dx (putF "labels" (V.int l) []))) p (.ins WC dx (putF "facts" (V.int f) (putF "labels" (V.int l) [])))) := (But.upd).trans But.upd
    have g2 : (upd (upd H p (.ins WC dx (putF "labels" (V.int l) []))) p (.ins WC dx (putF "facts" (V.int f) (putF "labels" (V.int l) [])))) p = some (.ins WC dx [("labels", .int l), ("facts", .int f)]) := by rw [upd_same]; rfl
    generalize upd (upd H p (.ins WC dx (putF "labels" (V.int l) []))) p (.ins WC dx (putF "facts" (V.int f) (putF "labels" (V.int l) []))) = G2 at bu2 g2
    have ntA : tA ≠ p := fun e => by obtain ⟨qs, q, _⟩ := tg; rw [e, hp] at q; cases q
    have fat2 : FAtS K G2 ras0 Xs := ⟨fat.1, fun i a X e1 e2 => Sq.butO hp bu2 (fat.2 i a X e1 e2)⟩
    have pat2 : FAtJ G2 as0 ps := pat.butO hp bu2
    have tg2 : TabG G2 tA := by obtain ⟨qs, q, t⟩ := tg; exact ⟨qs, bu2 _ _ ntA q, t⟩
    have hsa2 := Sq.butO hp bu2 hsa
    have hpa2 := Sq.butO hp bu2 hpa
    -- the rows
    refine ⟨.ref sa, rfl, sa, _, rfl, hsa2, fun It hIt D hD => ?_⟩
    have nDp : D ≠ p := fun e => by rw [e, g2] at hD; cases hD
    refine lc_sq hIt (fun i G => ∃ ras : List Addr, Same G2 G ∧ G D = some (.lst (ras.map V.ref)) ∧ RAt K G ras (Xs.take i)) ⟨[], Same.new hD, upd_same, by simp [RAt]⟩ (fun i G ⟨_, sG, _⟩ => sG) ?_ ?_
    · rintro i x G hx ⟨ras, sG, gD, rat⟩
      obtain ⟨a, X, rfl, ha, hX, il⟩ := (fat2.same sG).nth hx
      have lt : i < Xs.length := (List.getElem?_eq_some_iff.mp hX).1
      rcases il with il | il
      · refine ⟨rfl, .ref a, rfl, a, _, rfl, .inl ⟨il, fun q hq => ?_⟩⟩
        have s1 := Same.new (o := .tup (X.map V.int)) hq
        have nD : q ≠ D := fun e => by rw [e, gD] at hq; cases hq
        refine ⟨_, s1 _ _ gD, by rw [List.length_map, rat.1, List.length_take]; exact small1000 (by omega), ras ++ [q], fun b o e => by rw [upd_ne (ne_of_none e hD)]; exact s1 _ _ (sG b o e), by rw [upd_same, List.map_append]; rfl, ?_⟩
        rw [List.take_add_one, hX, Option.toList_some]
        have sD : ∀ b ys, SqT K (upd G q (.tup (X.map V.int))) b ys → SqT K (upd (upd G q (.tup (X.map V.int))) D (.lst (ras.map V.ref ++ [.ref q]))) b ys := fun b ys e => SqT.lk (LKp.upd (s1 _ _ gD)) e
        refine ⟨by rw [List.length_append, List.length_append, rat.1]; rfl, fun j b Y e1 e2 => ?_⟩
        rcases get_snoc e1 with e1' | ⟨z1, rfl⟩
        · rcases get_snoc e2 with e2' | ⟨z2, rfl⟩
          · exact sD _ _ (SqT.same s1 (rat.2 j b Y e1' e2'))
          · have := get_len e1'; rw [rat.1] at this; omega
        · rcases get_snoc e2 with e2' | ⟨z2, rfl⟩
          · have := get_len e2'; rw [← rat.1] at this; omega
          · exact sD _ _ (SqT.of upd_same)
      · refine ⟨rfl, .ref a, rfl, a, _, rfl, .inr ⟨il, ?_⟩⟩
        refine ⟨_, gD, by rw [List.length_map, rat.1, List.length_take]; exact small1000 (by omega), ras ++ [a], fun b o e => by rw [upd_ne (ne_of_none e hD)]; exact sG b o e, by rw [upd_same, List.map_append]; rfl, ?_⟩
        rw [List.take_add_one, hX, Option.toList_some]
        have sD : ∀ b ys, SqT K G b ys → SqT K (upd G D (.lst (ras.map V.ref ++ [.ref a]))) b ys := fun b ys e => SqT.lk (LKp.upd gD) e
        refine ⟨by rw [List.length_append, List.length_append, rat.1]; rfl, fun j b Y e1 e2 => ?_⟩
        rcases get_snoc e1 with e1' | ⟨z1, rfl⟩
        · rcases get_snoc e2 with e2' | ⟨z2, rfl⟩
          · exact sD _ _ (rat.2 j b Y e1' e2')
          · have := get_len e1'; rw [rat.1] at this; omega
        · rcases get_snoc e2 with e2' | ⟨z2, rfl⟩
          · have := get_len e2'; rw [← rat.1] at this; omega
          · exact sD _ _ il
    rintro G3 ⟨ras, s3, gD, rat⟩
    rw [List.length_map, fat.1, List.take_length] at rat
    refine ⟨D, _, rfl, .inl ⟨SqL.of gD, fun ta hta => ?_⟩⟩
    have s4 := Same.new (o := .tup (ras.map V.ref)) hta
    have s24 := s3.trans s4
    have nta : ta ≠ p := fun e => by rw [e, s3 _ _ g2] at hta; cases hta
    refine ⟨.ref p, rfl, p, WC, dx, _, rfl, s24 _ _ g2, TC.cl, TC.nS, by show 2 < 1000; decide, ?_⟩
    have bu5 : But p (upd G3 ta (.tup (ras.map V.ref))) (upd (upd G3 ta (.tup (ras.map V.ref))) p (.ins WC dx (putF "states" (V.ref ta) [("labels", .int l), ("facts", .int f)]))) := But.upd
    have g5 : (upd (upd G3 ta (.tup (ras.map V.ref))) p (.ins WC dx (putF "states" (V.ref ta) [("labels", .int l), ("facts", .int f)]))) p = some (.ins WC dx [("labels", .int l), ("facts", .int f), ("states", .ref ta)]) := by rw [upd_same]; rfl
    have st4 : SqT K (upd G3 ta (.tup (ras.map V.ref))) ta (ras.map V.ref) := SqT.of upd_same
    have st5 := SqT.butO (s24 _ _ g2) bu5 st4
    have rat5 := (rat.same s4).butO (s24 _ _ g2) bu5
    have pat5 := (pat2.same s24).butO (s24 _ _ g2) bu5
    have hpa5 := Sq.butO (s24 _ _ g2) bu5 (hpa2.same s24)
    have bH5 : But p H (upd (upd G3 ta (.tup (ras.map V.ref))) p (.ins WC dx (putF "states" (V.ref ta) [("labels", .int l), ("facts", .int f)]))) := (bu2.trans (Same.but s24)).trans bu5
    generalize upd (upd G3 ta (.tup (ras.map V.ref))) p (.ins WC dx (putF "states" (V.ref ta) [("labels", .int l), ("facts", .int f)])) = G5 at bu5 g5 st5 rat5 pat5 hpa5 bH5
    -- the steps
    refine ⟨.ref pa, rfl, pa, _, rfl, hpa5, fun It2 hIt2 D2 hD2 => ?_⟩
    refine lc_sq hIt2 (fun i G => ∃ qs : List Addr, Same G5 G ∧ G D2 = some (.lst (qs.map V.ref)) ∧ LAt G qs (ps.take i)) ⟨[], Same.new hD2, upd_same, by simp [LAt]⟩ (fun i G ⟨_, sG, _⟩ => sG) ?_ ?_
    · rintro i x G hx ⟨qs, sG, gD2, lat⟩
      obtain ⟨a, X, rfl, ha, hX, il⟩ := (pat5.same sG).nth hx
      have lt : i < ps.length := (List.getElem?_eq_some_iff.mp hX).1
      rcases il with il | il
      · refine ⟨rfl, .ref a, rfl, a, _, rfl, .inl ⟨SqL.of il, fun q hq => ?_⟩⟩
        have s1 := Same.new (o := .tup (X.map V.int)) hq
        have gD' := s1 _ _ gD2
        refine ⟨_, gD', by rw [List.length_map, lat.1, List.length_take]; exact small1000 (by omega), qs ++ [q], fun b o e => by rw [upd_ne (ne_of_none e hD2)]; exact s1 _ _ (sG b o e), by rw [upd_same, List.map_append]; rfl, ?_⟩
        rw [List.take_add_one, hX, Option.toList_some]
        exact LAt.snoc ((lat.same s1).updL gD') (by rw [upd_ne (ne_of_none gD2 hq).symm, upd_same])
      · refine ⟨rfl, .ref a, rfl, a, _, rfl, .inr ⟨SqT.of il, ?_⟩⟩
        refine ⟨_, gD2, by rw [List.length_map, lat.1, List.length_take]; exact small1000 (by omega), qs ++ [a], fun b o e => by rw [upd_ne (ne_of_none e hD2)]; exact sG b o e, by rw [upd_same, List.map_append]; rfl, ?_⟩
        rw [List.take_add_one, hX, Option.toList_some]
        exact LAt.snoc (lat.updL gD2) (by rw [upd_ne (ne_of il gD2 (by intro z; cases z))]; exact il)
    rintro G6 ⟨qs, s6, gD2, lat⟩
    rw [List.length_map, pat.1, List.take_length] at lat
    obtain ⟨kk, hkk⟩ := lats_back lat
    refine ⟨D2, qs.map V.ref, kk, rfl, SqL.of gD2, fun x hx => ?_, fun ys q srt stb hq => ?_⟩
    · obtain ⟨i, hi, e⟩ := List.getElem_of_mem hx
      obtain ⟨a, r, rfl, ha, hr', at_⟩ := lat.nth (by rw [List.getElem?_eq_getElem hi, e])
      refine ⟨a, rfl, ?_⟩
      rw [hkk a r i ha hr']
      exact at_
    have s7 := Same.new (o := .lst ys) hq
    refine ⟨q, _, rfl, .inl ⟨SqL.of upd_same, fun tb htb => ?_⟩⟩
    have s8 := Same.new (o := .tup ys) htb
    obtain ⟨as, hys⟩ : ∃ as : List Addr, ys = as.map V.ref := by
      have mem : ∀ y ∈ ys, ∃ a, y = V.ref a := fun y hy => by
        obtain ⟨a, _, e⟩ := List.mem_map.mp (stb.perm.mem_iff.mp hy)
        exact ⟨a, e.symm⟩
      clear srt stb s7 s8 htb hq
      induction ys with
      | nil => exact ⟨[], rfl⟩
      | cons y ys ih =>
        obtain ⟨a, rfl⟩ := mem y List.mem_cons_self
        obtain ⟨as, e⟩ := ih fun z hz => mem z (List.mem_cons_of_mem _ hz)
        exact ⟨a :: as, by rw [e]; rfl⟩
    subst hys
    have perm : (as.map fun a => kk (.ref a)).Perm ps := by
      have e1 := stb.perm.map kk
      rw [List.map_map, List.map_map] at e1
      have e2 : qs.map (kk ∘ V.ref) = ps := by
        refine List.ext_getElem? fun i => ?_
        rw [List.getElem?_map]
        cases e3 : qs[i]? with
        | none =>
          have := List.getElem?_eq_none_iff.mp e3
          rw [lat.1] at this
          rw [List.getElem?_eq_none_iff.mpr this]
          rfl
        | some a =>
          have il : i < ps.length := by rw [← lat.1]; exact (List.getElem?_eq_some_iff.mp e3).1
          have e4 := List.getElem?_eq_getElem il
          rw [e4]
          exact congrArg some (hkk a _ i e3 e4)
      rw [e2] at e1
      exact e1
    have sort : (as.map fun a => kk (.ref a)).Pairwise fun x y => HT.lexLt y x = false := by
      have e1 := List.pairwise_map.mp srt
      exact List.pairwise_map.mpr e1
    have pas : LAt G6 as (as.map fun a => kk (.ref a)) := ⟨by rw [List.length_map], fun i a r e1 e2 => by
      rw [List.getElem?_map, e1] at e2
      have e3 := (Option.some.inj e2).symm
      subst e3
      have hm : V.ref a ∈ qs.map V.ref := stb.perm.mem_iff.mp (List.mem_map.mpr ⟨a, List.mem_of_getElem? e1, rfl⟩)
      obtain ⟨j, hj, e4⟩ := List.getElem_of_mem hm
      obtain ⟨a', r', e5, ha', hr', at_⟩ := lat.nth (by rw [List.getElem?_eq_getElem hj, e4])
      cases e5
      show G6 a = some (.tup ((kk (.ref a)).map V.int))
      rw [hkk a r' j ha' hr']
      exact at_⟩
    generalize (as.map fun a => kk (.ref a)) = ts at perm sort pas
    have s58 := s6.trans (s7.trans s8)
    refine ⟨.ref p, rfl, p, WC, dx, _, rfl, s58 _ _ g5, TC.cl, TC.nT, by show 3 < 1000; decide, ?_⟩
    have bu9 : But p (upd (upd G6 q (.lst (as.map V.ref))) tb (.tup (as.map V.ref))) (upd (upd (upd G6 q (.lst (as.map V.ref))) tb (.tup (as.map V.ref))) p (.ins WC dx (putF "steps" (V.ref tb) [("labels", .int l), ("facts", .int f), ("states", .ref ta)]))) := But.upd
    have g9 : (upd (upd (upd G6 q (.lst (as.map V.ref))) tb (.tup (as.map V.ref))) p (.ins WC dx (putF "steps" (V.ref tb) [("labels", .int l), ("facts", .int f), ("states", .ref ta)]))) p = some (.ins WC dx (wf l f ta tb)) := by rw [upd_same]; rfl
    have g8 := s58 _ _ g5
    have W : WoAL K WC (upd (upd (upd G6 q (.lst (as.map V.ref))) tb (.tup (as.map V.ref))) p (.ins WC dx (putF "steps" (V.ref tb) [("labels", .int l), ("facts", .int f), ("states", .ref ta)]))) p dx l f ta tb ras as Xs ts :=
      ⟨g9, SqT.butO g8 bu9 (SqT.same s58 st5), (rat5.same s58).butO g8 bu9, SqT.butO g8 bu9 (SqT.of upd_same), (pas.same (s7.trans s8)).butO g8 bu9⟩
    have bH9 := (bH5.trans (Same.but s58)).trans bu9
    have tg9 : TabG (upd (upd (upd G6 q (.lst (as.map V.ref))) tb (.tup (as.map V.ref))) p (.ins WC dx (putF "steps" (V.ref tb) [("labels", .int l), ("facts", .int f), ("states", .ref ta)]))) tA := by
      obtain ⟨qs, z, t⟩ := tg
      exact ⟨qs, bH9 _ _ ntA z, t⟩
    generalize upd (upd (upd G6 q (.lst (as.map V.ref))) tb (.tup (as.map V.ref))) p (.ins WC dx (putF "steps" (V.ref tb) [("labels", .int l), ("facts", .int f), ("states", .ref ta)])) = G9 at W bH9 tg9
    -- the checks
    have bad := k2 ts sort perm
    refine ⟨.int l, rfl, .int f, rfl, l, f, rfl, fun o1 => ?_, fun o1 => bad (fun ss _ => by unfold okWorld; rw [o1, Bool.false_and]) _⟩
    refine ⟨.ref p, rfl, p, dx, l, f, ta, tb, ras, Xs, rfl, ⟨W.ob, W.st, W.rw⟩, tg9, xs1, fun o2 H10 t10 => ?_, fun o2 H10 => bad (fun ss _ => by unfold okWorld; rw [o2, Bool.false_and, Bool.and_false]) _⟩
    have W10 := W.tb tg9 t10
    refine ⟨.ref p, rfl, p, dx, l, f, ta, tb, ras, as, Xs, ts, rfl, W10, t10.2, fun ss ets o3 H11 t11 => ?_, fun o3 H11 => bad (fun ss e => by unfold okWorld; rw [o3 ss e, Bool.and_false, Bool.and_false]) _⟩
    subst ets
    have okW : okWorld l f Xs ss = true := by unfold okWorld; rw [o1, o2, o3]; rfl
    have sort3 : ss.Pairwise fun x y => lex3 y x = false := (List.pairwise_map.mp sort).imp fun {x y} h => by rw [lex_of3] at h; exact h
    have good := k1 ss ta tb
    have W11' := W10.tb t10.2 t11
    have W11 : WoA K WC H11 p dx l f ta tb ras as Xs ss := ⟨W11'.ob, W11'.st, W11'.rw, W11'.sp, W11'.tr.pat⟩
    have lss : ss.length ≤ 1000 := by rw [← List.length_map (f := of3), perm.length_eq]; exact ps1
    refine ⟨.ref p, rfl, p, WC, dx, _, .ref tb, rfl, W11.ob, TC.cl, TC.nT, rfl, tb, as, ss, rfl, W11.sp, W11.tr, lss, fun d H12 s12 en => ?_⟩
    refine ⟨.ref p, rfl, p, WC, dx, _, rfl, s12 _ _ W11.ob, TC.cl, TC.nE, by show 4 < 1000; decide, ?_⟩
    have g12 := s12 _ _ W11.ob
    have bu13 : But p H12 (upd H12 p (.ins WC dx (putF "_ends" (V.ref d) (wf l f ta tb)))) := But.upd
    have tg12 := t11.2.same s12
    refine good d ras as _ sort3 perm okW (fun b o n1 n2 e => ?_) ?_ ⟨by rw [upd_same]; rfl, SqT.butO g12 bu13 (SqT.same s12 W11.st), (W11.rw.same s12).butO g12 bu13, SqT.butO g12 bu13 (SqT.same s12 W11.sp), (W11.tr.same s12).butO g12 bu13, (en.butO g12 bu13).weak fun b hb => ?_⟩
    · exact bu13 _ _ n1 (s12 _ _ (t11.1 _ _ n2 (t10.1 _ _ n2 (bH9 _ _ n1 e))))
    · obtain ⟨qs, z, t⟩ := tg12
      exact ⟨qs, bu13 _ _ ntA z, t⟩
    · cases q : H b with
      | none => rfl
      | some o =>
        by_cases n1 : b = p
        · rw [n1, W11.ob] at hb
          cases hb
        · by_cases n2 : b = tA
          · obtain ⟨qs, z, t⟩ := t11.2
            rw [n2, z] at hb
            cases hb
          · rw [t11.1 _ _ n2 (t10.1 _ _ n2 (bH9 _ _ n1 q))] at hb
            cases hb
end
end Fw

/-! Texts of worlds: writing, and reading word by word. Pure mathematics over lists of signs. -/
namespace Fw
open PySem TL
/-- cut at each c -/
def cutc (c : Nat) : List Nat → List (List Nat)
  | [] => [[]]
  | d :: r => if d = c then [] :: cutc c r else match cutc c r with
    | p :: ps => (d :: p) :: ps
    | [] => [[d]]
theorem cutc_ne (c : Nat) : ∀ l, cutc c l ≠ []
  | [] => by simp [cutc]
  | d :: r => by
    unfold cutc
    split
    · simp
    · split <;> simp
theorem spl_cutc (c : Nat) : ∀ (l acc : List Nat), spl [c] 0 acc l = match cutc c l with | p :: ps => (acc ++ p) :: ps | [] => [acc]
  | [], acc => by rw [spl_nil]; simp [cutc]
  | d :: r, acc => by
    by_cases e : d = c
    · subst e
      rw [spl_hit (show TL.pre [d] (d :: r) = true from by show (([d] : List Nat) == [d]) = true; exact beq_self_eq_true _), show ([d] : List Nat).length - 1 = 0 from rfl, spl_cutc d r []]
      rw [show cutc d (d :: r) = [] :: cutc d r from if_pos rfl]
      cases h : cutc d r with
      | nil => exact absurd h (cutc_ne d r)
      | cons p ps => simp
    · rw [spl_miss (pre_of_head [] r e), spl_cutc c r (acc ++ [d])]
      have : cutc c (d :: r) = match cutc c r with | p :: ps => (d :: p) :: ps | [] => [[d]] := if_neg e
      rw [this]
      cases h : cutc c r with
      | nil => exact absurd h (cutc_ne c r)
      | cons p ps => simp
theorem spl_cut (c : Nat) (l : List Nat) : spl [c] 0 [] l = cutc c l := by
  rw [spl_cutc]
  cases h : cutc c l with
  | nil => exact absurd h (cutc_ne c l)
  | cons p ps => simp
theorem cutc_free (c : Nat) : ∀ (l : List Nat), ∀ p ∈ cutc c l, c ∉ p
  | [], p, h => by rw [show cutc c [] = [[]] from rfl, List.mem_singleton] at h; subst h; simp
  | d :: r, p, h => by
    by_cases e : d = c
    · rw [show cutc c (d :: r) = [] :: cutc c r from if_pos e] at h
      rcases List.mem_cons.mp h with rfl | h
      · simp
      · exact cutc_free c r p h
    · rw [show cutc c (d :: r) = _ from if_neg e] at h
      cases q : cutc c r with
      | nil => exact absurd q (cutc_ne c r)
      | cons z zs =>
        rw [q] at h
        have ih := cutc_free c r
        rw [q] at ih
        rcases List.mem_cons.mp h with rfl | h
        · intro m
          rcases List.mem_cons.mp m with m | m
          · exact e m.symm
          · exact ih z List.mem_cons_self m
        · exact ih p (List.mem_cons_of_mem _ h)
theorem join_cutc (c : Nat) : ∀ l : List Nat, joinL [c] (cutc c l) = l
  | [] => rfl
  | d :: r => by
    have ih := join_cutc c r
    by_cases e : d = c
    · rw [show cutc c (d :: r) = [] :: cutc c r from if_pos e]
      cases q : cutc c r with
      | nil => exact absurd q (cutc_ne c r)
      | cons z zs =>
        rw [q] at ih
        show [] ++ ([c] ++ joinL [c] (z :: zs)) = d :: r
        rw [ih, e]
        rfl
    · rw [show cutc c (d :: r) = _ from if_neg e]
      cases q : cutc c r with
      | nil => exact absurd q (cutc_ne c r)
      | cons z zs =>
        rw [q] at ih
        show joinL [c] ((d :: z) :: zs) = d :: r
        cases zs with
        | nil => rw [← ih]; rfl
        | cons y ys => rw [← ih]; rfl
theorem cutc_join {c : Nat} {ps : List (List Nat)} (h : ps ≠ []) (f : ∀ p ∈ ps, c ∉ p) : cutc c (joinL [c] ps) = ps := by
  rw [← spl_cut]
  exact spl_join h f
/-- rows with their ends -/
def rowsL (Ls : List (List Nat)) : List Nat := (Ls.map fun L => L ++ [10]).flatten
theorem rows_join : ∀ Ls : List (List Nat), rowsL Ls = joinL [10] (Ls ++ [[]])
  | [] => rfl
  | [L] => by simp [rowsL, joinL]
  | L :: M :: Ls => by
    have ih := rows_join (M :: Ls)
    show (L ++ [10]) ++ rowsL (M :: Ls) = L ++ ([10] ++ joinL [10] (M :: Ls ++ [[]]))
    rw [ih, List.append_assoc]
theorem cut_rows {Ls : List (List Nat)} (f : ∀ L ∈ Ls, 10 ∉ L) : cutc 10 (rowsL Ls) = Ls ++ [[]] := by
  rw [rows_join]
  exact cutc_join (by simp) fun p hp => by
    rcases List.mem_append.mp hp with h | h
    · exact f p h
    · rw [List.mem_singleton.mp h]; simp
/-- a text whose last row is empty is its rows with their ends -/
theorem rows_of {T : List Nat} {Ls : List (List Nat)} (h : cutc 10 T = Ls ++ [[]]) : T = rowsL Ls := by
  rw [rows_join, ← h, join_cutc]
/-! ### numbers -/
def numZ (n : Int) : List Nat := numL n.toNat
def isNumW (w : List Nat) : Bool := (decide (0 < w.length) && w.all fun c => decide (48 ≤ c) && decide (c ≤ 57)) && decide (w.length ≤ 3)
def valW (w : List Nat) : Int := (NumText.digitsVal w : Nat)
/-- a word that is the text of a number of up to three digits, else -1 -/
def lawNum (w : List Nat) : Int := if w = [] ∨ 3 < w.length ∨ (w.head? = some 48 ∧ 1 < w.length) then -1 else if w.all (fun c => decide (48 ≤ c) && decide (c ≤ 57)) = true then valW w else -1
theorem numL_one (a : Nat) (h1 : 48 ≤ a) (h2 : a ≤ 57) : numL (a - 48) = [a] := by
  rw [numL_lt (by omega)]
  congr 1
  omega
theorem canon {w : List Nat} (h0 : w ≠ []) (h3 : w.length ≤ 3) (hd : ∀ c ∈ w, 48 ≤ c ∧ c ≤ 57) (hz : ¬ (w.head? = some 48 ∧ 1 < w.length)) : w = numL (NumText.digitsVal w) := by
  match w, h0, h3, hd, hz with
  | [a], _, _, hd, _ =>
    have ha := hd a List.mem_cons_self
    show [a] = numL (0 * 10 + (a - 48))
    rw [Nat.zero_mul, Nat.zero_add, numL_one a ha.1 ha.2]
  | [a, b], _, _, hd, hz =>
    have ha := hd a List.mem_cons_self
    have hb := hd b (by simp)
    have na : a ≠ 48 := fun e => hz ⟨by rw [e]; rfl, by show 1 < 2; decide⟩
    show [a, b] = numL ((0 * 10 + (a - 48)) * 10 + (b - 48))
    rw [numL_step (by omega), show ((0 * 10 + (a - 48)) * 10 + (b - 48)) / 10 = a - 48 by omega, show 48 + ((0 * 10 + (a - 48)) * 10 + (b - 48)) % 10 = b by omega, numL_one a ha.1 ha.2]
    rfl
  | [a, b, c], _, _, hd, hz =>
    have ha := hd a List.mem_cons_self
    have hb := hd b (by simp)
    have hc := hd c (by simp)
    have na : a ≠ 48 := fun e => hz ⟨by rw [e]; rfl, by show 1 < 3; decide⟩
    show [a, b, c] = numL (((0 * 10 + (a - 48)) * 10 + (b - 48)) * 10 + (c - 48))
    rw [numL_step (by omega), show (((0 * 10 + (a - 48)) * 10 + (b - 48)) * 10 + (c - 48)) / 10 = (a - 48) * 10 + (b - 48) by omega, show 48 + (((0 * 10 + (a - 48)) * 10 + (b - 48)) * 10 + (c - 48)) % 10 = c by omega,
      numL_step (by omega), show ((a - 48) * 10 + (b - 48)) / 10 = a - 48 by omega, show 48 + ((a - 48) * 10 + (b - 48)) % 10 = b by omega, numL_one a ha.1 ha.2]
    rfl
  | a :: b :: c :: d :: r, _, h3, _, _ => simp at h3
theorem lawNum_back {w : List Nat} (h : 0 ≤ lawNum w) : w = numZ (lawNum w) := by
  unfold lawNum at h ⊢
  split at h
  · omega
  · rename_i n
    rw [if_neg n]
    split at h
    · rename_i ad
      rw [if_pos ad]
      have n1 : w ≠ [] := fun e => n (.inl e)
      have n2 : ¬ 3 < w.length := fun e => n (.inr (.inl e))
      have n3 : ¬ (w.head? = some 48 ∧ 1 < w.length) := fun e => n (.inr (.inr e))
      refine canon n1 (by omega) (fun c hc => ?_) n3
      have := List.all_eq_true.mp ad c hc
      rw [Bool.and_eq_true, decide_eq_true_eq, decide_eq_true_eq] at this
      exact this
    · omega
theorem digits_all (n : Nat) : (numL n).all (fun c => decide (48 ≤ c) && decide (c ≤ 57)) = true := List.all_eq_true.mpr fun c hc => by
  have := numL_digits n c hc
  rw [Bool.and_eq_true, decide_eq_true_eq, decide_eq_true_eq]
  exact this
theorem numL_head {n : Nat} (h : 10 ≤ n) : (numL n).head? ≠ some 48 := by
  induction n using Nat.strongRecOn with
  | _ n ih =>
    rw [numL_step h]
    by_cases c : n / 10 < 10
    · rw [numL_lt c]
      simp
      omega
    · have := ih (n / 10) (by omega) (by omega)
      cases e : numL (n / 10) with
      | nil => exact absurd e (numL_ne _)
      | cons a r =>
        rw [e] at this
        exact this
theorem lawNum_num {n : Int} (h0 : 0 ≤ n) (h : n < 1000) : lawNum (numZ n) = n := by
  unfold lawNum numZ
  have l3 := numL_len (n := n.toNat) (k := 3) (by decide) (by omega)
  rw [if_neg, if_pos (digits_all _)]
  · unfold valW
    rw [numL_val]
    omega
  · rintro (e | e | ⟨e1, e2⟩)
    · exact numL_ne _ e
    · omega
    · by_cases c : n.toNat < 10
      · rw [numL_lt c] at e2
        simp at e2
      · exact numL_head (by omega) e1
theorem isNum_num {n : Int} (h0 : 0 ≤ n) (h : n < 1000) : isNumW (numZ n) = true ∧ valW (numZ n) = n := by
  have l3 := numL_len (n := n.toNat) (k := 3) (by decide) (by omega)
  refine ⟨?_, ?_⟩
  · unfold isNumW numZ
    rw [Bool.and_eq_true, Bool.and_eq_true, decide_eq_true_eq, decide_eq_true_eq]
    exact ⟨⟨List.length_pos_iff.mpr (numL_ne _), digits_all _⟩, l3⟩
  · unfold valW numZ
    rw [numL_val]
    omega
/-! ### rows -/
def lineL (wd : List Nat) (ns : List Int) : List Nat := joinL [32] (wd :: ns.map numZ)
theorem words_line {wd : List Nat} {ns : List Int} (h : 32 ∉ wd) : cutc 32 (lineL wd ns) = wd :: ns.map numZ := cutc_join (by simp) fun p hp => by
  rcases List.mem_cons.mp hp with rfl | hp
  · exact h
  · obtain ⟨n, _, rfl⟩ := List.mem_map.mp hp
    exact numL_free (.inl (by decide))
theorem mem_joinL {S : List Nat} {c : Nat} : ∀ {ps : List (List Nat)}, c ∈ joinL S ps → c ∈ S ∨ ∃ p ∈ ps, c ∈ p
  | [], h => by cases h
  | [p], h => .inr ⟨p, List.mem_cons_self, h⟩
  | p :: q :: r, h => by
    rcases List.mem_append.mp (show c ∈ p ++ (S ++ joinL S (q :: r)) from h) with h | h
    · exact .inr ⟨p, List.mem_cons_self, h⟩
    · rcases List.mem_append.mp h with h | h
      · exact .inl h
      · rcases mem_joinL h with h | ⟨z, hz, hc⟩
        · exact .inl h
        · exact .inr ⟨z, List.mem_cons_of_mem _ hz, hc⟩
theorem line_free {wd : List Nat} {ns : List Int} (h : 10 ∉ wd) : 10 ∉ lineL wd ns := fun m => by
  rcases mem_joinL m with m | ⟨p, hp, hc⟩
  · simp at m
  · rcases List.mem_cons.mp hp with rfl | hp
    · exact h hc
    · obtain ⟨n, _, rfl⟩ := List.mem_map.mp hp
      exact numL_free (.inl (by decide)) hc
def wWorld : List Nat := [119, 111, 114, 108, 100]
def wState : List Nat := [115, 116, 97, 116, 101]
def wStep : List Nat := [115, 116, 101, 112]
/-- the rows of a world's text -/
def fmtR (l f : Int) (Xs : List (List Int)) (ss : List T3) : List (List Nat) :=
  lineL wWorld [l, f, (Xs.length : Int)] :: (Xs.map (lineL wState) ++ ss.map fun p => lineL wStep [p.1, p.2.1, p.2.2])
def fmtL (l f : Int) (Xs : List (List Int)) (ss : List T3) : List Nat := rowsL (fmtR l f Xs ss)
theorem fmtR_free (l f : Int) (Xs : List (List Int)) (ss : List T3) : ∀ L ∈ fmtR l f Xs ss, 10 ∉ L := fun L hL => by
  rcases List.mem_cons.mp hL with rfl | hL
  · exact line_free (by decide)
  · rcases List.mem_append.mp hL with hL | hL
    · obtain ⟨X, _, rfl⟩ := List.mem_map.mp hL
      exact line_free (by decide)
    · obtain ⟨p, _, rfl⟩ := List.mem_map.mp hL
      exact line_free (by decide)
theorem cut_fmt (l f : Int) (Xs : List (List Int)) (ss : List T3) : cutc 10 (fmtL l f Xs ss) = fmtR l f Xs ss ++ [[]] := cut_rows (fmtR_free l f Xs ss)
end Fw

set_option maxRecDepth 100000
set_option maxHeartbeats 8000000
namespace Fw
open PySem PySem.Spec PyProof.Rows L2 GxR
open TL (tl tl_append len_tl ext_tl joinL tl_join join_eq tl_num)
def sZ (l : List Nat) : Str := ⟨l.toArray⟩
theorem tl_sZ (l : List Nat) : tl (sZ l) = l := rfl
theorem log_small {n : Int} (h : 0 ≤ n ∧ n < 1000) : n.natAbs.log2 < 1920 := by
  have : n.natAbs.log2 ≤ n.natAbs := Nat.log2_le_self _
  omega
theorem num_tl {n : Int} (h : 0 ≤ n) : tl (Str.ofString (toString n)) = numZ n := by
  obtain ⟨m, rfl⟩ : ∃ m : Nat, n = (m : Int) := ⟨n.toNat, by omega⟩
  rw [tl_num]
  rfl
theorem nums_tl : ∀ {ns : List Int}, (∀ n ∈ ns, 0 ≤ n ∧ n < 1000) → (ns.map fun n => Str.ofString (toString n)).map tl = ns.map numZ
  | [], _ => rfl
  | n :: ns, h => by
    rw [List.map_cons, List.map_cons, List.map_cons, num_tl (h n List.mem_cons_self).1, nums_tl fun m hm => h m (List.mem_cons_of_mem _ hm)]
theorem num_len {n : Int} (h : 0 ≤ n ∧ n < 1000) : (Str.ofString (toString n)).length ≤ 3 := by
  rw [len_tl, num_tl h.1]
  exact TL.numL_len (by decide) (by omega)
theorem nums_sum : ∀ {ns : List Int}, (∀ n ∈ ns, 0 ≤ n ∧ n < 1000) → ((ns.map fun n => Str.ofString (toString n)).map (·.length)).sum ≤ 3 * ns.length
  | [], _ => Nat.le_refl _
  | n :: ns, h => by
    have := num_len (h n List.mem_cons_self)
    have := nums_sum fun m hm => h m (List.mem_cons_of_mem _ hm)
    simp only [List.map_cons, List.sum_cons, List.length_cons]
    omega
/-- a row of a text -/
theorem line_tl {wd : Str} {ns : List Int} (h : ∀ n ∈ ns, 0 ≤ n ∧ n < 1000) : Txt.join " " (wd :: ns.map fun n => Str.ofString (toString n)) ++ ("\n" : Str) = sZ (lineL (tl wd) ns ++ [10]) := by
  refine ext_tl ?_
  rw [tl_sZ, tl_append, join_eq, tl_join]
  have e1 : tl (" " : Str) = [32] := by decide +kernel
  have e2 : tl ("\n" : Str) = [10] := by decide +kernel
  rw [e1, e2, List.map_cons, nums_tl h]
  rfl
theorem joinL_len (S : List Nat) : ∀ (ps : List (List Nat)) (p : List Nat), (joinL S (p :: ps)).length = p.length + (ps.map fun q => S.length + q.length).sum
  | [], p => rfl
  | q :: ps, p => by
    show (p ++ (S ++ joinL S (q :: ps))).length = _
    rw [List.length_append, List.length_append, joinL_len S ps q, List.map_cons, List.sum_cons]
    omega
theorem line_len {wd : List Nat} {ns : List Int} (h : ∀ n ∈ ns, 0 ≤ n ∧ n < 1000) : (lineL wd ns).length ≤ wd.length + 4 * ns.length := by
  unfold lineL
  rw [joinL_len]
  have : ((ns.map numZ).map fun q => ([32] : List Nat).length + q.length).sum ≤ 4 * ns.length := by
    induction ns with
    | nil => exact Nat.le_refl _
    | cons n ns ih =>
      have b := h n List.mem_cons_self
      have l3 : (numZ n).length ≤ 3 := TL.numL_len (by decide) (by omega)
      have := ih fun m hm => h m (List.mem_cons_of_mem _ hm)
      simp only [List.map_cons, List.sum_cons, List.length_cons, List.length_nil] at this ⊢
      omega
  omega
theorem len_app (x y : Str) : (x ++ y).length = x.length + y.length := by rw [len_tl, len_tl, len_tl, tl_append, List.length_append]
theorem line_size {wd : Str} {ns : List Int} (h : ∀ n ∈ ns, 0 ≤ n ∧ n < 1000) (h1 : ns.length ≤ 900) (h2 : wd.length ≤ 10) : (Txt.join " " (wd :: ns.map fun n => Str.ofString (toString n))).length + ("\n" : Str).length ≤ sizeLine := by
  rw [← len_app, line_tl h, len_tl, tl_sZ, List.length_append]
  have := line_len (wd := tl wd) h
  rw [len_tl] at h2
  have e : (3700 : Nat) ≤ sizeLine := by decide
  simp only [List.length_singleton]
  omega
theorem ints_nth {xs : List Int} {i : Nat} {x : V} (hx : (xs.map V.int)[i]? = some x) : ∃ z, xs[i]? = some z ∧ x = V.int z := by
  rw [List.getElem?_map] at hx
  cases e : xs[i]? with
  | none => rw [e] at hx; cases hx
  | some z => rw [e] at hx; exact ⟨z, rfl, (Option.some.inj hx).symm⟩
section
variable {P : Program} {w : World} {K : PySem.W.Frag} {mg : Str → Option Value} {base : Heap} {C J B NC WC cA tA : Addr} {t1 t2 t3 : Tok}
def spLine (K : PySem.W.Frag) : Sp := fun vs H Q _ => ∃ (wd : Str) (na : Addr) (ns : List Int), vs = [.str wd, .ref na] ∧ Sq K H na (ns.map V.int) ∧ (∀ n ∈ ns, 0 ≤ n ∧ n < 1000) ∧ ns.length ≤ 900 ∧ wd.length ≤ 10 ∧
  ∀ H', Same H H' → Q (.str (sZ (lineL (tl wd) ns ++ [10]))) H'
theorem ok_line_of {f : Addr} {fd : FuncData} (FF : Fun K "line_of" "line_of" s_line_of f fd) (T : Txt K mg C J B) : FnOk P w K mg base CX0 1 f fd a_line_of (spLine K) := by
  refine FF.ok sc_line_of (fun vs H Q E h => ?_) (fun cdv A outer s H vs Q E hr h => ?_)
  · obtain ⟨wd, na, ns, rfl, _⟩ := h
    rfl
  · obtain ⟨wd, na, ns, rfl, hn, bd, l1, l2, k⟩ := h
    refine ⟨_, (pss_one (ps_ret (pe_op op_add_str (pe_bm PySem.F.plainAttrs_str PySem.F.slot_str_join PySem.F.type_str_join mt_join pe_str (pa_cons (pe_op op_cat (pe_lst (pa_cons (pv 0) pa_nil)) (pe_lc (own := [("number", 2)]) (g := gName 2) rfl sc_line_of.nd (pi_sq (pv 1)) (blkOk_by (own := [("number", 2)]) (N := n_line_of) (sc := defScope s_line_of) (by decide +kernel)) (fun _ _ _ _ _ => (pg_name (i := 2) sc_line_of.nd rfl (.inl rfl))) (fun _ _ _ _ _ => pts_nil) (fun _ _ _ _ _ => (pe_callTy call_str_int rfl T.z_str (by decide +kernel) (pa_cons (pv 2) pa_nil))))) pa_nil)) pe_str))), ?_⟩
    refine ⟨rfl, .str wd, rfl, by show 1 ≤ sizeLine; decide, fun L hL => ?_⟩
    have s1 := Same.new (o := .lst [.str wd]) hL
    have gL : (upd H L (.lst [.str wd])) L = some (.lst [.str wd]) := upd_same
    generalize upd H L (.lst [.str wd]) = H1 at s1 gL
    refine ⟨.ref na, rfl, na, _, rfl, hn.same s1, fun It hIt D hD => ?_⟩
    refine lc_sq hIt (fun i G => Same H1 G ∧ G D = some (.lst (((ns.take i).map fun n => Str.ofString (toString n)).map V.str))) ⟨Same.new hD, upd_same⟩ (fun i G ⟨sG, _⟩ => sG) ?_ ?_
    · rintro i x G hx ⟨sG, gD⟩
      obtain ⟨n, hz, rfl⟩ := ints_nth hx
      have b2 := bd n (List.mem_of_getElem? hz)
      have il := (List.getElem?_eq_some_iff.mp hz).1
      refine ⟨rfl, .int n, rfl, n, rfl, log_small b2, _, gD, by rw [List.length_map, List.length_map, List.length_take]; exact small1000 (by omega), fun b u e => by rw [upd_ne (ne_of_none e hD)]; exact sG b u e, ?_⟩
      rw [upd_same, List.take_add_one, hz, Option.toList_some, List.map_append, List.map_append]
      rfl
    rintro G ⟨sG, gD⟩
    rw [List.length_map, List.take_length] at gD
    refine ⟨L, D, _, _, rfl, rfl, sG _ _ gL, gD, by rw [List.length_map, List.length_map]; show 1 + ns.length ≤ sizeLine; exact Nat.le_of_lt (small1000 (by omega)), fun p hp => ?_⟩
    refine ⟨" ", p, wd :: ns.map fun n => Str.ofString (toString n), rfl, rfl, .inl (SqL.of upd_same), ?_, ?_⟩
    · have := nums_sum bd
      have e1 : (" " : Str).length = 1 := by decide +kernel
      rw [e1]
      simp only [List.map_cons, List.sum_cons, List.length_cons, List.length_map]
      simp only [List.map_map] at this ⊢
      omega
    · have e2 : ("\n" : Str).length = 1 := by decide +kernel
      refine ⟨_, _, rfl, rfl, ?_, ?_⟩
      · exact line_size bd l1 l2
      · rw [line_tl bd]
        exact k _ ((s1.trans sG).trans (Same.new hp))
theorem ok_law_line {f : Addr} {fd : FuncData} (FF : Fun K "_law_line" "_law_line" s_law_line f fd) (T : Txt K mg C J B) : FnOk P w K mg base CX0 1 f fd a_law_line (spLine K) := by
  refine FF.ok sc_law_line (fun vs H Q E h => ?_) (fun cdv A outer s H vs Q E hr h => ?_)
  · obtain ⟨wd, na, ns, rfl, _⟩ := h
    rfl
  · obtain ⟨wd, na, ns, rfl, hn, bd, l1, l2, k⟩ := h
    refine ⟨_, (pss_one (ps_ret (pe_op op_add_str (pe_bm PySem.F.plainAttrs_str PySem.F.slot_str_join PySem.F.type_str_join mt_join pe_str (pa_cons (pe_op op_cat (pe_lst (pa_cons (pv 0) pa_nil)) (pe_lc (own := [("number", 2)]) (g := gName 2) rfl sc_law_line.nd (pi_sq (pv 1)) (blkOk_by (own := [("number", 2)]) (N := n_law_line) (sc := defScope s_law_line) (by decide +kernel)) (fun _ _ _ _ _ => (pg_name (i := 2) sc_law_line.nd rfl (.inl rfl))) (fun _ _ _ _ _ => pts_nil) (fun _ _ _ _ _ => (pe_callTy call_str_int rfl T.z_str (by decide +kernel) (pa_cons (pv 2) pa_nil))))) pa_nil)) pe_str))), ?_⟩
    refine ⟨rfl, .str wd, rfl, by show 1 ≤ sizeLine; decide, fun L hL => ?_⟩
    have s1 := Same.new (o := .lst [.str wd]) hL
    have gL : (upd H L (.lst [.str wd])) L = some (.lst [.str wd]) := upd_same
    generalize upd H L (.lst [.str wd]) = H1 at s1 gL
    refine ⟨.ref na, rfl, na, _, rfl, hn.same s1, fun It hIt D hD => ?_⟩
    refine lc_sq hIt (fun i G => Same H1 G ∧ G D = some (.lst (((ns.take i).map fun n => Str.ofString (toString n)).map V.str))) ⟨Same.new hD, upd_same⟩ (fun i G ⟨sG, _⟩ => sG) ?_ ?_
    · rintro i x G hx ⟨sG, gD⟩
      obtain ⟨n, hz, rfl⟩ := ints_nth hx
      have b2 := bd n (List.mem_of_getElem? hz)
      have il := (List.getElem?_eq_some_iff.mp hz).1
      refine ⟨rfl, .int n, rfl, n, rfl, log_small b2, _, gD, by rw [List.length_map, List.length_map, List.length_take]; exact small1000 (by omega), fun b u e => by rw [upd_ne (ne_of_none e hD)]; exact sG b u e, ?_⟩
      rw [upd_same, List.take_add_one, hz, Option.toList_some, List.map_append, List.map_append]
      rfl
    rintro G ⟨sG, gD⟩
    rw [List.length_map, List.take_length] at gD
    refine ⟨L, D, _, _, rfl, rfl, sG _ _ gL, gD, by rw [List.length_map, List.length_map]; show 1 + ns.length ≤ sizeLine; exact Nat.le_of_lt (small1000 (by omega)), fun p hp => ?_⟩
    refine ⟨" ", p, wd :: ns.map fun n => Str.ofString (toString n), rfl, rfl, .inl (SqL.of upd_same), ?_, ?_⟩
    · have := nums_sum bd
      have e1 : (" " : Str).length = 1 := by decide +kernel
      rw [e1]
      simp only [List.map_cons, List.sum_cons, List.length_cons, List.length_map]
      simp only [List.map_map] at this ⊢
      omega
    · have e2 : ("\n" : Str).length = 1 := by decide +kernel
      refine ⟨_, _, rfl, rfl, ?_, ?_⟩
      · exact line_size bd l1 l2
      · rw [line_tl bd]
        exact k _ ((s1.trans sG).trans (Same.new hp))
end
end Fw

set_option maxRecDepth 100000
set_option maxHeartbeats 8000000
namespace Fw
open PySem PySem.Spec PyProof.Rows L2 GxR
open TL (tl tl_append len_tl ext_tl joinL tl_join join_eq tl_num)
/-- a list of texts -/
def SL (H : Hp) (a : Addr) (ls : List Str) : Prop := H a = some (.lst (ls.map V.str))
structure Sm (l f : Int) (Xs : List (List Int)) (ss : List T3) : Prop where
  l : 0 ≤ l ∧ l < 1000
  f : 0 ≤ f ∧ f < 1000
  n : Xs.length ≤ 900
  r : ∀ X ∈ Xs, X.length ≤ 900 ∧ ∀ x ∈ X, 0 ≤ x ∧ x < 1000
  m : ss.length ≤ 1000
  s : ∀ p ∈ ss, (0 ≤ p.1 ∧ p.1 < 1000) ∧ (0 ≤ p.2.1 ∧ p.2.1 < 1000) ∧ (0 ≤ p.2.2 ∧ p.2.2 < 1000)
def lnS (L : List Nat) : Str := sZ (L ++ [10])
theorem rows_str (Ls : List (List Nat)) : tl (Str.join "" (Ls.map lnS)) = rowsL Ls := by
  rw [tl_join, show tl ("" : Str) = [] by decide +kernel, List.map_map]
  induction Ls with
  | nil => rfl
  | cons L Ls ih =>
    cases Ls with
    | nil => simp [joinL, rowsL, lnS, tl_sZ]
    | cons M Ls =>
      show tl (lnS L) ++ ([] ++ joinL [] ((M :: Ls).map (tl ∘ lnS))) = _
      rw [ih]
      rfl
theorem lnS_len (L : List Nat) : (lnS L).length = L.length + 1 := by
  unfold lnS
  rw [len_tl, tl_sZ, List.length_append]
  rfl
theorem sum_le {α : Type} {g : α → Nat} {m : Nat} : ∀ {l : List α}, (∀ x ∈ l, g x ≤ m) → (l.map g).sum ≤ m * l.length
  | [], _ => Nat.le_refl _
  | x :: l, h => by
    have := h x List.mem_cons_self
    have := sum_le fun y hy => h y (List.mem_cons_of_mem _ hy)
    rw [List.map_cons, List.sum_cons, List.length_cons, Nat.mul_succ]
    omega
theorem text_size {l f : Int} {Xs : List (List Int)} {ss : List T3} (sm : Sm l f Xs ss) : (((fmtR l f Xs ss).map lnS).map (·.length)).sum ≤ 16777216 := by
  rw [List.map_map]
  have : ∀ L ∈ fmtR l f Xs ss, (Str.length ∘ lnS) L ≤ 3700 := fun L hL => by
    show (lnS L).length ≤ 3700
    rw [lnS_len]
    have n := sm.n
    rcases List.mem_cons.mp hL with rfl | hL
    · have := line_len (wd := wWorld) (ns := [l, f, (Xs.length : Int)]) fun n hn => by
        rcases List.mem_cons.mp hn with rfl | hn
        · exact sm.l
        · rcases List.mem_cons.mp hn with rfl | hn
          · exact sm.f
          · rw [List.mem_singleton.mp hn]
            omega
      have e : wWorld.length = 5 := rfl
      have e2 : ([l, f, (Xs.length : Int)] : List Int).length = 3 := rfl
      omega
    · rcases List.mem_append.mp hL with hL | hL
      · obtain ⟨X, hX, rfl⟩ := List.mem_map.mp hL
        have b := sm.r X hX
        have := line_len (wd := wState) b.2
        have e : wState.length = 5 := rfl
        omega
      · obtain ⟨q, hq, rfl⟩ := List.mem_map.mp hL
        have b := sm.s q hq
        have := line_len (wd := wStep) (ns := [q.1, q.2.1, q.2.2]) fun n hn => by
          rcases List.mem_cons.mp hn with rfl | hn
          · exact b.1
          · rcases List.mem_cons.mp hn with rfl | hn
            · exact b.2.1
            · rw [List.mem_singleton.mp hn]
              exact b.2.2
        have e : wStep.length = 4 := rfl
        have e2 : ([q.1, q.2.1, q.2.2] : List Int).length = 3 := rfl
        omega
  have h1 := sum_le this
  have h2 : (fmtR l f Xs ss).length = 1 + (Xs.length + ss.length) := by
    unfold fmtR
    rw [List.length_cons, List.length_append, List.length_map, List.length_map]
    omega
  have n := sm.n
  have m := sm.m
  have : 3700 * (fmtR l f Xs ss).length ≤ 3700 * 1901 := Nat.mul_le_mul_left _ (by omega)
  show ((fmtR l f Xs ss).map (Str.length ∘ lnS)).sum ≤ 16777216
  omega
section
variable {P : Program} {w : World} {K : PySem.W.Frag} {mg : Str → Option Value} {base : Heap} {C J B NC WC cA tA : Addr} {t1 t2 t3 : Tok}
def spFmtW (K : PySem.W.Frag) (WC : Addr) : Sp := fun vs H Q _ => ∃ (H0 : Hp) (p dx : Addr) (l f : Int) (ta tb d : Addr) (ras as : List Addr) (Xs : List (List Int)) (ss : List T3), vs = [.ref p] ∧ WoE K WC H0 H p dx l f ta tb d ras as Xs ss ∧ Sm l f Xs ss ∧
  ∀ H', Same H H' → Q (.str (sZ (fmtL l f Xs ss))) H'
theorem ok_format_world {f : Addr} {fd : FuncData} (FF : Fun K "format_world" "format_world" s_format_world f fd) (T : Txt K mg C J B) (TC : TxtC K WC) (h_line_of : Has P w K mg base "line_of" 1 a_line_of (spLine K)) : FnOk P w K mg base CX0 2 f fd a_format_world (spFmtW K WC) := by
  refine FF.ok sc_format_world (fun vs H Q E h => ?_) (fun cdv A outer s H vs Q E hr h => ?_)
  · obtain ⟨H0, p, dx, l, f, ta, tb, d, ras, as, Xs, ss, rfl, _⟩ := h
    rfl
  · obtain ⟨H0, p, dx, l, f, ta, tb, d, ras, as, Xs, ss, rfl, WE, sm, k⟩ := h
    refine ⟨_, (pss_cons (ps_set (i := 1) sc_format_world.nd rfl (.inl rfl) (pe_lst (pa_cons (pe_callH h_line_of (hr.mono (by omega)) (pa_cons pe_str (pa_cons (pe_tup (pa_cons (pe_fld (pv 0) rfl) (pa_cons (pe_fld (pv 0) rfl) (pa_cons (pe_callB call_len_seq rfl T.z_len (by decide +kernel) (pa_cons (pe_fld (pv 0) rfl) pa_nil)) pa_nil)))) pa_nil))) pa_nil)))
      (pss_cons (ps_expr (pe_bm PySem.F.plainAttrs_list PySem.F.slot_list_extend PySem.F.type_list_extend mt_extend (pv 1) (pa_cons (pe_lc (own := [("row", 2)]) (g := gName 2) rfl sc_format_world.nd (pi_tup (pe_fld (pv 0) rfl)) (blkOk_by (own := [("row", 2)]) (N := n_format_world) (sc := defScope s_format_world) (by decide +kernel)) (fun _ _ _ _ _ => (pg_name (i := 2) sc_format_world.nd rfl (.inl rfl))) (fun _ _ _ _ _ => pts_nil) (fun _ _ _ _ _ => (pe_callH h_line_of (hr.mono (by omega)) (pa_cons pe_str (pa_cons (pv 2) pa_nil))))) pa_nil)))
      (pss_cons (ps_expr (pe_bm PySem.F.plainAttrs_list PySem.F.slot_list_extend PySem.F.type_list_extend mt_extend (pv 1) (pa_cons (pe_lc (own := [("step", 3)]) (g := gName 3) rfl sc_format_world.nd (pi_tup (pe_fld (pv 0) rfl)) (blkOk_by (own := [("step", 3)]) (N := n_format_world) (sc := defScope s_format_world) (by decide +kernel)) (fun _ _ _ _ _ => (pg_name (i := 3) sc_format_world.nd rfl (.inl rfl))) (fun _ _ _ _ _ => pts_nil) (fun _ _ _ _ _ => (pe_callH h_line_of (hr.mono (by omega)) (pa_cons pe_str (pa_cons (pv 3) pa_nil))))) pa_nil)))
      (pss_one (ps_ret (pe_bm PySem.F.plainAttrs_str PySem.F.slot_str_join PySem.F.type_str_join mt_join pe_str (pa_cons (pv 1) pa_nil))))))), ?_⟩
    refine ⟨.ref p, rfl, p, WC, dx, _, .int l, rfl, WE.ob, TC.cl, TC.nL, rfl, .ref p, rfl, p, WC, dx, _, .int f, rfl, WE.ob, TC.cl, TC.nF, rfl, .ref p, rfl, p, WC, dx, _, .ref ta, rfl, WE.ob, TC.cl, TC.nS, rfl, ta, _, rfl, .inr WE.st, by show 3 ≤ sizeLine; decide, fun t ht => ?_⟩
    have s1 := Same.new (o := .tup [.int l, .int f, .int (ras.map V.ref).length]) ht
    have eN : ((ras.map V.ref).length : Int) = (Xs.length : Int) := by rw [List.length_map, WE.rw.1]
    have hr1 := sm.n
    refine ⟨"world", t, [l, f, (Xs.length : Int)], rfl, .inr (SqT.of (by rw [upd_same, eN]; rfl)), ?_, by show 3 ≤ 900; decide, by decide +kernel, fun H1 sH => ?_⟩
    · intro n hn
      rcases List.mem_cons.mp hn with rfl | hn
      · exact sm.l
      · rcases List.mem_cons.mp hn with rfl | hn
        · exact sm.f
        · rw [List.mem_singleton.mp hn]
          omega
    have s2 := s1.trans sH
    have ew : tl ("world" : Str) = wWorld := by decide +kernel
    rw [ew]
    refine ⟨by show 1 ≤ sizeLine; decide, fun L hL => ?_⟩
    have s3 := s2.trans (Same.new (o := .lst [.str (sZ (lineL wWorld [l, f, (Xs.length : Int)] ++ [10]))]) hL)
    have gL : (upd H1 L (.lst [.str (sZ (lineL wWorld [l, f, (Xs.length : Int)] ++ [10]))])) L = some (.lst (([lineL wWorld [l, f, (Xs.length : Int)]].map lnS).map V.str)) := upd_same
    have no : H L = none := by
      cases e : H L with
      | none => rfl
      | some u => rw [s2 _ _ e] at hL; cases hL
    generalize upd H1 L (.lst [.str (sZ (lineL wWorld [l, f, (Xs.length : Int)] ++ [10]))]) = H2 at s3 gL
    -- the states
    refine ⟨.ref L, rfl, .inl ⟨rfl, _, SqL.of gL⟩, .ref p, rfl, p, WC, dx, _, .ref ta, rfl, s3 _ _ WE.ob, TC.cl, TC.nS, rfl, ta, rfl, ⟨_, SqT.same s3 WE.st⟩, fun D hD => ?_⟩
    refine lc_tup (xs := ras.map V.ref) (fun i G => Same H2 G ∧ SL G D ((((Xs.take i).map (lineL wState))).map lnS)) ⟨Same.new hD, upd_same⟩ (fun i G _ q => SqT.same (s3.trans q.1) WE.st) ?_ ?_
    · rintro i x G hx ⟨sG, gD⟩
      obtain ⟨a, X, rfl, ha, hX, sq⟩ := (WE.rw.same (s3.trans sG)).nth hx
      have bX := sm.r X (List.mem_of_getElem? hX)
      have il := (List.getElem?_eq_some_iff.mp hX).1
      refine ⟨rfl, .ref a, rfl, "state", a, X, rfl, .inr sq, bX.2, bX.1, by decide +kernel, fun G2 s2 => ?_⟩
      have e : tl ("state" : Str) = wState := by decide +kernel
      rw [e]
      have gD2 := s2 _ _ gD
      refine ⟨_, gD2, by rw [List.length_map, List.length_map, List.length_map, List.length_take]; exact small1000 (by omega), fun b u e => by rw [upd_ne (ne_of_none e hD)]; exact s2 _ _ (sG b u e), ?_⟩
      show _ = _
      rw [upd_same, List.take_add_one, hX, Option.toList_some, List.map_append, List.map_append, List.map_append]
      rfl
    rintro G1 ⟨sG, gD⟩
    rw [List.length_map, WE.rw.1, List.take_length] at gD
    have nLD : L ≠ D := ne_of_none gL hD
    refine ⟨L, D, _, _, rfl, rfl, sG _ _ gL, gD, by rw [List.length_map, List.length_map, List.length_map, List.length_map, List.length_map]; show 1 + Xs.length ≤ sizeLine; exact Nat.le_of_lt (small1000 (by omega)), ?_⟩
    have e0 : ∀ (b : Addr) (u : HO), H b = some u → (upd G1 L (.lst (([lineL wWorld [l, f, (Xs.length : Int)]].map lnS).map V.str ++ ((Xs.map (lineL wState)).map lnS).map V.str))) b = some u := fun b u e => by
      rw [upd_ne (ne_of_none e no)]
      exact sG _ _ (s3 _ _ e)
    have gL1 : (upd G1 L (.lst (([lineL wWorld [l, f, (Xs.length : Int)]].map lnS).map V.str ++ ((Xs.map (lineL wState)).map lnS).map V.str))) L = some (.lst (((lineL wWorld [l, f, (Xs.length : Int)] :: Xs.map (lineL wState)).map lnS).map V.str)) := by
      rw [upd_same, ← List.map_append, ← List.map_append]
      rfl
    have s4 : Same H (upd G1 L (.lst (([lineL wWorld [l, f, (Xs.length : Int)]].map lnS).map V.str ++ ((Xs.map (lineL wState)).map lnS).map V.str))) := e0
    clear e0 sG gD s3 gL hD nLD
    generalize upd G1 L (.lst (([lineL wWorld [l, f, (Xs.length : Int)]].map lnS).map V.str ++ ((Xs.map (lineL wState)).map lnS).map V.str)) = G2 at s4 gL1
    -- the steps
    refine ⟨.ref L, rfl, .inl ⟨rfl, _, SqL.of gL1⟩, .ref p, rfl, p, WC, dx, _, .ref tb, rfl, s4 _ _ WE.ob, TC.cl, TC.nT, rfl, tb, rfl, ⟨_, SqT.same s4 WE.sp⟩, fun D2 hD2 => ?_⟩
    refine lc_tup (xs := as.map V.ref) (fun i G => Same G2 G ∧ SL G D2 (((ss.take i).map fun p => lineL wStep [p.1, p.2.1, p.2.2]).map lnS)) ⟨Same.new hD2, upd_same⟩ (fun i G _ q => SqT.same (s4.trans q.1) WE.sp) ?_ ?_
    · rintro i x G hx ⟨sG, gD⟩
      obtain ⟨a, q, rfl, ha, hq, at_⟩ := (WE.tr.same (s4.trans sG)).nth hx
      have bq := sm.s q (List.mem_of_getElem? hq)
      have il := (List.getElem?_eq_some_iff.mp hq).1
      have hm := sm.m
      refine ⟨rfl, .ref a, rfl, "step", a, [q.1, q.2.1, q.2.2], rfl, .inr (SqT.of at_), ?_, by show 3 ≤ 900; decide, by decide +kernel, fun G3 s5 => ?_⟩
      · intro n hn
        rcases List.mem_cons.mp hn with rfl | hn
        · exact bq.1
        · rcases List.mem_cons.mp hn with rfl | hn
          · exact bq.2.1
          · rw [List.mem_singleton.mp hn]
            exact bq.2.2
      have e : tl ("step" : Str) = wStep := by decide +kernel
      rw [e]
      have gD2 := s5 _ _ gD
      refine ⟨_, gD2, by rw [List.length_map, List.length_map, List.length_map, List.length_take]; exact small1000 (by omega), fun b u e => by rw [upd_ne (ne_of_none e hD2)]; exact s5 _ _ (sG b u e), ?_⟩
      show _ = _
      rw [upd_same, List.take_add_one, hq, Option.toList_some, List.map_append, List.map_append, List.map_append]
      rfl
    rintro G4 ⟨sG, gD⟩
    rw [List.length_map, WE.tr.1, List.take_length] at gD
    have gL4 := sG _ _ gL1
    refine ⟨L, D2, _, _, rfl, rfl, gL4, gD, ?_, ?_⟩
    · have hm := sm.m
      have e9 : (2000 : Nat) ≤ sizeLine := by decide
      simp only [List.length_map, List.length_cons]
      omega
    have gL5 : (upd G4 L (.lst (((lineL wWorld [l, f, (Xs.length : Int)] :: Xs.map (lineL wState)).map lnS).map V.str ++ ((ss.map fun p => lineL wStep [p.1, p.2.1, p.2.2]).map lnS).map V.str))) L = some (.lst (((fmtR l f Xs ss).map lnS).map V.str)) := by
      rw [upd_same, ← List.map_append, ← List.map_append]
      rfl
    refine ⟨rfl, .ref L, rfl, "", L, (fmtR l f Xs ss).map lnS, rfl, rfl, .inl (SqL.of gL5), ?_, ?_⟩
    · have e1 : ("" : Str).length = 0 := by decide +kernel
      rw [e1, Nat.mul_zero, Nat.add_zero]
      exact text_size sm
    · rw [join_eq, show Str.join "" ((fmtR l f Xs ss).map lnS) = sZ (fmtL l f Xs ss) from ext_tl (by rw [rows_str]; rfl)]
      refine k _ fun b u e => ?_
      rw [upd_ne (ne_of_none e no)]
      exact sG _ _ (s4 _ _ e)
end
end Fw

set_option maxRecDepth 100000
set_option maxHeartbeats 8000000
namespace Fw
open PySem PySem.Spec PyProof.Rows L2 GxR
open TL (tl tl_append len_tl ext_tl joinL tl_join join_eq tl_num)
structure TxtDg (mg : Str → Option Value) (t4 : Tok) : Prop where
  m_MOST_DIGITS : mg "MOST_DIGITS" = some (.int 3 t4)
theorem split_cut (c : Nat) (s : Str) {y : Str} (ey : tl y = [c]) (hc : c < 256) : Txt.split s y = (cutc c (tl s)).map sZ := by
  refine TL.map_tl_inj ?_
  rw [TL.split_spl s y (by rw [ey]; simp) (TL.kind_ok (by
    have : y.cps = #[c] := Array.toList_inj.mp ey
    rw [this]
    simpa using hc)), ey, spl_cut, List.map_map]
  exact (List.map_id _).symm
theorem dec_small : ∀ c : Nat, c < 128 → Unicode.isDecimal c = (decide (48 ≤ c) && decide (c ≤ 57)) := by decide +kernel
theorem isdec_sZ {w : List Nat} (h : ∀ c ∈ w, c < 128) : Txt.isdecimal (sZ w) = (decide (0 < w.length) && w.all fun c => decide (48 ≤ c) && decide (c ≤ 57)) := by
  have e1 : (sZ w).length = w.length := by rw [len_tl]; rfl
  have e2 : (sZ w).cps.all Unicode.isDecimal = w.all fun c => decide (48 ≤ c) && decide (c ≤ 57) := by
    show w.toArray.all Unicode.isDecimal = _
    rw [List.all_toArray]
    induction w with
    | nil => rfl
    | cons c w ih =>
      rw [List.all_cons, List.all_cons, dec_small c (h c List.mem_cons_self), ih (fun d hd => h d (List.mem_cons_of_mem _ hd)) (by rw [len_tl]; rfl)]
  show (decide ((sZ w).length > 0) && _) = _
  rw [e1, e2]
theorem cutV_one (xs : List V) : cutV xs (some 1) none = xs.drop 1 := by
  unfold cutV
  rw [show HT.sIx xs.length 0 (some 1) = min 1 xs.length from HT.sIx_nat _ _ 1, HT.sIx_none]
  rcases Nat.le_total 1 xs.length with h | h
  · rw [Nat.min_eq_left h, List.take_of_length_le (by rw [List.length_drop]; exact Nat.le_refl _)]
  · rw [Nat.min_eq_right h, List.drop_length, List.drop_eq_nil_of_le h]
    simp
theorem strs_nth {xs : List (List Nat)} {i : Nat} {x : V} (hx : ((xs.map sZ).map V.str)[i]? = some x) : ∃ z, xs[i]? = some z ∧ x = V.str (sZ z) := by
  rw [List.getElem?_map, List.getElem?_map] at hx
  cases e : xs[i]? with
  | none => rw [e] at hx; cases hx
  | some z => rw [e] at hx; exact ⟨z, rfl, (Option.some.inj hx).symm⟩
theorem sZ_len (w : List Nat) : (sZ w).length = w.length := by rw [len_tl]; rfl
theorem cutc_mem {c d : Nat} : ∀ {l : List Nat} {q : List Nat}, q ∈ cutc c l → d ∈ q → d ∈ l
  | [], q, h, hd => by
    rw [show cutc c [] = [[]] from rfl, List.mem_singleton] at h
    rw [h] at hd
    cases hd
  | e :: r, q, h, hd => by
    by_cases z : e = c
    · rw [show cutc c (e :: r) = [] :: cutc c r from if_pos z] at h
      rcases List.mem_cons.mp h with rfl | h
      · cases hd
      · exact List.mem_cons_of_mem _ (cutc_mem h hd)
    · rw [show cutc c (e :: r) = _ from if_neg z] at h
      cases y : cutc c r with
      | nil => exact absurd y (cutc_ne c r)
      | cons p ps =>
        rw [y] at h
        rcases List.mem_cons.mp h with rfl | h
        · rcases List.mem_cons.mp hd with rfl | hd
          · exact List.mem_cons_self
          · exact List.mem_cons_of_mem _ (cutc_mem (q := p) (by rw [y]; exact List.mem_cons_self) hd)
        · exact List.mem_cons_of_mem _ (cutc_mem (q := q) (by rw [y]; exact List.mem_cons_of_mem _ h) hd)
theorem cutc_len (c : Nat) : ∀ l : List Nat, (cutc c l).length ≤ l.length + 1
  | [] => Nat.le_refl _
  | d :: r => by
    have ih := cutc_len c r
    by_cases e : d = c
    · rw [show cutc c (d :: r) = [] :: cutc c r from if_pos e]
      simp only [List.length_cons]
      omega
    · rw [show cutc c (d :: r) = _ from if_neg e]
      cases q : cutc c r with
      | nil => exact absurd q (cutc_ne c r)
      | cons z zs =>
        rw [q] at ih
        simp only [List.length_cons] at ih ⊢
        omega
theorem cutc_part {c : Nat} : ∀ {l : List Nat} {q : List Nat}, q ∈ cutc c l → q.length ≤ l.length
  | [], q, h => by
    rw [show cutc c [] = [[]] from rfl, List.mem_singleton] at h
    rw [h]
    exact Nat.le_refl _
  | e :: r, q, h => by
    by_cases z : e = c
    · rw [show cutc c (e :: r) = [] :: cutc c r from if_pos z] at h
      rcases List.mem_cons.mp h with rfl | h
      · exact Nat.zero_le _
      · exact Nat.le_succ_of_le (cutc_part h)
    · rw [show cutc c (e :: r) = _ from if_neg z] at h
      cases y : cutc c r with
      | nil => exact absurd y (cutc_ne c r)
      | cons p ps =>
        rw [y] at h
        rcases List.mem_cons.mp h with rfl | h
        · exact Nat.succ_le_succ (cutc_part (q := p) (by rw [y]; exact List.mem_cons_self))
        · exact Nat.le_succ_of_le (cutc_part (q := q) (by rw [y]; exact List.mem_cons_of_mem _ h))
section
variable {P : Program} {w : World} {K : PySem.W.Frag} {mg : Str → Option Value} {base : Heap} {C J B NC WC cA tA : Addr} {t1 t2 t3 t4 : Tok}
def spRow (NC : Addr) : Sp := fun vs H Q E => ∃ (s : Str) (p : List Nat) (ps : List (List Nat)), vs = [.str s] ∧ cutc 32 (tl s) = p :: ps ∧ (∀ c ∈ tl s, c < 128) ∧ s.length ≤ 900 ∧
  ((∀ q ∈ ps, isNumW q = true) → ∀ (r na : Addr) H', Same H H' → H na = none → H' r = some (.tup [.str (sZ p), .ref na]) → IL H' na (ps.map valW) → Q (.ref r) H') ∧
  (¬ (∀ q ∈ ps, isNumW q = true) → ∀ H', E (.ref NC) none H')
theorem ok_row_of {f : Addr} {fd : FuncData} (FF : Fun K "row_of" "row_of" s_row_of f fd) (T : Txt K mg C J B) (TE : TxtEW K mg NC) (TR : TxtDg mg t4) : FnOk P w K mg base (L2.CX P w) 1 f fd a_row_of (spRow NC) := by
  refine FF.okX sc_row_of (fun vs H Q E h => ?_) (fun cdv A outer s H vs Q E hr h => ?_)
  · obtain ⟨s, p, ps, rfl, _⟩ := h
    rfl
  · obtain ⟨s, p, ps, rfl, cut, asc, len, k1, k2⟩ := h
    refine ⟨_, (pss_cons (ps_set (i := 1) sc_row_of.nd rfl (.inl rfl) (pe_bm PySem.F.plainAttrs_str PySem.F.slot_str_split PySem.F.type_str_split mt_split (pv 0) (pa_cons pe_str pa_nil)))
      (pss_cons (ps_for (passes_of rfl) rfl (pi_list (pe_slice sl_list (pv 1) (po_some pe_int) po_none)) (pg_name (i := 2) sc_row_of.nd rfl (.inl rfl)) (pss_one (ps_if (PW.pt (pw_or (pt_not (pt_val (pe_bm0 PySem.F.plainAttrs_str PySem.F.slot_str_isdecimal PySem.F.type_str_isdecimal mt_isdecimal (pv 2)))) (pw_or1 (pt_cmpR op_gt (pe_callB call_len_str rfl T.z_len (by decide +kernel) (pa_cons (pv 2) pa_nil)) (pe_glob rfl TR.m_MOST_DIGITS (show RelV (.int 3) _ from ⟨_, rfl⟩)) (nomark _))))) (pss_one (ps_raise rfl (takes_of rfl rfl rfl rfl) (pmk_own PySem.F.excBase_ValueError TE.xC TE.gC TE.kC (raises_own TE.bC TE.tC) (by exact rfl)))) pss_nil)))
      (PSs.nox (pss_one (ps_ret (pe_tup (pa_cons (pe_ix ix_list (pv 1) pe_int (fun _ _ => rfl)) (pa_cons (pe_lc (own := [("word", 2)]) (g := gName 2) rfl sc_row_of.nd (pi_list (pe_slice sl_list (pv 1) (po_some pe_int) po_none)) (blkOk_by (own := [("word", 2)]) (N := n_row_of) (sc := defScope s_row_of) (by decide +kernel)) (fun _ _ _ _ _ => (pg_name (i := 2) sc_row_of.nd rfl (.inl rfl))) (fun _ _ _ _ _ => pts_nil) (fun _ _ _ _ _ => (pe_callTy call_int_str rfl T.z_int (by decide +kernel) (pa_cons (pv 2) pa_nil)))) pa_nil)))))))), ?_⟩
    have e32 : tl (" " : Str) = [32] := by decide +kernel
    have e1 : (" " : Str).length = 1 := by decide +kernel
    have sp := split_cut 32 s e32 (by decide)
    rw [cut] at sp
    have pl : ps.length ≤ 900 := by
      have := cutc_len 32 (tl s)
      rw [cut, List.length_cons, ← len_tl] at this
      omega
    have pasc : ∀ q ∈ ps, ∀ c ∈ q, c < 128 := fun q hq c hc => asc c (cutc_mem (by rw [cut]; exact List.mem_cons_of_mem _ hq) hc)
    have big : (4000 : Nat) ≤ sizeLine := by decide
    refine ⟨.str s, rfl, rfl, s, " ", rfl, rfl, by decide +kernel, by omega, fun wa hwa => ?_⟩
    rw [sp]
    have s1 := Same.new (o := .lst (((p :: ps).map sZ).map V.str)) hwa
    have gw : (upd H wa (.lst (((p :: ps).map sZ).map V.str))) wa = some (.lst (((p :: ps).map sZ).map V.str)) := upd_same
    generalize upd H wa (.lst (((p :: ps).map sZ).map V.str)) = H1 at s1 gw
    refine ⟨.ref wa, rfl, 1, rfl, wa, _, rfl, SqL.of gw, fun sa hsa => ?_⟩
    rw [cutV_one]
    have s2 := Same.new (o := .lst ((((p :: ps).map sZ).map V.str).drop 1)) hsa
    have gs : (upd H1 sa (.lst ((((p :: ps).map sZ).map V.str).drop 1))) sa = some (.lst ((ps.map sZ).map V.str)) := upd_same
    generalize upd H1 sa (.lst ((((p :: ps).map sZ).map V.str).drop 1)) = H2 at s2 gs
    refine ⟨sa, rfl, ⟨_, SqL.of gs⟩, ?_⟩
    refine for_list (xs := (ps.map sZ).map V.str) (fun i σ G => ∃ y2 : Option V, σ = [some (.str s), some (.ref wa), y2] ∧ G = H2 ∧ ∀ (j : Nat) q, j < i → ps[j]? = some q → isNumW q = true) ⟨none, rfl, rfl, fun j q hj => absurd hj (Nat.not_lt_zero _)⟩ (fun i σ G _ ⟨_, _, e, _⟩ => by rw [e]; exact SqL.of gs) ?_ ?_
    · rintro i x σ G hx ⟨y2, rfl, rfl, pre⟩
      obtain ⟨q, hq, rfl⟩ := strs_nth hx
      have qm := List.mem_of_getElem? hq
      refine ⟨.str (sZ q), rfl, rfl, sZ q, rfl, rfl, trivial, _, rfl, ?_⟩
      rw [isdec_sZ (pasc q qm)]
      cases c1 : decide (0 < q.length) && q.all fun c => decide (48 ≤ c) && decide (c ≤ 57) with
      | false =>
        refine iteT (k2 (fun all => ?_) _)
        have := all q qm
        unfold isNumW at this
        rw [c1] at this
        cases this
      | true =>
        refine iteF ?_
        have ql := cutc_part (l := tl s) (c := 32) (q := q) (by rw [cut]; exact List.mem_cons_of_mem _ qm)
        rw [← len_tl] at ql
        refine ⟨.str (sZ q), rfl, sZ q, rfl, by rw [sZ_len]; omega, ((sZ q).length : Nat), 3, rfl, rfl, _, rfl, ?_⟩
        rw [sZ_len]
        by_cases c2 : q.length ≤ 3
        · refine (if_neg (by rw [decide_eq_true_eq]; omega)).mpr ⟨_, rfl, rfl, fun j r hj hr' => ?_⟩
          by_cases e : j = i
          · subst e
            rw [hq] at hr'
            cases hr'
            unfold isNumW
            rw [c1, decide_eq_true c2]
            rfl
          · exact pre j r (by omega) hr'
        · refine (if_pos (by rw [decide_eq_true_eq]; omega)).mpr (k2 (fun all => ?_) _)
          have := all q qm
          unfold isNumW at this
          rw [c1, decide_eq_false c2] at this
          cases this
    · rintro σ G ⟨y2, rfl, rfl, pre⟩
      rw [List.length_map, List.length_map] at pre
      have good : ∀ q ∈ ps, isNumW q = true := fun q hq => by
        obtain ⟨j, hj, ej⟩ := List.getElem_of_mem hq
        exact pre j q hj (by rw [List.getElem?_eq_getElem hj, ej])
      have gw2 := s2 _ _ gw
      refine ⟨.ref wa, rfl, wa, _, _, .str (sZ p), rfl, rfl, SqL.of gw2, atI_nat (j := 0) rfl, .ref wa, rfl, 1, rfl, wa, _, rfl, SqL.of gw2, fun sb hsb => ?_⟩
      rw [cutV_one]
      have s3 := Same.new (o := .lst ((((p :: ps).map sZ).map V.str).drop 1)) hsb
      have gb : (upd G sb (.lst ((((p :: ps).map sZ).map V.str).drop 1))) sb = some (.lst ((ps.map sZ).map V.str)) := upd_same
      generalize upd G sb (.lst ((((p :: ps).map sZ).map V.str).drop 1)) = G3 at s3 gb
      refine ⟨sb, rfl, ⟨_, SqL.of gb⟩, fun D hD => ?_⟩
      refine lc_list (xs := (ps.map sZ).map V.str) (fun i G' => Same G3 G' ∧ IL G' D ((ps.take i).map valW)) ⟨Same.new hD, upd_same⟩ (fun i G' _ q => SqL.of (q.1 _ _ gb)) ?_ ?_
      · rintro i x G' hx ⟨sG, gD⟩
        obtain ⟨q, hq, rfl⟩ := strs_nth hx
        have qg := good q (List.mem_of_getElem? hq)
        have il := (List.getElem?_eq_some_iff.mp hq).1
        unfold isNumW at qg
        rw [Bool.and_eq_true, Bool.and_eq_true, decide_eq_true_eq, decide_eq_true_eq] at qg
        have qne : q ≠ [] := fun e => by rw [e] at qg; exact absurd qg.1.1 (by decide)
        refine ⟨rfl, .str (sZ q), rfl, sZ q, valW q, rfl, SX.int_S qg.1.2 qne (by omega), by rw [sZ_len]; omega, _, gD, by rw [List.length_map, List.length_map, List.length_take]; exact small1000 (by omega), fun b u e => by rw [upd_ne (ne_of_none e hD)]; exact sG b u e, ?_⟩
        show _ = _
        rw [upd_same, List.take_add_one, hq, Option.toList_some, List.map_append, List.map_append]
        rfl
      rintro G4 ⟨s4, gD⟩
      rw [List.length_map, List.length_map, List.take_length] at gD
      refine ⟨by show 2 ≤ sizeLine; decide, fun r hr' => ?_⟩
      have s5 := Same.new (o := .tup [.str (sZ p), .ref D]) hr'
      have nHD : H D = none := by
        cases e : H D with
        | none => rfl
        | some u => rw [s3 _ _ (s2 _ _ (s1 _ _ e))] at hD; cases hD
      exact k1 good r D _ (s1.trans (s2.trans (s3.trans (s4.trans s5)))) nHD upd_same (s5 _ _ gD)
end
end Fw

set_option maxRecDepth 100000
set_option maxHeartbeats 8000000
namespace Fw
open PySem PySem.Spec PyProof.Rows L2 GxR
open TL (tl tl_append len_tl ext_tl joinL tl_join join_eq tl_num)
/-- T is the text of this world -/
structure GoodT (T : List Nat) (l f : Int) (Xs : List (List Int)) (ss : List T3) : Prop where
  t : T = fmtL l f Xs ss
  ok : okWorld l f Xs ss = true
structure OkW (l f : Int) (Xs : List (List Int)) (ss : List T3) : Prop where
  hl : 1 ≤ l ∧ l ≤ 3
  hf : 0 ≤ f ∧ f ≤ 6
  hn : 1 ≤ Xs.length ∧ Xs.length ≤ 400
  hr : ∀ X ∈ Xs, (∀ x ∈ X, 0 ≤ x ∧ x ≤ f - 1) ∧ X.Pairwise fun x y => ltI x y = true
  hs : ∀ p ∈ ss, (0 ≤ p.2.1 ∧ p.2.1 ≤ l - 1) ∧ (0 ≤ p.1 ∧ p.1 ≤ (Xs.length : Int) - 1) ∧ (0 ≤ p.2.2 ∧ p.2.2 ≤ (Xs.length : Int) - 1)
  hu : ss.Pairwise fun x y => lex3 x y = true
theorem ok_iff {l f : Int} {Xs : List (List Int)} {ss : List T3} (h : okWorld l f Xs ss = true) : OkW l f Xs ss := by
  unfold okWorld okNums okRows okSteps at h
  simp only [Bool.and_eq_true, decide_eq_true_eq] at h
  obtain ⟨⟨⟨h1, h2⟩, h3, h4⟩, ⟨⟨h5, h6⟩, h7⟩, h8, h9⟩ := h
  refine ⟨⟨h1, h2⟩, ⟨h3, h4⟩, ⟨by omega, by omega⟩, fun X hX => ?_, fun p hp => ?_, (asc_pair lex3_tr).mp h9⟩
  · have := List.all_eq_true.mp h7 X hX
    unfold okRow at this
    rw [Bool.and_eq_true] at this
    refine ⟨fun x hx => ?_, (asc_pair ltI_tr).mp this.2⟩
    have := List.all_eq_true.mp this.1 x hx
    simpa using this
  · have := List.all_eq_true.mp h8 p hp
    unfold okStep at this
    simpa using this
theorem OkW.sm {l f : Int} {Xs : List (List Int)} {ss : List T3} (h : OkW l f Xs ss) (hr : ∀ X ∈ Xs, X.length ≤ 900) (hs : ss.length ≤ 1000) : Sm l f Xs ss :=
  ⟨by have := h.hl; omega, by have := h.hf; omega, by have := h.hn; omega, fun X hX => ⟨hr X hX, fun x hx => by have := (h.hr X hX).1 x hx; have := h.hf; omega⟩, hs, fun p hp => by have := h.hs p hp; have := h.hn; have := h.hl; omega⟩
/-- a row read: its word, and its numbers -/
def rowV (L : List Nat) : List Nat × List Int := match cutc 32 L with | p :: ps => (p, ps.map valW) | [] => ([], [])
def readP (T : List Nat) : List (List Nat × List Int) := (cutc 10 T).dropLast.map rowV
theorem val_nums : ∀ {ns : List Int}, (∀ n ∈ ns, 0 ≤ n ∧ n < 1000) → (ns.map numZ).map valW = ns
  | [], _ => rfl
  | n :: ns, h => by
    rw [List.map_cons, List.map_cons, val_nums fun m hm => h m (List.mem_cons_of_mem _ hm), (isNum_num (h n List.mem_cons_self).1 (h n List.mem_cons_self).2).2]
theorem rowV_line {wd : List Nat} {ns : List Int} (h : 32 ∉ wd) (b : ∀ n ∈ ns, 0 ≤ n ∧ n < 1000) : rowV (lineL wd ns) = (wd, ns) := by
  unfold rowV
  rw [words_line h]
  show (wd, (ns.map numZ).map valW) = _
  rw [val_nums b]
/-- what the rows of a world's text are -/
def rowsP (l f : Int) (Xs : List (List Int)) (ss : List T3) : List (List Nat × List Int) := (wWorld, [l, f, (Xs.length : Int)]) :: (Xs.map (fun X => (wState, X)) ++ ss.map fun p => (wStep, of3 p))
theorem GoodT.rows {T : List Nat} {l f : Int} {Xs : List (List Int)} {ss : List T3} (g : GoodT T l f Xs ss) : readP T = rowsP l f Xs ss := by
  have o := ok_iff g.ok
  have h1 := o.hl
  have h2 := o.hf
  have h3 := o.hn
  unfold readP rowsP
  rw [g.t, cut_fmt, List.dropLast_concat]
  unfold fmtR
  rw [List.map_cons, List.map_append, List.map_map, List.map_map, rowV_line (by decide) fun n hn => ?_]
  · congr 1
    congr 1
    · refine List.map_congr_left fun X hX => ?_
      exact rowV_line (by decide) fun n hn => by have := (o.hr X hX).1 n hn; omega
    · refine List.map_congr_left fun p hp => ?_
      refine rowV_line (by decide) fun n hn => ?_
      have := o.hs p hp
      rcases List.mem_cons.mp hn with rfl | hn
      · omega
      · rcases List.mem_cons.mp hn with rfl | hn
        · omega
        · rw [List.mem_singleton.mp hn]
          omega
  · rcases List.mem_cons.mp hn with rfl | hn
    · omega
    · rcases List.mem_cons.mp hn with rfl | hn
      · omega
      · rw [List.mem_singleton.mp hn]
        omega
/-- each row of a world's text has numbers alone behind its word -/
theorem GoodT.nums {T : List Nat} {l f : Int} {Xs : List (List Int)} {ss : List T3} (g : GoodT T l f Xs ss) {L p : List Nat} {ps : List (List Nat)} (hL : L ∈ (cutc 10 T).dropLast) (cut : cutc 32 L = p :: ps) : ∀ q ∈ ps, isNumW q = true := by
  have o := ok_iff g.ok
  have h1 := o.hl
  have h2 := o.hf
  have h3 := o.hn
  rw [g.t, cut_fmt, List.dropLast_concat] at hL
  have key : ∀ (wd : List Nat) (ns : List Int), 32 ∉ wd → (∀ n ∈ ns, 0 ≤ n ∧ n < 1000) → L = lineL wd ns → ∀ q ∈ ps, isNumW q = true := fun wd ns h b e q hq => by
    rw [e, words_line h] at cut
    injection cut with _ e2
    rw [← e2] at hq
    obtain ⟨n, hn, rfl⟩ := List.mem_map.mp hq
    exact (isNum_num (b n hn).1 (b n hn).2).1
  rcases List.mem_cons.mp hL with e | hL
  · refine key wWorld [l, f, (Xs.length : Int)] (by decide) (fun n hn => ?_) e
    rcases List.mem_cons.mp hn with rfl | hn
    · omega
    · rcases List.mem_cons.mp hn with rfl | hn
      · omega
      · rw [List.mem_singleton.mp hn]
        omega
  · rcases List.mem_append.mp hL with hL | hL
    · obtain ⟨X, hX, rfl⟩ := List.mem_map.mp hL
      exact key wState X (by decide) (fun n hn => by have := (o.hr X hX).1 n hn; omega) rfl
    · obtain ⟨r, hr, rfl⟩ := List.mem_map.mp hL
      refine key wStep [r.1, r.2.1, r.2.2] (by decide) (fun n hn => ?_) rfl
      have := o.hs r hr
      rcases List.mem_cons.mp hn with rfl | hn
      · omega
      · rcases List.mem_cons.mp hn with rfl | hn
        · omega
        · rw [List.mem_singleton.mp hn]
          omega
def pick (wd : List Nat) (P : List (List Nat × List Int)) : List (List Int) := (P.filter fun r => decide (r.1 = wd)).map (·.2)
theorem pick_state (l f : Int) (Xs : List (List Int)) (ss : List T3) : pick wState (rowsP l f Xs ss) = Xs := by
  unfold pick rowsP
  rw [List.filter_cons_of_neg (by show ¬ decide (wWorld = wState) = true; decide), List.filter_append, List.filter_eq_self.mpr (fun r hr => by obtain ⟨X, _, rfl⟩ := List.mem_map.mp hr; show decide (wState = wState) = true; decide), List.filter_eq_nil_iff.mpr (fun r hr => by obtain ⟨p, _, rfl⟩ := List.mem_map.mp hr; show ¬ decide (wStep = wState) = true; decide), List.append_nil, List.map_map]
  exact List.map_id _
theorem pick_step (l f : Int) (Xs : List (List Int)) (ss : List T3) : pick wStep (rowsP l f Xs ss) = ss.map of3 := by
  unfold pick rowsP
  rw [List.filter_cons_of_neg (by show ¬ decide (wWorld = wStep) = true; decide), List.filter_append, List.filter_eq_nil_iff.mpr (fun r hr => by obtain ⟨X, _, rfl⟩ := List.mem_map.mp hr; show ¬ decide (wState = wStep) = true; decide), List.filter_eq_self.mpr (fun r hr => by obtain ⟨p, _, rfl⟩ := List.mem_map.mp hr; show decide (wStep = wStep) = true; decide), List.nil_append, List.map_map]
  rfl
/-- sorted tuples that are, in some order, triples in order -/
theorem tri_one {ts : List (List Int)} {ss : List T3} (srt : ts.Pairwise fun x y => HT.lexLt y x = false) (pe : ts.Perm (ss.map of3)) (u : ss.Pairwise fun x y => lex3 x y = true) : ts = ss.map of3 := by
  obtain ⟨ss2, rfl⟩ : ∃ ss2 : List T3, ts = ss2.map of3 := by
    have mem : ∀ X ∈ ts, ∃ q, X = of3 q := fun X hX => by
      obtain ⟨q, _, e⟩ := List.mem_map.mp (pe.mem_iff.mp hX)
      exact ⟨q, e.symm⟩
    clear srt pe
    induction ts with
    | nil => exact ⟨[], rfl⟩
    | cons X ts ih =>
      obtain ⟨q, rfl⟩ := mem X List.mem_cons_self
      obtain ⟨ss2, e⟩ := ih fun Y hY => mem Y (List.mem_cons_of_mem _ hY)
      exact ⟨q :: ss2, by rw [e]; rfl⟩
  have pe2 : ss2.Perm ss := by
    have := pe.map (fun X : List Int => ((X.getD 0 0, X.getD 1 0, X.getD 2 0) : T3))
    rw [List.map_map, List.map_map] at this
    have e : ∀ l : List T3, l.map ((fun X : List Int => ((X.getD 0 0, X.getD 1 0, X.getD 2 0) : T3)) ∘ of3) = l := fun l => (List.map_congr_left fun q _ => rfl).trans (List.map_id l)
    rw [e, e] at this
    exact this
  have srt2 : ss2.Pairwise fun x y => lex3 y x = false := (List.pairwise_map.mp srt).imp fun {x y} h => by rw [lex_of3] at h; exact h
  rw [sorted_one srt2 u pe2]
end Fw

set_option maxRecDepth 100000
set_option maxHeartbeats 8000000
namespace Fw
open PySem PySem.Spec PyProof.Rows L2 GxR
open TL (tl tl_append len_tl ext_tl joinL tl_join join_eq tl_num)
section
variable {P : Program} {w : World} {K : PySem.W.Frag} {mg : Str → Option Value} {base : Heap} {C J B NC WC cA tA : Addr} {t1 t2 t3 t4 : Tok}
def spLNum : Sp := fun vs H Q _ => ∃ s : Str, vs = [.str s] ∧ s.length ≤ 900 ∧ Q (.int (lawNum (tl s))) H
theorem ok_law_number {f : Addr} {fd : FuncData} (FF : Fun K "_law_number" "_law_number" s_law_number f fd) (T : Txt K mg C J B) : FnOk P w K mg base CX0 1 f fd a_law_number spLNum := by
  refine FF.ok sc_law_number (fun vs H Q E h => ?_) (fun cdv A outer s H vs Q E hr h => ?_)
  · obtain ⟨s, rfl, _⟩ := h
    rfl
  · obtain ⟨s, rfl, len, k⟩ := h
    refine ⟨_, (pss_cons (ps_if (PW.pt (pw_or (pt_cmpR op_eq (pv 0) pe_str (nomark _)) (pw_or (pt_cmpR op_gt (pe_callB call_len_str rfl T.z_len (by decide +kernel) (pa_cons (pv 0) pa_nil)) pe_int (nomark _)) (pw_or1 (PW.pt (pw_and (pt_cmpR op_eq (pe_ix ix_str (pv 0) pe_int (fun _ _ => rfl)) pe_str (nomark _)) (pw_and1 (pt_cmpR op_gt (pe_callB call_len_str rfl T.z_len (by decide +kernel) (pa_cons (pv 0) pa_nil)) pe_int (nomark _))))))))) (pss_one (ps_ret (pe_un un_neg pe_int))) pss_nil)
      (pss_cons (ps_for PassesOwn.never rfl (pi_str (pv 0)) (pg_name (i := 1) sc_law_number.nd rfl (.inl rfl)) (pss_one (ps_if (pt_cmpR op_notIn_sign (pv 1) pe_str rfl) (pss_one (ps_ret (pe_un un_neg pe_int))) pss_nil)))
      (pss_one (ps_ret (pe_callTy call_int_str rfl T.z_int (by decide +kernel) (pa_cons (pv 0) pa_nil)))))), ?_⟩
    have big : (4000 : Nat) ≤ sizeLine := by decide
    refine ⟨.str s, rfl, rfl, _, rfl, ?_⟩
    by_cases c1 : tl s = []
    · have e1 : s = "" := ext_tl (by rw [c1]; decide +kernel)
      refine (if_pos (by rw [e1]; exact decide_eq_true rfl)).mpr ⟨1, rfl, ?_⟩
      have e : lawNum (tl s) = -1 := by unfold lawNum; rw [if_pos (.inl c1)]
      rw [e] at k
      exact k
    · have e1 : ¬ s = "" := fun e => c1 (by rw [e]; decide +kernel)
      refine (if_neg (by rw [decide_eq_false (fun e => e1 (V.str.inj e))]; exact Bool.false_ne_true)).mpr ?_
      refine ⟨.str s, rfl, s, rfl, by omega, (s.length : Nat), 3, rfl, rfl, _, rfl, ?_⟩
      by_cases c2 : 3 < (tl s).length
      · rw [len_tl]
        refine (if_pos (by rw [decide_eq_true_eq]; omega)).mpr ⟨1, rfl, ?_⟩
        have e : lawNum (tl s) = -1 := by unfold lawNum; rw [if_pos (.inr (.inl c2))]
        rw [e] at k
        exact k
      refine (if_neg (by rw [decide_eq_true_eq, len_tl]; omega)).mpr ?_
      obtain ⟨a, r, ear⟩ : ∃ a r, tl s = a :: r := by
        cases h : tl s with
        | nil => exact absurd h c1
        | cons a r => exact ⟨a, r, rfl⟩
      have at0 : atI s.cps.toList 0 = some a := atI_nat (j := 0) (by show (tl s)[0]? = some a; rw [ear]; rfl)
      refine ⟨.str s, rfl, s, 0, a, rfl, rfl, by omega, at0, rfl, _, rfl, ?_⟩
      have e48 : (⟨#[a]⟩ : Str) = "0" ↔ a = 48 := ⟨fun e => by have := congrArg tl e; rw [show tl ("0" : Str) = [48] by decide +kernel] at this; exact List.head_eq_of_cons_eq this, fun e => by rw [e]; exact ext_tl (by decide +kernel)⟩
      by_cases c3 : a = 48
      · refine (if_pos (decide_eq_true (congrArg V.str (e48.mpr c3)))).mpr ?_
        refine ⟨.str s, rfl, s, rfl, by omega, (s.length : Nat), 1, rfl, rfl, _, rfl, ?_⟩
        by_cases c4 : 1 < (tl s).length
        · rw [decide_eq_true (show (s.length : Int) > 1 by rw [len_tl]; omega)]
          refine iteT ⟨1, rfl, ?_⟩
          have e : lawNum (tl s) = -1 := by unfold lawNum; rw [if_pos (.inr (.inr ⟨by rw [ear, c3]; rfl, c4⟩))]
          rw [e] at k
          exact k
        · rw [decide_eq_false (show ¬ (s.length : Int) > 1 by rw [len_tl]; omega)]
          have no48 : ¬ ((tl s).head? = some 48 ∧ 1 < (tl s).length) := fun e => c4 e.2
          refine iteF ?_
          have np : ¬ (tl s = [] ∨ 3 < (tl s).length ∨ ((tl s).head? = some 48 ∧ 1 < (tl s).length)) := by
            rintro (e | e | e)
            · exact c1 e
            · exact c2 e
            · exact no48 e
          refine ⟨.str s, rfl, s, rfl, ?_⟩
          refine for_it (walk_str (z := s)) (fun i σ G => ∃ y1 : Option V, σ = [some (.str s), y1] ∧ G = H ∧ ∀ (j c : Nat), j < i → (tl s)[j]? = some c → 48 ≤ c ∧ c ≤ 57) ⟨none, rfl, rfl, fun j c hj => absurd hj (Nat.not_lt_zero _)⟩ (fun i σ G _ _ => trivial) ?_ ?_
          · rintro i x σ G1 G2 hi ⟨y1, rfl, rfl, pre⟩ ⟨rfl, c, hc, rfl⟩
            have hc' : (tl s)[i]? = some c := by rw [← hc]; exact Array.getElem?_toList
            refine ⟨.str ⟨#[c]⟩, rfl, c, "0123456789", rfl, rfl, _, rfl, ?_⟩
            have ed : ("0123456789" : Str).cps.toList = [48, 49, 50, 51, 52, 53, 54, 55, 56, 57] := by decide +kernel
            rw [ed]
            by_cases d : 48 ≤ c ∧ c ≤ 57
            · have m : c ∈ ([48, 49, 50, 51, 52, 53, 54, 55, 56, 57] : List Nat) := by
                have : c = 48 ∨ c = 49 ∨ c = 50 ∨ c = 51 ∨ c = 52 ∨ c = 53 ∨ c = 54 ∨ c = 55 ∨ c = 56 ∨ c = 57 := by omega
                simpa using this
              rw [decide_eq_true m]
              refine iteF ⟨_, rfl, rfl, fun j c' hj hc2 => ?_⟩
              by_cases e : j = i
              · subst e
                rw [hc'] at hc2
                cases hc2
                exact d
              · exact pre j c' (by omega) hc2
            · have m : ¬ c ∈ ([48, 49, 50, 51, 52, 53, 54, 55, 56, 57] : List Nat) := fun m => by
                simp at m
                omega
              rw [decide_eq_false m]
              refine iteT ⟨1, rfl, ?_⟩
              have e : lawNum (tl s) = -1 := by
                unfold lawNum
                rw [if_neg np, if_neg (fun a => ?_)]
                have := List.all_eq_true.mp a c (List.mem_of_getElem? hc')
                rw [Bool.and_eq_true, decide_eq_true_eq, decide_eq_true_eq] at this
                exact d this
              rw [e] at k
              exact k
          · rintro σ G ⟨y1, rfl, rfl, pre⟩
            have all : (tl s).all (fun c => decide (48 ≤ c) && decide (c ≤ 57)) = true := List.all_eq_true.mpr fun c hc => by
              obtain ⟨j, hj, ej⟩ := List.getElem_of_mem hc
              have := pre j c (by rw [show s.cps.size = (tl s).length from Array.length_toList.symm]; exact hj) (by rw [List.getElem?_eq_getElem hj, ej])
              rw [Bool.and_eq_true, decide_eq_true_eq, decide_eq_true_eq]
              exact this
            refine ⟨.str s, rfl, s, valW (tl s), rfl, ?_, by rw [len_tl]; omega, ?_⟩
            · have := SX.int_S all c1 (by omega)
              rw [show (SX.S (tl s)) = s from TL.mk_tl s] at this
              exact this
            · have e : lawNum (tl s) = valW (tl s) := by
                unfold lawNum
                rw [if_neg np, if_pos all]
              rw [e] at k
              exact k
      · refine (if_neg (by rw [decide_eq_false (fun e => c3 (e48.mp (V.str.inj e)))]; exact Bool.false_ne_true)).mpr ?_
        have no48 : ¬ ((tl s).head? = some 48 ∧ 1 < (tl s).length) := fun e => c3 (by rw [ear] at e; exact Option.some.inj e.1)
        refine iteF ?_
        have np : ¬ (tl s = [] ∨ 3 < (tl s).length ∨ ((tl s).head? = some 48 ∧ 1 < (tl s).length)) := by
          rintro (e | e | e)
          · exact c1 e
          · exact c2 e
          · exact no48 e
        refine ⟨.str s, rfl, s, rfl, ?_⟩
        refine for_it (walk_str (z := s)) (fun i σ G => ∃ y1 : Option V, σ = [some (.str s), y1] ∧ G = H ∧ ∀ (j c : Nat), j < i → (tl s)[j]? = some c → 48 ≤ c ∧ c ≤ 57) ⟨none, rfl, rfl, fun j c hj => absurd hj (Nat.not_lt_zero _)⟩ (fun i σ G _ _ => trivial) ?_ ?_
        · rintro i x σ G1 G2 hi ⟨y1, rfl, rfl, pre⟩ ⟨rfl, c, hc, rfl⟩
          have hc' : (tl s)[i]? = some c := by rw [← hc]; exact Array.getElem?_toList
          refine ⟨.str ⟨#[c]⟩, rfl, c, "0123456789", rfl, rfl, _, rfl, ?_⟩
          have ed : ("0123456789" : Str).cps.toList = [48, 49, 50, 51, 52, 53, 54, 55, 56, 57] := by decide +kernel
          rw [ed]
          by_cases d : 48 ≤ c ∧ c ≤ 57
          · have m : c ∈ ([48, 49, 50, 51, 52, 53, 54, 55, 56, 57] : List Nat) := by
              have : c = 48 ∨ c = 49 ∨ c = 50 ∨ c = 51 ∨ c = 52 ∨ c = 53 ∨ c = 54 ∨ c = 55 ∨ c = 56 ∨ c = 57 := by omega
              simpa using this
            rw [decide_eq_true m]
            refine iteF ⟨_, rfl, rfl, fun j c' hj hc2 => ?_⟩
            by_cases e : j = i
            · subst e
              rw [hc'] at hc2
              cases hc2
              exact d
            · exact pre j c' (by omega) hc2
          · have m : ¬ c ∈ ([48, 49, 50, 51, 52, 53, 54, 55, 56, 57] : List Nat) := fun m => by
              simp at m
              omega
            rw [decide_eq_false m]
            refine iteT ⟨1, rfl, ?_⟩
            have e : lawNum (tl s) = -1 := by
              unfold lawNum
              rw [if_neg np, if_neg (fun a => ?_)]
              have := List.all_eq_true.mp a c (List.mem_of_getElem? hc')
              rw [Bool.and_eq_true, decide_eq_true_eq, decide_eq_true_eq] at this
              exact d this
            rw [e] at k
            exact k
        · rintro σ G ⟨y1, rfl, rfl, pre⟩
          have all : (tl s).all (fun c => decide (48 ≤ c) && decide (c ≤ 57)) = true := List.all_eq_true.mpr fun c hc => by
            obtain ⟨j, hj, ej⟩ := List.getElem_of_mem hc
            have := pre j c (by rw [show s.cps.size = (tl s).length from Array.length_toList.symm]; exact hj) (by rw [List.getElem?_eq_getElem hj, ej])
            rw [Bool.and_eq_true, decide_eq_true_eq, decide_eq_true_eq]
            exact this
          refine ⟨.str s, rfl, s, valW (tl s), rfl, ?_, by rw [len_tl]; omega, ?_⟩
          · have := SX.int_S all c1 (by omega)
            rw [show (SX.S (tl s)) = s from TL.mk_tl s] at this
            exact this
          · have e : lawNum (tl s) = valW (tl s) := by
              unfold lawNum
              rw [if_neg np, if_pos all]
            rw [e] at k
            exact k
end
end Fw

set_option maxRecDepth 100000
set_option maxHeartbeats 4000000
/-! A list comprehension whose element may raise. -/
namespace PySem
open Sem (wp)
section
variable {M : Model} {A : Around} {E : Value → Shared → Prop} {s : Shared} {env : Env}
def compPostX (M : Model) (A : Around) (E : Value → Shared → Prop) (use : Option (Value → Sem Unit)) (Q : Value → Shared → Prop) (acc : Value) (cenv : Env) (r : Result) (s' : Shared) : Prop :=
  match r with
  | .ok f => compPost M A E use Q acc cenv.locals (.ok f) s'
  | .error x => ∃ m, s'.heap.Ns cenv.locals m ∧ ∀ h', Heap.SameBut cenv.locals s'.heap h' → wpAny M A (passOn "comprehension.variables-let-go" x cenv : Sem Value) (fun _ _ => False) E { s' with heap := h' }
theorem wpAny_comprehension_freeX {e : Expr} {scope : Scope} {pos : Pos} {newAcc first : Sem Value} {g : Comprehension} {gs : List Comprehension} {cl : List (Str × Addr)} {use : Option (Value → Sem Unit)}
    {Q : Value → Shared → Prop}
    (hcl : clausesOf e = g :: gs) (hs : ∀ x, foldedSetIterable g.iter env x = pure x) (hclos : closureFor scope env = pure cl)
    (hkind : scope.kind = .function) (hnames : ∀ x ∈ scope.names, x.2 = .local → scope.names.lookup x.1 = some .local)
    (h : wpAny M A first (fun x s₁ => wpAny M A (pyIter x) (fun it s₂ => wpAny M A newAcc (fun acc s₃ =>
      wpAny M A (newFunctionEnv scope env.globals cl [] env.qual none .none (some env)) (fun cenv s₄ =>
        codeAny M A (.compStart e 0 it acc { cenv with scope := relabel scope env }) (compPostX M A E use Q acc { cenv with scope := relabel scope env }) s₄) E s₃) E s₂) E s₁) E s) :
    wpAny M A (comprehension e scope env pos newAcc false first use) Q E s := by
  unfold comprehension
  rw [hclos, hcl]
  refine wpAny_bind (wpAny_mono h (fun x s₁ h₁ => wpAny_bind (wpAny_standAt (wpAny_bind (wpAny_of_eq (hs x) (wpAny_bind (wpAny_holding (wpAny_mono h₁ (fun it s₂ h₂ =>
    wpAny_standIf (wpAny_bind (wpAny_mono h₂ (fun acc s₃ h₃ => wpAny_bind (wpAny_pure (wpAny_bind (wpAny_mono h₃ (fun cenv s₄ h₄ => ?_) fun _ _ h' => h')))) fun _ _ h' => h')))
      fun _ _ h' => h'))))))) fun _ _ h' => h')
  dsimp only
  have hv : ∀ x ∈ (scope.names.filter fun x => (x.2 == .local || x.2 == .cell) && x.1 != (".0" : Str)).reverse, x.2 = .local →
      Env.kindOf { cenv with scope := relabel scope env } x.1 = some .local := fun x hx hl => lookup_relabel_local (hnames x (List.mem_filter.mp (List.mem_reverse.mp hx)).1 hl)
  have hv' : ∀ x ∈ (scope.names.filter fun x => (x.2 == .local || x.2 == .cell) && x.1 != (".0" : Str)).reverse.drop 1 ++ (scope.names.filter fun x => (x.2 == .local || x.2 == .cell) && x.1 != (".0" : Str)).reverse.take 1,
      x.2 = .local → Env.kindOf { cenv with scope := relabel scope env } x.1 = some .local := fun x hx hl => by
    rcases List.mem_append.mp hx with h1 | h1
    · exact hv x (List.mem_of_mem_drop h1) hl
    · exact hv x (List.mem_of_mem_take h1) hl
  refine wpAny_holding (wpAny_bind (wpAny_attempt (wpAny_holding (wpAny_run (codeAny_mono h₄ fun r s' hr => ?_)))))
  cases r with
  | ok f =>
    cases use with
    | none =>
      obtain ⟨m, hn, hr⟩ := hr
      exact wpAny_bind (wpAny_holding (wpAny_comp_letGo (cenv := { cenv with scope := relabel scope env }) hkind _ s' m hv hn fun h' m' _ hs' => wpAny_pure (hr h' hs')))
    | some u =>
      refine wpAny_bind (wpAny_rule (wpAny_bind (wpAny_holding (wpAny_mono hr (fun _ s'' hr' => ?_) fun _ _ h' => h'))))
      obtain ⟨m, hn, hr'⟩ := hr'
      exact wpAny_bind (wpAny_comp_letGo (cenv := { cenv with scope := relabel scope env }) hkind _ s'' m hv' hn fun h' m' _ hs' => wpAny_pure (hr' h' hs'))
  | error x =>
    obtain ⟨m, hn, hr⟩ := hr
    exact wpAny_bind (wpAny_holding (wpAny_comp_letGo (cenv := { cenv with scope := relabel scope env }) hkind _ s' m hv hn fun h' m' _ hs' => wpAny_mono (hr h' hs') (fun _ _ f => f.elim) fun _ _ y => y))
end
end PySem
namespace Fw
open PySem PySem.Spec PyProof.Rows L2
theorem funFrames_but {B B2 h h2 : Heap} {C : Addr} : ∀ {l : List Env}, h.FunFrames B l → (∀ L ∈ frs l, L ≠ C) → (∀ b, b ≠ C → h2.get? b = h.get? b) → (∀ L ∈ frs l, B2.get? L = none) → h2.FunFrames B2 l
  | [], _, _, _, _ => trivial
  | env :: l, h, hn, hk, hb => by
    obtain ⟨hm, ⟨L, o, hf, _, ho, hd⟩, hr⟩ := h
    have mL : L ∈ frs (env :: l) := List.mem_filterMap.mpr ⟨env, List.mem_cons_self, hf⟩
    refine ⟨hm, ⟨L, o, hf, hb L mL, by rw [hk L (hn L mL)]; exact ho, hd⟩, funFrames_but hr (fun b q => ?_) hk fun b q => ?_⟩
    · obtain ⟨e, he, z⟩ := List.mem_filterMap.mp q
      exact hn b (List.mem_filterMap.mpr ⟨e, List.mem_cons_of_mem _ he, z⟩)
    · obtain ⟨e, he, z⟩ := List.mem_filterMap.mp q
      exact hb b (List.mem_filterMap.mpr ⟨e, List.mem_cons_of_mem _ he, z⟩)
section
variable {X : Cx} {pins : List (Addr × Obj)} {σ : L2.St} {H : Hp} {s s' : Shared} {W : WX} {E : XK}
/-- an exception of a call within a block goes out through the block's end into our air; C: the block's locals -/
theorem air_out (hs : X.stack = X.env :: X.outer) (hf : X.env.frame = some X.env.locals) (tk : Takes X W) (hW : ∀ cls d H', E cls d H' → W cls d σ H') (I : L2.Inv X pins σ H s) {C : Addr} {m : Str → Option Value} (hC : s.heap.Ns C m) (fC : FpOk X pins H C) (sC : C ∉ frs X.stack) {ce : Env}
    (cL : ce.locals = C) (cF : ce.frame = X.env.frame) (note : ∀ a, noteFrame (.ref a) ce = noteFrame (.ref a) X.env) {use : Option (Value → Sem Unit)} {Qf : Value → Shared → Prop} {acc : Value} {u : Value} (c : L2.CX X.prog X.w X.stack H s E u s') :
    notedBy (model X.prog X.w) X.A ce (fun e s'' => compPostX (model X.prog X.w) X.A X.xe use Qf acc ce (.error e) s'') u s' := by
  obtain ⟨a, B, H', cls, d, rfl, fl, hok, ub, na, os, ag, hE⟩ := c
  obtain ⟨oC, es, ep, gC, rC⟩ := id hC
  obtain ⟨fC0, fC1, fC2, fC3, fC4, fC5⟩ := fC
  have bC : B.get? C = some oC := ub.keep C oC gC fC0 sC
  have nH' : H' C = none := ub.free C oC gC fC0
  have hfr : X.A.frames = some (X.env :: X.outer) := by rw [I.ok.frames, hs]
  have fl2 := fl
  rw [hs] at fl2
  show wpAny _ _ (noteFrame (.ref a) ce) _ _ _
  rw [note a]
  refine HandSPX.looks_onZ Zc.steady hfr hf fl2 fun h1 hh up1 => ?_
  obtain ⟨q1, q2, q3, oe, vs, T, oT, ts, he, hz, hd, hv, hnT, hTe, hT, hdT, h3⟩ := hh
  have naC : a ≠ C := fun e => by rw [e, bC] at q2; cases q2
  have nTC : T ≠ C := fun e => by rw [e, bC] at hnT; cases hnT
  refine ⟨m, by rw [cL]; exact ⟨oC, es, ep, q1 _ _ bC, rC⟩, fun h2 sb2 => ?_⟩
  rw [cL] at sb2
  have hk : ∀ b, b ≠ C → h2.get? b = h1.get? b := sb2.2
  obtain ⟨B2, B2a, B2b⟩ := restrict B fun b => !decide (b = C)
  have B2n : B2.get? C = none := B2b C (by simp)
  have B2k : ∀ b, b ≠ C → B2.get? b = B.get? b := fun b n => B2a b (by simp [n])
  have B2of : ∀ b o, B2.get? b = some o → b ≠ C ∧ B.get? b = some o := fun b o e => by
    have n : b ≠ C := fun z => by rw [z, B2n] at e; cases e
    rw [B2k b n] at e
    exact ⟨n, e⟩
  have held : HandSPX.HeldZ B2 (X.env :: X.outer) a (Zc cls d) X.env.locals h2 := by
    refine ⟨fun b o e => ?_, ?_, ?_, oe, vs, T, oT, ts, by rw [hk a naC]; exact he, hz, hd, hv, ?_, hTe, by rw [hk T nTC]; exact hT, hdT, h3⟩
    · obtain ⟨n, e2⟩ := B2of b o e
      rw [hk b n]
      exact q1 b o e2
    · rw [B2k a naC]; exact q2
    · refine funFrames_but q3 (fun L hL => ?_) hk fun L hL => ?_
      · rw [← hs] at hL
        exact fun e => sC (by rw [← e]; exact hL)
      · have := (q3.mem hL).1
        cases e : B2.get? L with
        | none => rfl
        | some o => rw [(B2of L o e).2] at this; cases this
    · rw [B2k T nTC]; exact hnT
  -- the state without it
  obtain ⟨G, g1, g2⟩ := restrict s'.heap fun b => (B2.get? b).isSome || decide (b ∈ frs X.stack)
  have st : B.StaysIn s'.heap := fl.1
  have gB : ∀ b o, B2.get? b = some o → G.get? b = some o := fun b o e => by
    rw [g1 b (by simp [e])]
    exact st b o (B2of b o e).2
  have gF : ∀ b, b ∈ frs X.stack → G.get? b = s'.heap.get? b := fun b hb => g1 b (by simp [hb])
  have og : ∀ b o, G.get? b = some o → s'.heap.get? b = some o ∧ ((B2.get? b).isSome = true ∨ b ∈ frs X.stack) := fun b o e => by
    cases q : ((B2.get? b).isSome || decide (b ∈ frs X.stack)) with
    | false => rw [g2 b q] at e; cases e
    | true =>
      rw [g1 b q] at e
      exact ⟨e, by simpa [Bool.or_eq_true] using q⟩
  have ogC : ∀ b o, G.get? b = some o → b ≠ C := fun b o e z => by
    obtain ⟨_, h⟩ := og b o e
    rcases h with h | h
    · rw [z, B2n] at h; cases h
    · exact sC (by rw [← z]; exact h)
  have hok2 : HOk X.prog X.w H' B2 := fun b o q => (hok b o q).stay (fun c u hc r => by
    rw [B2k c fun z => ?_]
    · exact r
    · rcases hc with hc | hc
      · rw [hc] at z; rw [z, nH'] at q; cases q
      · rw [z, nH'] at hc; cases hc) (fun _ r => r) fun _ _ r => r
  have IG : L2.Inv X pins σ H' { s with heap := G, gens := s'.gens, drawn := s'.drawn, toks := s'.toks } := by
    refine I.call (ch := [C]) ⟨fun b o e n hb hc => gB b o (by rw [B2k b fun z => hc (by simp [z])]; exact ub.keep b o e n hb), fun b o e n hb hc => ?_, fun b o e n _ => ub.free b o e n, fun b o e hc => ?_, ub.tups, ub.frzs, ub.tbls⟩ (hok2.kept gB) ag (fun b hb => by rw [List.mem_singleton.mp hb]; exact ⟨fC3, fC1, fC4, fC5⟩)
    · obtain ⟨sl, q⟩ := ub.slot b o e hb
      exact ⟨sl, by rw [gF b hb]; exact q⟩
    · by_cases hb : b ∈ frs X.stack
      · obtain ⟨sl, q⟩ := ub.slot b o e hb
        exact ⟨_, by rw [gF b hb]; exact q⟩
      · obtain ⟨o', q⟩ := ub.there b o e hb
        exact ⟨o', gB b o' (by rw [B2k b fun z => hc (by simp [z])]; exact q)⟩
  -- passed on
  have he2 : h2.get? a = some oe := by rw [hk a naC]; exact he
  unfold PySem.passOn
  refine wpAny_bind (wpAny_field he2 hd hv ?_)
  rw [if_neg (show ¬ ((Value.ref T == Value.none) = true) from by simp)]
  refine wpAny_bind ?_
  rw [cF, hf]
  refine HandSPX.setFlight_onZ held fun h3' held3 up3 => ?_
  refine wpAny_throw (tk _ _ ⟨a, B2, _, pins, σ, H', cls, d, rfl, IG, fun b o e hb => ?_, fun b o e hnf => ?_, .inr (.inr (by rw [hs]; exact held3)), na, os, ag, hW _ _ _ hE⟩)
  · obtain ⟨e', h⟩ := og b o e
    rcases h with h | h
    · obtain ⟨o', q⟩ := Option.isSome_iff_exists.mp h
      have z := st b o' (B2of b o' q).2
      rw [e'] at z; cases z
      exact q
    · exact absurd h hb
  · obtain ⟨e', _⟩ := og b o e
    obtain ⟨sl, e1⟩ := up1 b o e' hnf
    have e2 : h2.get? b = some { o with slots := sl } := by rw [hk b (ogC b o e)]; exact e1
    obtain ⟨sl2, e3⟩ := up3 b _ e2 hnf
    exact ⟨sl2, e3⟩
end
/-- the context of a block whose element may let out what E tells -/
abbrev blkX (X : Cx) (s : Shared) (H : Hp) (scope : Scope) (cenv : Env) (fp : List Addr) (E : XK) : Cx :=
  { X.blk s H scope cenv fp with xe := fun u s' => ∃ pins σ H1 s1, L2.Inv (X.blk s H scope cenv fp) pins σ H1 s1 ∧ L2.CX X.prog X.w X.stack H1 s1 E u s' }
section
variable {X : Cx} {pins : List (Addr × Obj)} {σ : L2.St} {H H0 : Hp} {s s0 : Shared} {scope : Scope} {cenv : Env} {fp : List Addr} {E : XK}
theorem inv_x (I : L2.Inv (X.blk s0 H0 scope cenv fp) pins σ H s) : L2.Inv (blkX X s0 H0 scope cenv fp E) pins σ H s :=
  ⟨⟨I.ok.mod, I.ok.kind, I.ok.glob, I.ok.blt, I.ok.above, I.ok.inj, I.ok.has, I.ok.cab, I.ok.hd, I.ok.frames, I.ok.stk, I.ok.exf, I.ok.bs, I.ok.bsz, I.ok.noex, I.ok.exfs, I.ok.funs, I.ok.frf⟩, I.os, I.bare, I.base, I.loc, I.cell, I.free, I.freeC, I.pin, I.hok, I.len⟩
theorem inv_b (I : L2.Inv (blkX X s0 H0 scope cenv fp E) pins σ H s) : L2.Inv (X.blk s0 H0 scope cenv fp) pins σ H s :=
  ⟨⟨I.ok.mod, I.ok.kind, I.ok.glob, I.ok.blt, I.ok.above, I.ok.inj, I.ok.has, I.ok.cab, I.ok.hd, I.ok.frames, I.ok.stk, I.ok.exf, I.ok.bs, I.ok.bsz, I.ok.noex, I.ok.exfs, I.ok.funs, I.ok.frf⟩, I.os, I.bare, I.base, I.loc, I.cell, I.free, I.freeC, I.pin, I.hok, I.len⟩
theorem pass_x (σ : L2.St) : PassesAt (L2.CX X.prog X.w) (blkX X s0 H0 scope cenv fp E) σ E := fun pins H s _ _ I c => ⟨pins, σ, H, s, inv_b I, c⟩
end
section
variable {X : Cx}
theorem lc_coreX {pins : List (Addr × Obj)} {s : Shared} {σ : L2.St} {H : Hp} {Q : VK} {elt tg iter : Expr} {ifs : List Expr} {scope : Scope} {own : List (Str × Nat)} {pos pos' : Pos} {wi : TI} {g : TG} {tt : TT} {te : TE} {use : Option (Value → Sem Unit)} {Qf : Value → Shared → Prop} {W : WX} {E : XK}
    (hst : X.stack = X.env :: X.outer) (hfr : X.env.frame = some X.env.locals) (tk : Takes X W) (hW : ∀ cls d H', E cls d H' → W cls d σ H')
    (hc : X.calm = true) (hN : X.N.Nodup) (I : L2.Inv X pins σ H s) (hi : PI X tg iter wi) (ok : BlkOk X.N X.env.scope scope own)
    (hg : ∀ (s : Shared) (H : Hp) (C : Addr) (cl : List (Str × Addr)) (fp : List Addr), PG (X.blk s H scope (compEnvC scope cl C X.env) fp) tg g) (ht : ∀ (s : Shared) (H : Hp) (C : Addr) (cl : List (Str × Addr)) (fp : List Addr), PTs (X.blk s H scope (compEnvC scope cl C X.env) fp) ifs tt)
    (he : ∀ (s : Shared) (H : Hp) (C : Addr) (cl : List (Str × Addr)) (fp : List Addr), PE (blkX X s H scope (compEnvC scope cl C X.env) fp E) elt te) (hs : ∀ x, foldedSetIterable iter X.env x = pure x)
    (h : tLc wi g tt te (own.map (·.2)) σ H Q)
    (hRR : ∀ D C s' m H', L2.Inv X pins σ H' s' → Q (.ref D) H' → s'.heap.Ns C m → FpOk X pins H' C → compPost (model X.prog X.w) X.A X.xe use Qf (.ref D) C (.ok .next) s') :
    wpAny (model X.prog X.w) X.A (comprehension (.ListComp elt [⟨tg, iter, ifs, 0⟩] scope pos) scope X.env pos' (newList []) false (eval iter X.env) use) Qf X.xe s := by
  have hfree : ∀ y ∈ scope.names, y.2 = .free → ∃ c, X.env.cells.lookup y.1 = some c := fun y hy e => by
    rcases ok.free y hy e with k | k
    · exact I.ok.has _ (.inl k)
    · exact I.ok.has _ (.inr k)
  refine wpAny_comprehension_freeX (use := use) rfl hs (closure_ok hfree) ok.kind (fun y hy e => by rw [ok.uniq y hy, e])
    (thn (hi.run pins s σ H _ I h) fun xv s1 hx => thn hx fun itv s2 h2 => ?_)
  obtain ⟨it, fp, tn, J, H2, e, I2, T, st2, f2, q⟩ := h2
  subst e
  refine wpAny_newObj_type (newEnv_comp ?_) (by show 0 ≤ sizeLine; decide)
  generalize hD : s2.heap.objs.size = D
  have hDn : H2 D = none := I2.hok.fresh (Nat.le_of_eq hD)
  obtain ⟨Wm, ⟨m0, w0⟩, turn⟩ := q D hDn
  generalize hs3 : ({ s2 with heap := s2.heap.push { cls := .type "list", data := .seq ([] : List Value).toArray } } : Shared) = s3
  have I3 : L2.Inv X pins σ (upd H2 D (.lst [])) s3 := by
    rw [← hs3]
    refine I2.laid (t' := s2.toks) (fun b o e => Heap.get?_push_of_some _ e) (Nat.le_of_eq hD) ⟨Nat.zero_le _, [], 0, .nil, ?_⟩
    rw [← hD]
    exact Heap.get?_push_size _ rfl
  have h3 : s3.heap = s2.heap.push { cls := .type "list", data := .seq ([] : List Value).toArray } := by rw [← hs3]
  have sz : ∀ b ∈ fp, b < s2.heap.objs.size := fun b hb => by
    obtain ⟨o, e, _⟩ := T.obj _ _ st2 b hb
    exact Heap.lt_size e
  have f3 : ∀ b ∈ fp, FpOk X pins (upd H2 D (.lst [])) b ∧ b < s3.heap.objs.size := fun b hb => by
    have hlt := sz b hb
    refine ⟨⟨?_, (f2 b hb).2⟩, by rw [h3, Heap.size_push]; exact Nat.lt_succ_of_lt hlt⟩
    rw [upd_ne (by rw [← hD]; exact Nat.ne_of_lt hlt)]
    exact (f2 b hb).1
  have st3 : tn 0 s3.heap := T.keep _ _ _ st2 fun b _ o e => by rw [h3]; exact Heap.get?_push_of_some _ e
  have I4 := block_start I3 ok hN f3
  have pg := hg s3 (upd H2 D (.lst [])) s3.heap.objs.size (cellsFrom (s3.heap.objs.size + 1) scope.names (cloFrom X.env.cells scope.names [])) fp
  have pt := ht s3 (upd H2 D (.lst [])) s3.heap.objs.size (cellsFrom (s3.heap.objs.size + 1) scope.names (cloFrom X.env.cells scope.names [])) fp
  have pe := he s3 (upd H2 D (.lst [])) s3.heap.objs.size (cellsFrom (s3.heap.objs.size + 1) scope.names (cloFrom X.env.cells scope.names [])) fp
  have cF : (compEnvC scope (cellsFrom (s3.heap.objs.size + 1) scope.names (cloFrom X.env.cells scope.names [])) s3.heap.objs.size X.env).frame = X.env.frame := rfl
  have note : ∀ a, noteFrame (.ref a) (compEnvC scope (cellsFrom (s3.heap.objs.size + 1) scope.names (cloFrom X.env.cells scope.names [])) s3.heap.objs.size X.env) = noteFrame (.ref a) X.env := fun a => rfl
  show codeAny _ _ (.compStart (.ListComp elt [⟨tg, iter, ifs, 0⟩] scope pos) 0 (.ref it) (.ref D) (compEnvC scope (cellsFrom (s3.heap.objs.size + 1) scope.names (cloFrom X.env.cells scope.names [])) s3.heap.objs.size X.env)) (compPostX (model X.prog X.w) X.A X.xe use Qf (.ref D) (compEnvC scope (cellsFrom (s3.heap.objs.size + 1) scope.names (cloFrom X.env.cells scope.names [])) s3.heap.objs.size X.env)) { s3 with heap := pushCells (s3.heap.push { cls := .type "dict", data := .dict #[] }) scope.names }
  have nfp : ∀ b ∈ fp, (upd H2 D (.lst [])) b = none := fun b hb => (f3 b hb).1.1
  generalize hce : compEnvC scope (cellsFrom (s3.heap.objs.size + 1) scope.names (cloFrom X.env.cells scope.names [])) s3.heap.objs.size X.env = ce at I4 pg pt pe cF note ⊢
  have cL : ce.locals = s3.heap.objs.size := by subst hce; rfl
  generalize hH3 : upd H2 D (.lst []) = H3 at I3 I4 pg pt pe w0 nfp f3
  generalize hs4 : ({ s3 with heap := pushCells (s3.heap.push { cls := .type "dict", data := .dict #[] }) scope.names } : Shared) = s4 at I4 ⊢
  have st4 : tn 0 s4.heap := T.keep _ _ _ st3 fun b _ o e => by rw [← hs4]; exact pushCells_keeps _ _ _ _ (Heap.get?_push_of_some _ e)
  have stat : ∀ {σ' : L2.St} {H' : Hp} {s' : Shared}, L2.Inv (X.blk s3 H3 scope ce fp) [] σ' H' s' → (∀ b ∈ fp, H' b = none) → ∀ b ∈ fp, FpOk (X.blk s3 H3 scope ce fp) [] H' b := fun {σ' H' s'} I' hn b hb =>
    ⟨hn b hb, (I'.ok.exf b hb).1, I'.ok.exfs b hb, .inl hb, fun x c e => (I'.ok.exf b hb).2 x c e, fun p hp => absurd (show p ∈ ([] : List (Addr × Obj)) ++ [] from hp) (by simp)⟩
  have back : ∀ {pins' : List (Addr × Obj)} {σ' : L2.St} {H' : Hp} {s' : Shared}, L2.Inv (X.blk s3 H3 scope ce fp) pins' σ' H' s' → L2.Inv X pins σ H' s' := fun I6 =>
    I3.call' (ch := fp) I6.os I6.base I6.hok I6.bare fun b hb => ⟨(f3 b hb).1.2.2.2.1, (f3 b hb).1.2.1, (f3 b hb).1.2.2.2.2.1, (f3 b hb).1.2.2.2.2.2⟩
  have locC : ∀ {pins' : List (Addr × Obj)} {σ' : L2.St} {H' : Hp} {s' : Shared}, L2.Inv (X.blk s3 H3 scope ce fp) pins' σ' H' s' → (∃ m, s'.heap.Ns s3.heap.objs.size m) ∧ H' s3.heap.objs.size = none := fun {pins' σ' H' s'} I6 => by
    obtain ⟨m, hn, _⟩ := I6.loc
    have hn : s'.heap.Ns ce.locals m := hn
    have z : H' ce.locals = none := I6.free
    rw [cL] at hn z
    exact ⟨⟨m, hn⟩, z⟩
  have sC : s3.heap.objs.size ∉ frs X.stack := fun hb => by
    obtain ⟨_, o, ho, _⟩ := I3.stack.mem hb
    exact absurd (Heap.lt_size ho) (Nat.lt_irrefl _)
  have loop : codeAny (model X.prog X.w) X.A (.compLoop (.ListComp elt [⟨tg, iter, ifs, 0⟩] scope pos) 0 (.ref it) (.ref D) ce) (compPostX (model X.prog X.w) X.A X.xe use Qf (.ref D) ce) s4 := by
    refine compLoop_any (fun n s' => ∃ i H', L2.Inv (X.blk s3 H3 scope ce fp) [] (wipe σ (own.map (·.2))) H' s' ∧ tn i s'.heap ∧ (∀ b ∈ fp, H' b = none) ∧ Wm i n H') ?_ m0 ⟨0, H3, I4, st4, nfp, w0⟩
    rintro n s5 ⟨i, H5, I5, st5, n5, w5⟩
    rcases turn i n H5 w5 with ⟨stop, qq⟩ | ⟨go, Nx, hNx, step⟩
    · have td := T.done (X.blk s3 H3 scope ce fp) rfl rfl rfl hc i [] s5 _ H5 (fun _ _ => False) I5 (stat I5 n5) st5 stop
      refine thnF td fun r s6 ⟨hr, I6⟩ => ?_
      subst hr
      have I7 := back I6
      obtain ⟨⟨m, hn⟩, nC⟩ := locC I6
      show compPost _ _ _ _ _ _ ce.locals _ _
      rw [cL]
      exact hRR D s3.heap.objs.size s6 m H5 I7 qq hn (I3.fpOk (Nat.le_refl _) nC)
    · have ti := T.item (X.blk s3 H3 scope ce fp) rfl rfl rfl hc i [] s5 _ H5 (fun _ _ => False) I5 (stat I5 n5) st5 go
      refine thnF ti fun r s6 ⟨u, hr, h6⟩ => ?_
      subst hr
      refine thnF h6 fun _ s7 ⟨x, H7, I7, r7, y7, st7, n7⟩ => ?_
      have I7' := I7.pinned (stat I7 n7) (T.obj _ _ st7)
      refine thnF (pg.run _ s7 _ H7 x u _ I7' r7 (step x H7 y7)) fun _ s8 ⟨σ8, H8, I8, hw8, q8⟩ => ?_
      refine thnF (pt.run _ s8 σ8 H8 _ I8 q8) fun b s9 ⟨H9, I9, q9⟩ => ?_
      have fin : ∀ {s' : Shared} {H' : Hp}, L2.Inv (X.blk s3 H3 scope ce fp) ([] ++ pinsAt fp s7.heap) σ8 H' s' → Nx H' → ∃ m, m < n ∧ ∃ i H', L2.Inv (X.blk s3 H3 scope ce fp) [] (wipe σ (own.map (·.2))) H' s' ∧ tn i s'.heap ∧ (∀ b ∈ fp, H' b = none) ∧ Wm i m H' := fun {s' H'} I' nx => by
        obtain ⟨m', hm, w'⟩ := hNx H' nx
        have pin' : ∀ b ∈ fp, ∀ o, s7.heap.get? b = some o → s'.heap.get? b = some o ∧ H' b = none := fun b hb o e =>
          let z := I'.pin (b, o) (List.mem_append_right _ (List.mem_append_right _ (mem_pinsAt hb e)))
          ⟨z.1, z.2.1⟩
        have hl : (wipe σ (own.map (·.2))).length = σ8.length := by rw [← hw8, wipe_length]
        refine ⟨m', hm, i + 1, H', (I'.unpinned (pins := [])).weak hl (fun j v e => ?_), T.keep _ _ _ st7 fun b hb o e => (pin' b hb o e).1, fun b hb => ?_, w'⟩
        · rw [← hw8] at e
          exact (wipe_some e).1
        · obtain ⟨o, e, _⟩ := T.obj _ _ st7 b hb
          exact (pin' b hb o e).2
      cases b with
      | false =>
        simp only [Bool.false_eq_true, if_false] at q9 ⊢
        exact fin I9 q9
      | true =>
        simp only [if_true] at q9 ⊢
        refine wpAny_mono (pe.run _ s9 σ8 H9 _ (inv_x I9) q9) (fun z s10 ⟨yv, H10, I10, r10, acc, hD10, hz10, nx⟩ => ?_) fun u s' hx => ?_
        · exact app_ok (X := X.blk s3 H3 scope ce fp) (inv_b I10) hD10 hz10 r10 fun s11 I11 => fin I11 nx
        · obtain ⟨pins', σ', H1, s1', Ib, c⟩ := hx
          obtain ⟨⟨m, hn⟩, nC⟩ := locC Ib
          exact air_out hst hfr tk hW (back Ib) hn (I3.fpOk (Nat.le_refl _) nC) sC cL cF note c
  exact codeAny_compStart_list loop (T.self X.A 0 _ _ _ st4 loop)
/-- name = [..], the element may raise -/
theorem ps_setLcX {i : Nat} {y : Str} {py : Pos} {elt tg iter : Expr} {ifs : List Expr} {scope : Scope} {own : List (Str × Nat)} {pos spos : Pos} {wi : TI} {g : TG} {tt : TT} {te : TE} {W : WX} {E : XK}
    (hst : X.stack = X.env :: X.outer) (hfr : X.env.frame = some X.env.locals) (tk : Takes X W) (hW : ∀ σ cls d H', E cls d H' → W cls d σ H')
    (hc : X.calm = true) (hN : X.N.Nodup) (hy : X.N[i]? = some y) (hyl : X.env.scope.names.lookup y = some .local)
    (hsw : swapsWith (.ListComp elt [⟨tg, iter, ifs, 0⟩] scope pos) (some (.Name y py)) spos.line X.env = pure true) (hi : PI X tg iter wi) (ok : BlkOk X.N X.env.scope scope own)
    (hg : ∀ (s : Shared) (H : Hp) (C : Addr) (cl : List (Str × Addr)) (fp : List Addr), PG (X.blk s H scope (compEnvC scope cl C X.env) fp) tg g) (ht : ∀ (s : Shared) (H : Hp) (C : Addr) (cl : List (Str × Addr)) (fp : List Addr), PTs (X.blk s H scope (compEnvC scope cl C X.env) fp) ifs tt)
    (he : ∀ (s : Shared) (H : Hp) (C : Addr) (cl : List (Str × Addr)) (fp : List Addr), PE (blkX X s H scope (compEnvC scope cl C X.env) fp E) elt te) (hs : ∀ x, foldedSetIterable iter X.env x = pure x := by intro _; rfl) :
    PS X (.Assign [.Name y py] (.ListComp elt [⟨tg, iter, ifs, 0⟩] scope pos) spos) (tAsg (tLc wi g tt te (own.map (·.2))) (gName i)) := by
  refine ⟨fun pins s σ H D I h => ?_⟩
  rw [exec_Assign_Name_used _ _ _ _ hsw]
  refine wpAny_bind (wpAny_standAt (wpAny_bind ?_))
  show wpAny _ X.A (do let _ ← comprehension (.ListComp elt [⟨tg, iter, ifs, 0⟩] scope pos) scope X.env (firstIterPos [⟨tg, iter, ifs, 0⟩] pos) (newList []) false (eval iter X.env) (some (assign (.Name y py) X.env))) _ _ s
  have h : tLc wi g tt te (own.map (·.2)) σ H (fun x H1 => gName i x σ H1 D.nx) := h
  refine wpAny_bind (thn (lc_coreX (Qf := fun _ s' => SP X pins D .next s') hst hfr tk (hW σ) hc hN I hi ok hg ht he hs h fun L C s' m H' I' q hn f => ?_) fun _ s' hq => wpAny_pure (wpAny_pure hq))
  show wpAny _ _ (assign (.Name y py) X.env (.ref L)) _ _ _
  refine wpAny_assign_Name (store_ok2 (v := V.ref L) I' hN hy (.inl hyl) rfl (fun s2 I2 ⟨a, sb, ha⟩ => ?_) (.inr hyl))
  obtain ⟨f0, f1, f2, f3, f4, f5⟩ := f
  have haC : C ≠ a := by
    rcases ha with z | z
    · rw [z]; exact f1
    · exact fun e => f4 y a z e.symm
  refine ⟨m, hn.sameBut sb haC, fun h3 sb3 => ?_⟩
  exact ⟨_, H', I2.turned (t' := s2.toks) (fun b o hb e => (sb3.2 b hb).trans e) f0 f1 f3 f4 f5, q⟩
/-- as a value -/
theorem pe_lcX {elt tg iter : Expr} {ifs : List Expr} {scope : Scope} {own : List (Str × Nat)} {pos : Pos} {wi : TI} {g : TG} {tt : TT} {te : TE} {W : WX} {E : XK}
    (hst : X.stack = X.env :: X.outer) (hfr : X.env.frame = some X.env.locals) (tk : Takes X W) (hW : ∀ σ cls d H', E cls d H' → W cls d σ H') (hc : X.calm = true) (hN : X.N.Nodup) (hi : PI X tg iter wi) (ok : BlkOk X.N X.env.scope scope own)
    (hg : ∀ (s : Shared) (H : Hp) (C : Addr) (cl : List (Str × Addr)) (fp : List Addr), PG (X.blk s H scope (compEnvC scope cl C X.env) fp) tg g) (ht : ∀ (s : Shared) (H : Hp) (C : Addr) (cl : List (Str × Addr)) (fp : List Addr), PTs (X.blk s H scope (compEnvC scope cl C X.env) fp) ifs tt)
    (he : ∀ (s : Shared) (H : Hp) (C : Addr) (cl : List (Str × Addr)) (fp : List Addr), PE (blkX X s H scope (compEnvC scope cl C X.env) fp E) elt te) (hs : ∀ x, foldedSetIterable iter X.env x = pure x := by intro _; rfl) :
    PE X (.ListComp elt [⟨tg, iter, ifs, 0⟩] scope pos) (tLc wi g tt te (own.map (·.2))) := by
  refine ⟨fun pins s σ H Q I h => ?_⟩
  rw [eval_ListComp]
  refine lc_coreX hst hfr tk (hW σ) hc hN I hi ok hg ht he hs h fun D C s' m H' I' q hn f => ⟨m, hn, fun h'' sb => ?_⟩
  obtain ⟨f0, f1, f2, f3, f4, f5⟩ := f
  exact ⟨.ref D, H', I'.turned (t' := s'.toks) (fun b o hb e => (sb.2 b hb).trans e) f0 f1 f3 f4 f5, rfl, q⟩
end
end Fw

set_option maxRecDepth 100000
set_option maxHeartbeats 8000000
namespace Fw
open PySem PySem.Spec PyProof.Rows L2 GxR
open TL (tl tl_append len_tl ext_tl joinL tl_join join_eq tl_num)
theorem pe_callBX {X : Cx} {x : Str} {k : Nat} {ps : List Str} {sp : Sp} {e : Expr} {es : List Expr} {t : TA} {p pos : Pos} {s0 : Shared} {H0 : Hp} {scope : Scope} {cenv : Env} {fp : List Addr} {E : XK} (h : HasX X.prog X.w X.K X.mg X.base x k ps sp) (hr : Room k X.A) (ha : PA (blkX X s0 H0 scope cenv fp E) (e :: es) t) (hg : Gl (blkX X s0 H0 scope cenv fp E) x := by rfl)
    (hdb : (x == ("__debug__" : Str)) = false := by decide) (he : starEach (e :: es) cenv = (false, eval e cenv) :: starEach es cenv := by rfl) (hpl : (backTo pos (starEach es cenv)).any (·.1) = false := by rfl) :
    PE (blkX X s0 H0 scope cenv fp E) (.Call (.Name x p) (e :: es) [] pos) (tCallS sp (fun _ => E) t) := by
  obtain ⟨f, fd, m, kp, b, G⟩ := h
  exact pe_callS (X := blkX X s0 H0 scope cenv fp E) G hr hg m kp b (fun σ => pass_x σ) ha hdb he hpl
theorem cutV_last (xs : List V) : cutV xs none (some (-1)) = xs.dropLast := by
  unfold cutV
  rw [HT.sIx_none, List.drop_zero]
  have : HT.sIx xs.length xs.length (some (-1)) = xs.length - 1 := by
    unfold HT.sIx
    simp
    omega
  rw [this, List.dropLast_eq_take]
  simp
theorem WoE.same {K : PySem.W.Frag} {WC : Addr} {H0 H H' : Hp} {p dx : Addr} {l f : Int} {ta tb d : Addr} {ras as : List Addr} {Xs : List (List Int)} {ss : List T3} (z : Same H H') (h : WoE K WC H0 H p dx l f ta tb d ras as Xs ss) : WoE K WC H0 H' p dx l f ta tb d ras as Xs ss :=
  ⟨z _ _ h.ob, SqT.same z h.st, h.rw.same z, SqT.same z h.sp, h.tr.same z, h.en.map (fun kvs e => z _ _ e) fun a xs _ e => z _ _ e⟩
/-- rows read, laid -/
def PsAt (H : Hp) (rs : List Addr) (Ps : List (List Nat × List Int)) : Prop := rs.length = Ps.length ∧ ∀ (i : Nat) (r : Addr) (P : List Nat × List Int), rs[i]? = some r → Ps[i]? = some P → ∃ na, H r = some (.tup [.str (sZ P.1), .ref na]) ∧ IL H na P.2
def PsD (D : Addr) (H : Hp) (rs : List Addr) (Ps : List (List Nat × List Int)) : Prop := rs.length = Ps.length ∧ ∀ (i : Nat) (r : Addr) (P : List Nat × List Int), rs[i]? = some r → Ps[i]? = some P → ∃ na, H r = some (.tup [.str (sZ P.1), .ref na]) ∧ IL H na P.2 ∧ na ≠ D
theorem PsD.at_ {D : Addr} {H : Hp} {rs : List Addr} {Ps : List (List Nat × List Int)} (h : PsD D H rs Ps) : PsAt H rs Ps := ⟨h.1, fun i r P e1 e2 => by
  obtain ⟨na, a, b, _⟩ := h.2 i r P e1 e2
  exact ⟨na, a, b⟩⟩
/-- lists at their places -/
def LnA (H : Hp) (as : List Addr) (Xs : List (List Int)) : Prop := as.length = Xs.length ∧ ∀ (i : Nat) (a : Addr) (X : List Int), as[i]? = some a → Xs[i]? = some X → IL H a X
theorem LnA.snoc {H : Hp} {as : List Addr} {Xs : List (List Int)} {a : Addr} {X : List Int} (h : LnA H as Xs) (z : IL H a X) : LnA H (as ++ [a]) (Xs ++ [X]) :=
  ⟨by rw [List.length_append, List.length_append, h.1]; rfl, fun i b Y e1 e2 => by
    rcases get_snoc e1 with e1' | ⟨q, rfl⟩
    · rcases get_snoc e2 with e2' | ⟨q2, rfl⟩
      · exact h.2 i b Y e1' e2'
      · have := get_len e1'; rw [h.1] at this; omega
    · rcases get_snoc e2 with e2' | ⟨q2, rfl⟩
      · have := get_len e2'; rw [← h.1] at this; omega
      · exact z⟩
theorem pick_app (wd : List Nat) (A B : List (List Nat × List Int)) : pick wd (A ++ B) = pick wd A ++ pick wd B := by unfold pick; rw [List.filter_append, List.map_append]
theorem pick_one (wd : List Nat) (Q : List Nat × List Int) : pick wd [Q] = if Q.1 = wd then [Q.2] else [] := by
  unfold pick
  by_cases c : Q.1 = wd
  · rw [if_pos c, List.filter_cons_of_pos (by simpa using c)]; rfl
  · rw [if_neg c, List.filter_cons_of_neg (by simpa using c)]; rfl
theorem PsAt.nth {H : Hp} {rs : List Addr} {Ps : List (List Nat × List Int)} (h : PsAt H rs Ps) {i : Nat} {x : V} (hx : (rs.map V.ref)[i]? = some x) : ∃ r Q, x = .ref r ∧ rs[i]? = some r ∧ Ps[i]? = some Q ∧ ∃ na, H r = some (.tup [.str (sZ Q.1), .ref na]) ∧ IL H na Q.2 := by
  rw [List.getElem?_map] at hx
  cases e : rs[i]? with
  | none => rw [e] at hx; cases hx
  | some r =>
    rw [e] at hx
    have il := (List.getElem?_eq_some_iff.mp e).1
    rw [h.1] at il
    exact ⟨r, Ps[i], (Option.some.inj hx).symm, rfl, List.getElem?_eq_getElem il, h.2 i r _ e (List.getElem?_eq_getElem il)⟩
theorem PsAt.same {H H' : Hp} {rs : List Addr} {Ps : List (List Nat × List Int)} (z : Same H H') (h : PsAt H rs Ps) : PsAt H' rs Ps := ⟨h.1, fun i r P e1 e2 => by
  obtain ⟨na, a, b⟩ := h.2 i r P e1 e2
  exact ⟨na, z _ _ a, z _ _ b⟩⟩
section
variable {P : Program} {w : World} {K : PySem.W.Frag} {mg : Str → Option Value} {base : Heap} {C J B NC WC cA tA : Addr} {t1 t2 t3 t4 : Tok}
def spParse (K : PySem.W.Frag) (NC WC tA : Addr) : Sp := fun vs H Q E => ∃ s : Str, vs = [.str s] ∧ (∀ c ∈ tl s, c < 128) ∧ s.length ≤ 900 ∧ TabG H tA ∧
  (∀ (l f : Int) (Xs : List (List Int)) (ss : List T3) (p dx ta tb d : Addr) (ras as : List Addr) H0 H', GoodT (tl s) l f Xs ss → Tb tA H H' → WoE K WC H0 H' p dx l f ta tb d ras as Xs ss → Q (.ref p) H') ∧
  ((∀ (l f : Int) (Xs : List (List Int)) (ss : List T3), ¬ GoodT (tl s) l f Xs ss) → ∀ H', E (.ref NC) none H')
theorem ok_parse_world {f : Addr} {fd : FuncData} (FF : Fun K "parse_world" "parse_world" s_parse_world f fd) (T : Txt K mg C J B) (TE : TxtEW K mg NC) (TC : TxtC K WC)
    (h_row_of : HasX P w K mg base "row_of" 1 a_row_of (spRow NC)) (h_World : HasCX P w K mg base "World" WC 6 a_World_init (spWInit K NC WC tA)) (h_format_world : Has P w K mg base "format_world" 2 a_format_world (spFmtW K WC)) : FnOk P w K mg base (L2.CX P w) 8 f fd a_parse_world (spParse K NC WC tA) := by
  refine FF.okX sc_parse_world (fun vs H Q E h => ?_) (fun cdv A outer s0 H vs Q E hr h => ?_)
  · obtain ⟨s, rfl, _⟩ := h
    rfl
  · obtain ⟨s, rfl, asc, len, tg, k1, k2⟩ := h
    refine ⟨_, (pss_cons (ps_setLcX (i := 1) (own := [("line", 8)]) (g := gName 8) (E := E) rfl rfl (takes_of rfl rfl rfl rfl) (fun _ _ _ _ h => h) rfl sc_parse_world.nd rfl rfl (sw_true rfl rfl rfl (by decide +kernel)) (pi_list (pe_slice sl_list (pe_bm PySem.F.plainAttrs_str PySem.F.slot_str_split PySem.F.type_str_split mt_split (pv 0) (pa_cons pe_str pa_nil)) po_none (po_some (pe_un un_neg pe_int)))) (blkOk_by (own := [("line", 8)]) (N := n_parse_world) (sc := defScope s_parse_world) (by decide +kernel)) (fun _ _ _ _ _ => (pg_name (i := 8) sc_parse_world.nd rfl (.inl rfl))) (fun _ _ _ _ _ => pts_nil) (fun _ _ _ _ _ => (pe_callBX h_row_of (hr.mono (by omega)) (pa_cons (pv 8) pa_nil))))
      (pss_cons (ps_if (PW.pt (pw_or (pt_not (pt_truth (pv 1) (by intro _; rfl))) (pw_or1 (pt_cmpR op_ne (pe_callB call_len_seq rfl T.z_len (by decide +kernel) (pa_cons (pe_ix ix_tup (pe_ix ix_list (pv 1) pe_int (fun _ _ => rfl)) pe_int (fun _ _ => rfl)) pa_nil)) pe_int (nomark _))))) (pss_one (ps_raise rfl (takes_of rfl rfl rfl rfl) (pmk_own PySem.F.excBase_ValueError TE.xC TE.gC TE.kC (raises_own TE.bC TE.tC) (by exact rfl)))) pss_nil)
      (pss_cons (ps_asg (pe_ix ix_tup (pe_ix ix_list (pv 1) pe_int (fun _ _ => rfl)) pe_int (fun _ _ => rfl)) (pg_lst rfl (pgs_cons (pg_name (i := 2) sc_parse_world.nd rfl (.inl rfl)) (pgs_cons (pg_name (i := 3) sc_parse_world.nd rfl (.inl rfl)) (pgs_cons (pg_name (i := 4) sc_parse_world.nd rfl (.inl rfl)) pgs_nil)))))
      (pss_cons (ps_setLc (i := 5) (own := [("word", 9), ("numbers", 10)]) rfl sc_parse_world.nd rfl rfl (sw_true rfl rfl rfl (by decide +kernel)) (pi_list (pv 1)) (blkOk_by (own := [("word", 9), ("numbers", 10)]) (N := n_parse_world) (sc := defScope s_parse_world) (by decide +kernel)) (fun _ _ _ _ _ => (show PG _ _ (gTup K 2 _) from pg_tup rfl (pgs_cons (pg_name (i := 9) sc_parse_world.nd rfl (.inl rfl)) (pgs_cons (pg_name (i := 10) sc_parse_world.nd rfl (.inl rfl)) pgs_nil)))) (fun _ _ _ _ _ => (pts_one (pt_cmpR op_eq (pv 9) pe_str (nomark _)))) (fun _ _ _ _ _ => (pv 10)))
      (pss_cons (ps_setLc (i := 6) (own := [("word", 9), ("numbers", 10)]) rfl sc_parse_world.nd rfl rfl (sw_true rfl rfl rfl (by decide +kernel)) (pi_list (pv 1)) (blkOk_by (own := [("word", 9), ("numbers", 10)]) (N := n_parse_world) (sc := defScope s_parse_world) (by decide +kernel)) (fun _ _ _ _ _ => (show PG _ _ (gTup K 2 _) from pg_tup rfl (pgs_cons (pg_name (i := 9) sc_parse_world.nd rfl (.inl rfl)) (pgs_cons (pg_name (i := 10) sc_parse_world.nd rfl (.inl rfl)) pgs_nil)))) (fun _ _ _ _ _ => (pts_one (pt_cmpR op_eq (pv 9) pe_str (nomark _)))) (fun _ _ _ _ _ => (pv 10)))
      (pss_cons (ps_set (i := 7) sc_parse_world.nd rfl (.inl rfl) (pe_makeX h_World (hr.mono (by omega)) (takes_of rfl rfl rfl rfl) (pa_cons (pv 2) (pa_cons (pv 3) (pa_cons (pv 5) (pa_cons (pv 6) pa_nil))))))
      (pss_cons (ps_if (pt_cmpR op_ne (pe_callH h_format_world (hr.mono (by omega)) (pa_cons (pv 7) pa_nil)) (pv 0) (nomark _)) (pss_one (ps_raise rfl (takes_of rfl rfl rfl rfl) (pmk_own PySem.F.excBase_ValueError TE.xC TE.gC TE.kC (raises_own TE.bC TE.tC) (by exact rfl)))) pss_nil)
      (PSs.nox (pss_one (ps_ret (pv 7))))))))))), ?_⟩
    have e10 : tl ("\n" : Str) = [10] := by decide +kernel
    have sp := split_cut 10 s e10 (by decide)
    have big : (4000 : Nat) ≤ sizeLine := by decide
    refine ⟨.str s, rfl, rfl, s, "\n", rfl, rfl, by decide +kernel, by omega, fun wa hwa => ?_⟩
    rw [sp]
    have s1 := Same.new (o := .lst (((cutc 10 (tl s)).map sZ).map V.str)) hwa
    have gw : (upd H wa (.lst (((cutc 10 (tl s)).map sZ).map V.str))) wa = some (.lst (((cutc 10 (tl s)).map sZ).map V.str)) := upd_same
    generalize upd H wa (.lst (((cutc 10 (tl s)).map sZ).map V.str)) = H1 at s1 gw
    refine ⟨1, rfl, -1, rfl, wa, _, rfl, SqL.of gw, fun sa hsa => ?_⟩
    rw [cutV_last, ← List.map_dropLast, ← List.map_dropLast]
    have s2 := s1.trans (Same.new (o := .lst ((((cutc 10 (tl s)).dropLast).map sZ).map V.str)) hsa)
    have gs : (upd H1 sa (.lst ((((cutc 10 (tl s)).dropLast).map sZ).map V.str))) sa = some (.lst ((((cutc 10 (tl s)).dropLast).map sZ).map V.str)) := upd_same
    generalize upd H1 sa (.lst ((((cutc 10 (tl s)).dropLast).map sZ).map V.str)) = H2 at s2 gs
    obtain ⟨LS, hLS⟩ : ∃ LS, LS = (cutc 10 (tl s)).dropLast := ⟨_, rfl⟩
    rw [← hLS] at gs
    have lenT : (tl s).length ≤ 900 := by rw [← len_tl]; exact len
    have lLS : LS.length ≤ 900 := by
      have h1 := cutc_len 10 (tl s)
      rw [hLS, List.length_dropLast]
      omega
    have inLS : ∀ L ∈ LS, L ∈ cutc 10 (tl s) := fun L hL => List.dropLast_subset _ (by rw [← hLS]; exact hL)
    have lL : ∀ L ∈ LS, L.length ≤ 900 := fun L hL => Nat.le_trans (cutc_part (inLS L hL)) lenT
    have hP : readP (tl s) = LS.map rowV := by unfold readP; rw [hLS]
    refine ⟨sa, rfl, ⟨_, SqL.of gs⟩, fun D hD => ?_⟩
    refine lc_list (xs := (LS.map sZ).map V.str) (fun i G => Same H2 G ∧ ∃ rs : List Addr, G D = some (.lst (rs.map V.ref)) ∧ PsD D G rs ((LS.take i).map rowV)) ⟨Same.new hD, [], upd_same, ⟨rfl, fun i r P e _ => by simp at e⟩⟩ (fun i G _ q => SqL.of (q.1 _ _ gs)) ?_ ?_
    · rintro i x G hx ⟨sG, rs, gD, pr⟩
      obtain ⟨L, hL, rfl⟩ := strs_nth hx
      have mL := List.mem_of_getElem? hL
      have il := (List.getElem?_eq_some_iff.mp hL).1
      have tk : LS.take (i + 1) = LS.take i ++ [L] := by rw [List.take_add_one, hL]; rfl
      cases cut : cutc 32 L with
      | nil => exact absurd cut (cutc_ne 32 L)
      | cons p ps =>
        refine ⟨rfl, .str (sZ L), rfl, sZ L, p, ps, rfl, cut, fun c hc => asc c (cutc_mem (inLS L mL) hc), by rw [sZ_len]; exact lL L mL, fun nums r na H' s' nna gr gl => ?_, fun bad H' => k2 (fun l f Xs ss g => bad (g.nums (by rw [← hLS]; exact mL) cut)) H'⟩
        have lrs : rs.length ≤ 900 := by rw [pr.1, List.length_map, List.length_take]; omega
        refine ⟨_, s' _ _ gD, by rw [List.length_map]; exact small1000 (by omega), fun b o e => by rw [upd_ne (ne_of_none e hD)]; exact s' _ _ (sG b o e), rs ++ [r], by rw [upd_same, List.map_append]; rfl, ?_⟩
        have naD : na ≠ D := (ne_of_none gD nna).symm
        have pr2 := pr.2
        have gD' := s' _ _ gD
        rw [tk, List.map_append, List.map_singleton]
        refine ⟨by rw [List.length_append, List.length_append, pr.1]; rfl, fun j b Q e1 e2 => ?_⟩
        rcases get_snoc e1 with e1' | ⟨q1, rfl⟩
        · rcases get_snoc e2 with e2' | ⟨q2, rfl⟩
          · obtain ⟨nb, hb, hnb, nbD⟩ := pr2 j b Q e1' e2'
            exact ⟨nb, by rw [upd_ne (ne_of (s' _ _ hb) gD' (by intro z; cases z))]; exact s' _ _ hb, by show _ = _; rw [upd_ne nbD]; exact s' _ _ hnb, nbD⟩
          · have := get_len e1'; rw [pr.1] at this; omega
        · rcases get_snoc e2 with e2' | ⟨q2, rfl⟩
          · have := get_len e2'; rw [← pr.1] at this; omega
          · have er : rowV L = (p, ps.map valW) := by unfold rowV; rw [cut]
            rw [er]
            exact ⟨na, by rw [upd_ne (ne_of gr gD' (by intro z; cases z))]; exact gr, by show _ = _; rw [upd_ne naD]; exact gl, naD⟩
    · rintro H3 ⟨s3, rs, gD, pr⟩
      rw [List.length_map, List.length_map, List.take_length, ← hP] at pr
      have pr := pr.at_
      obtain ⟨Ps, hPs⟩ : ∃ Ps, Ps = readP (tl s) := ⟨_, rfl⟩
      rw [← hPs] at pr hP
      have lPs : Ps.length ≤ 900 := by rw [hP, List.length_map]; exact lLS
      have lX : ∀ Q1 ∈ Ps, Q1.2.length ≤ 900 := fun Q1 h => by
        rw [hP] at h
        obtain ⟨L, hL, rfl⟩ := List.mem_map.mp h
        have h1 := cutc_len 32 L
        have h2 := lL L hL
        unfold rowV
        cases cut : cutc 32 L with
        | nil => exact Nat.zero_le _
        | cons p ps =>
          rw [cut, List.length_cons] at h1
          show (ps.map valW).length ≤ 900
          rw [List.length_map]
          omega
      have gRows : ∀ {l f : Int} {Xs : List (List Int)} {ss : List T3}, GoodT (tl s) l f Xs ss → Ps = rowsP l f Xs ss := fun g => by rw [hPs]; exact g.rows
      cases eP : Ps with
      | nil =>
        have er : rs = [] := List.length_eq_zero_iff.mp (by rw [pr.1, eP]; rfl)
        subst er
        exact ⟨.ref D, rfl, false, .inl ⟨_, SqL.of gD, rfl⟩, iteT (iteT (k2 (fun l f Xs ss g => by have := gRows g; rw [eP] at this; cases this) _))⟩
      | cons Q0 Pr =>
      cases er : rs with
      | nil => have := pr.1; rw [er, eP] at this; cases this
      | cons r0 rr =>
      obtain ⟨na0, gr0, gl0⟩ := pr.2 0 r0 Q0 (by rw [er]; rfl) (by rw [eP]; rfl)
      refine ⟨.ref D, rfl, true, .inl ⟨_, SqL.of gD, by rw [er]; rfl⟩, iteF ?_⟩
      refine ⟨.ref D, rfl, D, _, _, .ref r0, rfl, rfl, SqL.of gD, by rw [er]; exact atI_nat (j := 0) rfl, r0, _, _, .ref na0, rfl, rfl, SqT.of gr0, rfl, na0, _, rfl, .inl (SqL.of gl0), rfl, _, rfl, ?_⟩
      rw [List.length_map]
      by_cases c3 : Q0.2.length = 3
      case neg =>
        refine (if_pos (by rw [decide_eq_false fun e => c3 (by have := V.int.inj e; omega)]; rfl)).mpr (k2 (fun l f Xs ss g => ?_) _)
        have := gRows g
        rw [eP] at this
        have e2 := congrArg Prod.snd (List.cons.inj this).1
        rw [e2] at c3
        exact c3 rfl
      refine (if_neg (by rw [c3]; decide)).mpr ?_
      obtain ⟨l, f, z, e3⟩ : ∃ l f z, Q0.2 = [l, f, z] := by
        match h : Q0.2, c3 with
        | [l, f, z], _ => exact ⟨l, f, z, rfl⟩
      rw [e3] at gl0
      refine ⟨.ref D, rfl, D, _, _, .ref r0, rfl, rfl, SqL.of gD, by rw [er]; exact atI_nat (j := 0) rfl, r0, _, _, .ref na0, rfl, rfl, SqT.of gr0, rfl, na0, _, rfl, SqL.of gl0, rfl, .int l, _, rfl, .int f, _, rfl, .int z, _, rfl, rfl, ?_⟩
      have lrs : rs.length ≤ 900 := by rw [pr.1]; exact lPs
      refine ⟨.ref D, rfl, D, rfl, ⟨_, SqL.of ((Same.refl H3) _ _ gD)⟩, fun D2 hD2 => ?_⟩
      refine lc_list (xs := rs.map V.ref) (fun i G => Same H3 G ∧ ∃ sas : List Addr, G D2 = some (.lst (sas.map V.ref)) ∧ LnA H3 sas (pick wState (Ps.take i)) ∧ sas.length ≤ i) ⟨Same.new hD2, [], upd_same, ⟨rfl, fun i a X e _ => by simp at e⟩, Nat.le_refl _⟩ (fun i G _ q => SqL.of (q.1 _ _ ((Same.refl H3) _ _ gD))) ?_ ?_
      · rintro i x G hx ⟨sG, sas, gX, ln, ll⟩
        obtain ⟨r, Q1, rfl, hr1, hq1, na, gr, gl⟩ := pr.nth hx
        have il := (List.getElem?_eq_some_iff.mp hr1).1
        have gr2 := sG _ _ ((Same.refl H3) _ _ gr)
        have tk : Ps.take (i + 1) = Ps.take i ++ [Q1] := by rw [List.take_add_one, hq1]; rfl
        refine ⟨r, _, rfl, SqT.of gr2, rfl, .str (sZ Q1.1), _, rfl, .ref na, _, rfl, rfl, rfl, .str (sZ Q1.1), rfl, rfl, _, rfl, ?_⟩
        by_cases c : Q1.1 = wState
        · refine (if_pos (decide_eq_true (by rw [c]; decide +kernel))).mpr ⟨.ref na, rfl, _, gX, by rw [List.length_map]; exact small1000 (by omega), fun b o e => by rw [upd_ne (ne_of_none e hD2)]; exact sG b o e, sas ++ [na], by rw [upd_same, List.map_append]; rfl, ?_, by rw [List.length_append, List.length_singleton]; omega⟩
          rw [tk, pick_app, pick_one, if_pos c]
          exact ln.snoc gl
        · refine (if_neg (by rw [decide_eq_true_eq]; exact fun e => c (by have e2 := congrArg tl (V.str.inj e); rw [tl_sZ] at e2; rw [e2]; decide +kernel))).mpr ⟨sG, sas, gX, ?_, by omega⟩
          rw [tk, pick_app, pick_one, if_neg c, List.append_nil]
          exact ln
      rintro H4 ⟨s4, sas, gD2, lnD2, lD2⟩
      rw [List.length_map] at lnD2 lD2
      rw [List.take_of_length_le (by rw [pr.1]; exact Nat.le_refl _)] at lnD2
      refine ⟨.ref D, rfl, D, rfl, ⟨_, SqL.of (s4 _ _ gD)⟩, fun D3 hD3 => ?_⟩
      refine lc_list (xs := rs.map V.ref) (fun i G => Same H4 G ∧ ∃ sas : List Addr, G D3 = some (.lst (sas.map V.ref)) ∧ LnA H3 sas (pick wStep (Ps.take i)) ∧ sas.length ≤ i) ⟨Same.new hD3, [], upd_same, ⟨rfl, fun i a X e _ => by simp at e⟩, Nat.le_refl _⟩ (fun i G _ q => SqL.of (q.1 _ _ (s4 _ _ gD))) ?_ ?_
      · rintro i x G hx ⟨sG, sas, gX, ln, ll⟩
        obtain ⟨r, Q1, rfl, hr1, hq1, na, gr, gl⟩ := pr.nth hx
        have il := (List.getElem?_eq_some_iff.mp hr1).1
        have gr2 := sG _ _ (s4 _ _ gr)
        have tk : Ps.take (i + 1) = Ps.take i ++ [Q1] := by rw [List.take_add_one, hq1]; rfl
        refine ⟨r, _, rfl, SqT.of gr2, rfl, .str (sZ Q1.1), _, rfl, .ref na, _, rfl, rfl, rfl, .str (sZ Q1.1), rfl, rfl, _, rfl, ?_⟩
        by_cases c : Q1.1 = wStep
        · refine (if_pos (decide_eq_true (by rw [c]; decide +kernel))).mpr ⟨.ref na, rfl, _, gX, by rw [List.length_map]; exact small1000 (by omega), fun b o e => by rw [upd_ne (ne_of_none e hD3)]; exact sG b o e, sas ++ [na], by rw [upd_same, List.map_append]; rfl, ?_, by rw [List.length_append, List.length_singleton]; omega⟩
          rw [tk, pick_app, pick_one, if_pos c]
          exact ln.snoc gl
        · refine (if_neg (by rw [decide_eq_true_eq]; exact fun e => c (by have e2 := congrArg tl (V.str.inj e); rw [tl_sZ] at e2; rw [e2]; decide +kernel))).mpr ⟨sG, sas, gX, ?_, by omega⟩
          rw [tk, pick_app, pick_one, if_neg c, List.append_nil]
          exact ln
      rintro H5 ⟨s5, tas, gD3, lnD3, lD3⟩
      rw [List.length_map] at lnD3 lD3
      rw [List.take_of_length_le (by rw [pr.1]; exact Nat.le_refl _)] at lnD3
      have s35 := s4.trans s5
      have gD2' := s5 _ _ gD2
      have same : ∀ {l' f' : Int} {Xs' : List (List Int)} {ss' : List T3}, GoodT (tl s) l' f' Xs' ss' → l' = l ∧ f' = f ∧ pick wState Ps = Xs' ∧ pick wStep Ps = ss'.map of3 := fun g => by
        have R := gRows g
        have R2 := R
        rw [eP] at R2
        have e2 := congrArg Prod.snd (List.cons.inj R2).1
        rw [e3] at e2
        obtain ⟨a1, a2⟩ := List.cons.inj e2
        obtain ⟨a3, _⟩ := List.cons.inj a2
        exact ⟨a1.symm, a3.symm, by rw [R, pick_state], by rw [R, pick_step]⟩
      have pkl : ∀ wd, (pick wd Ps).length ≤ 900 := fun wd => by
        unfold pick
        rw [List.length_map]
        exact Nat.le_trans (List.length_filter_le _ _) lPs
      have pkX : ∀ wd, ∀ X ∈ pick wd Ps, X.length ≤ 900 := fun wd X hX => by
        unfold pick at hX
        obtain ⟨Q1, h1, rfl⟩ := List.mem_map.mp hX
        exact lX Q1 (List.mem_filter.mp h1).1
      refine ⟨.int l, rfl, .int f, rfl, .ref D2, rfl, .ref D3, rfl, fun x dx hx hdx ne => ?_⟩
      have s6 : Same H5 (upd (upd H5 dx (.own x)) x (.ins WC dx [])) := fun b u e => by rw [upd_ne (ne_of_none e hx), upd_ne (ne_of_none e hdx)]; exact e
      have sH5 := s2.trans (s3.trans s35)
      have sH := sH5.trans s6
      refine ⟨x, dx, l, f, D2, D3, sas, tas, pick wState Ps, pick wStep Ps, rfl, upd_same, .inl (SqL.of (s6 _ _ gD2')), ⟨lnD2.1, fun i a X e1 e2 => .inl (SqL.of (s6 _ _ (s35 _ _ (lnD2.2 i a X e1 e2))))⟩, .inl (SqL.of (s6 _ _ gD3)), ⟨lnD3.1, fun i a X e1 e2 => .inl (s6 _ _ (s35 _ _ (lnD3.2 i a X e1 e2)))⟩, tg.same sH, Nat.le_trans (pkl _) (by decide), fun X hX => Nat.le_trans (pkX _ X hX) (by decide), fun X hX => Nat.le_trans (pkX _ X hX) (by decide), Nat.le_trans (pkl _) (by decide), fun ss ta tb d ras as H' so pe ok b2 tg' WE => ⟨rfl, ?_⟩, fun ts so pe no H' => k2 (fun l' f' Xs' ss' g => ?_) H'⟩
      · have o := ok_iff ok
        have lss : ss.length ≤ 1000 := by
          have h1 := pe.length_eq
          rw [List.length_map] at h1
          have := pkl wStep
          omega
        refine ⟨.ref x, rfl, _, x, dx, l, f, ta, tb, d, ras, as, pick wState Ps, ss, rfl, WE, o.sm (pkX wState) lss, fun H7 s7 => ⟨.str s, rfl, rfl, _, rfl, ?_⟩⟩
        by_cases c : fmtL l f (pick wState Ps) ss = tl s
        · have es : sZ (fmtL l f (pick wState Ps) ss) = s := ext_tl (by rw [tl_sZ]; exact c)
          refine (if_neg (by rw [es, decide_eq_true rfl]; exact Bool.false_ne_true)).mpr ⟨.ref x, rfl, ?_⟩
          exact k1 l f _ ss x dx ta tb d ras as _ H7 ⟨c.symm, ok⟩ ⟨fun b u n e => s7 _ _ (b2 _ _ (ne_of_none (sH5 _ _ e) hx) n (sH _ _ e)), tg'.same s7⟩ (WE.same s7)
        · refine (if_pos (by rw [decide_eq_false fun e => c (by have e2 := congrArg tl (V.str.inj e); rw [tl_sZ] at e2; exact e2)]; rfl)).mpr (k2 (fun l' f' Xs' ss' g => ?_) _)
          obtain ⟨rfl, rfl, a3, a4⟩ := same g
          rw [a4] at pe
          have e1 := tri_one (List.pairwise_map.mpr (so.imp fun {a b} h => by rw [lex_of3]; exact h)) pe (ok_iff g.ok).hu
          have e2 : ss = ss' := by
            refine (List.map_inj_right (f := of3) fun a b h => ?_).mp e1
            obtain ⟨a1, a2, a5⟩ := a
            obtain ⟨b1, b2', b3⟩ := b
            simp only [of3, List.cons.injEq, and_true] at h
            obtain ⟨rfl, rfl, rfl⟩ := h
            rfl
          rw [a3, e2] at c
          exact c g.t.symm
      · obtain ⟨rfl, rfl, a3, a4⟩ := same g
        rw [a4] at pe
        have e1 := tri_one so pe (ok_iff g.ok).hu
        have := no ss' e1
        rw [a3, g.ok] at this
        cases this
end
end Fw

set_option maxRecDepth 100000
set_option maxHeartbeats 8000000
namespace Fw
open PySem PySem.Spec PyProof.Rows L2 GxR
theorem of3s_inj {a b : List T3} (h : a.map of3 = b.map of3) : a = b := by
  refine (List.map_inj_right (f := of3) fun a b h => ?_).mp h
  obtain ⟨a1, a2, a5⟩ := a
  obtain ⟨b1, b2', b3⟩ := b
  simp only [of3, List.cons.injEq, and_true] at h
  obtain ⟨rfl, rfl, rfl⟩ := h
  rfl
theorem ok_of {l f : Int} {Xs : List (List Int)} {ss : List T3} (hl : 1 ≤ l ∧ l ≤ 3) (hf : 0 ≤ f ∧ f ≤ 6) (h1 : 1 ≤ Xs.length) (h4 : Xs.length ≤ 400) (hr : ∀ X ∈ Xs, RowUp f X) (hs : ss.Pairwise fun x y => lex3 x y = true)
    (hb : ∀ p ∈ ss, 0 ≤ p.2.1 ∧ p.2.1 < l ∧ 0 ≤ p.1 ∧ p.1 < (Xs.length : Int) ∧ 0 ≤ p.2.2 ∧ p.2.2 < (Xs.length : Int)) : okWorld l f Xs ss = true := by
  unfold okWorld okNums okRows okSteps
  have a1 : Xs.all (okRow f) = true := List.all_eq_true.mpr fun X hX => by
    have r := hr X hX
    unfold okRow
    rw [Bool.and_eq_true]
    refine ⟨List.all_eq_true.mpr fun x hx => ?_, (asc_pair ltI_tr).mpr (r.1.imp fun {a b} h => decide_eq_true h)⟩
    have := r.2 x hx
    rw [Bool.and_eq_true, decide_eq_true_eq, decide_eq_true_eq]
    omega
  have a2 : ss.all (okStep l Xs.length) = true := List.all_eq_true.mpr fun p hp => by
    have r := hb p hp
    unfold okStep
    simp only [Bool.and_eq_true, decide_eq_true_eq]
    omega
  rw [a1, a2, (asc_pair lex3_tr).mpr hs, decide_eq_true hl.1, decide_eq_true hl.2, decide_eq_true hf.1, decide_eq_true hf.2, decide_eq_true (by omega : 1 ≤ (Xs.length : Int)), decide_eq_true (by omega : (Xs.length : Int) ≤ 400)]
  rfl
theorem RAt.snoc {K : PySem.W.Frag} {H : Hp} {as : List Addr} {Xs : List (List Int)} {a : Addr} {X : List Int} (h : RAt K H as Xs) (z : SqT K H a (X.map V.int)) : RAt K H (as ++ [a]) (Xs ++ [X]) :=
  ⟨by rw [List.length_append, List.length_append, h.1]; rfl, fun i b Y e1 e2 => by
    rcases get_snoc e1 with e1' | ⟨q, rfl⟩
    · rcases get_snoc e2 with e2' | ⟨q, rfl⟩
      · exact h.2 i b Y e1' e2'
      · have := get_len e1'; rw [h.1] at this; omega
    · rcases get_snoc e2 with e2' | ⟨q2, rfl⟩
      · have := get_len e2'; rw [← h.1] at this; omega
      · exact z⟩
theorem RowUp.mono {f g : Int} {X : List Int} (h : RowUp f X) (l : f ≤ g) : RowUp g X := ⟨h.1, fun x hx => by have := h.2 x hx; omega⟩
theorem itN {a b : Int} {A B : Prop} (h : a ≠ b) (x : B) : if decide (V.int a = V.int b) = true then A else B := (if_neg (by rw [decide_eq_false (fun e => h (V.int.inj e))]; exact Bool.false_ne_true)).mpr x
theorem itY {a b : Int} {A B : Prop} (h : a = b) (x : A) : if decide (V.int a = V.int b) = true then A else B := (if_pos (decide_eq_true (congrArg V.int h))).mpr x
theorem up_one {a b : List Int} (h : a.Perm b) (ha : a.Pairwise (· ≤ ·)) (hb : b.Pairwise (· < ·)) : a = b := by
  have nb : b.Nodup := hb.imp fun {x y} h e => by omega
  have na : a.Nodup := h.nodup_iff.mpr nb
  refine rising_one ?_ hb fun x => h.mem_iff
  exact (List.pairwise_and_iff.mpr ⟨ha, na⟩).imp fun {x y} h => by have := h.1; have := h.2; omega
theorem PAt.butD {H H' : Hp} {d : Addr} {as : List Addr} {ts : List T3} (dr : Draws H d) (b : But d H H') (h : PAt H as ts) : PAt H' as ts := by
  obtain ⟨ds, q⟩ := dr
  exact ⟨h.1, fun i a p e1 e2 => b _ _ (ne_of (h.2 i a p e1 e2) q (by intro z; cases z)) (h.2 i a p e1 e2)⟩
theorem WAx.butD {H H' : Hp} {d wa sa pa : Addr} {fas pas : List Addr} {W : Wd} (dr : Draws H d) (b : But d H H') (n1 : sa ≠ d) (n2 : pa ≠ d) (n3 : ∀ a ∈ fas, a ≠ d) (h : WAx H wa sa pa fas pas W) : WAx H' wa sa pa fas pas W := by
  have pt := h.t.butD dr b
  obtain ⟨ds, q⟩ := dr
  exact ⟨b _ _ (ne_of h.w q (by intro z; cases z)) h.w, b _ _ n1 h.s, b _ _ n2 h.p, h.f.map fun a o ha e => b _ _ (n3 a ha) e, pt⟩
theorem FAt.tb {P : Addr} {H H' : Hp} {as : List Addr} {Xs : List (List Int)} (g : TabG H P) (t : Tb P H H') (h : FAt H as Xs) : FAt H' as Xs := ⟨h.1, fun i a X e1 e2 => t.1 _ _ (g.ne (h.2 i a X e1 e2) (by intro _ z; cases z)) (h.2 i a X e1 e2)⟩
theorem WAx.tb {P : Addr} {H H' : Hp} {wa sa pa : Addr} {fas pas : List Addr} {W : Wd} (g : TabG H P) (t : Tb P H H') (h : WAx H wa sa pa fas pas W) : WAx H' wa sa pa fas pas W :=
  ⟨t.1 _ _ (g.ne h.w (by intro _ z; cases z)) h.w, t.1 _ _ (g.ne h.s (by intro _ z; cases z)) h.s, t.1 _ _ (g.ne h.p (by intro _ z; cases z)) h.p, h.f.tb g t, h.t.tb g t⟩
theorem IsF.tb {K : PySem.W.Frag} {P : Addr} {H H' : Hp} (g : TabG H P) (t : Tb P H H') {v : V} {f : F} (h : IsF K H v f) : IsF K H' v f := h.map fun _ _ => SqT.tb g t
theorem WoE.tb {K : PySem.W.Frag} {WC P : Addr} {H0 H H' : Hp} {p dx : Addr} {l f : Int} {ta tb d : Addr} {ras as : List Addr} {Xs : List (List Int)} {ss : List T3} (g : TabG H P) (t : Tb P H H') (h : WoE K WC H0 H p dx l f ta tb d ras as Xs ss) : WoE K WC H0 H' p dx l f ta tb d ras as Xs ss :=
  ⟨t.1 _ _ (g.ne h.ob (by intro _ z; cases z)) h.ob, SqT.tb g t h.st, h.rw.tb g t, SqT.tb g t h.sp, h.tr.tb g t, h.en.tb g t⟩
theorem joinS {c : Bool} {A : Prop} {C : L2.St → Hp → Prop} {σ : L2.St} {G : Hp} (Fa : L2.St → Hp → Prop) (hr : ∀ σ5 G5, Fa σ5 G5 → C σ5 G5) (h1 : c = true → (∀ σ5 G5, Fa σ5 G5 → C σ5 G5) → A) (h2 : c = false → Fa σ G) : if c = true then A else C σ G := by
  cases c with
  | true => exact h1 rfl hr
  | false => exact hr _ _ (h2 rfl)
theorem WoE.wst {K : PySem.W.Frag} {WC : Addr} {H0 H : Hp} {p dx : Addr} {l f : Int} {ta tb d r : Addr} {ras as : List Addr} {Xs : List (List Int)} {ss : List T3} (h : WoE K WC H0 H p dx l f ta tb d ras as Xs ss) (e : H r = some (.tup [.ref ta, .ref tb])) : WSt K H (.ref r) ⟨Xs, ss⟩ :=
  ⟨r, ta, tb, ras, as, rfl, ⟨e, .inr h.st, .inr h.sp, ⟨h.rw.1, fun i a X e1 e2 => .inr (h.rw.2 i a X e1 e2)⟩, h.tr⟩⟩
section
variable {P : Program} {w : World} {K : PySem.W.Frag} {mg : Str → Option Value} {base : Heap} {C J B NC WC cA tA : Addr} {t1 t2 t3 : Tok}
def spMade (K : PySem.W.Frag) (WC tA : Addr) : Sp := fun vs H Q _ => ∃ (wa sa pa : Addr) (fas pas : List Addr) (W : Wd) (l f f0 : Int), vs = [.ref wa, .int l, .int f] ∧ WAx H wa sa pa fas pas W ∧ W.Fit ∧ W.Up f0 ∧ 2 ≤ l ∧ l ≤ 3 ∧ f0 ≤ f ∧ 0 ≤ f ∧ f ≤ 6 ∧ TabG H tA ∧
  ∀ (p dx ta tb d : Addr) (ras as : List Addr) H', Tb tA H H' → WoE K WC H H' p dx l f ta tb d ras as W.facts W.steps → Q (.ref p) H'
theorem ok_law_made {f : Addr} {fd : FuncData} (FF : Fun K "_law_made" "_law_made" s_law_made f fd) (T : Txt K mg C J B) (h_World : HasCX P w K mg base "World" WC 6 a_World_init (spWInit K NC WC tA)) : FnOk P w K mg base (L2.CX P w) 8 f fd a_law_made (spMade K WC tA) := by
  refine FF.okX sc_law_made (fun vs H Q E h => ?_) (fun cdv A outer s H vs Q E hr h => ?_)
  · obtain ⟨wa, sa, pa, fas, pas, W, l, f, f0, rfl, _⟩ := h
    rfl
  · obtain ⟨wa, sa, pa, fas, pas, W, l, f, f0, rfl, X, fit, up, l2, l3, ff, f1, f6, tg, k⟩ := h
    refine ⟨_, (pss_one (ps_ret (pe_makeX h_World (hr.mono (by omega)) (takes_of rfl rfl rfl rfl) (pa_cons (pv 1) (pa_cons (pv 2) (pa_cons (pe_lc (own := [("state", 3)]) (g := gName 3) rfl sc_law_made.nd (pi_list (pe_ix ix_tup (pv 0) pe_int (fun _ _ => rfl))) (blkOk_by (own := [("state", 3)]) (N := n_law_made) (sc := defScope s_law_made) (by decide +kernel)) (fun _ _ _ _ _ => (pg_name (i := 3) sc_law_made.nd rfl (.inl rfl))) (fun _ _ _ _ _ => pts_nil) (fun _ _ _ _ _ => (pe_callTy (@id (CallR _ (.type "list") (rListOf K)) call_list_of) rfl T.z_list (by decide +kernel) (pa_cons (pv 3) pa_nil)))) (pa_cons (pe_callTy call_list_of rfl T.z_list (by decide +kernel) (pa_cons (pe_ix ix_tup (pv 0) pe_int (fun _ _ => rfl)) pa_nil)) pa_nil))))))), ?_⟩
    refine ⟨.int l, rfl, .int f, rfl, .ref wa, rfl, wa, _, _, .ref sa, rfl, rfl, SqT.of X.w, rfl, sa, rfl, ⟨_, SqL.of X.s⟩, fun D hD => ?_⟩
    refine lc_list (xs := fas.map V.ref) (fun i G => ∃ gs : List Addr, Same H G ∧ G D = some (.lst (gs.map V.ref)) ∧ FAt G gs (W.facts.take i) ∧ ∀ a ∈ gs, a ≠ D) ⟨[], Same.new hD, upd_same, FAt.nil _, fun a h => by cases h⟩ (fun i G _ ⟨_, sG, _⟩ => SqL.of (sG _ _ X.s)) ?_ ?_
    · rintro i x G hx ⟨gs, sG, gD, fa, nd⟩
      obtain ⟨a, Y, rfl, ha, hY, il⟩ := (X.f.same sG).nth hx
      refine ⟨rfl, .ref a, rfl, a, _, rfl, .inl (SqL.of il), fun q hq => ?_⟩
      have s1 := Same.new (o := .lst (Y.map V.int)) hq
      have lt : i < W.facts.length := (List.getElem?_eq_some_iff.mp hY).1
      have n8 : W.facts.length ≤ 8 := fit.n8
      have nqD : q ≠ D := (ne_of_none gD hq).symm
      refine ⟨_, s1 _ _ gD, by rw [List.length_map, fa.1, List.length_take]; exact small1000 (by omega), gs ++ [q], fun b o e => by rw [upd_ne (ne_of_none e hD)]; exact s1 _ _ (sG b o e), by rw [upd_same, List.map_append]; rfl, ?_⟩
      rw [List.take_add_one, hY, Option.toList_some]
      refine ⟨?_, fun g hg => (List.mem_append.mp hg).elim (nd g) fun z => by rw [List.mem_singleton.mp z]; exact nqD⟩
      refine FAt.snoc (fa.map fun a' o' hm e => ?_) (by show _ = _; rw [upd_ne nqD, upd_same])
      rw [upd_ne (nd a' hm)]
      exact s1 _ _ e
    rintro G1 ⟨gs, sG, gD, fa, _⟩
    rw [List.length_map, X.f.1, List.take_length] at fa
    refine ⟨.ref wa, rfl, wa, _, _, .ref pa, rfl, rfl, SqT.of (sG _ _ X.w), rfl, pa, _, rfl, .inl (SqL.of (sG _ _ X.p)), fun L hL => fun x dx hx hdx ne => ?_⟩
    have s2 := Same.new (o := .lst (pas.map V.ref)) hL
    have s3 : Same (upd G1 L (.lst (pas.map V.ref))) (upd (upd (upd G1 L (.lst (pas.map V.ref))) dx (.own x)) x (.ins WC dx [])) := fun b u e => by rw [upd_ne (ne_of_none e hx), upd_ne (ne_of_none e hdx)]; exact e
    have s13 := sG.trans (s2.trans s3)
    have n8 : W.facts.length ≤ 8 := fit.n8
    have n1 : 1 ≤ W.facts.length := fit.one
    have good : okWorld l f W.facts W.steps = true := ok_of (by omega) (by omega) n1 (by omega) (fun Y hY => (up.rows Y hY).mono ff) up.steps fun q hq => by
      have := up.in_ q hq
      unfold StUp Wd.n at this
      omega
    have n200 := fit.st
    refine ⟨x, dx, l, f, D, L, gs, pas, W.facts, W.steps.map of3, rfl, upd_same, .inl (SqL.of (s3 _ _ (s2 _ _ gD))), (fa.same (s2.trans s3)).sq, .inl (SqL.of (s3 _ _ upd_same)), ⟨by rw [List.length_map]; exact X.t.1, fun i a Y e1 e2 => ?_⟩, tg.same s13, by omega, fun Y hY => by have := fit.fc Y hY; omega, fun Y hY => ?_, by rw [List.length_map]; omega, fun ss ta tb d ras as H' so pe ok b2 tg' W2 => ⟨rfl, ?_⟩, fun ts so pe ok H' => ?_⟩
    · rw [List.getElem?_map] at e2
      cases e3 : W.steps[i]? with
      | none => rw [e3] at e2; cases e2
      | some q =>
        rw [e3] at e2
        cases e2
        exact .inr (s13 _ _ (X.t.2 i a q e1 e3))
    · obtain ⟨q, _, rfl⟩ := List.mem_map.mp hY
      show 3 ≤ 1000
      decide
    · have e := tri_one (List.pairwise_map.mpr (so.imp fun {a b} h => by rw [lex_of3]; exact h)) pe up.steps
      have e := of3s_inj e
      subst e
      refine k x dx ta tb d ras as H' ⟨fun b u n e => b2 _ _ (ne_of_none (s2 _ _ (sG _ _ e)) hx) n (s13 _ _ e), tg'⟩ ⟨W2.ob, W2.st, W2.rw, W2.sp, W2.tr, W2.en.weak fun b hb => ?_⟩
      cases q : H b with
      | none => rfl
      | some u => rw [s13 _ _ q] at hb; cases hb
    · have e := tri_one so pe up.steps
      have := ok W.steps e
      rw [good] at this
      cases this
end
end Fw

set_option maxRecDepth 100000
set_option maxHeartbeats 8000000
namespace Fw
open PySem PySem.Spec PyProof.Rows L2 GxR
open TL (tl tl_append len_tl ext_tl joinL tl_join join_eq tl_num)
section
variable {P : Program} {w : World} {K : PySem.W.Frag} {mg : Str → Option Value} {base : Heap} {C J B NC WC cA tA : Addr} {t1 t2 t3 t4 : Tok}
/-- a world told as four parts -/
def FourAt (K : PySem.W.Frag) (H : Hp) (r : Addr) (l f : Int) (Xs : List (List Int)) (ss : List T3) : Prop := ∃ (ta tb : Addr) (ras as : List Addr), H r = some (.tup [.int l, .int f, .ref ta, .ref tb]) ∧ SqT K H ta (ras.map V.ref) ∧ RAt K H ras Xs ∧ SqT K H tb (as.map V.ref) ∧ PAt H as ss
def spOutP (K : PySem.W.Frag) (tA : Addr) : Sp := fun vs H Q _ => ∃ s : Str, vs = [.str s] ∧ (∀ c ∈ tl s, c < 128) ∧ s.length ≤ 900 ∧ TabG H tA ∧
  (∀ (l f : Int) (Xs : List (List Int)) (ss : List T3) (r : Addr) H', GoodT (tl s) l f Xs ss → Tb tA H H' → FourAt K H' r l f Xs ss → Q (.ref r) H') ∧
  ((∀ (l f : Int) (Xs : List (List Int)) (ss : List T3), ¬ GoodT (tl s) l f Xs ss) → ∀ H', Q .non H')
theorem ok_law_outcome {f : Addr} {fd : FuncData} (FF : Fun K "_law_outcome" "_law_outcome" s_law_outcome f fd) (T : Txt K mg C J B) (TE : TxtEW K mg NC) (TC : TxtC K WC) (h_parse_world : HasX P w K mg base "parse_world" 8 a_parse_world (spParse K NC WC tA)) : FnOk P w K mg base CX0 9 f fd a_law_outcome (spOutP K tA) := by
  refine FF.ok sc_law_outcome (fun vs H Q E h => ?_) (fun cdv A outer s0 H vs Q E hr h => ?_)
  · obtain ⟨s, rfl, _⟩ := h
    rfl
  · obtain ⟨s, rfl, asc, len, tg, k1, k2⟩ := h
    refine ⟨_, (pss_one (ps_try_only rfl rfl ⟨rfl, by decide, .inl TE.gC⟩ takes0 (fun W pn xe tk _ => (pss_cons (ps_set (i := 1) sc_law_outcome.nd rfl (.inl rfl) (pe_callX h_parse_world (hr.mono (by omega)) tk (pa_cons (pv 0) pa_nil)))
      (pss_one (ps_ret (pe_tup (pa_cons (@id (PE _ _ (tFld K (tVar 1) "labels")) (pe_fld (pv 1) rfl)) (pa_cons (@id (PE _ _ (tFld K (tVar 1) "facts")) (pe_fld (pv 1) rfl)) (pa_cons (@id (PE _ _ (tFld K (tVar 1) "states")) (pe_fld (pv 1) rfl)) (pa_cons (@id (PE _ _ (tFld K (tVar 1) "steps")) (pe_fld (pv 1) rfl)) pa_nil))))))))) (fun a oe cls d pn _ _ => (pss_one (ps_ret pe_non))))), ?_⟩
    refine ⟨.str s, rfl, s, rfl, asc, len, tg, fun l f Xs ss p dx ta tb d ras as H0 H' g tb' W => ?_, fun no H' => ⟨true, TE.eC, fun _ a0 _ => k2 no _, fun q => Bool.noConfusion q⟩⟩
    refine ⟨.ref p, rfl, p, WC, dx, _, .int l, rfl, W.ob, TC.cl, TC.nL, rfl, .ref p, rfl, p, WC, dx, _, .int f, rfl, W.ob, TC.cl, TC.nF, rfl, .ref p, rfl, p, WC, dx, _, .ref ta, rfl, W.ob, TC.cl, TC.nS, rfl, .ref p, rfl, p, WC, dx, _, .ref tb, rfl, W.ob, TC.cl, TC.nT, rfl, by show 4 ≤ sizeLine; decide, fun r hr' => ?_⟩
    have s1 := Same.new (o := .tup [.int l, .int f, .ref ta, .ref tb]) hr'
    exact k1 l f Xs ss r _ g (tb'.trans (Tb.same s1 tb'.2)) ⟨ta, tb, ras, as, upd_same, SqT.same s1 W.st, W.rw.same s1, SqT.same s1 W.sp, ⟨W.tr.1, fun i a q e1 e2 => s1 _ _ (W.tr.2 i a q e1 e2)⟩⟩
end
end Fw

set_option maxRecDepth 100000
set_option maxHeartbeats 4000000
/-! set(t), t a tuple of whole numbers -/
namespace Fw
open PySem PySem.Spec PyProof.Rows L2
section
variable {P : Program} {w : World} {A : Around} {E : Value → Shared → Prop} {s : Shared}
theorem setOfTup {l : Addr} {its : Array Value} (ns : List Int) {Q : Value → Shared → Prop}
    (quiet : A.handled = none) (lst : s.heap.IsTuple l its) (iv : IntsAre its.toList ns) (few : ns.length + 1 < scanBound)
    (next : ∀ (h' : Heap) (tk c : Nat), SetR w h' s.heap.objs.size (fun j => decide (j ∈ ns)) c → c ≤ ns.length →
      (∀ b o, s.heap.get? b = some o → h'.get? b = some o) → Q (.ref s.heap.objs.size) { s with heap := h', toks := tk }) :
    wpAny (model P w) A (call (.type "set") [.ref l]) Q E s := by
  have many : its.size = ns.length := by
    rw [← Array.length_toList]
    exact IntsAre.length iv
  have f1 := F.called_set.mro
  obtain ⟨c, tl, hmro⟩ := f1
  have f2 := F.called_set.made
  have f3 := F.called_set.sub
  refine wpAny_call (codeAny_of_tree ?_)
  show wpAny _ _ (callAny (.type "set") _) _ _ _
  refine wpAny_pure ⟨Code.quiet_builtin _ (by decide +kernel), codeAny_builtin F.entry_type_call ?_⟩
  rw [Around.under_plain (weight_type_call_type "set" [.ref l] []) rfl]
  have f4 := F.called_set.notType
  have f5 := F.called_set.canCreate
  have f6 := F.typeCall_set_1 (.ref l)
  repeat (any_goals (first | assumption | wp_step))
  generalize hN : s.heap.objs.size = N
  refine codeAny_mono (code_set_led1 (.ref l) (E := E)
    (Q₁ := fun v t => v = .ref N ∧ t = { s with heap := s.heap.push (freshSet w) }) ⟨by rw [hN], rfl⟩) fun r s₁ hr => ?_
  rcases r with e | fl
  · exact hr
  · cases fl
    case ret v =>
      obtain ⟨rfl, rfl⟩ := hr
      have got : (s.heap.push (freshSet w)).get? N = some (freshSet w) := by
        rw [← hN]
        exact Heap.get?_push_size _ rfl
      have ty : Shared.TypeIs { s with heap := s.heap.push (freshSet w) } (.ref N) "set" := ⟨_, got, rfl⟩
      have g1 := F.called_set.init.lookup
      have g2 := F.called_set.init.bind (.ref N)
      repeat (any_goals (first | assumption | wp_step))
      refine codeAny_mono (codeAny_call_builtin (R := wants (fun v t => v = .none ∧ ∃ h' tk c, t = { s with heap := h', toks := tk } ∧
          SetR w h' N (fun j => decide (j ∈ ns)) c ∧ c ≤ ns.length ∧ (∀ b o, s.heap.get? b = some o → h'.get? b = some o)) E)
          F.called_set.init.plain F.entry_set_init (check_set_init_1 ty ?_)) fun r₂ s₂ hr₂ => ?_
      · obtain ⟨ol, hol, hcl, nl, hdl⟩ := lst
        obtain ⟨ocls, odict, odata, oslots⟩ := ol
        simp only at hcl hdl
        subst hcl
        subst hdl
        have hol' : (s.heap.push (freshSet w)).get? l = some { cls := .type "tuple", dict := odict, data := .seq its nl, slots := oslots } :=
          Heap.get?_push_of_some _ hol
        have k1 : isSubtype (.type "tuple") (.type "set") = pure false := by rw [isSubtype_type]; kernel_rfl
        have k2 : isSubtype (.type "tuple") (.type "frozenset") = pure false := by rw [isSubtype_type]; kernel_rfl
        have k3 : (Value.type "tuple" == Value.type "dict") = false := by decide
        have lst1 : (s.heap.push (freshSet w)).IsTuple l its := ⟨_, hol', rfl, nl, rfl⟩
        unfold Builtin.«set.__init__» noKeywords Builtin.Frozenset.updateFrom
        generalize hPI : pyIter = PI
        wp_walk
        subst hPI
        refine wpAny_pyIter_tuple lst1 (wpAny_bind (wpAny_runValue ?_))
        have lN : l < N := by
          rw [← hN]
          exact Heap.lt_size hol
        have quiet3 : A.in1.in1.in1.handled = none := by simp [quiet]
        have size1 : (s.heap.push (freshSet w)).objs.size = N + 1 := by rw [Heap.size_push, hN]
        have l1 : l ≠ (s.heap.push (freshSet w)).objs.size := by
          rw [size1]
          exact Nat.ne_of_lt (Nat.lt_succ_of_lt lN)
        have n1 : N ∉ [(s.heap.push (freshSet w)).objs.size, l] := by
          rw [size1]
          simp only [List.mem_cons, List.not_mem_nil, or_false, not_or]
          exact ⟨Nat.ne_of_lt (Nat.lt_succ_self _), Nat.ne_of_gt lN⟩
        refine set_update_ints ((Walks.tuple quiet3 _ l l1 its).toS) N n1 ns many few (fun i v hv => ?_) (its.size - 0) 0 _ (by omega) (Nat.zero_le _)
          ⟨⟨_, Heap.get?_push_size _ rfl, rfl, rfl⟩, ⟨_, Heap.get?_push_of_some _ hol', rfl, nl, rfl⟩⟩ ⟨0, Nat.le_refl 0, setR_new_at (Heap.get?_push_of_some _ got)⟩ fun s' c' hm hc' hS' => ?_
        · have hi : i < ns.length := by
            rw [← many]
            exact (Array.getElem?_eq_some_iff.mp hv).1
          obtain ⟨t, e⟩ := PyProof.Rows.IntsAre.int_at iv i v (by rw [Array.getElem?_toList]; exact hv)
          refine ⟨ns[i], t, List.getElem?_eq_getElem hi, ?_⟩
          rw [e, List.getD_eq_getElem?_getD, List.getElem?_eq_getElem hi]
          rfl
        · obtain ⟨h', g2, d', tk', os'⟩ := s'
          obtain rfl : g2 = s.gens := hm.gens
          obtain rfl : d' = s.drawn := hm.drawn
          obtain rfl : os' = s.os := hm.os
          show wpAny _ _ _ _ _ _
          refine wpAny_pure ?_
          show wpAny _ _ (ret Value.none) _ _ _
          rw [many] at hc'
          refine wpAny_pure ⟨rfl, h', tk', c', rfl, hS', hc', fun b o e => ?_⟩
          have bN : b < N := by
            rw [← hN]
            exact Heap.lt_size e
          refine hm.heap b o ?_ (Heap.get?_push_of_some _ (Heap.get?_push_of_some _ e))
          rw [size1]
          simp only [List.mem_cons, List.not_mem_nil, or_false, not_or]
          exact ⟨Nat.ne_of_lt bN, Nat.ne_of_lt (Nat.lt_succ_of_lt bN)⟩
      · rcases r₂ with e | fl₂
        · exact hr₂
        · cases fl₂
          case ret r =>
            obtain ⟨rfl, h', tk, c', rfl, hS', hc', hk'⟩ := hr₂
            repeat (any_goals (first | assumption | wp_step))
            subst hN
            exact next _ _ _ hS' hc' hk'
          all_goals exact hr₂.elim
    all_goals exact hr.elim
end
section
variable {X : Cx}
def rSetTu (K : PySem.W.Frag) (w : World) : List V → Hp → VK → Prop := fun vs H Q => ∃ (l : Addr) (ns : List Int),
  vs = [V.ref l] ∧ SqT K H l (ns.map V.int) ∧ ns.length ≤ 4000 ∧
  ∀ p c, H p = none → c ≤ ns.length → (∀ Vs : List Int, (∀ x ∈ ns, x ∈ Vs) → c ≤ Vs.length) → Q (.ref p) (upd H p (SetO w p (fun j => decide (j ∈ ns)) c))
theorem call_setTu (quiet : X.calm = true) : CallR X (.type "set") (rSetTu X.K X.w) := by
  intro pins s σ H vs us Q I r h
  obtain ⟨l, ns, rfl, hl, few, q⟩ := h
  obtain ⟨its, rv, pl, _⟩ := I.tuple hl
  rw [Vals.ref1 r]
  have iv := intsOfVals rv
  refine setOfTup ns (I.ok.hd quiet) (show s.heap.IsTuple l its.toArray from pl) (by simpa using iv) (Nat.lt_of_le_of_lt (Nat.succ_le_succ few) (by decide)) fun h' tk c R hc kp => ?_
  have fr : H s.heap.objs.size = none := I.hok.fresh (Nat.le_refl _)
  refine ⟨.ref _, _, I.laid (t' := tk) kp (Nat.le_refl _) (setO_new R), rfl, q _ c fr hc fun Vs hV => ?_⟩
  obtain ⟨o, es, ep, t, _, _, _, _, nd, mem, _, _, size, _⟩ := R
  rw [← size, ← Array.length_toList, ← List.length_map (f := keyOf)]
  exact nodup_le nd fun x hx => hV x (of_decide_eq_true ((mem x).mpr hx))
end
end Fw

set_option maxRecDepth 100000
set_option maxHeartbeats 4000000
namespace Fw
open PySem
open TL (tl tl_append len_tl ext_tl joinL tl_join join_eq tl_num)
/-- a row as the law reads it -/
def rowL (L : List Nat) : List Nat × List Int := match cutc 32 L with | p :: ps => (p, ps.map lawNum) | [] => ([], [])
theorem law_nums : ∀ {ns : List Int}, (∀ n ∈ ns, 0 ≤ n ∧ n < 1000) → (ns.map numZ).map lawNum = ns
  | [], _ => rfl
  | n :: ns, h => by
    have hn := h n List.mem_cons_self
    rw [List.map_cons, List.map_cons, law_nums fun m hm => h m (List.mem_cons_of_mem _ hm), lawNum_num hn.1 hn.2]
theorem rowL_line {wd : List Nat} {ns : List Int} (h : 32 ∉ wd) (b : ∀ n ∈ ns, 0 ≤ n ∧ n < 1000) : rowL (lineL wd ns) = (wd, ns) := by
  unfold rowL
  rw [words_line h]
  show (wd, (ns.map numZ).map lawNum) = _
  rw [law_nums b]
theorem rowL_back {L : List Nat} (h : ∀ n ∈ (rowL L).2, 0 ≤ n) : L = lineL (rowL L).1 (rowL L).2 := by
  have j := join_cutc 32 L
  unfold rowL at h ⊢
  cases c : cutc 32 L with
  | nil => exact absurd c (cutc_ne 32 L)
  | cons p ps =>
    rw [c] at h j
    show L = joinL [32] (p :: (ps.map lawNum).map numZ)
    rw [← j]
    congr 2
    rw [List.map_map]
    refine (List.map_id ps).symm.trans (List.map_congr_left fun w hw => ?_)
    exact lawNum_back (h _ (List.mem_map.mpr ⟨w, hw, rfl⟩))
theorem GoodT.cut {T : List Nat} {l f : Int} {Xs : List (List Int)} {ss : List T3} (g : GoodT T l f Xs ss) : cutc 10 T = fmtR l f Xs ss ++ [[]] := by rw [g.t, cut_fmt]
theorem GoodT.rowsL {T : List Nat} {l f : Int} {Xs : List (List Int)} {ss : List T3} (g : GoodT T l f Xs ss) : (fmtR l f Xs ss).map rowL = rowsP l f Xs ss := by
  have o := ok_iff g.ok
  have h1 := o.hl
  have h2 := o.hf
  have h3 := o.hn
  unfold fmtR rowsP
  rw [List.map_cons, List.map_append, List.map_map, List.map_map, rowL_line (by decide) fun n hn => ?_]
  · congr 1
    congr 1
    · refine List.map_congr_left fun X hX => ?_
      exact rowL_line (by decide) fun n hn => by have := (o.hr X hX).1 n hn; omega
    · refine List.map_congr_left fun p hp => ?_
      refine rowL_line (by decide) fun n hn => ?_
      have := o.hs p hp
      rcases List.mem_cons.mp hn with rfl | hn
      · omega
      · rcases List.mem_cons.mp hn with rfl | hn
        · omega
        · rw [List.mem_singleton.mp hn]
          omega
  · rcases List.mem_cons.mp hn with rfl | hn
    · omega
    · rcases List.mem_cons.mp hn with rfl | hn
      · omega
      · rw [List.mem_singleton.mp hn]
        omega
/-- rows that read as a world's are the text of it -/
theorem read_back {T : List Nat} {LS : List (List Nat)} {l f : Int} {Xs : List (List Int)} {ss : List T3} (hc : cutc 10 T = LS ++ [[]]) (h0 : ∀ L ∈ LS, ∀ n ∈ (rowL L).2, 0 ≤ n) (hr : LS.map rowL = rowsP l f Xs ss) : T = fmtL l f Xs ss := by
  rw [rows_of hc]
  unfold fmtL
  congr 1
  have e : LS = (LS.map rowL).map fun r => lineL r.1 r.2 := by
    rw [List.map_map]
    exact (List.map_id LS).symm.trans (List.map_congr_left fun L hL => rowL_back (h0 L hL))
  rw [e, hr]
  unfold rowsP fmtR
  rw [List.map_cons, List.map_append, List.map_map, List.map_map]
  rfl
end Fw

set_option maxRecDepth 100000
set_option maxHeartbeats 4000000
namespace Fw
open PySem PySem.Spec PyProof.Rows L2
theorem code3 (p : T3) : TS.code 64 (of3 p) = p.1 * 4096 + p.2.1 * 64 + p.2.2 := by
  simp [TS.code, of3]
  omega
theorem code3_lt {p q : T3} (h : TS.code 64 (of3 p) ≤ TS.code 64 (of3 q)) (ne : p ≠ q) (bp : TS.Bd 64 (of3 p)) (bq : TS.Bd 64 (of3 q)) : lex3 p q = true := by
  rw [code3, code3] at h
  have p1 := bp p.1 (by simp [of3])
  have p2 := bp p.2.1 (by simp [of3])
  have p3 := bp p.2.2 (by simp [of3])
  have q1 := bq q.1 (by simp [of3])
  have q2 := bq q.2.1 (by simp [of3])
  have q3 := bq q.2.2 (by simp [of3])
  rw [lex3_iff]
  obtain ⟨a, b, c⟩ := p
  obtain ⟨d, e, f⟩ := q
  simp only at h p1 p2 p3 q1 q2 q3
  have ne' : ¬ (a = d ∧ b = e ∧ c = f) := fun z => ne (by rw [z.1, z.2.1, z.2.2])
  unfold Lt3
  simp only
  omega
def tD (p : T3) : PyData := .tuple [.int p.1, .int p.2.1, .int p.2.2]
theorem tDs_eqv : ∀ xs ys : List T3, PyData.eqv (.list (xs.map tD)) (.list (ys.map tD)) = decide (xs = ys) := by
  have one : ∀ p q : T3, PyData.eqv (tD p) (tD q) = decide (p = q) := fun p q => by
    obtain ⟨a, b, c⟩ := p
    obtain ⟨d, e, f⟩ := q
    simp only [tD, PyData.eqv, PyData.eqvAll, Prod.mk.injEq, Bool.and_true]
    by_cases h1 : a = d <;> by_cases h2 : b = e <;> by_cases h3 : c = f <;> simp [h1, h2, h3, PyData.eqv]
  have all : ∀ xs ys : List T3, PyData.eqvAll (xs.map tD) (ys.map tD) = decide (xs = ys) := fun xs => by
    induction xs with
    | nil => intro ys; cases ys <;> simp [PyData.eqvAll]
    | cons x xs ih =>
      intro ys
      cases ys with
      | nil => simp [PyData.eqvAll]
      | cons y ys =>
        rw [List.map_cons, List.map_cons]
        simp only [PyData.eqvAll, ih, one]
        by_cases h1 : x = y <;> by_cases h2 : xs = ys <;> simp [h1, h2]
  intro xs ys
  simp only [PyData.eqv, all]
theorem tD_lay (ps : List T3) : PyData.canLayAll0 (ps.map tD) = true := by
  induction ps with
  | nil => simp [PyData.canLayAll0]
  | cons q ps ih => simp [PyData.canLayAll0, tD, PyData.canLay0] at ih ⊢; exact ih
theorem tD_dep (ps : List T3) : PyData.depthAll (ps.map tD) ≤ 2 := by
  induction ps with
  | nil => simp [PyData.depthAll]
  | cons q ps ih => simp [PyData.depthAll, tD, PyData.depth] at ih ⊢; omega
theorem tDs_shaped (ps : List T3) : SeqAt.shaped (.list (ps.map tD)) = true := by
  have := tD_dep ps
  simp [SeqAt.shaped, PyData.canLay0, tD_lay, PyData.depth]
  omega
theorem PAt.dp {K : PySem.W.Frag} {H : Hp} : ∀ {as : List Addr} {ps : List T3}, PAt H as ps → DpAll K H (as.map V.ref) (ps.map tD)
  | [], [], _ => .nil
  | [], p :: ps, h => by cases h.1
  | a :: as, [], h => by cases h.1
  | a :: as, p :: ps, h => by
    have h0 := h.2 0 a p rfl rfl
    exact .cons (.tup (SqT.of h0) (.cons (.int _) (.cons (.int _) (.cons (.int _) .nil)))) (PAt.dp ⟨by have := h.1; simpa using this, fun i b q e1 e2 => h.2 (i + 1) b q e1 e2⟩)
/-- steps sorted as a set -/
theorem srt_one {L : List (Addr × List Int)} {ss : List T3} (nd : (L.map (·.2)).Nodup) (so : L.Pairwise fun q r => TS.code 64 q.2 ≤ TS.code 64 r.2) (mem : ∀ X, X ∈ L.map (·.2) ↔ X ∈ ss.map of3) (bd : ∀ p ∈ ss, TS.Bd 64 (of3 p)) :
    ∃ s3 : List T3, L.map (·.2) = s3.map of3 ∧ (s3.Pairwise fun x y => lex3 x y = true) ∧ s3.Nodup ∧ ∀ p, p ∈ s3 ↔ p ∈ ss := by
  have inj : ∀ a b : T3, of3 a = of3 b → a = b := fun a b h => by
    obtain ⟨a1, a2, a5⟩ := a
    obtain ⟨b1, b2', b3⟩ := b
    simp only [of3, List.cons.injEq, and_true] at h
    obtain ⟨rfl, rfl, rfl⟩ := h
    rfl
  obtain ⟨s3, e⟩ : ∃ s3 : List T3, L.map (·.2) = s3.map of3 := by
    have : ∀ M : List (List Int), (∀ X ∈ M, ∃ q : T3, X = of3 q) → ∃ s3 : List T3, M = s3.map of3 := fun M => by
      induction M with
      | nil => exact fun _ => ⟨[], rfl⟩
      | cons X M ih =>
        intro h
        obtain ⟨q, rfl⟩ := h X List.mem_cons_self
        obtain ⟨s3, rfl⟩ := ih fun Y hY => h Y (List.mem_cons_of_mem _ hY)
        exact ⟨q :: s3, rfl⟩
    refine this _ fun X hX => ?_
    obtain ⟨q, _, rfl⟩ := List.mem_map.mp ((mem X).mp hX)
    exact ⟨q, rfl⟩
  have m3 : ∀ p, p ∈ s3 ↔ p ∈ ss := fun p => by
    have h := mem (of3 p)
    rw [e] at h
    have k : ∀ l : List T3, of3 p ∈ l.map of3 ↔ p ∈ l := fun l => ⟨fun z => by obtain ⟨q, hq, eq⟩ := List.mem_map.mp z; rw [← inj q p eq]; exact hq, fun z => List.mem_map.mpr ⟨p, z, rfl⟩⟩
    rwa [k, k] at h
  rw [e] at nd
  have n3 : s3.Nodup := by
    have := List.pairwise_map.mp nd
    exact this.imp fun {a b} h z => h (by rw [z])
  have so2 : (L.map (·.2)).Pairwise fun x y => TS.code 64 x ≤ TS.code 64 y := List.pairwise_map.mpr so
  rw [e] at so2
  have so3 := List.pairwise_map.mp so2
  refine ⟨s3, e, ?_, n3, m3⟩
  exact (List.pairwise_and_iff.mpr ⟨so3, n3⟩).imp_of_mem fun {a b} ha hb h => code3_lt h.1 h.2 (bd a ((m3 a).mp ha)) (bd b ((m3 b).mp hb))
end Fw

set_option maxRecDepth 100000
set_option maxHeartbeats 16000000
namespace Fw
open PySem PySem.Spec PyProof.Rows L2 GxR
open TL (tl tl_append len_tl ext_tl joinL tl_join join_eq tl_num)
section
variable {P : Program} {w : World} {K : PySem.W.Frag} {mg : Str → Option Value} {base : Heap} {C J B NC WC cA tA : Addr} {t1 t2 t3 t4 : Tok}
theorem rowsP_nn {l f : Int} {Xs : List (List Int)} {ss : List T3} (o : OkW l f Xs ss) : ∀ r ∈ rowsP l f Xs ss, ∀ n ∈ r.2, 0 ≤ n := fun r hr n hn => by
  have h1 := o.hl
  have h2 := o.hf
  unfold rowsP at hr
  rcases List.mem_cons.mp hr with rfl | hr
  · have : n = l ∨ n = f ∨ n = (Xs.length : Int) := by simpa using hn
    omega
  · rcases List.mem_append.mp hr with h | h
    · obtain ⟨X, hX, rfl⟩ := List.mem_map.mp h
      exact ((o.hr X hX).1 n hn).1
    · obtain ⟨p, hp, rfl⟩ := List.mem_map.mp h
      have := o.hs p hp
      have : n = p.1 ∨ n = p.2.1 ∨ n = p.2.2 := by simpa [of3] using hn
      omega
theorem rows_eqv (xs ys : List Int) : PyData.eqv (.list (xs.map PyData.int)) (.list (ys.map PyData.int)) = decide (xs = ys) := by
  have : ∀ xs ys : List Int, PyData.eqvAll (xs.map PyData.int) (ys.map PyData.int) = decide (xs = ys) := fun xs => by
    induction xs with
    | nil => intro ys; cases ys <;> simp [PyData.eqvAll]
    | cons x xs ih =>
      intro ys
      cases ys with
      | nil => simp [PyData.eqvAll]
      | cons y ys =>
        rw [List.map_cons, List.map_cons]
        simp only [PyData.eqvAll, ih, PyData.eqv]
        by_cases h1 : x = y <;> by_cases h2 : xs = ys <;> simp [h1, h2]
  simp only [PyData.eqv, this]
theorem cutV_mid {xs : List V} {m : Nat} (h : m + 1 ≤ xs.length) : cutV xs (some 1) (some (1 + (m : Int))) = (xs.drop 1).take m := by
  unfold cutV
  rw [show HT.sIx xs.length 0 (some 1) = min 1 xs.length from HT.sIx_nat _ _ 1, show (1 + (m : Int)) = ((m + 1 : Nat) : Int) by omega, HT.sIx_nat, Nat.min_eq_left h, Nat.min_eq_left (show 1 ≤ xs.length by omega), Nat.add_sub_cancel]
theorem cutV_from {xs : List V} {m : Nat} : cutV xs (some (1 + (m : Int))) none = xs.drop (m + 1) := by
  unfold cutV
  rw [show (1 + (m : Int)) = ((m + 1 : Nat) : Int) by omega, HT.sIx_nat, HT.sIx_none]
  rcases Nat.le_total (m + 1) xs.length with h | h
  · rw [Nat.min_eq_left h, List.take_of_length_le (by rw [List.length_drop]; exact Nat.le_refl _)]
  · rw [Nat.min_eq_right h, List.drop_length, List.drop_eq_nil_of_le h]
    simp
/-- rows read by the law, laid -/
def RowsT (H : Hp) (rs : List Addr) (Ps : List (List Nat × List Int)) : Prop := rs.length = Ps.length ∧ ∀ (i : Nat) (r : Addr) (P : List Nat × List Int), rs[i]? = some r → Ps[i]? = some P → ∃ na, H r = some (.tup [.str (sZ P.1), .ref na]) ∧ H na = some (.tup (P.2.map V.int))
/-- a world told as four parts, all tuples in place -/
def FourT (H : Hp) (r : Addr) (l f : Int) (Xs : List (List Int)) (ss : List T3) : Prop := ∃ (ta tb : Addr) (ras as : List Addr), H r = some (.tup [.int l, .int f, .ref ta, .ref tb]) ∧ H ta = some (.tup (ras.map V.ref)) ∧ (ras.length = Xs.length ∧ ∀ (i : Nat) (a : Addr) (X : List Int), ras[i]? = some a → Xs[i]? = some X → H a = some (.tup (X.map V.int))) ∧ H tb = some (.tup (as.map V.ref)) ∧ PAt H as ss
def spRead : Sp := fun vs H Q _ => ∃ s : Str, vs = [.str s] ∧ (∀ c ∈ tl s, c < 128) ∧ s.length ≤ 900 ∧ (∀ L ∈ cutc 10 (tl s), L.length ≤ 60) ∧ (cutc 10 (tl s)).length ≤ 60 ∧
  (∀ (l f : Int) (Xs : List (List Int)) (ss : List T3) (r : Addr) H', GoodT (tl s) l f Xs ss → Same H H' → FourT H' r l f Xs ss → Q (.ref r) H') ∧
  ((∀ (l f : Int) (Xs : List (List Int)) (ss : List T3), ¬ GoodT (tl s) l f Xs ss) → ∀ H', Q .non H')
theorem ok_law_read {f : Addr} {fd : FuncData} (FF : Fun K "_law_read" "_law_read" s_law_read f fd) (T : Txt K mg C J B) (h_law_number : Has P w K mg base "_law_number" 1 a_law_number spLNum) : FnOk P w K mg base CX0 2 f fd a_law_read spRead := by
  refine FF.ok sc_law_read (fun vs H Q E h => ?_) (fun cdv A outer s0 H vs Q E hr h => ?_)
  · obtain ⟨s, rfl, _⟩ := h
    rfl
  · obtain ⟨s, rfl, asc, len, lLn, lCt, k1, k2⟩ := h
    refine ⟨_, (pss_cons (ps_set (i := 1) sc_law_read.nd rfl (.inl rfl) (pe_bm PySem.F.plainAttrs_str PySem.F.slot_str_split PySem.F.type_str_split mt_split (pv 0) (pa_cons pe_str pa_nil)))
      (pss_cons (ps_if (PW.pt (pw_or (pt_cmpR op_ne (pe_bm0 PySem.F.plainAttrs_list PySem.F.slot_list_pop PySem.F.type_list_pop mt_pop (pv 1)) pe_str (nomark _)) (pw_or1 (pt_cmpR op_eq (pe_callB call_len_seq rfl T.z_len (by decide +kernel) (pa_cons (pv 1) pa_nil)) pe_int (nomark _))))) (pss_one (ps_ret pe_non)) pss_nil)
      (pss_cons (ps_set (i := 2) sc_law_read.nd rfl (.inl rfl) (pe_lst pa_nil))
      (pss_cons (ps_for PassesOwn.never rfl (pi_list (pv 1)) (pg_name (i := 3) sc_law_read.nd rfl (.inl rfl)) (pss_cons (ps_set (i := 4) sc_law_read.nd rfl (.inl rfl) (pe_bm PySem.F.plainAttrs_str PySem.F.slot_str_split PySem.F.type_str_split mt_split (pv 3) (pa_cons pe_str pa_nil)))
      (pss_cons (ps_setLc (i := 6) (own := [("word", 5)]) (g := gName 5) rfl sc_law_read.nd rfl rfl (sw_true rfl rfl rfl (by decide +kernel)) (pi_list (pe_slice sl_list (pv 4) (po_some pe_int) po_none)) (blkOk_by (own := [("word", 5)]) (N := n_law_read) (sc := defScope s_law_read) (by decide +kernel)) (fun _ _ _ _ _ => (pg_name (i := 5) sc_law_read.nd rfl (.inl rfl))) (fun _ _ _ _ _ => pts_nil) (fun _ _ _ _ _ => (pe_callH h_law_number (hr.mono (by omega)) (pa_cons (pv 5) pa_nil))))
      (pss_cons (ps_if (PW.pt (pw_and (pt_cmpR op_gt (pe_callB call_len_seq rfl T.z_len (by decide +kernel) (pa_cons (pv 6) pa_nil)) pe_int (nomark _)) (pw_and1 (pt_cmpR op_lt (pe_callB (cr_min rfl) rfl T.z_min (by decide +kernel) (pa_cons (pv 6) pa_nil)) pe_int (nomark _))))) (pss_one (ps_ret pe_non)) pss_nil)
      (pss_one (ps_expr (pe_bm PySem.F.plainAttrs_list PySem.F.slot_list_append PySem.F.type_list_append mt_append (pv 2) (pa_cons (pe_tup (pa_cons (pe_ix ix_list (pv 4) pe_int (fun _ _ => rfl)) (pa_cons (pe_callTy call_tuple_of rfl T.z_tuple (by decide +kernel) (pa_cons (pv 6) pa_nil)) pa_nil))) pa_nil))))))))
      (pss_cons (ps_if (PW.pt (pw_or (pt_cmpR op_ne (pe_ix ix_tup (pe_ix ix_list (pv 2) pe_int (fun _ _ => rfl)) pe_int (fun _ _ => rfl)) pe_str (nomark _)) (pw_or1 (pt_cmpR op_ne (pe_callB call_len_seq rfl T.z_len (by decide +kernel) (pa_cons (pe_ix ix_tup (pe_ix ix_list (pv 2) pe_int (fun _ _ => rfl)) pe_int (fun _ _ => rfl)) pa_nil)) pe_int (nomark _))))) (pss_one (ps_ret pe_non)) pss_nil)
      (pss_cons (ps_asg (pe_ix ix_tup (pe_ix ix_list (pv 2) pe_int (fun _ _ => rfl)) pe_int (fun _ _ => rfl)) (pg_tup rfl (pgs_cons (pg_name (i := 7) sc_law_read.nd rfl (.inl rfl)) (pgs_cons (pg_name (i := 8) sc_law_read.nd rfl (.inr rfl)) (pgs_cons (pg_name (i := 9) sc_law_read.nd rfl (.inl rfl)) pgs_nil)))))
      (pss_cons (ps_if (PW.pt (pw_or (pt_cmpR op_lt (pv 7) pe_int (nomark _)) (pw_or (pt_cmpR op_gt (pv 7) pe_int (nomark _)) (pw_or (pt_cmpR op_gt (pv 8) pe_int (nomark _)) (pw_or (pt_cmpR op_lt (pv 9) pe_int (nomark _)) (pw_or1 (pt_cmpR op_lt (pe_callB call_len_seq rfl T.z_len (by decide +kernel) (pa_cons (pv 2) pa_nil)) (pe_op op_add (pv 9) pe_int) (nomark _)))))))) (pss_one (ps_ret pe_non)) pss_nil)
      (pss_cons (ps_set (i := 10) sc_law_read.nd rfl (.inl rfl) (pe_lst pa_nil))
      (pss_cons (ps_for PassesOwn.never rfl (pi_list (pe_slice sl_list (pv 2) (po_some pe_int) (po_some (pe_op op_add pe_int (pv 9))))) (pg_tup rfl (pgs_cons (pg_name (i := 5) sc_law_read.nd rfl (.inl rfl)) (pgs_cons (pg_name (i := 6) sc_law_read.nd rfl (.inl rfl)) pgs_nil))) (pss_cons (ps_if (PW.pt (pw_or (pt_cmpR op_ne (pv 5) pe_str (nomark _)) (pw_or (pt_cmpR (op_neD hr.units) (pe_callTy call_list_of rfl T.z_list (by decide +kernel) (pa_cons (pv 6) pa_nil)) (pe_callB (cr_sortedSet rfl) rfl T.z_sorted (by decide +kernel) (pa_cons (pe_callTy (show CallR _ _ (rSetTu K w) from call_setTu rfl) rfl T.z_set (by decide +kernel) (pa_cons (pv 6) pa_nil)) pa_nil)) (nomark _)) (pw_or1 (pt_cmpR op_gt (pe_callB call_len_seq rfl T.z_len (by decide +kernel) (pa_cons (pe_lc (own := [("k", 12)]) (g := gName 12) rfl sc_law_read.nd (pi_tup (pv 6)) (blkOk_by (own := [("k", 12)]) (N := n_law_read) (sc := defScope s_law_read) (by decide +kernel)) (fun _ _ _ _ _ => (pg_name (i := 12) sc_law_read.nd rfl (.inl rfl))) (fun _ _ _ _ _ => (pts_one (pt_cmpR op_ge (pv 12) (pv 8) (nomark _)))) (fun _ _ _ _ _ => (pv 12))) pa_nil)) pe_int (nomark _)))))) (pss_one (ps_ret pe_non)) pss_nil)
      (pss_one (ps_expr (pe_bm PySem.F.plainAttrs_list PySem.F.slot_list_append PySem.F.type_list_append mt_append (pv 10) (pa_cons (pv 6) pa_nil))))))
      (pss_cons (ps_set (i := 11) sc_law_read.nd rfl (.inl rfl) (pe_lst pa_nil))
      (pss_cons (ps_for PassesOwn.never rfl (pi_list (pe_slice sl_list (pv 2) (po_some (pe_op op_add pe_int (pv 9))) po_none)) (pg_tup rfl (pgs_cons (pg_name (i := 5) sc_law_read.nd rfl (.inl rfl)) (pgs_cons (pg_name (i := 6) sc_law_read.nd rfl (.inl rfl)) pgs_nil))) (pss_cons (ps_if (PW.pt (pw_or (pt_cmpR op_ne (pv 5) pe_str (nomark _)) (pw_or (pt_cmpR op_ne (pe_callB call_len_seq rfl T.z_len (by decide +kernel) (pa_cons (pv 6) pa_nil)) pe_int (nomark _)) (pw_or (pt_cmpR op_ge (pe_callB (call_max2 rfl) rfl T.z_max (by decide +kernel) (pa_cons (pe_ix ix_tup (pv 6) pe_int (fun _ _ => rfl)) (pa_cons (pe_ix ix_tup (pv 6) pe_int (fun _ _ => rfl)) pa_nil))) (pv 9) (nomark _)) (pw_or1 (pt_cmpR op_ge (pe_ix ix_tup (pv 6) pe_int (fun _ _ => rfl)) (pv 7) (nomark _))))))) (pss_one (ps_ret pe_non)) pss_nil)
      (pss_one (ps_expr (pe_bm PySem.F.plainAttrs_list PySem.F.slot_list_append PySem.F.type_list_append mt_append (pv 11) (pa_cons (pv 6) pa_nil))))))
      (pss_cons (ps_if (pt_cmpR (op_neD hr.units) (pv 11) (pe_callB (show CallR _ _ (rSortedT K P w) from cr_sortedT rfl) rfl T.z_sorted (by decide +kernel) (pa_cons (pe_callTy (show CallR _ _ (rSetOfT K P w) from cr_setOfT rfl hr.units) rfl T.z_set (by decide +kernel) (pa_cons (pv 11) pa_nil)) pa_nil)) (nomark _)) (pss_one (ps_ret pe_non)) pss_nil)
      (pss_one (ps_ret (pe_tup (pa_cons (pv 7) (pa_cons (pv 8) (pa_cons (pe_callTy call_tuple_of rfl T.z_tuple (by decide +kernel) (pa_cons (pv 10) pa_nil)) (pa_cons (pe_callTy call_tuple_of rfl T.z_tuple (by decide +kernel) (pa_cons (pv 11) pa_nil)) pa_nil))))))))))))))))))), ?_⟩
    have e10 : tl ("\n" : Str) = [10] := by decide +kernel
    have e32 : tl (" " : Str) = [32] := by decide +kernel
    have sp := split_cut 10 s e10 (by decide)
    have big : (4000 : Nat) ≤ sizeLine := by decide
    refine ⟨.str s, rfl, rfl, s, "\n", rfl, rfl, by decide +kernel, by omega, fun wa hwa => ?_⟩
    rw [sp]
    have s1 := Same.new (o := .lst (((cutc 10 (tl s)).map sZ).map V.str)) hwa
    have gw : (upd H wa (.lst (((cutc 10 (tl s)).map sZ).map V.str))) wa = some (.lst (((cutc 10 (tl s)).map sZ).map V.str)) := upd_same
    have nHwa := hwa
    generalize upd H wa (.lst (((cutc 10 (tl s)).map sZ).map V.str)) = H1 at s1 gw
    rcases List.eq_nil_or_concat (cutc 10 (tl s)) with e0 | ⟨LS, last, e0⟩
    · exact absurd e0 (cutc_ne 10 _)
    rw [List.concat_eq_append] at e0
    rw [e0, List.map_append, List.map_append] at gw
    have lLS : LS.length ≤ 60 := by rw [e0, List.length_append] at lCt; omega
    have inLS : ∀ L ∈ LS, L ∈ cutc 10 (tl s) := fun L hL => by rw [e0]; exact List.mem_append_left _ hL
    refine ⟨.ref wa, rfl, .inl ⟨rfl, _, SqL.of gw⟩, wa, _, .str (sZ last), rfl, rfl, gw, by simp, rfl, _, rfl, ?_⟩
    rw [show ((LS.map sZ).map V.str ++ ([last].map sZ).map V.str).dropLast = (LS.map sZ).map V.str from List.dropLast_concat]
    have cutG : ∀ {l f : Int} {Xs : List (List Int)} {ss : List T3}, GoodT (tl s) l f Xs ss → LS = fmtR l f Xs ss ∧ last = [] := fun g => by
      have := g.cut
      rw [e0] at this
      exact ⟨(List.append_inj' this rfl).1, by have := (List.append_inj' this rfl).2; injection this⟩
    by_cases cl : last = []
    case neg =>
      refine (if_pos (by rw [decide_eq_false fun e => cl (by have e2 := congrArg tl (V.str.inj e); rw [tl_sZ] at e2; rw [e2]; rfl)]; rfl)).mpr ?_
      exact iteT (k2 (fun l f Xs ss g => cl (cutG g).2) _)
    subst cl
    refine (if_neg (by rw [show sZ [] = ("" : Str) from rfl, decide_eq_true rfl]; exact Bool.false_ne_true)).mpr ?_
    have gw2 : (upd H1 wa (.lst ((LS.map sZ).map V.str))) wa = some (.lst ((LS.map sZ).map V.str)) := upd_same
    have s2 : Same H (upd H1 wa (.lst ((LS.map sZ).map V.str))) := fun b o e => by rw [upd_ne (ne_of_none e nHwa)]; exact s1 _ _ e
    generalize upd H1 wa (.lst ((LS.map sZ).map V.str)) = H2 at gw2 s2
    refine ⟨.ref wa, rfl, wa, _, rfl, .inl (SqL.of gw2), rfl, _, rfl, ?_⟩
    rw [List.length_map, List.length_map]
    refine ite2 (fun c => ?_) (fun c => ?_)
    · have e0 : LS = [] := List.length_eq_zero_iff.mp (by have := V.int.inj (of_decide_eq_true c); omega)
      exact k2 (fun l f Xs ss g => by have := (cutG g).1; rw [e0] at this; cases this) _
    have neLS : LS ≠ [] := fun e => c (by rw [e]; exact decide_eq_true rfl)
    refine ⟨Nat.zero_le _, fun D hD => ?_⟩
    have s3 := s2.trans (Same.new (o := .lst []) hD)
    have gD3 : (upd H2 D (.lst [])) D = some (.lst (([] : List Addr).map V.ref)) := upd_same
    have gw3 := Same.new (o := .lst []) hD _ _ gw2
    have nHD : H D = none := by
      cases e : H D with
      | none => rfl
      | some u => rw [s2 _ _ e] at hD; cases hD
    have nwD : wa ≠ D := ne_of_none gw2 hD
    generalize upd H2 D (.lst []) = H3 at s3 gD3 gw3
    refine ⟨.ref wa, rfl, wa, rfl, ⟨_, SqL.of gw3⟩, ?_⟩
    refine for_list (xs := (LS.map sZ).map V.str) (fun i σ G => ∃ (y3 y4 y6 : Option V) (rs : List Addr), σ = [some (.str s), some (.ref wa), some (.ref D), y3, y4, none, y6, none, none, none, none, none, none] ∧ (∀ b o, b ≠ D → H3 b = some o → G b = some o) ∧ G D = some (.lst (rs.map V.ref)) ∧ RowsT G rs ((LS.take i).map rowL) ∧ ∀ L ∈ LS.take i, ∀ n ∈ (rowL L).2, 0 ≤ n)
      ⟨none, none, none, [], rfl, fun b o _ e => e, gD3, ⟨rfl, fun i r P e _ => by simp at e⟩, fun L hL => by simp at hL⟩ (fun i σ G _ ⟨_, _, _, _, _, kp, _⟩ => SqL.of (kp _ _ nwD gw3)) ?_ ?_
    · rintro i x σ G hx ⟨y3, y4, y6, rs, rfl, kp, gD, rt, nn⟩
      obtain ⟨L, hL, rfl⟩ := strs_nth hx
      have mL := List.mem_of_getElem? hL
      have il := (List.getElem?_eq_some_iff.mp hL).1
      have tk : LS.take (i + 1) = LS.take i ++ [L] := by rw [List.take_add_one, hL]; rfl
      have l60 := lLn L (inLS L mL)
      have lSL : (sZ L).length ≤ 60 := by rw [sZ_len]; exact l60
      have spL := split_cut 32 (sZ L) e32 (by decide)
      rw [tl_sZ] at spL
      refine ⟨.str (sZ L), rfl, rfl, sZ L, " ", rfl, rfl, by decide +kernel, by omega, fun va hva => ?_⟩
      rw [spL]
      cases cut : cutc 32 L with
      | nil => exact absurd cut (cutc_ne 32 L)
      | cons p ps =>
      have lps : ps.length ≤ 60 := by
        have := cutc_len 32 L
        rw [cut, List.length_cons] at this
        omega
      have eR : rowL L = (p, ps.map lawNum) := by unfold rowL; rw [cut]
      have t1 := Same.new (o := .lst (((p :: ps).map sZ).map V.str)) hva
      have gv : (upd G va (.lst (((p :: ps).map sZ).map V.str))) va = some (.lst (((p :: ps).map sZ).map V.str)) := upd_same
      generalize upd G va (.lst (((p :: ps).map sZ).map V.str)) = G1 at t1 gv
      refine ⟨.ref va, rfl, 1, rfl, va, _, rfl, SqL.of gv, fun sa hsa => ?_⟩
      rw [cutV_one]
      have t2 := t1.trans (Same.new (o := .lst ((((p :: ps).map sZ).map V.str).drop 1)) hsa)
      have gv2 := Same.new (o := .lst ((((p :: ps).map sZ).map V.str).drop 1)) hsa _ _ gv
      have gs : (upd G1 sa (.lst ((((p :: ps).map sZ).map V.str).drop 1))) sa = some (.lst ((ps.map sZ).map V.str)) := upd_same
      generalize upd G1 sa (.lst ((((p :: ps).map sZ).map V.str).drop 1)) = G2 at t2 gs gv2
      refine ⟨sa, rfl, ⟨_, SqL.of gs⟩, fun N hN => ?_⟩
      refine lc_list (xs := (ps.map sZ).map V.str) (fun j G' => Same G2 G' ∧ IL G' N ((ps.take j).map lawNum)) ⟨Same.new hN, upd_same⟩ (fun j G' _ q => SqL.of (q.1 _ _ gs)) ?_ ?_
      · rintro j x G' hx' ⟨sG, gN⟩
        obtain ⟨q, hq, rfl⟩ := strs_nth hx'
        have jl := (List.getElem?_eq_some_iff.mp hq).1
        have lq := cutc_part (l := L) (c := 32) (q := q) (by rw [cut]; exact List.mem_cons_of_mem _ (List.mem_of_getElem? hq))
        refine ⟨rfl, .str (sZ q), rfl, sZ q, rfl, by rw [sZ_len]; omega, _, gN, by rw [List.length_map, List.length_map, List.length_take]; exact small1000 (by omega), fun b o e => by rw [upd_ne (ne_of_none e hN)]; exact sG b o e, ?_⟩
        show _ = _
        rw [upd_same, List.take_add_one, hq, Option.toList_some, List.map_append, List.map_append, tl_sZ]
        rfl
      rintro G3 ⟨t3, gN⟩
      rw [List.length_map, List.length_map, List.take_length] at gN
      have tG := t2.trans t3
      have gD3 := tG _ _ gD
      have kp3 : ∀ b o, b ≠ D → H3 b = some o → G3 b = some o := fun b o n e => tG _ _ (kp b o n e)
      have nngood : ∀ {l f : Int} {Xs : List (List Int)} {ss : List T3}, GoodT (tl s) l f Xs ss → ∀ n ∈ ps.map lawNum, 0 ≤ n := fun g n hn => by
        have m1 : rowL L ∈ LS.map rowL := List.mem_map.mpr ⟨L, mL, rfl⟩
        rw [(cutG g).1, g.rowsL, eR] at m1
        exact rowsP_nn (ok_iff g.ok) _ m1 n hn
      refine ⟨.ref N, rfl, N, _, rfl, .inl (SqL.of gN), _, _, rfl, rfl, _, rfl, ?_⟩
      rw [List.length_map, List.length_map]
      by_cases neg : ∃ n ∈ ps.map lawNum, n < 0
      case pos =>
        obtain ⟨n, hn, n0⟩ := neg
        have pos : 0 < ps.length := by have := List.length_pos_of_mem hn; rwa [List.length_map] at this
        refine (if_pos (decide_eq_true (by omega))).mpr ⟨.ref N, rfl, N, _, rfl, SqL.of gN, by rw [List.length_map]; exact pos, fun m hm hle => ⟨_, _, rfl, rfl, _, rfl, ?_⟩⟩
        refine (if_pos (decide_eq_true (by have := hle n hn; omega))).mpr ?_
        exact k2 (fun l f Xs ss g => by have := nngood g n hn; omega) _
      have nnL : ∀ n ∈ ps.map lawNum, 0 ≤ n := fun n hn => by
        refine Classical.byContradiction fun z => neg ⟨n, hn, by omega⟩
      by_cases pos : 0 < ps.length
      case' pos =>
        refine (if_pos (decide_eq_true (by omega))).mpr ⟨.ref N, rfl, N, _, rfl, SqL.of gN, by rw [List.length_map]; exact pos, fun m hm hle => ⟨_, _, rfl, rfl, _, rfl, ?_⟩⟩
        refine (if_neg (by rw [decide_eq_true_eq]; have := nnL m hm; omega)).mpr ?_
      case' neg =>
        refine (if_neg (by rw [decide_eq_true_eq]; omega)).mpr ?_
        refine iteF ?_
      all_goals
        refine ⟨.ref D, rfl, .inl ⟨rfl, _, SqL.of gD3⟩, .ref va, rfl, va, _, _, .str (sZ p), rfl, rfl, SqL.of (t3 _ _ gv2), atI_nat (j := 0) rfl, .ref N, rfl, N, _, rfl, .inl ⟨SqL.of gN, fun na hna => ?_⟩⟩
        have u1 := Same.new (o := .tup ((ps.map lawNum).map V.int)) hna
        refine ⟨by show 2 ≤ sizeLine; decide, fun r hr' => ?_⟩
        have u2 := u1.trans (Same.new (o := .tup [.str (sZ p), .ref na]) hr')
        have gD5 := u2 _ _ gD3
        have lrs : rs.length ≤ 60 := by rw [rt.1, List.length_map, List.length_take]; omega
        refine ⟨D, _, _, rfl, rfl, gD5, by rw [List.length_map]; exact small1000 (by omega), ?_⟩
        have nrD : r ≠ D := (ne_of_none (u1 _ _ gD3) hr').symm
        have nnD : na ≠ D := (ne_of_none gD3 hna).symm
        refine ⟨_, _, _, rs ++ [r], rfl, fun b o n e => by rw [upd_ne n]; exact u2 _ _ (kp3 b o n e), by rw [upd_same, List.map_append]; rfl, ?_, fun L' hL' => ?_⟩
        · rw [tk, List.map_append, List.map_singleton, eR]
          refine ⟨by rw [List.length_append, List.length_append, rt.1]; rfl, fun j b Q e1 e2 => ?_⟩
          rcases get_snoc e1 with e1' | ⟨q1, rfl⟩
          · rcases get_snoc e2 with e2' | ⟨q2, rfl⟩
            · obtain ⟨nb, hb, hnb⟩ := rt.2 j b Q e1' e2'
              have hb5 := u2 _ _ (tG _ _ hb)
              have hnb5 := u2 _ _ (tG _ _ hnb)
              exact ⟨nb, by rw [upd_ne (ne_of hb5 gD5 (by intro z; cases z))]; exact hb5, by rw [upd_ne (ne_of hnb5 gD5 (by intro z; cases z))]; exact hnb5⟩
            · have := get_len e1'; rw [rt.1] at this; omega
          · rcases get_snoc e2 with e2' | ⟨q2, rfl⟩
            · have := get_len e2'; rw [← rt.1] at this; omega
            · exact ⟨na, by rw [upd_ne nrD, upd_same], by rw [upd_ne nnD, upd_ne (ne_of_none upd_same hr')]; exact upd_same⟩
        · rw [tk] at hL'
          rcases List.mem_append.mp hL' with h | h
          · exact nn L' h
          · rw [List.mem_singleton.mp h, eR]
            exact nnL
    · rintro σ G ⟨y3, y4, y6, rs, rfl, kp, gD, rt, nn⟩
      rw [List.length_map, List.length_map, List.take_length] at rt nn
      obtain ⟨R, hR⟩ : ∃ R, R = LS.map rowL := ⟨_, rfl⟩
      rw [← hR] at rt
      have sG : Same H G := fun b o e => kp _ _ (ne_of_none e nHD) (s3 _ _ e)
      have lR : R.length ≤ 60 := by rw [hR, List.length_map]; exact lLS
      have nnR : ∀ Q1 ∈ R, ∀ n ∈ Q1.2, 0 ≤ n := fun Q1 h => by
        rw [hR] at h
        obtain ⟨L, hL, rfl⟩ := List.mem_map.mp h
        exact nn L hL
      have gRows : ∀ {l f : Int} {Xs : List (List Int)} {ss : List T3}, GoodT (tl s) l f Xs ss → R = rowsP l f Xs ss := fun g => by rw [hR, (cutG g).1, g.rowsL]
      have back : ∀ {l f : Int} {Xs : List (List Int)} {ss : List T3}, R = rowsP l f Xs ss → okWorld l f Xs ss = true → GoodT (tl s) l f Xs ss := fun e ok => ⟨read_back e0 nn (by rw [← hR]; exact e), ok⟩
      have lenR : ∀ Q1 ∈ R, Q1.2.length ≤ 60 := fun Q1 h => by
        rw [hR] at h
        obtain ⟨L, hL, rfl⟩ := List.mem_map.mp h
        have h1 := cutc_len 32 L
        have h2 := lLn L (inLS L hL)
        unfold rowL
        cases cut : cutc 32 L with
        | nil => exact Nat.zero_le _
        | cons p ps =>
          rw [cut, List.length_cons] at h1
          show (ps.map lawNum).length ≤ 60
          rw [List.length_map]
          omega
      clear nn kp gw3 gw2 s3 s2 s1 hD
      cases eR : R with
      | nil => rw [hR] at eR; exact absurd (List.map_eq_nil_iff.mp eR) neLS
      | cons Q0 Pr =>
      cases er : rs with
      | nil => have := rt.1; rw [er, eR] at this; cases this
      | cons r0 rr =>
      obtain ⟨na0, gr0, gl0⟩ := rt.2 0 r0 Q0 (by rw [er]; rfl) (by rw [eR]; rfl)
      have heads : ∀ {l f : Int} {Xs : List (List Int)} {ss : List T3}, GoodT (tl s) l f Xs ss → Q0 = (wWorld, [l, f, (Xs.length : Int)]) ∧ Pr = Xs.map (fun X => (wState, X)) ++ ss.map fun p => (wStep, of3 p) := fun g => by
        have := gRows g
        rw [eR] at this
        exact List.cons.inj this
      refine ⟨.ref D, rfl, D, _, _, .ref r0, rfl, rfl, SqL.of gD, by rw [er]; exact atI_nat (j := 0) rfl, r0, _, _, .str (sZ Q0.1), rfl, rfl, SqT.of gr0, rfl, rfl, _, rfl, ?_⟩
      by_cases cw : Q0.1 = wWorld
      case neg =>
        refine (if_pos (by rw [decide_eq_false fun e => cw (by have e2 := congrArg tl (V.str.inj e); rw [tl_sZ] at e2; rw [e2]; decide +kernel)]; rfl)).mpr (iteT (k2 (fun l f Xs ss g => cw (by rw [(heads g).1])) _))
      refine (if_neg (by rw [cw, show sZ wWorld = ("world" : Str) by decide +kernel, decide_eq_true rfl]; exact Bool.false_ne_true)).mpr ?_
      refine ⟨.ref D, rfl, D, _, _, .ref r0, rfl, rfl, SqL.of gD, by rw [er]; exact atI_nat (j := 0) rfl, r0, _, _, .ref na0, rfl, rfl, SqT.of gr0, rfl, na0, _, rfl, .inr (SqT.of gl0), rfl, _, rfl, ?_⟩
      rw [List.length_map]
      by_cases c3 : Q0.2.length = 3
      case neg =>
        refine (if_pos (by rw [decide_eq_false fun e => c3 (by have := V.int.inj e; omega)]; rfl)).mpr (k2 (fun l f Xs ss g => c3 (by rw [(heads g).1]; rfl)) _)
      refine (if_neg (by rw [c3]; decide)).mpr ?_
      obtain ⟨l, f, z, e3⟩ : ∃ l f z, Q0.2 = [l, f, z] := by
        match h : Q0.2, c3 with
        | [l, f, z], _ => exact ⟨l, f, z, rfl⟩
      rw [e3] at gl0
      have lfz : ∀ {l' f' : Int} {Xs : List (List Int)} {ss : List T3}, GoodT (tl s) l' f' Xs ss → l' = l ∧ f' = f ∧ (Xs.length : Int) = z := fun g => by
        have := congrArg Prod.snd (heads g).1
        rw [e3] at this
        simp only [List.cons.injEq, and_true] at this
        exact ⟨this.1.symm, this.2.1.symm, this.2.2.symm⟩
      have nn0 : 0 ≤ l ∧ 0 ≤ f ∧ 0 ≤ z := by
        have h := nnR Q0 (by rw [eR]; exact List.mem_cons_self)
        rw [e3] at h
        exact ⟨h l (by simp), h f (by simp), h z (by simp)⟩
      refine ⟨.ref D, rfl, D, _, _, .ref r0, rfl, rfl, SqL.of gD, by rw [er]; exact atI_nat (j := 0) rfl, r0, _, _, .ref na0, rfl, rfl, SqT.of gr0, rfl, na0, _, rfl, SqT.of gl0, rfl, .int l, _, rfl, .int f, _, rfl, .int z, _, rfl, rfl, ?_⟩
      have lrs : rs.length = R.length := rt.1
      refine ⟨.int l, rfl, _, _, rfl, rfl, _, rfl, ite2 (fun c => ?_) (fun c1 => ?_)⟩
      · have c := of_decide_eq_true c
        exact iteT (k2 (fun l' f' Xs ss g => by have h1 := lfz g; have h2 := (ok_iff g.ok).hl; omega) _)
      refine ⟨.int l, rfl, _, _, rfl, rfl, _, rfl, ite2 (fun c => ?_) (fun c2 => ?_)⟩
      · have c := of_decide_eq_true c
        exact iteT (k2 (fun l' f' Xs ss g => by have h1 := lfz g; have h2 := (ok_iff g.ok).hl; omega) _)
      refine ⟨.int f, rfl, _, _, rfl, rfl, _, rfl, ite2 (fun c => ?_) (fun c4 => ?_)⟩
      · have c := of_decide_eq_true c
        exact iteT (k2 (fun l' f' Xs ss g => by have h1 := lfz g; have h2 := (ok_iff g.ok).hf; omega) _)
      refine ⟨.int z, rfl, _, _, rfl, rfl, _, rfl, ite2 (fun c => ?_) (fun c5 => ?_)⟩
      · have c := of_decide_eq_true c
        exact iteT (k2 (fun l' f' Xs ss g => by have h1 := lfz g; have h2 := (ok_iff g.ok).hn; omega) _)
      refine ⟨.ref D, rfl, D, _, rfl, .inl (SqL.of gD), .int z, rfl, _, _, rfl, rfl, _, _, rfl, rfl, _, rfl, ?_⟩
      rw [List.length_map]
      refine ite2 (fun c => ?_) (fun c6 => ?_)
      · have c := of_decide_eq_true c
        exact k2 (fun l' f' Xs ss g => by
          have h1 := lfz g
          have h2 := congrArg List.length (heads g).2
          have h3 := congrArg List.length eR
          rw [List.length_append, List.length_map, List.length_map] at h2
          rw [List.length_cons] at h3
          omega) _
      rw [decide_eq_true_eq] at c1 c2 c4 c5 c6
      obtain ⟨m, rfl⟩ := Int.eq_ofNat_of_zero_le nn0.2.2
      have m1 : 1 ≤ m := by omega
      have mR : m + 1 ≤ R.length := by omega
      refine ⟨Nat.zero_le _, fun SA hSA => ?_⟩
      have u1 := Same.new (o := .lst []) hSA
      have gSA0 : (upd G SA (.lst [])) SA = some (.lst (([] : List Addr).map V.ref)) := upd_same
      refine ⟨.ref D, rfl, 1, rfl, .int (m : Nat), rfl, _, _, rfl, rfl, _, rfl, D, _, rfl, SqL.of (u1 _ _ gD), fun sa hsa => ?_⟩
      rw [cutV_mid (by rw [List.length_map, lrs]; exact mR), ← List.map_drop, ← List.map_take]
      have u2 := u1.trans (Same.new (o := .lst (((rs.drop 1).take m).map V.ref)) hsa)
      have gsa : (upd (upd G SA (.lst [])) sa (.lst (((rs.drop 1).take m).map V.ref))) sa = some (.lst (((rs.drop 1).take m).map V.ref)) := upd_same
      have gSA1 := Same.new (o := .lst (((rs.drop 1).take m).map V.ref)) hsa _ _ gSA0
      have nHSA : G SA = none := hSA
      have nsS : sa ≠ SA := (ne_of_none gSA0 hsa).symm
      generalize upd (upd G SA (.lst [])) sa (.lst (((rs.drop 1).take m).map V.ref)) = G1 at u2 gsa gSA1
      refine ⟨sa, rfl, ⟨_, SqL.of gsa⟩, ?_⟩
      refine for_list (xs := ((rs.drop 1).take m).map V.ref) (fun i σ G' => ∃ (y3 y4 y5 y6 : Option V) (nas : List Addr), σ = [some (.str s), some (.ref wa), some (.ref D), y3, y4, y5, y6, some (.int l), some (.int f), some (.int (m : Nat)), some (.ref SA), none, none] ∧ (∀ b o, b ≠ SA → G1 b = some o → G' b = some o) ∧ G' SA = some (.lst (nas.map V.ref)) ∧
          (nas.length = i ∧ ∀ (j : Nat) (a : Addr) (Q1 : List Nat × List Int), nas[j]? = some a → R[1 + j]? = some Q1 → G1 a = some (.tup (Q1.2.map V.int))) ∧ (∀ j Q1, j < i → R[1 + j]? = some Q1 → Q1.1 = wState ∧ Q1.2.Pairwise (· < ·) ∧ ∀ x ∈ Q1.2, x < f))
        ⟨_, _, none, _, [], rfl, fun b o _ e => e, gSA1, ⟨rfl, fun j a Q1 e _ => by simp at e⟩, fun j Q1 hj => absurd hj (Nat.not_lt_zero _)⟩ (fun i σ G' _ ⟨_, _, _, _, _, _, kp, _⟩ => SqL.of (kp _ _ nsS gsa)) ?_ ?_
      · rintro i x σ G' hx ⟨y3, y4, y5, y6, nas, rfl, kp, gSA, ⟨ln1, ln2⟩, okr⟩
        have ri : ∃ r Q1, x = .ref r ∧ rs[1 + i]? = some r ∧ R[1 + i]? = some Q1 ∧ i < m := by
          rw [List.getElem?_map] at hx
          cases e : ((rs.drop 1).take m)[i]? with
          | none => rw [e] at hx; cases hx
          | some r =>
            rw [e] at hx
            have il := (List.getElem?_eq_some_iff.mp e).1
            rw [List.length_take] at il
            rw [List.getElem?_take, if_pos (by omega), List.getElem?_drop] at e
            have jl := (List.getElem?_eq_some_iff.mp e).1
            rw [lrs] at jl
            exact ⟨r, R[1 + i], (Option.some.inj hx).symm, e, List.getElem?_eq_getElem jl, by omega⟩
        obtain ⟨r, Q1, rfl, hr1, hq1, im⟩ := ri
        obtain ⟨na, gr, gl⟩ := rt.2 (1 + i) r Q1 hr1 hq1
        have gr1 := u2 _ _ gr
        have gl1 := u2 _ _ gl
        have gr2 := kp _ _ (ne_of gr1 gSA1 (by intro z; cases z)) gr1
        have gl2 := kp _ _ (ne_of gl1 gSA1 (by intro z; cases z)) gl1
        have gQ : ∀ {l' f' : Int} {Xs : List (List Int)} {ss : List T3}, GoodT (tl s) l' f' Xs ss → ∃ X, Q1 = (wState, X) ∧ X.Pairwise (· < ·) ∧ ∀ x ∈ X, x < f := fun {l' f' Xs ss} g => by
          have h1 := lfz g
          have h2 := gRows g
          rw [h2, Nat.add_comm] at hq1
          unfold rowsP at hq1
          rw [List.getElem?_cons_succ, List.getElem?_append_left (by rw [List.length_map]; omega), List.getElem?_map] at hq1
          cases e : Xs[i]? with
          | none => rw [e] at hq1; cases hq1
          | some X =>
            rw [e] at hq1
            have o := (ok_iff g.ok).hr X (List.mem_of_getElem? e)
            exact ⟨X, (Option.some.inj hq1).symm, o.2.imp fun {a b} h => of_decide_eq_true h, fun x hx => by have := o.1 x hx; omega⟩
        have lQ : Q1.2.length ≤ 60 := lenR Q1 (List.mem_of_getElem? hq1)
        refine ⟨r, _, rfl, SqT.of gr2, rfl, .str (sZ Q1.1), _, rfl, .ref na, _, rfl, rfl, ?_⟩
        refine ⟨.str (sZ Q1.1), rfl, rfl, _, rfl, ?_⟩
        by_cases cs : Q1.1 = wState
        case neg =>
          refine (if_pos (by rw [decide_eq_false fun e => cs (by have e2 := congrArg tl (V.str.inj e); rw [tl_sZ] at e2; rw [e2]; decide +kernel)]; rfl)).mpr (iteT (k2 (fun l f Xs ss g => by obtain ⟨X, e, _⟩ := gQ g; exact cs (by rw [e])) _))
        refine (if_neg (by rw [cs, show sZ wState = ("state" : Str) by decide +kernel, decide_eq_true rfl]; exact Bool.false_ne_true)).mpr ?_
        refine ⟨.ref na, rfl, na, _, rfl, .inr (SqT.of gl2), fun l1 hl1 => ?_⟩
        have v1 := Same.new (o := .lst (Q1.2.map V.int)) hl1
        have gl1' : (upd G' l1 (.lst (Q1.2.map V.int))) l1 = some (.lst (Q1.2.map V.int)) := upd_same
        generalize upd G' l1 (.lst (Q1.2.map V.int)) = A1 at v1 gl1'
        refine ⟨.ref na, rfl, na, Q1.2, rfl, SqT.of (v1 _ _ gl2), by omega, fun p c hp hc hV => ?_⟩
        have v2 := v1.trans (Same.new (o := SetO w p (fun j => decide (j ∈ Q1.2)) c) hp)
        have gl12 := Same.new (o := SetO w p (fun j => decide (j ∈ Q1.2)) c) hp _ _ gl1'
        refine ⟨p, _, c, rfl, upd_same, by omega, fun ns q asc mem len hq => ?_⟩
        have v3 := v2.trans (Same.new (o := .lst (ns.map V.int)) hq)
        have gl13 := Same.new (o := .lst (ns.map V.int)) hq _ _ gl12
        have gq : (upd (upd A1 p (SetO w p (fun j => decide (j ∈ Q1.2)) c)) q (.lst (ns.map V.int))) q = some (.lst (ns.map V.int)) := upd_same
        generalize upd (upd A1 p (SetO w p (fun j => decide (j ∈ Q1.2)) c)) q (.lst (ns.map V.int)) = A3 at v3 gl13 gq
        refine ⟨.list (Q1.2.map PyData.int), .list (ns.map PyData.int), .lst (SqL.of gl13) (dp_ints _), .lst (SqL.of gq) (dp_ints _), ints_shaped _, ints_shaped _, _, rfl, ?_⟩
        rw [rows_eqv]
        have mem' : ∀ x, x ∈ Q1.2 ↔ x ∈ ns := fun x => by rw [mem]; exact decide_eq_true_iff.symm
        by_cases ce : Q1.2 = ns
        case neg =>
          refine (if_pos (by rw [decide_eq_false ce]; rfl)).mpr (iteT (k2 (fun l f Xs ss g => by
            obtain ⟨X, e, hX, _⟩ := gQ g
            refine ce (rising_one (by rw [e]; exact hX) asc mem')) _))
        refine (if_neg (by rw [decide_eq_true ce]; exact Bool.false_ne_true)).mpr ?_
        have gl3 := v3 _ _ gl2
        refine ⟨.ref na, rfl, na, rfl, ⟨_, SqT.of gl3⟩, fun N2 hN2 => ?_⟩
        refine lc_it walk_tup (fun j B => Same A3 B ∧ IL B N2 ((Q1.2.take j).filter fun x => decide (x ≥ f))) ⟨Same.new hN2, upd_same⟩ (fun j B _ q => SqT.of (q.1 _ _ gl3)) ?_ ?_
        · rintro j x B B' hj ⟨sB, gN⟩ ⟨rfl, hx'⟩
          obtain ⟨y, hy, rfl⟩ := ints_nth hx'
          have tk : Q1.2.take (j + 1) = Q1.2.take j ++ [y] := by rw [List.take_add_one, hy]; rfl
          refine ⟨rfl, .int y, rfl, .int f, rfl, _, _, rfl, rfl, _, rfl, ite2 (fun c => ?_) (fun c => ?_)⟩
          · refine ⟨.int y, rfl, _, gN, ?_, fun b o e => by rw [upd_ne (ne_of_none e hN2)]; exact sB b o e, ?_⟩
            · rw [List.length_map]
              have := List.length_filter_le (fun x => decide (x ≥ f)) (Q1.2.take j)
              rw [List.length_take] at this
              exact small1000 (by omega)
            · show _ = _
              rw [upd_same, tk, List.filter_append, List.map_append, List.filter_cons_of_pos (p := fun x => decide (x ≥ f)) c]
              rfl
          · refine ⟨sB, ?_⟩
            rw [tk, List.filter_append, List.filter_cons_of_neg (p := fun x => decide (x ≥ f)) c, show ∀ p : Int → Bool, List.filter p [] = [] from fun _ => rfl, List.append_nil]
            exact gN
        rintro B ⟨sB, gN⟩
        rw [List.length_map, List.take_length] at gN
        have vB := v3.trans sB
        refine ⟨N2, _, rfl, .inl (SqL.of gN), _, _, rfl, rfl, _, rfl, ?_⟩
        rw [List.length_map]
        refine ite2 (fun c => ?_) (fun c => ?_)
        · have c := of_decide_eq_true c
          refine k2 (fun l f' Xs ss g => ?_) _
          obtain ⟨X, e, _, hX⟩ := gQ g
          cases ef : Q1.2.filter (fun x => decide (x ≥ f)) with
          | nil => rw [ef] at c; exact absurd c (by decide)
          | cons y ys =>
            have h1 := List.mem_filter.mp (show y ∈ Q1.2.filter (fun x => decide (x ≥ f)) by rw [ef]; exact List.mem_cons_self)
            have h2 := hX y (by rw [e] at h1; exact h1.1)
            have h3 := of_decide_eq_true h1.2
            omega
        have gSA4 := vB _ _ gSA
        refine ⟨.ref SA, rfl, .inl ⟨rfl, _, SqL.of gSA4⟩, .ref na, rfl, SA, _, _, rfl, rfl, gSA4, by rw [List.length_map]; exact small1000 (by omega), ?_⟩
        refine ⟨_, _, _, _, nas ++ [na], rfl, fun b o n e => by rw [upd_ne n]; exact vB _ _ (kp b o n e), by rw [upd_same, List.map_append]; rfl, ⟨by rw [List.length_append, ln1]; rfl, fun j a' Q2 e1 e2 => ?_⟩, fun j Q2 hj e2 => ?_⟩
        · rcases get_snoc e1 with e1' | ⟨q1, rfl⟩
          · exact ln2 j a' Q2 e1' e2
          · rw [q1, ln1, hq1] at e2
            cases e2
            exact gl1
        · by_cases ej : j = i
          · subst ej
            rw [hq1] at e2
            cases e2
            refine ⟨cs, by rw [ce]; exact asc, fun x hx => Classical.byContradiction fun z => c ?_⟩
            have : x ∈ Q1.2.filter (fun x => decide (x ≥ f)) := List.mem_filter.mpr ⟨hx, decide_eq_true (by omega)⟩
            have := List.length_pos_of_mem this
            exact decide_eq_true (by omega)
          · exact okr j Q2 (by omega) e2
      rintro σ G2 ⟨y3, y4, y5, y6, nas, rfl, kp, gSA, ⟨ln1, ln2⟩, okr⟩
      rw [List.length_map, List.length_take, List.length_drop, lrs, Nat.min_eq_left (by omega)] at ln1 okr
      have u3 : Same G G2 := fun b o e => kp _ _ (ne_of_none e nHSA) (u2 _ _ e)
      refine ⟨Nat.zero_le _, fun SB hSB => ?_⟩
      have w1 := Same.new (o := .lst []) hSB
      have gSB0 : (upd G2 SB (.lst [])) SB = some (.lst (([] : List Addr).map V.ref)) := upd_same
      refine ⟨.ref D, rfl, .int (m : Nat), rfl, _, _, rfl, rfl, _, rfl, D, _, rfl, SqL.of (w1 _ _ (u3 _ _ gD)), fun sb hsb => ?_⟩
      rw [cutV_from, ← List.map_drop]
      have w2 := w1.trans (Same.new (o := .lst ((rs.drop (m + 1)).map V.ref)) hsb)
      have gsb : (upd (upd G2 SB (.lst [])) sb (.lst ((rs.drop (m + 1)).map V.ref))) sb = some (.lst ((rs.drop (m + 1)).map V.ref)) := upd_same
      have gSB1 := Same.new (o := .lst ((rs.drop (m + 1)).map V.ref)) hsb _ _ gSB0
      have nHSB : G2 SB = none := hSB
      have nbB : sb ≠ SB := (ne_of_none gSB0 hsb).symm
      generalize upd (upd G2 SB (.lst [])) sb (.lst ((rs.drop (m + 1)).map V.ref)) = G3 at w2 gsb gSB1
      refine ⟨sb, rfl, ⟨_, SqL.of gsb⟩, ?_⟩
      refine for_list (xs := (rs.drop (m + 1)).map V.ref) (fun i σ G' => ∃ (y3 y4 y5 y6 : Option V) (as : List Addr) (ss : List T3), σ = [some (.str s), some (.ref wa), some (.ref D), y3, y4, y5, y6, some (.int l), some (.int f), some (.int (m : Nat)), some (.ref SA), some (.ref SB), none] ∧ (∀ b o, b ≠ SB → G3 b = some o → G' b = some o) ∧ G' SB = some (.lst (as.map V.ref)) ∧
          as.length = i ∧ PAt G3 as ss ∧ (R.drop (m + 1)).take i = ss.map (fun p => (wStep, of3 p)) ∧ ∀ p ∈ ss, p.1 < (m : Int) ∧ p.2.1 < l ∧ p.2.2 < (m : Int))
        ⟨_, _, _, _, [], [], rfl, fun b o _ e => e, gSB1, rfl, ⟨rfl, fun j a q e _ => by simp at e⟩, by simp, fun p hp => by cases hp⟩ (fun i σ G' _ ⟨_, _, _, _, _, _, _, kp, _⟩ => SqL.of (kp _ _ nbB gsb)) ?_ ?_
      · rintro i x σ G' hx ⟨y3, y4, y5, y6, as, ss, rfl, kq, gSB, la, pt, ed, bd⟩
        have ri : ∃ r Q1, x = .ref r ∧ rs[m + 1 + i]? = some r ∧ R[m + 1 + i]? = some Q1 := by
          rw [List.getElem?_map] at hx
          cases e : (rs.drop (m + 1))[i]? with
          | none => rw [e] at hx; cases hx
          | some r =>
            rw [e] at hx
            rw [List.getElem?_drop] at e
            have jl := (List.getElem?_eq_some_iff.mp e).1
            rw [lrs] at jl
            exact ⟨r, R[m + 1 + i], (Option.some.inj hx).symm, e, List.getElem?_eq_getElem jl⟩
        obtain ⟨r, Q1, rfl, hr1, hq1⟩ := ri
        have iR := (List.getElem?_eq_some_iff.mp hq1).1
        obtain ⟨na, gr, gl⟩ := rt.2 (m + 1 + i) r Q1 hr1 hq1
        have gr1 := w2 _ _ (u3 _ _ gr)
        have gl1 := w2 _ _ (u3 _ _ gl)
        have gr2 := kq _ _ (ne_of gr1 gSB1 (by intro z; cases z)) gr1
        have gl2 := kq _ _ (ne_of gl1 gSB1 (by intro z; cases z)) gl1
        have gQ : ∀ {l' f' : Int} {Xs : List (List Int)} {ss : List T3}, GoodT (tl s) l' f' Xs ss → ∃ p : T3, Q1 = (wStep, of3 p) ∧ p.1 < (m : Int) ∧ p.2.1 < l ∧ p.2.2 < (m : Int) := fun {l' f' Xs ss} g => by
          have h1 := lfz g
          have h2 := gRows g
          rw [h2, show m + 1 + i = (m + i) + 1 by omega] at hq1
          unfold rowsP at hq1
          rw [List.getElem?_cons_succ, List.getElem?_append_right (by rw [List.length_map]; omega), List.getElem?_map] at hq1
          cases e : ss[m + i - (Xs.map fun X => (wState, X)).length]? with
          | none => rw [e] at hq1; cases hq1
          | some p =>
            rw [e] at hq1
            have o := (ok_iff g.ok).hs p (List.mem_of_getElem? e)
            exact ⟨p, (Option.some.inj hq1).symm, by omega, by omega, by omega⟩
        refine ⟨r, _, rfl, SqT.of gr2, rfl, .str (sZ Q1.1), _, rfl, .ref na, _, rfl, rfl, ?_⟩
        refine ⟨.str (sZ Q1.1), rfl, rfl, _, rfl, ?_⟩
        by_cases cs : Q1.1 = wStep
        case neg =>
          refine (if_pos (by rw [decide_eq_false fun e => cs (by have e2 := congrArg tl (V.str.inj e); rw [tl_sZ] at e2; rw [e2]; decide +kernel)]; rfl)).mpr (iteT (k2 (fun l f Xs ss g => by obtain ⟨p, e, _⟩ := gQ g; exact cs (by rw [e])) _))
        refine (if_neg (by rw [cs, show sZ wStep = ("step" : Str) by decide +kernel, decide_eq_true rfl]; exact Bool.false_ne_true)).mpr ?_
        refine ⟨.ref na, rfl, na, _, rfl, .inr (SqT.of gl2), rfl, _, rfl, ?_⟩
        rw [List.length_map]
        by_cases c3' : Q1.2.length = 3
        case neg =>
          refine (if_pos (by rw [decide_eq_false fun e => c3' (by have := V.int.inj e; omega)]; rfl)).mpr (iteT (k2 (fun l f Xs ss g => by obtain ⟨p, e, _⟩ := gQ g; exact c3' (by rw [e]; rfl)) _))
        refine (if_neg (by rw [c3']; decide)).mpr ?_
        obtain ⟨q, eq⟩ : ∃ q : T3, Q1.2 = of3 q := by
          match h : Q1.2, c3' with
          | [a, b, c], _ => exact ⟨(a, b, c), rfl⟩
        rw [eq] at gl2 gl1
        have eQ : Q1 = (wStep, of3 q) := Prod.ext cs eq
        have gq : ∀ {l' f' : Int} {Xs : List (List Int)} {ss : List T3}, GoodT (tl s) l' f' Xs ss → q.1 < (m : Int) ∧ q.2.1 < l ∧ q.2.2 < (m : Int) := fun g => by
          obtain ⟨p, e, h⟩ := gQ g
          have : q = p := by
            rw [eQ] at e
            have := (Prod.mk.inj e).2
            obtain ⟨a1, a2, a5⟩ := q
            obtain ⟨b1, b2', b3⟩ := p
            simp only [of3, List.cons.injEq, and_true] at this
            obtain ⟨rfl, rfl, rfl⟩ := this
            rfl
          rw [this]
          exact h
        refine ⟨.ref na, rfl, na, _, _, .int q.1, rfl, rfl, SqT.of gl2, rfl, .ref na, rfl, na, _, _, .int q.2.2, rfl, rfl, SqT.of gl2, rfl, q.1, q.2.2, rfl, .int (m : Nat), rfl, _, _, rfl, rfl, _, rfl, ite2 (fun c => ?_) (fun d1 => ?_)⟩
        · have c := of_decide_eq_true c
          exact iteT (k2 (fun l f Xs ss g => by have := gq g; split at c <;> omega) _)
        refine ⟨.ref na, rfl, na, _, _, .int q.2.1, rfl, rfl, SqT.of gl2, rfl, .int l, rfl, _, _, rfl, rfl, _, rfl, ite2 (fun c => ?_) (fun d2 => ?_)⟩
        · have c := of_decide_eq_true c
          exact k2 (fun l f Xs ss g => by have := gq g; omega) _
        rw [decide_eq_true_eq] at d1 d2
        refine ⟨.ref SB, rfl, .inl ⟨rfl, _, SqL.of gSB⟩, .ref na, rfl, SB, _, _, rfl, rfl, gSB, by rw [List.length_map]; exact small1000 (by omega), ?_⟩
        refine ⟨_, _, _, _, as ++ [na], ss ++ [q], rfl, fun b o n e => by rw [upd_ne n]; exact kq _ _ n e, by rw [upd_same, List.map_append]; rfl, by rw [List.length_append, la]; rfl, ⟨by rw [List.length_append, List.length_append, pt.1]; rfl, fun j b p e1 e2 => ?_⟩, ?_, fun p hp => ?_⟩
        · rcases get_snoc e1 with e1' | ⟨q1, rfl⟩
          · rcases get_snoc e2 with e2' | ⟨q2, rfl⟩
            · exact pt.2 j b p e1' e2'
            · have := get_len e1'; rw [pt.1] at this; omega
          · rcases get_snoc e2 with e2' | ⟨q2, rfl⟩
            · have := get_len e2'; rw [← pt.1] at this; omega
            · exact gl1
        · rw [List.take_add_one, ed, List.getElem?_drop, hq1, eQ, List.map_append]
          rfl
        · rcases List.mem_append.mp hp with h | h
          · exact bd p h
          · rw [List.mem_singleton.mp h]
            refine ⟨?_, by omega, ?_⟩ <;> (split at d1 <;> omega)
      rintro σ G4 ⟨y3, y4, y5, y6, as, ss, rfl, kq, gSB, la, pt, ed, bd⟩
      rw [List.length_map, List.length_drop, lrs] at la ed
      rw [List.take_of_length_le (by rw [List.length_drop]; exact Nat.le_refl _)] at ed
      have u5 : Same G2 G4 := fun b o e => kq _ _ (ne_of_none e nHSB) (w2 _ _ e)
      have pt4 : PAt G4 as ss := ⟨pt.1, fun j a p e1 e2 => kq _ _ (ne_of (pt.2 j a p e1 e2) gSB1 (by intro z; cases z)) (pt.2 j a p e1 e2)⟩
      have pn : ∀ p ∈ ss, TS.Bd 64 (of3 p) := fun p hp x hx => by
        have mR1 : (wStep, of3 p) ∈ R := List.mem_of_mem_drop (i := m + 1) (by rw [ed]; exact List.mem_map.mpr ⟨p, hp, rfl⟩)
        refine ⟨nnR _ mR1 x hx, ?_⟩
        have := bd p hp
        have : x = p.1 ∨ x = p.2.1 ∨ x = p.2.2 := by simpa [of3] using hx
        omega
      have lz : as.length = (ss.map of3).length := by rw [List.length_map, pt.1]
      have zf : (as.zip (ss.map of3)).map (fun p => V.ref p.1) = as.map V.ref := by
        have := List.map_fst_zip (l₁ := as) (l₂ := ss.map of3) (Nat.le_of_eq lz)
        rw [show (fun p : Addr × List Int => V.ref p.1) = V.ref ∘ Prod.fst from rfl, ← List.map_map, this]
      have zs : (as.zip (ss.map of3)).map (fun p => p.2) = ss.map of3 := List.map_snd_zip (Nat.le_of_eq lz.symm)
      have zt : ∀ p ∈ as.zip (ss.map of3), ∃ q, q ∈ ss ∧ p.2 = of3 q ∧ G4 p.1 = some (.tup ((of3 q).map V.int)) := fun p hp => by
        obtain ⟨j, hj, e⟩ := List.getElem_of_mem hp
        rw [List.length_zip] at hj
        have ja : j < as.length := by omega
        have js : j < ss.length := by rw [← pt.1]; exact ja
        rw [List.getElem_zip] at e
        rw [← e]
        refine ⟨ss[j], List.getElem_mem js, by rw [List.getElem_map], ?_⟩
        exact pt4.2 j _ _ (List.getElem?_eq_getElem ja) (List.getElem?_eq_getElem js)
      have las : as.length ≤ 60 := by omega
      refine ⟨.ref SB, rfl, .ref SB, rfl, SB, as.zip (ss.map of3), rfl, SqL.of (by rw [zf]; exact gSB), fun p hp => by obtain ⟨q, _, e1, e2⟩ := zt p hp; rw [e1]; exact SqT.of e2, by rw [List.length_zip]; omega, fun a L ha h1 h2 => ?_⟩
      have x1 := Same.new (o := SetTO P w a L) ha
      refine ⟨a, L, 3, 64, rfl, upd_same, fun p hp => by obtain ⟨q, _, e1, e2⟩ := zt p (h1 p hp); rw [e1]; exact SqT.of (x1 _ _ e2), by decide, fun p hp => by obtain ⟨q, hq, e1, _⟩ := zt p (h1 p hp); rw [e1]; exact ⟨rfl, pn q hq⟩, fun L' q pe nd ln so hq => ?_⟩
      have x2 := x1.trans (Same.new (o := .lst (L'.map fun q => V.ref q.1)) hq)
      have gq : (upd (upd G4 a (SetTO P w a L)) q (.lst (L'.map fun q => V.ref q.1))) q = some (.lst (L'.map fun q => V.ref q.1)) := upd_same
      generalize upd (upd G4 a (SetTO P w a L)) q (.lst (L'.map fun q => V.ref q.1)) = G5 at x2 gq
      obtain ⟨s3, e3', so3, nd3, mem3⟩ := srt_one nd so (fun X => by
        constructor
        · intro h
          obtain ⟨p, hp, rfl⟩ := List.mem_map.mp h
          obtain ⟨q, hq, e1, _⟩ := zt p (h1 p (pe.mem_iff.mp hp))
          rw [e1]
          exact List.mem_map.mpr ⟨q, hq, rfl⟩
        · intro h
          rw [← zs] at h
          obtain ⟨p, hp, rfl⟩ := List.mem_map.mp h
          have := h2 p hp
          obtain ⟨p2, hp2, e⟩ := List.mem_map.mp this
          exact List.mem_map.mpr ⟨p2, pe.mem_iff.mpr hp2, e⟩) pn
      have pt3 : PAt G5 (L'.map Prod.fst) s3 := by
        refine ⟨by have := congrArg List.length e3'; rw [List.length_map, List.length_map] at this; rw [List.length_map, this], fun j b p e1 e2 => ?_⟩
        rw [List.getElem?_map] at e1
        cases ej : L'[j]? with
        | none => rw [ej] at e1; cases e1
        | some p2 =>
          rw [ej] at e1
          cases e1
          obtain ⟨q3, _, f1, f2⟩ := zt p2 (h1 p2 (pe.mem_iff.mp (List.mem_of_getElem? ej)))
          have h5 := congrArg (fun l => l[j]?) e3'
          simp only [List.getElem?_map, ej, e2, Option.map_some] at h5
          have h6 := Option.some.inj h5
          rw [← f1, h6] at f2
          exact x2 _ _ f2
      have gSB5 := x2 _ _ gSB
      have pt5 : PAt G5 as ss := ⟨pt4.1, fun j b p e1 e2 => x2 _ _ (pt4.2 j b p e1 e2)⟩
      refine ⟨.list (ss.map tD), .list (s3.map tD), .lst (SqL.of gSB5) pt5.dp, .lst (SqL.of gq) (by have := pt3.dp (K := K); rwa [List.map_map] at this), tDs_shaped _, tDs_shaped _, _, rfl, ?_⟩
      rw [tDs_eqv]
      have of3i : ∀ {a b : List T3}, (a.map fun p => ((wStep, of3 p) : List Nat × List Int)) = (b.map fun p => ((wStep, of3 p) : List Nat × List Int)) → a = b := fun {a b} h => by
        have h2 := congrArg (List.map Prod.snd) h
        rw [List.map_map, List.map_map] at h2
        exact of3s_inj h2
      by_cases ces : ss = s3
      case neg =>
        refine (if_pos (by rw [decide_eq_false ces]; rfl)).mpr (k2 (fun l' f' Xs ss' g => ?_) _)
        have h1 := (lfz g).2.2
        have h2 := gRows g
        have h3 : R.drop (m + 1) = ss'.map fun p => (wStep, of3 p) := by
          rw [h2]
          unfold rowsP
          rw [List.drop_succ_cons, List.drop_left' (by rw [List.length_map]; omega)]
        rw [ed] at h3
        have h4 := of3i h3
        have hu := (ok_iff g.ok).hu
        rw [← h4] at hu
        refine ces (sorted_one (so3.imp fun {a b} h => ?_) hu ((List.perm_ext_iff_of_nodup nd3 ?_).mpr mem3)).symm
        · cases e : lex3 b a with
          | false => rfl
          | true =>
            have z1 := lex3_iff.mp h
            have z2 := lex3_iff.mp e
            unfold Lt3 at z1 z2
            omega
        · refine hu.imp fun {a b} h z => ?_
          rw [z] at h
          have z1 := lex3_iff.mp h
          unfold Lt3 at z1
          omega
      refine (if_neg (by rw [decide_eq_true ces]; exact Bool.false_ne_true)).mpr ?_
      rw [← ces] at so3
      have gSA5 : G5 SA = some (.lst (nas.map V.ref)) := x2 _ _ (u5 _ _ gSA)
      obtain ⟨Xs, hXs⟩ : ∃ Xs, Xs = (Pr.take m).map Prod.snd := ⟨_, rfl⟩
      have lPr : m ≤ Pr.length := by rw [eR, List.length_cons] at mR; omega
      have lXs : Xs.length = m := by rw [hXs, List.length_map, List.length_take]; omega
      have rPr : ∀ j, R[1 + j]? = Pr[j]? := fun j => by rw [eR, Nat.add_comm, List.getElem?_cons_succ]
      have xok : ∀ j Q1, j < m → Pr[j]? = some Q1 → Q1.1 = wState ∧ Q1.2.Pairwise (· < ·) ∧ ∀ x ∈ Q1.2, x < f := fun j Q1 hj e => okr j Q1 hj (by rw [rPr]; exact e)
      have eTk : Pr.take m = Xs.map fun X => (wState, X) := by
        rw [hXs, List.map_map]
        refine (List.map_id _).symm.trans (List.map_congr_left fun Q1 h => ?_)
        obtain ⟨j, hj, e⟩ := List.getElem_of_mem h
        rw [List.length_take] at hj
        rw [List.getElem_take] at e
        exact Prod.ext (xok j Q1 (by omega) (by rw [← e]; exact List.getElem?_eq_getElem (by omega))).1 rfl
      have eDr : Pr.drop m = ss.map fun p => (wStep, of3 p) := by rw [← ed, eR, List.drop_succ_cons]
      have eAll : R = rowsP l f Xs ss := by
        unfold rowsP
        rw [← eTk, ← eDr, List.take_append_drop, lXs, eR]
        congr 1
        exact Prod.ext cw e3
      have okw : okWorld l f Xs ss = true := ok_of (by omega) (by omega) (by omega) (by omega) (fun X hX => by
        rw [hXs] at hX
        obtain ⟨Q1, h, rfl⟩ := List.mem_map.mp hX
        obtain ⟨j, hj, e⟩ := List.getElem_of_mem h
        rw [List.length_take] at hj
        rw [List.getElem_take] at e
        have h1 := xok j Q1 (by omega) (by rw [← e]; exact List.getElem?_eq_getElem (by omega))
        have h2 := nnR Q1 (by rw [eR]; exact List.mem_cons_of_mem _ (List.mem_of_mem_take h))
        exact ⟨h1.2.1, fun x hx => ⟨h2 x hx, h1.2.2 x hx⟩⟩) so3 fun p hp => by
        have h1 := bd p hp
        have h2 := pn p hp
        have a1 := (h2 p.1 (by simp [of3])).1
        have a2 := (h2 p.2.1 (by simp [of3])).1
        have a3 := (h2 p.2.2 (by simp [of3])).1
        rw [lXs]
        omega
      have good := back eAll okw
      refine ⟨.int l, rfl, .int f, rfl, .ref SA, rfl, SA, _, rfl, .inl ⟨SqL.of gSA5, fun ta hta => ?_⟩⟩
      have y1 := Same.new (o := .tup (nas.map V.ref)) hta
      refine ⟨.ref SB, rfl, SB, _, rfl, .inl ⟨SqL.of (y1 _ _ gSB5), fun tb htb => ?_⟩⟩
      have y2 := y1.trans (Same.new (o := .tup (as.map V.ref)) htb)
      refine ⟨by show 4 ≤ sizeLine; decide, fun r hr' => ?_⟩
      have y3' := y2.trans (Same.new (o := .tup [.int l, .int f, .ref ta, .ref tb]) hr')
      have GG : Same G G5 := u3.trans (u5.trans x2)
      refine k1 l f Xs ss r _ good (sG.trans (GG.trans y3')) ⟨ta, tb, nas, as, upd_same, ?_, ⟨by rw [ln1, lXs], fun j b X e1 e2 => ?_⟩, ?_, ⟨pt5.1, fun j b p e1 e2 => y3' _ _ (pt5.2 j b p e1 e2)⟩⟩
      · exact Same.new hr' _ _ (Same.new htb _ _ upd_same)
      · rw [hXs, List.getElem?_map] at e2
        cases e5 : (Pr.take m)[j]? with
        | none => rw [e5] at e2; cases e2
        | some Q1 =>
          rw [e5] at e2
          cases e2
          have jl := (List.getElem?_eq_some_iff.mp e5).1
          rw [List.length_take] at jl
          rw [List.getElem?_take, if_pos (by omega)] at e5
          have h1 := ln2 j b Q1 e1 (by rw [rPr]; exact e5)
          exact y3' _ _ (x2 _ _ (u5 _ _ (kp _ _ (ne_of h1 gSA1 (by intro z; cases z)) h1)))
      · exact Same.new hr' _ _ upd_same
end
end Fw

set_option maxRecDepth 100000
set_option maxHeartbeats 4000000
namespace Fw
open PySem
open TL (tl tl_append len_tl ext_tl joinL tl_join join_eq tl_num)
/-- two texts put together: the last row of the one and the first of the other are one -/
theorem cutc_app (c : Nat) (B : List Nat) : ∀ A : List Nat, ∃ I x y J, cutc c A = I ++ [x] ∧ cutc c B = y :: J ∧ cutc c (A ++ B) = I ++ (x ++ y) :: J
  | [] => by
    cases h : cutc c B with
    | nil => exact absurd h (cutc_ne c B)
    | cons y J => exact ⟨[], [], y, J, rfl, rfl, by simpa using h⟩
  | d :: A => by
    obtain ⟨I, x, y, J, h1, h2, h3⟩ := cutc_app c B A
    by_cases e : d = c
    · refine ⟨[] :: I, x, y, J, ?_, h2, ?_⟩
      · rw [show cutc c (d :: A) = [] :: cutc c A from if_pos e, h1]; rfl
      · rw [List.cons_append, show cutc c (d :: (A ++ B)) = [] :: cutc c (A ++ B) from if_pos e, h3]; rfl
    · have k : ∀ X : List Nat, ∀ p ps, cutc c X = p :: ps → cutc c (d :: X) = (d :: p) :: ps := fun X p ps hX => by
        rw [show cutc c (d :: X) = _ from if_neg e, hX]
      cases I with
      | nil =>
        refine ⟨[], d :: x, y, J, k A x [] (by rw [h1]; rfl), h2, ?_⟩
        rw [List.cons_append, k (A ++ B) (x ++ y) J (by rw [h3]; rfl)]
        rfl
      | cons i I =>
        refine ⟨(d :: i) :: I, x, y, J, k A i (I ++ [x]) (by rw [h1]; rfl), h2, ?_⟩
        rw [List.cons_append, k (A ++ B) i (I ++ (x ++ y) :: J) (by rw [h3]; rfl)]
        rfl
/-- rows of at most M signs, at most N rows, signs that are plain -/
structure Tx (M N : Nat) (T : List Nat) : Prop where
  ln : ∀ L ∈ cutc 10 T, L.length ≤ M
  ct : (cutc 10 T).length ≤ N
  sg : ∀ c ∈ T, c < 128
theorem Tx.mono {M N M' N' : Nat} {T : List Nat} (h : Tx M N T) (hM : M ≤ M') (hN : N ≤ N') : Tx M' N' T := ⟨fun L hL => Nat.le_trans (h.ln L hL) hM, Nat.le_trans h.ct hN, h.sg⟩
theorem Tx.app {M N M' N' : Nat} {A B : List Nat} (h : Tx M N A) (g : Tx M' N' B) : Tx (M + M') (N + N') (A ++ B) := by
  obtain ⟨I, x, y, J, h1, h2, h3⟩ := cutc_app 10 B A
  have a := h.ln
  have b := g.ln
  rw [h1] at a
  rw [h2] at b
  have hx := a x (by simp)
  have hy := b y (by simp)
  refine ⟨fun L hL => ?_, ?_, fun c hc => (List.mem_append.mp hc).elim (h.sg c) (g.sg c)⟩
  · rw [h3] at hL
    rcases List.mem_append.mp hL with z | z
    · have := a L (List.mem_append_left _ z); omega
    · rcases List.mem_cons.mp z with rfl | z
      · rw [List.length_append]; omega
      · have := b L (List.mem_cons_of_mem _ z); omega
  · have p := h.ct
    have q := g.ct
    rw [h1, List.length_append, List.length_singleton] at p
    rw [h2, List.length_cons] at q
    rw [h3, List.length_append, List.length_cons]
    omega
theorem Tx.parts {M N : Nat} {A B : List Nat} (h : Tx M N (A ++ B)) : Tx M N A ∧ Tx M N B ∧ (cutc 10 A).length + (cutc 10 B).length ≤ N + 1 := by
  obtain ⟨I, x, y, J, h1, h2, h3⟩ := cutc_app 10 B A
  have a := h.ln
  have c := h.ct
  rw [h3] at a c
  rw [List.length_append, List.length_cons] at c
  have hxy := a (x ++ y) (by simp)
  rw [List.length_append] at hxy
  refine ⟨⟨fun L hL => ?_, by rw [h1, List.length_append, List.length_singleton]; omega, fun c hc => h.sg c (List.mem_append_left _ hc)⟩, ⟨fun L hL => ?_, by rw [h2, List.length_cons]; omega, fun c hc => h.sg c (List.mem_append_right _ hc)⟩, by rw [h1, h2, List.length_append, List.length_singleton, List.length_cons]; omega⟩
  · rw [h1] at hL
    rcases List.mem_append.mp hL with z | z
    · exact a L (List.mem_append_left _ z)
    · rw [List.mem_singleton.mp z]; omega
  · rw [h2] at hL
    rcases List.mem_cons.mp hL with rfl | z
    · omega
    · exact a L (List.mem_append_right _ (List.mem_cons_of_mem _ z))
theorem cutc_drop {T : List Nat} {a b : Nat} (h : a ≤ b) : (cutc 10 (T.drop b)).length ≤ (cutc 10 (T.drop a)).length := by
  obtain ⟨I, x, y, J, h1, h2, h3⟩ := cutc_app 10 ((T.drop a).drop (b - a)) ((T.drop a).take (b - a))
  rw [List.take_append_drop] at h3
  rw [List.drop_drop, show a + (b - a) = b by omega] at h2
  rw [h2, h3, List.length_append, List.length_cons, List.length_cons]
  omega
/-- some signs in the place of some -/
theorem Tx.put {M N : Nat} {T X : List Nat} {a b : Nat} (hab : a ≤ b) (h : Tx M N T) (hX : X.length ≤ 1) (hs : ∀ c ∈ X, c < 128) : Tx (2 * M + 1) (N + 3) (T.take a ++ X ++ T.drop b) := by
  obtain ⟨h1, _, h3⟩ := Tx.parts (A := T.take a) (B := T.drop a) (by rw [List.take_append_drop]; exact h)
  have h2 := (Tx.parts (A := T.take b) (B := T.drop b) (by rw [List.take_append_drop]; exact h)).2.1
  have hd := cutc_drop (T := T) hab
  have hx : Tx 1 2 X := by
    refine ⟨fun L hL => ?_, ?_, hs⟩
    · exact Nat.le_trans (cutc_part hL) hX
    · exact Nat.le_trans (cutc_len 10 X) (by omega)
  have h1' : Tx M (cutc 10 (T.take a)).length (T.take a) := ⟨h1.ln, Nat.le_refl _, h1.sg⟩
  have h2' : Tx M (cutc 10 (T.drop b)).length (T.drop b) := ⟨h2.ln, Nat.le_refl _, h2.sg⟩
  exact ((h1'.app hx).app h2').mono (by omega) (by omega)
theorem put_len {T X : List Nat} {a b : Nat} (hab : a ≤ b) : (T.take a ++ X ++ T.drop b).length ≤ T.length + X.length := by
  simp only [List.length_append, List.length_take, List.length_drop]
  omega
/-- some of its rows -/
theorem Tx.rows {M N : Nat} {T : List Nat} {Ls : List (List Nat)} (h : Tx M N T) (hs : ∀ L ∈ Ls, L ∈ cutc 10 T) (hN : Ls.length ≤ N + 1) : Tx M (N + 1) (joinL [10] Ls) := by
  have free : ∀ L ∈ Ls, 10 ∉ L := fun L hL m => cutc_free 10 T L (hs L hL) m
  by_cases e : Ls = []
  · subst e
    exact ⟨fun L hL => by rw [show cutc 10 (joinL [10] []) = [[]] from rfl, List.mem_singleton] at hL; rw [hL]; exact Nat.zero_le _, by show 1 ≤ _; omega, fun c hc => by cases hc⟩
  · have cj := cutc_join e free
    refine ⟨fun L hL => ?_, by rw [cj]; exact hN, fun c hc => ?_⟩
    · rw [cj] at hL
      exact h.ln L (hs L hL)
    · rcases mem_joinL hc with z | ⟨L, hL, z⟩
      · rw [List.mem_singleton.mp z]; decide
      · exact h.sg c (cutc_mem (hs L hL) z)
theorem joinL_le : ∀ Ls : List (List Nat), (joinL [10] Ls).length + 1 ≤ (Ls.map fun L => L.length + 1).sum + 1
  | [] => Nat.le_refl _
  | [L] => by simp [joinL]
  | L :: M :: Ls => by
    have ih := joinL_le (M :: Ls)
    show (L ++ ([10] ++ joinL [10] (M :: Ls))).length + 1 ≤ _
    rw [List.length_append, List.length_append, List.length_singleton, List.map_cons, List.sum_cons]
    omega
/-- what a world's text is at most -/
theorem fmt_tx {l f : Int} {Xs : List (List Int)} {ss : List T3} (sm : ∀ L ∈ fmtR l f Xs ss, L.length ≤ 12 ∧ ∀ c ∈ L, c < 128) (hN : (fmtR l f Xs ss).length ≤ 37) : Tx 12 38 (fmtL l f Xs ss) := by
  have c := cut_fmt l f Xs ss
  refine ⟨fun L hL => ?_, by rw [c, List.length_append, List.length_singleton]; omega, fun c' hc => ?_⟩
  · rw [c] at hL
    rcases List.mem_append.mp hL with z | z
    · exact (sm L z).1
    · rw [List.mem_singleton.mp z]; exact Nat.zero_le _
  · unfold fmtL rowsL at hc
    obtain ⟨R, hR, hc⟩ := List.mem_flatten.mp hc
    obtain ⟨L, hL, rfl⟩ := List.mem_map.mp hR
    rcases List.mem_append.mp hc with z | z
    · exact (sm L hL).2 c' z
    · rw [List.mem_singleton.mp z]; decide
end Fw

set_option maxRecDepth 100000
set_option maxHeartbeats 16000000
namespace Fw
open PySem PySem.Spec PyProof.Rows L2 GxR
open TL (tl tl_append len_tl ext_tl joinL tl_join join_eq tl_num)
theorem sZ_app (a b : List Nat) : sZ a ++ sZ b = sZ (a ++ b) := ext_tl (by rw [tl_append, tl_sZ, tl_sZ, tl_sZ])
theorem rowsL_app (A B : List (List Nat)) : rowsL (A ++ B) = rowsL A ++ rowsL B := by unfold rowsL; rw [List.map_append, List.flatten_append]
theorem rowsL_one (L : List Nat) : rowsL [L] = L ++ [10] := by simp [rowsL]
theorem sorted_back {H : Hp} {as0 : List Addr} {ts : List T3} {kk : V → T3} (pat : PAt H as0 ts) (hkk : ∀ (a : Addr) (p : T3) (i : Nat), as0[i]? = some a → ts[i]? = some p → kk (.ref a) = p) {ys : List V}
    (srt : SrtO.Srtd (fun x y => lex3 (kk x) (kk y)) ys) (stb : SrtO.Stb (fun x y => lex3 (kk x) (kk y)) ys (as0.map V.ref)) : ∃ (as : List Addr) (ss : List T3), ys = as.map V.ref ∧ (ss.Pairwise fun x y => lex3 y x = false) ∧ ss.Perm ts ∧ PAt H as ss := by
  obtain ⟨as, hys⟩ : ∃ as : List Addr, ys = as.map V.ref := by
    have mem : ∀ y ∈ ys, ∃ a, y = V.ref a := fun y hy => by
      obtain ⟨a, _, e⟩ := List.mem_map.mp (stb.perm.mem_iff.mp hy)
      exact ⟨a, e.symm⟩
    clear srt stb
    induction ys with
    | nil => exact ⟨[], rfl⟩
    | cons y ys ih =>
      obtain ⟨a, rfl⟩ := mem y List.mem_cons_self
      obtain ⟨as, e⟩ := ih fun z hz => mem z (List.mem_cons_of_mem _ hz)
      exact ⟨a :: as, by rw [e]; rfl⟩
  subst hys
  refine ⟨as, as.map fun a => kk (.ref a), rfl, List.pairwise_map.mpr (List.pairwise_map.mp srt), ?_, by rw [List.length_map], fun i a r e1 e2 => ?_⟩
  · have e1 := stb.perm.map kk
    rw [List.map_map, List.map_map] at e1
    have e2 : as0.map (kk ∘ V.ref) = ts := by
      refine List.ext_getElem? fun i => ?_
      rw [List.getElem?_map]
      cases e3 : as0[i]? with
      | none =>
        have := List.getElem?_eq_none_iff.mp e3
        rw [pat.1] at this
        rw [List.getElem?_eq_none_iff.mpr this]
        rfl
      | some a =>
        have il : i < ts.length := by rw [← pat.1]; exact (List.getElem?_eq_some_iff.mp e3).1
        have e4 := List.getElem?_eq_getElem il
        rw [e4]
        exact congrArg some (hkk a _ i e3 e4)
    rw [e2] at e1
    exact e1
  · rw [List.getElem?_map, e1] at e2
    have e3 := (Option.some.inj e2).symm
    subst e3
    have hm : V.ref a ∈ as0.map V.ref := stb.perm.mem_iff.mp (List.mem_map.mpr ⟨a, List.mem_of_getElem? e1, rfl⟩)
    obtain ⟨j, hj, e4⟩ := List.getElem_of_mem hm
    obtain ⟨a', r', e5, ha', hr', at_⟩ := pat.nth (by rw [List.getElem?_eq_getElem hj, e4])
    cases e5
    show H a = some (.tup [.int (kk (.ref a)).1, .int (kk (.ref a)).2.1, .int (kk (.ref a)).2.2])
    rw [hkk a r' j ha' hr']
    exact at_
theorem trips_say {H : Hp} {as0 : List Addr} {ts : List T3} {kk : V → T3} (pat : PAt H as0 ts) (hkk : ∀ (a : Addr) (p : T3) (i : Nat), as0[i]? = some a → ts[i]? = some p → kk (.ref a) = p) :
    ∀ x ∈ as0.map V.ref, ∃ t, x = V.ref t ∧ H t = some (.tup [.int (kk x).1, .int (kk x).2.1, .int (kk x).2.2]) := fun x hx => by
  obtain ⟨i, hi, e⟩ := List.getElem_of_mem hx
  obtain ⟨a, r, rfl, ha, hr', at_⟩ := pat.nth (by rw [List.getElem?_eq_getElem hi, e])
  refine ⟨a, rfl, ?_⟩
  rw [hkk a r i ha hr']
  exact at_
def dRow (X : List Int) : PyData := .tuple (X.map PyData.int)
def dRows (Xs : List (List Int)) : PyData := .tuple (Xs.map dRow)
def dTrip (p : T3) : PyData := .tuple [.int p.1, .int p.2.1, .int p.2.2]
def dTrips (ss : List T3) : PyData := .tuple (ss.map dTrip)
theorem dpAll_of {K : PySem.W.Frag} {H : Hp} {α : Type} (d : α → PyData) : ∀ {as : List Addr} {Xs : List α}, as.length = Xs.length → (∀ (i : Nat) (a : Addr) (X : α), as[i]? = some a → Xs[i]? = some X → Dp K H (.ref a) (d X)) → DpAll K H (as.map V.ref) (Xs.map d)
  | [], [], _, _ => .nil
  | a :: as, X :: Xs, e, h => .cons (h 0 a X rfl rfl) (dpAll_of d (by simpa using e) fun i b Y e1 e2 => h (i + 1) b Y (by simpa using e1) (by simpa using e2))
theorem dp_rows {K : PySem.W.Frag} {H : Hp} {ta : Addr} {as : List Addr} {Xs : List (List Int)} (h : SqT K H ta (as.map V.ref)) (r : RAt K H as Xs) : Dp K H (.ref ta) (dRows Xs) :=
  .tup h (dpAll_of dRow r.1 fun i a X e1 e2 => .tup (r.2 i a X e1 e2) (dp_ints X))
theorem dp_trips {K : PySem.W.Frag} {H : Hp} {ta : Addr} {as : List Addr} {ss : List T3} (h : SqT K H ta (as.map V.ref)) (r : PAt H as ss) : Dp K H (.ref ta) (dTrips ss) :=
  .tup h (dpAll_of dTrip r.1 fun i a X e1 e2 => .tup (SqT.of (r.2 i a X e1 e2)) (.cons (.int _) (.cons (.int _) (.cons (.int _) .nil))))
theorem dRow_lay (X : List Int) : (dRow X).canLay0 = true := by simp [dRow, PyData.canLay0, ints_lay]
theorem dRow_depth (X : List Int) : (dRow X).depth = 1 := by simp [dRow, PyData.depth, ints_depth]
theorem layAll_of {α : Type} {d : α → PyData} (h : ∀ x, (d x).canLay0 = true) : ∀ l : List α, PyData.canLayAll0 (l.map d) = true
  | [] => rfl
  | x :: l => by simp [PyData.canLayAll0, h x, layAll_of h l]
theorem depthAll_of {α : Type} {d : α → PyData} {n : Nat} (h : ∀ x, (d x).depth ≤ n) : ∀ l : List α, PyData.depthAll (l.map d) ≤ n
  | [] => Nat.zero_le _
  | x :: l => by
    have := h x
    have := depthAll_of h l
    simp only [List.map_cons, PyData.depthAll]
    omega
theorem dRows_shaped (Xs : List (List Int)) : SeqAt.shaped (dRows Xs) = true := by
  have h := depthAll_of (d := dRow) (n := 1) (fun X => Nat.le_of_eq (dRow_depth X)) Xs
  simp only [dRows, SeqAt.shaped, PyData.canLay0, PyData.depth, layAll_of dRow_lay Xs, Bool.true_and, Bool.and_eq_true, decide_eq_true_eq]
  omega
theorem dTrip_lay (p : T3) : (dTrip p).canLay0 = true := by simp [dTrip, PyData.canLay0, PyData.canLayAll0]
theorem dTrip_depth (p : T3) : (dTrip p).depth = 1 := by simp [dTrip, PyData.depth, PyData.depthAll]
theorem dTrips_shaped (ss : List T3) : SeqAt.shaped (dTrips ss) = true := by
  have h := depthAll_of (d := dTrip) (n := 1) (fun X => Nat.le_of_eq (dTrip_depth X)) ss
  simp only [dTrips, SeqAt.shaped, PyData.canLay0, PyData.depth, layAll_of dTrip_lay ss, Bool.true_and, Bool.and_eq_true, decide_eq_true_eq]
  omega
theorem dRows_same (Xs : List (List Int)) : PyData.eqv (dRows Xs) (dRows Xs) = true := SeqAt.eqv_refl _ (by simp [dRows, PyData.canLay0, layAll_of dRow_lay])
theorem dTrips_same (ss : List T3) : PyData.eqv (dTrips ss) (dTrips ss) = true := SeqAt.eqv_refl _ (by simp [dTrips, PyData.canLay0, layAll_of dTrip_lay])
theorem GoodT.uniq {T : List Nat} {l f l2 f2 : Int} {Xs Xs2 : List (List Int)} {ss ss2 : List T3} (g : GoodT T l f Xs ss) (g2 : GoodT T l2 f2 Xs2 ss2) : l = l2 ∧ f = f2 ∧ Xs = Xs2 ∧ ss = ss2 := by
  have e := g.rows.symm.trans g2.rows
  unfold rowsP at e
  obtain ⟨e1, e2⟩ := List.cons.inj e
  have e3 := congrArg Prod.snd e1
  simp only [List.cons.injEq, and_true] at e3
  obtain ⟨rfl, rfl, e4⟩ := e3
  obtain ⟨e5, e6⟩ := List.append_inj e2 (by rw [List.length_map, List.length_map]; omega)
  refine ⟨rfl, rfl, ?_, of3s_inj ?_⟩
  · have := congrArg (List.map Prod.snd) e5
    rw [List.map_map, List.map_map] at this
    exact (List.map_id Xs).symm.trans (this.trans (List.map_id Xs2))
  · have := congrArg (List.map Prod.snd) e6
    rw [List.map_map, List.map_map] at this
    exact this
def dFour (l f : Int) (Xs : List (List Int)) (ss : List T3) : PyData := .tuple [.int l, .int f, dRows Xs, dTrips ss]
theorem dFour_shaped (l f : Int) (Xs : List (List Int)) (ss : List T3) : SeqAt.shaped (dFour l f Xs ss) = true := by
  have h1 := SeqAt.depth_of_shaped (dRows_shaped Xs)
  have h2 := SeqAt.depth_of_shaped (dTrips_shaped ss)
  have c1 := SeqAt.canLay_of_shaped (dRows_shaped Xs)
  have c2 := SeqAt.canLay_of_shaped (dTrips_shaped ss)
  have d1 : (dRows Xs).depth ≤ 2 := by
    have := depthAll_of (d := dRow) (n := 1) (fun X => by rw [dRow_depth]; exact Nat.le_refl _) Xs
    simp only [dRows, PyData.depth]
    omega
  have d2 : (dTrips ss).depth ≤ 2 := by
    have := depthAll_of (d := dTrip) (n := 1) (fun X => by simp [dTrip, PyData.depth, PyData.depthAll]) ss
    simp only [dTrips, PyData.depth]
    omega
  simp only [SeqAt.shaped, dFour, PyData.canLay0, PyData.canLayAll0, c1, c2, PyData.depth, PyData.depthAll, Bool.and_true, Bool.true_and, decide_eq_true_eq]
  omega
theorem dFour_same (l f : Int) (Xs : List (List Int)) (ss : List T3) : PyData.eqv (dFour l f Xs ss) (dFour l f Xs ss) = true := SeqAt.eqv_refl _ (SeqAt.canLay_of_shaped (dFour_shaped l f Xs ss))
theorem FourAt.dp {K : PySem.W.Frag} {H : Hp} {r : Addr} {l f : Int} {Xs : List (List Int)} {ss : List T3} (h : FourAt K H r l f Xs ss) : Dp K H (.ref r) (dFour l f Xs ss) := by
  obtain ⟨ta, tb, ras, as, h1, h2, h3, h4, h5⟩ := h
  exact .tup (SqT.of h1) (.cons (.int _) (.cons (.int _) (.cons (dp_rows h2 h3) (.cons (dp_trips h4 h5) .nil))))
theorem FourAt.same {K : PySem.W.Frag} {H H' : Hp} {r : Addr} {l f : Int} {Xs : List (List Int)} {ss : List T3} (s : Same H H') (h : FourAt K H r l f Xs ss) : FourAt K H' r l f Xs ss := by
  obtain ⟨ta, tb, ras, as, h1, h2, h3, h4, h5⟩ := h
  exact ⟨ta, tb, ras, as, s _ _ h1, SqT.same s h2, h3.same s, SqT.same s h4, h5.same s⟩
theorem FourT.at {K : PySem.W.Frag} {H : Hp} {r : Addr} {l f : Int} {Xs : List (List Int)} {ss : List T3} (h : FourT H r l f Xs ss) : FourAt K H r l f Xs ss := by
  obtain ⟨ta, tb, ras, as, h1, h2, h3, h4, h5⟩ := h
  exact ⟨ta, tb, ras, as, h1, SqT.of h2, ⟨h3.1, fun i a X e1 e2 => SqT.of (h3.2 i a X e1 e2)⟩, SqT.of h4, h5⟩
theorem asc_len : ∀ {Y : List Int} {lo hi : Int}, lo ≤ hi → Y.Pairwise (· < ·) → (∀ x ∈ Y, lo ≤ x ∧ x < hi) → (Y.length : Int) ≤ hi - lo
  | [], _, _, h, _, _ => by simp; omega
  | x :: Y, lo, hi, h, p, b => by
    have hx := b x List.mem_cons_self
    have := asc_len (Y := Y) (lo := x + 1) (hi := hi) (by omega) p.of_cons fun y hy => ⟨by have := (List.pairwise_cons.mp p).1 y hy; omega, (b y (List.mem_cons_of_mem _ hy)).2⟩
    rw [List.length_cons]
    omega
theorem digit_line {wd : List Nat} {ns : List Int} (h : ∀ n ∈ ns, 0 ≤ n ∧ n < 10) : (lineL wd ns).length ≤ wd.length + 2 * ns.length := by
  unfold lineL
  rw [joinL_len]
  have : ((ns.map numZ).map fun q => ([32] : List Nat).length + q.length).sum ≤ 2 * ns.length := by
    induction ns with
    | nil => exact Nat.le_refl _
    | cons n ns ih =>
      have b := h n List.mem_cons_self
      have l3 : (numZ n).length ≤ 1 := TL.numL_len (by decide) (by omega)
      have := ih fun m hm => h m (List.mem_cons_of_mem _ hm)
      simp only [List.map_cons, List.sum_cons, List.length_cons, List.length_nil] at this ⊢
      omega
  omega
theorem numZ_asc {n : Int} {c : Nat} (h : c ∈ numZ n) : c < 128 := by
  have := TL.numL_digits (n := n.toNat) c h
  omega
theorem line_asc {wd : List Nat} {ns : List Int} (h : ∀ c ∈ wd, c < 128) : ∀ c ∈ lineL wd ns, c < 128 := fun c hc => by
  rcases mem_joinL hc with z | ⟨L, hL, z⟩
  · rw [List.mem_singleton.mp z]; decide
  · rcases List.mem_cons.mp hL with rfl | hL
    · exact h c z
    · obtain ⟨n, _, rfl⟩ := List.mem_map.mp hL
      exact numZ_asc z
theorem rows_len : ∀ {Ls : List (List Nat)}, (∀ L ∈ Ls, L.length ≤ 12) → (rowsL Ls).length ≤ 13 * Ls.length
  | [], _ => Nat.le_refl _
  | L :: Ls, h => by
    have := rows_len (Ls := Ls) fun M hM => h M (List.mem_cons_of_mem _ hM)
    have hL := h L List.mem_cons_self
    rw [show L :: Ls = [L] ++ Ls from rfl, rowsL_app, rowsL_one, List.length_append, List.length_append]
    simp only [List.length_singleton, List.length_cons, List.length_append]
    omega
theorem wd_rows {W : Wd} (up : W.Up 2) (n4 : (W.n : Int) ≤ 4) : ∀ L ∈ fmtR 2 2 W.facts W.steps, L.length ≤ 12 ∧ ∀ c ∈ L, c < 128 := by
  have e : W.n = W.facts.length := rfl
  intro L hL
  unfold fmtR at hL
  rcases List.mem_cons.mp hL with rfl | hL
  · refine ⟨Nat.le_trans (digit_line fun n hn => ?_) (show 5 + 2 * 3 ≤ 12 by decide), line_asc (by decide)⟩
    have : n = 2 ∨ n = 2 ∨ n = (W.facts.length : Int) := by simpa using hn
    omega
  · rcases List.mem_append.mp hL with hL | hL
    · obtain ⟨X, hX, rfl⟩ := List.mem_map.mp hL
      have u := up.rows X hX
      have l2 := asc_len (by decide) u.1 u.2
      have := digit_line (wd := wState) (ns := X) fun n hn => by have := u.2 n hn; omega
      have e5 : wState.length = 5 := rfl
      exact ⟨by omega, line_asc (by decide)⟩
    · obtain ⟨p, hp, rfl⟩ := List.mem_map.mp hL
      have u := up.in_ p hp
      unfold StUp at u
      refine ⟨Nat.le_trans (digit_line fun n hn => ?_) (show 4 + 2 * 3 ≤ 12 by decide), line_asc (by decide)⟩
      have : n = p.1 ∨ n = p.2.1 ∨ n = p.2.2 := by simpa using hn
      omega
theorem wd_steps {W : Wd} (up : W.Up 2) (n4 : (W.n : Int) ≤ 4) : W.steps.length ≤ 32 := by
  have h := asc_len (Y := W.steps.map fun p => p.1 * 8 + p.2.1 * 4 + p.2.2) (lo := 0) (hi := 32) (by decide) (List.pairwise_map.mpr (List.Pairwise.imp_of_mem (fun {a b} ha hb h => ?_) up.steps)) fun x hx => ?_
  · rw [List.length_map] at h
    omega
  · have u := up.in_ a ha
    have v := up.in_ b hb
    unfold StUp at u v
    have z := lex3_iff.mp h
    unfold Lt3 at z
    show _ < _
    omega
  · obtain ⟨p, hp, rfl⟩ := List.mem_map.mp hx
    have u := up.in_ p hp
    unfold StUp at u
    omega
theorem cutS_to {z : Str} {k : Nat} : tl (cutS z none (some (k : Int))) = (tl z).take k := by
  show ((z.cps.toList.drop (HT.sIx z.length 0 none)).take _).toArray.toList = _
  rw [List.toList_toArray, HT.sIx_none, HT.sIx_nat, List.drop_zero, Nat.sub_zero]
  show (tl z).take (min k z.length) = _
  rw [len_tl]
  rcases Nat.le_total k (tl z).length with h | h
  · rw [Nat.min_eq_left h]
  · rw [Nat.min_eq_right h, List.take_length, List.take_of_length_le h]
theorem cutS_from {z : Str} {k : Nat} : tl (cutS z (some (k : Int)) none) = (tl z).drop k := by
  show ((z.cps.toList.drop (HT.sIx z.length 0 (some (k : Int)))).take _).toArray.toList = _
  rw [List.toList_toArray, HT.sIx_none, HT.sIx_nat]
  show ((tl z).drop (min k z.length)).take _ = _
  rw [len_tl]
  rcases Nat.le_total k (tl z).length with h | h
  · rw [Nat.min_eq_left h, List.take_of_length_le (by rw [List.length_drop]; exact Nat.le_refl _)]
  · rw [Nat.min_eq_right h, List.drop_length, List.drop_eq_nil_of_le h]
    simp
theorem cutS_from1 {z : Str} {k : Nat} : tl (cutS z (some ((k : Int) + 1)) none) = (tl z).drop (k + 1) := cutS_from (k := k + 1)
theorem cutV_to {xs : List V} {k : Nat} : cutV xs none (some (k : Int)) = xs.take k := by
  unfold cutV
  rw [HT.sIx_none, HT.sIx_nat, List.drop_zero, Nat.sub_zero]
  rcases Nat.le_total k xs.length with h | h
  · rw [Nat.min_eq_left h]
  · rw [Nat.min_eq_right h, List.take_length, List.take_of_length_le h]
theorem cutV_fr {xs : List V} {k : Nat} : cutV xs (some (k : Int)) none = xs.drop k := by
  unfold cutV
  rw [HT.sIx_nat, HT.sIx_none]
  rcases Nat.le_total k xs.length with h | h
  · rw [Nat.min_eq_left h, List.take_of_length_le (by rw [List.length_drop]; exact Nat.le_refl _)]
  · rw [Nat.min_eq_right h, List.drop_length, List.drop_eq_nil_of_le h]
    simp
theorem cutV_at {xs : List V} {k : Nat} : cutV xs (some (k : Int)) (some ((k + 1 : Nat) : Int)) = (xs.drop k).take 1 := by
  unfold cutV
  rw [HT.sIx_nat, HT.sIx_nat]
  rcases Nat.lt_or_ge k xs.length with h | h
  · rw [Nat.min_eq_left (Nat.le_of_lt h), Nat.min_eq_left (by omega), Nat.add_sub_cancel_left]
  · rw [Nat.min_eq_right h, Nat.min_eq_right (by omega), List.drop_length, List.drop_eq_nil_of_le h]
    simp
theorem joinL_eq {Ls : List (List Nat)} (h : Ls ≠ []) : (joinL [10] Ls).length + 1 = (Ls.map fun L => L.length + 1).sum := by
  cases Ls with
  | nil => exact absurd rfl h
  | cons p ps =>
    rw [joinL_len, List.map_cons, List.sum_cons]
    have : (ps.map fun q => ([10] : List Nat).length + q.length).sum = (ps.map fun L => L.length + 1).sum := by
      congr 1
      exact List.map_congr_left fun q _ => Nat.add_comm _ _
    omega
theorem sum_small {m : Nat} : ∀ {Ls : List (List Nat)}, (∀ L ∈ Ls, L.length ≤ m) → ((Ls.map sZ).map fun x => x.length).sum ≤ m * Ls.length
  | [], _ => Nat.zero_le _
  | L :: Ls, h => by
    have h1 := h L List.mem_cons_self
    have := sum_small (Ls := Ls) fun M hM => h M (List.mem_cons_of_mem _ hM)
    rw [List.map_cons, List.map_cons, List.sum_cons, sZ_len, List.length_cons, Nat.mul_succ]
    omega
theorem join_rows (Ls : List (List Nat)) : Txt.join "\n" (Ls.map sZ) = sZ (joinL [10] Ls) := by
  refine ext_tl ?_
  rw [join_eq, tl_join, tl_sZ, List.map_map, show tl ("\n" : Str) = [10] by decide +kernel]
  congr 1
  exact List.map_id Ls
/-- what a text may be, after some changes -/
def Tw (i : Nat) (s : Str) : Prop := ∃ M, Tx M (38 + 3 * i) (tl s) ∧ s.length ≤ 481 + 60 * i ∧ ((i = 0 ∧ M = 12) ∨ (i = 1 ∧ M = 25) ∨ (i = 2 ∧ M = 51))
theorem Tw.put {i : Nat} {s s' X : Str} {a b : Nat} (h : Tw i s) (i2 : i < 2) (hab : a ≤ b) (hX : X.length ≤ 1) (hs : ∀ c ∈ tl X, c < 128) (e : tl s' = (tl s).take a ++ tl X ++ (tl s).drop b) : Tw (i + 1) s' := by
  obtain ⟨M, t, l, d⟩ := h
  rw [len_tl] at hX
  refine ⟨2 * M + 1, by rw [e]; exact (t.put hab hX hs).mono (Nat.le_refl _) (by omega), ?_, by omega⟩
  rw [len_tl, e]
  rw [len_tl] at l
  have := put_len (T := tl s) (X := tl X) hab
  omega
theorem Tw.rows {i : Nat} {s : Str} {Ls : List (List Nat)} (h : Tw i s) (i2 : i < 2) (hs : ∀ L ∈ Ls, L ∈ cutc 10 (tl s)) (hN : Ls.length ≤ (cutc 10 (tl s)).length + 1) (hl : ∀ M, (∀ L ∈ cutc 10 (tl s), L.length ≤ M) → (Ls.map fun L => L.length + 1).sum ≤ s.length + 2 + M) : Tw (i + 1) (sZ (joinL [10] Ls)) := by
  obtain ⟨M, t, l, d⟩ := h
  have c := t.ct
  refine ⟨2 * M + 1, by rw [tl_sZ]; exact (t.rows hs (by omega)).mono (by omega) (by omega), ?_, by omega⟩
  have := joinL_le Ls
  have := hl M t.ln
  rw [sZ_len]
  omega
theorem sum_cut (s : Str) (k : Nat) : (((cutc 10 (tl s)).take k).map fun L => L.length + 1).sum + (((cutc 10 (tl s)).drop k).map fun L => L.length + 1).sum = s.length + 1 := by
  rw [← List.sum_append, ← List.map_append, List.take_append_drop, ← joinL_eq (cutc_ne 10 _), join_cutc, len_tl]
theorem Tw.out {i : Nat} {s : Str} {k : Nat} (h : Tw i s) (i2 : i < 2) : Tw (i + 1) (sZ (joinL [10] ((cutc 10 (tl s)).take k ++ (cutc 10 (tl s)).drop (k + 1)))) := by
  refine h.rows i2 (fun L hL => (List.mem_append.mp hL).elim List.mem_of_mem_take List.mem_of_mem_drop) ?_ fun M hM => ?_
  · rw [List.length_append, List.length_take, List.length_drop]; omega
  · have := sum_cut s k
    rw [List.map_append, List.sum_append]
    cases e : (cutc 10 (tl s)).drop k with
    | nil =>
      rw [e] at this
      rw [List.drop_eq_nil_of_le (by have := congrArg List.length e; rw [List.length_drop, List.length_nil] at this; omega)]
      simp only [List.map_nil, List.sum_nil] at this ⊢
      omega
    | cons x R =>
      have e2 : (cutc 10 (tl s)).drop (k + 1) = R := by rw [← List.drop_drop, e]; rfl
      rw [e, List.map_cons, List.sum_cons] at this
      rw [e2]
      omega
theorem Tw.dbl {i : Nat} {s : Str} {k : Nat} (h : Tw i s) (i2 : i < 2) : Tw (i + 1) (sZ (joinL [10] ((cutc 10 (tl s)).take k ++ ((cutc 10 (tl s)).drop k).take 1 ++ (cutc 10 (tl s)).drop k))) := by
  refine h.rows i2 (fun L hL => (List.mem_append.mp hL).elim (fun z => (List.mem_append.mp z).elim List.mem_of_mem_take fun z => List.mem_of_mem_drop (List.mem_of_mem_take z)) List.mem_of_mem_drop) ?_ fun M hM => ?_
  · rw [List.length_append, List.length_append, List.length_take, List.length_drop, List.length_take, List.length_drop]; omega
  · have := sum_cut s k
    rw [List.map_append, List.sum_append, List.map_append, List.sum_append]
    cases e : (cutc 10 (tl s)).drop k with
    | nil =>
      rw [e] at this
      simp only [List.map_nil, List.sum_nil, List.take_nil] at this ⊢
      omega
    | cons x R =>
      have hx := hM x (List.mem_of_mem_drop (i := k) (by rw [e]; exact List.mem_cons_self))
      rw [e] at this
      simp only [List.take_succ_cons, List.take_zero, List.map_cons, List.map_nil, List.sum_cons, List.sum_nil] at this ⊢
      omega
section
variable {P : Program} {w : World} {K : PySem.W.Frag} {mg : Str → Option Value} {base : Heap} {C J B NC WC cA tA : Addr} {t1 t2 t3 t4 : Tok}
def spLaw (K : PySem.W.Frag) (tA : Addr) : Sp := fun vs H Q _ => ∃ (a : Addr) (ns : List Int), vs = [.ref a] ∧ SqL K H a (ns.map V.int) ∧ TabG H tA ∧ ns.length ≤ 63 ∧ ∀ H', Q (.bl true) H'
theorem ok_law {f : Addr} {fd : FuncData} (FF : Fun K "law" "law" s_law f fd) (T : Txt K mg C J B) (h_law_draws : Has P w K mg base "_law_draws" 1 a_law_draws (spDraws K)) (h_law_take : Has P w K mg base "_law_take" 1 a_law_take spTake)
    (h_law_world : Has P w K mg base "_law_world" 2 a_law_world spWorld) (h_law_made : HasX P w K mg base "_law_made" 8 a_law_made (spMade K WC tA)) (h_law_line : Has P w K mg base "_law_line" 1 a_law_line (spLine K)) (h_format_world : Has P w K mg base "format_world" 2 a_format_world (spFmtW K WC))
    (h_law_outcome : Has P w K mg base "_law_outcome" 9 a_law_outcome (spOutP K tA)) (h_law_read : Has P w K mg base "_law_read" 2 a_law_read spRead) : FnOk P w K mg base CX0 10 f fd a_law (spLaw K tA) := by
  refine FF.ok sc_law (fun vs H Q E h => ?_) (fun cdv A outer s0 H vs Q E hr h => ?_)
  · obtain ⟨a, ns, rfl, _⟩ := h
    rfl
  · obtain ⟨a, ns, rfl, hS, tg, hlen, k⟩ := h
    refine ⟨_, (pss_cons (ps_set (i := 1) sc_law.nd rfl (.inl rfl) (pe_callH h_law_draws (hr.mono (by omega)) (pa_cons (pv 0) (pa_cons pe_int pa_nil))))
      (pss_cons (ps_set (i := 2) sc_law.nd rfl (.inl rfl) (pe_callH h_law_world (hr.mono (by omega)) (pa_cons (pv 1) (pa_cons pe_int (pa_cons pe_int pa_nil)))))
      (pss_cons (ps_set (i := 3) sc_law.nd rfl (.inl rfl) (pe_callH h_law_line (hr.mono (by omega)) (pa_cons pe_str (pa_cons (pe_lst (pa_cons pe_int (pa_cons pe_int (pa_cons (pe_callB call_len_seq rfl T.z_len (by decide +kernel) (pa_cons (pe_ix ix_tup (pv 2) pe_int (fun _ _ => rfl)) pa_nil)) pa_nil)))) pa_nil))))
      (pss_cons (ps_for PassesOwn.never rfl (pi_list (pe_ix ix_tup (pv 2) pe_int (fun _ _ => rfl))) (pg_name (i := 4) sc_law.nd rfl (.inl rfl)) (pss_one (ps_set (i := 3) sc_law.nd rfl (.inl rfl) (pe_op op_add_str (pv 3) (pe_callH h_law_line (hr.mono (by omega)) (pa_cons pe_str (pa_cons (pv 4) pa_nil)))))))
      (pss_cons (ps_for PassesOwn.never rfl (pi_list (pe_callB cr_sorted3 rfl T.z_sorted (by decide +kernel) (pa_cons (pe_ix ix_tup (pv 2) pe_int (fun _ _ => rfl)) pa_nil))) (pg_name (i := 5) sc_law.nd rfl (.inl rfl)) (pss_one (ps_set (i := 3) sc_law.nd rfl (.inl rfl) (pe_op op_add_str (pv 3) (pe_callH h_law_line (hr.mono (by omega)) (pa_cons pe_str (pa_cons (pv 5) pa_nil)))))))
      (pss_cons (ps_if (pt_cmpR op_ne (pe_callH h_format_world (hr.mono (by omega)) (pa_cons (pe_callL h_law_made (hr.mono (by omega)) (pa_cons (pv 2) (pa_cons pe_int (pa_cons pe_int pa_nil)))) pa_nil)) (pv 3) (nomark _)) (pss_one (ps_ret pe_bl)) pss_nil)
      (pss_cons (ps_for PassesOwn.never rfl (pi_range1 rfl T.z_range (pa_cons (pe_ix ix_list (pe_lst (pa_cons pe_int (pa_cons pe_int (pa_cons pe_int (pa_cons pe_int pa_nil))))) (pe_callH h_law_take (hr.mono (by omega)) (pa_cons (pv 1) (pa_cons pe_int pa_nil))) (fun _ _ => rfl)) pa_nil)) (pg_name (i := 6) sc_law.nd rfl (.inl rfl)) (pss_cons (ps_set (i := 7) sc_law.nd rfl (.inl rfl) (pe_callH h_law_take (hr.mono (by omega)) (pa_cons (pv 1) (pa_cons (pe_op op_add (pe_callB call_len_str rfl T.z_len (by decide +kernel) (pa_cons (pv 3) pa_nil)) pe_int) pa_nil))))
      (pss_cons (ps_set (i := 8) sc_law.nd rfl (.inl rfl) (pe_ix ix_str pe_str (pe_callH h_law_take (hr.mono (by omega)) (pa_cons (pv 1) (pa_cons pe_int pa_nil))) (fun _ _ => rfl)))
      (pss_cons (ps_set (i := 9) sc_law.nd rfl (.inl rfl) (pe_callH h_law_take (hr.mono (by omega)) (pa_cons (pv 1) (pa_cons pe_int pa_nil))))
      (pss_cons (ps_set (i := 10) sc_law.nd rfl (.inl rfl) (pe_bm PySem.F.plainAttrs_str PySem.F.slot_str_split PySem.F.type_str_split mt_split (pv 3) (pa_cons pe_str pa_nil)))
      (pss_cons (ps_set (i := 11) sc_law.nd rfl (.inl rfl) (pe_callH h_law_take (hr.mono (by omega)) (pa_cons (pv 1) (pa_cons (pe_callB call_len_seq rfl T.z_len (by decide +kernel) (pa_cons (pv 10) pa_nil)) pa_nil))))
      (pss_one (ps_if (pt_cmpR op_eq (pv 9) pe_int (nomark _)) (pss_one (ps_set (i := 3) sc_law.nd rfl (.inl rfl) (pe_op op_add_str (pe_slice sl_str (pv 3) po_none (po_some (pv 7))) (pe_slice sl_str (pv 3) (po_some (pe_op op_add (pv 7) pe_int)) po_none)))) (pss_one (ps_if (pt_cmpR op_eq (pv 9) pe_int (nomark _)) (pss_one (ps_set (i := 3) sc_law.nd rfl (.inl rfl) (pe_op op_add_str (pe_op op_add_str (pe_slice sl_str (pv 3) po_none (po_some (pv 7))) (pv 8)) (pe_slice sl_str (pv 3) (po_some (pv 7)) po_none)))) (pss_one (ps_if (pt_cmpR op_eq (pv 9) pe_int (nomark _)) (pss_one (ps_set (i := 3) sc_law.nd rfl (.inl rfl) (pe_op op_add_str (pe_op op_add_str (pe_slice sl_str (pv 3) po_none (po_some (pv 7))) (pv 8)) (pe_slice sl_str (pv 3) (po_some (pe_op op_add (pv 7) pe_int)) po_none)))) (pss_one (ps_if (pt_cmpR op_eq (pv 9) pe_int (nomark _)) (pss_one (ps_set (i := 3) sc_law.nd rfl (.inl rfl) (pe_bm PySem.F.plainAttrs_str PySem.F.slot_str_join PySem.F.type_str_join mt_join pe_str (pa_cons (pe_op op_cat (pe_slice sl_list (pv 10) po_none (po_some (pv 11))) (pe_slice sl_list (pv 10) (po_some (pe_op op_add (pv 11) pe_int)) po_none)) pa_nil)))) (pss_one (ps_set (i := 3) sc_law.nd rfl (.inl rfl) (pe_bm PySem.F.plainAttrs_str PySem.F.slot_str_join PySem.F.type_str_join mt_join pe_str (pa_cons (pe_op op_cat (pe_op op_cat (pe_slice sl_list (pv 10) po_none (po_some (pv 11))) (pe_slice sl_list (pv 10) (po_some (pv 11)) (po_some (pe_op op_add (pv 11) pe_int)))) (pe_slice sl_list (pv 10) (po_some (pv 11)) po_none)) pa_nil))))))))))))))))))
      (pss_one (ps_ret (pe_cmpR (op_eqD hr.units) (pe_callH h_law_outcome (hr.mono (by omega)) (pa_cons (pv 3) pa_nil)) (pe_callH h_law_read (hr.mono (by omega)) (pa_cons (pv 3) pa_nil)) (nomark _))))))))))), ?_⟩
    refine ⟨.ref a, rfl, a, ns, 120, rfl, hS, hlen, by decide, by decide, fun d H1 s1 hd0 d1 => ?_⟩
    have ntd : tA ≠ d := fun e => by obtain ⟨qs, q, _⟩ := tg; rw [e, hd0] at q; cases q
    refine ⟨.ref d, rfl, d, 4, 2, rfl, d1, by decide, by decide, by decide, by decide, fun wa sa pa fas pas W H2 b2 d2 X nsd npd nfd fit up n4 => ?_⟩
    have tg2 : TabG H2 tA := by
      obtain ⟨qs, q, t⟩ := tg.same s1
      exact ⟨qs, b2 _ _ ntd q, t⟩
    clear hS hlen tg s1 hd0 d1 b2
    have n8 := fit.n8
    have nn : W.facts.length ≤ 4 := by unfold Wd.n at n4; omega
    have n1 : 1 ≤ W.facts.length := fit.one
    refine ⟨.ref wa, rfl, wa, _, _, .ref sa, rfl, rfl, SqT.of X.w, rfl, sa, _, rfl, .inl (SqL.of X.s), ?_⟩
    rw [List.length_map, X.f.1]
    refine ⟨by show 3 ≤ sizeLine; decide, fun la hla => ?_⟩
    have t1 := Same.new (o := .lst [.int 2, .int 2, .int (W.facts.length : Nat)]) hla
    refine ⟨"world", la, [2, 2, (W.facts.length : Int)], rfl, .inl (SqL.of upd_same), fun x hx => ?_, by show 3 ≤ 900; decide, by decide +kernel, fun H3 t2 => ?_⟩
    · have : x = 2 ∨ x = 2 ∨ x = (W.facts.length : Int) := by simpa using hx
      omega
    have s3 := t1.trans t2
    have R := wd_rows up n4
    have S32 := wd_steps up n4
    have big : (4000 : Nat) ≤ sizeLine := by decide
    have ew : sZ (lineL (tl ("world" : Str)) [2, 2, (W.facts.length : Int)] ++ [10]) = sZ (rowsL [lineL wWorld [2, 2, (W.facts.length : Int)]]) := by
      rw [rowsL_one, show tl ("world" : Str) = wWorld by decide +kernel]
    rw [ew]
    have X3 := X.same s3
    refine ⟨.ref wa, rfl, wa, _, _, .ref sa, rfl, rfl, SqT.of X3.w, rfl, sa, rfl, ⟨_, SqL.of X3.s⟩, ?_⟩
    refine for_list (xs := fas.map V.ref) (fun i σ G => ∃ (y4 : Option V), σ = [some (.ref a), some (.ref d), some (.ref wa), some (.str (sZ (rowsL (lineL wWorld [2, 2, (W.facts.length : Int)] :: (W.facts.take i).map (lineL wState))))), y4, none, none, none, none, none, none, none] ∧ Same H3 G)
      ⟨none, rfl, Same.refl _⟩ (fun i σ G _ ⟨_, _, sG⟩ => SqL.of (sG _ _ X3.s)) ?_ ?_
    · rintro i x σ G hx ⟨y4, rfl, sG⟩
      obtain ⟨b, Y, rfl, hb, hY, il⟩ := (X3.f.same sG).nth hx
      have yf := fit.fc Y (List.mem_of_getElem? hY)
      have yu := up.rows Y (List.mem_of_getElem? hY)
      refine ⟨.str (sZ (rowsL (lineL wWorld [2, 2, (W.facts.length : Int)] :: (W.facts.take i).map (lineL wState)))), rfl, .ref b, rfl, "state", b, Y, rfl, .inl (SqL.of il), fun x hx => by have := yu.2 x hx; omega, by omega, by decide +kernel, fun G2 t3 => ?_⟩
      have lt4 : i < 4 := by have := (List.getElem?_eq_some_iff.mp hY).1; omega
      refine ⟨_, _, rfl, rfl, ?_⟩
      have ea : sZ (rowsL (lineL wWorld [2, 2, (W.facts.length : Int)] :: (W.facts.take i).map (lineL wState))) ++ sZ (lineL (tl ("state" : Str)) Y ++ [10]) = sZ (rowsL (lineL wWorld [2, 2, (W.facts.length : Int)] :: (W.facts.take (i + 1)).map (lineL wState))) := by
        rw [sZ_app, List.take_add_one, hY, Option.toList_some, List.map_append, ← List.cons_append, rowsL_app, show tl ("state" : Str) = wState by decide +kernel, show [Y].map (lineL wState) = [lineL wState Y] from rfl, rowsL_one]
      refine ⟨?_, ?_⟩
      · rw [← len_app, ea, sZ_len]
        have := rows_len (Ls := lineL wWorld [2, 2, (W.facts.length : Int)] :: (W.facts.take (i + 1)).map (lineL wState)) fun L hL => (R L (by
          unfold fmtR
          rcases List.mem_cons.mp hL with rfl | hL
          · exact List.mem_cons_self
          · obtain ⟨X, hX, rfl⟩ := List.mem_map.mp hL
            exact List.mem_cons_of_mem _ (List.mem_append_left _ (List.mem_map.mpr ⟨X, List.mem_of_mem_take hX, rfl⟩)))).1
        rw [List.length_cons, List.length_map, List.length_take] at this
        omega
      · rw [ea]
        exact ⟨_, rfl, sG.trans t3⟩
    rintro σ H4 ⟨y4, rfl, s4⟩
    rw [List.length_map, X3.f.1, List.take_length]
    have X4 := X3.same s4
    obtain ⟨kk, hkk⟩ := trips_back X4.t
    refine ⟨.ref wa, rfl, wa, _, _, .ref pa, rfl, rfl, SqT.of X4.w, rfl, pa, pas.map V.ref, kk, rfl, SqL.of X4.p, trips_say X4.t hkk, fun ys q srt stb hq => ?_⟩
    obtain ⟨as2, ss2, rfl, so2, pe2, pat2⟩ := sorted_back X4.t hkk srt stb
    have e2 := sorted_one so2 up.steps pe2
    subst e2
    have s5 := Same.new (o := .lst (as2.map V.ref)) hq
    have pat5 := pat2.same s5
    have gq : (upd H4 q (.lst (as2.map V.ref))) q = some (.lst (as2.map V.ref)) := upd_same
    have X5 := X4.same s5
    have s25 := s3.trans (s4.trans s5)
    generalize upd H4 q (.lst (as2.map V.ref)) = H5 at s5 pat5 gq X5 s25
    refine ⟨q, rfl, ⟨_, SqL.of gq⟩, ?_⟩
    obtain ⟨tx, htx⟩ : ∃ tx : Nat → List Nat, tx = fun i => rowsL (lineL wWorld [2, 2, (W.facts.length : Int)] :: (W.facts.map (lineL wState) ++ (W.steps.take i).map fun p => lineL wStep [p.1, p.2.1, p.2.2])) := ⟨_, rfl⟩
    have tx0 : rowsL (lineL wWorld [2, 2, (W.facts.length : Int)] :: W.facts.map (lineL wState)) = tx 0 := by
      rw [htx]
      show _ = rowsL (_ :: (_ ++ []))
      rw [List.append_nil]
    have txE : tx W.steps.length = fmtL 2 2 W.facts W.steps := by
      rw [htx]
      show rowsL (_ :: (_ ++ (W.steps.take W.steps.length).map _)) = _
      rw [List.take_length]
      rfl
    have txN : ∀ i p, W.steps[i]? = some p → sZ (tx i) ++ sZ (lineL (tl ("step" : Str)) [p.1, p.2.1, p.2.2] ++ [10]) = sZ (tx (i + 1)) := fun i p e => by
      have key : lineL wWorld [2, 2, (W.facts.length : Int)] :: (W.facts.map (lineL wState) ++ (W.steps.take (i + 1)).map fun p => lineL wStep [p.1, p.2.1, p.2.2]) = (lineL wWorld [2, 2, (W.facts.length : Int)] :: (W.facts.map (lineL wState) ++ (W.steps.take i).map fun p => lineL wStep [p.1, p.2.1, p.2.2])) ++ [lineL wStep [p.1, p.2.1, p.2.2]] := by
        rw [List.take_add_one, e, Option.toList_some, List.map_append, ← List.append_assoc]
        rfl
      rw [htx]
      dsimp only
      rw [sZ_app, key, rowsL_app, rowsL_one, show tl ("step" : Str) = wStep by decide +kernel]
    have txL : ∀ i, (tx i).length ≤ 481 := fun i => by
      rw [htx]
      refine Nat.le_trans (rows_len fun L hL => (R L ?_).1) ?_
      · unfold fmtR
        rcases List.mem_cons.mp hL with rfl | hL
        · exact List.mem_cons_self
        · rcases List.mem_append.mp hL with hL | hL
          · exact List.mem_cons_of_mem _ (List.mem_append_left _ hL)
          · obtain ⟨p, hp, rfl⟩ := List.mem_map.mp hL
            exact List.mem_cons_of_mem _ (List.mem_append_right _ (List.mem_map.mpr ⟨p, List.mem_of_mem_take hp, rfl⟩))
      · rw [List.length_cons, List.length_append, List.length_map, List.length_map, List.length_take]
        omega
    clear htx
    rw [tx0]
    refine for_list (xs := as2.map V.ref) (fun i σ G => ∃ (y5 : Option V), σ = [some (.ref a), some (.ref d), some (.ref wa), some (.str (sZ (tx i))), y4, y5, none, none, none, none, none, none] ∧ Same H5 G)
      ⟨none, rfl, Same.refl _⟩ (fun i σ G _ ⟨_, _, sG⟩ => SqL.of (sG _ _ gq)) ?_ ?_
    · rintro i x σ G hx ⟨y5, rfl, sG⟩
      obtain ⟨b, p, rfl, hb, hp, at_⟩ := (pat5.same sG).nth hx
      have u := up.in_ p (List.mem_of_getElem? hp)
      unfold StUp at u
      refine ⟨.str (sZ (tx i)), rfl, .ref b, rfl, "step", b, [p.1, p.2.1, p.2.2], rfl, .inr (SqT.of at_), fun x hx => ?_, by show 3 ≤ 900; decide, by decide +kernel, fun G2 t3 => ?_⟩
      · have : x = p.1 ∨ x = p.2.1 ∨ x = p.2.2 := by simpa using hx
        omega
      refine ⟨_, _, rfl, rfl, ?_, ?_⟩
      · rw [← len_app, txN i p hp, sZ_len]
        have := txL (i + 1)
        omega
      · rw [txN i p hp]
        exact ⟨_, rfl, sG.trans t3⟩
    rintro σ H6 ⟨y5, rfl, s6⟩
    rw [List.length_map, pat5.1, txE]
    have X6 := X5.same s6
    have d6 : Draws H6 d := d2.same (s25.trans s6)
    have tg6 : TabG H6 tA := tg2.same (s25.trans s6)
    refine ⟨.ref wa, rfl, wa, sa, pa, fas, pas, W, 2, 2, 2, rfl, X6, fit, up, by decide, by decide, by decide, by decide, by decide, tg6, fun p dx ta tb dd ras as H7 tb7 WE => ?_⟩
    have sm : Sm 2 2 W.facts W.steps := ⟨by decide, by decide, by omega, fun X hX => ?_, by omega, fun q hq => ?_⟩
    rotate_left
    · have := fit.fc X hX
      have u := (up.rows X hX).2
      exact ⟨by omega, fun x hx => by have := u x hx; omega⟩
    · have u := up.in_ q hq
      unfold StUp at u
      omega
    refine ⟨H6, p, dx, 2, 2, ta, tb, dd, ras, as, W.facts, W.steps, rfl, WE, sm, fun H8 s8 => ?_⟩
    refine ⟨.str (sZ (fmtL 2 2 W.facts W.steps)), rfl, rfl, _, rfl, ?_⟩
    rw [decide_eq_true rfl]
    refine iteF ?_
    have d8 : Draws H8 d := by
      obtain ⟨ds, q⟩ := d6
      exact ⟨ds, s8 _ _ (tb7.1 _ _ ntd.symm q)⟩
    have tg8 := tb7.2.same s8
    have w0 : Tw 0 (sZ (fmtL 2 2 W.facts W.steps)) := by
      have h1 : (fmtR 2 2 W.facts W.steps).length ≤ 37 := by
        unfold fmtR
        rw [List.length_cons, List.length_append, List.length_map, List.length_map]
        omega
      refine ⟨12, by rw [tl_sZ]; exact fmt_tx R h1, ?_, .inl ⟨rfl, rfl⟩⟩
      rw [sZ_len, ← txE]
      exact txL _
    generalize sZ (fmtL 2 2 W.facts W.steps) = s at w0
    refine ⟨by show 4 ≤ sizeLine; decide, fun la hla => ?_⟩
    have nla : la ≠ d := d8.ne hla
    have d9 := d8.same (Same.new (o := .lst [.int 0, .int 1, .int 1, .int 2]) hla)
    have tg9 := tg8.same (Same.new (o := .lst [.int 0, .int 1, .int 1, .int 2]) hla)
    refine ⟨.ref d, rfl, d, 4, rfl, d9, by decide, fun v H10 v0 v4 b10 d10 => ?_⟩
    have tgB : ∀ {G G' : Hp}, But d G G' → TabG G tA → TabG G' tA := fun b tg => by
      obtain ⟨qs, q, t⟩ := tg
      exact ⟨qs, b _ _ ntd q, t⟩
    have tg10 := tgB b10 tg9
    have g10 : H10 la = some (.lst [.int 0, .int 1, .int 1, .int 2]) := b10 _ _ nla upd_same
    obtain ⟨c, hc, c0, c2⟩ : ∃ c : Int, atI [V.int 0, V.int 1, V.int 1, V.int 2] v = some (.int c) ∧ 0 ≤ c ∧ c ≤ 2 := by
      have : v = 0 ∨ v = 1 ∨ v = 2 ∨ v = 3 := by omega
      rcases this with rfl | rfl | rfl | rfl
      · exact ⟨0, rfl, by decide, by decide⟩
      · exact ⟨1, rfl, by decide, by decide⟩
      · exact ⟨1, rfl, by decide, by decide⟩
      · exact ⟨2, rfl, by decide, by decide⟩
    refine ⟨la, _, v, _, rfl, rfl, SqL.of g10, hc, c, rfl, by omega, by omega, ?_⟩
    refine for_range (lo := 0) (n := c.toNat) (fun i σ G => ∃ (z : Str) (y6 y7 y8 y9 y10 y11 : Option V), σ = [some (.ref a), some (.ref d), some (.ref wa), some (.str z), y4, y5, y6, y7, y8, y9, y10, y11] ∧ Tw i z ∧ Draws G d ∧ TabG G tA)
      ⟨s, none, none, none, none, none, none, rfl, w0, d10, tg10⟩ ?_ ?_
    · rintro i σ G hi ⟨z, y6, y7, y8, y9, y10, y11, rfl, tw, dG, tgG⟩
      have i2 : i < 2 := by omega
      have zl : z.length ≤ 541 := by
        obtain ⟨M, _, l, _⟩ := tw
        omega
      refine ⟨.ref d, rfl, .str z, rfl, z, rfl, by omega, _, _, rfl, rfl, d, _, rfl, dG, by omega, fun v7 G1 v70 v7l b1 d1 => ?_⟩
      have tg1 := tgB b1 tgG
      obtain ⟨at', rfl⟩ : ∃ n : Nat, v7 = (n : Int) := ⟨v7.toNat, by omega⟩
      refine ⟨.ref d, rfl, d, 11, rfl, d1, by decide, fun v8 G2 v80 v8l b2 d2 => ?_⟩
      have tg2 := tgB b2 tg1
      obtain ⟨j8, rfl⟩ : ∃ n : Nat, v8 = (n : Int) := ⟨v8.toNat, by omega⟩
      have e11 : ("0123 \nwstep" : Str).cps.toList = [48, 49, 50, 51, 32, 10, 119, 115, 116, 101, 112] := by decide +kernel
      obtain ⟨sg, hsg, sgl⟩ : ∃ sg : Nat, ("0123 \nwstep" : Str).cps.toList[j8]? = some sg ∧ sg < 128 := by
        rw [e11]
        have hj : j8 < 11 := by omega
        refine ⟨_, List.getElem?_eq_getElem hj, ?_⟩
        have : ∀ x ∈ [48, 49, 50, 51, 32, 10, 119, 115, 116, 101, 112], x < 128 := by decide
        exact this _ (List.getElem_mem hj)
      refine ⟨"0123 \nwstep", (j8 : Int), sg, rfl, rfl, by decide +kernel, atI_nat hsg, ?_⟩
      refine ⟨.ref d, rfl, d, 5, rfl, d2, by decide, fun v9 G3 v90 v9l b3 d3 => ?_⟩
      have tg3 := tgB b3 tg2
      have sp := split_cut 10 z (y := "\n") (by decide +kernel) (by decide)
      refine ⟨.str z, rfl, rfl, z, "\n", rfl, rfl, by decide +kernel, by omega, fun lb hlb => ?_⟩
      rw [sp]
      have d4 := d3.same (Same.new (o := .lst (((cutc 10 (tl z)).map sZ).map V.str)) hlb)
      have tg4 := tg3.same (Same.new (o := .lst (((cutc 10 (tl z)).map sZ).map V.str)) hlb)
      have nlb : lb ≠ d := d3.ne hlb
      have gb : (upd G3 lb (.lst (((cutc 10 (tl z)).map sZ).map V.str))) lb = some (.lst (((cutc 10 (tl z)).map sZ).map V.str)) := upd_same
      generalize upd G3 lb (.lst (((cutc 10 (tl z)).map sZ).map V.str)) = G4 at d4 tg4 gb
      refine ⟨.ref d, rfl, .ref lb, rfl, lb, _, rfl, .inl (SqL.of gb), d, _, rfl, d4, ?_, fun v11 G5 v110 v11l b5 d5 => ?_⟩
      · rw [List.length_map, List.length_map]
        have := List.length_pos_iff.mpr (cutc_ne 10 (tl z))
        omega
      have tg5 := tgB b5 tg4
      have gb5 := b5 _ _ nlb gb
      obtain ⟨rw', rfl⟩ : ∃ n : Nat, v11 = (n : Int) := ⟨v11.toNat, by omega⟩
      refine ⟨.int v9, rfl, rfl, _, rfl, ?_⟩
      have zA := cutS_length z none (some (at' : Int))
      have zB := cutS_length z (some (at' : Int)) none
      have zB1 := cutS_length z (some ((at' : Int) + 1)) none
      have sl1 : (⟨#[sg]⟩ : Str).length = 1 := rfl
      have sgt : ∀ c ∈ tl (⟨#[sg]⟩ : Str), c < 128 := fun c hc => by
        rw [List.mem_singleton.mp (show c ∈ [sg] from hc)]
        exact sgl
      refine ite2 (fun q => ?_) (fun q => ?_)
      · refine ⟨.str z, rfl, .int at', rfl, at', rfl, z, rfl, by omega, .str z, rfl, .int at', rfl, _, _, rfl, rfl, (at' : Int) + 1, rfl, z, rfl, by omega, _, _, rfl, rfl, by omega, ?_⟩
        exact ⟨_, _, _, _, _, _, _, rfl, tw.put (X := "") (a := at') (b := at' + 1) i2 (by omega) (by decide +kernel) (fun c hc => by cases hc) (by rw [tl_append, cutS_to, cutS_from1, show tl "" = [] from rfl, List.append_nil]), d5, tg5⟩
      refine ⟨.int v9, rfl, rfl, _, rfl, ?_⟩
      refine ite2 (fun q => ?_) (fun q => ?_)
      · refine ⟨.str z, rfl, .int at', rfl, at', rfl, z, rfl, by omega, .str ⟨#[sg]⟩, rfl, _, _, rfl, rfl, by omega, .str z, rfl, .int at', rfl, at', rfl, z, rfl, by omega, _, _, rfl, rfl, by rw [len_app]; omega, ?_⟩
        exact ⟨_, _, _, _, _, _, _, rfl, tw.put (X := ⟨#[sg]⟩) (a := at') (b := at') i2 (Nat.le_refl _) (Nat.le_refl _) sgt (by rw [tl_append, tl_append, cutS_to, cutS_from]), d5, tg5⟩
      refine ⟨.int v9, rfl, rfl, _, rfl, ?_⟩
      refine ite2 (fun q => ?_) (fun q => ?_)
      · refine ⟨.str z, rfl, .int at', rfl, at', rfl, z, rfl, by omega, .str ⟨#[sg]⟩, rfl, _, _, rfl, rfl, by omega, .str z, rfl, .int at', rfl, _, _, rfl, rfl, (at' : Int) + 1, rfl, z, rfl, by omega, _, _, rfl, rfl, by rw [len_app]; omega, ?_⟩
        exact ⟨_, _, _, _, _, _, _, rfl, tw.put (X := ⟨#[sg]⟩) (a := at') (b := at' + 1) i2 (by omega) (Nat.le_refl _) sgt (by rw [tl_append, tl_append, cutS_to, cutS_from1]), d5, tg5⟩
      have cz : (cutc 10 (tl z)).length ≤ 44 := by
        obtain ⟨M, t, _⟩ := tw
        have := t.ct
        omega
      refine ⟨.int v9, rfl, rfl, _, rfl, ?_⟩
      have rowsB : ∀ L ∈ cutc 10 (tl z), L.length ≤ 60 := fun L hL => by
        obtain ⟨M, t, _, dd⟩ := tw
        have := t.ln L hL
        omega
      refine ite2 (fun q => ?_) (fun q => ?_)
      · refine ⟨rfl, .ref lb, rfl, .int rw', rfl, rw', rfl, lb, _, rfl, SqL.of gb5, fun p1 hp1 => ?_⟩
        have n1 : lb ≠ p1 := ne_of_none gb5 hp1
        have u1 := Same.new (o := .lst (cutV (((cutc 10 (tl z)).map sZ).map V.str) none (some (rw' : Int)))) hp1
        refine ⟨.ref lb, rfl, .int rw', rfl, _, _, rfl, rfl, (rw' : Int) + 1, rfl, lb, _, rfl, SqL.of (u1 _ _ gb5), fun p2 hp2 => ?_⟩
        have u2 := Same.new (o := .lst (cutV (((cutc 10 (tl z)).map sZ).map V.str) (some ((rw' : Int) + 1)) none)) hp2
        refine ⟨p1, p2, _, _, rfl, rfl, u2 _ _ upd_same, upd_same, ?_, fun p3 hp3 => ?_⟩
        · rw [cutV_to, show (rw' : Int) + 1 = ((rw' + 1 : Nat) : Int) from rfl, cutV_fr]
          simp only [List.length_take, List.length_drop, List.length_map]
          omega
        have u3 := Same.new (o := .lst (cutV (((cutc 10 (tl z)).map sZ).map V.str) none (some (rw' : Int)) ++ cutV (((cutc 10 (tl z)).map sZ).map V.str) (some ((rw' : Int) + 1)) none)) hp3
        have u13 := (u1.trans u2).trans u3
        refine ⟨"\n", p3, ((cutc 10 (tl z)).take rw' ++ (cutc 10 (tl z)).drop (rw' + 1)).map sZ, rfl, rfl, .inl (SqL.of ?_), ?_, ?_⟩
        · rw [upd_same, cutV_to, show (rw' : Int) + 1 = ((rw' + 1 : Nat) : Int) from rfl, cutV_fr]
          simp only [List.map_append, List.map_take, List.map_drop]
        · have := sum_small (m := 60) (Ls := (cutc 10 (tl z)).take rw' ++ (cutc 10 (tl z)).drop (rw' + 1)) fun L hL => rowsB L ((List.mem_append.mp hL).elim List.mem_of_mem_take List.mem_of_mem_drop)
          have h1 : ("\n" : Str).length = 1 := by decide +kernel
          rw [h1, List.length_map]
          rw [List.length_append, List.length_take, List.length_drop] at this ⊢
          omega
        · rw [join_rows]
          exact ⟨_, _, _, _, _, _, _, rfl, tw.out i2, d5.same u13, tg5.same u13⟩
      · refine ⟨rfl, .ref lb, rfl, .int rw', rfl, rw', rfl, lb, _, rfl, SqL.of gb5, fun p1 hp1 => ?_⟩
        have n1 : lb ≠ p1 := ne_of_none gb5 hp1
        have u1 := Same.new (o := .lst (cutV (((cutc 10 (tl z)).map sZ).map V.str) none (some (rw' : Int)))) hp1
        refine ⟨.ref lb, rfl, .int rw', rfl, rw', rfl, .int rw', rfl, _, _, rfl, rfl, (rw' : Int) + 1, rfl, lb, _, rfl, SqL.of (u1 _ _ gb5), fun p2 hp2 => ?_⟩
        have u2 := Same.new (o := .lst (cutV (((cutc 10 (tl z)).map sZ).map V.str) (some (rw' : Int)) (some ((rw' : Int) + 1)))) hp2
        refine ⟨p1, p2, _, _, rfl, rfl, u2 _ _ upd_same, upd_same, ?_, fun p3 hp3 => ?_⟩
        · rw [cutV_to, show (rw' : Int) + 1 = ((rw' + 1 : Nat) : Int) from rfl, cutV_at]
          simp only [List.length_take, List.length_drop, List.length_map]
          omega
        have u3 := Same.new (o := .lst (cutV (((cutc 10 (tl z)).map sZ).map V.str) none (some (rw' : Int)) ++ cutV (((cutc 10 (tl z)).map sZ).map V.str) (some (rw' : Int)) (some ((rw' : Int) + 1)))) hp3
        have u13 := (u1.trans u2).trans u3
        refine ⟨.ref lb, rfl, .int rw', rfl, rw', rfl, lb, _, rfl, SqL.of (u13 _ _ gb5), fun p4 hp4 => ?_⟩
        have u4 := Same.new (o := .lst (cutV (((cutc 10 (tl z)).map sZ).map V.str) (some (rw' : Int)) none)) hp4
        refine ⟨p3, p4, _, _, rfl, rfl, u4 _ _ upd_same, upd_same, ?_, fun p5 hp5 => ?_⟩
        · rw [cutV_to, show (rw' : Int) + 1 = ((rw' + 1 : Nat) : Int) from rfl, cutV_at, cutV_fr]
          simp only [List.length_append, List.length_take, List.length_drop, List.length_map]
          omega
        have u5 := Same.new (o := .lst ((cutV (((cutc 10 (tl z)).map sZ).map V.str) none (some (rw' : Int)) ++ cutV (((cutc 10 (tl z)).map sZ).map V.str) (some (rw' : Int)) (some ((rw' : Int) + 1))) ++ cutV (((cutc 10 (tl z)).map sZ).map V.str) (some (rw' : Int)) none)) hp5
        have u15 := (u13.trans u4).trans u5
        refine ⟨"\n", p5, ((cutc 10 (tl z)).take rw' ++ ((cutc 10 (tl z)).drop rw').take 1 ++ (cutc 10 (tl z)).drop rw').map sZ, rfl, rfl, .inl (SqL.of ?_), ?_, ?_⟩
        · rw [upd_same, cutV_to, show (rw' : Int) + 1 = ((rw' + 1 : Nat) : Int) from rfl, cutV_at, cutV_fr]
          simp only [List.map_append, List.map_take, List.map_drop]
        · have := sum_small (m := 60) (Ls := (cutc 10 (tl z)).take rw' ++ ((cutc 10 (tl z)).drop rw').take 1 ++ (cutc 10 (tl z)).drop rw') fun L hL => rowsB L ((List.mem_append.mp hL).elim (fun q => (List.mem_append.mp q).elim List.mem_of_mem_take fun q => List.mem_of_mem_drop (List.mem_of_mem_take q)) List.mem_of_mem_drop)
          have h1 : ("\n" : Str).length = 1 := by decide +kernel
          rw [h1, List.length_map]
          rw [List.length_append, List.length_append, List.length_take, List.length_take, List.length_drop] at this ⊢
          omega
        · rw [join_rows]
          exact ⟨_, _, _, _, _, _, _, rfl, tw.dbl i2, d5.same u15, tg5.same u15⟩
    rintro σ H11 ⟨z, y6, y7, y8, y9, y10, y11, rfl, ⟨M, tx1, zl, dd⟩, d11, tg11⟩
    have zl9 : z.length ≤ 900 := by omega
    have lLn : ∀ L ∈ cutc 10 (tl z), L.length ≤ 60 := fun L hL => by
      have := tx1.ln L hL
      omega
    have lCt : (cutc 10 (tl z)).length ≤ 60 := by
      have := tx1.ct
      omega
    refine ⟨.str z, rfl, z, rfl, tx1.sg, zl9, tg11, fun l f Xs ss r H12 g tb12 FA => ?_, fun no H12 => ?_⟩
    · refine ⟨.str z, rfl, z, rfl, tx1.sg, zl9, lLn, lCt, fun l2 f2 Xs2 ss2 r2 H13 g2 s13 FT => ?_, fun no2 H13 => absurd g (no2 _ _ _ _)⟩
      obtain ⟨rfl, rfl, rfl, rfl⟩ := g.uniq g2
      refine ⟨_, _, (FA.same s13).dp, FT.at.dp, dFour_shaped _ _ _ _, dFour_shaped _ _ _ _, ?_⟩
      rw [dFour_same]
      exact k _
    · refine ⟨.str z, rfl, z, rfl, tx1.sg, zl9, lLn, lCt, fun l2 f2 Xs2 ss2 r2 H13 g2 s13 FT => absurd g2 (no _ _ _ _), fun no2 H13 => ?_⟩
      refine ⟨_, _, .non, .non, rfl, rfl, ?_⟩
      exact k _
end
end Fw

set_option maxRecDepth 100000
set_option maxHeartbeats 4000000
namespace Fw
open PySem PySem.Spec PyProof.Rows L2
theorem exm_own {K : PySem.W.Frag} {S : Addr} (h1 : PySem.W.subIn K (.ref S) (.type "BaseException") = some true) (h2 : PySem.W.hasDictIn K S = true) (h3 : PySem.W.typeIn K (.ref S) = some (.type "type")) (h4 : PySem.W.subIn K (.ref S) (.ref S) = some true) :
    PySem.W.exmOne K (.ref S) (.ref S) = some true := PySem.W.exm_ref h1 h2 h3 h4
/-- what is known of the law where the worlds are tried -/
def Top9 (P : Program) (w : World) (K : PySem.W.Frag) (mg : Str → Option Value) (fa : Addr) : Prop :=
  ∃ (fd : FuncData) (cA tA : Addr), PySem.W.tabIn K "ascends" = some (cA, tA) ∧ K.lookup tA = none ∧ (∀ (s : Shared) (u : Value), BindsTo s fd ⟨[u], []⟩ [("script", u)]) ∧
    ∀ base : Heap, K.In base → base.Ns mainGlobals mg → GxR.TabB base mg cA tA → FnOk P w K mg base CX0 10 fa fd ["script"] (spLaw K tA)
theorem all_mk {P : Program} {w : World} {K : PySem.W.Frag} {h : Heap} {mg : Str → Option Value} {c_ascends t_ascends : Addr}
    {NC : Addr}
    {C_World : Addr}
    {fa f0 f1 f2 f3 f4 f5 f6 f7 f8 f9 f10 f11 f12 f13 f14 f15 f16 f17 f18 f19 : Addr}
    {od0 an0 od1 an1 od2 an2 od3 an3 od4 an4 od5 an5 od6 an6 od7 an7 od8 an8 od9 an9 od10 an10 od11 an11 od12 an12 od13 an13 od14 an14 od15 an15 od16 an16 od17 an17 od18 an18 od19 an19 : Option Addr} {sl0 sl1 sl2 sl3 sl4 sl5 sl6 sl7 sl8 sl9 sl10 sl11 sl12 sl13 sl14 sl15 sl16 sl17 sl18 sl19 : Array (Option Value)} {oc0 kV0 dc0 pm0 cd0 ct0 oc1 kV1 dc1 pm1 cd1 ct1 oc2 kV2 dc2 pm2 cd2 ct2 oc3 kV3 dc3 pm3 cd3 ct3 oc4 kV4 dc4 pm4 cd4 ct4 oc5 kV5 dc5 pm5 cd5 ct5 oc6 kV6 dc6 pm6 cd6 ct6 oc7 kV7 dc7 pm7 cd7 ct7 oc8 kV8 dc8 pm8 cd8 ct8 oc9 kV9 dc9 pm9 cd9 ct9 oc10 kV10 dc10 pm10 cd10 ct10 oc11 kV11 dc11 pm11 cd11 ct11 oc12 kV12 dc12 pm12 cd12 ct12 oc13 kV13 dc13 pm13 cd13 ct13 oc14 kV14 dc14 pm14 cd14 ct14 oc15 kV15 dc15 pm15 cd15 ct15 oc16 kV16 dc16 pm16 cd16 ct16 oc17 kV17 dc17 pm17 cd17 ct17 oc18 kV18 dc18 pm18 cd18 ct18 oc19 kV19 dc19 pm19 cd19 ct19 : Value}
    {t_MOST_LABELS : Tok}
    {t_MOST_FACTS : Tok}
    {t_MOST_STATES : Tok}
    {t_MOST_DIGITS : Tok}
    {cc_ascends : Value} {cd_ascends : Option Addr} {cv_ascends : Array Value} {cn_ascends : Array (Option Value)}
    (X : K.In h) (G : h.Ns mainGlobals mg) (hfa : mg "law" = some (.ref fa))
    (aC_World : PySem.W.nsIn K mainGlobals "World" = some (some (.ref C_World)))
    (a0 : PySem.W.nsIn K mainGlobals "is_number" = some (some (.ref f0)))
    (l0 : K.lookup f0 = some ⟨oc0, od0, .func (PySem.W.fnOf "is_number" "is_number" (defArgs s_is_number) (defBody s_is_number) (defScope s_is_number) .none kV0 dc0 pm0 an0 cd0 ct0), sl0⟩)
    (c0 : PySem.W.codeIn K cd0 "is_number" = true)
    (k0 : PySem.W.keepIn K (.ref f0) = true)
    (a1 : PySem.W.nsIn K mainGlobals "ascends" = some (some (.ref f1)))
    (l1 : K.lookup f1 = some ⟨oc1, od1, .func (PySem.W.fnOf "ascends" "ascends" (defArgs s_ascends) (defBody s_ascends) (defScope s_ascends) .none kV1 dc1 pm1 an1 cd1 ct1), sl1⟩)
    (c1 : PySem.W.codeIn K cd1 "ascends" = true)
    (k1 : PySem.W.keepIn K (.ref f1) = true)
    (a2 : PySem.W.findIn K (.ref C_World) "__init__" = some (some (.ref f2)))
    (i2 : PySem.W.isFn K (.ref f2) = true)
    (l2 : K.lookup f2 = some ⟨oc2, od2, .func (PySem.W.fnOf "__init__" "World.__init__" (defArgs s_World_init) (defBody s_World_init) (defScope s_World_init) .none kV2 dc2 pm2 an2 cd2 ct2), sl2⟩)
    (c2 : PySem.W.codeIn K cd2 "World.__init__" = true)
    (k2 : PySem.W.keepIn K (.ref f2) = true)
    (a3 : PySem.W.nsIn K mainGlobals "check_numbers" = some (some (.ref f3)))
    (l3 : K.lookup f3 = some ⟨oc3, od3, .func (PySem.W.fnOf "check_numbers" "check_numbers" (defArgs s_check_numbers) (defBody s_check_numbers) (defScope s_check_numbers) .none kV3 dc3 pm3 an3 cd3 ct3), sl3⟩)
    (c3 : PySem.W.codeIn K cd3 "check_numbers" = true)
    (k3 : PySem.W.keepIn K (.ref f3) = true)
    (a4 : PySem.W.nsIn K mainGlobals "check_states" = some (some (.ref f4)))
    (l4 : K.lookup f4 = some ⟨oc4, od4, .func (PySem.W.fnOf "check_states" "check_states" (defArgs s_check_states) (defBody s_check_states) (defScope s_check_states) .none kV4 dc4 pm4 an4 cd4 ct4), sl4⟩)
    (c4 : PySem.W.codeIn K cd4 "check_states" = true)
    (k4 : PySem.W.keepIn K (.ref f4) = true)
    (a5 : PySem.W.nsIn K mainGlobals "check_steps" = some (some (.ref f5)))
    (l5 : K.lookup f5 = some ⟨oc5, od5, .func (PySem.W.fnOf "check_steps" "check_steps" (defArgs s_check_steps) (defBody s_check_steps) (defScope s_check_steps) .none kV5 dc5 pm5 an5 cd5 ct5), sl5⟩)
    (c5 : PySem.W.codeIn K cd5 "check_steps" = true)
    (k5 : PySem.W.keepIn K (.ref f5) = true)
    (a6 : PySem.W.nsIn K mainGlobals "ends_of" = some (some (.ref f6)))
    (l6 : K.lookup f6 = some ⟨oc6, od6, .func (PySem.W.fnOf "ends_of" "ends_of" (defArgs s_ends_of) (defBody s_ends_of) (defScope s_ends_of) .none kV6 dc6 pm6 an6 cd6 ct6), sl6⟩)
    (c6 : PySem.W.codeIn K cd6 "ends_of" = true)
    (k6 : PySem.W.keepIn K (.ref f6) = true)
    (a7 : PySem.W.nsIn K mainGlobals "format_world" = some (some (.ref f7)))
    (l7 : K.lookup f7 = some ⟨oc7, od7, .func (PySem.W.fnOf "format_world" "format_world" (defArgs s_format_world) (defBody s_format_world) (defScope s_format_world) .none kV7 dc7 pm7 an7 cd7 ct7), sl7⟩)
    (c7 : PySem.W.codeIn K cd7 "format_world" = true)
    (k7 : PySem.W.keepIn K (.ref f7) = true)
    (a8 : PySem.W.nsIn K mainGlobals "line_of" = some (some (.ref f8)))
    (l8 : K.lookup f8 = some ⟨oc8, od8, .func (PySem.W.fnOf "line_of" "line_of" (defArgs s_line_of) (defBody s_line_of) (defScope s_line_of) .none kV8 dc8 pm8 an8 cd8 ct8), sl8⟩)
    (c8 : PySem.W.codeIn K cd8 "line_of" = true)
    (k8 : PySem.W.keepIn K (.ref f8) = true)
    (a9 : PySem.W.nsIn K mainGlobals "parse_world" = some (some (.ref f9)))
    (l9 : K.lookup f9 = some ⟨oc9, od9, .func (PySem.W.fnOf "parse_world" "parse_world" (defArgs s_parse_world) (defBody s_parse_world) (defScope s_parse_world) .none kV9 dc9 pm9 an9 cd9 ct9), sl9⟩)
    (c9 : PySem.W.codeIn K cd9 "parse_world" = true)
    (k9 : PySem.W.keepIn K (.ref f9) = true)
    (a10 : PySem.W.nsIn K mainGlobals "row_of" = some (some (.ref f10)))
    (l10 : K.lookup f10 = some ⟨oc10, od10, .func (PySem.W.fnOf "row_of" "row_of" (defArgs s_row_of) (defBody s_row_of) (defScope s_row_of) .none kV10 dc10 pm10 an10 cd10 ct10), sl10⟩)
    (c10 : PySem.W.codeIn K cd10 "row_of" = true)
    (k10 : PySem.W.keepIn K (.ref f10) = true)
    (a11 : PySem.W.nsIn K mainGlobals "_law_draws" = some (some (.ref f11)))
    (l11 : K.lookup f11 = some ⟨oc11, od11, .func (PySem.W.fnOf "_law_draws" "_law_draws" (defArgs s_law_draws) (defBody s_law_draws) (defScope s_law_draws) .none kV11 dc11 pm11 an11 cd11 ct11), sl11⟩)
    (c11 : PySem.W.codeIn K cd11 "_law_draws" = true)
    (k11 : PySem.W.keepIn K (.ref f11) = true)
    (a12 : PySem.W.nsIn K mainGlobals "_law_take" = some (some (.ref f12)))
    (l12 : K.lookup f12 = some ⟨oc12, od12, .func (PySem.W.fnOf "_law_take" "_law_take" (defArgs s_law_take) (defBody s_law_take) (defScope s_law_take) .none kV12 dc12 pm12 an12 cd12 ct12), sl12⟩)
    (c12 : PySem.W.codeIn K cd12 "_law_take" = true)
    (k12 : PySem.W.keepIn K (.ref f12) = true)
    (a13 : PySem.W.nsIn K mainGlobals "_law_world" = some (some (.ref f13)))
    (l13 : K.lookup f13 = some ⟨oc13, od13, .func (PySem.W.fnOf "_law_world" "_law_world" (defArgs s_law_world) (defBody s_law_world) (defScope s_law_world) .none kV13 dc13 pm13 an13 cd13 ct13), sl13⟩)
    (c13 : PySem.W.codeIn K cd13 "_law_world" = true)
    (k13 : PySem.W.keepIn K (.ref f13) = true)
    (a14 : PySem.W.nsIn K mainGlobals "_law_made" = some (some (.ref f14)))
    (l14 : K.lookup f14 = some ⟨oc14, od14, .func (PySem.W.fnOf "_law_made" "_law_made" (defArgs s_law_made) (defBody s_law_made) (defScope s_law_made) .none kV14 dc14 pm14 an14 cd14 ct14), sl14⟩)
    (c14 : PySem.W.codeIn K cd14 "_law_made" = true)
    (k14 : PySem.W.keepIn K (.ref f14) = true)
    (a15 : PySem.W.nsIn K mainGlobals "_law_outcome" = some (some (.ref f15)))
    (l15 : K.lookup f15 = some ⟨oc15, od15, .func (PySem.W.fnOf "_law_outcome" "_law_outcome" (defArgs s_law_outcome) (defBody s_law_outcome) (defScope s_law_outcome) .none kV15 dc15 pm15 an15 cd15 ct15), sl15⟩)
    (c15 : PySem.W.codeIn K cd15 "_law_outcome" = true)
    (k15 : PySem.W.keepIn K (.ref f15) = true)
    (a16 : PySem.W.nsIn K mainGlobals "_law_line" = some (some (.ref f16)))
    (l16 : K.lookup f16 = some ⟨oc16, od16, .func (PySem.W.fnOf "_law_line" "_law_line" (defArgs s_law_line) (defBody s_law_line) (defScope s_law_line) .none kV16 dc16 pm16 an16 cd16 ct16), sl16⟩)
    (c16 : PySem.W.codeIn K cd16 "_law_line" = true)
    (k16 : PySem.W.keepIn K (.ref f16) = true)
    (a17 : PySem.W.nsIn K mainGlobals "_law_number" = some (some (.ref f17)))
    (l17 : K.lookup f17 = some ⟨oc17, od17, .func (PySem.W.fnOf "_law_number" "_law_number" (defArgs s_law_number) (defBody s_law_number) (defScope s_law_number) .none kV17 dc17 pm17 an17 cd17 ct17), sl17⟩)
    (c17 : PySem.W.codeIn K cd17 "_law_number" = true)
    (k17 : PySem.W.keepIn K (.ref f17) = true)
    (a18 : PySem.W.nsIn K mainGlobals "_law_read" = some (some (.ref f18)))
    (l18 : K.lookup f18 = some ⟨oc18, od18, .func (PySem.W.fnOf "_law_read" "_law_read" (defArgs s_law_read) (defBody s_law_read) (defScope s_law_read) .none kV18 dc18 pm18 an18 cd18 ct18), sl18⟩)
    (c18 : PySem.W.codeIn K cd18 "_law_read" = true)
    (k18 : PySem.W.keepIn K (.ref f18) = true)
    (a19 : PySem.W.nsIn K mainGlobals "law" = some (some (.ref f19)))
    (l19 : K.lookup f19 = some ⟨oc19, od19, .func (PySem.W.fnOf "law" "law" (defArgs s_law) (defBody s_law) (defScope s_law) .none kV19 dc19 pm19 an19 cd19 ct19), sl19⟩)
    (c19 : PySem.W.codeIn K cd19 "law" = true)
    (k19 : PySem.W.keepIn K (.ref f19) = true)
    (pg_World : PySem.W.plainGet K C_World Str.empty = true)
    (hd_World : PySem.W.hasDictIn K C_World = true)
    (po_World : PySem.W.plainOver K C_World = true)
    (sa_World : PySem.W.findIn K (.ref C_World) "__setattr__" = some (some (.builtin "object.__setattr__")))
    (mk_World : PySem.W.makesIn K C_World = true)
    (kc_World : PySem.W.keepIn K (.ref C_World) = true)
    (n_World_labels : PySem.W.findIn K (.ref C_World) "labels" = some none)
    (n_World_facts : PySem.W.findIn K (.ref C_World) "facts" = some none)
    (n_World_states : PySem.W.findIn K (.ref C_World) "states" = some none)
    (n_World_steps : PySem.W.findIn K (.ref C_World) "steps" = some none)
    (n_World__ends : PySem.W.findIn K (.ref C_World) "_ends" = some none)
    (z_all : PySem.W.nsIn K mainGlobals "all" = some none)
    (z_bool : PySem.W.nsIn K mainGlobals "bool" = some none)
    (z_int : PySem.W.nsIn K mainGlobals "int" = some none)
    (z_isinstance : PySem.W.nsIn K mainGlobals "isinstance" = some none)
    (z_len : PySem.W.nsIn K mainGlobals "len" = some none)
    (z_list : PySem.W.nsIn K mainGlobals "list" = some none)
    (z_max : PySem.W.nsIn K mainGlobals "max" = some none)
    (z_min : PySem.W.nsIn K mainGlobals "min" = some none)
    (z_range : PySem.W.nsIn K mainGlobals "range" = some none)
    (z_set : PySem.W.nsIn K mainGlobals "set" = some none)
    (z_sorted : PySem.W.nsIn K mainGlobals "sorted" = some none)
    (z_str : PySem.W.nsIn K mainGlobals "str" = some none)
    (z_tuple : PySem.W.nsIn K mainGlobals "tuple" = some none)
    (z_zip : PySem.W.nsIn K mainGlobals "zip" = some none)
    (aI_MOST_LABELS : PySem.W.nsIn K mainGlobals "MOST_LABELS" = some (some (.int 3 t_MOST_LABELS)))
    (aI_MOST_FACTS : PySem.W.nsIn K mainGlobals "MOST_FACTS" = some (some (.int 6 t_MOST_FACTS)))
    (aI_MOST_STATES : PySem.W.nsIn K mainGlobals "MOST_STATES" = some (some (.int 400 t_MOST_STATES)))
    (aI_MOST_DIGITS : PySem.W.nsIn K mainGlobals "MOST_DIGITS" = some (some (.int 3 t_MOST_DIGITS)))
    (e_gC : PySem.W.nsIn K mainGlobals "InvalidWorld" = some (some (.ref NC)))
    (e_xC : PySem.W.excIn K NC [.type "ValueError", .type "Exception", .type "BaseException", .type "object"] "ValueError.__new__" = true)
    (e_kC : PySem.W.keepIn K (.ref NC) = true)
    (e_bC : PySem.W.subIn K (.ref NC) (.type "BaseException") = some true)
    (e_tC : PySem.W.typeIn K (.ref NC) = some (.type "type"))
    (e_sC : PySem.W.subIn K (.ref NC) (.ref NC) = some true)
    (e_xd : PySem.W.hasDictIn K NC = true)
    (hc_ascends : cd1 = .ref c_ascends)
    (lc_ascends : K.lookup c_ascends = some ⟨cc_ascends, cd_ascends, .fields cv_ascends, cn_ascends⟩)
    (pT_ascends : (cv_ascends[11]? : Option Value) = some (.ref t_ascends))
    (nT_ascends : K.lookup t_ascends = none) :
    Top9 P w K mg fa := by
  have e := hfa.symm.trans (PySem.W.mg_of X G a19)
  cases e
  have F_is_number := fun_mk (st := s_is_number) l0 c0 k0
  have b_is_number := F_is_number.binds (ps := a_is_number) fun _ _ _ _ _ _ us hl => match us, hl with | [_, _, _], _ => rfl
  have m_is_number := PySem.W.mg_of X G a0
  have F_ascends := fun_mk (st := s_ascends) l1 c1 k1
  have b_ascends := F_ascends.binds (ps := a_ascends) fun _ _ _ _ _ _ us hl => match us, hl with | [_], _ => rfl
  have m_ascends := PySem.W.mg_of X G a1
  have F_World_init := fun_mk (st := s_World_init) l2 c2 k2
  have b_World_init := F_World_init.binds (ps := a_World_init) fun _ _ _ _ _ _ us hl => match us, hl with | [_, _, _, _, _], _ => rfl
  have F_check_numbers := fun_mk (st := s_check_numbers) l3 c3 k3
  have b_check_numbers := F_check_numbers.binds (ps := a_check_numbers) fun _ _ _ _ _ _ us hl => match us, hl with | [_, _], _ => rfl
  have m_check_numbers := PySem.W.mg_of X G a3
  have F_check_states := fun_mk (st := s_check_states) l4 c4 k4
  have b_check_states := F_check_states.binds (ps := a_check_states) fun _ _ _ _ _ _ us hl => match us, hl with | [_], _ => rfl
  have m_check_states := PySem.W.mg_of X G a4
  have F_check_steps := fun_mk (st := s_check_steps) l5 c5 k5
  have b_check_steps := F_check_steps.binds (ps := a_check_steps) fun _ _ _ _ _ _ us hl => match us, hl with | [_], _ => rfl
  have m_check_steps := PySem.W.mg_of X G a5
  have F_ends_of := fun_mk (st := s_ends_of) l6 c6 k6
  have b_ends_of := F_ends_of.binds (ps := a_ends_of) fun _ _ _ _ _ _ us hl => match us, hl with | [_], _ => rfl
  have m_ends_of := PySem.W.mg_of X G a6
  have F_format_world := fun_mk (st := s_format_world) l7 c7 k7
  have b_format_world := F_format_world.binds (ps := a_format_world) fun _ _ _ _ _ _ us hl => match us, hl with | [_], _ => rfl
  have m_format_world := PySem.W.mg_of X G a7
  have F_line_of := fun_mk (st := s_line_of) l8 c8 k8
  have b_line_of := F_line_of.binds (ps := a_line_of) fun _ _ _ _ _ _ us hl => match us, hl with | [_, _], _ => rfl
  have m_line_of := PySem.W.mg_of X G a8
  have F_parse_world := fun_mk (st := s_parse_world) l9 c9 k9
  have b_parse_world := F_parse_world.binds (ps := a_parse_world) fun _ _ _ _ _ _ us hl => match us, hl with | [_], _ => rfl
  have m_parse_world := PySem.W.mg_of X G a9
  have F_row_of := fun_mk (st := s_row_of) l10 c10 k10
  have b_row_of := F_row_of.binds (ps := a_row_of) fun _ _ _ _ _ _ us hl => match us, hl with | [_], _ => rfl
  have m_row_of := PySem.W.mg_of X G a10
  have F_law_draws := fun_mk (st := s_law_draws) l11 c11 k11
  have b_law_draws := F_law_draws.binds (ps := a_law_draws) fun _ _ _ _ _ _ us hl => match us, hl with | [_, _], _ => rfl
  have m_law_draws := PySem.W.mg_of X G a11
  have F_law_take := fun_mk (st := s_law_take) l12 c12 k12
  have b_law_take := F_law_take.binds (ps := a_law_take) fun _ _ _ _ _ _ us hl => match us, hl with | [_, _], _ => rfl
  have m_law_take := PySem.W.mg_of X G a12
  have F_law_world := fun_mk (st := s_law_world) l13 c13 k13
  have b_law_world := F_law_world.binds (ps := a_law_world) fun _ _ _ _ _ _ us hl => match us, hl with | [_, _, _], _ => rfl
  have m_law_world := PySem.W.mg_of X G a13
  have F_law_made := fun_mk (st := s_law_made) l14 c14 k14
  have b_law_made := F_law_made.binds (ps := a_law_made) fun _ _ _ _ _ _ us hl => match us, hl with | [_, _, _], _ => rfl
  have m_law_made := PySem.W.mg_of X G a14
  have F_law_outcome := fun_mk (st := s_law_outcome) l15 c15 k15
  have b_law_outcome := F_law_outcome.binds (ps := a_law_outcome) fun _ _ _ _ _ _ us hl => match us, hl with | [_], _ => rfl
  have m_law_outcome := PySem.W.mg_of X G a15
  have F_law_line := fun_mk (st := s_law_line) l16 c16 k16
  have b_law_line := F_law_line.binds (ps := a_law_line) fun _ _ _ _ _ _ us hl => match us, hl with | [_, _], _ => rfl
  have m_law_line := PySem.W.mg_of X G a16
  have F_law_number := fun_mk (st := s_law_number) l17 c17 k17
  have b_law_number := F_law_number.binds (ps := a_law_number) fun _ _ _ _ _ _ us hl => match us, hl with | [_], _ => rfl
  have m_law_number := PySem.W.mg_of X G a17
  have F_law_read := fun_mk (st := s_law_read) l18 c18 k18
  have b_law_read := F_law_read.binds (ps := a_law_read) fun _ _ _ _ _ _ us hl => match us, hl with | [_], _ => rfl
  have m_law_read := PySem.W.mg_of X G a18
  have F_law := fun_mk (st := s_law) l19 c19 k19
  have T : Txt K mg C_World C_World C_World := ⟨PySem.W.mg_none_of X G z_all, PySem.W.mg_none_of X G z_bool, PySem.W.mg_none_of X G z_int, PySem.W.mg_none_of X G z_isinstance, PySem.W.mg_none_of X G z_len, PySem.W.mg_none_of X G z_list, PySem.W.mg_none_of X G z_max, PySem.W.mg_none_of X G z_min, PySem.W.mg_none_of X G z_range, PySem.W.mg_none_of X G z_set, PySem.W.mg_none_of X G z_sorted, PySem.W.mg_none_of X G z_str, PySem.W.mg_none_of X G z_tuple, PySem.W.mg_none_of X G z_zip⟩
  have TE : TxtEW K mg NC := ⟨PySem.W.mg_of X G e_gC, e_xC, e_kC, e_bC, e_tC, exm_own e_bC e_xd e_tC e_sC⟩
  have TC : TxtC K C_World := ⟨⟨pg_World, hd_World, po_World, sa_World⟩, n_World_labels, n_World_facts, n_World_states, n_World_steps, n_World__ends⟩
  have TR : TxtL mg t_MOST_LABELS t_MOST_FACTS t_MOST_STATES := ⟨PySem.W.mg_of X G aI_MOST_LABELS, PySem.W.mg_of X G aI_MOST_FACTS, PySem.W.mg_of X G aI_MOST_STATES⟩
  have TD : TxtDg mg t_MOST_DIGITS := ⟨PySem.W.mg_of X G aI_MOST_DIGITS⟩
  subst hc_ascends
  have aT_ascends : PySem.W.tabIn K "ascends" = some (c_ascends, t_ascends) := by
    simp only [PySem.W.tabIn, a1, l1, PySem.W.fnOf, lc_ascends, pT_ascends]
  have FC : FunC K "ascends" "ascends" s_ascends f1 _ c_ascends := ⟨⟨_, _, _, _, _, _, _, _, rfl, l1, c1⟩⟩
  refine ⟨PySem.W.fnOf "law" "law" (defArgs s_law) (defBody s_law) (defScope s_law) .none kV19 dc19 pm19 an19 cd19 ct19, c_ascends, t_ascends, aT_ascends, nT_ascends, fun s u => .of_eq rfl, fun base _ _ TB => ?_⟩
  have h_num : Has P w K mg base "is_number" 1 a_is_number spNum := ⟨_, _, m_is_number, F_is_number.kp, b_is_number, ok_is_number F_is_number T⟩
  have h_asc : Has P w K mg base "ascends" 4 a_ascends (spAsc K t_ascends) := ⟨_, _, m_ascends, F_ascends.kp, b_ascends, ok_ascends FC T TB⟩
  have h_ckn : HasX P w K mg base "check_numbers" 2 a_check_numbers (spCkN NC) := ⟨_, _, m_check_numbers, F_check_numbers.kp, b_check_numbers, ok_check_numbers F_check_numbers T TE TR h_num⟩
  have h_cks : HasX P w K mg base "check_states" 5 a_check_states (spCkS K NC C_World t_ascends) := ⟨_, _, m_check_states, F_check_states.kp, b_check_states, ok_check_states F_check_states T TC TE TR h_num h_asc⟩
  have h_ckt : HasX P w K mg base "check_steps" 5 a_check_steps (spCkT K NC C_World t_ascends) := ⟨_, _, m_check_steps, F_check_steps.kp, b_check_steps, ok_check_steps F_check_steps T TC TE h_num h_asc⟩
  have h_ends : Has P w K mg base "ends_of" 1 a_ends_of (spEnds K) := ⟨_, _, m_ends_of, F_ends_of.kp, b_ends_of, ok_ends_of F_ends_of T⟩
  have h_World : HasCX P w K mg base "World" C_World 6 a_World_init (spWInit K NC C_World t_ascends) := ⟨_, _, PySem.W.mg_of X G aC_World, ⟨mk_World, a2, i2, kc_World⟩, b_World_init, ok_World_init F_World_init T TC h_ckn h_cks h_ckt h_ends⟩
  have h_draws : Has P w K mg base "_law_draws" 1 a_law_draws (spDraws K) := ⟨_, _, m_law_draws, F_law_draws.kp, b_law_draws, ok_law_draws F_law_draws T⟩
  have h_take : Has P w K mg base "_law_take" 1 a_law_take spTake := ⟨_, _, m_law_take, F_law_take.kp, b_law_take, ok_law_take F_law_take T⟩
  have h_world : Has P w K mg base "_law_world" 2 a_law_world spWorld := ⟨_, _, m_law_world, F_law_world.kp, b_law_world, ok_law_world F_law_world T h_take⟩
  have h_ln : Has P w K mg base "line_of" 1 a_line_of (spLine K) := ⟨_, _, m_line_of, F_line_of.kp, b_line_of, ok_line_of F_line_of T⟩
  have h_fmt : Has P w K mg base "format_world" 2 a_format_world (spFmtW K C_World) := ⟨_, _, m_format_world, F_format_world.kp, b_format_world, ok_format_world F_format_world T TC h_ln⟩
  have h_row : HasX P w K mg base "row_of" 1 a_row_of (spRow NC) := ⟨_, _, m_row_of, F_row_of.kp, b_row_of, ok_row_of F_row_of T TE TD⟩
  have h_prs : HasX P w K mg base "parse_world" 8 a_parse_world (spParse K NC C_World t_ascends) := ⟨_, _, m_parse_world, F_parse_world.kp, b_parse_world, ok_parse_world F_parse_world T TE TC h_row h_World h_fmt⟩
  have h_made : HasX P w K mg base "_law_made" 8 a_law_made (spMade K C_World t_ascends) := ⟨_, _, m_law_made, F_law_made.kp, b_law_made, ok_law_made F_law_made T h_World⟩
  have h_out : Has P w K mg base "_law_outcome" 9 a_law_outcome (spOutP K t_ascends) := ⟨_, _, m_law_outcome, F_law_outcome.kp, b_law_outcome, ok_law_outcome F_law_outcome T TE TC h_prs⟩
  have h_lln : Has P w K mg base "_law_line" 1 a_law_line (spLine K) := ⟨_, _, m_law_line, F_law_line.kp, b_law_line, ok_law_line F_law_line T⟩
  have h_lnm : Has P w K mg base "_law_number" 1 a_law_number spLNum := ⟨_, _, m_law_number, F_law_number.kp, b_law_number, ok_law_number F_law_number T⟩
  have h_rd : Has P w K mg base "_law_read" 2 a_law_read spRead := ⟨_, _, m_law_read, F_law_read.kp, b_law_read, ok_law_read F_law_read T h_lnm⟩
  exact ok_law F_law T h_draws h_take h_world h_made h_lln h_fmt h_out h_rd
theorem walk {l : PySem.W.OpenLaw} {q : Program} {loose : List Str} {XP : (Str → Option Value) → Heap → Prop} {YP : World → Heap → Prop} {d dA : DefRec} {K : Params → PySem.W.Frag} (hn : l.most = some 63) (hdf : d.params.defaults = [])
    (hY : ∀ (w : World) (h : Heap), YP w h → (K w.params).In h) (hA : (recsOf q).find? (fun e => e.name == ("ascends" : Str)) = some dA)
    (F : ∀ (w : World) (mg : Str → Option Value) (fa : Addr) (h : Heap), (K w.params).In h → h.Ns mainGlobals mg → mg d.name = some (.ref fa) → Top9 l.prog w (K w.params) mg fa) :
    PySem.W.WalkO q loose XP YP l.row.toRowW d [] (fun f vs => PySem.call f vs) := by
  refine Att.attach_callB hn hdf fun w s₀ s₁ mg mb fa o pm cd doc a vs ns G Y ho hd hcd hmg hobj hints hlen hbits hg => ?_
  have KX := hY w _ Y
  obtain ⟨fd, cA, tA, tA1, nT, hb, hF⟩ := F w mg fa _ KX G.T.g hmg
  obtain ⟨C, hT⟩ := PySem.W.tab_of G.T KX hA tA1
  refine LamX.law_callTs (cs := [(cA, tA)]) (k := 10) (sp := spLaw (K w.params) tA) (CX := CX0) KX G.T.g G.T.b G.T.builtins G.T.nolimit hg (fun p hp => ?_) (fun p hp => ?_) (fun p hp => ?_) G.T.bmain hobj hints (Nat.le_trans hlen (by decide)) ⟨rfl, by decide, by decide⟩ (fun base b1 b2 TB => ?_) hb (fun H hH hS => ?_) fun H e s' z => z
  · rw [List.mem_singleton.mp hp]; exact hT
  · rw [List.mem_singleton.mp hp]; exact nT
  · rw [List.mem_singleton.mp hp]; exact C
  · have tb := TB _ List.mem_cons_self
    exact hF base b1 b2 ⟨tb.code, tb.bm, tb.gP⟩
  · exact ⟨a, ns, rfl, hS, ⟨_, hH _ List.mem_cons_self, trivial⟩, hlen, fun _ => rfl⟩
end Fw

set_option maxRecDepth 100000
open PySem PySem.W PyProof.Rows
set_option maxHeartbeats 0 in
theorem PySem.Challenge.cw_fixworlds_k09_world_texts_holds : PySem.Challenge.rw_fixworlds_k09_world_texts.Holds := by
  w_on; o_law; k_head; (case hw => w_witness2)
  k_fill
  refine Fw.walk (l := PySem.Challenge.rw_fixworlds_k09_world_texts) rfl rfl (fun w h Y => PySem.W.kIn_of Y) rfl ?F
  case F =>
    intro w mg fa h KX G hmg
    refine' Fw.all_mk KX G hmg ?aC_World ?a0 ?l0 ?c0 ?k0 ?a1 ?l1 ?c1 ?k1 ?a2 ?i2 ?l2 ?c2 ?k2 ?a3 ?l3 ?c3 ?k3 ?a4 ?l4 ?c4 ?k4 ?a5 ?l5 ?c5 ?k5 ?a6 ?l6 ?c6 ?k6 ?a7 ?l7 ?c7 ?k7 ?a8 ?l8 ?c8 ?k8 ?a9 ?l9 ?c9 ?k9 ?a10 ?l10 ?c10 ?k10 ?a11 ?l11 ?c11 ?k11 ?a12 ?l12 ?c12 ?k12 ?a13 ?l13 ?c13 ?k13 ?a14 ?l14 ?c14 ?k14 ?a15 ?l15 ?c15 ?k15 ?a16 ?l16 ?c16 ?k16 ?a17 ?l17 ?c17 ?k17 ?a18 ?l18 ?c18 ?k18 ?a19 ?l19 ?c19 ?k19 ?pg_World ?hd_World ?po_World ?sa_World ?mk_World ?kc_World ?n_World_labels ?n_World_facts ?n_World_states ?n_World_steps ?n_World__ends ?z_all ?z_bool ?z_int ?z_isinstance ?z_len ?z_list ?z_max ?z_min ?z_range ?z_set ?z_sorted ?z_str ?z_tuple ?z_zip ?aI_MOST_LABELS ?aI_MOST_FACTS ?aI_MOST_STATES ?aI_MOST_DIGITS ?e_gC ?e_xC ?e_kC ?e_bC ?e_tC ?e_sC ?e_xd ?hc_ascends ?lc_ascends ?pT_ascends ?nT_ascends
    (case aC_World => k_is)
    (case a0 => k_is)
    (case l0 => k_is)
    (case c0 => k_is)
    (case k0 => k_is)
    (case a1 => k_is)
    (case l1 => k_is)
    (case c1 => k_is)
    (case k1 => k_is)
    (case a2 => k_is)
    (case i2 => k_is)
    (case l2 => k_is)
    (case c2 => k_is)
    (case k2 => k_is)
    (case a3 => k_is)
    (case l3 => k_is)
    (case c3 => k_is)
    (case k3 => k_is)
    (case a4 => k_is)
    (case l4 => k_is)
    (case c4 => k_is)
    (case k4 => k_is)
    (case a5 => k_is)
    (case l5 => k_is)
    (case c5 => k_is)
    (case k5 => k_is)
    (case a6 => k_is)
    (case l6 => k_is)
    (case c6 => k_is)
    (case k6 => k_is)
    (case a7 => k_is)
    (case l7 => k_is)
    (case c7 => k_is)
    (case k7 => k_is)
    (case a8 => k_is)
    (case l8 => k_is)
    (case c8 => k_is)
    (case k8 => k_is)
    (case a9 => k_is)
    (case l9 => k_is)
    (case c9 => k_is)
    (case k9 => k_is)
    (case a10 => k_is)
    (case l10 => k_is)
    (case c10 => k_is)
    (case k10 => k_is)
    (case a11 => k_is)
    (case l11 => k_is)
    (case c11 => k_is)
    (case k11 => k_is)
    (case a12 => k_is)
    (case l12 => k_is)
    (case c12 => k_is)
    (case k12 => k_is)
    (case a13 => k_is)
    (case l13 => k_is)
    (case c13 => k_is)
    (case k13 => k_is)
    (case a14 => k_is)
    (case l14 => k_is)
    (case c14 => k_is)
    (case k14 => k_is)
    (case a15 => k_is)
    (case l15 => k_is)
    (case c15 => k_is)
    (case k15 => k_is)
    (case a16 => k_is)
    (case l16 => k_is)
    (case c16 => k_is)
    (case k16 => k_is)
    (case a17 => k_is)
    (case l17 => k_is)
    (case c17 => k_is)
    (case k17 => k_is)
    (case a18 => k_is)
    (case l18 => k_is)
    (case c18 => k_is)
    (case k18 => k_is)
    (case a19 => k_is)
    (case l19 => k_is)
    (case c19 => k_is)
    (case k19 => k_is)
    (case pg_World => k_is)
    (case hd_World => k_is)
    (case po_World => k_is)
    (case sa_World => k_is)
    (case mk_World => k_is)
    (case kc_World => k_is)
    (case n_World_labels => k_is)
    (case n_World_facts => k_is)
    (case n_World_states => k_is)
    (case n_World_steps => k_is)
    (case n_World__ends => k_is)
    (case z_all => k_is)
    (case z_bool => k_is)
    (case z_int => k_is)
    (case z_isinstance => k_is)
    (case z_len => k_is)
    (case z_list => k_is)
    (case z_max => k_is)
    (case z_min => k_is)
    (case z_range => k_is)
    (case z_set => k_is)
    (case z_sorted => k_is)
    (case z_str => k_is)
    (case z_tuple => k_is)
    (case z_zip => k_is)
    (case aI_MOST_LABELS => k_is)
    (case aI_MOST_FACTS => k_is)
    (case aI_MOST_STATES => k_is)
    (case aI_MOST_DIGITS => k_is)
    (case e_gC => k_is)
    (case e_xC => k_exc)
    (case e_kC => k_is)
    (case e_bC => k_is)
    (case e_tC => k_is)
    (case e_sC => first | rfl | k_is)
    (case e_xd => k_is)
    (case hc_ascends => rfl)
    (case lc_ascends => k_is)
    (case pT_ascends => rfl)
    (case nT_ascends => first | rfl | kernel_rfl | decide)

