import PyProof.Rows.All
import Wide.All
import OpenK.AllK
import Wide.FinOn
import PyProof.EqAt
import PyProof.EqKinds
import PyProof.TupleCall
import HandS.ForMost
import HandS.ForExc
import HandS.Strs
import HandS.SetFor
import HandS.SetBool
import HandS.Walk
import HandS.TupAny
import HandS.Rev
import HandS.RevRange
import HandS.IsInst
import HandS.SortInts
import HandS.ExcIs
import HandS.Flow
import HandS.DictComp
import HandS.SortKw
import KE.DataMinMax
import PySem.Challenge.RW_fixworlds_k36_alternation
set_option Elab.async false
set_option linter.all false
set_option maxRecDepth 100000
set_option maxHeartbeats 4000000
/-! two rules for sets of ints: made of a list, and by a comprehension -/
namespace Fw
open PySem PySem.Spec PyProof.Rows L2
abbrev freshSet (w : World) : Obj :=
  { cls := .type "set", dict := none, data := .set #[] 0 (.fresh 0 0 (!w.params.followText "set-order")) }
section
variable {P : Program} {w : World} {A : Around} {E : Value → Shared → Prop} {s : Shared}
/-- set(xs), xs a list of ints -/
theorem setOfList {l : Addr} {its : Array Value} (ns : List Int) {Q : Value → Shared → Prop}
    (quiet : A.handled = none) (lst : s.heap.IsList l its) (iv : IntsAre its.toList ns) (few : ns.length + 1 < scanBound)
    (next : ∀ (h' : Heap) (tk c : Nat), SetR w h' s.heap.objs.size (fun j => decide (j ∈ ns)) c → c ≤ ns.length →
      (∀ b o, s.heap.get? b = some o → h'.get? b = some o) → Q (.ref s.heap.objs.size) { s with heap := h', toks := tk }) :
    wpAny (model P w) A (call (.type "set") [.ref l]) Q E s := by
  have many : its.size = ns.length := by
    rw [← Array.length_toList]
    exact IntsAre.length iv
  have f1 := F.called_set.mro
  obtain ⟨c, tl, hmro⟩ := f1
  have f2 := F.called_set.made
  have f3 := F.called_set.sub
  refine wpAny_call (codeAny_of_tree ?_)
  show wpAny _ _ (callAny (.type "set") _) _ _ _
  refine wpAny_pure ⟨Code.quiet_builtin _ (by decide +kernel), codeAny_builtin F.entry_type_call ?_⟩
  rw [Around.under_plain (weight_type_call_type "set" [.ref l] []) rfl]
  have f4 := F.called_set.notType
  have f5 := F.called_set.canCreate
  have f6 := F.typeCall_set_1 (.ref l)
  repeat (any_goals (first | assumption | wp_step))
  generalize hN : s.heap.objs.size = N
  refine codeAny_mono (code_set_led1 (.ref l) (E := E)
    (Q₁ := fun v t => v = .ref N ∧ t = { s with heap := s.heap.push (freshSet w) }) ⟨by rw [hN], rfl⟩) fun r s₁ hr => ?_
  rcases r with e | fl
  · exact hr
  · cases fl
    case ret v =>
      obtain ⟨rfl, rfl⟩ := hr
      have got : (s.heap.push (freshSet w)).get? N = some (freshSet w) := by
        rw [← hN]
        exact Heap.get?_push_size _ rfl
      have ty : Shared.TypeIs { s with heap := s.heap.push (freshSet w) } (.ref N) "set" := ⟨_, got, rfl⟩
      have g1 := F.called_set.init.lookup
      have g2 := F.called_set.init.bind (.ref N)
      repeat (any_goals (first | assumption | wp_step))
      refine codeAny_mono (codeAny_call_builtin (R := wants (fun v t => v = .none ∧ ∃ h' tk c, t = { s with heap := h', toks := tk } ∧
          SetR w h' N (fun j => decide (j ∈ ns)) c ∧ c ≤ ns.length ∧ (∀ b o, s.heap.get? b = some o → h'.get? b = some o)) E)
          F.called_set.init.plain F.entry_set_init (check_set_init_1 ty ?_)) fun r₂ s₂ hr₂ => ?_
      · obtain ⟨ol, hol, hcl, nl, hdl⟩ := lst
        obtain ⟨ocls, odict, odata, oslots⟩ := ol
        simp only at hcl hdl
        subst hcl
        subst hdl
        have hol' : (s.heap.push (freshSet w)).get? l = some { cls := .type "list", dict := odict, data := .seq its nl, slots := oslots } :=
          Heap.get?_push_of_some _ hol
        have k1 := F.sub_list_set
        have k2 := F.sub_list_frozenset
        have k3 : (Value.type "list" == Value.type "dict") = false := by decide
        have lst1 : (s.heap.push (freshSet w)).IsList l its := ⟨_, hol', rfl, nl, rfl⟩
        unfold Builtin.«set.__init__» noKeywords Builtin.Frozenset.updateFrom
        generalize hPI : pyIter = PI
        wp_walk
        subst hPI
        refine wpAny_pyIter_list lst1 (wpAny_bind (wpAny_runValue ?_))
        have lN : l < N := by
          rw [← hN]
          exact Heap.lt_size hol
        have quiet3 : A.in1.in1.in1.handled = none := by simp [quiet]
        have size1 : (s.heap.push (freshSet w)).objs.size = N + 1 := by rw [Heap.size_push, hN]
        have l1 : l ≠ (s.heap.push (freshSet w)).objs.size := by
          rw [size1]
          exact Nat.ne_of_lt (Nat.lt_succ_of_lt lN)
        have n1 : N ∉ [(s.heap.push (freshSet w)).objs.size, l] := by
          rw [size1]
          simp only [List.mem_cons, List.not_mem_nil, or_false, not_or]
          exact ⟨Nat.ne_of_lt (Nat.lt_succ_self _), Nat.ne_of_gt lN⟩
        refine set_update_ints ((Walks.list quiet3 _ l l1 its).toS) N n1 ns many few (fun i v hv => ?_) (its.size - 0) 0 _ (by omega) (Nat.zero_le _)
          ⟨⟨_, Heap.get?_push_size _ rfl, rfl, rfl⟩, lst1.push _⟩ ⟨0, Nat.le_refl 0, setR_new_at (Heap.get?_push_of_some _ got)⟩ fun s' c' hm hc' hS' => ?_
        · have hi : i < ns.length := by
            rw [← many]
            exact (Array.getElem?_eq_some_iff.mp hv).1
          obtain ⟨t, e⟩ := PyProof.Rows.IntsAre.int_at iv i v (by rw [Array.getElem?_toList]; exact hv)
          refine ⟨ns[i], t, List.getElem?_eq_getElem hi, ?_⟩
          rw [e, List.getD_eq_getElem?_getD, List.getElem?_eq_getElem hi]
          rfl
        · obtain ⟨h', g2, d', tk', os'⟩ := s'
          obtain rfl : g2 = s.gens := hm.gens
          obtain rfl : d' = s.drawn := hm.drawn
          obtain rfl : os' = s.os := hm.os
          show wpAny _ _ _ _ _ _
          refine wpAny_pure ?_
          show wpAny _ _ (ret Value.none) _ _ _
          rw [many] at hc'
          refine wpAny_pure ⟨rfl, h', tk', c', rfl, hS', hc', fun b o e => ?_⟩
          have bN : b < N := by
            rw [← hN]
            exact Heap.lt_size e
          refine hm.heap b o ?_ (Heap.get?_push_of_some _ (Heap.get?_push_of_some _ e))
          rw [size1]
          simp only [List.mem_cons, List.not_mem_nil, or_false, not_or]
          exact ⟨Nat.ne_of_lt bN, Nat.ne_of_lt (Nat.lt_succ_of_lt bN)⟩
      · rcases r₂ with e | fl₂
        · exact hr₂
        · cases fl₂
          case ret r =>
            obtain ⟨rfl, h', tk, c', rfl, hS', hc', hk'⟩ := hr₂
            repeat (any_goals (first | assumption | wp_step))
            subst hN
            exact next _ _ _ hS' hc' hk'
          all_goals exact hr₂.elim
    all_goals exact hr.elim
end
end Fw

set_option maxRecDepth 100000
set_option maxHeartbeats 4000000
namespace Fw
open PySem PySem.Spec PyProof.Rows L2
theorem intsOfVals : ∀ {ns : List Int} {us : List Value}, Vals (ns.map V.int) us → IntsAre us ns
  | [], _, .nil => .nil
  | k :: _, _, .cons r t => by
    obtain ⟨tk, rfl⟩ := r
    exact .cons k tk (intsOfVals t)
theorem nodup_le : ∀ {l Vs : List Int}, l.Nodup → (∀ x ∈ l, x ∈ Vs) → l.length ≤ Vs.length
  | [], Vs, _, _ => Nat.zero_le _
  | a :: l, Vs, nd, h => by
    have nd' := List.nodup_cons.mp nd
    have ha := h a List.mem_cons_self
    have ih := nodup_le (Vs := Vs.erase a) nd'.2 fun x hx =>
      (List.mem_erase_of_ne (fun e => nd'.1 (by rw [← e]; exact hx))).mpr (h x (List.mem_cons_of_mem _ hx))
    have := List.length_erase_of_mem ha
    have : 0 < Vs.length := List.length_pos_of_mem ha
    rw [List.length_cons]
    omega
section
variable {X : Cx}
/-- set(xs), xs a list of ints -/
def rSetL (K : PySem.W.Frag) (w : World) : List V → Hp → VK → Prop := fun vs H Q => ∃ (l : Addr) (ns : List Int),
  vs = [V.ref l] ∧ SqL K H l (ns.map V.int) ∧ ns.length ≤ 4000 ∧
  ∀ p c, H p = none → c ≤ ns.length → (∀ Vs : List Int, (∀ x ∈ ns, x ∈ Vs) → c ≤ Vs.length) → Q (.ref p) (upd H p (SetO w p (fun j => decide (j ∈ ns)) c))
theorem call_setL (quiet : X.calm = true) : CallR X (.type "set") (rSetL X.K X.w) := by
  intro pins s σ H vs us Q I r h
  obtain ⟨l, ns, rfl, hl, few, q⟩ := h
  obtain ⟨its, rv, pl, _⟩ := I.list hl
  rw [Vals.ref1 r]
  have iv := intsOfVals rv
  have isl : s.heap.IsList l its.toArray := by
    obtain ⟨o, n, e1, e2, e3, e4⟩ := pl
    exact ⟨o, e1, e2, n, e4⟩
  refine setOfList ns (I.ok.hd quiet) isl (by simpa using iv) (Nat.lt_of_le_of_lt (Nat.succ_le_succ few) (by decide)) fun h' tk c R hc kp => ?_
  have fr : H s.heap.objs.size = none := I.hok.fresh (Nat.le_refl _)
  refine ⟨.ref _, _, I.laid (t' := tk) kp (Nat.le_refl _) (setO_new R), rfl, q _ c fr hc fun Vs hV => ?_⟩
  obtain ⟨o, es, ep, t, _, _, _, _, nd, mem, _, _, size, _⟩ := R
  rw [← size, ← Array.length_toList, ← List.length_map (f := keyOf)]
  exact nodup_le nd fun x hx => hV x (of_decide_eq_true ((mem x).mpr hx))
/-- what a comprehension of ints into a set asks: W tells the turns, D is the new set -/
def tSci (w : World) (wi : TI) (g : TG) (tt : TT) (te : TE) (vs : List Nat) : TE := fun σ H Q => wi σ H fun J H1 => ∀ D, H1 D = none →
  ∃ W : Nat → Nat → Hp → Prop, (∃ m, W 0 m (upd H1 D (SetO w D (fun _ => false) 0))) ∧ ∀ i m H, W i m H →
    (J.stop i H ∧ Q (.ref D) H) ∨ (J.go i H ∧ ∃ Nx : Hp → Prop, (∀ H', Nx H' → ∃ m', m' < m ∧ W (i + 1) m' H') ∧
      ∀ x H', J.yld i H x H' → g x (wipe σ vs) H' fun σ2 H2 => wipe σ2 vs = wipe σ vs ∧ tt σ2 H2 fun b H3 =>
        if b = true then te σ2 H3 fun y H4 => ∃ (k : Int) (S : Int → Bool) (n : Nat), y = .int k ∧ H4 D = some (SetO w D S n) ∧ n + 1 < scanBound ∧
          Nx (upd H4 D (SetO w D (fun j => S j || decide (j = k)) (if S k = true then n else n + 1))) else Nx H3)
theorem addInt {pins : List (Addr × Obj)} {σ : L2.St} {H : Hp} {s : Shared} {E : Value → Shared → Prop} {D : Addr} {S : Int → Bool} {n : Nat} {k : Int} {tk : Tok} {Q : Value → Shared → Prop}
    (I : Inv X pins σ H s) (at_ : H D = some (SetO X.w D S n)) (room : n + 1 < scanBound)
    (next : ∀ s', Inv X pins σ (upd H D (SetO X.w D (fun j => S j || decide (j = k)) (if S k = true then n else n + 1))) s' → Q .none s') :
    wpAny (model X.prog X.w) X.A (call (.builtin "set.add") [.ref D, .int k tk]) Q E s := by
  refine setR_add (setO_get I at_) room fun h' sb R => next _ ?_
  have there : ∃ u, h'.get? D = some u := by
    obtain ⟨o, _, _, _, e, _⟩ := id R
    exact ⟨o, e⟩
  exact I.write (e := D) (t' := s.toks + 1) (by rw [at_]; trivial) (.inl rfl) (fun b u hb hu => (sb.2 b hb).trans hu) there (setO_new R)
abbrev inner (X : Cx) (s : Shared) (scope : Scope) : Env :=
  compEnvC scope (cellsFrom (s.heap.objs.size + 1) scope.names (cloFrom X.env.cells scope.names [])) s.heap.objs.size X.env
theorem setComp {pins : List (Addr × Obj)} {s : Shared} {σ : L2.St} {H : Hp} {Q : VK} {elt tg iter : Expr} {ifs : List Expr} {scope : Scope} {own : List (PySem.Str × Nat)} {pos pos' : Pos} {wi : TI} {g : TG} {tt : TT} {te : TE}
    {use : Option (Value → Sem Unit)} {Qf : Value → Shared → Prop}
    (quiet : X.calm = true) (nd : X.N.Nodup) (I : Inv X pins σ H s) (ii : PI X tg iter wi) (blk : BlkOk X.N X.env.scope scope own)
    (gg : ∀ s H C cl fp, PG (X.blk s H scope (compEnvC scope cl C X.env) fp) tg g)
    (tts : ∀ s H C cl fp, PTs (X.blk s H scope (compEnvC scope cl C X.env) fp) ifs tt)
    (ee : ∀ s H C cl fp, PE (X.blk s H scope (compEnvC scope cl C X.env) fp) elt te)
    (fold : ∀ x, foldedSetIterable iter X.env x = pure x) (h : tSci X.w wi g tt te (own.map (·.2)) σ H Q)
    (fin : ∀ D C s' m H', Inv X pins σ H' s' → Q (.ref D) H' → s'.heap.Ns C m → FpOk X pins H' C →
      compPost (model X.prog X.w) X.A X.xe use Qf (.ref D) C (.ok .next) s') :
    wpAny (model X.prog X.w) X.A (comprehension (.SetComp elt [⟨tg, iter, ifs, 0⟩] scope pos) scope X.env pos' (newSet (.type "set")) false (eval iter X.env) use) Qf X.xe s := by
  have clo : ∀ y ∈ scope.names, y.2 = .free → ∃ c, X.env.cells.lookup y.1 = some c := fun y hy e =>
    (blk.free y hy e).elim (fun k => I.ok.has _ (.inl k)) fun k => I.ok.has _ (.inr k)
  refine wpAny_comprehension_free (use := use) rfl fold (closure_ok clo) blk.kind (fun y hy e => by rw [blk.uniq y hy, e])
    (thn (ii.run pins s σ H _ I h) fun xv s1 hx => thn hx fun itv s2 h2 => ?_)
  obtain ⟨it, fp, tn, J, H2, rfl, I2, T, t0, fp2, q⟩ := h2
  refine PpSet.newSet_ok (newEnv_comp ?_)
  generalize eD : s2.heap.objs.size = D
  obtain ⟨W, ⟨m0, w0⟩, turn⟩ := q D (I2.hok.fresh (Nat.le_of_eq eD))
  generalize e3 : ({ s2 with heap := s2.heap.push (freshSet X.w) } : Shared) = s3
  have heap3 : s3.heap = s2.heap.push (freshSet X.w) := by rw [← e3]
  have up3 : ∀ b o, s2.heap.get? b = some o → s3.heap.get? b = some o := fun b o e => by
    rw [heap3]
    exact Heap.get?_push_of_some _ e
  generalize eH : upd H2 D (SetO X.w D (fun _ => false) 0) = H3 at w0
  have I3 : Inv X pins σ H3 s3 := by
    rw [← eH, ← e3, ← eD]
    exact I2.laid (t' := s2.toks) (fun b o e => Heap.get?_push_of_some _ e) (Nat.le_refl _) (setO_new (setR_fresh X.w))
  have fp3 : ∀ b ∈ fp, FpOk X pins H3 b ∧ b < s3.heap.objs.size := fun b hb => by
    obtain ⟨o, e, _⟩ := T.obj _ _ t0 b hb
    have lt := Heap.lt_size e
    refine ⟨⟨?_, (fp2 b hb).2⟩, ?_⟩
    · rw [← eH, upd_ne (show b ≠ D by rw [← eD]; exact Nat.ne_of_lt lt)]
      exact (fp2 b hb).1
    · rw [heap3, Heap.size_push]
      exact Nat.lt_succ_of_lt lt
  have t3 : tn 0 s3.heap := T.keep _ _ _ t0 fun b _ o e => up3 b o e
  have I4 := block_start I3 blk nd fp3
  have g4 := gg s3 H3 s3.heap.objs.size (cellsFrom (s3.heap.objs.size + 1) scope.names (cloFrom X.env.cells scope.names [])) fp
  have t4 := tts s3 H3 s3.heap.objs.size (cellsFrom (s3.heap.objs.size + 1) scope.names (cloFrom X.env.cells scope.names [])) fp
  have e4 := ee s3 H3 s3.heap.objs.size (cellsFrom (s3.heap.objs.size + 1) scope.names (cloFrom X.env.cells scope.names [])) fp
  show codeAny _ _ (.compStart (.SetComp elt [⟨tg, iter, ifs, 0⟩] scope pos) 0 (.ref it) (.ref D)
      (compEnvC scope (cellsFrom (s3.heap.objs.size + 1) scope.names (cloFrom X.env.cells scope.names [])) s3.heap.objs.size X.env))
    (compPost (model X.prog X.w) X.A X.xe use Qf (.ref D) s3.heap.objs.size) { s3 with heap := pushCells (s3.heap.push { cls := .type "dict", data := .dict #[] }) scope.names }
  generalize eC : compEnvC scope (cellsFrom (s3.heap.objs.size + 1) scope.names (cloFrom X.env.cells scope.names [])) s3.heap.objs.size X.env = ce at I4 g4 t4 e4 ⊢
  have locs : ce.locals = s3.heap.objs.size := by
    subst eC
    rfl
  generalize eS : ({ s3 with heap := pushCells (s3.heap.push { cls := .type "dict", data := .dict #[] }) scope.names } : Shared) = s4 at I4 ⊢
  have ts4 : tn 0 s4.heap := T.keep _ _ _ t3 fun b _ o e => by
    rw [← eS]
    exact pushCells_keeps _ _ _ _ (Heap.get?_push_of_some _ e)
  have held : ∀ {σ' : L2.St} {H' : Hp} {s' : Shared}, Inv (X.blk s3 H3 scope ce fp) [] σ' H' s' → (∀ b ∈ fp, H' b = none) →
      ∀ b ∈ fp, FpOk (X.blk s3 H3 scope ce fp) [] H' b := fun {σ' H' s'} I' hn b hb =>
    have x := I'.ok.exf b hb
    ⟨hn b hb, x.1, I'.ok.exfs b hb, .inl hb, fun y c e => x.2 y c e, fun p hp => by cases hp⟩
  have body : codeAny (model X.prog X.w) X.A (.compLoop (.SetComp elt [⟨tg, iter, ifs, 0⟩] scope pos) 0 (.ref it) (.ref D) ce)
      (compPost (model X.prog X.w) X.A X.xe use Qf (.ref D) s3.heap.objs.size) s4 := by
    refine PpSet.compLoopS_any (fun n t => ∃ i G, Inv (X.blk s3 H3 scope ce fp) [] (wipe σ (own.map (·.2))) G t ∧ tn i t.heap ∧ (∀ b ∈ fp, G b = none) ∧ W i n G)
      ?_ m0 ⟨0, H3, I4, ts4, fun b hb => (fp3 b hb).1.1, w0⟩
    rintro n s5 ⟨i, H5, I5, t5, free5, w5⟩
    rcases turn i n H5 w5 with ⟨stop, qq⟩ | ⟨go, Nx, dec, step⟩
    · refine thnF (T.done (X.blk s3 H3 scope ce fp) rfl rfl rfl quiet i [] s5 _ H5 (fun _ _ => False) I5 (held I5 free5) t5 stop) fun r s6 ⟨hr, I6⟩ => ?_
      subst hr
      have free6 : H5 ce.locals = none := I6.free
      obtain ⟨m, ns6, _⟩ := I6.loc
      have ns6' : s6.heap.Ns ce.locals m := ns6
      rw [locs] at free6 ns6'
      have I7 : Inv X pins σ H5 s6 := I3.call' (ch := fp) I6.os I6.base I6.hok I6.bare fun b hb =>
        have z := (fp3 b hb).1
        ⟨z.2.2.2.1, z.2.1, z.2.2.2.2.1, z.2.2.2.2.2⟩
      exact fin D s3.heap.objs.size s6 m H5 I7 qq ns6' (I3.fpOk (Nat.le_refl _) free6)
    · refine thnF (T.item (X.blk s3 H3 scope ce fp) rfl rfl rfl quiet i [] s5 _ H5 (fun _ _ => False) I5 (held I5 free5) t5 go) fun r s6 ⟨u, hr, h6⟩ => ?_
      subst hr
      refine thnF h6 fun _ s7 ⟨x, H7, I7, rx, y7, t7, free7⟩ => ?_
      refine thnF (g4.run _ s7 _ H7 x u _ (I7.pinned (held I7 free7) (T.obj _ _ t7)) rx (step x H7 y7)) fun _ s8 ⟨σ8, H8, I8, wi8, q8⟩ => ?_
      refine thnF (t4.run _ s8 σ8 H8 _ I8 q8) fun b s9 ⟨H9, I9, q9⟩ => ?_
      have over : ∀ {t : Shared} {G : Hp}, Inv (X.blk s3 H3 scope ce fp) ([] ++ pinsAt fp s7.heap) σ8 G t → Nx G →
          ∃ m, m < n ∧ ∃ i G, Inv (X.blk s3 H3 scope ce fp) [] (wipe σ (own.map (·.2))) G t ∧ tn i t.heap ∧ (∀ b ∈ fp, G b = none) ∧ W i m G := fun {t G} It nx => by
        obtain ⟨m', lt, w'⟩ := dec G nx
        have same : ∀ b ∈ fp, ∀ o, s7.heap.get? b = some o → t.heap.get? b = some o ∧ G b = none := fun b hb o e =>
          have z := It.pin (b, o) (List.mem_append_right _ (List.mem_append_right _ (mem_pinsAt hb e)))
          ⟨z.1, z.2.1⟩
        refine ⟨m', lt, i + 1, G, (It.unpinned (pins := [])).weak (by rw [← wi8, wipe_length]) (fun j v e => ?_), T.keep _ _ _ t7 fun b hb o e => (same b hb o e).1, fun b hb => ?_, w'⟩
        · rw [← wi8] at e
          exact (wipe_some e).1
        · obtain ⟨o, e, _⟩ := T.obj _ _ t7 b hb
          exact (same b hb o e).2
      cases b
      · simp only [Bool.false_eq_true, if_false] at q9 ⊢
        exact over I9 q9
      · simp only [if_true] at q9 ⊢
        refine thnF (e4.run _ s9 σ8 H9 _ I9 q9) fun z s10 ⟨yv, H10, I10, rz, k, S0, n0, ey, hD, room, nx⟩ => ?_
        subst ey
        obtain ⟨tk, rfl⟩ : ∃ tk, z = Value.int k tk := rz
        exact addInt (X := X.blk s3 H3 scope ce fp) I10 hD room fun s11 I11 => over I11 nx
  exact PpSet.codeAny_compStart_set body (T.self X.A 0 _ _ _ ts4 body)
/-- {e for target in iter if test}, e an int -/
theorem pe_sci {elt tg iter : Expr} {ifs : List Expr} {scope : Scope} {own : List (PySem.Str × Nat)} {pos : Pos} {wi : TI} {g : TG} {tt : TT} {te : TE} (quiet : X.calm = true) (nd : X.N.Nodup) (ii : PI X tg iter wi) (blk : BlkOk X.N X.env.scope scope own)
    (gg : ∀ (s : Shared) (H : Hp) (C : Addr) (cl : List (PySem.Str × Addr)) (fp : List Addr), PG (X.blk s H scope (compEnvC scope cl C X.env) fp) tg g)
    (tts : ∀ (s : Shared) (H : Hp) (C : Addr) (cl : List (PySem.Str × Addr)) (fp : List Addr), PTs (X.blk s H scope (compEnvC scope cl C X.env) fp) ifs tt)
    (ee : ∀ (s : Shared) (H : Hp) (C : Addr) (cl : List (PySem.Str × Addr)) (fp : List Addr), PE (X.blk s H scope (compEnvC scope cl C X.env) fp) elt te)
    (fold : ∀ x, foldedSetIterable iter X.env x = pure x := by intro _; rfl) :
    PE X (.SetComp elt [⟨tg, iter, ifs, 0⟩] scope pos) (tSci X.w wi g tt te (own.map (·.2))) := by
  constructor
  intro pins s σ H Q I h
  rw [PpSet.eval_SetComp]
  refine setComp quiet nd I ii blk gg tts ee fold h fun D C s' m H' I' q hn f => ⟨m, hn, fun h'' sb => ⟨.ref D, H', ?_, rfl, q⟩⟩
  exact I'.turned (t' := s'.toks) (fun b o hb e => (sb.2 b hb).trans e) f.1 f.2.1 f.2.2.2.1 f.2.2.2.2.1 f.2.2.2.2.2
end
/-- over any walk: Pv by the turn and the heap -/
theorem sci_it {J : It} {n : Nat} {G : Hp → Prop} {Y : Nat → Hp → V → Hp → Prop} (w : Walk J n G Y) {wd : World} {g : TG} {tt : TT} {te : TE} {vs : List Nat} {σ : L2.St} {H1 : Hp} {D : Addr} {Qd : Hp → Prop} (Pv : Nat → Hp → Prop)
    (h0 : Pv 0 (upd H1 D (SetO wd D (fun _ => false) 0))) (hG : ∀ i H, i ≤ n → Pv i H → G H)
    (hs : ∀ i x H H', i < n → Pv i H → Y i H x H' → g x (wipe σ vs) H' fun σ2 H2 => wipe σ2 vs = wipe σ vs ∧ tt σ2 H2 fun b H3 =>
      if b = true then te σ2 H3 fun y H4 => ∃ (k : Int) (S : Int → Bool) (m : Nat), y = .int k ∧ H4 D = some (SetO wd D S m) ∧ m + 1 < scanBound ∧
        Pv (i + 1) (upd H4 D (SetO wd D (fun j => S j || decide (j = k)) (if S k = true then m else m + 1))) else Pv (i + 1) H3) (hd : ∀ H, Pv n H → Qd H) :
    ∃ W : Nat → Nat → Hp → Prop, (∃ m, W 0 m (upd H1 D (SetO wd D (fun _ => false) 0))) ∧ ∀ i m H, W i m H →
      (J.stop i H ∧ Qd H) ∨ (J.go i H ∧ ∃ Nx : Hp → Prop, (∀ H', Nx H' → ∃ m', m' < m ∧ W (i + 1) m' H') ∧ ∀ x H', J.yld i H x H' → g x (wipe σ vs) H' fun σ2 H2 => wipe σ2 vs = wipe σ vs ∧ tt σ2 H2 fun b H3 =>
        if b = true then te σ2 H3 fun y H4 => ∃ (k : Int) (S : Int → Bool) (m : Nat), y = .int k ∧ H4 D = some (SetO wd D S m) ∧ m + 1 < scanBound ∧
          Nx (upd H4 D (SetO wd D (fun j => S j || decide (j = k)) (if S k = true then m else m + 1))) else Nx H3) := by
  refine ⟨fun i m H => m + i = n ∧ Pv i H, ⟨n, rfl, h0⟩, fun i m H hW => ?_⟩
  obtain ⟨e, p⟩ := hW
  have q := hG i H (by omega) p
  cases m with
  | zero =>
    have e2 : i = n := by omega
    subst e2
    exact .inl ⟨w.stops H q, hd H p⟩
  | succ m =>
    have lt : i < n := by omega
    exact .inr ⟨w.goes i H lt q, Pv (i + 1), fun H' p' => ⟨m, Nat.lt_succ_self m, by omega, p'⟩, fun x H' y => hs i x H H' lt p (w.yields i H x H' lt q y)⟩
end Fw

/-! Statements as trees, and what the passes over their parts find. Plain Lean. -/
namespace Fw
inductive Leaf | has | lacks | var
  deriving DecidableEq
inductive One | some | all | least | most
  deriving DecidableEq
def One.bind : One → Bool
  | .least => true
  | .most => true
  | _ => false
inductive F
  | nul (b : Bool)
  | leaf (k : Leaf) (n : Int)
  | two (b : Bool) (f g : F)
  | one (k : One) (n : Int) (f : F)
  deriving DecidableEq
inductive Hd
  | nul (b : Bool)
  | leaf (k : Leaf) (n : Int)
  | two (b : Bool)
  | one (k : One) (n : Int)
  deriving DecidableEq
def F.hd : F → Hd
  | .nul b => .nul b
  | .leaf k n => .leaf k n
  | .two b _ _ => .two b
  | .one k n _ => .one k n
def F.size : F → Nat
  | .nul _ => 1
  | .leaf _ _ => 1
  | .two _ f g => f.size + g.size + 1
  | .one _ _ f => f.size + 1
def F.depth : F → Nat
  | .nul _ => 1
  | .leaf _ _ => 1
  | .two _ f g => max f.depth g.depth + 1
  | .one _ _ f => f.depth + 1
theorem F.size_pos (t : F) : 0 < t.size := by cases t <;> simp [F.size]
theorem F.size_depth : ∀ t : F, t.size + 1 ≤ 2 ^ t.depth
  | .nul _ => by simp [F.size, F.depth]
  | .leaf _ _ => by simp [F.size, F.depth]
  | .two _ f g => by
    have h1 := F.size_depth f
    have h2 := F.size_depth g
    have m1 : 2 ^ f.depth ≤ 2 ^ max f.depth g.depth := Nat.pow_le_pow_right (by decide) (Nat.le_max_left _ _)
    have m2 : 2 ^ g.depth ≤ 2 ^ max f.depth g.depth := Nat.pow_le_pow_right (by decide) (Nat.le_max_right _ _)
    simp only [F.size, F.depth, Nat.pow_succ]
    omega
  | .one _ _ f => by
    have h1 := F.size_depth f
    have h2 := F.size_pos f
    simp only [F.size, F.depth, Nat.pow_succ]
    omega
abbrev Stk := List (Int × Nat)
structure Rec where
  sub : F
  aro : Int
  stk : Stk
def pushS : F → Nat → Stk → Stk
  | .one k n _, i, st => if k.bind then (n, i) :: st else st
  | _, _, st => st
def info : F → Int → Nat → Stk → List Rec
  | .nul b, a, _, st => [⟨.nul b, a, st⟩]
  | .leaf k n, a, _, st => [⟨.leaf k n, a, st⟩]
  | .two b f g, a, i, st => ⟨.two b f g, a, st⟩ :: (info f i (i + 1) st ++ info g i (i + 1 + f.size) st)
  | .one k n f, a, i, st => ⟨.one k n f, a, st⟩ :: info f i (i + 1) (if k.bind then (n, i) :: st else st)
theorem info_len : ∀ (t : F) (a : Int) (i : Nat) (st : Stk), (info t a i st).length = t.size
  | .nul _, _, _, _ => rfl
  | .leaf _ _, _, _, _ => rfl
  | .two _ f g, a, i, st => by simp [info, F.size, info_len f, info_len g]
  | .one k n f, a, i, st => by simp [info, F.size, info_len f]
theorem info_head : ∀ (t : F) (a : Int) (i : Nat) (st : Stk), (info t a i st)[0]? = some ⟨t, a, st⟩
  | .nul _, _, _, _ => rfl
  | .leaf _ _, _, _, _ => rfl
  | .two _ _ _, _, _, _ => rfl
  | .one _ _ _, _, _, _ => rfl
/-! ### a part's record and the one around it -/
theorem info_up : ∀ (t : F) (a : Int) (i : Nat) (st : Stk) (j : Nat) (r : Rec), (info t a i st)[j]? = some r →
    (j = 0 ∧ r = ⟨t, a, st⟩) ∨ ∃ p r', p < j ∧ (info t a i st)[p]? = some r' ∧ r.aro = ((i + p : Nat) : Int) ∧ r.stk = pushS r'.sub (i + p) r'.stk
  | .nul b, a, i, st, j, r, h => by
    cases j with
    | zero => exact .inl ⟨rfl, (Option.some.inj h).symm⟩
    | succ j => simp [info] at h
  | .leaf k n, a, i, st, j, r, h => by
    cases j with
    | zero => exact .inl ⟨rfl, (Option.some.inj h).symm⟩
    | succ j => simp [info] at h
  | .two b f g, a, i, st, j, r, h => by
    cases j with
    | zero => exact .inl ⟨rfl, (Option.some.inj h).symm⟩
    | succ j =>
      simp only [info, List.getElem?_cons_succ] at h
      by_cases lt : j < f.size
      · rw [List.getElem?_append_left (by rw [info_len]; exact lt)] at h
        rcases info_up f i (i + 1) st j r h with ⟨rfl, rfl⟩ | ⟨p, r', hp, e, e1, e2⟩
        · exact .inr ⟨0, ⟨.two b f g, a, st⟩, Nat.succ_pos _, rfl, by simp, rfl⟩
        · refine .inr ⟨p + 1, r', by omega, ?_, by rw [e1]; congr 1; omega, by rw [e2]; congr 1; omega⟩
          simp only [info, List.getElem?_cons_succ]
          rw [List.getElem?_append_left (by rw [info_len]; omega)]
          exact e
      · rw [List.getElem?_append_right (by rw [info_len]; omega), info_len] at h
        rcases info_up g i (i + 1 + f.size) st (j - f.size) r h with ⟨e0, rfl⟩ | ⟨p, r', hp, e, e1, e2⟩
        · exact .inr ⟨0, ⟨.two b f g, a, st⟩, Nat.succ_pos _, rfl, by simp, rfl⟩
        · refine .inr ⟨p + f.size + 1, r', by omega, ?_, by rw [e1]; congr 1; omega, by rw [e2]; congr 1; omega⟩
          simp only [info, List.getElem?_cons_succ]
          rw [List.getElem?_append_right (by rw [info_len]; omega), info_len, show p + f.size - f.size = p by omega]
          exact e
  | .one k n f, a, i, st, j, r, h => by
    cases j with
    | zero => exact .inl ⟨rfl, (Option.some.inj h).symm⟩
    | succ j =>
      simp only [info, List.getElem?_cons_succ] at h
      rcases info_up f i (i + 1) _ j r h with ⟨rfl, rfl⟩ | ⟨p, r', hp, e, e1, e2⟩
      · exact .inr ⟨0, ⟨.one k n f, a, st⟩, Nat.succ_pos _, rfl, by simp, rfl⟩
      · refine .inr ⟨p + 1, r', by omega, ?_, by rw [e1]; congr 1; omega, by rw [e2]; congr 1; omega⟩
        simp only [info, List.getElem?_cons_succ]
        exact e
/-- the whole, seen from its root -/
abbrev infos (t : F) : List Rec := info t (-1) 0 []
theorem infos_stk {t : F} : ∀ (m j : Nat) (r : Rec) (x : Int) (q : Nat) (rest : Stk), j ≤ m → (infos t)[j]? = some r → r.stk = (x, q) :: rest →
    q < j ∧ ∃ k f a, (infos t)[q]? = some ⟨.one k x f, a, rest⟩ ∧ k.bind = true := by
  intro m
  induction m with
  | zero =>
    intro j r x q rest hj h e
    have : j = 0 := by omega
    subst this
    rw [info_head] at h
    cases h
    cases e
  | succ m ih =>
    intro j r x q rest hj h e
    rcases info_up t (-1) 0 [] j r h with ⟨rfl, rfl⟩ | ⟨p, r', hp, e1, _, e2⟩
    · cases e
    · rw [Nat.zero_add] at e2
      obtain ⟨s, a', st'⟩ := r'
      have old : r.stk = st' → q < j ∧ ∃ k f a, (infos t)[q]? = some ⟨.one k x f, a, rest⟩ ∧ k.bind = true := fun e3 => by
        have z := ih p ⟨s, a', st'⟩ x q rest (by omega) e1 (by rw [← e3]; exact e)
        exact ⟨by omega, z.2⟩
      cases s with
      | nul b => exact old e2
      | leaf k n => exact old e2
      | two b f g => exact old e2
      | one k n f =>
        simp only [pushS] at e2
        by_cases hb : k.bind = true
        · rw [if_pos hb, e] at e2
          injection e2 with e3 e4
          injection e3 with e5 e6
          subst e5
          subst e6
          subst e4
          exact ⟨hp, k, f, a', e1, hb⟩
        · rw [if_neg hb] at e2
          exact old e2
/-! ### the parts directly in a part -/
def kidsFrom : List Int → Nat → Nat → List Nat
  | [], _, _ => []
  | a :: r, j, i => if a = (i : Int) then j :: kidsFrom r (j + 1) i else kidsFrom r (j + 1) i
theorem kids_app : ∀ (A B : List Int) (j i : Nat), kidsFrom (A ++ B) j i = kidsFrom A j i ++ kidsFrom B (j + A.length) i
  | [], _, _, _ => by simp [kidsFrom]
  | a :: A, B, j, i => by
    simp only [List.cons_append, kidsFrom, List.length_cons]
    rw [kids_app A B (j + 1) i, show j + 1 + A.length = j + (A.length + 1) by omega]
    split <;> simp
theorem kids_none : ∀ (A : List Int) (j i : Nat), (∀ a ∈ A, a ≠ (i : Int)) → kidsFrom A j i = []
  | [], _, _, _ => rfl
  | a :: A, j, i, h => by
    simp only [kidsFrom]
    rw [if_neg (h a List.mem_cons_self)]
    exact kids_none A _ _ fun b hb => h b (List.mem_cons_of_mem _ hb)
def arounds (I : List Rec) : List Int := I.map Rec.aro
theorem aro_range : ∀ (t : F) (a : Int) (i : Nat) (st : Stk) (x : Int), x ∈ arounds (info t a i st) → x = a ∨ ((i : Int) ≤ x ∧ x < ((i + t.size : Nat) : Int))
  | .nul _, a, i, st, x, h => by
    simp [arounds, info] at h
    exact .inl h
  | .leaf _ _, a, i, st, x, h => by
    simp [arounds, info] at h
    exact .inl h
  | .two b f g, a, i, st, x, h => by
    simp only [arounds, info, List.map_cons, List.map_append, List.mem_cons, List.mem_append] at h
    rcases h with h | h | h
    · exact .inl h
    · have := aro_range f i (i + 1) st x h
      simp only [F.size]
      omega
    · have := aro_range g i (i + 1 + f.size) st x h
      simp only [F.size]
      omega
  | .one k n f, a, i, st, x, h => by
    simp only [arounds, info, List.map_cons, List.mem_cons] at h
    rcases h with h | h
    · exact .inl h
    · have := aro_range f i (i + 1) _ x h
      simp only [F.size]
      omega
/-- where a part's own parts stand among all -/
def Sits (I : List Rec) (i j : Nat) (r : Rec) : Prop :=
  ∃ A B, I = A ++ info r.sub r.aro (i + j) r.stk ++ B ∧ A.length = j ∧ (∀ x ∈ arounds A, x ≠ ((i + j : Nat) : Int)) ∧ (∀ x ∈ arounds B, x < ((i + j : Nat) : Int) ∨ ((i + j + r.sub.size : Nat) : Int) ≤ x) ∧ r.aro < ((i + j : Nat) : Int) ∧
    (∀ x ∈ arounds A, x < ((i + j : Nat) : Int))
theorem info_sits : ∀ (t : F) (a : Int) (i : Nat) (st : Stk) (j : Nat) (r : Rec), a < (i : Int) → (info t a i st)[j]? = some r → Sits (info t a i st) i j r := by
  have zero : ∀ (t : F) (a : Int) (i : Nat) (st : Stk) (r : Rec), a < (i : Int) → (info t a i st)[0]? = some r → Sits (info t a i st) i 0 r := by
    intro t a i st r ha h
    rw [info_head] at h
    cases h
    exact ⟨[], [], by simp, rfl, by simp [arounds], by simp [arounds], by simpa using ha, by simp [arounds]⟩
  intro t
  induction t with
  | nul b =>
    intro a i st j r ha h
    cases j with
    | zero => exact zero _ _ _ _ _ ha h
    | succ j => simp [info] at h
  | leaf k n =>
    intro a i st j r ha h
    cases j with
    | zero => exact zero _ _ _ _ _ ha h
    | succ j => simp [info] at h
  | two b f g ihf ihg =>
    intro a i st j r ha h
    cases j with
    | zero => exact zero _ _ _ _ _ ha h
    | succ j =>
      simp only [info, List.getElem?_cons_succ] at h
      by_cases lt : j < f.size
      · rw [List.getElem?_append_left (by rw [info_len]; exact lt)] at h
        obtain ⟨A, B, e, eA, hA, hB, hr, hA2⟩ := ihf i (i + 1) st j r (by omega) h
        have ee : i + 1 + j = i + (j + 1) := by omega
        rw [ee] at e hA hB hr hA2
        have szr : r.sub.size + j ≤ f.size := by
          have z := congrArg List.length e
          simp only [info_len, List.length_append, eA] at z
          omega
        refine ⟨⟨.two b f g, a, st⟩ :: A, B ++ info g i (i + 1 + f.size) st, by simp [info, e], by simp [eA], ?_, ?_, hr, ?_⟩
        · intro x hx
          simp only [arounds, List.map_cons, List.mem_cons] at hx
          rcases hx with rfl | hx
          · omega
          · exact hA x hx
        · intro x hx
          simp only [arounds, List.map_append, List.mem_append] at hx
          rcases hx with hx | hx
          · exact hB x hx
          · have := aro_range g i (i + 1 + f.size) st x hx
            omega
        · intro x hx
          simp only [arounds, List.map_cons, List.mem_cons] at hx
          rcases hx with rfl | hx
          · omega
          · exact hA2 x hx
      · rw [List.getElem?_append_right (by rw [info_len]; omega), info_len] at h
        obtain ⟨A, B, e, eA, hA, hB, hr, hA2⟩ := ihg i (i + 1 + f.size) st (j - f.size) r (by omega) h
        have ee : i + 1 + f.size + (j - f.size) = i + (j + 1) := by omega
        rw [ee] at e hA hB hr hA2
        refine ⟨⟨.two b f g, a, st⟩ :: (info f i (i + 1) st ++ A), B, by simp [info, e], by simp [eA, info_len]; omega, ?_, hB, hr, ?_⟩
        · intro x hx
          simp only [arounds, List.map_cons, List.map_append, List.mem_cons, List.mem_append] at hx
          rcases hx with rfl | hx | hx
          · omega
          · have := aro_range f i (i + 1) st x hx
            omega
          · exact hA x hx
        · intro x hx
          simp only [arounds, List.map_cons, List.map_append, List.mem_cons, List.mem_append] at hx
          rcases hx with rfl | hx | hx
          · omega
          · have := aro_range f i (i + 1) st x hx
            omega
          · exact hA2 x hx
  | one k n f ih =>
    intro a i st j r ha h
    cases j with
    | zero => exact zero _ _ _ _ _ ha h
    | succ j =>
      simp only [info, List.getElem?_cons_succ] at h
      obtain ⟨A, B, e, eA, hA, hB, hr, hA2⟩ := ih i (i + 1) _ j r (by omega) h
      have ee : i + 1 + j = i + (j + 1) := by omega
      rw [ee] at e hA hB hr hA2
      refine ⟨⟨.one k n f, a, st⟩ :: A, B, by simp [info, e], by simp [eA], ?_, hB, hr, ?_⟩
      · intro x hx
        simp only [arounds, List.map_cons, List.mem_cons] at hx
        rcases hx with rfl | hx
        · omega
        · exact hA x hx
      · intro x hx
        simp only [arounds, List.map_cons, List.mem_cons] at hx
        rcases hx with rfl | hx
        · omega
        · exact hA2 x hx
/-- the places of the parts directly in one -/
def inPlaces : F → Nat → List Nat
  | .two _ f _, i => [i + 1, i + 1 + f.size]
  | .one _ _ _, i => [i + 1]
  | _, _ => []
theorem kids_own : ∀ (t : F) (a : Int) (i : Nat) (st : Stk), a < (i : Int) → kidsFrom (arounds (info t a i st)) i i = inPlaces t i
  | .nul _, a, i, st, ha => by
    simp only [arounds, info, List.map_cons, List.map_nil, kidsFrom, inPlaces]
    rw [if_neg (by omega)]
  | .leaf _ _, a, i, st, ha => by
    simp only [arounds, info, List.map_cons, List.map_nil, kidsFrom, inPlaces]
    rw [if_neg (by omega)]
  | .two b f g, a, i, st, ha => by
    have rest : ∀ (u : F) (j : Nat) (st : Stk), i < j → kidsFrom (arounds (info u i j st)) j i = [j] := by
      intro u j st hj
      have tail : ∀ (I : List Rec), (∀ x ∈ arounds I, (j : Int) ≤ x) → kidsFrom (arounds I) (j + 1) i = [] := fun I hI =>
        kids_none _ _ _ fun x hx => by have := hI x hx; omega
      cases u with
      | nul b => simp [arounds, info, kidsFrom]
      | leaf k n => simp [arounds, info, kidsFrom]
      | two b f g =>
        simp only [arounds, info, List.map_cons, kidsFrom, if_true]
        have := tail (info f j (j + 1) st ++ info g j (j + 1 + f.size) st) (fun x hx => by
          simp only [arounds, List.map_append, List.mem_append] at hx
          rcases hx with hx | hx
          · have := aro_range f j (j + 1) st x hx
            omega
          · have := aro_range g j (j + 1 + f.size) st x hx
            omega)
        rw [arounds] at this
        rw [this]
      | one k n f =>
        simp only [arounds, info, List.map_cons, kidsFrom, if_true]
        have := tail (info f j (j + 1) (if k.bind then (n, j) :: st else st)) (fun x hx => by
          have := aro_range f j (j + 1) _ x hx
          omega)
        rw [arounds] at this
        rw [this]
    have h1 := rest f (i + 1) st (by omega)
    have h2 := rest g (i + 1 + f.size) st (by omega)
    simp only [arounds] at h1 h2
    simp only [arounds, info, List.map_cons, List.map_append, kidsFrom, inPlaces]
    rw [if_neg (by omega), kids_app, h1, List.length_map, info_len, h2]
    rfl
  | .one k n f, a, i, st, ha => by
    have rest : ∀ (u : F) (j : Nat) (st : Stk), i < j → kidsFrom (arounds (info u i j st)) j i = [j] := by
      intro u j st hj
      have tail : ∀ (I : List Rec), (∀ x ∈ arounds I, (j : Int) ≤ x) → kidsFrom (arounds I) (j + 1) i = [] := fun I hI =>
        kids_none _ _ _ fun x hx => by have := hI x hx; omega
      cases u with
      | nul b => simp [arounds, info, kidsFrom]
      | leaf k n => simp [arounds, info, kidsFrom]
      | two b f g =>
        simp only [arounds, info, List.map_cons, kidsFrom, if_true]
        have := tail (info f j (j + 1) st ++ info g j (j + 1 + f.size) st) (fun x hx => by
          simp only [arounds, List.map_append, List.mem_append] at hx
          rcases hx with hx | hx
          · have := aro_range f j (j + 1) st x hx
            omega
          · have := aro_range g j (j + 1 + f.size) st x hx
            omega)
        rw [arounds] at this
        rw [this]
      | one k n f =>
        simp only [arounds, info, List.map_cons, kidsFrom, if_true]
        have := tail (info f j (j + 1) (if k.bind then (n, j) :: st else st)) (fun x hx => by
          have := aro_range f j (j + 1) _ x hx
          omega)
        rw [arounds] at this
        rw [this]
    have h1 := rest f (i + 1) (if k.bind then (n, i) :: st else st) (by omega)
    simp only [arounds] at h1
    simp only [arounds, info, List.map_cons, kidsFrom, inPlaces]
    rw [if_neg (by omega), h1]
theorem kids_at {t : F} {j : Nat} {r : Rec} (h : (infos t)[j]? = some r) : kidsFrom (arounds (infos t)) 0 j = inPlaces r.sub j := by
  obtain ⟨A, B, e, eA, hA, hB, hr, _⟩ := info_sits t (-1) 0 [] j r (by omega) h
  rw [Nat.zero_add] at e hA hB hr
  have ea : arounds (infos t) = arounds A ++ arounds (info r.sub r.aro j r.stk) ++ arounds B := by
    rw [show infos t = _ from e]
    simp [arounds]
  have lA : (arounds A).length = j := by simp [arounds, eA]
  rw [ea, kids_app, kids_app, kids_none _ _ _ hA, Nat.zero_add, lA, kids_own _ _ _ _ hr, kids_none (arounds B)]
  · simp
  · intro x hx
    have := hB x hx
    have := F.size_pos r.sub
    omega
/-- the parts of a part are among all, at their places -/
theorem sub_at {t : F} {j : Nat} {r : Rec} (h : (infos t)[j]? = some r) : ∀ (k : Nat) (q : Rec), (info r.sub r.aro j r.stk)[k]? = some q → (infos t)[j + k]? = some q := by
  intro k q hq
  obtain ⟨A, B, e, eA, _⟩ := info_sits t (-1) 0 [] j r (by omega) h
  rw [Nat.zero_add] at e
  have lt := (List.getElem?_eq_some_iff.mp hq).1
  rw [show infos t = _ from e, List.append_assoc, List.getElem?_append_right (by omega), eA, show j + k - j = k by omega, List.getElem?_append_left lt]
  exact hq

/-! ### the binder around, and the one of a variable -/
def topPos : Stk → Int
  | [] => -1
  | (_, p) :: _ => (p : Int)
def posOf (x : Int) : Stk → Int
  | [] => -1
  | (y, p) :: r => if y = x then (p : Int) else posOf x r
def isB : F → Bool
  | .one k _ _ => k.bind
  | _ => false
theorem pushS_top (s : F) (p : Nat) (st : Stk) : topPos (pushS s p st) = if isB s = true then (p : Int) else topPos st := by
  cases s with
  | one k n f => cases hk : k.bind <;> simp [pushS, isB, topPos, hk]
  | _ => rfl
theorem top_step {t : F} {j : Nat} {r : Rec} (h : (infos t)[j]? = some r) :
    (r.aro = -1 ∧ topPos r.stk = -1 ∧ j = 0) ∨ ∃ p r', p < j ∧ (infos t)[p]? = some r' ∧ r.aro = (p : Int) ∧ topPos r.stk = if isB r'.sub = true then (p : Int) else topPos r'.stk := by
  rcases info_up t (-1) 0 [] j r h with ⟨rfl, rfl⟩ | ⟨p, r', hp, e, e1, e2⟩
  · exact .inl ⟨rfl, rfl, rfl⟩
  · rw [Nat.zero_add] at e1 e2
    exact .inr ⟨p, r', hp, e, e1, by rw [e2, pushS_top]⟩
theorem posOf_ge (x : Int) : ∀ st : Stk, -1 ≤ posOf x st
  | [] => by simp [posOf]
  | (y, p) :: r => by
    simp only [posOf]
    split
    · omega
    · exact posOf_ge x r
theorem posOf_neg (x : Int) : ∀ st : Stk, posOf x st < 0 ↔ x ∉ st.map (·.1)
  | [] => by simp [posOf]
  | (y, p) :: r => by
    have ih := posOf_neg x r
    simp only [posOf, List.map_cons, List.mem_cons, not_or]
    split
    · rename_i e
      constructor
      · intro z
        omega
      · intro z
        exact absurd e.symm z.1
    · rename_i e
      rw [ih]
      constructor
      · exact fun z => ⟨fun q => e q.symm, z⟩
      · exact fun z => z.2
/-! ### free variables -/
def freeL : F → List Int → List Int
  | .nul _, _ => []
  | .leaf .var x, bound => if x ∈ bound then [] else [x]
  | .leaf _ _, _ => []
  | .two _ f g, bound => freeL f bound ++ freeL g bound
  | .one k x f, bound => if k.bind then freeL f (bound ++ [x]) else freeL f bound
theorem free_iff (x : Int) : ∀ (t : F) (bound : List Int) (a : Int) (i : Nat) (st : Stk), (∀ y, y ∈ bound ↔ y ∈ st.map (·.1)) →
    (x ∈ freeL t bound ↔ ∃ r ∈ info t a i st, r.sub = .leaf .var x ∧ x ∉ r.stk.map (·.1))
  | .nul b, bound, a, i, st, hb => by simp [freeL, info]
  | .leaf .has n, bound, a, i, st, hb => by simp [freeL, info]
  | .leaf .lacks n, bound, a, i, st, hb => by simp [freeL, info]
  | .leaf .var n, bound, a, i, st, hb => by
    simp only [freeL, info, List.mem_singleton]
    constructor
    · intro h
      split at h
      · cases h
      · rename_i hn
        rw [List.mem_singleton] at h
        subst h
        exact ⟨_, rfl, rfl, fun z => hn ((hb _).mpr z)⟩
    · rintro ⟨r, rfl, e, hn⟩
      injection e with _ e
      subst e
      rw [if_neg (fun z => hn ((hb _).mp z))]
      exact List.mem_singleton.mpr rfl
  | .two b f g, bound, a, i, st, hb => by
    simp only [freeL, info, List.mem_append, List.mem_cons]
    rw [free_iff x f bound i (i + 1) st hb, free_iff x g bound i (i + 1 + f.size) st hb]
    constructor
    · rintro (⟨r, h1, h2⟩ | ⟨r, h1, h2⟩)
      · exact ⟨r, .inr (.inl h1), h2⟩
      · exact ⟨r, .inr (.inr h1), h2⟩
    · rintro ⟨r, h1, h2, h3⟩
      rcases h1 with rfl | h1 | h1
      · cases h2
      · exact .inl ⟨r, h1, h2, h3⟩
      · exact .inr ⟨r, h1, h2, h3⟩
  | .one k n f, bound, a, i, st, hb => by
    simp only [freeL, info, List.mem_cons]
    have key : ∀ (bound' : List Int) (st' : Stk), (∀ y, y ∈ bound' ↔ y ∈ st'.map (·.1)) →
        (x ∈ freeL f bound' ↔ ∃ r, (r = ⟨.one k n f, a, st⟩ ∨ r ∈ info f i (i + 1) st') ∧ r.sub = .leaf .var x ∧ x ∉ r.stk.map (·.1)) := by
      intro bound' st' h'
      rw [free_iff x f bound' i (i + 1) st' h']
      constructor
      · rintro ⟨r, h1, h2⟩
        exact ⟨r, .inr h1, h2⟩
      · rintro ⟨r, h1, h2, h3⟩
        rcases h1 with rfl | h1
        · cases h2
        · exact ⟨r, h1, h2, h3⟩
    by_cases hk : k.bind = true
    · rw [if_pos hk, if_pos hk]
      refine key _ _ fun y => ?_
      simp only [List.mem_append, hb y, List.map_cons, List.mem_cons, List.not_mem_nil, or_false]
      exact Or.comm
    · rw [if_neg hk, if_neg hk]
      exact key _ _ hb
def Closed (t : F) : Prop := ∀ r ∈ infos t, ∀ x, r.sub = .leaf .var x → x ∈ r.stk.map (·.1)
theorem closed_iff {t : F} : freeL t [] = [] ↔ Closed t := by
  constructor
  · intro h r hr x e
    refine Classical.byContradiction fun hn => ?_
    have := (free_iff x t [] (-1) 0 [] (by simp)).mpr ⟨r, hr, e, hn⟩
    rw [h] at this
    cases this
  · intro h
    refine List.eq_nil_iff_forall_not_mem.mpr fun x hx => ?_
    obtain ⟨r, hr, e, hn⟩ := (free_iff x t [] (-1) 0 [] (by simp)).mp hx
    exact hn (h r hr x e)
/-! ### the same shape, the same places -/
def skel : F → F
  | .nul _ => .nul true
  | .leaf _ _ => .nul true
  | .two _ f g => .two true (skel f) (skel g)
  | .one _ _ f => .one .some 0 (skel f)
theorem skel_size : ∀ t : F, (skel t).size = t.size
  | .nul _ => rfl
  | .leaf _ _ => rfl
  | .two _ f g => by simp [skel, F.size, skel_size f, skel_size g]
  | .one _ _ f => by simp [skel, F.size, skel_size f]
theorem skel_depth : ∀ t : F, (skel t).depth = t.depth
  | .nul _ => rfl
  | .leaf _ _ => rfl
  | .two _ f g => by simp [skel, F.depth, skel_depth f, skel_depth g]
  | .one _ _ f => by simp [skel, F.depth, skel_depth f]
theorem skel_aro : ∀ (t : F) (a : Int) (i : Nat) (st : Stk), arounds (info t a i st) = arounds (info (skel t) a i [])
  | .nul _, _, _, _ => rfl
  | .leaf _ _, _, _, _ => rfl
  | .two _ f g, a, i, st => by
    have h1 := skel_aro f i (i + 1) st
    have h2 := skel_aro g i (i + 1 + f.size) st
    simp only [arounds] at h1 h2
    simp only [arounds, info, skel, List.map_cons, List.map_append, h1, h2, skel_size]
  | .one k n f, a, i, st => by
    have h1 := skel_aro f i (i + 1) (if k.bind then (n, i) :: st else st)
    simp only [arounds] at h1
    simp only [arounds, info, skel, List.map_cons]
    rw [h1]
    rfl
theorem same_aro {t u : F} (h : skel t = skel u) : arounds (infos t) = arounds (infos u) := by
  rw [skel_aro t, skel_aro u, h]
theorem same_size {t u : F} (h : skel t = skel u) : t.size = u.size := by rw [← skel_size t, h, skel_size]
/-! ### the tidy form -/
def tidyF : F → (Int → Int) → Int → F × Int
  | .nul b, _, n => (.nul b, n)
  | .leaf .var x, nm, n => (.leaf .var (nm x), n)
  | .leaf k x, _, n => (.leaf k x, n)
  | .two b f g, nm, n => (.two b (tidyF f nm n).1 (tidyF g nm (tidyF f nm n).2).1, (tidyF g nm (tidyF f nm n).2).2)
  | .one k x f, nm, n =>
    if k.bind then (.one k n (tidyF f (fun y => if y = x then n else nm y) (n + 1)).1, (tidyF f (fun y => if y = x then n else nm y) (n + 1)).2)
    else (.one k x (tidyF f nm n).1, (tidyF f nm n).2)
theorem tidy_skel : ∀ (t : F) (nm : Int → Int) (n : Int), skel (tidyF t nm n).1 = skel t
  | .nul _, _, _ => rfl
  | .leaf .var _, _, _ => rfl
  | .leaf .has _, _, _ => rfl
  | .leaf .lacks _, _, _ => rfl
  | .two _ f g, nm, n => by simp only [tidyF, skel, tidy_skel f, tidy_skel g]
  | .one k x f, nm, n => by
    simp only [tidyF]
    split <;> simp only [skel, tidy_skel f]
def cntB (I : List Rec) : Nat := (I.filter fun r => isB r.sub).length
theorem cntB_app (A B : List Rec) : cntB (A ++ B) = cntB A + cntB B := by simp [cntB]
theorem cntB_cons (r : Rec) (B : List Rec) : cntB (r :: B) = (if isB r.sub = true then 1 else 0) + cntB B := by
  simp only [cntB, List.filter_cons]
  split <;> simp <;> omega
def newHd (ρ : Nat → Int) (q : Nat) (r : Rec) : Hd :=
  match r.sub with
  | .leaf .var x => .leaf .var (ρ (posOf x r.stk).toNat)
  | .one k x _ => if k.bind then .one k (ρ q) else .one k x
  | s => s.hd
theorem tidy_heads (ρ : Nat → Int) : ∀ (t : F) (a : Int) (i : Nat) (st : Stk) (nm : Int → Int) (n : Int),
    (∀ r ∈ info t a i st, ∀ x, r.sub = .leaf .var x → x ∈ r.stk.map (·.1)) → (∀ x ∈ st.map (·.1), nm x = ρ (posOf x st).toNat) →
    (∀ j r, (info t a i st)[j]? = some r → isB r.sub = true → ρ (i + j) = n + (cntB ((info t a i st).take j) : Nat)) →
    (tidyF t nm n).2 = n + (cntB (info t a i st) : Nat) ∧
    ∀ (st' : Stk) (j : Nat) (r : Rec), (info t a i st)[j]? = some r → ((info (tidyF t nm n).1 a i st')[j]?).map (fun r => r.sub.hd) = some (newHd ρ (i + j) r)
  | .nul b, a, i, st, nm, n, hc, hs, hr => by
    refine ⟨by simp [tidyF, info, cntB, isB], fun st' j r h => ?_⟩
    cases j with
    | zero =>
      cases h
      rfl
    | succ j => simp [info] at h
  | .leaf .has b, a, i, st, nm, n, hc, hs, hr => by
    refine ⟨by simp [tidyF, info, cntB, isB], fun st' j r h => ?_⟩
    cases j with
    | zero =>
      cases h
      rfl
    | succ j => simp [info] at h
  | .leaf .lacks b, a, i, st, nm, n, hc, hs, hr => by
    refine ⟨by simp [tidyF, info, cntB, isB], fun st' j r h => ?_⟩
    cases j with
    | zero =>
      cases h
      rfl
    | succ j => simp [info] at h
  | .leaf .var x, a, i, st, nm, n, hc, hs, hr => by
    refine ⟨by simp [tidyF, info, cntB, isB], fun st' j r h => ?_⟩
    cases j with
    | zero =>
      cases h
      have hx : x ∈ st.map (·.1) := hc ⟨.leaf .var x, a, st⟩ (by simp [info]) x rfl
      simp only [tidyF, info, newHd, List.getElem?_cons_zero, Option.map_some, F.hd]
      rw [hs x hx]
    | succ j => simp [info] at h
  | .two b f g, a, i, st, nm, n, hc, hs, hr => by
    have If : ∀ j r, (info f i (i + 1) st)[j]? = some r → (info (.two b f g) a i st)[j + 1]? = some r := fun j r h => by
      simp only [info, List.getElem?_cons_succ]
      rw [List.getElem?_append_left (List.getElem?_eq_some_iff.mp h).1]
      exact h
    have Ig : ∀ j r, (info g i (i + 1 + f.size) st)[j]? = some r → (info (.two b f g) a i st)[f.size + j + 1]? = some r := fun j r h => by
      simp only [info, List.getElem?_cons_succ]
      rw [List.getElem?_append_right (by rw [info_len]; omega), info_len, show f.size + j - f.size = j by omega]
      exact h
    obtain ⟨f1, f2⟩ := tidy_heads ρ f i (i + 1) st nm n (fun r hr' => hc r (by simp [info, hr'])) hs (fun j r h hb => by
      have := hr (j + 1) r (If j r h) hb
      rw [show i + (j + 1) = i + 1 + j by omega] at this
      rw [this]
      simp only [info, List.take_succ_cons, cntB_cons, isB]
      rw [List.take_append_of_le_length (Nat.le_of_lt (List.getElem?_eq_some_iff.mp h).1)]
      simp)
    obtain ⟨g1, g2⟩ := tidy_heads ρ g i (i + 1 + f.size) st nm (tidyF f nm n).2 (fun r hr' => hc r (by simp [info, hr'])) hs (fun j r h hb => by
      have := hr (f.size + j + 1) r (Ig j r h) hb
      rw [show i + (f.size + j + 1) = i + 1 + f.size + j by omega] at this
      rw [this, f1]
      simp only [info, List.take_succ_cons, cntB_cons, isB]
      rw [List.take_append, info_len, List.take_of_length_le (by rw [info_len]; omega), show f.size + j - f.size = j by omega, cntB_app]
      simp
      omega)
    refine ⟨?_, fun st' j r h => ?_⟩
    · simp only [tidyF, info, cntB_cons, cntB_app, isB]
      rw [g1, f1]
      simp
      omega
    · have sz : (tidyF f nm n).1.size = f.size := same_size (tidy_skel f nm n)
      cases j with
      | zero =>
        cases h
        rfl
      | succ j =>
        simp only [info, List.getElem?_cons_succ] at h
        simp only [tidyF, info, List.getElem?_cons_succ]
        by_cases lt : j < f.size
        · rw [List.getElem?_append_left (by rw [info_len]; exact lt)] at h
          rw [List.getElem?_append_left (by rw [info_len, sz]; exact lt), f2 st' j r h, show i + 1 + j = i + (j + 1) by omega]
        · rw [List.getElem?_append_right (by rw [info_len]; omega), info_len] at h
          rw [List.getElem?_append_right (by rw [info_len, sz]; omega), info_len, sz, g2 st' (j - f.size) r h, show i + 1 + f.size + (j - f.size) = i + (j + 1) by omega]
  | .one k x f, a, i, st, nm, n, hc, hs, hr => by
    by_cases hk : k.bind = true
    · have If : ∀ j r, (info f i (i + 1) ((x, i) :: st))[j]? = some r → (info (.one k x f) a i st)[j + 1]? = some r := fun j r h => by
        simp only [info, List.getElem?_cons_succ, if_pos hk]
        exact h
      have ρi : ρ i = n := by
        have := hr 0 ⟨.one k x f, a, st⟩ rfl hk
        simpa [cntB] using this
      obtain ⟨f1, f2⟩ := tidy_heads ρ f i (i + 1) ((x, i) :: st) (fun y => if y = x then n else nm y) (n + 1) (fun r hr' => hc r (by simp [info, hk, hr'])) (fun y hy => by
        simp only [posOf]
        by_cases e : y = x
        · rw [if_pos e, if_pos e.symm]
          exact ρi.symm
        · rw [if_neg e, if_neg (fun z => e z.symm)]
          rw [List.map_cons, List.mem_cons] at hy
          exact hs y (hy.resolve_left e)) (fun j r h hb => by
        have := hr (j + 1) r (If j r h) hb
        rw [show i + (j + 1) = i + 1 + j by omega] at this
        rw [this]
        simp only [info, List.take_succ_cons, cntB_cons]
        rw [if_pos (show isB (F.one k x f) = true from hk), if_pos hk]
        omega)
      refine ⟨?_, fun st' j r h => ?_⟩
      · simp only [tidyF, info, cntB_cons]
        rw [if_pos (show isB (F.one k x f) = true from hk), if_pos hk, if_pos hk, f1]
        omega
      · cases j with
        | zero =>
          cases h
          simp only [tidyF, if_pos hk, info, newHd, List.getElem?_cons_zero, Option.map_some, F.hd]
          rw [Nat.add_zero, ρi]
        | succ j =>
          simp only [info, List.getElem?_cons_succ, if_pos hk] at h
          simp only [tidyF, if_pos hk, info, List.getElem?_cons_succ]
          rw [f2 _ j r h, show i + 1 + j = i + (j + 1) by omega]
    · have If : ∀ j r, (info f i (i + 1) st)[j]? = some r → (info (.one k x f) a i st)[j + 1]? = some r := fun j r h => by
        simp only [info, List.getElem?_cons_succ, if_neg hk]
        exact h
      obtain ⟨f1, f2⟩ := tidy_heads ρ f i (i + 1) st nm n (fun r hr' => hc r (by simp [info, hk, hr'])) hs (fun j r h hb => by
        have := hr (j + 1) r (If j r h) hb
        rw [show i + (j + 1) = i + 1 + j by omega] at this
        rw [this]
        simp only [info, List.take_succ_cons, cntB_cons]
        rw [if_neg (show ¬ isB (F.one k x f) = true from hk), if_neg hk]
        omega)
      refine ⟨?_, fun st' j r h => ?_⟩
      · simp only [tidyF, info, cntB_cons]
        rw [if_neg (show ¬ isB (F.one k x f) = true from hk), if_neg hk, if_neg hk, f1]
        omega
      · cases j with
        | zero =>
          cases h
          simp only [tidyF, if_neg hk, info, newHd, List.getElem?_cons_zero, Option.map_some, F.hd]
        | succ j =>
          simp only [info, List.getElem?_cons_succ, if_neg hk] at h
          simp only [tidyF, if_neg hk, info, List.getElem?_cons_succ]
          rw [f2 _ j r h, show i + 1 + j = i + (j + 1) by omega]
/-- of a closed one: the head of each part in the tidy form -/
def rankOf (t : F) (q : Nat) : Int := (cntB ((infos t).take q) : Nat)
theorem tidy_whole {t : F} (hc : Closed t) (nm : Int → Int) {j : Nat} {r : Rec} (h : (infos t)[j]? = some r) :
    ((infos (tidyF t nm 0).1)[j]?).map (fun r => r.sub.hd) = some (newHd (rankOf t) j r) := by
  have := (tidy_heads (rankOf t) t (-1) 0 [] nm 0 hc (by simp) (fun j r h hb => by simp [rankOf])).2 [] j r h
  rwa [Nat.zero_add] at this
/-! ### tidy twice -/
theorem tidy_again : ∀ (t : F) (nm nm2 : Int → Int) (n : Int), (∀ y, nm2 (nm y) = nm y) → tidyF (tidyF t nm n).1 nm2 n = tidyF t nm n
  | .nul _, _, _, _, _ => rfl
  | .leaf .has _, _, _, _, _ => rfl
  | .leaf .lacks _, _, _, _, _ => rfl
  | .leaf .var x, nm, nm2, n, h => by simp only [tidyF, h]
  | .two b f g, nm, nm2, n, h => by
    simp only [tidyF]
    rw [tidy_again f nm nm2 n h, tidy_again g nm nm2 _ h]
  | .one k x f, nm, nm2, n, h => by
    by_cases hk : k.bind = true
    · have ih := tidy_again f (fun y => if y = x then n else nm y) (fun y => if y = n then n else nm2 y) (n + 1) (fun y => by
        by_cases e : y = x
        · simp [e]
        · simp only [if_neg e]
          by_cases e2 : nm y = n
          · simp [e2]
          · rw [if_neg e2]
            exact h y)
      simp only [tidyF, if_pos hk, ih]
    · have ih := tidy_again f nm nm2 n h
      simp only [tidyF, if_neg hk, ih]
end Fw
namespace Fw
/-! ### taking a statement apart with a stack -/
def pre (t : F) (a : Int) (i : Nat) : List (Hd × Int) := (info t a i []).map fun r => (r.sub.hd, r.aro)
theorem pre_len (t : F) (a : Int) (i : Nat) : (pre t a i).length = t.size := by simp [pre, info_len]
theorem info_plain : ∀ (t : F) (a : Int) (i : Nat) (st : Stk), ((info t a i st).map fun r => (r.sub.hd, r.aro)) = pre t a i
  | .nul _, _, _, _ => rfl
  | .leaf _ _, _, _, _ => rfl
  | .two _ f g, a, i, st => by
    have h1 := info_plain f i (i + 1)
    have h2 := info_plain g i (i + 1 + f.size)
    simp only [pre, info, List.map_cons, List.map_append] at *
    rw [h1 st, h2 st]
  | .one k n f, a, i, st => by
    have h1 := info_plain f i (i + 1)
    simp only [pre, info, List.map_cons] at *
    rw [h1 (if k.bind then (n, i) :: st else st), h1 (if k.bind then [(n, i)] else [])]
def F.kids : F → List F
  | .two _ f g => [f, g]
  | .one _ _ f => [f]
  | _ => []
def fin (L : List (Hd × Int)) : List (F × Int) → List (Hd × Int)
  | [] => L
  | (t, a) :: r => fin (L ++ pre t a L.length) r
theorem fin_step (L : List (Hd × Int)) (t : F) (a : Int) (r : List (F × Int)) :
    fin L ((t, a) :: r) = fin (L ++ [(t.hd, a)]) (t.kids.map (fun f => (f, (L.length : Int))) ++ r) := by
  cases t with
  | nul b => rfl
  | leaf k n => rfl
  | two b f g =>
    have hf := info_plain f L.length (L.length + 1) []
    have hg := info_plain g L.length (L.length + 1 + f.size) []
    simp only [fin, F.kids, List.map_cons, List.map_nil, List.cons_append, List.nil_append, F.hd, List.length_append, List.length_cons, List.length_nil, pre_len]
    congr 1
    simp only [pre, info, List.map_cons, List.map_append, F.hd]
    simp
  | one k n f =>
    have hf := info_plain f L.length (L.length + 1) (if k.bind then [(n, L.length)] else [])
    simp only [fin, F.kids, List.map_cons, List.map_nil, List.cons_append, List.nil_append, F.hd, List.length_append, List.length_cons, List.length_nil]
    congr 1
    simp only [pre, info, List.map_cons, F.hd] at *
    rw [hf]
    simp
def stSize : List (F × Int) → Nat
  | [] => 0
  | (t, _) :: r => t.size + stSize r
theorem stSize_app : ∀ A B : List (F × Int), stSize (A ++ B) = stSize A + stSize B
  | [], B => by simp [stSize]
  | (t, a) :: A, B => by simp [stSize, stSize_app A B]; omega
theorem stSize_kids (t : F) (i : Int) : stSize (t.kids.map fun f => (f, i)) + 1 = t.size := by
  cases t <;> simp [F.kids, stSize, F.size]
theorem st_len : ∀ A : List (F × Int), A.length ≤ stSize A
  | [] => Nat.le_refl _
  | (t, a) :: A => by
    have := st_len A
    have := F.size_pos t
    simp only [List.length_cons, stSize]
    omega
theorem fin_len : ∀ (S : List (F × Int)) (L : List (Hd × Int)), (fin L S).length = L.length + stSize S
  | [], L => by simp [fin, stSize]
  | (t, a) :: S, L => by
    simp only [fin, stSize]
    rw [fin_len S, List.length_append, pre_len]
    omega
end Fw
namespace Fw
theorem kids_recs {t : F} {j : Nat} {r : Rec} (h : (infos t)[j]? = some r) :
    (inPlaces r.sub j).length = r.sub.kids.length ∧ ∀ (m p : Nat), (inPlaces r.sub j)[m]? = some p → ∃ r', (infos t)[p]? = some r' ∧ r.sub.kids[m]? = some r'.sub ∧ j < p := by
  have sa := sub_at h
  obtain ⟨s, a, st⟩ := r
  cases s with
  | nul b => exact ⟨rfl, fun m p e => by simp [inPlaces] at e⟩
  | leaf k n => exact ⟨rfl, fun m p e => by simp [inPlaces] at e⟩
  | two b f g =>
    refine ⟨rfl, fun m p e => ?_⟩
    match m, e with
    | 0, e =>
      cases e
      refine ⟨⟨f, j, st⟩, sa 1 _ ?_, rfl, by omega⟩
      simp only [info, List.getElem?_cons_succ]
      rw [List.getElem?_append_left (by rw [info_len]; exact F.size_pos f)]
      exact info_head _ _ _ _
    | 1, e =>
      cases e
      have z := sa (1 + f.size) ⟨g, j, st⟩ (by
        rw [Nat.add_comm 1]
        simp only [info, List.getElem?_cons_succ]
        rw [List.getElem?_append_right (by rw [info_len]; omega), info_len, Nat.sub_self]
        exact info_head _ _ _ _)
      rw [← Nat.add_assoc] at z
      exact ⟨_, z, rfl, by omega⟩
    | m + 2, e => simp [inPlaces] at e
  | one k n f =>
    refine ⟨rfl, fun m p e => ?_⟩
    match m, e with
    | 0, e =>
      cases e
      refine ⟨⟨f, j, if k.bind then (n, j) :: st else st⟩, sa 1 _ ?_, rfl, by omega⟩
      simp only [info, List.getElem?_cons_succ]
      exact info_head _ _ _ _
    | m + 1, e => simp [inPlaces] at e
end Fw
namespace Fw
theorem F.kids_le : ∀ t : F, t.kids.length ≤ 2
  | .nul _ => Nat.zero_le 2
  | .leaf _ _ => Nat.zero_le 2
  | .two _ _ _ => Nat.le_refl 2
  | .one _ _ _ => Nat.le_succ 1
end Fw
namespace Fw
theorem infos_pos {t : F} {x : Int} : ∀ (st : Stk) (j : Nat) (r : Rec), (infos t)[j]? = some r → r.stk = st → x ∈ st.map (·.1) →
    ∃ (p : Nat) (r' : Rec), posOf x st = (p : Int) ∧ p < j ∧ (infos t)[p]? = some r' ∧ isB r'.sub = true
  | [], _, _, _, _, h => by cases h
  | (y, q) :: rest, j, r, hr, e, h => by
    obtain ⟨hq, k, f, a, h2, h3⟩ := infos_stk j j r y q rest (Nat.le_refl _) hr e
    simp only [posOf]
    by_cases c : y = x
    · rw [if_pos c]
      exact ⟨q, _, rfl, hq, h2, h3⟩
    · rw [if_neg c]
      have h' : x ∈ rest.map (·.1) := by
        rw [List.map_cons, List.mem_cons] at h
        exact h.resolve_left fun z => c z.symm
      obtain ⟨p, r', e1, e2, e3⟩ := infos_pos rest q _ h2 rfl h'
      exact ⟨p, r', e1, by omega, e3⟩
end Fw
namespace Fw
/-! ### what the law draws -/
def fv : F → List Int
  | .nul _ => []
  | .leaf .var x => [x]
  | .leaf _ _ => []
  | .two _ f g => fv f ++ fv g
  | .one k x f => if k.bind then (fv f).filter (fun y => y ≠ x) else fv f
theorem free_fv (y : Int) : ∀ (t : F) (b : List Int), y ∈ freeL t b ↔ y ∈ fv t ∧ y ∉ b
  | .nul _, b => by simp [freeL, fv]
  | .leaf .has _, b => by simp [freeL, fv]
  | .leaf .lacks _, b => by simp [freeL, fv]
  | .leaf .var x, b => by
    simp only [freeL, fv, List.mem_singleton]
    split
    · rename_i h
      constructor
      · intro z
        cases z
      · rintro ⟨rfl, z⟩
        exact absurd h z
    · rename_i h
      rw [List.mem_singleton]
      constructor
      · rintro rfl
        exact ⟨rfl, h⟩
      · exact fun z => z.1
  | .two _ f g, b => by
    simp only [freeL, fv, List.mem_append, free_fv y f b, free_fv y g b]
    constructor
    · rintro (⟨h1, h2⟩ | ⟨h1, h2⟩)
      · exact ⟨.inl h1, h2⟩
      · exact ⟨.inr h1, h2⟩
    · rintro ⟨h1 | h1, h2⟩
      · exact .inl ⟨h1, h2⟩
      · exact .inr ⟨h1, h2⟩
  | .one k x f, b => by
    simp only [freeL, fv]
    by_cases hk : k.bind = true
    · rw [if_pos hk, if_pos hk, free_fv y f (b ++ [x])]
      simp only [List.mem_append, List.mem_singleton, not_or, List.mem_filter, decide_eq_true_eq]
      constructor
      · rintro ⟨h1, h2, h3⟩
        exact ⟨⟨h1, h3⟩, h2⟩
      · rintro ⟨⟨h1, h3⟩, h2⟩
        exact ⟨h1, h2, h3⟩
    · rw [if_neg hk, if_neg hk, free_fv y f b]
theorem closed_fv {t : F} : fv t = [] ↔ Closed t := by
  rw [← closed_iff]
  constructor
  · intro h
    refine List.eq_nil_iff_forall_not_mem.mpr fun x hx => ?_
    have := ((free_fv x t []).mp hx).1
    rw [h] at this
    cases this
  · intro h
    refine List.eq_nil_iff_forall_not_mem.mpr fun x hx => ?_
    have := (free_fv x t []).mpr ⟨hx, by simp⟩
    rw [h] at this
    cases this
abbrev V4 : List Int := [0, 1, 2, 7]
def Ok : F → Prop
  | .nul _ => True
  | .leaf .var x => x ∈ V4
  | .leaf _ n => 0 ≤ n ∧ n < 2
  | .two _ f g => Ok f ∧ Ok g
  | .one k n f => (if k.bind = true then n ∈ V4 else 0 ≤ n ∧ n < 2) ∧ Ok f
theorem ok_fv : ∀ {t : F}, Ok t → ∀ x ∈ fv t, x ∈ V4
  | .nul _, _, x, h => by cases h
  | .leaf .has _, _, x, h => by cases h
  | .leaf .lacks _, _, x, h => by cases h
  | .leaf .var y, o, x, h => by
    rw [show fv (.leaf .var y) = [y] from rfl, List.mem_singleton] at h
    subst h
    exact o
  | .two _ f g, o, x, h => by
    rcases List.mem_append.mp (show x ∈ fv f ++ fv g from h) with h | h
    · exact ok_fv o.1 x h
    · exact ok_fv o.2 x h
  | .one k n f, o, x, h => by
    refine ok_fv o.2 x ?_
    simp only [fv] at h
    split at h
    · exact (List.mem_filter.mp h).1
    · exact h
structure Gen (n : Nat) (W R : List Int) (t : F) : Prop where
  dep : t.depth ≤ n + 1
  ok : Ok t
  fr : ∀ x ∈ fv t, x ∈ W ∨ x ∈ R
end Fw
namespace Fw
theorem tidy_fv : ∀ (t : F) (nm : Int → Int) (n y : Int), y ∈ fv (tidyF t nm n).1 → ∃ x ∈ fv t, y = nm x
  | .nul _, _, _, _, h => by cases h
  | .leaf .has _, _, _, _, h => by cases h
  | .leaf .lacks _, _, _, _, h => by cases h
  | .leaf .var x, nm, n, y, h => ⟨x, List.mem_singleton.mpr rfl, List.mem_singleton.mp h⟩
  | .two b f g, nm, n, y, h => by
    rcases List.mem_append.mp (show y ∈ fv (tidyF f nm n).1 ++ fv (tidyF g nm (tidyF f nm n).2).1 from h) with h | h
    · obtain ⟨x, h1, h2⟩ := tidy_fv f nm n y h
      exact ⟨x, List.mem_append_left _ h1, h2⟩
    · obtain ⟨x, h1, h2⟩ := tidy_fv g nm _ y h
      exact ⟨x, List.mem_append_right _ h1, h2⟩
  | .one k z f, nm, n, y, h => by
    by_cases hk : k.bind = true
    · simp only [tidyF, if_pos hk, fv, List.mem_filter, decide_eq_true_eq] at h
      obtain ⟨x, h1, h2⟩ := tidy_fv f _ _ y h.1
      by_cases e : x = z
      · rw [if_pos e] at h2
        exact absurd h2 h.2
      · rw [if_neg e] at h2
        refine ⟨x, ?_, h2⟩
        simp only [fv, if_pos hk, List.mem_filter, decide_eq_true_eq]
        exact ⟨h1, e⟩
    · simp only [tidyF, if_neg hk, fv] at h
      obtain ⟨x, h1, h2⟩ := tidy_fv f nm n y h
      refine ⟨x, ?_, h2⟩
      simp only [fv, if_neg hk]
      exact h1
theorem tidy_closed {t : F} (nm : Int → Int) (n : Int) (h : Closed t) : Closed (tidyF t nm n).1 := by
  rw [← closed_fv] at h ⊢
  refine List.eq_nil_iff_forall_not_mem.mpr fun y hy => ?_
  obtain ⟨x, hx, _⟩ := tidy_fv t nm n y hy
  rw [h] at hx
  cases hx
end Fw

/-! The alternation of a statement: entries for the binders in it, and the greatest number over them. Plain Lean. -/
namespace Fw
def mxl {α : Type} (p : α → Bool) (num : α → Nat) : Nat → List α → Nat
  | m, [] => m
  | m, e :: r => mxl p num (if p e = true then max m (num e + 1) else m) r
theorem mxl_le {α : Type} (p : α → Bool) (num : α → Nat) (n : Nat) : ∀ (L : List α) (m : Nat), mxl p num m L ≤ n ↔ m ≤ n ∧ ∀ e ∈ L, p e = true → num e + 1 ≤ n
  | [], m => by simp [mxl]
  | e :: r, m => by
    rw [mxl, mxl_le p num n r]
    constructor
    · rintro ⟨h1, h2⟩
      refine ⟨?_, fun x hx hp => ?_⟩
      · split at h1 <;> omega
      · rcases List.mem_cons.mp hx with rfl | hx
        · rw [if_pos hp] at h1
          omega
        · exact h2 x hx hp
    · rintro ⟨h1, h2⟩
      refine ⟨?_, fun x hx hp => h2 x (List.mem_cons_of_mem _ hx) hp⟩
      split
      · rename_i hp
        have := h2 e List.mem_cons_self hp
        omega
      · exact h1
structure En where
  pos : Nat
  k : One
  vs : List Int
  num : Nat
def pE (k : One) (x : Int) (e : En) : Bool := decide (e.k ≠ k) && decide (x ∈ e.vs)
abbrev noX (x : Int) (l : List Int) : List Int := l.filter fun y => decide (y ≠ x)
def en : F → Nat → List En × Nat
  | .nul _, _ => ([], 0)
  | .leaf _ _, _ => ([], 0)
  | .two _ f g, i => ((en f (i + 1)).1 ++ (en g (i + 1 + f.size)).1, max (en f (i + 1)).2 (en g (i + 1 + f.size)).2)
  | .one k x f, i =>
    if k.bind = true then (⟨i, k, noX x (fv f), mxl (pE k x) En.num (max (en f (i + 1)).2 1) (en f (i + 1)).1⟩ :: (en f (i + 1)).1.map (fun e => ⟨e.pos, e.k, noX x e.vs, e.num⟩),
      mxl (pE k x) En.num (max (en f (i + 1)).2 1) (en f (i + 1)).1)
    else en f (i + 1)
/-- the law's: all binders in it, each with its number -/
def kOf : F → One
  | .one k _ _ => k
  | _ => .some
def pL (k : One) (x : Int) (e : F × Nat) : Bool := decide (kOf e.1 ≠ k) && decide (x ∈ fv e.1)
def lb : F → List (F × Nat) × Nat
  | .nul _ => ([], 0)
  | .leaf _ _ => ([], 0)
  | .two _ f g => ((lb f).1 ++ (lb g).1, max (lb f).2 (lb g).2)
  | .one k x f =>
    if k.bind = true then ((.one k x f, mxl (pL k x) Prod.snd (max (lb f).2 1) (lb f).1) :: (lb f).1, mxl (pL k x) Prod.snd (max (lb f).2 1) (lb f).1)
    else lb f
theorem lb_num : ∀ (t : F) (g : F) (n : Nat), (g, n) ∈ (lb t).1 → (lb g).2 = n ∧ isB g = true ∧ g.depth ≤ t.depth ∧ g.size ≤ t.size
  | .nul _, g, n, h => by cases h
  | .leaf _ _, g, n, h => by cases h
  | .two _ f f', g, n, h => by
    rcases List.mem_append.mp (show (g, n) ∈ (lb f).1 ++ (lb f').1 from h) with h | h
    · obtain ⟨h1, h2, h3, h4⟩ := lb_num f g n h
      exact ⟨h1, h2, by simp only [F.depth]; omega, by simp only [F.size]; omega⟩
    · obtain ⟨h1, h2, h3, h4⟩ := lb_num f' g n h
      exact ⟨h1, h2, by simp only [F.depth]; omega, by simp only [F.size]; omega⟩
  | .one k x f, g, n, h => by
    simp only [lb] at h
    by_cases hk : k.bind = true
    · rw [if_pos hk] at h
      rcases List.mem_cons.mp h with h | h
      · injection h with h1 h2
        subst h1
        subst h2
        refine ⟨?_, hk, Nat.le_refl _, Nat.le_refl _⟩
        simp only [lb, if_pos hk]
      · obtain ⟨h1, h2, h3, h4⟩ := lb_num f g n h
        exact ⟨h1, h2, by simp only [F.depth]; omega, by simp only [F.size]; omega⟩
    · rw [if_neg hk] at h
      obtain ⟨h1, h2, h3, h4⟩ := lb_num f g n h
      exact ⟨h1, h2, by simp only [F.depth]; omega, by simp only [F.size]; omega⟩
theorem mem_noX {x y : Int} {l : List Int} : y ∈ noX x l ↔ y ∈ l ∧ y ≠ x := by
  rw [List.mem_filter, decide_eq_true_eq]
theorem fv_bind {k : One} {x : Int} {f : F} (hk : k.bind = true) : fv (.one k x f) = noX x (fv f) := by
  simp only [fv, if_pos hk]
theorem fv_step {k : One} {x : Int} {f : F} (hk : ¬ k.bind = true) : fv (.one k x f) = fv f := by
  simp only [fv, if_neg hk]
theorem en_vs : ∀ (t : F) (i : Nat) (e : En), e ∈ (en t i).1 → ∀ y ∈ e.vs, y ∈ fv t
  | .nul _, _, e, h => by cases h
  | .leaf _ _, _, e, h => by cases h
  | .two _ f g, i, e, h => fun y hy => by
    rcases List.mem_append.mp (show e ∈ (en f (i + 1)).1 ++ (en g (i + 1 + f.size)).1 from h) with h | h
    · exact List.mem_append_left _ (en_vs f _ e h y hy)
    · exact List.mem_append_right _ (en_vs g _ e h y hy)
  | .one k x f, i, e, h => fun y hy => by
    simp only [en] at h
    by_cases hk : k.bind = true
    · rw [if_pos hk] at h
      rw [fv_bind hk]
      rcases List.mem_cons.mp h with h | h
      · subst h
        exact hy
      · obtain ⟨e', h1, rfl⟩ := List.mem_map.mp h
        have z := mem_noX.mp hy
        exact mem_noX.mpr ⟨en_vs f _ e' h1 y z.1, z.2⟩
    · rw [if_neg hk] at h
      rw [fv_step hk]
      exact en_vs f _ e h y hy
/-! ### the tidy form -/
theorem tidy_ge : ∀ (t : F) (nm : Int → Int) (n : Int), n ≤ (tidyF t nm n).2
  | .nul _, _, n => Int.le_refl n
  | .leaf .var _, _, n => Int.le_refl n
  | .leaf .has _, _, n => Int.le_refl n
  | .leaf .lacks _, _, n => Int.le_refl n
  | .two _ f g, nm, n => Int.le_trans (tidy_ge f nm n) (tidy_ge g nm _)
  | .one k x f, nm, n => by
    simp only [tidyF]
    split
    · have := tidy_ge f (fun y => if y = x then n else nm y) (n + 1)
      show n ≤ (tidyF f (fun y => if y = x then n else nm y) (n + 1)).2
      omega
    · exact tidy_ge f nm n
theorem tidy_has : ∀ (t : F) (nm : Int → Int) (n x : Int), x ∈ fv t → nm x < n → nm x ∈ fv (tidyF t nm n).1
  | .nul _, _, _, _, h, _ => by cases h
  | .leaf .has _, _, _, _, h, _ => by cases h
  | .leaf .lacks _, _, _, _, h, _ => by cases h
  | .leaf .var y, nm, n, x, h, _ => by
    rw [List.mem_singleton.mp (show x ∈ [y] from h)]
    exact List.mem_singleton.mpr rfl
  | .two _ f g, nm, n, x, h, lt => by
    have := tidy_ge f nm n
    rcases List.mem_append.mp (show x ∈ fv f ++ fv g from h) with h | h
    · exact List.mem_append_left _ (tidy_has f nm n x h lt)
    · exact List.mem_append_right _ (tidy_has g nm _ x h (by omega))
  | .one k z f, nm, n, x, h, lt => by
    by_cases hk : k.bind = true
    · rw [fv_bind hk] at h
      have q := mem_noX.mp h
      simp only [tidyF, if_pos hk]
      rw [fv_bind hk]
      have r := tidy_has f (fun y => if y = z then n else nm y) (n + 1) x q.1 (by show (if x = z then n else nm x) < n + 1; rw [if_neg q.2]; omega)
      simp only [if_neg q.2] at r
      exact mem_noX.mpr ⟨r, by omega⟩
    · rw [fv_step hk] at h
      simp only [tidyF, if_neg hk]
      rw [fv_step hk]
      exact tidy_has f nm n x h lt
def RelE (nm : Int → Int) (n : Int) (p : F × Nat) (e : En) : Prop := p.2 = e.num ∧ kOf p.1 = e.k ∧ ∀ z, z < n → (z ∈ fv p.1 ↔ ∃ y ∈ e.vs, nm y = z)
inductive Two (R : F × Nat → En → Prop) : List (F × Nat) → List En → Prop
  | nil : Two R [] []
  | cons {a b as bs} : R a b → Two R as bs → Two R (a :: as) (b :: bs)
theorem Two.app {R : F × Nat → En → Prop} {A B : List (F × Nat)} {C D : List En} (h : Two R A C) (k : Two R B D) : Two R (A ++ B) (C ++ D) := by
  induction h with
  | nil => exact k
  | cons r _ ih => exact .cons r ih
theorem Two.mono {R S : F × Nat → En → Prop} {A : List (F × Nat)} {C : List En} (h : Two R A C) (f : ∀ a ∈ A, ∀ b ∈ C, R a b → S a b) : Two S A C := by
  induction h with
  | nil => exact .nil
  | cons r _ ih => exact .cons (f _ List.mem_cons_self _ List.mem_cons_self r) (ih fun a ha b hb => f a (List.mem_cons_of_mem _ ha) b (List.mem_cons_of_mem _ hb))
theorem Two.mapR {R : F × Nat → En → Prop} {g : En → En} {A : List (F × Nat)} {C : List En} (h : Two (fun a b => R a (g b)) A C) : Two R A (C.map g) := by
  induction h with
  | nil => exact .nil
  | cons r _ ih => exact .cons r ih
theorem two_mxl {R : F × Nat → En → Prop} {p : F × Nat → Bool} {q : En → Bool} {A : List (F × Nat)} {C : List En} (h : Two R A C) (f : ∀ a ∈ A, ∀ b ∈ C, R a b → a.2 = b.num ∧ p a = q b) : ∀ m, mxl p Prod.snd m A = mxl q En.num m C := by
  induction h with
  | nil => exact fun _ => rfl
  | cons r _ ih =>
    intro m
    obtain ⟨e1, e2⟩ := f _ List.mem_cons_self _ List.mem_cons_self r
    rw [mxl, mxl, e1, e2, ih fun a ha b hb => f a (List.mem_cons_of_mem _ ha) b (List.mem_cons_of_mem _ hb)]
theorem tidy_en : ∀ (t : F) (nm : Int → Int) (n : Int) (i : Nat) (S : List Int), (∀ x ∈ fv t, x ∈ S) → (∀ x ∈ S, ∀ y ∈ S, nm x = nm y → x = y) → (∀ x ∈ S, nm x < n) →
    (lb (tidyF t nm n).1).2 = (en t i).2 ∧ Two (RelE nm n) (lb (tidyF t nm n).1).1 (en t i).1
  | .nul _, _, _, _, _, _, _, _ => ⟨rfl, .nil⟩
  | .leaf .var _, _, _, _, _, _, _, _ => ⟨rfl, .nil⟩
  | .leaf .has _, _, _, _, _, _, _, _ => ⟨rfl, .nil⟩
  | .leaf .lacks _, _, _, _, _, _, _, _ => ⟨rfl, .nil⟩
  | .two b f g, nm, n, i, S, hS, inj, lt => by
    have ge := tidy_ge f nm n
    obtain ⟨f1, f2⟩ := tidy_en f nm n (i + 1) S (fun x hx => hS x (List.mem_append_left _ hx)) inj lt
    obtain ⟨g1, g2⟩ := tidy_en g nm (tidyF f nm n).2 (i + 1 + f.size) S (fun x hx => hS x (List.mem_append_right _ hx)) inj (fun x hx => by have := lt x hx; omega)
    refine ⟨?_, ?_⟩
    · show max _ _ = max _ _
      rw [f1, g1]
    · refine Two.app f2 (g2.mono fun a _ b _ r => ⟨r.1, r.2.1, fun z hz => r.2.2 z (by omega)⟩)
  | .one k x f, nm, n, i, S, hS, inj, lt => by
    by_cases hk : k.bind = true
    · have inj' : ∀ y ∈ x :: S, ∀ z ∈ x :: S, (if y = x then n else nm y) = (if z = x then n else nm z) → y = z := fun y hy z hz e => by
        by_cases ey : y = x
        · by_cases ez : z = x
          · rw [ey, ez]
          · rw [if_pos ey, if_neg ez] at e
            have := lt z ((List.mem_cons.mp hz).resolve_left ez)
            omega
        · by_cases ez : z = x
          · rw [if_neg ey, if_pos ez] at e
            have := lt y ((List.mem_cons.mp hy).resolve_left ey)
            omega
          · rw [if_neg ey, if_neg ez] at e
            exact inj y ((List.mem_cons.mp hy).resolve_left ey) z ((List.mem_cons.mp hz).resolve_left ez) e
      have lt' : ∀ y ∈ x :: S, (if y = x then n else nm y) < n + 1 := fun y hy => by
        by_cases ey : y = x
        · rw [if_pos ey]
          omega
        · rw [if_neg ey]
          have := lt y ((List.mem_cons.mp hy).resolve_left ey)
          omega
      have sub : ∀ y ∈ fv f, y ∈ x :: S := fun y hy => by
        by_cases ey : y = x
        · rw [ey]
          exact List.mem_cons_self
        · exact List.mem_cons_of_mem _ (hS y (by rw [fv_bind hk]; exact mem_noX.mpr ⟨hy, ey⟩))
      obtain ⟨f1, f2⟩ := tidy_en f (fun y => if y = x then n else nm y) (n + 1) (i + 1) (x :: S) sub inj' lt'
      have isx : ∀ y ∈ fv f, (if y = x then n else nm y) = n → y = x := fun y hy e => by
        by_cases ey : y = x
        · exact ey
        · rw [if_neg ey] at e
          have := lt y ((List.mem_cons.mp (sub y hy)).resolve_left ey)
          omega
      have num : mxl (pL k n) Prod.snd (max (lb (tidyF f (fun y => if y = x then n else nm y) (n + 1)).1).2 1) (lb (tidyF f (fun y => if y = x then n else nm y) (n + 1)).1).1 = mxl (pE k x) En.num (max (en f (i + 1)).2 1) (en f (i + 1)).1 := by
        rw [f1]
        refine two_mxl f2 (fun a _ b hb r => ⟨r.1, ?_⟩) _
        unfold pL pE
        rw [r.2.1]
        congr 1
        refine decide_eq_decide.mpr ((r.2.2 n (by omega)).trans ⟨?_, fun h => ⟨x, h, if_pos rfl⟩⟩)
        rintro ⟨y, hy, e⟩
        have := isx y (en_vs f _ b hb y hy) e
        rw [← this]
        exact hy
      have small : ∀ y, y ≠ x → (if y = x then n else nm y) = nm y := fun y e => if_neg e
      simp only [tidyF, en, if_pos hk, lb]
      refine ⟨num, .cons ⟨num, rfl, fun z hz => ?_⟩ (Two.mapR (f2.mono fun a _ b hb r => ⟨r.1, r.2.1, fun z hz => ?_⟩))⟩
      · show z ∈ fv (F.one k n _) ↔ ∃ y ∈ noX x (fv f), nm y = z
        rw [fv_bind hk, mem_noX]
        constructor
        · rintro ⟨h1, h2⟩
          obtain ⟨y, hy, e⟩ := tidy_fv f _ _ z h1
          by_cases ey : y = x
          · rw [if_pos ey] at e
            exact absurd e h2
          · rw [if_neg ey] at e
            exact ⟨y, mem_noX.mpr ⟨hy, ey⟩, e.symm⟩
        · rintro ⟨y, hy, e⟩
          obtain ⟨h1, h2⟩ := mem_noX.mp hy
          have := tidy_has f (fun y => if y = x then n else nm y) (n + 1) y h1 (by show (if y = x then n else nm y) < _; rw [if_neg h2]; omega)
          simp only [if_neg h2, e] at this
          exact ⟨this, by omega⟩
      · show z ∈ fv a.1 ↔ ∃ y ∈ noX x b.vs, nm y = z
        rw [r.2.2 z (by omega)]
        constructor
        · rintro ⟨y, hy, e⟩
          have ey : y ≠ x := fun q => by
            have e' : (if y = x then n else nm y) = z := e
            rw [if_pos q] at e'
            omega
          exact ⟨y, mem_noX.mpr ⟨hy, ey⟩, by rw [← small y ey]; exact e⟩
        · rintro ⟨y, hy, e⟩
          obtain ⟨h1, h2⟩ := mem_noX.mp hy
          exact ⟨y, h1, by rw [← e]; exact small y h2⟩
    · simp only [tidyF, en, if_neg hk, lb]
      rw [fv_step hk] at hS
      exact tidy_en f nm n (i + 1) S hS inj lt
theorem tidy_num {t : F} (h : fv t = []) (nm : Int → Int) : (lb (tidyF t nm 0).1).2 = (en t 0).2 :=
  (tidy_en t nm 0 0 [] (fun x hx => by rw [h] at hx; exact hx) (fun x hx => by cases hx) (fun x hx => by cases hx)).1
/-! ### by places -/
theorem info_more : ∀ (t : F) (a : Int) (i : Nat) (s1 s2 : Stk), info t a i (s1 ++ s2) = (info t a i s1).map fun r => ⟨r.sub, r.aro, r.stk ++ s2⟩
  | .nul _, _, _, _, _ => rfl
  | .leaf _ _, _, _, _, _ => rfl
  | .two _ f g, a, i, s1, s2 => by
    simp only [info, List.map_cons, List.map_append, info_more f, info_more g]
  | .one k n f, a, i, s1, s2 => by
    by_cases hk : k.bind = true
    · have := info_more f i (i + 1) ((n, i) :: s1) s2
      simp only [info, if_pos hk, List.map_cons]
      rw [← this]
      rfl
    · simp only [info, if_neg hk, List.map_cons, info_more f]
theorem info_own (t : F) (a : Int) (i : Nat) (st : Stk) : info t a i st = (info t a i []).map fun r => ⟨r.sub, r.aro, r.stk ++ st⟩ := info_more t a i [] st
/-- an entry's place -/
theorem en_at : ∀ (t : F) (a : Int) (i : Nat) (st : Stk) (e : En), e ∈ (en t i).1 → ∃ q r x f, e.pos = i + q ∧ (info t a i st)[q]? = some r ∧ r.sub = .one e.k x f ∧ e.k.bind = true ∧ (en r.sub e.pos).2 = e.num
  | .nul _, _, _, _, _, h => by cases h
  | .leaf _ _, _, _, _, _, h => by cases h
  | .two b f g, a, i, st, e, h => by
    rcases List.mem_append.mp (show e ∈ (en f (i + 1)).1 ++ (en g (i + 1 + f.size)).1 from h) with h | h
    · obtain ⟨q, r, x, f', h1, h2, h3⟩ := en_at f i (i + 1) st e h
      refine ⟨q + 1, r, x, f', by omega, ?_, h3⟩
      simp only [info, List.getElem?_cons_succ]
      rw [List.getElem?_append_left (List.getElem?_eq_some_iff.mp h2).1]
      exact h2
    · obtain ⟨q, r, x, f', h1, h2, h3⟩ := en_at g i (i + 1 + f.size) st e h
      refine ⟨f.size + q + 1, r, x, f', by omega, ?_, h3⟩
      simp only [info, List.getElem?_cons_succ]
      rw [List.getElem?_append_right (by rw [info_len]; omega), info_len, show f.size + q - f.size = q by omega]
      exact h2
  | .one k n f, a, i, st, e, h => by
    simp only [en] at h
    by_cases hk : k.bind = true
    · rw [if_pos hk] at h
      rcases List.mem_cons.mp h with h | h
      · subst h
        refine ⟨0, ⟨.one k n f, a, st⟩, n, f, rfl, rfl, rfl, hk, ?_⟩
        simp only [en, if_pos hk]
      · obtain ⟨e', h1, rfl⟩ := List.mem_map.mp h
        obtain ⟨q, r, x, f', h1, h2, h3⟩ := en_at f i (i + 1) ((n, i) :: st) e' h1
        refine ⟨q + 1, r, x, f', by show e'.pos = _; omega, ?_, h3⟩
        simp only [info, List.getElem?_cons_succ, if_pos hk]
        exact h2
    · rw [if_neg hk] at h
      obtain ⟨q, r, x, f', h1, h2, h3⟩ := en_at f i (i + 1) st e h
      refine ⟨q + 1, r, x, f', by omega, ?_, h3⟩
      simp only [info, List.getElem?_cons_succ, if_neg hk]
      exact h2
/-- whose variables pass it -/
theorem fv_occ {t : F} {a : Int} {i : Nat} {z : Int} : z ∈ fv t ↔ ∃ r ∈ info t a i [], r.sub = .leaf .var z ∧ z ∉ r.stk.map (·.1) := by
  rw [← free_iff z t [] a i [] (by simp), free_fv]
  simp
theorem en_occ : ∀ (t : F) (a : Int) (i : Nat) (z : Int) (b : Nat), (∃ e ∈ (en t i).1, e.pos = b ∧ z ∈ e.vs) ↔
    ∃ r ∈ info t a i [], r.sub = .leaf .var z ∧ z ∉ r.stk.map (·.1) ∧ b ∈ r.stk.map (·.2)
  | .nul _, _, _, _, _ => by simp [en, info]
  | .leaf _ _, _, _, _, _ => by simp [en, info]
  | .two _ f g, a, i, z, b => by
    have ihf := en_occ f i (i + 1) z b
    have ihg := en_occ g i (i + 1 + f.size) z b
    constructor
    · rintro ⟨e, he, h⟩
      rcases List.mem_append.mp (show e ∈ (en f (i + 1)).1 ++ (en g (i + 1 + f.size)).1 from he) with he | he
      · obtain ⟨r, h1, h2⟩ := ihf.mp ⟨e, he, h⟩
        exact ⟨r, by simp only [info, List.mem_cons, List.mem_append]; exact .inr (.inl h1), h2⟩
      · obtain ⟨r, h1, h2⟩ := ihg.mp ⟨e, he, h⟩
        exact ⟨r, by simp only [info, List.mem_cons, List.mem_append]; exact .inr (.inr h1), h2⟩
    · rintro ⟨r, hr, h⟩
      simp only [info, List.mem_cons, List.mem_append] at hr
      rcases hr with rfl | hr | hr
      · cases h.1
      · obtain ⟨e, h1, h2⟩ := ihf.mpr ⟨r, hr, h⟩
        exact ⟨e, List.mem_append_left _ h1, h2⟩
      · obtain ⟨e, h1, h2⟩ := ihg.mpr ⟨r, hr, h⟩
        exact ⟨e, List.mem_append_right _ h1, h2⟩
  | .one k x f, a, i, z, b => by
    by_cases hk : k.bind = true
    · have ih := en_occ f i (i + 1) z b
      have hi : info (.one k x f) a i [] = ⟨.one k x f, a, []⟩ :: (info f i (i + 1) []).map fun r => ⟨r.sub, r.aro, r.stk ++ [(x, i)]⟩ := by
        simp only [info, if_pos hk]
        rw [info_own f i (i + 1) [(x, i)]]
      rw [hi]
      simp only [en, if_pos hk]
      constructor
      · rintro ⟨e, he, h1, h2⟩
        rcases List.mem_cons.mp he with he | he
        · subst he
          obtain ⟨q1, q2⟩ := mem_noX.mp h2
          obtain ⟨r, hr, h3, h4⟩ := (fv_occ (a := i) (i := i + 1)).mp q1
          refine ⟨_, List.mem_cons_of_mem _ (List.mem_map_of_mem hr), h3, ?_, ?_⟩
          · show z ∉ (r.stk ++ [(x, i)]).map (·.1)
            rw [List.map_append, List.mem_append]
            exact fun y => y.elim h4 fun y => q2 (List.mem_singleton.mp y)
          · show b ∈ (r.stk ++ [(x, i)]).map (·.2)
            rw [List.map_append, List.mem_append]
            exact .inr (List.mem_singleton.mpr h1.symm)
        · obtain ⟨e', he', rfl⟩ := List.mem_map.mp he
          obtain ⟨q1, q2⟩ := mem_noX.mp h2
          obtain ⟨r, hr, h3, h4, h5⟩ := ih.mp ⟨e', he', h1, q1⟩
          refine ⟨_, List.mem_cons_of_mem _ (List.mem_map_of_mem hr), h3, ?_, ?_⟩
          · show z ∉ (r.stk ++ [(x, i)]).map (·.1)
            rw [List.map_append, List.mem_append]
            exact fun y => y.elim h4 fun y => q2 (List.mem_singleton.mp y)
          · show b ∈ (r.stk ++ [(x, i)]).map (·.2)
            rw [List.map_append, List.mem_append]
            exact .inl h5
      · rintro ⟨r, hr, h1, h2, h3⟩
        rcases List.mem_cons.mp hr with hr | hr
        · subst hr
          cases h1
        · obtain ⟨r', hr', rfl⟩ := List.mem_map.mp hr
          have h2' : z ∉ (r'.stk ++ [(x, i)]).map (·.1) := h2
          have h3' : b ∈ (r'.stk ++ [(x, i)]).map (·.2) := h3
          rw [List.map_append, List.mem_append, not_or] at h2'
          rw [List.map_append, List.mem_append] at h3'
          have zx : z ≠ x := fun e => h2'.2 (List.mem_singleton.mpr e)
          rcases h3' with h3' | h3'
          · obtain ⟨e, he, q1, q2⟩ := ih.mpr ⟨r', hr', h1, h2'.1, h3'⟩
            exact ⟨_, List.mem_cons_of_mem _ (List.mem_map_of_mem he), q1, mem_noX.mpr ⟨q2, zx⟩⟩
          · refine ⟨_, List.mem_cons_self, (List.mem_singleton.mp h3').symm, mem_noX.mpr ⟨(fv_occ (a := i) (i := i + 1)).mpr ⟨r', hr', h1, h2'.1⟩, zx⟩⟩
    · have ih := en_occ f i (i + 1) z b
      simp only [en, info, if_neg hk]
      rw [ih]
      constructor
      · rintro ⟨r, h1, h2⟩
        exact ⟨r, List.mem_cons_of_mem _ h1, h2⟩
      · rintro ⟨r, h1, h2⟩
        rcases List.mem_cons.mp h1 with rfl | h1
        · cases h2.1
        · exact ⟨r, h1, h2⟩
/-- the binder in a stack -/
theorem stk_split : ∀ (t : F) (a : Int) (i : Nat) (r : Rec), r ∈ info t a i [] → ∀ (A : Stk) (y : Int) (p : Nat) (B : Stk), r.stk = A ++ (y, p) :: B →
    ∃ m k f rp r', p = i + m ∧ (info t a i [])[m]? = some rp ∧ rp.sub = .one k y f ∧ k.bind = true ∧ r' ∈ info f p (p + 1) [] ∧ r'.sub = r.sub ∧ r'.stk = A
  | .nul _, _, _, r, h, A, y, p, B, e => by
    rw [List.mem_singleton.mp (show r ∈ [_] from h)] at e
    cases A <;> cases e
  | .leaf _ _, _, _, r, h, A, y, p, B, e => by
    rw [List.mem_singleton.mp (show r ∈ [_] from h)] at e
    cases A <;> cases e
  | .two b f g, a, i, r, h, A, y, p, B, e => by
    simp only [info, List.mem_cons, List.mem_append] at h
    rcases h with rfl | h | h
    · cases A <;> cases e
    · obtain ⟨m, k, f', rp, r', h1, h2, h3⟩ := stk_split f i (i + 1) r h A y p B e
      refine ⟨m + 1, k, f', rp, r', by omega, ?_, h3⟩
      simp only [info, List.getElem?_cons_succ]
      rw [List.getElem?_append_left (List.getElem?_eq_some_iff.mp h2).1]
      exact h2
    · obtain ⟨m, k, f', rp, r', h1, h2, h3⟩ := stk_split g i (i + 1 + f.size) r h A y p B e
      refine ⟨f.size + m + 1, k, f', rp, r', by omega, ?_, h3⟩
      simp only [info, List.getElem?_cons_succ]
      rw [List.getElem?_append_right (by rw [info_len]; omega), info_len, show f.size + m - f.size = m by omega]
      exact h2
  | .one k x f, a, i, r, h, A, y, p, B, e => by
    by_cases hk : k.bind = true
    · have hi : info (.one k x f) a i [] = ⟨.one k x f, a, []⟩ :: (info f i (i + 1) []).map fun r => ⟨r.sub, r.aro, r.stk ++ [(x, i)]⟩ := by
        simp only [info, if_pos hk]
        rw [info_own f i (i + 1) [(x, i)]]
      rw [hi] at h ⊢
      rcases List.mem_cons.mp h with rfl | h
      · cases A <;> cases e
      · obtain ⟨r0, hr0, rfl⟩ := List.mem_map.mp h
        have e' : r0.stk ++ [(x, i)] = A ++ (y, p) :: B := e
        rcases List.eq_nil_or_concat B with rfl | ⟨B', w, rfl⟩
        · obtain ⟨e1, e2⟩ := List.append_inj' e' rfl
          injection e2 with e2 _
          injection e2 with e2 e3
          subst e2
          subst e3
          refine ⟨0, k, f, _, r0, rfl, rfl, rfl, hk, ?_, rfl, e1⟩
          exact hr0
        · rw [List.concat_eq_append, ← List.cons_append, ← List.append_assoc] at e'
          obtain ⟨e1, e2⟩ := List.append_inj' e' rfl
          obtain ⟨m, k', f', rp, r', h1, h2, h3⟩ := stk_split f i (i + 1) r0 hr0 A y p B' e1
          refine ⟨m + 1, k', f', ⟨rp.sub, rp.aro, rp.stk ++ [(x, i)]⟩, r', by omega, ?_, h3⟩
          rw [List.getElem?_cons_succ, List.getElem?_map, h2]
          rfl
    · simp only [info, if_neg hk] at h ⊢
      rcases List.mem_cons.mp h with rfl | h
      · cases A <;> cases e
      · obtain ⟨m, k', f', rp, r', h1, h2, h3⟩ := stk_split f i (i + 1) r h A y p B e
        exact ⟨m + 1, k', f', rp, r', by omega, by rw [List.getElem?_cons_succ]; exact h2, h3⟩
def aboveP (x : Int) : Stk → List Nat
  | [] => []
  | (y, p) :: r => if y = x then [] else p :: aboveP x r
theorem above_split (x : Int) : ∀ (st : Stk) (j : Nat), posOf x st = (j : Int) → ∃ A B, st = A ++ (x, j) :: B ∧ x ∉ A.map (·.1) ∧ aboveP x st = A.map (·.2)
  | [], j, h => by
    simp only [posOf] at h
    omega
  | (y, p) :: r, j, h => by
    simp only [posOf] at h
    by_cases e : y = x
    · rw [if_pos e] at h
      subst e
      have : p = j := by omega
      subst this
      exact ⟨[], r, rfl, by simp, by simp [aboveP]⟩
    · rw [if_neg e] at h
      obtain ⟨A, B, h1, h2, h3⟩ := above_split x r j h
      refine ⟨(y, p) :: A, B, by rw [h1]; rfl, ?_, by simp only [aboveP, if_neg e, h3, List.map_cons]⟩
      rw [List.map_cons, List.mem_cons, not_or]
      exact ⟨fun q => e q.symm, h2⟩
theorem posOf_app (x : Int) (j : Nat) (B : Stk) : ∀ (A : Stk), x ∉ A.map (·.1) → posOf x (A ++ (x, j) :: B) = (j : Int) ∧ aboveP x (A ++ (x, j) :: B) = A.map (·.2)
  | [], _ => by simp [posOf, aboveP]
  | (y, p) :: A, h => by
    rw [List.map_cons, List.mem_cons, not_or] at h
    obtain ⟨h1, h2⟩ := posOf_app x j B A h.2
    have e : ¬ y = x := fun q => h.1 q.symm
    exact ⟨by simp only [List.cons_append, posOf, if_neg e, h1], by simp only [List.cons_append, aboveP, if_neg e, h2, List.map_cons]⟩
/-- of whom a binder speaks -/
theorem speak_iff {t : F} {j : Nat} {rj : Rec} {k : One} {x : Int} {f : F} (h : (infos t)[j]? = some rj) (hs : rj.sub = .one k x f) (hk : k.bind = true) (b : Nat) :
    (∃ e ∈ (en f (j + 1)).1, e.pos = b ∧ x ∈ e.vs) ↔ ∃ rv ∈ infos t, ∃ z, rv.sub = .leaf .var z ∧ posOf z rv.stk = (j : Int) ∧ b ∈ aboveP z rv.stk := by
  rw [en_occ f j (j + 1) x b]
  constructor
  · rintro ⟨r', hr', h1, h2, h3⟩
    obtain ⟨q, hq⟩ := List.mem_iff_getElem?.mp hr'
    have own := info_own f j (j + 1) ((x, j) :: rj.stk)
    have at' : (info rj.sub rj.aro j rj.stk)[q + 1]? = some ⟨r'.sub, r'.aro, r'.stk ++ (x, j) :: rj.stk⟩ := by
      rw [hs]
      simp only [info, if_pos hk, List.getElem?_cons_succ]
      rw [own, List.getElem?_map, hq]
      rfl
    have z := sub_at h (q + 1) _ at'
    obtain ⟨p1, p2⟩ := posOf_app x j rj.stk r'.stk h2
    exact ⟨_, List.mem_of_getElem? z, x, h1, p1, by show b ∈ aboveP x (r'.stk ++ (x, j) :: rj.stk); rw [p2]; exact h3⟩
  · rintro ⟨rv, hrv, z, h1, h2, h3⟩
    obtain ⟨A, B, e1, e2, e3⟩ := above_split z rv.stk j h2
    obtain ⟨m, k', f', rp, r', q1, q2, q3, q4, q5, q6, q7⟩ := stk_split t (-1) 0 rv hrv A z j B e1
    rw [Nat.zero_add] at q1
    subst q1
    rw [show infos t = info t (-1) 0 [] from rfl, q2] at h
    cases h
    rw [hs] at q3
    injection q3 with _ e4 e5
    subst e4
    subst e5
    rw [e3] at h3
    exact ⟨r', q5, by rw [q6]; exact h1, by rw [q7]; exact e2, by rw [q7]; exact h3⟩
end Fw

set_option maxRecDepth 100000
set_option maxHeartbeats 4000000
/-! max(xs, default=d) of whole numbers; name = {k: v for ..} on one line; a dict comprehension over any walk -/
namespace Fw
open PySem PySem.Spec PyProof.Rows L2
theorem reads_ints {h : Heap} : ∀ {its : List Value} {ns : List Int}, IntsAre its ns → ReadsAll h its (ns.map PyData.int) []
  | _, _, .nil => .nil
  | _, _, .cons k t r => by
    have := ReadsAll.cons (Reads.int (h := h) k t) (reads_ints r)
    exact this
theorem alike_ints (ns : List Int) : PySem.W.AlikeAll (ns.map PyData.int) := by
  refine ⟨fun x hx y hy => ?_, fun x hx => ?_⟩
  · obtain ⟨a, _, rfl⟩ := List.mem_map.mp hx
    obtain ⟨b, _, rfl⟩ := List.mem_map.mp hy
    simp [PySem.W.alike]
  · obtain ⟨a, _, rfl⟩ := List.mem_map.mp hx
    intro e
    cases e
theorem depth_ints : ∀ ns : List Int, PyData.depthAll (ns.map PyData.int) = 0
  | [] => by simp [PyData.depthAll]
  | n :: ns => by simp [PyData.depthAll, PyData.depth, depth_ints ns]
theorem fold_max (n : Int) : ∀ ns : List Int, ns.foldl max n ∈ n :: ns ∧ ∀ y ∈ n :: ns, y ≤ ns.foldl max n
  | [] => by simp
  | k :: r => by
    obtain ⟨h1, h2⟩ := fold_max (max n k) r
    rw [List.foldl_cons]
    refine ⟨?_, fun y hy => ?_⟩
    · rcases List.mem_cons.mp h1 with e | e
      · rw [e]
        rcases Int.le_total n k with q | q
        · rw [Int.max_eq_right q]
          exact List.mem_cons_of_mem _ List.mem_cons_self
        · rw [Int.max_eq_left q]
          exact List.mem_cons_self
      · exact List.mem_cons_of_mem _ (List.mem_cons_of_mem _ e)
    · have top := h2 (max n k) List.mem_cons_self
      rcases List.mem_cons.mp hy with rfl | hy
      · exact Int.le_trans (Int.le_max_left _ _) top
      · rcases List.mem_cons.mp hy with rfl | hy
        · exact Int.le_trans (Int.le_max_right _ _) top
        · exact h2 y (List.mem_cons_of_mem _ hy)
theorem reads_int {h : Heap} {v : Value} {n : Int} {bs : List Addr} (r : Reads h v (.int n) bs) : ∃ t, v = .int n t := by
  cases r
  exact ⟨_, rfl⟩
section
variable {X : Cx}
def rMaxDf (K : PySem.W.Frag) : List V → List V → Hp → VK → Prop := fun vs zs H Q => ∃ (a : Addr) (ns : List Int) (d : Int), vs = [V.ref a] ∧ zs = [V.int d] ∧ SqL K H a (ns.map V.int) ∧
  ∀ m : Int, ((ns = [] ∧ m = d) ∨ (m ∈ ns ∧ ∀ y ∈ ns, y ≤ m)) → Q (.int m) H
theorem cr_maxDf (calm : X.calm = true) (room : X.A.units + 1 < cLine) : CallRK X (.builtin "max") [PySem.Str.ofString "default"] (rMaxDf X.K) := by
  intro pins s σ H vs zs us ws Q I r rz h
  obtain ⟨a, ns, d, rfl, rfl, hs, q⟩ := h
  obtain ⟨its, rv, hl, _⟩ := I.list hs
  rw [Vals.ref1 r]
  obtain ⟨w, rfl, ew⟩ := vals1 rz
  obtain ⟨td, rfl⟩ : ∃ t, w = Value.int d t := ew
  have iv := intsOfVals rv
  refine PySem.W.max_list_default (I.ok.hd calm) hl.isList (reads_ints iv) (alike_ints ns) (by rw [depth_ints]; exact room) (fun e h' tk kp => ?_) (fun y ys i v h' tk bs e hi rd kp => ?_)
  · have e' : ns = [] := List.map_eq_nil_iff.mp e
    exact ⟨.int d, H, I.kept kp, ⟨_, rfl⟩, q d (.inl ⟨e', rfl⟩)⟩
  · cases ns with
    | nil => cases e
    | cons n ns =>
      rw [List.map_cons] at e
      injection e with e1 e2
      subst e1
      subst e2
      rw [PySem.W.maxD_ints] at rd
      obtain ⟨t, rfl⟩ := reads_int rd
      exact ⟨.int _, H, I.kept kp, ⟨_, rfl⟩, q _ (.inr (fold_max n ns))⟩
/-- name = {..} on one line, the name a local -/
theorem ps_setDc {i : Nat} {y : PySem.Str} {py : Pos} {kx vx tg iter : Expr} {ifs : List Expr} {scope : Scope} {own : List (PySem.Str × Nat)} {pos spos : Pos} {wi : TI} {g : TG} {tt : TT} {tk tv : TE}
    (calm : X.calm = true) (nd : X.N.Nodup) (hy : X.N[i]? = some y) (loc : X.env.scope.names.lookup y = some .local)
    (sw : swapsWith (.DictComp kx vx [⟨tg, iter, ifs, 0⟩] scope pos) (some (.Name y py)) spos.line X.env = pure true) (walk : PI X tg iter wi) (blk : BlkOk X.N X.env.scope scope own)
    (gg : ∀ s H C cl fp, PG (X.blk s H scope (compEnvC scope cl C X.env) fp) tg g)
    (tts : ∀ s H C cl fp, PTs (X.blk s H scope (compEnvC scope cl C X.env) fp) ifs tt)
    (kk : ∀ s H C cl fp, PE (X.blk s H scope (compEnvC scope cl C X.env) fp) kx tk)
    (vv : ∀ s H C cl fp, PE (X.blk s H scope (compEnvC scope cl C X.env) fp) vx tv)
    (fold : ∀ x, foldedSetIterable iter X.env x = pure x := by intro _; rfl) :
    PS X (.Assign [.Name y py] (.DictComp kx vx [⟨tg, iter, ifs, 0⟩] scope pos) spos) (tAsg (tDc wi g tt tk tv (own.map (·.2))) (gName i)) := by
  refine ⟨fun pins s σ H D I asked => ?_⟩
  rw [exec_Assign_Name_used _ _ _ _ sw]
  refine wpAny_bind (wpAny_standAt (wpAny_bind ?_))
  show wpAny _ X.A (do
    let _ ← comprehension (.DictComp kx vx [⟨tg, iter, ifs, 0⟩] scope pos) scope X.env (firstIterPos [⟨tg, iter, ifs, 0⟩] pos) newDict false (eval iter X.env) (some (assign (.Name y py) X.env))) _ _ s
  have asked' : tDc wi g tt tk tv (own.map (·.2)) σ H (fun x H1 => gName i x σ H1 D.nx) := asked
  refine wpAny_bind (thn (dc_core (Qf := fun _ z => SP X pins D .next z) calm nd I walk blk gg tts kk vv fold asked' fun L C z m G I' q ns f => ?_) fun _ z hq => wpAny_pure (wpAny_pure hq))
  show wpAny _ _ (assign (.Name y py) X.env (.ref L)) _ _ _
  refine wpAny_assign_Name (store_ok2 (v := V.ref L) I' nd hy (.inl loc) rfl (fun z2 I2 told => ?_) (.inr loc))
  obtain ⟨a, sb, ha⟩ := told
  obtain ⟨f0, f1, f2, f3, f4, f5⟩ := f
  have other : C ≠ a := ha.elim (fun e => by rw [e]; exact f1) fun e q => f4 y a e q.symm
  refine ⟨m, ns.sameBut sb other, fun h3 sb3 => ⟨_, G, ?_, q⟩⟩
  exact I2.turned (t' := z2.toks) (fun b o hb e => (sb3.2 b hb).trans e) f0 f1 f3 f4 f5
theorem swD_true {kx vx : Expr} {gs : List Comprehension} {scope : Scope} {pos py : Pos} {y : PySem.Str} {l : Nat} {env : Env} (hk : env.scope.kind = .function) (hy : env.scope.names.lookup y = some .local) (hl : (py.line == pos.line) = true)
    (ha : (scope.names.any fun (n, k) => n == y && (k == .local || k == .cell)) = false) : swapsWith (.DictComp kx vx gs scope pos) (some (.Name y py)) l env = pure true := by
  have k1 : env.kindOf y = some .local := hy
  have k2 : env.blockKind = .function := by
    unfold Env.blockKind
    rw [hk]
    rfl
  unfold swapsWith
  simp only [k2, k1, ha, Expr.pos, hl]
  rfl
end
/-- over any walk: Pv by the turn and the heap -/
theorem dc_it {J : It} {n : Nat} {G : Hp → Prop} {Y : Nat → Hp → V → Hp → Prop} (w : Walk J n G Y) {g : TG} {tt : TT} {tk tv : TE} {vs : List Nat} {σ : L2.St} {H1 : Hp} {D : Addr} {Qd : Hp → Prop} (Pv : Nat → Hp → Prop)
    (h0 : Pv 0 (upd H1 D (.dK []))) (hG : ∀ i H, i ≤ n → Pv i H → G H)
    (hs : ∀ i x H H', i < n → Pv i H → Y i H x H' → g x (wipe σ vs) H' fun σ2 H2 => wipe σ2 vs = wipe σ vs ∧ tt σ2 H2 fun b H3 =>
      if b = true then tk σ2 H3 fun y H4 => tv σ2 H4 fun z H5 => ∃ kvs k, y = kV k ∧ H5 D = some (.dK kvs) ∧ kvs.length < sizeLine ∧ Pv (i + 1) (upd H5 D (.dK (putK kvs k z))) else Pv (i + 1) H3) (hd : ∀ H, Pv n H → Qd H) :
    ∃ Wm : Nat → Nat → Hp → Prop, (∃ m, Wm 0 m (upd H1 D (.dK []))) ∧ ∀ i m H, Wm i m H →
      (J.stop i H ∧ Qd H) ∨ (J.go i H ∧ ∃ Nx : Hp → Prop, (∀ H', Nx H' → ∃ m', m' < m ∧ Wm (i + 1) m' H') ∧
        ∀ x H', J.yld i H x H' → g x (wipe σ vs) H' fun σ2 H2 => wipe σ2 vs = wipe σ vs ∧ tt σ2 H2 fun b H3 =>
        if b = true then tk σ2 H3 fun y H4 => tv σ2 H4 fun z H5 => ∃ kvs k, y = kV k ∧ H5 D = some (.dK kvs) ∧ kvs.length < sizeLine ∧ Nx (upd H5 D (.dK (putK kvs k z))) else Nx H3) := by
  refine ⟨fun i m H => m + i = n ∧ Pv i H, ⟨n, rfl, h0⟩, fun i m H hW => ?_⟩
  obtain ⟨e, p⟩ := hW
  have q := hG i H (by omega) p
  cases m with
  | zero =>
    have e2 : i = n := by omega
    subst e2
    exact .inl ⟨w.stops H q, hd H p⟩
  | succ m =>
    have lt : i < n := by omega
    exact .inr ⟨w.goes i H lt q, Pv (i + 1), fun H' p' => ⟨m, Nat.lt_succ_self m, by omega, p'⟩, fun x H' y => hs i x H H' lt p (w.yields i H x H' lt q y)⟩
end Fw

set_option maxRecDepth 100000
set_option maxHeartbeats 2000000
namespace Fw
open PySem PySem.Spec PyProof.Rows L2
/-! ### the text by places -/
def top (i : Nat) : Stmt := PySem.Challenge.pw_fixworlds_k36_alternation.main.body.getD i (.Pass ⟨0, 0, 0, 0⟩)
abbrev s_Part_init : Stmt := inClass (top 3) 0
abbrev s_head_of : Stmt := top 4
abbrev s_parts_of : Stmt := top 5
abbrev s_nearest_around : Stmt := top 6
abbrev s_binder_places : Stmt := top 7
abbrev s_free_variables : Stmt := top 12
abbrev s_ensure_closed : Stmt := top 13
abbrev s_alternation : Stmt := top 15
abbrev s_speaking_binders : Stmt := top 16
abbrev s_law_draws : Stmt := top 18
abbrev s_law_take : Stmt := top 19
abbrev s_law_is_integer : Stmt := top 20
abbrev s_law_inner : Stmt := top 21
abbrev s_law_atom : Stmt := top 22
abbrev s_law_statement : Stmt := top 23
abbrev s_law_closed : Stmt := top 24
abbrev s_law_free : Stmt := top 25
abbrev s_law_tidy_from : Stmt := top 26
abbrev s_law_tidy : Stmt := top 27
abbrev s_law_binders : Stmt := top 28
abbrev s_law_number : Stmt := top 29
abbrev s_law : Stmt := top 30
abbrev n_Part_init : List Str := ["self", "head", "around"]
abbrev a_Part_init : List Str := ["self", "head", "around"]
theorem sc_Part_init : FnScope n_Part_init a_Part_init (defScope s_Part_init) := ⟨rfl, rfl, rfl, by decide +kernel, rfl, by decide +kernel, by decide +kernel⟩
abbrev n_head_of : List Str := ["statement"]
abbrev a_head_of : List Str := ["statement"]
theorem sc_head_of : FnScope n_head_of a_head_of (defScope s_head_of) := ⟨rfl, rfl, rfl, by decide +kernel, rfl, by decide +kernel, by decide +kernel⟩
abbrev n_parts_of : List Str := ["statement", "parts", "waiting", "told", "around", "head", "at", "within"]
abbrev a_parts_of : List Str := ["statement"]
theorem sc_parts_of : FnScope n_parts_of a_parts_of (defScope s_parts_of) := ⟨rfl, rfl, rfl, by decide +kernel, rfl, by decide +kernel, by decide +kernel⟩
abbrev n_nearest_around : List Str := ["parts", "words", "nearest", "part", "around"]
abbrev a_nearest_around : List Str := ["parts", "words"]
theorem sc_nearest_around : FnScope n_nearest_around a_nearest_around (defScope s_nearest_around) := ⟨rfl, rfl, rfl, by decide +kernel, rfl, by decide +kernel, by decide +kernel⟩
abbrev n_binder_places : List Str := ["parts", "nearest", "places", "at", "part", "place"]
abbrev a_binder_places : List Str := ["parts"]
theorem sc_binder_places : FnScope n_binder_places a_binder_places (defScope s_binder_places) := ⟨rfl, rfl, rfl, by decide +kernel, rfl, by decide +kernel, by decide +kernel⟩
abbrev n_free_variables : List Str := ["statement", "parts", "places", "part", "place"]
abbrev a_free_variables : List Str := ["statement"]
theorem sc_free_variables : FnScope n_free_variables a_free_variables (defScope s_free_variables) := ⟨rfl, rfl, rfl, by decide +kernel, rfl, by decide +kernel, by decide +kernel⟩
abbrev n_ensure_closed : List Str := ["statement"]
abbrev a_ensure_closed : List Str := ["statement"]
theorem sc_ensure_closed : FnScope n_ensure_closed a_ensure_closed (defScope s_ensure_closed) := ⟨rfl, rfl, rfl, by decide +kernel, rfl, by decide +kernel, by decide +kernel⟩
abbrev n_alternation : List Str := ["statement", "parts", "speaking", "found", "at", "known", "place"]
abbrev a_alternation : List Str := ["statement"]
theorem sc_alternation : FnScope n_alternation a_alternation (defScope s_alternation) := ⟨rfl, rfl, rfl, by decide +kernel, rfl, by decide +kernel, by decide +kernel⟩
abbrev n_speaking_binders : List Str := ["parts", "nearest", "at", "speaking", "binder", "between", "part"]
abbrev a_speaking_binders : List Str := ["parts"]
theorem sc_speaking_binders : FnScope n_speaking_binders a_speaking_binders (defScope s_speaking_binders) := ⟨rfl, rfl, rfl, by decide +kernel, rfl, by decide +kernel, by decide +kernel⟩
abbrev n_law_draws : List Str := ["script", "count", "cells", "found", "mixed", "k", "j", "cell", "again"]
abbrev a_law_draws : List Str := ["script", "count"]
theorem sc_law_draws : FnScope n_law_draws a_law_draws (defScope s_law_draws) := ⟨rfl, rfl, rfl, by decide +kernel, rfl, by decide +kernel, by decide +kernel⟩
abbrev n_law_take : List Str := ["draws", "limit"]
abbrev a_law_take : List Str := ["draws", "limit"]
theorem sc_law_take : FnScope n_law_take a_law_take (defScope s_law_take) := ⟨rfl, rfl, rfl, by decide +kernel, rfl, by decide +kernel, by decide +kernel⟩
abbrev n_law_is_integer : List Str := ["actual"]
abbrev a_law_is_integer : List Str := ["actual"]
theorem sc_law_is_integer : FnScope n_law_is_integer a_law_is_integer (defScope s_law_is_integer) := ⟨rfl, rfl, rfl, by decide +kernel, rfl, by decide +kernel, by decide +kernel⟩
abbrev n_law_inner : List Str := ["statement", "part"]
abbrev a_law_inner : List Str := ["statement"]
theorem sc_law_inner : FnScope n_law_inner a_law_inner (defScope s_law_inner) := ⟨rfl, rfl, rfl, by decide +kernel, rfl, by decide +kernel, by decide +kernel⟩
abbrev n_law_atom : List Str := ["draws", "ready", "kind"]
abbrev a_law_atom : List Str := ["draws", "ready"]
theorem sc_law_atom : FnScope n_law_atom a_law_atom (defScope s_law_atom) := ⟨rfl, rfl, rfl, by decide +kernel, rfl, by decide +kernel, by decide +kernel⟩
abbrev n_law_statement : List Str := ["draws", "depth", "waiting", "ready", "loose", "kind", "first", "label", "variable", "later", "usable", "other"]
abbrev a_law_statement : List Str := ["draws", "depth", "waiting", "ready", "loose"]
theorem sc_law_statement : FnScope n_law_statement a_law_statement (defScope s_law_statement) := ⟨rfl, rfl, rfl, by decide +kernel, rfl, by decide +kernel, by decide +kernel⟩
abbrev n_law_closed : List Str := ["draws", "depth"]
abbrev a_law_closed : List Str := ["draws", "depth"]
theorem sc_law_closed : FnScope n_law_closed a_law_closed (defScope s_law_closed) := ⟨rfl, rfl, rfl, by decide +kernel, rfl, by decide +kernel, by decide +kernel⟩
abbrev n_law_free : List Str := ["statement", "bound", "found", "part"]
abbrev a_law_free : List Str := ["statement", "bound"]
theorem sc_law_free : FnScope n_law_free a_law_free (defScope s_law_free) := ⟨rfl, rfl, rfl, by decide +kernel, rfl, by decide +kernel, by decide +kernel⟩
abbrev n_law_tidy_from : List Str := ["statement", "names", "number", "inner", "name", "scope", "after", "found", "part"]
abbrev a_law_tidy_from : List Str := ["statement", "names", "number"]
theorem sc_law_tidy_from : FnScope n_law_tidy_from a_law_tidy_from (defScope s_law_tidy_from) := ⟨rfl, rfl, rfl, by decide +kernel, rfl, by decide +kernel, by decide +kernel⟩
abbrev n_law_tidy : List Str := ["statement"]
abbrev a_law_tidy : List Str := ["statement"]
theorem sc_law_tidy : FnScope n_law_tidy a_law_tidy (defScope s_law_tidy) := ⟨rfl, rfl, rfl, by decide +kernel, rfl, by decide +kernel, by decide +kernel⟩
abbrev n_law_binders : List Str := ["statement", "found", "part"]
abbrev a_law_binders : List Str := ["statement"]
theorem sc_law_binders : FnScope n_law_binders a_law_binders (defScope s_law_binders) := ⟨rfl, rfl, rfl, by decide +kernel, rfl, by decide +kernel, by decide +kernel⟩
abbrev n_law_number : List Str := ["statement", "found", "other", "part"]
abbrev a_law_number : List Str := ["statement"]
theorem sc_law_number : FnScope n_law_number a_law_number (defScope s_law_number) := ⟨rfl, rfl, rfl, by decide +kernel, rfl, by decide +kernel, by decide +kernel⟩
abbrev n_law : List Str := ["script", "draws", "statement", "k", "kinds", "whole", "inner", "one", "found", "changes"]
abbrev a_law : List Str := ["script"]
theorem sc_law : FnScope n_law a_law (defScope s_law) := ⟨rfl, rfl, rfl, by decide +kernel, rfl, by decide +kernel, by decide +kernel⟩
/-! ### calls -/
def Has (P : Program) (w : World) (K : PySem.W.Frag) (mg : Str → Option Value) (base : Heap) (x : Str) (k : Nat) (ps : List Str) (sp : Sp) : Prop :=
  ∃ f fd, mg x = some (.ref f) ∧ PySem.W.keepIn K (.ref f) = true ∧ Binds K fd ps [] ∧ FnOk P w K mg base CX0 k f fd ps sp
theorem pe_callH {X : Cx} {x : Str} {k : Nat} {ps : List Str} {sp : Sp} {e : Expr} {es : List Expr} {t : TA} {p pos : Pos} (h : Has X.prog X.w X.K X.mg X.base x k ps sp) (hr : Room k X.A) (ha : PA X (e :: es) t) (hg : Gl X x := by rfl)
    (hdb : (x == ("__debug__" : Str)) = false := by decide) (he : starEach (e :: es) X.env = (false, eval e X.env) :: starEach es X.env := by rfl) (hpl : (backTo pos (starEach es X.env)).any (·.1) = false := by rfl) :
    PE X (.Call (.Name x p) (e :: es) [] pos) (tCall sp [] E0 t) := by
  obtain ⟨f, fd, m, kp, b, G⟩ := h
  exact pe_call G hr hg m kp b .nil pass0 ha hdb he hpl
/-- .. of a def that may raise -/
def HasX (P : Program) (w : World) (K : PySem.W.Frag) (mg : Str → Option Value) (base : Heap) (x : Str) (k : Nat) (ps : List Str) (sp : Sp) : Prop :=
  ∃ f fd, mg x = some (.ref f) ∧ PySem.W.keepIn K (.ref f) = true ∧ Binds K fd ps [] ∧ FnOk P w K mg base (L2.CX P w) k f fd ps sp
theorem pe_callX {X : Cx} {W : WX} {x : Str} {k : Nat} {ps : List Str} {sp : Sp} {e : Expr} {es : List Expr} {t : TA} {p pos : Pos} (h : HasX X.prog X.w X.K X.mg X.base x k ps sp) (hr : Room k X.A) (tk : Takes X W) (ha : PA X (e :: es) t) (hg : Gl X x := by rfl)
    (hdb : (x == ("__debug__" : Str)) = false := by decide) (he : starEach (e :: es) X.env = (false, eval e X.env) :: starEach es X.env := by rfl) (hpl : (backTo pos (starEach es X.env)).any (·.1) = false := by rfl) :
    PE X (.Call (.Name x p) (e :: es) [] pos) (tCallS sp (WE W) t) := by
  obtain ⟨f, fd, m, kp, b, G⟩ := h
  exact pe_callS G hr hg m kp b (fun σ => passAt tk σ) ha hdb he hpl
theorem pe_callL {X : Cx} {x : Str} {k : Nat} {ps : List Str} {sp : Sp} {e : Expr} {es : List Expr} {t : TA} {p pos : Pos} (h : HasX X.prog X.w X.K X.mg X.base x k ps sp) (hr : Room k X.A) (ha : PA X (e :: es) t) (hg : Gl X x := by rfl)
    (hdb : (x == ("__debug__" : Str)) = false := by decide) (he : starEach (e :: es) X.env = (false, eval e X.env) :: starEach es X.env := by rfl) (hpl : (backTo pos (starEach es X.env)).any (·.1) = false := by rfl) :
    PE X (.Call (.Name x p) (e :: es) [] pos) (tCall sp [] E0 t) := by
  obtain ⟨f, fd, m, kp, b, G⟩ := h
  exact pe_call G hr hg m kp b .nil passL ha hdb he hpl
theorem pss_when {X : Cx} {sts : List Stmt} {t : TS} {p : Prop} (h : p → PSs X sts t) : PSs X sts (fun D σ H => p ∧ t D σ H) :=
  ⟨fun pins s σ H D I q => (h q.1).run pins s σ H D I q.2⟩
def HasC (P : Program) (w : World) (K : PySem.W.Frag) (mg : Str → Option Value) (base : Heap) (x : Str) (C : Addr) (k : Nat) (ps : List Str) (sp : Sp) : Prop :=
  ∃ f fd, mg x = some (.ref C) ∧ Mk K C f ∧ Binds K fd ps [] ∧ FnOk P w K mg base CX0 k f fd ps sp
theorem pe_makeH {X : Cx} {x : Str} {C : Addr} {k : Nat} {ps : List Str} {sp : Sp} {e : Expr} {es : List Expr} {t : TA} {p pos : Pos} (h : HasC X.prog X.w X.K X.mg X.base x C k ps sp) (hr : Room (k + 1) X.A) (ha : PA X (e :: es) t) (hg : Gl X x := by rfl)
    (hdb : (x == ("__debug__" : Str)) = false := by decide) (he : starEach (e :: es) X.env = (false, eval e X.env) :: starEach es X.env := by rfl) (hpl : (backTo pos (starEach es X.env)).any (·.1) = false := by rfl) :
    PE X (.Call (.Name x p) (e :: es) [] pos) (tMake C sp [] E0 t) := by
  obtain ⟨f, fd, m, M, b, G⟩ := h
  exact pe_make M G hr hg m b .nil pass0 ha hdb he hpl
/-! ### statements in memory -/
def wN (b : Bool) : Str := if b then "true" else "false"
def wT (b : Bool) : Str := if b then "and" else "or"
def wL : Leaf → Str
  | .has => "has"
  | .lacks => "lacks"
  | .var => "var"
def wO : One → Str
  | .some => "some"
  | .all => "all"
  | .least => "least"
  | .most => "most"
def hv : Hd → List V
  | .nul b => [.str (wN b)]
  | .leaf k n => [.str (wL k), .int n]
  | .two b => [.str (wT b)]
  | .one k n => [.str (wO k), .int n]
def hw : Hd → Str
  | .nul b => wN b
  | .leaf k _ => wL k
  | .two b => wT b
  | .one k _ => wO k
inductive IsF (K : PySem.W.Frag) (H : Hp) : V → F → Prop
  | nul {a : Addr} {b : Bool} : SqT K H a (hv (.nul b)) → IsF K H (.ref a) (.nul b)
  | leaf {a : Addr} {k : Leaf} {n : Int} : SqT K H a (hv (.leaf k n)) → IsF K H (.ref a) (.leaf k n)
  | two {a : Addr} {b : Bool} {x y : V} {f g : F} : SqT K H a (hv (.two b) ++ [x, y]) → IsF K H x f → IsF K H y g → IsF K H (.ref a) (.two b f g)
  | one {a : Addr} {k : One} {n : Int} {x : V} {f : F} : SqT K H a (hv (.one k n) ++ [x]) → IsF K H x f → IsF K H (.ref a) (.one k n f)
/-- all but what stands at d is as it was -/
def But (d : Addr) (H H' : Hp) : Prop := ∀ b o, b ≠ d → H b = some o → H' b = some o
theorem Same.but {d : Addr} {H H' : Hp} (s : Same H H') : But d H H' := fun b o _ e => s b o e
theorem But.refl (d : Addr) (H : Hp) : But d H H := fun _ _ _ e => e
theorem But.trans {d : Addr} {H H1 H2 : Hp} (a : But d H H1) (b : But d H1 H2) : But d H H2 := fun c o n e => b c o n (a c o n e)
theorem But.upd {d : Addr} {H : Hp} {o : HO} : But d H (upd H d o) := fun b u n e => by rw [upd_ne n]; exact e
theorem Same.new {H : Hp} {p : Addr} {o : HO} (h : H p = none) : Same H (upd H p o) := fun b u e => by rw [upd_ne (ne_of_none e h)]; exact e
theorem SqT.keepAt {K : PySem.W.Frag} {H H' : Hp} {a : Addr} {xs : List V} (k : ∀ o, H a = some o → H' a = some o) (h : SqT K H a xs) : SqT K H' a xs := by
  rcases h with h | h
  · rcases h with h | ⟨u, h⟩
    · exact .inl (.inl (k _ h))
    · exact .inl (.inr ⟨u, k _ h⟩)
  · exact .inr h
theorem SqL.keepAt {K : PySem.W.Frag} {H H' : Hp} {a : Addr} {xs : List V} (k : ∀ o, H a = some o → H' a = some o) (h : SqL K H a xs) : SqL K H' a xs := by
  rcases h with h | h
  · rcases h with h | ⟨u, h⟩
    · exact .inl (.inl (k _ h))
    · exact .inl (.inr ⟨u, k _ h⟩)
  · exact .inr h
theorem SqT.same {K : PySem.W.Frag} {H H' : Hp} {a : Addr} {xs : List V} (s : Same H H') (h : SqT K H a xs) : SqT K H' a xs := SqT.keepAt (fun o e => s a o e) h
/-- what stands at d is a list: tuples are elsewhere -/
def IsLst (H : Hp) (d : Addr) : Prop := ∃ xs, H d = some (.lst xs)
theorem SqT.but {K : PySem.W.Frag} {H H' : Hp} {a d : Addr} {xs : List V} (hd : IsLst H d) (s : But d H H') (h : SqT K H a xs) : SqT K H' a xs := by
  rcases h with h | h
  · obtain ⟨ys, e⟩ := hd
    rcases h with h | ⟨u, h⟩
    · exact .inl (.inl (s _ _ (ne_of h e (by intro z; cases z)) h))
    · exact .inl (.inr ⟨u, s _ _ (ne_of h e (by intro z; cases z)) h⟩)
  · exact .inr h
theorem IsF.map {K : PySem.W.Frag} {H H' : Hp} (s : ∀ a xs, SqT K H a xs → SqT K H' a xs) {v : V} {t : F} (h : IsF K H v t) : IsF K H' v t := by
  induction h with
  | nul h => exact .nul (s _ _ h)
  | leaf h => exact .leaf (s _ _ h)
  | two h _ _ f g => exact .two (s _ _ h) f g
  | one h _ f => exact .one (s _ _ h) f
theorem IsF.same {K : PySem.W.Frag} {H H' : Hp} (s : Same H H') {v : V} {t : F} (h : IsF K H v t) : IsF K H' v t := h.map fun _ _ => SqT.same s
theorem IsF.but {K : PySem.W.Frag} {H H' : Hp} {d : Addr} (hd : IsLst H d) (s : But d H H') {v : V} {t : F} (h : IsF K H v t) : IsF K H' v t := h.map fun _ _ => SqT.but hd s
inductive AllF (K : PySem.W.Frag) (H : Hp) : List V → List F → Prop
  | nil : AllF K H [] []
  | cons {x : V} {f : F} {xs : List V} {fs : List F} : IsF K H x f → AllF K H xs fs → AllF K H (x :: xs) (f :: fs)
theorem IsF.open {K : PySem.W.Frag} {H : Hp} {v : V} {t : F} (h : IsF K H v t) : ∃ a ks, v = .ref a ∧ SqT K H a (hv t.hd ++ ks) ∧ AllF K H ks t.kids := by
  cases h with
  | nul h => exact ⟨_, [], rfl, by simpa [F.hd] using h, .nil⟩
  | leaf h => exact ⟨_, [], rfl, by simpa [F.hd] using h, .nil⟩
  | two h f g => exact ⟨_, _, rfl, h, .cons f (.cons g .nil)⟩
  | one h f => exact ⟨_, _, rfl, h, .cons f .nil⟩
theorem IsF.close {K : PySem.W.Frag} {H : Hp} {a : Addr} {t : F} {ks : List V} (h : SqT K H a (hv t.hd ++ ks)) (hk : AllF K H ks t.kids) : IsF K H (.ref a) t := by
  cases t with
  | nul b =>
    cases hk
    exact .nul (by simpa [F.hd] using h)
  | leaf k n =>
    cases hk
    exact .leaf (by simpa [F.hd] using h)
  | two b f g =>
    cases hk with
    | cons x hk =>
      cases hk with
      | cons y hk =>
        cases hk
        exact .two h x y
  | one k n f =>
    cases hk with
    | cons x hk =>
      cases hk
      exact .one h x
theorem hv_len (h : Hd) : (hv h).length = 1 ∨ (hv h).length = 2 := by cases h <;> simp [hv]
theorem hv_head (h : Hd) : (hv h)[0]? = some (.str (hw h)) := by cases h <;> rfl
def isTwo : Hd → Bool
  | .two _ => true
  | _ => false
theorem in_joins (h : Hd) : inV (.str (hw h)) [.str "and", .str "or"] = isTwo h := by
  cases h with
  | nul b => cases b <;> rfl
  | leaf k n => cases k <;> rfl
  | two b => cases b <;> rfl
  | one k n => cases k <;> rfl
def isBH : Hd → Bool
  | .one k _ => k.bind
  | _ => false
theorem in_binders (h : Hd) : inV (.str (hw h)) [.str "least", .str "most"] = isBH h := by
  cases h with
  | nul b => cases b <;> rfl
  | leaf k n => cases k <;> rfl
  | two b => cases b <;> rfl
  | one k n => cases k <;> rfl
/-! ### what the top has written -/
structure Txt (K : PySem.W.Frag) (mg : Str → Option Value) (C J B : Addr) : Prop where
  z_bool : mg "bool" = none
  z_enumerate : mg "enumerate" = none
  z_int : mg "int" = none
  z_isinstance : mg "isinstance" = none
  z_len : mg "len" = none
  z_list : mg "list" = none
  z_max : mg "max" = none
  z_range : mg "range" = none
  z_reversed : mg "reversed" = none
  z_sorted : mg "sorted" = none
  z_tuple : mg "tuple" = none
  z_zip : mg "zip" = none
  m_JOINS : mg "JOINS" = some (.ref J)
  c_JOINS : ∀ H, SqT K H J [.str "and", .str "or"]
  m_BINDERS : mg "BINDERS" = some (.ref B)
  c_BINDERS : ∀ H, SqT K H B [.str "least", .str "most"]
  cl : Cls K C
  nH : NoAttr K C "head"
  nA : NoAttr K C "around"
  nI : NoAttr K C "inner"
/-- what it has written of the errors -/
structure TxtE (K : PySem.W.Frag) (mg : Str → Option Value) (NC FE : Addr) : Prop where
  gC : mg "NotClosed" = some (.ref NC)
  gF : mg "FixError" = some (.ref FE)
  xC : PySem.W.excIn K NC [.type "ValueError", .type "Exception", .type "BaseException", .type "object"] "ValueError.__new__" = true
  kC : PySem.W.keepIn K (.ref NC) = true
  bC : PySem.W.subIn K (.ref NC) (.type "BaseException") = some true
  tC : PySem.W.typeIn K (.ref NC) = some (.type "type")
  eC : PySem.W.exmOne K (.ref NC) (.ref NC) = some true
  is : ExcC K NC
  kF : PySem.W.kitOne K (.ref NC) (.ref FE) = some true
  kV : PySem.W.kitOne K (.ref NC) (.type "ValueError") = some true
def pf (h : V) (a : Int) (l : Addr) : List (Str × V) := [("head", h), ("around", .int a), ("inner", .ref l)]
theorem pf_make (h : V) (a : Int) (l : Addr) : putF "inner" (.ref l) (putF "around" (.int a) (putF "head" h [])) = pf h a l := by rfl
theorem join {c : Bool} {A : Prop} {C : Hp → Prop} {G : Hp} (Fa : Hp → Prop) (hr : ∀ G5, Fa G5 → C G5) (h1 : c = true → (∀ G5, Fa G5 → C G5) → A) (h2 : c = false → Fa G) : if c = true then A else C G := by
  cases c with
  | true => exact h1 rfl hr
  | false => exact hr _ (h2 rfl)
section
variable {P : Program} {w : World} {K : PySem.W.Frag} {mg : Str → Option Value} {base : Heap} {C J B : Addr}
/-! ### Part -/
def spPart (K : PySem.W.Frag) (C : Addr) : Sp := fun vs H Q _ => ∃ (p dx : Addr) (h : V) (a : Int), vs = [.ref p, h, .int a] ∧ H p = some (.ins C dx []) ∧
  ∀ l H', H l = none → H' p = some (.ins C dx (pf h a l)) → H' l = some (.lst []) → But p H H' → Q .non H'
theorem ok_Part {f : Addr} {fd : FuncData} (FF : Fun K "__init__" "Part.__init__" s_Part_init f fd) (T : Txt K mg C J B) : FnOk P w K mg base CX0 1 f fd a_Part_init (spPart K C) := by
  refine FF.ok sc_Part_init (fun vs H Q E h => ?_) (fun cdv A outer s H vs Q E hr h => ?_)
  · obtain ⟨p, dx, h, a, rfl, _⟩ := h
    rfl
  · obtain ⟨p, dx, h, a, rfl, hp, k⟩ := h
    refine ⟨_, (pss_cons (ps_fld (pv 0) (pv 1) rfl)
      (pss_cons (ps_fld (pv 0) (pv 2) rfl)
      (pss_one (ps_fld (pv 0) (pe_lst pa_nil) rfl)))), ?_⟩
    refine ⟨_, rfl, _, rfl, p, C, dx, [], rfl, hp, T.cl, T.nH, by show 0 < 1000; decide, ?_⟩
    refine ⟨_, rfl, _, rfl, p, C, dx, _, rfl, upd_same, T.cl, T.nA, by show 1 < 1000; decide, ?_⟩
    refine ⟨Nat.zero_le _, fun l hl => ?_⟩
    have pl : p ≠ l := fun e => by
      rw [e, upd_same] at hl
      cases hl
    refine ⟨_, rfl, p, C, dx, _, rfl, by rw [upd_ne pl, upd_same], T.cl, T.nI, by show 2 < 1000; decide, ?_⟩
    rw [upd_ne pl.symm, upd_ne pl.symm] at hl
    refine k l _ hl (by rw [upd_same, pf_make]) (by rw [upd_ne pl.symm, upd_same]) fun b o nb e => ?_
    rw [upd_ne nb, upd_ne (ne_of_none e hl), upd_ne nb, upd_ne nb]
    exact e
/-! ### head_of -/
def spHead (K : PySem.W.Frag) : Sp := fun vs H Q _ => ∃ (v : V) (t : F), vs = [v] ∧ IsF K H v t ∧ ∀ h H', Same H H' → SqT K H' h (hv t.hd) → Q (.ref h) H'
theorem ok_head_of {f : Addr} {fd : FuncData} (FF : Fun K "head_of" "head_of" s_head_of f fd) (T : Txt K mg C J B) : FnOk P w K mg base CX0 1 f fd a_head_of (spHead K) := by
  refine FF.ok sc_head_of (fun vs H Q E h => ?_) (fun cdv A outer s H vs Q E hr h => ?_)
  · obtain ⟨v, t, rfl, _⟩ := h
    rfl
  · obtain ⟨v, t, rfl, ht, k⟩ := h
    obtain ⟨a, ks, rfl, sq, ak⟩ := ht.open
    refine ⟨_, (pss_cons (ps_if (pt_cmpR op_in_seq (pe_ix ix_tup (pv 0) pe_int (fun _ _ => rfl)) (pe_glob rfl T.m_JOINS (show RelV (.ref _) _ from rfl)) (by rfl)) (pss_one (ps_ret (pe_slice sl_tupA (pv 0) po_none (po_some pe_int)))) pss_nil)
      (pss_one (ps_ret (pe_slice sl_tupA (pv 0) po_none (po_some pe_int))))), ?_⟩
    have at0 : atI (hv t.hd ++ ks) 0 = some (.str (hw t.hd)) := atI_nat (j := 0) (by rw [List.getElem?_append_left (by rcases hv_len t.hd with e | e <;> omega)]; exact hv_head _)
    refine ⟨_, rfl, a, _, _, _, rfl, rfl, sq, at0, J, _, rfl, .inr (T.c_JOINS H), rfl, rfl, _, rfl, ?_⟩
    rw [if_neg Bool.false_ne_true, in_joins]
    have both : ∀ n : Nat, cutV (hv t.hd ++ ks) none (some (n : Int)) = (hv t.hd ++ ks).take n := fun n => by
      unfold cutV
      rw [HT.sIx_none, HT.sIx_nat, List.drop_zero, Nat.sub_zero]
      rcases Nat.le_total n (hv t.hd ++ ks).length with h | h
      · rw [Nat.min_eq_left h]
      · rw [Nat.min_eq_right h, List.take_of_length_le (Nat.le_refl _), List.take_of_length_le h]
    have fin : ∀ n : Nat, (hv t.hd ++ ks).take n = hv t.hd → rSlA K (.ref a) none (some (n : Int)) H Q := fun n e => by
      refine ⟨a, _, rfl, sq, fun whole => ?_, fun _ p hp => ?_⟩
      · refine k a H (Same.refl H) ?_
        rw [← e]
        rw [HT.sIx_none, HT.sIx_nat] at whole
        rw [List.take_of_length_le (by omega)]
        exact sq
      · refine k p _ (Same.new hp) (SqT.of ?_)
        rw [upd_same, both, e]
    cases h2 : isTwo t.hd
    · refine iteF ?_
      refine ⟨_, rfl, 2, rfl, fin 2 ?_⟩
      cases t with
      | two b f g => cases h2
      | nul b =>
        cases ak
        rfl
      | leaf kd n => rfl
      | one kd n f => rfl
    · refine iteT ?_
      refine ⟨_, rfl, 1, rfl, fin 1 ?_⟩
      cases t with
      | two b f g => rfl
      | nul b => cases h2
      | leaf kd n => cases h2
      | one kd n f => cases h2
end
end Fw

set_option maxRecDepth 100000
set_option maxHeartbeats 2000000
namespace Fw
open PySem PySem.Spec PyProof.Rows L2
/-! ### parts in memory -/
/-- all but what stands at the addresses of X is as it was -/
def Kp (X : List Addr) (H H' : Hp) : Prop := ∀ b o, b ∉ X → H b = some o → H' b = some o
/-- all but lists is as it was -/
def LKp (H H' : Hp) : Prop := ∀ b o, (∀ xs, o ≠ .lst xs) → H b = some o → H' b = some o
theorem LKp.refl (H : Hp) : LKp H H := fun _ _ _ e => e
theorem LKp.trans {H H1 H2 : Hp} (a : LKp H H1) (b : LKp H1 H2) : LKp H H2 := fun c o n e => b c o n (a c o n e)
theorem LKp.same {H H' : Hp} (s : Same H H') : LKp H H' := fun b o _ e => s b o e
theorem LKp.upd {H : Hp} {d : Addr} {xs : List V} {o : HO} (h : H d = some (.lst xs)) : LKp H (upd H d o) := fun b u n e => by
  rw [upd_ne (ne_of e h (n xs))]
  exact e
theorem SqT.lk {K : PySem.W.Frag} {H H' : Hp} {a : Addr} {xs : List V} (s : LKp H H') (h : SqT K H a xs) : SqT K H' a xs := by
  rcases h with h | h
  · rcases h with h | ⟨u, h⟩
    · exact .inl (.inl (s _ _ (by intro xs z; cases z) h))
    · exact .inl (.inr ⟨u, s _ _ (by intro xs z; cases z) h⟩)
  · exact .inr h
theorem IsF.lk {K : PySem.W.Frag} {H H' : Hp} (s : LKp H H') {v : V} {t : F} (h : IsF K H v t) : IsF K H' v t := h.map fun _ _ => SqT.lk s
theorem AllF.lk {K : PySem.W.Frag} {H H' : Hp} (s : LKp H H') {vs : List V} {ts : List F} (h : AllF K H vs ts) : AllF K H' vs ts := by
  induction h with
  | nil => exact .nil
  | cons a _ ih => exact .cons (a.lk s) ih
theorem AllF.len {K : PySem.W.Frag} {H : Hp} {vs : List V} {ts : List F} (h : AllF K H vs ts) : vs.length = ts.length := by
  induction h with
  | nil => rfl
  | cons _ _ ih => simp [ih]
theorem AllF.get {K : PySem.W.Frag} {H : Hp} {vs : List V} {ts : List F} (h : AllF K H vs ts) : ∀ {m : Nat} {y : V} {f : F}, vs[m]? = some y → ts[m]? = some f → IsF K H y f := by
  induction h with
  | nil => intro m y f e _; cases e
  | cons a _ ih =>
    intro m y f e1 e2
    cases m with
    | zero =>
      cases e1
      cases e2
      exact a
    | succ m => exact ih e1 e2
structure PRec where
  p : Addr
  l : Addr
  dx : Addr
  h : Addr
structure PartIs (K : PySem.W.Frag) (C : Addr) (H : Hp) (pr : PRec) (hd : Hd) (a : Int) (ks : List Nat) : Prop where
  ob : H pr.p = some (.ins C pr.dx (pf (.ref pr.h) a pr.l))
  hd : SqT K H pr.h (hv hd)
  inn : H pr.l = some (.lst (ks.map fun n => V.int (n : Nat)))
def Parts (K : PySem.W.Frag) (C : Addr) (H : Hp) (R : List PRec) (L : List (Hd × Int)) : Prop :=
  R.length = L.length ∧ ∀ i pr hd a, R[i]? = some pr → L[i]? = some (hd, a) → PartIs K C H pr hd a (kidsFrom (L.map (·.2)) 0 i)
def PartsAt (K : PySem.W.Frag) (C : Addr) (H : Hp) (pa : Addr) (L : List (Hd × Int)) : Prop :=
  ∃ R : List PRec, SqL K H pa (R.map fun r => V.ref r.p) ∧ Parts K C H R L
theorem PartIs.same {K : PySem.W.Frag} {C : Addr} {H H' : Hp} {pr : PRec} {hd : Hd} {a : Int} {ks : List Nat} (s : Same H H') (h : PartIs K C H pr hd a ks) : PartIs K C H' pr hd a ks :=
  ⟨s _ _ h.ob, SqT.same s h.hd, s _ _ h.inn⟩
theorem PartsAt.same {K : PySem.W.Frag} {C : Addr} {H H' : Hp} {pa : Addr} {L : List (Hd × Int)} (s : Same H H') (h : PartsAt K C H pa L) : PartsAt K C H' pa L := by
  obtain ⟨R, h1, h2, h3⟩ := h
  exact ⟨R, s.seq h1, h2, fun i pr hd a e1 e2 => (h3 i pr hd a e1 e2).same s⟩
/-- what waits: bottom first in memory, top first in the list -/
inductive SA (K : PySem.W.Frag) (H : Hp) : List V → List (F × Int) → Prop
  | nil : SA K H [] []
  | snoc {ws : List V} {st : List (F × Int)} {q : Addr} {x : V} {t : F} {a : Int} : SA K H ws st → SqT K H q [x, .int a] → IsF K H x t → SA K H (ws ++ [.ref q]) ((t, a) :: st)
theorem SA.lk {K : PySem.W.Frag} {H H' : Hp} (s : LKp H H') {ws : List V} {st : List (F × Int)} (h : SA K H ws st) : SA K H' ws st := by
  induction h with
  | nil => exact .nil
  | snoc _ b c ih => exact .snoc ih (SqT.lk s b) (c.lk s)
theorem SA.len {K : PySem.W.Frag} {H : Hp} {ws : List V} {st : List (F × Int)} (h : SA K H ws st) : ws.length = st.length := by
  induction h with
  | nil => rfl
  | snoc _ _ _ ih => simp [ih]
theorem kids_snoc (L : List (Hd × Int)) (h : Hd) (a : Int) (i : Nat) :
    kidsFrom ((L ++ [(h, a)]).map (·.2)) 0 i = kidsFrom (L.map (·.2)) 0 i ++ if a = (i : Int) then [L.length] else [] := by
  rw [List.map_append, kids_app]
  simp only [List.map_cons, List.map_nil, kidsFrom, Nat.zero_add, List.length_map]
theorem kids_out : ∀ (A : List Int) (j i : Nat), (∀ a ∈ A, a < (i : Int)) → kidsFrom A j i = [] := fun A j i h => kids_none A j i fun a ha => by have := h a ha; omega
theorem Parts.more {K : PySem.W.Frag} {C : Addr} {G G5 : Hp} {R : List PRec} {L : List (Hd × Int)} {n : PRec} {hd : Hd} {a : Int} (PR : Parts K C G R L) (lk : LKp G G5)
    (hin : ∀ i pr, R[i]? = some pr → G5 pr.l = some (.lst ((kidsFrom (L.map (·.2)) 0 i ++ if a = (i : Int) then [L.length] else []).map fun n => V.int (n : Nat))))
    (Lb : ∀ x ∈ L, x.2 < (L.length : Int)) (ha : a < (L.length : Int)) (new : PartIs K C G5 n hd a []) : Parts K C G5 (R ++ [n]) (L ++ [(hd, a)]) := by
  obtain ⟨len, h⟩ := PR
  refine ⟨by simp [len], fun i pr hd' a' e1 e2 => ?_⟩
  rw [kids_snoc]
  by_cases lt : i < R.length
  · rw [List.getElem?_append_left lt] at e1
    rw [List.getElem?_append_left (by omega)] at e2
    have z := h i pr hd' a' e1 e2
    exact ⟨lk _ _ (by intro xs q; cases q) z.ob, SqT.lk lk z.hd, hin i pr e1⟩
  · have ei : i = R.length := by
      have q := (List.getElem?_eq_some_iff.mp e1).1
      rw [List.length_append, List.length_singleton] at q
      omega
    subst ei
    rw [List.getElem?_append_right (Nat.le_refl _), Nat.sub_self] at e1
    rw [List.getElem?_append_right (by omega), len, Nat.sub_self] at e2
    cases e1
    cases e2
    have none : kidsFrom (L.map (·.2)) 0 R.length = [] := by
      refine kids_out _ _ _ fun b hb => ?_
      obtain ⟨x, hx, rfl⟩ := List.mem_map.mp hb
      rw [len]
      exact Lb x hx
    rw [none, if_neg (by rw [len]; omega)]
    exact new
section
variable {P : Program} {w : World} {K : PySem.W.Frag} {mg : Str → Option Value} {base : Heap} {C J B : Addr}
def spParts (K : PySem.W.Frag) (C : Addr) : Sp := fun vs H Q _ => ∃ (v : V) (t : F), vs = [v] ∧ IsF K H v t ∧ t.size ≤ 1000 ∧
  ∀ pa H', Same H H' → PartsAt K C H' pa (pre t (-1) 0) → Q (.ref pa) H'
theorem ok_parts_of {f : Addr} {fd : FuncData} (FF : Fun K "parts_of" "parts_of" s_parts_of f fd) (T : Txt K mg C J B)
    (h_head_of : Has P w K mg base "head_of" 1 a_head_of (spHead K)) (h_Part : HasC P w K mg base "Part" C 1 a_Part_init (spPart K C)) : FnOk P w K mg base CX0 3 f fd a_parts_of (spParts K C) := by
  refine FF.ok sc_parts_of (fun vs H Q E h => ?_) (fun cdv A outer s H vs Q E hr h => ?_)
  · obtain ⟨v, t, rfl, _⟩ := h
    rfl
  · obtain ⟨v, t, rfl, ht, hsz, k⟩ := h
    refine ⟨_, (pss_cons (ps_set (i := 1) sc_parts_of.nd rfl (.inl rfl) (pe_lst pa_nil))
      (pss_cons (ps_set (i := 2) sc_parts_of.nd rfl (.inl rfl) (pe_lst (pa_cons (pe_tup (pa_cons (pv 0) (pa_cons (pe_un un_neg pe_int) pa_nil))) pa_nil)))
      (pss_cons (ps_while PassesOwn.never (pt_truth (pv 2) (by intro _; rfl)) (pss_cons (ps_asg (pe_bm0 PySem.F.plainAttrs_list PySem.F.slot_list_pop PySem.F.type_list_pop mt_pop (pv 2)) (pg_tup rfl (pgs_cons (pg_name (i := 3) sc_parts_of.nd rfl (.inl rfl)) (pgs_cons (pg_name (i := 4) sc_parts_of.nd rfl (.inl rfl)) pgs_nil))))
      (pss_cons (ps_set (i := 5) sc_parts_of.nd rfl (.inl rfl) (pe_callH h_head_of (hr.mono (by omega)) (pa_cons (pv 3) pa_nil)))
      (pss_cons (ps_set (i := 6) sc_parts_of.nd rfl (.inl rfl) (pe_callB call_len_seq rfl T.z_len (by decide +kernel) (pa_cons (pv 1) pa_nil)))
      (pss_cons (ps_expr (pe_bm PySem.F.plainAttrs_list PySem.F.slot_list_append PySem.F.type_list_append mt_append (pv 1) (pa_cons (pe_makeH h_Part (hr.mono (by omega)) (pa_cons (pv 5) (pa_cons (pv 4) pa_nil))) pa_nil)))
      (pss_cons (ps_if (pt_cmpR op_ge (pv 4) pe_int (nomark _)) (pss_one (ps_expr (pe_bm PySem.F.plainAttrs_list PySem.F.slot_list_append PySem.F.type_list_append mt_append (pe_fld (pe_ix ix_list (pv 1) (pv 4) (fun _ _ => rfl)) rfl) (pa_cons (pv 6) pa_nil)))) pss_nil)
      (pss_one (ps_for PassesOwn.never rfl (RT.pi_revA rfl T.z_reversed (pe_slice sl_tupA (pv 3) (po_some (pe_callB call_len_seq rfl T.z_len (by decide +kernel) (pa_cons (pv 5) pa_nil))) po_none)) (pg_name (i := 7) sc_parts_of.nd rfl (.inl rfl)) (pss_one (ps_expr (pe_bm PySem.F.plainAttrs_list PySem.F.slot_list_append PySem.F.type_list_append mt_append (pv 2) (pa_cons (pe_tup (pa_cons (pv 7) (pa_cons (pv 6) pa_nil))) pa_nil))))))))))))
      (pss_one (ps_ret (pv 1)))))), ?_⟩
    refine ⟨Nat.zero_le _, fun pa hpa => ?_⟩
    refine ⟨v, rfl, _, rfl, by show 2 ≤ sizeLine; decide, fun q0 hq0 => ?_⟩
    refine ⟨by show 1 ≤ sizeLine; decide, fun wa hwa => ?_⟩
    have paq : pa ≠ q0 := fun e => by rw [e, upd_same] at hq0; cases hq0
    have hq0' : H q0 = none := by rw [upd_ne paq.symm] at hq0; exact hq0
    have wq : wa ≠ q0 := fun e => by rw [e, upd_same] at hwa; cases hwa
    have wpa : wa ≠ pa := fun e => by rw [e, upd_ne paq, upd_same] at hwa; cases hwa
    have hwa' : H wa = none := by rw [upd_ne wq, upd_ne wpa] at hwa; exact hwa
    have s1 : Same H (upd H pa (.lst [])) := Same.new hpa
    have s2 : Same (upd H pa (.lst [])) (upd (upd H pa (.lst [])) q0 (.tup [v, .int (-1)])) := Same.new hq0
    have s3 : Same (upd (upd H pa (.lst [])) q0 (.tup [v, .int (-1)])) (upd (upd (upd H pa (.lst [])) q0 (.tup [v, .int (-1)])) wa (.lst [.ref q0])) := Same.new hwa
    have s123 := s1.trans (s2.trans s3)
    generalize hH0 : upd (upd (upd H pa (.lst [])) q0 (.tup [v, .int (-1)])) wa (.lst [.ref q0]) = H0 at s3 s123
    have w0 : H0 wa = some (.lst [.ref q0]) := by rw [← hH0, upd_same]
    have p0 : H0 pa = some (.lst []) := by rw [← hH0, upd_ne wpa.symm, upd_ne paq, upd_same]
    have t0 : SqT K H0 q0 [v, .int (-1)] := SqT.of (by rw [← hH0, upd_ne wq.symm, upd_same])
    clear hH0 hq0
    refine ⟨fun m σ G => ∃ (R : List PRec) (L : List (Hd × Int)) (ws : List V) (st : List (F × Int)) (y3 y4 y5 y6 y7 : Option V),
      σ = [some v, some (.ref pa), some (.ref wa), y3, y4, y5, y6, y7] ∧ Same H G ∧ G pa = some (.lst (R.map fun r => V.ref r.p)) ∧ G wa = some (.lst ws) ∧ SA K G ws st ∧
      Parts K C G R L ∧ (R.map PRec.l).Nodup ∧ (∀ r ∈ R, H r.l = none ∧ r.l ≠ pa ∧ r.l ≠ wa) ∧ (∀ x ∈ st, x.2 < (L.length : Int) ∧ -1 ≤ x.2) ∧ (∀ x ∈ L, x.2 < (L.length : Int)) ∧
      m = stSize st ∧ L.length + m = t.size ∧ fin L st = pre t (-1) 0,
      ⟨t.size, [], [], [.ref q0], [(t, -1)], none, none, none, none, none, rfl, s123, p0, w0, .snoc .nil t0 (ht.same s123), ⟨rfl, by simp⟩, by simp, by simp, by simp, by simp, by simp [stSize], by simp, by simp [fin, pre]⟩, ?_⟩
    rintro m σ G ⟨R, L, ws, st, y3, y4, y5, y6, y7, rfl, sG, gpa, gwa, sa, PR, nd, lfr, stb, Lb, rfl, cnt, hfin⟩
    refine ⟨.ref wa, rfl, !ws.isEmpty, .inl ⟨ws, SqL.of gwa, rfl⟩, ?_⟩
    cases sa with
    | nil =>
      -- nothing waits
      refine iteF ?_
      refine ⟨_, rfl, ?_⟩
      refine k pa G sG ⟨R, SqL.of gpa, ?_⟩
      rw [← hfin]
      exact PR
    | @snoc ws' st' q x u a sa' hq hx =>
      have e1 : (!(ws' ++ [V.ref q]).isEmpty) = true := by simp
      rw [e1]
      refine iteT ?_
      refine ⟨_, fun σ' H' z => z, ?_⟩
      have szu : 0 < u.size := F.size_pos u
      have lst' : st'.length ≤ stSize st' := st_len st'
      have cnt' : L.length + (u.size + stSize st') = t.size := cnt
      have hwl := sa'.len
      have small : ∀ n : Nat, n ≤ 1000 → n < sizeLine := fun n hn => small1000 hn
      -- told, around = waiting.pop()
      refine ⟨.ref wa, rfl, .inl ⟨rfl, _, SqL.of gwa⟩, wa, _, .ref q, rfl, rfl, gwa, by simp, ?_⟩
      rw [List.dropLast_concat]
      generalize hG1 : upd G wa (.lst ws') = G1
      have l1 : LKp G G1 := by rw [← hG1]; exact LKp.upd gwa
      have w1 : G1 wa = some (.lst ws') := by rw [← hG1, upd_same]
      have k1 : ∀ b o, b ≠ wa → G b = some o → G1 b = some o := fun b o nb e => by rw [← hG1, upd_ne nb]; exact e
      clear hG1
      refine ⟨q, _, rfl, SqT.lk l1 hq, rfl, x, _, rfl, .int a, _, rfl, rfl, ?_⟩
      -- head = head_of(told)
      refine ⟨x, rfl, x, u, rfl, hx.lk l1, fun h G2 s2 hh => ?_⟩
      have w2 := s2 _ _ w1
      have pw : pa ≠ wa := wpa.symm
      have p2 := s2 _ _ (k1 _ _ pw gpa)
      -- at = len(parts)
      refine ⟨.ref pa, rfl, pa, _, rfl, .inl (SqL.of p2), ?_⟩
      rw [List.length_map, PR.1]
      -- parts.append(Part(head, around))
      refine ⟨.ref pa, rfl, .inl ⟨rfl, _, SqL.of p2⟩, .ref h, rfl, .int a, rfl, fun x1 dx nx ndx nex => ⟨x1, dx, .ref h, a, rfl, upd_same, fun l G3 hl hx1 hl3 b3 => ⟨rfl, ?_⟩⟩⟩
      have nx1 : l ≠ x1 := fun e => by rw [e, upd_same] at hl; cases hl
      have hl2 : G2 l = none := by
        rw [upd_ne nx1] at hl
        by_cases e : l = dx
        · rw [e, upd_same] at hl
          cases hl
        · rw [upd_ne e] at hl
          exact hl
      have s3' : Same G2 G3 := fun b o e => by
        refine b3 b o (ne_of_none e nx) ?_
        rw [upd_ne (ne_of_none e nx), upd_ne (ne_of_none e ndx)]
        exact e
      have p3 := s3' _ _ p2
      have w3 := s3' _ _ w2
      have lpa : l ≠ pa := (ne_of_none p2 hl2).symm
      have lwa : l ≠ wa := (ne_of_none w2 hl2).symm
      refine ⟨pa, _, .ref x1, rfl, rfl, p3, by rw [List.length_map, PR.1]; exact small _ (by omega), ?_⟩
      generalize hG4 : upd G3 pa (.lst (R.map (fun r => V.ref r.p) ++ [V.ref x1])) = G4
      have l4 : LKp G3 G4 := by rw [← hG4]; exact LKp.upd p3
      have k4 : ∀ b o, b ≠ pa → G3 b = some o → G4 b = some o := fun b o nb e => by rw [← hG4, upd_ne nb]; exact e
      have p4 : G4 pa = some (.lst (R.map (fun r => V.ref r.p) ++ [V.ref x1])) := by rw [← hG4, upd_same]
      clear hG4
      have w4 := k4 _ _ wpa w3
      have L14 : LKp G G4 := l1.trans ((LKp.same s2).trans ((LKp.same s3').trans l4))
      have K14 : ∀ b o, b ≠ wa → b ≠ pa → G b = some o → G4 b = some o := fun b o n1 n2 e => k4 _ _ n2 (s3' _ _ (s2 _ _ (k1 _ _ n1 e)))
      have ob4 : G4 x1 = some (.ins C dx (pf (.ref h) a l)) := l4 _ _ (by intro xs z; cases z) hx1
      have hd4 : SqT K G4 h (hv u.hd) := SqT.lk l4 (SqT.same s3' hh)
      have ln4 : G4 l = some (.lst []) := k4 _ _ lpa hl3
      have nfresh : H l = none := sG.free (by
        cases e : G l with
        | none => rfl
        | some o =>
          have := s2 _ _ (k1 _ _ lwa e)
          rw [hl2] at this
          cases this)
      have lnew : ∀ pr ∈ R, pr.l ≠ l := fun pr hpr e => by
        obtain ⟨i, hi⟩ := List.mem_iff_getElem?.mp hpr
        obtain ⟨⟨hd', a'⟩, hi2⟩ : ∃ y, L[i]? = some y := ⟨L[i]'(by have := (List.getElem?_eq_some_iff.mp hi).1; rw [PR.1] at this; exact this), by simp⟩
        have z := (PR.2 i pr hd' a' hi hi2).inn
        have z2 := s2 _ _ (k1 _ _ (lfr pr hpr).2.2 z)
        rw [e, hl2] at z2
        cases z2
      have sb := stb (u, a) List.mem_cons_self
      refine ⟨.int a, rfl, _, _, rfl, rfl, _, rfl, ?_⟩
      refine join (G := G4) (fun G5 => LKp G G5 ∧ (∀ b o, b ≠ wa → b ≠ pa → (∀ r ∈ R, b ≠ r.l) → G b = some o → G5 b = some o) ∧ G5 wa = some (.lst ws') ∧
        G5 pa = some (.lst (R.map (fun r => V.ref r.p) ++ [V.ref x1])) ∧ SqT K G5 h (hv u.hd) ∧ Parts K C G5 (R ++ [⟨x1, l, dx, h⟩]) (L ++ [(u.hd, a)])) ?_ ?_ ?_
      · rintro G5 ⟨l5, k5, w5, p5, hd5, PR5⟩
        obtain ⟨ua, ks, rfl, squ, ak⟩ := (hx.lk l5).open
        -- reversed(told[len(head):])
        have hn : ∃ n : Nat, (hv u.hd).length = n ∧ 1 ≤ n := ⟨_, rfl, by rcases hv_len u.hd with e | e <;> omega⟩
        obtain ⟨n, hvn, n1⟩ := hn
        refine ⟨.ref ua, rfl, .ref h, rfl, h, _, rfl, .inr hd5, _, rfl, ua, _, rfl, squ, fun whole => ?_, fun _ z hz => ?_⟩
        · exfalso
          rw [HT.sIx_nat, List.length_append] at whole
          omega
        have cut : cutV (hv u.hd ++ ks) (some ((hv u.hd).length : Nat)) none = ks := by
          unfold cutV
          rw [HT.sIx_nat, HT.sIx_none, Nat.min_eq_left (by rw [List.length_append]; omega), List.drop_left, List.take_of_length_le]
          rw [List.length_append]
          omega
        rw [cut]
        generalize hG6 : upd G5 z (.tup ks) = G6
        have s6 : Same G5 G6 := by rw [← hG6]; exact Same.new hz
        have sq6 : SqT K G6 z ks := SqT.of (by rw [← hG6, upd_same])
        clear hG6 hz
        have hn : ks.length = u.kids.length := ak.len
        refine ⟨z, ks, rfl, .inr ⟨sq6, ?_⟩⟩
        have sG6 : Same H G6 := fun b o e => s6 _ _ (k5 b o (fun q => by rw [q, hwa'] at e; cases e) (fun q => by rw [q, hpa] at e; cases e) (fun r hr' q => by rw [q, (lfr r hr').1] at e; cases e) (sG b o e))
        have szk := stSize_kids u (L.length : Int)
        have lk := st_len (u.kids.map fun f => (f, (L.length : Int)))
        refine RT.for_ItvT (fun i σ G7 => ∃ (ws7 : List V) (y : Option V), σ = [some v, some (.ref pa), some (.ref wa), some (.ref ua), some (.int a), some (.ref h), some (.int (L.length : Nat)), y] ∧
            LKp G6 G7 ∧ (∀ b o, b ≠ wa → G6 b = some o → G7 b = some o) ∧ G7 wa = some (.lst ws7) ∧ SA K G7 ws7 ((u.kids.drop (ks.length - i)).map (fun f => (f, (L.length : Int))) ++ st')) ?_ ?_ ?_ ?_
        · refine ⟨ws', y7, rfl, LKp.refl _, fun _ _ _ e => e, s6 _ _ w5, ?_⟩
          rw [Nat.sub_zero, hn, List.drop_length]
          exact sa'.lk (l5.trans (LKp.same s6))
        · rintro i σ G7 ⟨ws7, y, rfl, l7, _, _, _⟩
          exact SqT.lk l7 sq6
        · rintro i y σ G7 hi hy ⟨ws7, y', rfl, l7, k7, w7, sa7⟩
          obtain ⟨kf, hkf⟩ : ∃ kf, u.kids[ks.length - 1 - i]? = some kf := ⟨u.kids[ks.length - 1 - i]'(by omega), by simp⟩
          have isk : IsF K G7 y kf := ((ak.lk (LKp.same s6)).lk l7).get hy hkf
          refine ⟨.ref wa, rfl, .inl ⟨rfl, _, SqL.of w7⟩, y, rfl, .int (L.length : Nat), rfl, by show 2 ≤ sizeLine; decide, fun p hp => ?_⟩
          have s8 : Same G7 (upd G7 p (.tup [y, .int (L.length : Nat)])) := Same.new hp
          have lw7 := sa7.len
          rw [List.length_append, List.length_map, List.length_drop] at lw7
          rw [List.length_map] at lk
          refine ⟨wa, _, .ref p, rfl, rfl, s8 _ _ w7, small _ (by omega), ?_⟩
          have l9 : LKp (upd G7 p (.tup [y, .int (L.length : Nat)])) (upd (upd G7 p (.tup [y, .int (L.length : Nat)])) wa (.lst (ws7 ++ [.ref p]))) := LKp.upd (s8 _ _ w7)
          refine ⟨_, some y, rfl, l7.trans ((LKp.same s8).trans l9), fun b o nb e => ?_, upd_same, ?_⟩
          · rw [upd_ne nb]
            exact s8 _ _ (k7 b o nb e)
          · have e2 : u.kids.drop (ks.length - (i + 1)) = kf :: u.kids.drop (ks.length - i) := by
              have lt : ks.length - 1 - i < u.kids.length := by omega
              rw [show ks.length - (i + 1) = ks.length - 1 - i by omega, List.drop_eq_getElem_cons lt, show ks.length - 1 - i + 1 = ks.length - i by omega]
              congr 1
              exact Option.some.inj ((List.getElem?_eq_getElem lt).symm.trans hkf)
            rw [e2]
            exact .snoc (sa7.lk ((LKp.same s8).trans l9)) (SqT.lk l9 (SqT.of upd_same)) (isk.lk ((LKp.same s8).trans l9))
        · rintro σ G7 ⟨ws7, y, rfl, l7, k7, w7, sa7⟩
          rw [Nat.sub_self, List.drop_zero] at sa7
          have zst : stSize (u.kids.map (fun f => (f, (L.length : Int))) ++ st') + 1 = u.size + stSize st' := by
            rw [stSize_app]
            omega
          have PR7 : Parts K C G7 (R ++ [⟨x1, l, dx, h⟩]) (L ++ [(u.hd, a)]) := by
            refine ⟨PR5.1, fun i pr hd' a' e1 e2 => ?_⟩
            have z := (PR5.2 i pr hd' a' e1 e2).same s6
            have nw : pr.l ≠ wa := by
              rcases List.mem_append.mp (List.mem_of_getElem? e1) with m | m
              · exact (lfr pr m).2.2
              · rw [List.mem_singleton.mp m]
                exact lwa
            exact ⟨l7 _ _ (by intro xs q; cases q) z.ob, SqT.lk l7 z.hd, k7 _ _ nw z.inn⟩
          refine ⟨stSize (u.kids.map (fun f => (f, (L.length : Int))) ++ st'), by show _ < u.size + stSize st'; omega, R ++ [⟨x1, l, dx, h⟩], L ++ [(u.hd, a)], ws7, _, _, _, _, _, _, rfl, fun b o e => ?_, ?_, w7, sa7, PR7, ?_, ?_, ?_, ?_, rfl, ?_, ?_⟩
          · exact k7 b o (fun q => by rw [q, hwa'] at e; cases e) (sG6 b o e)
          · rw [List.map_append]
            exact k7 _ _ wpa.symm (s6 _ _ p5)
          · rw [List.map_append, List.nodup_append]
            refine ⟨nd, by simp, fun a' ha b hb => ?_⟩
            obtain ⟨r, hr', rfl⟩ := List.mem_map.mp ha
            rw [List.map_cons, List.map_nil, List.mem_singleton] at hb
            subst hb
            exact lnew r hr'
          · intro r hr'
            rcases List.mem_append.mp hr' with m | m
            · exact lfr r m
            · rw [List.mem_singleton.mp m]
              exact ⟨nfresh, lpa, lwa⟩
          · intro y hy
            rw [List.length_append, List.length_singleton]
            rcases List.mem_append.mp hy with m | m
            · obtain ⟨f', _, rfl⟩ := List.mem_map.mp m
              show (L.length : Int) < ((L.length + 1 : Nat) : Int) ∧ -1 ≤ (L.length : Int)
              omega
            · have := stb y (List.mem_cons_of_mem _ m)
              omega
          · intro y hy
            rw [List.length_append, List.length_singleton]
            rcases List.mem_append.mp hy with m | m
            · have := Lb y m
              omega
            · rw [List.mem_singleton.mp m]
              show a < _
              have := sb.1
              have e : (((u, a) : F × Int).2) = a := rfl
              omega
          · rw [List.length_append, List.length_singleton]
            omega
          · rw [← hfin, fin_step]
      · intro c rest
        have ha : 0 ≤ a := of_decide_eq_true c
        have hal : a < (L.length : Int) := sb.1
        obtain ⟨m, rfl⟩ : ∃ m : Nat, a = (m : Int) := ⟨a.toNat, by omega⟩
        have hm : m < R.length := by rw [PR.1]; omega
        obtain ⟨pr, hpr⟩ : ∃ pr, R[m]? = some pr := ⟨R[m], by simp [hm]⟩
        obtain ⟨⟨hd', a'⟩, hlr⟩ : ∃ y, L[m]? = some y := ⟨L[m]'(by omega), by simp⟩
        have z := PR.2 m pr hd' a' hpr hlr
        have prm := List.mem_of_getElem? hpr
        have ob := L14 _ _ (by intro xs q; cases q) z.ob
        have inn := K14 _ _ (lfr pr prm).2.2 (lfr pr prm).2.1 z.inn
        -- parts[around].inner.append(at)
        refine ⟨.ref pa, rfl, .int (m : Nat), rfl, pa, _, _, .ref pr.p, rfl, rfl, SqL.of p4, atI_nat (j := m) ?_, pr.p, C, pr.dx, _, .ref pr.l, rfl, ob, T.cl, T.nI, rfl, .inl ⟨rfl, _, SqL.of inn⟩, .int (L.length : Nat), rfl, pr.l, _, _, rfl, rfl, inn, ?_, ?_⟩
        · rw [List.getElem?_append_left (by rw [List.length_map]; exact hm), List.getElem?_map, hpr]
          rfl
        · rw [List.length_map]
          refine small _ ?_
          have : ∀ (A : List Int) (j i : Nat), (kidsFrom A j i).length ≤ A.length := by
            intro A
            induction A with
            | nil => intro j i; exact Nat.le_refl _
            | cons b A ih =>
              intro j i
              have := ih (j + 1) i
              simp only [kidsFrom]
              split <;> simp only [List.length_cons] <;> omega
          have := this (L.map (·.2)) 0 m
          rw [List.length_map] at this
          omega
        · have l5 : LKp G4 (upd G4 pr.l (.lst ((kidsFrom (L.map (·.2)) 0 m).map (fun n => V.int (n : Nat)) ++ [.int (L.length : Nat)]))) := LKp.upd inn
          refine rest _ ⟨L14.trans l5, fun b o n1 n2 n3 e => ?_, ?_, ?_, SqT.lk l5 hd4, ?_⟩
          · rw [upd_ne (n3 pr prm)]
            exact K14 b o n1 n2 e
          · rw [upd_ne (lfr pr prm).2.2.symm]
            exact w4
          · rw [upd_ne (lfr pr prm).2.1.symm]
            exact p4
          · refine Parts.more PR (L14.trans l5) (fun i pr' hi => ?_) Lb sb.1 ⟨l5 _ _ (by intro xs q; cases q) ob4, SqT.lk l5 hd4, ?_⟩
            · obtain ⟨⟨hd2, a2⟩, hl2'⟩ : ∃ y, L[i]? = some y := ⟨L[i]'(by have := (List.getElem?_eq_some_iff.mp hi).1; rw [PR.1] at this; exact this), by simp⟩
              by_cases e : i = m
              · subst e
                rw [hpr] at hi
                cases hi
                rw [upd_same, if_pos rfl, List.map_append]
                rfl
              · have nl : pr'.l ≠ pr.l := fun q => e (nd_ix nd (x := pr.l) (by rw [List.getElem?_map, hi, Option.map_some, q]) (by rw [List.getElem?_map, hpr]; rfl))
                rw [upd_ne nl, if_neg (by omega), List.append_nil]
                have pm' := List.mem_of_getElem? hi
                exact K14 _ _ (lfr pr' pm').2.2 (lfr pr' pm').2.1 (PR.2 i pr' hd2 a2 hi hl2').inn
            · rw [upd_ne (lnew pr prm).symm]
              exact ln4
      · intro c
        have ha : ¬ 0 ≤ a := of_decide_eq_false c
        refine ⟨L14, fun b o n1 n2 _ e => K14 b o n1 n2 e, w4, p4, hd4, ?_⟩
        refine Parts.more PR L14 (fun i pr' hi => ?_) Lb sb.1 ⟨ob4, hd4, ln4⟩
        obtain ⟨⟨hd2, a2⟩, hl2'⟩ : ∃ y, L[i]? = some y := ⟨L[i]'(by have := (List.getElem?_eq_some_iff.mp hi).1; rw [PR.1] at this; exact this), by simp⟩
        rw [if_neg (by omega), List.append_nil]
        have pm' := List.mem_of_getElem? hi
        exact K14 _ _ (lfr pr' pm').2.2 (lfr pr' pm').2.1 (PR.2 i pr' hd2 a2 hi hl2').inn
end
end Fw

set_option maxRecDepth 100000
set_option maxHeartbeats 2000000
namespace Fw
open PySem PySem.Spec PyProof.Rows L2
def HeadsAt (K : PySem.W.Frag) (H : Hp) (ha : Addr) (l : List Hd) : Prop :=
  ∃ hs : List Addr, SqL K H ha (hs.map V.ref) ∧ hs.length = l.length ∧ ∀ (i : Nat) (h : Addr) (hd : Hd), hs[i]? = some h → l[i]? = some hd → SqT K H h (hv hd)
theorem HeadsAt.same {K : PySem.W.Frag} {H H' : Hp} {ha : Addr} {l : List Hd} (s : Same H H') (h : HeadsAt K H ha l) : HeadsAt K H' ha l := by
  obtain ⟨hs, h1, h2, h3⟩ := h
  exact ⟨hs, s.seq h1, h2, fun i h hd e1 e2 => SqT.same s (h3 i h hd e1 e2)⟩
theorem no_get {α : Type} (m : Nat) (v : α) : ¬ ([] : List α)[m]? = some v := by simp
theorem pre_aro (t : F) : (pre t (-1) 0).map (·.2) = arounds (infos t) := by simp [pre, arounds, Function.comp_def]
end Fw

set_option maxRecDepth 100000
set_option maxHeartbeats 2000000
namespace Fw
open PySem PySem.Spec PyProof.Rows L2
theorem pre_get {t : F} {i : Nat} {r : Rec} (h : (infos t)[i]? = some r) : (pre t (-1) 0)[i]? = some (r.sub.hd, r.aro) := by
  rw [pre, List.getElem?_map, h]
  rfl
theorem isB_hd (s : F) : isBH s.hd = isB s := by cases s <;> rfl
def nearL (t : F) : List Int := (infos t).map fun r => topPos r.stk
def placeOf (r : Rec) : Int := match r.sub with
  | .leaf .var x => posOf x r.stk
  | _ => -1
def placeL (t : F) : List Int := (infos t).map placeOf
/-- the i-th part and what is known of it -/
theorem PartsAt.nth {K : PySem.W.Frag} {C : Addr} {H : Hp} {pa : Addr} {t : F} {R : List PRec} (PR : Parts K C H R (pre t (-1) 0)) {i : Nat} (hi : i < t.size) :
    ∃ r pr, (infos t)[i]? = some r ∧ R[i]? = some pr ∧ PartIs K C H pr r.sub.hd r.aro (inPlaces r.sub i) := by
  have lenI : (infos t).length = t.size := info_len _ _ _ _
  have lenR : R.length = t.size := by rw [PR.1, pre_len]
  obtain ⟨r, hr⟩ : ∃ r, (infos t)[i]? = some r := ⟨(infos t)[i]'(by omega), by simp⟩
  obtain ⟨pr, hpr⟩ : ∃ pr, R[i]? = some pr := ⟨R[i]'(by omega), by simp⟩
  have z := PR.2 i pr _ _ hpr (pre_get hr)
  rw [pre_aro, kids_at hr] at z
  exact ⟨r, pr, hr, hpr, z⟩
theorem nv_N : ∀ b : Bool, V.str (wN b) ≠ V.str "var"
  | true => by decide +kernel
  | false => by decide +kernel
theorem nv_T : ∀ b : Bool, V.str (wT b) ≠ V.str "var"
  | true => by decide +kernel
  | false => by decide +kernel
theorem nv_O : ∀ k : One, V.str (wO k) ≠ V.str "var"
  | .some => by decide +kernel
  | .all => by decide +kernel
  | .least => by decide +kernel
  | .most => by decide +kernel
theorem nv_has : V.str (wL .has) ≠ V.str "var" := by decide +kernel
theorem nv_lacks : V.str (wL .lacks) ≠ V.str "var" := by decide +kernel
theorem hd_at0 (hd : Hd) : atI (hv hd) 0 = some (.str (hw hd)) := atI_nat (j := 0) (hv_head hd)
theorem fld_head (h : V) (a : Int) (l : Addr) : (pf h a l).lookup ("head" : Str) = some h := rfl
theorem fld_around (h : V) (a : Int) (l : Addr) : (pf h a l).lookup ("around" : Str) = some (.int a) := rfl
section
variable {P : Program} {w : World} {K : PySem.W.Frag} {mg : Str → Option Value} {base : Heap} {C J B : Addr}
def spNear (K : PySem.W.Frag) (C B : Addr) : Sp := fun vs H Q _ => ∃ (pa : Addr) (t : F), vs = [.ref pa, .ref B] ∧ PartsAt K C H pa (pre t (-1) 0) ∧ t.size ≤ 1000 ∧
  ∀ na H', Same H H' → H' na = some (.lst ((nearL t).map V.int)) → Q (.ref na) H'
theorem ok_nearest_around {f : Addr} {fd : FuncData} (FF : Fun K "nearest_around" "nearest_around" s_nearest_around f fd) (T : Txt K mg C J B) : FnOk P w K mg base CX0 1 f fd a_nearest_around (spNear K C B) := by
  refine FF.ok sc_nearest_around (fun vs H Q E h => ?_) (fun cdv A outer s H vs Q E hr h => ?_)
  · obtain ⟨pa, t, rfl, _⟩ := h
    rfl
  · obtain ⟨pa, t, rfl, ⟨R, hR, PR⟩, hsz, k⟩ := h
    have small : ∀ n : Nat, n ≤ 1000 → n < sizeLine := fun n hn => small1000 hn
    have lenR : R.length = t.size := by rw [PR.1, pre_len]
    have lenI : (infos t).length = t.size := info_len _ _ _ _
    refine ⟨_, (pss_cons (ps_set (i := 2) sc_nearest_around.nd rfl (.inl rfl) (pe_lst pa_nil))
      (pss_cons (ps_for PassesOwn.never rfl (pi_list (pv 0)) (pg_name (i := 3) sc_nearest_around.nd rfl (.inl rfl)) (pss_cons (ps_set (i := 4) sc_nearest_around.nd rfl (.inl rfl) (pe_fld (pv 3) rfl))
      (pss_cons (ps_if (PW.pt (pw_and (pt_cmpR op_ge (pv 4) pe_int (nomark _)) (pw_and1 (pt_cmpR op_notIn_seq (pe_ix ix_tup (pe_fld (pe_ix ix_list (pv 0) (pv 4) (fun _ _ => rfl)) rfl) pe_int (fun _ _ => rfl)) (pv 1) (by rfl))))) (pss_one (ps_set (i := 4) sc_nearest_around.nd rfl (.inl rfl) (pe_ix ix_list (pv 2) (pv 4) (fun _ _ => rfl)))) pss_nil)
      (pss_one (ps_expr (pe_bm PySem.F.plainAttrs_list PySem.F.slot_list_append PySem.F.type_list_append mt_append (pv 2) (pa_cons (pv 4) pa_nil)))))))
      (pss_one (ps_ret (pv 2))))), ?_⟩
    refine ⟨Nat.zero_le _, fun na hna => ?_⟩
    refine ⟨.ref pa, rfl, pa, rfl, ⟨_, (Same.new hna).seq hR⟩, for_list (xs := R.map fun (r : PRec) => V.ref r.p) (fun i σ G => ∃ (y3 y4 : Option V), σ = [some (.ref pa), some (.ref B), some (.ref na), y3, y4] ∧ Same H G ∧ G na = some (.lst (((nearL t).take i).map V.int)))
      ⟨none, none, rfl, Same.new hna, upd_same⟩ (fun i σ G _ ⟨_, _, _, sG, _⟩ => sG.seq hR) ?_ ?_⟩
    · rintro i x σ G hx ⟨y3, y4, rfl, sG, gn⟩
      have hi : i < t.size := by
        have := (List.getElem?_eq_some_iff.mp hx).1
        rw [List.length_map] at this
        omega
      obtain ⟨r, pr, hr', hpr, z0⟩ := PartsAt.nth (pa := pa) PR hi
      have z := z0.same sG
      rw [List.getElem?_map, hpr] at hx
      cases hx
      -- around = part.around
      refine ⟨.ref pr.p, rfl, pr.p, C, pr.dx, _, _, rfl, z.ob, T.cl, T.nA, fld_around _ _ _, ?_⟩
      have nlen : (nearL t).length = t.size := by rw [nearL, List.length_map, lenI]
      have nget : (nearL t)[i]? = some (topPos r.stk) := by rw [nearL, List.getElem?_map, hr']; rfl
      have fin : ∀ (a : Int) (y : Option V), a = topPos r.stk → ∃ (y3 y4 : Option V), ([some (.ref pa), some (.ref B), some (.ref na), some (.ref pr.p), some (.int a)] : List (Option V)) = [some (.ref pa), some (.ref B), some (.ref na), y3, y4] ∧
          Same H (upd G na (.lst (((nearL t).take i).map V.int ++ [.int a]))) ∧ (upd G na (.lst (((nearL t).take i).map V.int ++ [.int a]))) na = some (.lst (((nearL t).take (i + 1)).map V.int)) := by
        intro a y e
        subst e
        refine ⟨_, _, rfl, fun b o e => ?_, ?_⟩
        · rw [upd_ne (ne_of_none e hna)]
          exact sG b o e
        · rw [upd_same, List.take_add_one, nget, List.map_append]
          rfl
      have nsz : (((nearL t).take i).map V.int).length < sizeLine := by
        rw [List.length_map, List.length_take]
        exact small _ (by omega)
      refine ⟨.int r.aro, rfl, _, _, rfl, rfl, _, rfl, ?_⟩
      rcases top_step hr' with ⟨e1, e2, _⟩ | ⟨p, r', hp, e3, e1, e2⟩
      · refine ite2 (fun c => ?_) (fun c => ?_)
        · have := of_decide_eq_true c
          omega
        · refine iteF ?_
          refine ⟨.ref na, rfl, .inl ⟨rfl, _, SqL.of gn⟩, .int r.aro, rfl, na, _, _, rfl, rfl, gn, nsz, ?_⟩
          exact fin r.aro none (by rw [e1, e2])
      · refine ite2 (fun c => ?_) (fun c => ?_)
        · obtain ⟨r2, pr', hr2, hpr', z1⟩ := PartsAt.nth (pa := pa) PR (show p < t.size by omega)
          rw [e3] at hr2
          cases hr2
          have z' := z1.same sG
          refine ⟨.ref pa, rfl, .int r.aro, rfl, pa, _, _, .ref pr'.p, rfl, rfl, sG.seq hR, ?_, pr'.p, C, pr'.dx, _, .ref pr'.h, rfl, z'.ob, T.cl, T.nH, fld_head _ _ _, pr'.h, _, _, _, rfl, rfl, z'.hd, hd_at0 _, .ref B, rfl, B, _, rfl, .inr (T.c_BINDERS _), rfl, rfl, _, rfl, ?_⟩
          · rw [e1]
            exact atI_nat (j := p) (by rw [List.getElem?_map, hpr']; rfl)
          rw [if_pos rfl, in_binders, isB_hd]
          cases hb : isB r'.sub with
          | true =>
            refine iteF ?_
            refine ⟨.ref na, rfl, .inl ⟨rfl, _, SqL.of gn⟩, .int r.aro, rfl, na, _, _, rfl, rfl, gn, nsz, ?_⟩
            exact fin r.aro none (by rw [e2, hb, if_pos rfl, e1])
          | false =>
            refine iteT ?_
            refine ⟨.ref na, rfl, .int r.aro, rfl, na, _, _, .int (topPos r'.stk), rfl, rfl, SqL.of gn, ?_, ?_⟩
            · rw [e1]
              refine atI_nat (j := p) ?_
              rw [List.getElem?_map, List.getElem?_take, if_pos hp, nearL, List.getElem?_map, e3]
              rfl
            · refine ⟨.ref na, rfl, .inl ⟨rfl, _, SqL.of gn⟩, .int (topPos r'.stk), rfl, na, _, _, rfl, rfl, gn, nsz, ?_⟩
              exact fin (topPos r'.stk) none (by rw [e2, hb]; rfl)
        · have := of_decide_eq_false (Bool.eq_false_iff.mpr c)
          omega
    · rintro σ G ⟨y3, y4, rfl, sG, gn⟩
      refine ⟨_, rfl, k na G sG ?_⟩
      rw [gn, List.length_map, lenR, List.take_of_length_le (by rw [nearL, List.length_map, lenI]; exact Nat.le_refl _)]
/-! ### binder_places -/
def spPlaces (K : PySem.W.Frag) (C : Addr) : Sp := fun vs H Q _ => ∃ (pa : Addr) (t : F), vs = [.ref pa] ∧ PartsAt K C H pa (pre t (-1) 0) ∧ t.size ≤ 1000 ∧
  ∀ la H', Same H H' → H' la = some (.lst ((placeL t).map V.int)) → Q (.ref la) H'
theorem ok_binder_places {f : Addr} {fd : FuncData} (FF : Fun K "binder_places" "binder_places" s_binder_places f fd) (T : Txt K mg C J B)
    (h_nearest_around : Has P w K mg base "nearest_around" 1 a_nearest_around (spNear K C B)) : FnOk P w K mg base CX0 2 f fd a_binder_places (spPlaces K C) := by
  refine FF.ok sc_binder_places (fun vs H Q E h => ?_) (fun cdv A outer s H vs Q E hr h => ?_)
  · obtain ⟨pa, t, rfl, _⟩ := h
    rfl
  · obtain ⟨pa, t, rfl, PA, hsz, k⟩ := h
    obtain ⟨R, hR, PR⟩ := id PA
    have small : ∀ n : Nat, n ≤ 1000 → n < sizeLine := fun n hn => small1000 hn
    have lenR : R.length = t.size := by rw [PR.1, pre_len]
    have lenI : (infos t).length = t.size := info_len _ _ _ _
    have plen : (placeL t).length = t.size := by rw [placeL, List.length_map, lenI]
    refine ⟨_, (pss_cons (ps_set (i := 1) sc_binder_places.nd rfl (.inl rfl) (pe_callH h_nearest_around (hr.mono (by omega)) (pa_cons (pv 0) (pa_cons (pe_glob rfl T.m_BINDERS (show RelV (.ref _) _ from rfl)) pa_nil))))
      (pss_cons (ps_set (i := 2) sc_binder_places.nd rfl (.inl rfl) (pe_lst pa_nil))
      (pss_cons (ps_for PassesOwn.never rfl (pi_enum rfl T.z_enumerate (pa_cons (pv 0) pa_nil)) (pg_tup rfl (pgs_cons (pg_name (i := 3) sc_binder_places.nd rfl (.inl rfl)) (pgs_cons (pg_name (i := 4) sc_binder_places.nd rfl (.inl rfl)) pgs_nil))) (pss_cons (ps_set (i := 5) sc_binder_places.nd rfl (.inl rfl) (pe_un un_neg pe_int))
      (pss_cons (ps_if (pt_cmpR op_eq (pe_ix ix_tup (pe_fld (pv 4) rfl) pe_int (fun _ _ => rfl)) pe_str (nomark _)) (pss_cons (ps_set (i := 5) sc_binder_places.nd rfl (.inl rfl) (pe_ix ix_list (pv 1) (pv 3) (fun _ _ => rfl)))
      (pss_one (ps_while PassesOwn.never (PW.pt (pw_and (pt_cmpR op_ge (pv 5) pe_int (nomark _)) (pw_and1 (pt_cmpR op_ne (pe_ix ix_tup (pe_fld (pe_ix ix_list (pv 0) (pv 5) (fun _ _ => rfl)) rfl) pe_int (fun _ _ => rfl)) (pe_ix ix_tup (pe_fld (pv 4) rfl) pe_int (fun _ _ => rfl)) (nomark _))))) (pss_one (ps_set (i := 5) sc_binder_places.nd rfl (.inl rfl) (pe_ix ix_list (pv 1) (pv 5) (fun _ _ => rfl))))))) pss_nil)
      (pss_one (ps_expr (pe_bm PySem.F.plainAttrs_list PySem.F.slot_list_append PySem.F.type_list_append mt_append (pv 2) (pa_cons (pv 5) pa_nil)))))))
      (pss_one (ps_ret (pv 2)))))), ?_⟩
    refine ⟨.ref pa, rfl, pa, t, rfl, PA, hsz, fun na H1 s1 n1 => ?_⟩
    refine ⟨Nat.zero_le _, fun la hla => ?_⟩
    have s2 := Same.new (o := .lst []) hla
    have hla0 := s1.free hla
    refine ⟨.ref pa, rfl, pa, _, rfl, (s1.trans s2).seq hR, for_it (walk_enum (xs := R.map fun (r : PRec) => V.ref r.p)) (fun i σ G => ∃ (y3 y4 y5 : Option V), σ = [some (.ref pa), some (.ref na), some (.ref la), y3, y4, y5] ∧ Same H G ∧
      G na = some (.lst ((nearL t).map V.int)) ∧ G la = some (.lst (((placeL t).take i).map V.int)))
      ⟨none, none, none, rfl, s1.trans s2, s2 _ _ n1, upd_same⟩ (fun i σ G _ ⟨_, _, _, _, sG, _⟩ => sG.seq hR) ?_ ?_⟩
    · rintro i x σ G H' hi ⟨y3, y4, y5, rfl, sG, gn, gl⟩ ⟨tp, x1, x2, rfl, htp, rfl, e1, e2⟩
      rw [List.length_map, lenR] at hi
      obtain ⟨r, pr, hr', hpr, z0⟩ := PartsAt.nth (pa := pa) PR hi
      have e2' : (R.map fun (r : PRec) => V.ref r.p)[i]? = some x2 := e2
      rw [List.getElem?_map, hpr] at e2'
      cases e1
      cases e2'
      have st := Same.new (o := .tup [.int (i : Nat), .ref pr.p]) htp
      have sG' := sG.trans st
      have z := z0.same sG'
      have gn' := st _ _ gn
      have gl' := st _ _ gl
      have tT : SqT K (upd G tp (.tup [.int (i : Nat), .ref pr.p])) tp [.int (i : Nat), .ref pr.p] := SqT.of upd_same
      generalize upd G tp (.tup [.int (i : Nat), .ref pr.p]) = G1 at st sG' z gn' gl' tT
      refine ⟨tp, _, rfl, tT, rfl, .int (i : Nat), _, rfl, .ref pr.p, _, rfl, rfl, 1, rfl, ?_⟩
      have fin : ∀ (a : Int) (y : Option V), a = placeOf r → ∃ (y3 y4 y5 : Option V), ([some (.ref pa), some (.ref na), some (.ref la), some (.int (i : Nat)), some (.ref pr.p), some (.int a)] : List (Option V)) = [some (.ref pa), some (.ref na), some (.ref la), y3, y4, y5] ∧
          Same H (upd G1 la (.lst (((placeL t).take i).map V.int ++ [.int a]))) ∧ (upd G1 la (.lst (((placeL t).take i).map V.int ++ [.int a]))) na = some (.lst ((nearL t).map V.int)) ∧
          (upd G1 la (.lst (((placeL t).take i).map V.int ++ [.int a]))) la = some (.lst (((placeL t).take (i + 1)).map V.int)) := by
        intro a y e
        subst e
        refine ⟨_, _, _, rfl, fun b o e => ?_, ?_, ?_⟩
        · rw [upd_ne (ne_of_none e hla0)]
          exact sG' b o e
        · rw [upd_ne (ne_of_none n1 hla)]
          exact gn'
        · rw [upd_same, List.take_add_one, show (placeL t)[i]? = some (placeOf r) by rw [placeL, List.getElem?_map, hr']; rfl, List.map_append]
          rfl
      have lsz : (((placeL t).take i).map V.int).length < sizeLine := by
        rw [List.length_map, List.length_take]
        exact small _ (by omega)
      refine ⟨.ref pr.p, rfl, pr.p, C, pr.dx, _, .ref pr.h, rfl, z.ob, T.cl, T.nH, fld_head _ _ _, pr.h, _, _, _, rfl, rfl, z.hd, hd_at0 _, rfl, _, rfl, ?_⟩
      have other : (∀ x, r.sub ≠ .leaf .var x) → V.str (hw r.sub.hd) ≠ V.str "var" ∧ placeOf r = -1 := fun nv => by
        obtain ⟨sb, a, stk⟩ := r
        cases sb with
        | nul b => exact ⟨nv_N b, rfl⟩
        | two b _ _ => exact ⟨nv_T b, rfl⟩
        | one k _ _ => exact ⟨nv_O k, rfl⟩
        | leaf k x =>
          cases k with
          | var => exact absurd rfl (nv x)
          | has => exact ⟨nv_has, rfl⟩
          | lacks => exact ⟨nv_lacks, rfl⟩
      by_cases hv' : ∃ x, r.sub = .leaf .var x
      · obtain ⟨x, hx⟩ := hv'
        have zh := z.hd
        rw [hx] at zh
        rw [hx]
        refine (if_pos (decide_eq_true rfl)).mpr ?_
        have nget : (nearL t)[i]? = some (topPos r.stk) := by rw [nearL, List.getElem?_map, hr']; rfl
        refine ⟨.ref na, rfl, .int (i : Nat), rfl, na, _, _, .int (topPos r.stk), rfl, rfl, SqL.of gn', atI_nat (j := i) (by rw [List.getElem?_map, nget]; rfl), ?_⟩
        have fin' := fin (posOf x r.stk) none (by unfold placeOf; rw [hx])
        refine ⟨fun m σ G' => ∃ (st' : Stk) (j0 : Nat) (r0 : Rec), σ = [some (.ref pa), some (.ref na), some (.ref la), some (.int (i : Nat)), some (.ref pr.p), some (.int (topPos st'))] ∧ G' = G1 ∧ posOf x st' = posOf x r.stk ∧
          (infos t)[j0]? = some r0 ∧ r0.stk = st' ∧ m = st'.length, ⟨_, r.stk, i, r, rfl, rfl, rfl, hr', rfl, rfl⟩, ?_⟩
        rintro m σ G' ⟨st', j0, r0, rfl, rfl, hpos, hr0, rfl, rfl⟩
        refine ⟨.int (topPos r0.stk), rfl, _, _, rfl, rfl, _, rfl, ?_⟩
        have out : ∀ a : Int, a = posOf x r.stk → ∀ σ : L2.St, σ = [some (.ref pa), some (.ref na), some (.ref la), some (.int (i : Nat)), some (.ref pr.p), some (.int a)] → σ = [some (.ref pa), some (.ref na), some (.ref la), some (.int (i : Nat)), some (.ref pr.p), some (.int (posOf x r.stk))] := fun a e σ es => by rw [es, e]
        cases hst : r0.stk with
        | nil =>
          rw [hst] at hpos
          refine iteF (iteF ?_)
          refine ⟨.ref la, rfl, .inl ⟨rfl, _, SqL.of gl'⟩, .int (-1), rfl, la, _, _, rfl, rfl, gl', lsz, ?_⟩
          have e : (-1 : Int) = posOf x r.stk := hpos
          rw [← e] at fin'
          exact fin'
        | cons yp rest =>
          obtain ⟨y, p⟩ := yp
          rw [hst] at hpos
          obtain ⟨hp, kd, f, a, hrp, hk⟩ := infos_stk j0 j0 r0 y p rest (Nat.le_refl _) hr0 hst
          have j0lt : j0 < t.size := by
            have := (List.getElem?_eq_some_iff.mp hr0).1
            omega
          obtain ⟨r2, pr', hr2, hpr', z1⟩ := PartsAt.nth (pa := pa) PR (show p < t.size by omega)
          rw [hrp] at hr2
          cases hr2
          have z' := z1.same sG'
          refine (if_pos (decide_eq_true (Int.natCast_nonneg p))).mpr ?_
          refine ⟨.ref pa, rfl, .int (p : Nat), rfl, pa, _, _, .ref pr'.p, rfl, rfl, sG'.seq hR, atI_nat (j := p) (by rw [List.getElem?_map, hpr']; rfl), pr'.p, C, pr'.dx, _, .ref pr'.h, rfl, z'.ob, T.cl, T.nH, fld_head _ _ _, pr'.h, _, 1, .int y, rfl, rfl, z'.hd, atI_nat (j := 1) rfl, ?_⟩
          refine ⟨.ref pr.p, rfl, pr.p, C, pr.dx, _, .ref pr.h, rfl, z.ob, T.cl, T.nH, fld_head _ _ _, pr.h, _, 1, .int x, rfl, rfl, zh, atI_nat (j := 1) rfl, rfl, _, rfl, ?_⟩
          by_cases e : y = x
          · subst e
            rw [decide_eq_true (rfl : V.int y = V.int y)]
            refine iteF ?_
            refine ⟨.ref la, rfl, .inl ⟨rfl, _, SqL.of gl'⟩, .int (p : Nat), rfl, la, _, _, rfl, rfl, gl', lsz, ?_⟩
            have e : ((p : Nat) : Int) = posOf y r.stk := by rw [← hpos]; simp [posOf]
            rw [← e] at fin'
            exact fin'
          · rw [decide_eq_false (fun q : V.int y = V.int x => e (V.int.inj q))]
            refine iteT ⟨_, fun σ' H' z => z, ?_⟩
            refine ⟨.ref na, rfl, .int (p : Nat), rfl, na, _, _, .int (topPos rest), rfl, rfl, SqL.of gn', atI_nat (j := p) (by rw [List.getElem?_map, nearL, List.getElem?_map, hrp]; rfl), ?_⟩
            refine ⟨rest.length, Nat.lt_succ_self _, rest, p, _, rfl, rfl, ?_, hrp, rfl, rfl⟩
            rw [← hpos]
            simp only [posOf]
            rw [if_neg e]
      · obtain ⟨n1', n2'⟩ := other fun x e => hv' ⟨x, e⟩
        refine (if_neg (by rw [decide_eq_false n1']; exact Bool.false_ne_true)).mpr ?_
        refine ⟨.ref la, rfl, .inl ⟨rfl, _, SqL.of gl'⟩, .int (-1), rfl, la, _, _, rfl, rfl, gl', lsz, ?_⟩
        exact fin (-1) none n2'.symm
    · rintro σ G ⟨y3, y4, y5, rfl, sG, gn, gl⟩
      refine ⟨_, rfl, k la G sG ?_⟩
      rw [gl, List.length_map, lenR, List.take_of_length_le (by omega)]
end
end Fw

set_option maxRecDepth 100000
set_option maxHeartbeats 2000000
namespace Fw
open PySem PySem.Spec PyProof.Rows L2
theorem filter_more {S : Int → Bool} {k : Int} : ∀ {l : List Int}, l.Nodup → k ∈ l → (l.filter fun j => S j || decide (j = k)).length = if S k = true then (l.filter S).length else (l.filter S).length + 1
  | [], _, h => by cases h
  | a :: l, nd, h => by
    have nd' := List.nodup_cons.mp nd
    by_cases e : a = k
    · subst e
      have same : (l.filter fun j => S j || decide (j = a)) = l.filter S := by
        refine List.filter_congr fun x hx => ?_
        have : x ≠ a := fun q => nd'.1 (q ▸ hx)
        simp [this]
      by_cases hs : S a = true
      · simp [List.filter_cons, hs, same]
      · simp [List.filter_cons, hs, same]
    · have hk : k ∈ l := (List.mem_cons.mp h).resolve_left fun q => e q.symm
      have ih := filter_more (S := S) nd'.2 hk
      by_cases ha : S a = true
      · simp only [List.filter_cons, ha, Bool.true_or, if_true, List.length_cons, ih]
        split <;> rfl
      · have ha' : S a = false := by simpa using ha
        simp only [List.filter_cons, ha', Bool.false_or, decide_eq_false e, Bool.false_eq_true, if_false, ih]
theorem none_len (l : List Int) : 0 = (l.filter fun _ => false).length := by
  induction l with
  | nil => rfl
  | cons a l ih => simpa [List.filter_cons] using ih
theorem none_yet {I : List Rec} {x : Int} : false = true ↔ ∃ (j : Nat) (r : Rec), j < 0 ∧ I[j]? = some r ∧ r.sub = .leaf .var x ∧ x ∉ r.stk.map (·.1) :=
  ⟨fun e => (Bool.false_ne_true e).elim, fun ⟨_, _, h, _⟩ => absurd h (Nat.not_lt_zero _)⟩
section
variable {P : Program} {w : World} {K : PySem.W.Frag} {mg : Str → Option Value} {base : Heap} {C J B : Addr}
/-! ### free_variables -/
def spFree (K : PySem.W.Frag) : Sp := fun vs H Q _ => ∃ (v : V) (t : F) (Vs : List Int), vs = [v] ∧ IsF K H v t ∧ t.size ≤ 1000 ∧ Vs.Nodup ∧ Vs.length < 64 ∧ (∀ x ∈ freeL t [], x ∈ Vs) ∧
  ∀ (ns : List Int) p H', Same H H' → ns.Pairwise (· < ·) → (∀ x, x ∈ ns ↔ x ∈ freeL t []) → H' p = some (.lst (ns.map V.int)) → Q (.ref p) H'
theorem ok_free_variables {f : Addr} {fd : FuncData} (FF : Fun K "free_variables" "free_variables" s_free_variables f fd) (T : Txt K mg C J B)
    (h_parts_of : Has P w K mg base "parts_of" 3 a_parts_of (spParts K C)) (h_binder_places : Has P w K mg base "binder_places" 2 a_binder_places (spPlaces K C)) : FnOk P w K mg base CX0 4 f fd a_free_variables (spFree K) := by
  refine FF.ok sc_free_variables (fun vs H Q E h => ?_) (fun cdv A outer s H vs Q E hr h => ?_)
  · obtain ⟨v, t, Vs, rfl, _⟩ := h
    rfl
  · obtain ⟨v, t, Vs, rfl, ht, hsz, nd, l64, sub, k⟩ := h
    have lenI : (infos t).length = t.size := info_len _ _ _ _
    refine ⟨_, (pss_cons (ps_set (i := 1) sc_free_variables.nd rfl (.inl rfl) (pe_callH h_parts_of (hr.mono (by omega)) (pa_cons (pv 0) pa_nil)))
      (pss_cons (ps_set (i := 2) sc_free_variables.nd rfl (.inl rfl) (pe_callH h_binder_places (hr.mono (by omega)) (pa_cons (pv 1) pa_nil)))
      (pss_one (ps_ret (pe_callB (cr_sortedSet rfl) rfl T.z_sorted (by decide +kernel) (pa_cons (pe_sci (own := [("part", 3), ("place", 4)]) rfl sc_free_variables.nd (pi_zip rfl T.z_zip (pa_cons (pv 1) (pa_cons (pv 2) pa_nil))) (blkOk_by (own := [("part", 3), ("place", 4)]) (N := n_free_variables) (sc := defScope s_free_variables) (by decide +kernel)) (fun _ _ _ _ _ => (show PG _ _ (gTup K 2 _) from pg_tup rfl (pgs_cons (pg_name (i := 3) sc_free_variables.nd rfl (.inl rfl)) (pgs_cons (pg_name (i := 4) sc_free_variables.nd rfl (.inl rfl)) pgs_nil)))) (fun _ _ _ _ _ => (pts_one (PW.pt (pw_and (pt_cmpR op_eq (pe_ix (@id (IxR _ (rIxT K)) ix_tup) (show PE _ _ (tFld K _ "head") from pe_fld (pv 3) rfl) pe_int (fun _ _ => rfl)) pe_str (nomark _)) (pw_and1 (pt_cmpR op_lt (pv 4) pe_int (nomark _))))))) (fun _ _ _ _ _ => (pe_ix (@id (IxR _ (rIxT K)) ix_tup) (show PE _ _ (tFld K _ "head") from pe_fld (pv 3) rfl) pe_int (fun _ _ => rfl)))) pa_nil)))))), ?_⟩
    refine ⟨v, rfl, v, t, rfl, ht, hsz, fun pa H1 s1 PA => ?_⟩
    refine ⟨.ref pa, rfl, pa, t, rfl, PA, hsz, fun la H2 s2 hl => ?_⟩
    obtain ⟨R, hR, PR⟩ := id (PA.same s2)
    have lenR : R.length = t.size := by rw [PR.1, pre_len]
    refine ⟨.ref pa, rfl, .ref la, rfl, pa, la, _, _, rfl, hR, SqL.of hl, fun D hD => ?_⟩
    refine sci_it (walk_zip (n := t.size) (xs := R.map fun (r : PRec) => V.ref r.p) (ys := (placeL t).map V.int) (by rw [List.length_map, List.length_map, placeL, List.length_map, lenI, lenR, Nat.min_self]))
      (fun i G => Same H2 G ∧ ∃ S n, G D = some (SetO w D S n) ∧ n = (Vs.filter S).length ∧ ∀ x, S x = true ↔ ∃ (j : Nat) (r : Rec), j < i ∧ (infos t)[j]? = some r ∧ r.sub = .leaf .var x ∧ x ∉ r.stk.map (·.1))
      ⟨Same.new hD, fun _ => false, 0, upd_same, none_len Vs, fun x => none_yet⟩ (fun i G _ q => ⟨q.1.seq hR, SqL.of (q.1 _ _ hl)⟩) ?_ ?_
    · rintro i x G G' hi ⟨sG, S, n, hS, rfl, hSx⟩ ⟨tp, x1, x2, rfl, htp, rfl, e1, e2⟩
      obtain ⟨r, pr, hr', hpr, z0⟩ := PartsAt.nth (pa := pa) PR hi
      have e1' : (R.map fun (r : PRec) => V.ref r.p)[i]? = some x1 := e1
      have e2' : ((placeL t).map V.int)[i]? = some x2 := e2
      rw [List.getElem?_map, hpr] at e1'
      rw [List.getElem?_map, placeL, List.getElem?_map, hr'] at e2'
      cases e1'
      cases e2'
      have st := Same.new (o := .tup [.ref pr.p, .int (placeOf r)]) htp
      have sG' := sG.trans st
      have z := z0.same sG'
      have hS' := st _ _ hS
      have tT : SqT K (upd G tp (.tup [.ref pr.p, .int (placeOf r)])) tp [.ref pr.p, .int (placeOf r)] := SqT.of upd_same
      generalize upd G tp (.tup [.ref pr.p, .int (placeOf r)]) = G1 at st sG' z hS' tT
      refine ⟨tp, _, rfl, tT, rfl, .ref pr.p, _, rfl, .int (placeOf r), _, rfl, rfl, rfl, ?_⟩
      have noteq : (∀ x, ¬ (r.sub = .leaf .var x ∧ x ∉ r.stk.map (·.1))) → ∀ x, S x = true ↔ ∃ (j : Nat) (r : Rec), j < i + 1 ∧ (infos t)[j]? = some r ∧ r.sub = .leaf .var x ∧ x ∉ r.stk.map (·.1) := by
        intro hno x
        rw [hSx x]
        constructor
        · rintro ⟨j, r', h1, h2⟩
          exact ⟨j, r', by omega, h2⟩
        · rintro ⟨j, r', h1, h2, h3⟩
          by_cases e : j = i
          · subst e
            rw [hr'] at h2
            cases h2
            exact absurd h3 (hno x)
          · exact ⟨j, r', by omega, h2, h3⟩
      refine ⟨.ref pr.p, rfl, pr.p, C, pr.dx, _, .ref pr.h, rfl, z.ob, T.cl, T.nH, fld_head _ _ _, pr.h, _, _, _, rfl, rfl, z.hd, hd_at0 _, rfl, _, rfl, ?_⟩
      have ie : ∀ x y : Int, r.sub = .leaf .var x → F.leaf .var x = .leaf .var y → x = y := fun x y _ e => by injection e
      by_cases hv' : ∃ x, r.sub = .leaf .var x
      · obtain ⟨x, hx⟩ := hv'
        have zh := z.hd
        have hp : placeOf r = posOf x r.stk := by unfold placeOf; rw [hx]
        rw [hx] at zh
        rw [hx]
        refine (if_pos (decide_eq_true rfl)).mpr ?_
        refine ⟨.int (placeOf r), rfl, _, _, rfl, rfl, _, rfl, ?_⟩
        refine ite2 (fun c => ?_) (fun c => ?_)
        · have hneg : x ∉ r.stk.map (·.1) := (posOf_neg x r.stk).mp (by rw [← hp]; exact of_decide_eq_true c)
          have hxV : x ∈ Vs := sub x ((free_iff x t [] (-1) 0 [] (by simp)).mpr ⟨r, List.mem_of_getElem? hr', hx, hneg⟩)
          refine ⟨.ref pr.p, rfl, pr.p, C, pr.dx, _, .ref pr.h, rfl, z.ob, T.cl, T.nH, fld_head _ _ _, pr.h, _, 1, .int x, rfl, rfl, zh, atI_nat (j := 1) rfl, x, S, _, rfl, hS', ?_, ?_⟩
          · have := List.length_filter_le S Vs
            exact Nat.lt_of_le_of_lt (show _ ≤ 64 by omega) (by decide)
          · refine ⟨fun b o e => by rw [upd_ne (ne_of_none e hD)]; exact sG' b o e, _, _, upd_same, (filter_more nd hxV).symm, fun y => ?_⟩
            rw [Bool.or_eq_true, decide_eq_true_eq, hSx y]
            constructor
            · rintro (⟨j, r', h1, h2⟩ | rfl)
              · exact ⟨j, r', by omega, h2⟩
              · exact ⟨i, r, by omega, hr', hx, hneg⟩
            · rintro ⟨j, r', h1, h2, h3⟩
              by_cases e : j = i
              · subst e
                rw [hr'] at h2
                cases h2
                rw [hx] at h3
                exact .inr (ie x y hx h3.1).symm
              · exact .inl ⟨j, r', by omega, h2, h3⟩
        · refine ⟨sG', S, _, hS', rfl, noteq fun y q => ?_⟩
          rw [hx] at q
          have exy := ie x y hx q.1
          subst exy
          exact c (decide_eq_true (by rw [hp]; exact (posOf_neg x r.stk).mpr q.2))
      · have n1' : V.str (hw r.sub.hd) ≠ V.str "var" := by
          cases hs : r.sub with
          | nul b => exact nv_N b
          | two b _ _ => exact nv_T b
          | one k _ _ => exact nv_O k
          | leaf k x =>
            cases k with
            | var => exact absurd ⟨x, hs⟩ hv'
            | has => exact nv_has
            | lacks => exact nv_lacks
        refine (if_neg (by rw [decide_eq_false n1']; exact Bool.false_ne_true)).mpr ?_
        exact ⟨sG', S, _, hS', rfl, noteq fun y q => hv' ⟨y, q.1⟩⟩
    · rintro G ⟨sG, S, n, hS, rfl, hSx⟩
      refine ⟨D, S, _, rfl, hS, Nat.lt_of_le_of_lt (List.length_filter_le _ _) l64, fun ns p pw mem len hp => ?_⟩
      refine k ns p _ (s1.trans (s2.trans (sG.trans (Same.new hp)))) pw (fun x => ?_) upd_same
      rw [mem x, hSx x, free_iff x t [] (-1) 0 [] (by simp)]
      constructor
      · rintro ⟨j, r, h1, h2, h3⟩
        exact ⟨r, List.mem_of_getElem? h2, h3⟩
      · rintro ⟨r, h1, h2⟩
        obtain ⟨j, hj⟩ := List.mem_iff_getElem?.mp h1
        have := (List.getElem?_eq_some_iff.mp hj).1
        exact ⟨j, r, by rw [info_len] at this; exact this, hj, h2⟩
end
end Fw

set_option maxRecDepth 100000
set_option maxHeartbeats 2000000
namespace Fw
open PySem PySem.Spec PyProof.Rows L2
theorem SqT.butD {K : PySem.W.Frag} {G1 G2 : Hp} {a d : Addr} {xs : List V} {kvs : List (Key × V)} (hd : G1 d = some (.dK kvs)) (s : ∀ b o, b ≠ d → G1 b = some o → G2 b = some o) (h : SqT K G1 a xs) : SqT K G2 a xs := by
  rcases h with h | h
  · rcases h with h | ⟨u, h⟩
    · exact .inl (.inl (s _ _ (ne_of h hd (by intro z; cases z)) h))
    · exact .inl (.inr ⟨u, s _ _ (ne_of h hd (by intro z; cases z)) h⟩)
  · exact .inr h
section
variable {P : Program} {w : World} {K : PySem.W.Frag} {mg : Str → Option Value} {base : Heap} {C J B NC FE : Addr}
/-- a statement whose free variables are few -/
def Few (t : F) : Prop := ∃ Vs : List Int, Vs.Nodup ∧ Vs.length < 64 ∧ ∀ x ∈ freeL t [], x ∈ Vs
theorem Few.closed {t : F} (h : Closed t) : Few t := ⟨[], List.nodup_nil, by decide, fun x hx => by rw [closed_iff.mpr h] at hx; exact hx⟩
/-! ### ensure_closed -/
def spEnsure (K : PySem.W.Frag) (NC : Addr) : Sp := fun vs H Q E => ∃ (v : V) (t : F), vs = [v] ∧ IsF K H v t ∧ t.size ≤ 1000 ∧ Few t ∧
  (Closed t → ∀ H', Same H H' → Q .non H') ∧ (¬ Closed t → ∀ H', Same H H' → E (.ref NC) none H')
theorem ok_ensure_closed {f : Addr} {fd : FuncData} (FF : Fun K "ensure_closed" "ensure_closed" s_ensure_closed f fd) (T : Txt K mg C J B) (TE : TxtE K mg NC FE)
    (h_free_variables : Has P w K mg base "free_variables" 4 a_free_variables (spFree K)) : FnOk P w K mg base (L2.CX P w) 5 f fd a_ensure_closed (spEnsure K NC) := by
  refine FF.okX sc_ensure_closed (fun vs H Q E h => ?_) (fun cdv A outer s H vs Q E hr h => ?_)
  · obtain ⟨v, t, rfl, _⟩ := h
    rfl
  · obtain ⟨v, t, rfl, ht, hsz, ⟨Vs, nd, l64, sub⟩, k1, k2⟩ := h
    refine ⟨_, (pss_one (ps_if (pt_truth (pe_callH h_free_variables (hr.mono (by omega)) (pa_cons (pv 0) pa_nil)) (by intro _; rfl)) (pss_one (ps_raise rfl (takes_of rfl rfl rfl rfl) (pmk_own PySem.F.excBase_ValueError TE.xC TE.gC TE.kC (raises_own TE.bC TE.tC) (by exact rfl)))) pss_nil)), ?_⟩
    refine ⟨v, rfl, v, t, Vs, rfl, ht, hsz, nd, l64, sub, fun ns p H' s1 pw mem hp => ?_⟩
    refine ⟨!(ns.map V.int).isEmpty, .inl ⟨_, SqL.of hp, rfl⟩, ?_⟩
    cases ns with
    | nil =>
      refine iteF ?_
      exact k1 (closed_iff.mp (List.eq_nil_iff_forall_not_mem.mpr fun x hx => by have := (mem x).mpr hx; cases this)) H' s1
    | cons x ns =>
      refine iteT ?_
      refine k2 (fun c => ?_) H' s1
      have := (mem x).mp List.mem_cons_self
      rw [closed_iff.mpr c] at this
      cases this
abbrev nm0 : Int → Int := fun _ => 0
end
end Fw

set_option maxRecDepth 100000
set_option maxHeartbeats 2000000
namespace Fw
open PySem PySem.Spec PyProof.Rows L2
def Draws (H : Hp) (d : Addr) : Prop := ∃ ds : List Int, H d = some (.lst (ds.map V.int))
theorem Draws.lst {H : Hp} {d : Addr} (h : Draws H d) : IsLst H d := by
  obtain ⟨ds, e⟩ := h
  exact ⟨_, e⟩
theorem fmod_in {a b : Int} (h : 0 < b) : 0 ≤ a.fmod b ∧ a.fmod b < b := by
  rw [Int.fmod_eq_emod_of_nonneg a (Int.le_of_lt h)]
  exact ⟨Int.emod_nonneg a (by omega), Int.emod_lt_of_pos a h⟩
theorem nz1 : (1000 : Int) ≠ 0 := by decide
theorem nz2 : (2147483647 : Int) ≠ 0 := by decide
theorem nz3 : (1000003 : Int) ≠ 0 := by decide
theorem sq_small {m : Int} (h0 : 0 ≤ m) (h1 : m < 2147483647) : -(2 ^ 64) < m ∧ m < 2 ^ 64 := ⟨by omega, by omega⟩
theorem isTup {K : PySem.W.Frag} {H : Hp} {a : Addr} {xs : List V} (h : SqT K H a xs) : TyX K H (.ref a) (.type "tuple") := by
  rcases h with h | ⟨o, _, _, e, c, _⟩
  · rcases h with h | ⟨u, h⟩
    · exact .base (.tup h)
    · exact .fTuple h
  · exact .kTuple e c
theorem IsF.ty {K : PySem.W.Frag} {H : Hp} {v : V} {t : F} (h : IsF K H v t) : TyX K H v (.type "tuple") := by
  obtain ⟨a, ks, rfl, sq, _⟩ := h.open
  exact isTup sq
section
variable {P : Program} {w : World} {K : PySem.W.Frag} {mg : Str → Option Value} {base : Heap} {C J B NC FE : Addr}
/-! ### the law's draws -/
def spDraws (K : PySem.W.Frag) : Sp := fun vs H Q _ => ∃ (a : Addr) (ns : List Int) (c : Int), vs = [.ref a, .int c] ∧ SqL K H a (ns.map V.int) ∧ ns.length ≤ 63 ∧ 0 ≤ c ∧ c ≤ 1000 ∧
  ∀ d H', Same H H' → H d = none → Draws H' d → Q (.ref d) H'
theorem ok_law_draws {f : Addr} {fd : FuncData} (FF : Fun K "_law_draws" "_law_draws" s_law_draws f fd) (T : Txt K mg C J B) : FnOk P w K mg base CX0 1 f fd a_law_draws (spDraws K) := by
  refine FF.ok sc_law_draws (fun vs H Q E h => ?_) (fun cdv A outer s H vs Q E hr h => ?_)
  · obtain ⟨a, ns, c, rfl, _⟩ := h
    rfl
  · obtain ⟨a, ns, c, rfl, hS, hlen, c0, c1, k⟩ := h
    refine ⟨_, (pss_cons (ps_set (i := 2) sc_law_draws.nd rfl (.inl rfl) (pe_callTy call_list_of rfl T.z_list (by decide +kernel) (pa_cons (pv 0) pa_nil)))
      (pss_cons (ps_if (pt_cmpR op_eq (pe_callB call_len_seq rfl T.z_len (by decide +kernel) (pa_cons (pv 2) pa_nil)) pe_int (nomark _)) (pss_one (ps_set (i := 2) sc_law_draws.nd rfl (.inl rfl) (pe_lst (pa_cons pe_int pa_nil)))) pss_nil)
      (pss_cons (ps_set (i := 3) sc_law_draws.nd rfl (.inl rfl) (pe_lst pa_nil))
      (pss_cons (ps_set (i := 4) sc_law_draws.nd rfl (.inl rfl) pe_int)
      (pss_cons (ps_for PassesOwn.never rfl (pi_range1 rfl T.z_range (pa_cons (pv 1) pa_nil)) (pg_name (i := 5) sc_law_draws.nd rfl (.inl rfl)) (pss_cons (ps_set (i := 6) sc_law_draws.nd rfl (.inl rfl) (pe_op op_modN (pv 5) (pe_callB call_len_seq rfl T.z_len (by decide +kernel) (pa_cons (pv 2) pa_nil))))
      (pss_cons (ps_set (i := 7) sc_law_draws.nd rfl (.inl rfl) (pe_ix ix_list (pv 2) (pv 6) (fun _ _ => rfl)))
      (pss_cons (ps_set (i := 4) sc_law_draws.nd rfl (.inl rfl) (pe_op op_modN (pe_callTy call_int1 rfl T.z_int (by decide +kernel) (pa_cons (pe_op op_add (pe_op op_add (pe_op op_add (pe_op op_mul (pv 4) pe_int) (pe_op op_mul (pe_op op_modN (pe_callTy call_int1 rfl T.z_int (by decide +kernel) (pa_cons (pv 7) pa_nil)) pe_int) pe_int)) (pe_op op_mul (pv 5) pe_int)) pe_int) pa_nil)) pe_int))
      (pss_cons (ps_set (i := 8) sc_law_draws.nd rfl (.inl rfl) (pe_op op_modN (pe_callTy call_int1 rfl T.z_int (by decide +kernel) (pa_cons (pe_op op_add (pe_op op_add (pe_op op_mul (pv 4) (pv 4)) (pe_op op_mul pe_int (pv 4))) (pv 5)) pa_nil)) pe_int))
      (pss_one (ps_if (pt_cmpR op_ge (pv 7) (pe_op op_pow pe_int pe_int) (nomark _)) (pss_cons (ps_expr (pe_bm PySem.F.plainAttrs_list PySem.F.slot_list_append PySem.F.type_list_append mt_append (pv 3) (pa_cons (pe_op op_modN (pe_callTy call_int1 rfl T.z_int (by decide +kernel) (pa_cons (pv 7) pa_nil)) pe_int) pa_nil)))
      (pss_one (ps_asg (pe_op op_fdivN (pv 7) pe_int) (pg_sub (pv 2) (pv 6) set_list)))) (pss_one (ps_expr (pe_bm PySem.F.plainAttrs_list PySem.F.slot_list_append PySem.F.type_list_append mt_append (pv 3) (pa_cons (pe_op op_modN (pe_callTy call_int1 rfl T.z_int (by decide +kernel) (pa_cons (pv 8) pa_nil)) pe_int) pa_nil)))))))))))
      (pss_cons (ps_expr (pe_bm0 PySem.F.plainAttrs_list PySem.F.slot_list_reverse PySem.F.type_list_reverse mt_reverse (pv 3)))
      (pss_one (ps_ret (pv 3))))))))), ?_⟩
    refine ⟨.ref a, rfl, a, _, rfl, .inl hS, fun ca hca => ?_⟩
    have s1 := Same.new (o := .lst (ns.map V.int)) hca
    refine ⟨.ref ca, rfl, ca, _, rfl, .inl (SqL.of upd_same), rfl, _, rfl, ?_⟩
    have fresh : H ca = none := hca
    have goal : ∀ (cb : Addr) (cs : List Int) (G0 : Hp), Same H G0 → H cb = none → G0 cb = some (.lst (cs.map V.int)) → cs ≠ [] → cs.length ≤ 63 → True := fun _ _ _ _ _ _ _ _ => trivial
    refine ite2 (fun c => ?_) (fun c => ?_)
    · refine ⟨by show 1 ≤ sizeLine; decide, fun cb hcb => ?_⟩
      have s2 := Same.new (o := .lst [V.int 7]) hcb
      have sG0 := s1.trans s2
      have hcb0 := s1.free hcb
      have gcb : (upd (upd H ca (.lst (ns.map V.int))) cb (.lst [V.int 7])) cb = some (.lst (([7] : List Int).map V.int)) := upd_same
      generalize upd (upd H ca (.lst (ns.map V.int))) cb (.lst [V.int 7]) = G0 at sG0 gcb
      have hne : ([7] : List Int) ≠ [] := by simp
      have hl63 : ([7] : List Int).length ≤ 63 := by decide
      generalize ([7] : List Int) = cs at gcb hne hl63
      clear s2 s1 hca fresh hcb c goal hlen hS
      refine ⟨Nat.zero_le _, fun fa hfa => ?_⟩
      have s3 := Same.new (o := .lst []) hfa
      have hfa0 := sG0.free hfa
      have fcb : fa ≠ cb := fun e => by rw [e, gcb] at hfa; cases hfa
      refine ⟨.int c, rfl, c, rfl, by omega, by omega, ?_⟩
      refine for_range (lo := 0) (n := c.toNat) (fun i σ G => ∃ (cs' ds : List Int) (m : Int) (y5 y6 y7 y8 : Option V), σ = [some (.ref a), some (.int c), some (.ref cb), some (.ref fa), some (.int m), y5, y6, y7, y8] ∧ Same H G ∧
          G cb = some (.lst (cs'.map V.int)) ∧ cs'.length = cs.length ∧ G fa = some (.lst (ds.map V.int)) ∧ ds.length = i ∧ 0 ≤ m ∧ m < 2147483647)
        ⟨cs, [], 12345, none, none, none, none, rfl, sG0.trans s3, s3 _ _ gcb, rfl, upd_same, rfl, by decide, by decide⟩ ?_ ?_
      · rintro i σ G hi ⟨cs', ds, m, y5, y6, y7, y8, rfl, sG, gc, lc, gf, ld, m0, m1⟩
        have hic : (i : Int) < c := by omega
        rw [Int.zero_add]
        have lpos : 0 < cs'.length := by rw [lc]; exact List.length_pos_iff.mpr hne
        have lmap : ((cs'.map V.int).length : Int) = (cs'.length : Int) := by rw [List.length_map]
        -- j = k % len(cells)
        refine ⟨.int (i : Nat), rfl, .ref cb, rfl, cb, _, rfl, .inl (SqL.of gc), _, _, rfl, rfl, by rw [lmap]; omega, ?_⟩
        rw [lmap]
        have hj := fmod_in (a := (i : Int)) (b := (cs'.length : Int)) (by omega)
        obtain ⟨j, hJ⟩ : ∃ j : Nat, (i : Int).fmod (cs'.length : Int) = (j : Int) := ⟨((i : Int).fmod (cs'.length : Int)).toNat, by omega⟩
        rw [hJ] at hj
        have hjl : j < cs'.length := by omega
        obtain ⟨x, hx⟩ : ∃ x, cs'[j]? = some x := ⟨cs'[j], by simp [hjl]⟩
        -- cell = cells[j]
        refine ⟨.ref cb, rfl, _, rfl, cb, _, _, .int x, rfl, rfl, SqL.of gc, by rw [hJ]; exact atI_nat (j := j) (by rw [List.getElem?_map, hx]; rfl), ?_⟩
        -- mixed
        have x3 := fmod_in (a := x) (b := 1000003) (by decide)
        refine ⟨.int m, rfl, m, 48271, rfl, rfl, .inl (sq_small m0 m1), .int x, rfl, .inl ⟨x, rfl, x, 1000003, rfl, rfl, nz3, x.fmod 1000003, 69621, rfl, rfl, .inl ⟨by omega, by omega⟩, _, _, rfl, rfl, .int (i : Nat), rfl, (i : Int), 7919, rfl, rfl, .inl ⟨by omega, by omega⟩, _, _, rfl, rfl, _, 11, rfl, rfl, .inl ⟨_, rfl, _, 2147483647, rfl, rfl, nz2, ?_⟩⟩⟩
        have mm := fmod_in (a := m * 48271 + x.fmod 1000003 * 69621 + (i : Int) * 7919 + 11) (b := 2147483647) (by decide)
        -- again
        refine ⟨_, rfl, _, rfl, _, _, rfl, rfl, .inl (sq_small mm.1 mm.2), _, rfl, 31, _, rfl, rfl, .inl ⟨by decide, by decide⟩, _, _, rfl, rfl, _, rfl, _, _, rfl, rfl, .inl ⟨_, rfl, _, 1000003, rfl, rfl, nz3, ?_⟩⟩
        -- if cell >= 10 ** 18
        refine ⟨.int x, rfl, 10, 18, rfl, rfl, ⟨by decide, by decide, by decide⟩, _, _, rfl, rfl, _, rfl, ite2 (fun _ => ?_) (fun _ => ?_)⟩
        · refine ⟨.ref fa, rfl, .inl ⟨rfl, _, SqL.of gf⟩, .int x, rfl, .inl ⟨x, rfl, x, 1000, rfl, rfl, nz1, fa, _, _, rfl, rfl, gf, by rw [List.length_map]; exact small1000 (by omega), ?_⟩⟩
          have gc2 : (upd G fa (.lst (ds.map V.int ++ [V.int (x.fmod 1000)]))) cb = some (.lst (cs'.map V.int)) := by rw [upd_ne fcb.symm]; exact gc
          refine ⟨.int x, rfl, x, 1000, rfl, rfl, ⟨by decide, by decide⟩, .ref cb, rfl, _, rfl, cb, _, _, j, rfl, rfl, gc2, by rw [hJ]; unfold ixN; rw [if_pos (by omega), if_pos (by rw [List.length_map]; omega), Int.toNat_natCast], ?_⟩
          refine ⟨cs'.set j (x.fdiv 1000), ds ++ [x.fmod 1000], _, _, _, _, _, rfl, fun b o e => ?_, ?_, by rw [List.length_set]; exact lc, ?_, by rw [List.length_append, ld]; rfl, mm.1, mm.2⟩
          · rw [upd_ne (ne_of_none e hcb0), upd_ne (ne_of_none e hfa0)]
            exact sG b o e
          · rw [upd_same, List.map_set]
          · rw [upd_ne fcb, upd_same, List.map_append]
            rfl
        · refine ⟨.ref fa, rfl, .inl ⟨rfl, _, SqL.of gf⟩, _, rfl, .inl ⟨_, rfl, _, 1000, rfl, rfl, nz1, fa, _, _, rfl, rfl, gf, by rw [List.length_map]; exact small1000 (by omega), ?_⟩⟩
          obtain ⟨ag, hag⟩ : ∃ ag : Int, ag = (((m * 48271 + x.fmod 1000003 * 69621 + (i : Int) * 7919 + 11).fmod 2147483647 * (m * 48271 + x.fmod 1000003 * 69621 + (i : Int) * 7919 + 11).fmod 2147483647 + 31 * (m * 48271 + x.fmod 1000003 * 69621 + (i : Int) * 7919 + 11).fmod 2147483647 + (i : Int)).fmod 1000003).fmod 1000 := ⟨_, rfl⟩
          refine ⟨cs', ds ++ [ag], _, _, _, _, _, rfl, fun b o e => ?_, ?_, lc, ?_, by rw [List.length_append, ld]; rfl, mm.1, mm.2⟩
          · rw [upd_ne (ne_of_none e hfa0)]
            exact sG b o e
          · rw [upd_ne fcb.symm]
            exact gc
          · rw [upd_same, List.map_append, hag]
            rfl
      · rintro σ G ⟨cs', ds, m, y5, y6, y7, y8, rfl, sG, gc, lc, gf, ld, m0, m1⟩
        refine ⟨.ref fa, rfl, .inl ⟨rfl, _, SqL.of gf⟩, fa, _, rfl, rfl, gf, .ref fa, rfl, ?_⟩
        refine k fa _ (fun b o e => ?_) hfa0 ⟨ds.reverse, by rw [upd_same, List.map_reverse]⟩
        rw [upd_ne (ne_of_none e hfa0)]
        exact sG b o e
    · have hne : ns ≠ [] := fun e => c (decide_eq_true (by rw [e]; rfl))
      have sG0 := s1
      have hcb0 := fresh
      have gcb : (upd H ca (.lst (ns.map V.int))) ca = some (.lst (ns.map V.int)) := upd_same
      generalize upd H ca (.lst (ns.map V.int)) = G0 at sG0 gcb
      have hl63 := hlen
      clear s1 hca fresh c goal hlen hS
      obtain ⟨cb, ecb⟩ : ∃ cb : Addr, cb = ca := ⟨_, rfl⟩
      obtain ⟨cs, ecs⟩ : ∃ cs : List Int, cs = ns := ⟨_, rfl⟩
      subst ecb
      subst ecs
      refine ⟨Nat.zero_le _, fun fa hfa => ?_⟩
      have s3 := Same.new (o := .lst []) hfa
      have hfa0 := sG0.free hfa
      have fcb : fa ≠ cb := fun e => by rw [e, gcb] at hfa; cases hfa
      refine ⟨.int c, rfl, c, rfl, by omega, by omega, ?_⟩
      refine for_range (lo := 0) (n := c.toNat) (fun i σ G => ∃ (cs' ds : List Int) (m : Int) (y5 y6 y7 y8 : Option V), σ = [some (.ref a), some (.int c), some (.ref cb), some (.ref fa), some (.int m), y5, y6, y7, y8] ∧ Same H G ∧
          G cb = some (.lst (cs'.map V.int)) ∧ cs'.length = cs.length ∧ G fa = some (.lst (ds.map V.int)) ∧ ds.length = i ∧ 0 ≤ m ∧ m < 2147483647)
        ⟨cs, [], 12345, none, none, none, none, rfl, sG0.trans s3, s3 _ _ gcb, rfl, upd_same, rfl, by decide, by decide⟩ ?_ ?_
      · rintro i σ G hi ⟨cs', ds, m, y5, y6, y7, y8, rfl, sG, gc, lc, gf, ld, m0, m1⟩
        have hic : (i : Int) < c := by omega
        rw [Int.zero_add]
        have lpos : 0 < cs'.length := by rw [lc]; exact List.length_pos_iff.mpr hne
        have lmap : ((cs'.map V.int).length : Int) = (cs'.length : Int) := by rw [List.length_map]
        -- j = k % len(cells)
        refine ⟨.int (i : Nat), rfl, .ref cb, rfl, cb, _, rfl, .inl (SqL.of gc), _, _, rfl, rfl, by rw [lmap]; omega, ?_⟩
        rw [lmap]
        have hj := fmod_in (a := (i : Int)) (b := (cs'.length : Int)) (by omega)
        obtain ⟨j, hJ⟩ : ∃ j : Nat, (i : Int).fmod (cs'.length : Int) = (j : Int) := ⟨((i : Int).fmod (cs'.length : Int)).toNat, by omega⟩
        rw [hJ] at hj
        have hjl : j < cs'.length := by omega
        obtain ⟨x, hx⟩ : ∃ x, cs'[j]? = some x := ⟨cs'[j], by simp [hjl]⟩
        -- cell = cells[j]
        refine ⟨.ref cb, rfl, _, rfl, cb, _, _, .int x, rfl, rfl, SqL.of gc, by rw [hJ]; exact atI_nat (j := j) (by rw [List.getElem?_map, hx]; rfl), ?_⟩
        -- mixed
        have x3 := fmod_in (a := x) (b := 1000003) (by decide)
        refine ⟨.int m, rfl, m, 48271, rfl, rfl, .inl (sq_small m0 m1), .int x, rfl, .inl ⟨x, rfl, x, 1000003, rfl, rfl, nz3, x.fmod 1000003, 69621, rfl, rfl, .inl ⟨by omega, by omega⟩, _, _, rfl, rfl, .int (i : Nat), rfl, (i : Int), 7919, rfl, rfl, .inl ⟨by omega, by omega⟩, _, _, rfl, rfl, _, 11, rfl, rfl, .inl ⟨_, rfl, _, 2147483647, rfl, rfl, nz2, ?_⟩⟩⟩
        have mm := fmod_in (a := m * 48271 + x.fmod 1000003 * 69621 + (i : Int) * 7919 + 11) (b := 2147483647) (by decide)
        -- again
        refine ⟨_, rfl, _, rfl, _, _, rfl, rfl, .inl (sq_small mm.1 mm.2), _, rfl, 31, _, rfl, rfl, .inl ⟨by decide, by decide⟩, _, _, rfl, rfl, _, rfl, _, _, rfl, rfl, .inl ⟨_, rfl, _, 1000003, rfl, rfl, nz3, ?_⟩⟩
        -- if cell >= 10 ** 18
        refine ⟨.int x, rfl, 10, 18, rfl, rfl, ⟨by decide, by decide, by decide⟩, _, _, rfl, rfl, _, rfl, ite2 (fun _ => ?_) (fun _ => ?_)⟩
        · refine ⟨.ref fa, rfl, .inl ⟨rfl, _, SqL.of gf⟩, .int x, rfl, .inl ⟨x, rfl, x, 1000, rfl, rfl, nz1, fa, _, _, rfl, rfl, gf, by rw [List.length_map]; exact small1000 (by omega), ?_⟩⟩
          have gc2 : (upd G fa (.lst (ds.map V.int ++ [V.int (x.fmod 1000)]))) cb = some (.lst (cs'.map V.int)) := by rw [upd_ne fcb.symm]; exact gc
          refine ⟨.int x, rfl, x, 1000, rfl, rfl, ⟨by decide, by decide⟩, .ref cb, rfl, _, rfl, cb, _, _, j, rfl, rfl, gc2, by rw [hJ]; unfold ixN; rw [if_pos (by omega), if_pos (by rw [List.length_map]; omega), Int.toNat_natCast], ?_⟩
          refine ⟨cs'.set j (x.fdiv 1000), ds ++ [x.fmod 1000], _, _, _, _, _, rfl, fun b o e => ?_, ?_, by rw [List.length_set]; exact lc, ?_, by rw [List.length_append, ld]; rfl, mm.1, mm.2⟩
          · rw [upd_ne (ne_of_none e hcb0), upd_ne (ne_of_none e hfa0)]
            exact sG b o e
          · rw [upd_same, List.map_set]
          · rw [upd_ne fcb, upd_same, List.map_append]
            rfl
        · refine ⟨.ref fa, rfl, .inl ⟨rfl, _, SqL.of gf⟩, _, rfl, .inl ⟨_, rfl, _, 1000, rfl, rfl, nz1, fa, _, _, rfl, rfl, gf, by rw [List.length_map]; exact small1000 (by omega), ?_⟩⟩
          obtain ⟨ag, hag⟩ : ∃ ag : Int, ag = (((m * 48271 + x.fmod 1000003 * 69621 + (i : Int) * 7919 + 11).fmod 2147483647 * (m * 48271 + x.fmod 1000003 * 69621 + (i : Int) * 7919 + 11).fmod 2147483647 + 31 * (m * 48271 + x.fmod 1000003 * 69621 + (i : Int) * 7919 + 11).fmod 2147483647 + (i : Int)).fmod 1000003).fmod 1000 := ⟨_, rfl⟩
          refine ⟨cs', ds ++ [ag], _, _, _, _, _, rfl, fun b o e => ?_, ?_, lc, ?_, by rw [List.length_append, ld]; rfl, mm.1, mm.2⟩
          · rw [upd_ne (ne_of_none e hfa0)]
            exact sG b o e
          · rw [upd_ne fcb.symm]
            exact gc
          · rw [upd_same, List.map_append, hag]
            rfl
      · rintro σ G ⟨cs', ds, m, y5, y6, y7, y8, rfl, sG, gc, lc, gf, ld, m0, m1⟩
        refine ⟨.ref fa, rfl, .inl ⟨rfl, _, SqL.of gf⟩, fa, _, rfl, rfl, gf, .ref fa, rfl, ?_⟩
        refine k fa _ (fun b o e => ?_) hfa0 ⟨ds.reverse, by rw [upd_same, List.map_reverse]⟩
        rw [upd_ne (ne_of_none e hfa0)]
        exact sG b o e
/-! ### one draw -/
def spTake : Sp := fun vs H Q _ => ∃ (d : Addr) (lim : Int), vs = [.ref d, .int lim] ∧ Draws H d ∧ 0 < lim ∧ ∀ v H', 0 ≤ v → v < lim → But d H H' → Draws H' d → Q (.int v) H'
theorem ok_law_take {f : Addr} {fd : FuncData} (FF : Fun K "_law_take" "_law_take" s_law_take f fd) (T : Txt K mg C J B) : FnOk P w K mg base CX0 1 f fd a_law_take spTake := by
  refine FF.ok sc_law_take (fun vs H Q E h => ?_) (fun cdv A outer s H vs Q E hr h => ?_)
  · obtain ⟨d, lim, rfl, _⟩ := h
    rfl
  · obtain ⟨d, lim, rfl, ⟨ds, hd⟩, hl, k⟩ := h
    refine ⟨_, (pss_cons (ps_if (pt_cmpR op_eq (pe_callB call_len_seq rfl T.z_len (by decide +kernel) (pa_cons (pv 0) pa_nil)) pe_int (nomark _)) (pss_one (ps_ret pe_int)) pss_nil)
      (pss_one (ps_ret (pe_op op_modN (pe_callTy call_int1 rfl T.z_int (by decide +kernel) (pa_cons (pe_bm0 PySem.F.plainAttrs_list PySem.F.slot_list_pop PySem.F.type_list_pop mt_pop (pv 0)) pa_nil)) (pv 1))))), ?_⟩
    refine ⟨.ref d, rfl, d, _, rfl, .inl (SqL.of hd), rfl, _, rfl, ite2 (fun c => ?_) (fun c => ?_)⟩
    · exact k 0 H (Int.le_refl 0) hl (But.refl _ _) ⟨ds, hd⟩
    · have ne : ds ≠ [] := fun e => c (decide_eq_true (by rw [e]; rfl))
      obtain ⟨l, x, rfl⟩ : ∃ l x, ds = l ++ [x] := ⟨ds.dropLast, ds.getLast ne, (List.dropLast_concat_getLast ne).symm⟩
      refine ⟨.ref d, rfl, .inl ⟨rfl, _, SqL.of hd⟩, d, _, .int x, rfl, rfl, hd, by simp, .inl ⟨x, rfl, ?_⟩⟩
      have := fmod_in (a := x) hl
      refine ⟨.int lim, rfl, x, lim, rfl, rfl, by omega, ?_⟩
      refine k _ _ this.1 this.2 (fun b o nb e => by rw [upd_ne nb]; exact e) ⟨l, ?_⟩
      rw [upd_same]
      simp
/-! ### the statements in one -/
def spInner (K : PySem.W.Frag) : Sp := fun vs H Q _ => ∃ (v : V) (t : F), vs = [v] ∧ IsF K H v t ∧ ∀ l ks H', Same H H' → H' l = some (.lst ks) → AllF K H' ks t.kids → Q (.ref l) H'
theorem cut_one (xs : List V) : cutV xs (some 1) none = xs.drop 1 := by
  unfold cutV
  rw [show HT.sIx xs.length 0 (some 1) = min 1 xs.length from HT.sIx_nat _ _ 1, HT.sIx_none]
  rcases Nat.le_total 1 xs.length with h | h
  · rw [Nat.min_eq_left h, List.take_of_length_le (by rw [List.length_drop]; exact Nat.le_refl _)]
  · rw [Nat.min_eq_right h, List.drop_length, List.drop_eq_nil_of_le h]
    simp
theorem ok_law_inner {f : Addr} {fd : FuncData} (FF : Fun K "_law_inner" "_law_inner" s_law_inner f fd) (T : Txt K mg C J B) : FnOk P w K mg base CX0 1 f fd a_law_inner (spInner K) := by
  refine FF.ok sc_law_inner (fun vs H Q E h => ?_) (fun cdv A outer s H vs Q E hr h => ?_)
  · obtain ⟨v, t, rfl, _⟩ := h
    rfl
  · obtain ⟨v, t, rfl, ht, k⟩ := h
    obtain ⟨a, ks, rfl, sq, ak⟩ := ht.open
    refine ⟨_, (pss_one (ps_ret (pe_lc (own := [("part", 1)]) (g := gName 1) rfl sc_law_inner.nd (pi_tup (pe_slice sl_tupA (pv 0) (po_some pe_int) po_none)) (blkOk_by (own := [("part", 1)]) (N := n_law_inner) (sc := defScope s_law_inner) (by decide +kernel)) (fun _ _ _ _ _ => (pg_name (i := 1) sc_law_inner.nd rfl (.inl rfl))) (fun _ _ _ _ _ => (pts_one (pt_val (pe_callB (@id (CallR _ _ (rIsi K)) call_isi) rfl T.z_isinstance (by decide +kernel) (pa_cons (pv 1) (pa_cons (pe_bltn (v := .ty "tuple") (u := .type "tuple") rfl T.z_tuple (by decide +kernel) rfl) pa_nil)))))) (fun _ _ _ _ _ => (pv 1))))), ?_⟩
    have hl := hv_len t.hd
    refine ⟨.ref a, rfl, 1, rfl, a, _, rfl, sq, fun whole => ?_, fun _ z hz => ?_⟩
    · exfalso
      rw [show HT.sIx (hv t.hd ++ ks).length 0 (some 1) = min 1 (hv t.hd ++ ks).length from HT.sIx_nat _ _ 1, List.length_append] at whole
      omega
    rw [cut_one]
    have s1 := Same.new (o := .tup ((hv t.hd ++ ks).drop 1)) hz
    have zT : SqT K (upd H z (.tup ((hv t.hd ++ ks).drop 1))) z ((hv t.hd ++ ks).drop 1) := SqT.of upd_same
    generalize upd H z (.tup ((hv t.hd ++ ks).drop 1)) = H1 at s1 zT
    have ak1 := ak.lk (LKp.same s1)
    -- the numbers ahead of the statements
    obtain ⟨ns, hns, nsi⟩ : ∃ ns : List V, (hv t.hd ++ ks).drop 1 = ns ++ ks ∧ ∀ x ∈ ns, ∃ n, x = V.int n := by
      cases t with
      | nul b => exact ⟨[], rfl, by simp⟩
      | leaf k n => exact ⟨[.int n], rfl, by simp⟩
      | two b f g => exact ⟨[], rfl, by simp⟩
      | one k n f => exact ⟨[.int n], rfl, by simp⟩
    rw [hns] at zT
    refine ⟨z, rfl, ⟨_, zT⟩, fun D hD => ?_⟩
    refine lc_tup (xs := ns ++ ks) (fun i G => Same H1 G ∧ G D = some (.lst ((ns ++ ks).take i |>.drop ns.length))) ⟨Same.new hD, by rw [upd_same]; simp⟩ (fun i G _ q => SqT.same q.1 zT) ?_ ?_
    · rintro i x G hx ⟨sG, gD⟩
      have nd : ∀ b o, H1 b = some o → b ≠ D := fun b o e => ne_of_none e hD
      have e1 : (ns ++ ks).take (i + 1) = (ns ++ ks).take i ++ [x] := by
        rw [List.take_add_one, hx]
        rfl
      have il := (List.getElem?_eq_some_iff.mp hx).1
      rw [List.length_append] at il
      by_cases lt : i < ns.length
      · obtain ⟨n, rfl⟩ := nsi x (by rw [List.getElem?_append_left lt] at hx; exact List.mem_of_getElem? hx)
        refine ⟨rfl, .int n, rfl, .int n, .ty "tuple", .type "int", .type "tuple", false, rfl, ?_, .base (.int n), kit_ty (by decide +kernel), false, rfl, ?_⟩
        · exact .ty "tuple"
        · refine ⟨sG, ?_⟩
          rw [gD, e1, List.drop_append, List.drop_eq_nil_of_le (by rw [List.length_take]; omega), List.length_take, List.nil_append, List.drop_eq_nil_of_le (by simp; omega)]
      · obtain ⟨f, hf⟩ : ∃ f, t.kids[i - ns.length]? = some f := ⟨t.kids[i - ns.length]'(by rw [← ak.len]; omega), by simp⟩
        have ty := (ak1.get (by rw [List.getElem?_append_right (by omega)] at hx; exact hx) hf).lk (LKp.same sG) |>.ty
        refine ⟨rfl, x, rfl, x, .ty "tuple", .type "tuple", .type "tuple", true, rfl, .ty "tuple", ty, kit_ty (by decide +kernel), true, rfl, ?_⟩
        refine ⟨x, rfl, _, gD, ?_, ?_⟩
        · have := F.kids_le t
          have := ak.len
          rw [List.length_drop, List.length_take, List.length_append]
          exact small1000 (by omega)
        · refine ⟨fun b o e => by rw [upd_ne (nd b o e)]; exact sG b o e, ?_⟩
          rw [upd_same, e1, List.drop_append, List.length_take, List.length_append]
          congr 2
          rw [show ns.length - min i (ns.length + ks.length) = 0 by omega]
          rfl
    · rintro G ⟨sG, gD⟩
      refine k D ks G (s1.trans sG) ?_ (ak1.lk (LKp.same sG))
      rw [gD, List.take_of_length_le (Nat.le_refl _), List.drop_left]
end
end Fw

set_option maxRecDepth 100000
set_option maxHeartbeats 2000000
namespace Fw
open PySem PySem.Spec PyProof.Rows L2
theorem iteF_out {A B : Prop} (h : if false = true then A else B) : B := by
  rw [if_neg Bool.false_ne_true] at h
  exact h
theorem iteT_out {A B : Prop} (h : if true = true then A else B) : A := by
  rw [if_pos rfl] at h
  exact h
theorem Draws.but {d : Addr} {H H' : Hp} (s : ∀ o, H d = some o → H' d = some o) (h : Draws H d) : Draws H' d := by
  obtain ⟨ds, e⟩ := h
  exact ⟨ds, s _ e⟩
theorem Draws.same {d : Addr} {H H' : Hp} (s : Same H H') (h : Draws H d) : Draws H' d := h.but fun o e => s d o e
theorem SqL.but {K : PySem.W.Frag} {H H' : Hp} {a d : Addr} {xs : List V} (n : a ≠ d) (s : But d H H') (h : SqL K H a xs) : SqL K H' a xs := SqL.keepAt (fun o e => s a o n e) h
theorem two_at {α : Type} {x y : α} {v : Int} (h0 : 0 ≤ v) (h2 : v < 2) : ∃ b : Bool, atI [x, y] v = some (if b = true then x else y) := by
  have : v = 0 ∨ v = 1 := by omega
  rcases this with rfl | rfl
  · exact ⟨true, rfl⟩
  · exact ⟨false, rfl⟩
section
variable {P : Program} {w : World} {K : PySem.W.Frag} {mg : Str → Option Value} {base : Heap} {C J B NC FE : Addr}
def spAtom (K : PySem.W.Frag) : Sp := fun vs H Q _ => ∃ (d ra : Addr) (R : List Int), vs = [.ref d, .ref ra] ∧ Draws H d ∧ SqL K H ra (R.map V.int) ∧ ra ≠ d ∧ R.length ≤ 100 ∧ (∀ x ∈ R, x ∈ V4) ∧
  ∀ v t H', But d H H' → Draws H' d → IsF K H' v t → Gen 0 [] R t → Q v H'
theorem ok_law_atom {f : Addr} {fd : FuncData} (FF : Fun K "_law_atom" "_law_atom" s_law_atom f fd) (T : Txt K mg C J B) (h_law_take : Has P w K mg base "_law_take" 1 a_law_take spTake) : FnOk P w K mg base CX0 2 f fd a_law_atom (spAtom K) := by
  refine FF.ok sc_law_atom (fun vs H Q E h => ?_) (fun cdv A outer s H vs Q E hr h => ?_)
  · obtain ⟨d, ra, R, rfl, _⟩ := h
    rfl
  · obtain ⟨d, ra, R, rfl, hd, hR, nrd, hlen, hV, k⟩ := h
    refine ⟨_, (pss_cons (ps_set (i := 2) sc_law_atom.nd rfl (.inl rfl) (pe_callH h_law_take (hr.mono (by omega)) (pa_cons (pv 0) (pa_cons pe_int pa_nil))))
      (pss_cons (ps_if (PW.pt (pw_and (pt_cmpR op_gt (pe_callB call_len_seq rfl T.z_len (by decide +kernel) (pa_cons (pv 1) pa_nil)) pe_int (nomark _)) (pw_and1 (pt_cmpR op_lt (pv 2) pe_int (nomark _))))) (pss_one (ps_ret (pe_tup (pa_cons pe_str (pa_cons (pe_ix ix_list (pv 1) (pe_callH h_law_take (hr.mono (by omega)) (pa_cons (pv 0) (pa_cons (pe_callB call_len_seq rfl T.z_len (by decide +kernel) (pa_cons (pv 1) pa_nil)) pa_nil))) (fun _ _ => rfl)) pa_nil))))) pss_nil)
      (pss_cons (ps_if (pt_cmpR op_eq (pv 2) pe_int (nomark _)) (pss_one (ps_ret (pe_ix ix_list (pe_lst (pa_cons (pe_tup (pa_cons pe_str pa_nil)) (pa_cons (pe_tup (pa_cons pe_str pa_nil)) pa_nil))) (pe_callH h_law_take (hr.mono (by omega)) (pa_cons (pv 0) (pa_cons pe_int pa_nil))) (fun _ _ => rfl)))) pss_nil)
      (pss_one (ps_ret (pe_tup (pa_cons (pe_ix ix_list (pe_lst (pa_cons pe_str (pa_cons pe_str pa_nil))) (pe_callH h_law_take (hr.mono (by omega)) (pa_cons (pv 0) (pa_cons pe_int pa_nil))) (fun _ _ => rfl)) (pa_cons (pe_callH h_law_take (hr.mono (by omega)) (pa_cons (pv 0) (pa_cons pe_int pa_nil))) pa_nil)))))))), ?_⟩
    refine ⟨.ref d, rfl, d, 8, rfl, hd, by decide, fun v1 H1 v10 v18 b1 d1 => ?_⟩
    have hR1 := SqL.but nrd b1 hR
    refine ⟨.ref ra, rfl, ra, _, rfl, .inl hR1, _, _, rfl, rfl, _, rfl, ?_⟩
    rw [List.length_map]
    have nR : ∀ b o, H1 b = some o → ∀ q, H1 q = none → b ≠ q := fun b o e q hq => ne_of_none e hq
    refine ite2 (fun c => ?_) (fun c => ?_)
    · refine ⟨.int v1, rfl, _, _, rfl, rfl, _, rfl, ite2 (fun c2 => ?_) (fun c2 => ?_)⟩
      · -- a variable
        have pos : 0 < (R.length : Int) := of_decide_eq_true c
        refine ⟨.ref ra, rfl, .ref d, rfl, .ref ra, rfl, ra, _, rfl, .inl hR1, d, (R.length : Nat), by rw [List.length_map]; rfl, d1, pos, fun v2 H2 v20 v2r b2 d2 => ?_⟩
        have hR2 := SqL.but nrd b2 hR1
        obtain ⟨m, rfl⟩ : ∃ m : Nat, v2 = (m : Int) := ⟨v2.toNat, by omega⟩
        obtain ⟨x, hx⟩ : ∃ x, R[m]? = some x := ⟨R[m]'(by omega), by simp⟩
        refine ⟨ra, _, _, .int x, rfl, rfl, hR2, atI_nat (j := m) (by rw [List.getElem?_map, hx]; rfl), by show 2 ≤ sizeLine; decide, fun p hp => ?_⟩
        have s3 := Same.new (o := .tup [.str "var", .int x]) hp
        have xm := List.mem_of_getElem? hx
        exact k _ (.leaf .var x) _ ((b1.trans b2).trans (Same.but s3)) (d2.same s3) (.leaf (SqT.of upd_same)) ⟨Nat.le_refl 1, hV x xm, fun y hy => .inr (by rw [List.mem_singleton.mp hy]; exact xm)⟩
      · skip
        refine ⟨.int v1, rfl, rfl, _, rfl, ite2 (fun c3 => ?_) (fun c3 => ?_)⟩
        · refine ⟨by show 1 ≤ sizeLine; decide, fun p hp => ⟨by show 1 ≤ sizeLine; decide, fun q hq => ⟨by show 2 ≤ sizeLine; decide, fun l hl => ?_⟩⟩⟩
          have s2 := Same.new (o := .tup [.str "true"]) hp
          have s3 := Same.new (o := .tup [.str "false"]) hq
          have s4 := Same.new (o := .lst [.ref p, .ref q]) hl
          have p4 := s4 _ _ (s3 _ _ (upd_same (H := H1) (a := p) (o := .tup [.str "true"])))
          have q4 := s4 _ _ (upd_same (H := upd H1 p (.tup [.str "true"])) (a := q) (o := .tup [.str "false"]))
          have l4 := upd_same (H := upd (upd H1 p (.tup [.str "true"])) q (.tup [.str "false"])) (a := l) (o := .lst [.ref p, .ref q])
          have s14 := s2.trans (s3.trans s4)
          have ld : l ≠ d := fun e => by
            obtain ⟨ds, e2⟩ := d1
            have := (s2.trans s3) _ _ e2
            rw [← e, hl] at this
            cases this
          refine ⟨.ref d, rfl, d, 2, rfl, d1.same s14, by decide, fun v2 H2 v20 v22 b2 d2 => ?_⟩
          obtain ⟨b, hb⟩ := two_at (x := V.ref p) (y := V.ref q) v20 v22
          have l5 := b2 _ _ ld l4
          have keepT : ∀ (a : Addr) (xs : List V), SqT K _ a xs → SqT K H2 a xs := fun a xs h => SqT.but (d1.same s14).lst b2 h
          refine ⟨l, _, _, _, rfl, rfl, SqL.of l5, hb, ?_⟩
          have B2 := (b1.trans (Same.but s14)).trans b2
          cases b with
          | true => exact k _ (.nul true) _ B2 d2 (.nul (keepT _ _ (SqT.of p4))) ⟨Nat.le_refl 1, trivial, fun y hy => by cases hy⟩
          | false => exact k _ (.nul false) _ B2 d2 (.nul (keepT _ _ (SqT.of q4))) ⟨Nat.le_refl 1, trivial, fun y hy => by cases hy⟩
        · refine ⟨by show 2 ≤ sizeLine; decide, fun l hl => ?_⟩
          have s2 := Same.new (o := .lst [.str "has", .str "lacks"]) hl
          have l2 := upd_same (H := H1) (a := l) (o := .lst [.str "has", .str "lacks"])
          have ld : l ≠ d := fun e => by
            obtain ⟨ds, e2⟩ := d1
            rw [← e, hl] at e2
            cases e2
          refine ⟨.ref d, rfl, d, 2, rfl, d1.same s2, by decide, fun v2 H2 v20 v22 b2 d2 => ?_⟩
          obtain ⟨b, hb⟩ := two_at (x := V.str "has") (y := V.str "lacks") v20 v22
          refine ⟨l, _, _, _, rfl, rfl, SqL.of (b2 _ _ ld l2), hb, ?_⟩
          refine ⟨.ref d, rfl, d, 2, rfl, d2, by decide, fun v3 H3 v30 v32 b3 d3 => ?_⟩
          refine ⟨by show 2 ≤ sizeLine; decide, fun p hp => ?_⟩
          have B3 := ((b1.trans (Same.but s2)).trans b2).trans b3
          cases b with
          | true =>
            have s4 := Same.new (o := .tup [.str "has", .int v3]) hp
            exact k _ (.leaf .has v3) _ (B3.trans (Same.but s4)) (d3.same s4) (.leaf (SqT.of upd_same)) ⟨Nat.le_refl 1, ⟨v30, v32⟩, fun y hy => by cases hy⟩
          | false =>
            have s4 := Same.new (o := .tup [.str "lacks", .int v3]) hp
            exact k _ (.leaf .lacks v3) _ (B3.trans (Same.but s4)) (d3.same s4) (.leaf (SqT.of upd_same)) ⟨Nat.le_refl 1, ⟨v30, v32⟩, fun y hy => by cases hy⟩
    · refine iteF ?_
      refine ⟨.int v1, rfl, rfl, _, rfl, ite2 (fun c3 => ?_) (fun c3 => ?_)⟩
      · refine ⟨by show 1 ≤ sizeLine; decide, fun p hp => ⟨by show 1 ≤ sizeLine; decide, fun q hq => ⟨by show 2 ≤ sizeLine; decide, fun l hl => ?_⟩⟩⟩
        have s2 := Same.new (o := .tup [.str "true"]) hp
        have s3 := Same.new (o := .tup [.str "false"]) hq
        have s4 := Same.new (o := .lst [.ref p, .ref q]) hl
        have p4 := s4 _ _ (s3 _ _ (upd_same (H := H1) (a := p) (o := .tup [.str "true"])))
        have q4 := s4 _ _ (upd_same (H := upd H1 p (.tup [.str "true"])) (a := q) (o := .tup [.str "false"]))
        have l4 := upd_same (H := upd (upd H1 p (.tup [.str "true"])) q (.tup [.str "false"])) (a := l) (o := .lst [.ref p, .ref q])
        have s14 := s2.trans (s3.trans s4)
        have ld : l ≠ d := fun e => by
          obtain ⟨ds, e2⟩ := d1
          have := (s2.trans s3) _ _ e2
          rw [← e, hl] at this
          cases this
        refine ⟨.ref d, rfl, d, 2, rfl, d1.same s14, by decide, fun v2 H2 v20 v22 b2 d2 => ?_⟩
        obtain ⟨b, hb⟩ := two_at (x := V.ref p) (y := V.ref q) v20 v22
        have l5 := b2 _ _ ld l4
        have keepT : ∀ (a : Addr) (xs : List V), SqT K _ a xs → SqT K H2 a xs := fun a xs h => SqT.but (d1.same s14).lst b2 h
        refine ⟨l, _, _, _, rfl, rfl, SqL.of l5, hb, ?_⟩
        have B2 := (b1.trans (Same.but s14)).trans b2
        cases b with
        | true => exact k _ (.nul true) _ B2 d2 (.nul (keepT _ _ (SqT.of p4))) ⟨Nat.le_refl 1, trivial, fun y hy => by cases hy⟩
        | false => exact k _ (.nul false) _ B2 d2 (.nul (keepT _ _ (SqT.of q4))) ⟨Nat.le_refl 1, trivial, fun y hy => by cases hy⟩
      · refine ⟨by show 2 ≤ sizeLine; decide, fun l hl => ?_⟩
        have s2 := Same.new (o := .lst [.str "has", .str "lacks"]) hl
        have l2 := upd_same (H := H1) (a := l) (o := .lst [.str "has", .str "lacks"])
        have ld : l ≠ d := fun e => by
          obtain ⟨ds, e2⟩ := d1
          rw [← e, hl] at e2
          cases e2
        refine ⟨.ref d, rfl, d, 2, rfl, d1.same s2, by decide, fun v2 H2 v20 v22 b2 d2 => ?_⟩
        obtain ⟨b, hb⟩ := two_at (x := V.str "has") (y := V.str "lacks") v20 v22
        refine ⟨l, _, _, _, rfl, rfl, SqL.of (b2 _ _ ld l2), hb, ?_⟩
        refine ⟨.ref d, rfl, d, 2, rfl, d2, by decide, fun v3 H3 v30 v32 b3 d3 => ?_⟩
        refine ⟨by show 2 ≤ sizeLine; decide, fun p hp => ?_⟩
        have B3 := ((b1.trans (Same.but s2)).trans b2).trans b3
        cases b with
        | true =>
          have s4 := Same.new (o := .tup [.str "has", .int v3]) hp
          exact k _ (.leaf .has v3) _ (B3.trans (Same.but s4)) (d3.same s4) (.leaf (SqT.of upd_same)) ⟨Nat.le_refl 1, ⟨v30, v32⟩, fun y hy => by cases hy⟩
        | false =>
          have s4 := Same.new (o := .tup [.str "lacks", .int v3]) hp
          exact k _ (.leaf .lacks v3) _ (B3.trans (Same.but s4)) (d3.same s4) (.leaf (SqT.of upd_same)) ⟨Nat.le_refl 1, ⟨v30, v32⟩, fun y hy => by cases hy⟩
end
end Fw

set_option maxRecDepth 100000
set_option maxHeartbeats 4000000
namespace Fw
open PySem PySem.Spec PyProof.Rows L2
theorem Draws.ne {H : Hp} {d q : Addr} (h : Draws H d) (hq : H q = none) : q ≠ d := fun e => by
  obtain ⟨ds, z⟩ := h
  rw [← e, hq] at z
  cases z
theorem four_at {v : Int} (h0 : 0 ≤ v) (h4 : v < 4) : ∃ x ∈ V4, atI [V.int 0, V.int 1, V.int 2, V.int 7] v = some (.int x) := by
  have : v = 0 ∨ v = 1 ∨ v = 2 ∨ v = 3 := by omega
  rcases this with rfl | rfl | rfl | rfl
  · exact ⟨0, by decide, rfl⟩
  · exact ⟨1, by decide, rfl⟩
  · exact ⟨2, by decide, rfl⟩
  · exact ⟨7, by decide, rfl⟩
theorem V4_nonneg {x : Int} (h : x ∈ V4) : 0 ≤ x ∧ x < 8 := by
  simp only [List.mem_cons, List.not_mem_nil, or_false] at h
  omega
def ofB (b : Bool) : Int := if b = true then 1 else 0
abbrev IL (H : Hp) (a : Addr) (xs : List Int) : Prop := H a = some (.lst (xs.map V.int))
def spS (K : PySem.W.Frag) : Nat → Sp
  | 0 => fun _ _ _ _ => False
  | n + 1 => fun vs H Q _ => ∃ (d wa ra : Addr) (W R : List Int), vs = [.ref d, .int (n : Nat), .ref wa, .ref ra, .bl true] ∧ Draws H d ∧ IL H wa W ∧ IL H ra R ∧ wa ≠ d ∧ ra ≠ d ∧ W.length + R.length + n ≤ 20 ∧ (∀ x ∈ W, x ∈ V4) ∧ (∀ x ∈ R, x ∈ V4) ∧
    ∀ v t H', But d H H' → Draws H' d → IsF K H' v t → Gen n W R t → Q v H'
section
variable {P : Program} {w : World} {K : PySem.W.Frag} {mg : Str → Option Value} {base : Heap} {C J B NC FE : Addr}
theorem ok_law_statement {f : Addr} {fd : FuncData} (n : Nat) (FF : Fun K "_law_statement" "_law_statement" s_law_statement f fd) (T : Txt K mg C J B) (h_law_take : Has P w K mg base "_law_take" 1 a_law_take spTake)
    (h_law_atom : Has P w K mg base "_law_atom" 2 a_law_atom (spAtom K)) (h_law_statement : Has P w K mg base "_law_statement" (n + 2) a_law_statement (spS K n)) : FnOk P w K mg base CX0 (n + 3) f fd a_law_statement (spS K (n + 1)) := by
  refine FF.ok sc_law_statement (fun vs H Q E h => ?_) (fun cdv A outer s H vs Q E hr h => ?_)
  · obtain ⟨d, wa, ra, W, R, rfl, _⟩ := h
    rfl
  · obtain ⟨d, wa, ra, W, R, rfl, hd, hW, hR, nwd, nrd, hsz, hVW, hVR, k⟩ := h
    refine ⟨_, (pss_cons (ps_set (i := 5) sc_law_statement.nd rfl (.inl rfl) (pe_callH h_law_take (hr.mono (by omega)) (pa_cons (pv 0) (pa_cons pe_int pa_nil))))
      (pss_cons (ps_if (PW.pt (pw_or (pt_cmpR op_eq (pv 1) pe_int (nomark _)) (pw_or1 (pt_cmpR op_eq (pv 5) pe_int (nomark _))))) (pss_one (ps_ret (pe_callH h_law_atom (hr.mono (by omega)) (pa_cons (pv 0) (pa_cons (pv 3) pa_nil))))) pss_nil)
      (pss_cons (ps_if (pt_cmpR op_lt (pv 5) pe_int (nomark _)) (pss_cons (ps_set (i := 6) sc_law_statement.nd rfl (.inl rfl) (pe_callH h_law_statement (hr.mono (by omega)) (pa_cons (pv 0) (pa_cons (pe_op op_sub (pv 1) pe_int) (pa_cons (pv 2) (pa_cons (pv 3) (pa_cons (pv 4) pa_nil)))))))
      (pss_one (ps_ret (pe_tup (pa_cons (pe_ix ix_list (pe_lst (pa_cons pe_str (pa_cons pe_str pa_nil))) (pe_callTy call_int1 rfl T.z_int (by decide +kernel) (pa_cons (pe_cmpR op_gt (pv 5) pe_int (nomark _)) pa_nil)) (fun _ _ => rfl)) (pa_cons (pv 6) (pa_cons (pe_callH h_law_statement (hr.mono (by omega)) (pa_cons (pv 0) (pa_cons (pe_op op_sub (pv 1) pe_int) (pa_cons (pv 2) (pa_cons (pv 3) (pa_cons (pv 4) pa_nil)))))) pa_nil))))))) pss_nil)
      (pss_cons (ps_if (pt_cmpR op_lt (pv 5) pe_int (nomark _)) (pss_cons (ps_set (i := 7) sc_law_statement.nd rfl (.inl rfl) (pe_op op_fdivN (pe_callH h_law_take (hr.mono (by omega)) (pa_cons (pv 0) (pa_cons pe_int pa_nil))) pe_int))
      (pss_one (ps_ret (pe_tup (pa_cons (pe_ix ix_list (pe_lst (pa_cons pe_str (pa_cons pe_str pa_nil))) (pe_callH h_law_take (hr.mono (by omega)) (pa_cons (pv 0) (pa_cons pe_int pa_nil))) (fun _ _ => rfl)) (pa_cons (pv 7) (pa_cons (pe_callH h_law_statement (hr.mono (by omega)) (pa_cons (pv 0) (pa_cons (pe_op op_sub (pv 1) pe_int) (pa_cons (pe_lst pa_nil) (pa_cons (pe_op op_cat (pv 3) (pv 2)) (pa_cons (pv 4) pa_nil)))))) pa_nil))))))) pss_nil)
      (pss_cons (ps_set (i := 8) sc_law_statement.nd rfl (.inr rfl) (pe_ix ix_list (pe_lst (pa_cons pe_int (pa_cons pe_int (pa_cons pe_int (pa_cons pe_int pa_nil))))) (pe_callH h_law_take (hr.mono (by omega)) (pa_cons (pv 0) (pa_cons pe_int pa_nil))) (fun _ _ => rfl)))
      (pss_cons (ps_setLc (i := 9) (own := [("other", 11)]) (g := gName 11) rfl sc_law_statement.nd rfl rfl (sw_true rfl rfl rfl (by decide +kernel)) (pi_list (pv 2)) (blkOk_by (own := [("other", 11)]) (N := n_law_statement) (sc := defScope s_law_statement) (by decide +kernel)) (fun _ _ _ _ _ => (pg_name (i := 11) sc_law_statement.nd rfl (.inl rfl))) (fun _ _ _ _ _ => (pts_one (pt_cmpR op_ne (pv 11) (pv 8) (nomark _)))) (fun _ _ _ _ _ => (pv 11)))
      (pss_cons (ps_setLc (i := 10) (own := [("other", 11)]) (g := gName 11) rfl sc_law_statement.nd rfl rfl (sw_true rfl rfl rfl (by decide +kernel)) (pi_list (pv 3)) (blkOk_by (own := [("other", 11)]) (N := n_law_statement) (sc := defScope s_law_statement) (by decide +kernel)) (fun _ _ _ _ _ => (pg_name (i := 11) sc_law_statement.nd rfl (.inl rfl))) (fun _ _ _ _ _ => (pts_one (pt_cmpR op_ne (pv 11) (pv 8) (nomark _)))) (fun _ _ _ _ _ => (pv 11)))
      (pss_cons (ps_if (PW.pt (pw_and (pt_val (pv 4)) (pw_and1 (pt_cmpR op_eq (pe_callH h_law_take (hr.mono (by omega)) (pa_cons (pv 0) (pa_cons pe_int pa_nil))) pe_int (nomark _))))) (pss_one (ps_set (i := 10) sc_law_statement.nd rfl (.inl rfl) (pe_op op_cat (pv 10) (pe_lst (pa_cons (pv 8) pa_nil))))) (pss_one (ps_set (i := 9) sc_law_statement.nd rfl (.inl rfl) (pe_op op_cat (pv 9) (pe_lst (pa_cons (pv 8) pa_nil))))))
      (pss_one (ps_ret (pe_tup (pa_cons (pe_ix ix_list (pe_lst (pa_cons pe_str (pa_cons pe_str pa_nil))) (pe_callH h_law_take (hr.mono (by omega)) (pa_cons (pv 0) (pa_cons pe_int pa_nil))) (fun _ _ => rfl)) (pa_cons (pv 8) (pa_cons (pe_callH h_law_statement (hr.mono (by omega)) (pa_cons (pv 0) (pa_cons (pe_op op_sub (pv 1) pe_int) (pa_cons (pv 9) (pa_cons (pv 10) (pa_cons (pv 4) pa_nil)))))) pa_nil)))))))))))))), ?_⟩
    refine ⟨.ref d, rfl, d, 12, rfl, hd, by decide, fun v1 H1 v10 v112 b1 d1 => ?_⟩
    refine ⟨.int (n : Nat), rfl, rfl, _, rfl, ite2 (fun c => ?_) (fun c => ?_)⟩
    · refine iteT ?_
      refine ⟨.ref d, rfl, .ref ra, rfl, d, ra, R, rfl, d1, SqL.of (b1 _ _ nrd hR), nrd, by omega, hVR, fun v t H2 b2 d2 ht g => ?_⟩
      exact k v t H2 (b1.trans b2) d2 ht ⟨Nat.le_trans g.dep (by omega), g.ok, fun x hx => (g.fr x hx).elim (fun z => by cases z) .inr⟩
    refine ⟨.int v1, rfl, rfl, _, rfl, ite2 (fun c1 => ?_) (fun c1 => ?_)⟩
    · skip
      refine ⟨.ref d, rfl, .ref ra, rfl, d, ra, R, rfl, d1, SqL.of (b1 _ _ nrd hR), nrd, by omega, hVR, fun v t H2 b2 d2 ht g => ?_⟩
      exact k v t H2 (b1.trans b2) d2 ht ⟨Nat.le_trans g.dep (by omega), g.ok, fun x hx => (g.fr x hx).elim (fun z => by cases z) .inr⟩
    obtain ⟨m, rfl⟩ : ∃ m, n = m + 1 := by
      cases n with
      | zero => exact absurd (decide_eq_true rfl) c
      | succ m => exact ⟨m, rfl⟩
    have hW1 := b1 _ _ nwd hW
    have hR1 := b1 _ _ nrd hR
    have em : V.int (((m + 1 : Nat) : Int) - 1) = V.int (m : Nat) := by congr 1; omega
    refine ⟨.int v1, rfl, _, _, rfl, rfl, _, rfl, ite2 (fun c2 => ?_) (fun c2 => ?_)⟩
    · -- and, or
      refine ⟨.ref d, rfl, .int ((m + 1 : Nat) : Int), rfl, _, 1, rfl, rfl, .ref wa, rfl, .ref ra, rfl, .bl true, rfl, d, wa, ra, W, R, by show [V.ref d, V.int (((m + 1 : Nat) : Int) - 1), _, _, _] ++ [] = _; rw [em]; rfl, d1, hW1, hR1, nwd, nrd, by omega, hVW, hVR, fun vf tf H2 b2 d2 hf gf => ?_⟩
      refine ⟨by show 2 ≤ sizeLine; decide, fun l hl => ?_⟩
      have s3 := Same.new (o := .lst [.str "and", .str "or"]) hl
      have l3 := upd_same (H := H2) (a := l) (o := .lst [.str "and", .str "or"])
      have hW3 := s3 _ _ (b2 _ _ nwd hW1)
      have hR3 := s3 _ _ (b2 _ _ nrd hR1)
      have b3 := b1.trans (b2.trans (Same.but s3))
      have d3 := d2.same s3
      have hf3 := hf.same s3
      have word : ∃ b : Bool, atI [V.str "and", V.str "or"] (if decide (2 < v1) = true then 1 else 0) = some (.str (wT b)) := by
        by_cases q : 2 < v1
        · exact ⟨false, by rw [if_pos (decide_eq_true q)]; rfl⟩
        · exact ⟨true, by rw [if_neg (by rw [decide_eq_false q]; exact Bool.false_ne_true)]; rfl⟩
      obtain ⟨b, hb⟩ := word
      refine ⟨.int v1, rfl, _, _, rfl, rfl, .inr ⟨_, rfl, l, _, _, _, rfl, rfl, SqL.of l3, hb, ?_⟩⟩
      refine ⟨vf, rfl, ?_⟩
      refine ⟨.ref d, rfl, .int ((m + 1 : Nat) : Int), rfl, _, 1, rfl, rfl, .ref wa, rfl, .ref ra, rfl, .bl true, rfl, d, wa, ra, W, R, by show [V.ref d, V.int (((m + 1 : Nat) : Int) - 1), _, _, _] ++ [] = _; rw [em]; rfl, d3, hW3, hR3, nwd, nrd, by omega, hVW, hVR, fun vg tg H4 b4 d4 hg gg => ?_⟩
      refine ⟨by show 3 ≤ sizeLine; decide, fun p hp => ?_⟩
      have s5 := Same.new (o := .tup [.str (wT b), vf, vg]) hp
      refine k _ (.two b tf tg) _ ((b3.trans b4).trans (Same.but s5)) (d4.same s5) (.two (SqT.of upd_same) ((hf3.but d3.lst b4).same s5) (hg.same s5)) ⟨by show max tf.depth tg.depth + 1 ≤ _; have := gf.dep; have := gg.dep; omega, ⟨gf.ok, gg.ok⟩, fun y hy => ?_⟩
      rcases List.mem_append.mp (show y ∈ fv tf ++ fv tg from hy) with z | z
      · exact gf.fr y z
      · exact gg.fr y z
    refine ⟨.int v1, rfl, _, _, rfl, rfl, _, rfl, ite2 (fun c3 => ?_) (fun c3 => ?_)⟩
    · -- some, all
      refine ⟨.ref d, rfl, d, 3, rfl, d1, by decide, fun v2 H2 v20 v23 b2 d2 => ⟨v2, 2, rfl, rfl, ⟨by decide, by decide⟩, ?_⟩⟩
      have lab : 0 ≤ v2.fdiv 2 ∧ v2.fdiv 2 < 2 := by
        have : v2 = 0 ∨ v2 = 1 ∨ v2 = 2 := by omega
        rcases this with rfl | rfl | rfl <;> decide
      refine ⟨by show 2 ≤ sizeLine; decide, fun l hl => ?_⟩
      have s3 := Same.new (o := .lst [.str "some", .str "all"]) hl
      have l3 := upd_same (H := H2) (a := l) (o := .lst [.str "some", .str "all"])
      have ld := d2.ne hl
      refine ⟨.ref d, rfl, d, 2, rfl, d2.same s3, by decide, fun v4 H4 v40 v42 b4 d4 => ?_⟩
      obtain ⟨b, hb⟩ := two_at (x := V.str "some") (y := V.str "all") v40 v42
      refine ⟨l, _, _, _, rfl, rfl, SqL.of (b4 _ _ ld l3), hb, _, rfl, ?_⟩
      have hW4 := b4 _ _ nwd (s3 _ _ (b2 _ _ nwd hW1))
      have hR4 := b4 _ _ nrd (s3 _ _ (b2 _ _ nrd hR1))
      refine ⟨.ref d, rfl, .int ((m + 1 : Nat) : Int), rfl, _, 1, rfl, rfl, Nat.zero_le _, fun e he => ?_⟩
      have s5 := Same.new (o := .lst []) he
      refine ⟨.ref ra, rfl, .ref wa, rfl, ra, wa, _, _, rfl, rfl, s5 _ _ hR4, s5 _ _ hW4, by rw [List.length_map, List.length_map]; exact Nat.le_of_lt (small1000 (by omega)), fun q hq => ?_⟩
      have s6 := Same.new (o := .lst (R.map V.int ++ W.map V.int)) hq
      have ed := d4.ne he
      have qd := (d4.same s5).ne hq
      refine ⟨.bl true, rfl, d, e, q, [], R ++ W, by show [V.ref d, V.int (((m + 1 : Nat) : Int) - 1), _, _, _] ++ [] = _; rw [em]; rfl, (d4.same s5).same s6, s6 _ _ upd_same, by show _ = _; rw [upd_same, List.map_append], ed, qd, by simp; omega, by simp, fun x hx => (List.mem_append.mp hx).elim (hVR x) (hVW x), fun v f H7 b7 d7 hf g => ?_⟩
      refine ⟨by show 3 ≤ sizeLine; decide, fun p hp => ?_⟩
      have BB := (((b1.trans (b2.trans ((Same.but s3).trans b4))).trans (Same.but s5)).trans (Same.but s6)).trans b7
      have fr' : ∀ y ∈ fv f, y ∈ W ∨ y ∈ R := fun y hy => (g.fr y hy).elim (fun z => by cases z) fun z => (List.mem_append.mp z).symm
      cases b with
      | true =>
        have s9 := Same.new (o := .tup [.str "some", .int (v2.fdiv 2), v]) hp
        exact k _ (.one .some (v2.fdiv 2) f) _ (BB.trans (Same.but s9)) (d7.same s9) (.one (SqT.of upd_same) (hf.same s9)) ⟨by show f.depth + 1 ≤ _; have := g.dep; omega, ⟨by rw [if_neg (by decide)]; exact lab, g.ok⟩, fr'⟩
      | false =>
        have s9 := Same.new (o := .tup [.str "all", .int (v2.fdiv 2), v]) hp
        exact k _ (.one .all (v2.fdiv 2) f) _ (BB.trans (Same.but s9)) (d7.same s9) (.one (SqT.of upd_same) (hf.same s9)) ⟨by show f.depth + 1 ≤ _; have := g.dep; omega, ⟨by rw [if_neg (by decide)]; exact lab, g.ok⟩, fr'⟩
    -- least, most
    refine ⟨by show 4 ≤ sizeLine; decide, fun l hl => ?_⟩
    have s2 := Same.new (o := .lst [V.int 0, V.int 1, V.int 2, V.int 7]) hl
    have l2 := upd_same (H := H1) (a := l) (o := .lst [V.int 0, V.int 1, V.int 2, V.int 7])
    have ld := d1.ne hl
    refine ⟨.ref d, rfl, d, 4, rfl, d1.same s2, by decide, fun v3 H3 v30 v34 b3 d3 => ?_⟩
    obtain ⟨x, hx4, hx⟩ := four_at v30 v34
    refine ⟨l, _, _, _, rfl, rfl, SqL.of (b3 _ _ ld l2), hx, ?_⟩
    have hW3 := b3 _ _ nwd (s2 _ _ hW1)
    have hR3 := b3 _ _ nrd (s2 _ _ hR1)
    have B3 := b1.trans ((Same.but s2).trans b3)
    -- later, usable
    refine ⟨.ref wa, rfl, wa, rfl, ⟨_, SqL.of hW3⟩, fun la hla => ?_⟩
    refine lc_list (xs := W.map V.int) (fun i G => Same H3 G ∧ G la = some (.lst (((W.take i).filter (fun y => y ≠ x)).map V.int))) ⟨Same.new hla, upd_same⟩ (fun i G _ q => SqL.of (q.1 _ _ hW3)) ?_ ?_
    · rintro i y G hy ⟨sG, gl⟩
      obtain ⟨z, hz, rfl⟩ : ∃ z, W[i]? = some z ∧ y = V.int z := by
        rw [List.getElem?_map] at hy
        cases e : W[i]? with
        | none => rw [e] at hy; cases hy
        | some z => rw [e] at hy; exact ⟨z, rfl, (Option.some.inj hy).symm⟩
      refine ⟨rfl, .int z, rfl, .int x, rfl, rfl, _, rfl, ?_⟩
      have e1 : W.take (i + 1) = W.take i ++ [z] := by rw [List.take_add_one, hz]; rfl
      by_cases e : z = x
      · rw [show (!decide (V.int z = V.int x)) = false by rw [e, decide_eq_true rfl]; rfl]
        refine iteF ⟨sG, ?_⟩
        rw [gl, e1, List.filter_append, e]
        simp
      · rw [show (!decide (V.int z = V.int x)) = true by rw [decide_eq_false (fun q => e (V.int.inj q))]; rfl]
        refine iteT ⟨.int z, rfl, _, gl, ?_, fun b o e2 => by rw [upd_ne (ne_of_none e2 hla)]; exact sG b o e2, ?_⟩
        · rw [List.length_map]
          have := List.length_filter_le (fun y => decide (y ≠ x)) (W.take i)
          rw [List.length_take] at this
          exact small1000 (by omega)
        · rw [upd_same, e1, List.filter_append, List.map_append]
          simp [e]
    rintro G4 ⟨s4, gla⟩
    rw [List.length_map, List.take_length] at gla
    have hR4 := s4 _ _ hR3
    have d4 := d3.same s4
    have lad := d3.ne hla
    refine ⟨.ref ra, rfl, ra, rfl, ⟨_, SqL.of hR4⟩, fun ua hua => ?_⟩
    refine lc_list (xs := R.map V.int) (fun i G => Same G4 G ∧ G ua = some (.lst (((R.take i).filter (fun y => y ≠ x)).map V.int))) ⟨Same.new hua, upd_same⟩ (fun i G _ q => SqL.of (q.1 _ _ hR4)) ?_ ?_
    · rintro i y G hy ⟨sG, gl⟩
      obtain ⟨z, hz, rfl⟩ : ∃ z, R[i]? = some z ∧ y = V.int z := by
        rw [List.getElem?_map] at hy
        cases e : R[i]? with
        | none => rw [e] at hy; cases hy
        | some z => rw [e] at hy; exact ⟨z, rfl, (Option.some.inj hy).symm⟩
      refine ⟨rfl, .int z, rfl, .int x, rfl, rfl, _, rfl, ?_⟩
      have e1 : R.take (i + 1) = R.take i ++ [z] := by rw [List.take_add_one, hz]; rfl
      by_cases e : z = x
      · rw [show (!decide (V.int z = V.int x)) = false by rw [e, decide_eq_true rfl]; rfl]
        refine iteF ⟨sG, ?_⟩
        rw [gl, e1, List.filter_append, e]
        simp
      · rw [show (!decide (V.int z = V.int x)) = true by rw [decide_eq_false (fun q => e (V.int.inj q))]; rfl]
        refine iteT ⟨.int z, rfl, _, gl, ?_, fun b o e2 => by rw [upd_ne (ne_of_none e2 hua)]; exact sG b o e2, ?_⟩
        · rw [List.length_map]
          have := List.length_filter_le (fun y => decide (y ≠ x)) (R.take i)
          rw [List.length_take] at this
          exact small1000 (by omega)
        · rw [upd_same, e1, List.filter_append, List.map_append]
          simp [e]
    rintro G5 ⟨s5, gua⟩
    rw [List.length_map, List.take_length] at gua
    have gla5 := s5 _ _ gla
    have d5 := d4.same s5
    have uad := d4.ne hua
    have B5 := B3.trans ((Same.but s4).trans (Same.but s5))
    have hWl := List.length_filter_le (fun y => decide (y ≠ x)) W
    have hRl := List.length_filter_le (fun y => decide (y ≠ x)) R
    have hWm : ∀ y ∈ W.filter (fun y => y ≠ x), y ∈ W := fun y hy => (List.mem_filter.mp hy).1
    have hRm : ∀ y ∈ R.filter (fun y => y ≠ x), y ∈ R := fun y hy => (List.mem_filter.mp hy).1
    generalize W.filter (fun y => decide (y ≠ x)) = W2 at gla5 gla hWl hWm
    generalize R.filter (fun y => decide (y ≠ x)) = R2 at gua hRl hRm
    -- if loose and a draw is 0
    refine ⟨.bl true, rfl, true, rfl, iteT ?_⟩
    refine ⟨.ref d, rfl, d, 3, rfl, d5, by decide, fun v6 H6 v60 v63 b6 d6 => ⟨rfl, _, rfl, ite2 (fun c4 => ?_) (fun c4 => ?_)⟩⟩
    · have gla6 := b6 _ _ lad gla5
      have gua6 := b6 _ _ uad gua
      refine ⟨.ref ua, rfl, .int x, rfl, by show 1 ≤ sizeLine; decide, fun p hp => ?_⟩
      have s7 := Same.new (o := .lst [V.int x]) hp
      refine ⟨ua, p, _, _, rfl, rfl, s7 _ _ gua6, upd_same, by rw [List.length_map]; exact Nat.le_of_lt (small1000 (by show _ + 1 ≤ 1000; omega)), fun ua' hua' => ?_⟩
      have s8' := Same.new (o := .lst (R2.map V.int ++ [V.int x])) hua'
      have hl' := s8' _ _ (s7 _ _ gla6)
      have hu' : IL (upd (upd H6 p (.lst [V.int x])) ua' (.lst (R2.map V.int ++ [V.int x]))) ua' (R2 ++ [x]) := by show _ = _; rw [upd_same, List.map_append]; rfl
      have gd := (d6.same s7).same s8'
      have nu' := (d6.same s7).ne hua'
      have B : But d H (upd (upd H6 p (.lst [V.int x])) ua' (.lst (R2.map V.int ++ [V.int x]))) := (B5.trans b6).trans ((Same.but s7).trans (Same.but s8'))
      generalize upd (upd H6 p (.lst [V.int x])) ua' (.lst (R2.map V.int ++ [V.int x])) = G at hl' hu' gd B
      have nl' := lad
      have hsz' : W2.length + (R2 ++ [x]).length + m ≤ 20 := by rw [List.length_append, List.length_singleton]; omega
      have hVW' : ∀ y ∈ W2, y ∈ V4 := fun y hy => hVW y (hWm y hy)
      have hVR' : ∀ y ∈ R2 ++ [x], y ∈ V4 := fun y hy => (List.mem_append.mp hy).elim (fun z => hVR y (hRm y z)) fun z => by rw [List.mem_singleton.mp z]; exact hx4
      have hsub : ∀ y, (y ∈ W2 ∨ y ∈ R2 ++ [x]) → y ≠ x → y ∈ W ∨ y ∈ R := fun y hy ne => hy.elim (fun z => .inl (hWm y z)) fun z => (List.mem_append.mp z).elim (fun q => .inr (hRm y q)) fun q => absurd (List.mem_singleton.mp q) ne
      obtain ⟨la', ela⟩ : ∃ la' : Addr, la' = la := ⟨_, rfl⟩
      subst ela
      obtain ⟨W', eW⟩ : ∃ W' : List Int, W' = W2 := ⟨_, rfl⟩
      subst eW
      obtain ⟨R', eR⟩ : ∃ R' : List Int, R' = R2 ++ [x] := ⟨_, rfl⟩
      rw [← eR] at hu' hsz' hVR' hsub
      -- the binder: lists W' at la', R' at ua', in G
      refine ⟨by show 2 ≤ sizeLine; decide, fun l hl => ?_⟩
      have s8 := Same.new (o := .lst [.str "least", .str "most"]) hl
      have ld := gd.ne hl
      have l8 := upd_same (H := G) (a := l) (o := .lst [.str "least", .str "most"])
      refine ⟨.ref d, rfl, d, 2, rfl, gd.same s8, by decide, fun v8 H8 v80 v82 b8 d8 => ?_⟩
      obtain ⟨bb, hbb⟩ := two_at (x := V.str "least") (y := V.str "most") v80 v82
      refine ⟨l, _, _, _, rfl, rfl, SqL.of (b8 _ _ ld l8), hbb, .int x, rfl, ?_⟩
      refine ⟨.ref d, rfl, .int ((m + 1 : Nat) : Int), rfl, _, 1, rfl, rfl, .ref la', rfl, .ref ua', rfl, .bl true, rfl, d, la', ua', W', R', by rw [Int.natCast_add]; show [V.ref d, V.int ((m : Int) + 1 - 1), _, _, _] ++ [] = _; rw [Int.add_sub_cancel]; rfl, d8, b8 _ _ nl' (s8 _ _ hl'), b8 _ _ nu' (s8 _ _ hu'), nl', nu', hsz', hVW', hVR', fun v f H9 b9 d9 hf g => ?_⟩
      refine ⟨by show 3 ≤ sizeLine; decide, fun p hp => ?_⟩
      have BB := ((B.trans (Same.but s8)).trans b8).trans b9
      have fr' : ∀ y ∈ fv f, y ≠ x → y ∈ W ∨ y ∈ R := fun y hy ne => (g.fr y hy).elim (fun z => hsub y (.inl z) ne) fun z => hsub y (.inr z) ne
      cases bb with
      | true =>
        have s9 := Same.new (o := .tup [.str "least", .int x, v]) hp
        refine k _ (.one .least x f) _ (BB.trans (Same.but s9)) (d9.same s9) (.one (SqT.of upd_same) (hf.same s9)) ⟨by show f.depth + 1 ≤ _; have := g.dep; omega, ⟨(if_pos (show One.least.bind = true from rfl)).mpr hx4, g.ok⟩, fun y hy => ?_⟩
        have z := List.mem_filter.mp (show y ∈ (fv f).filter (fun y => y ≠ x) from hy)
        exact fr' y z.1 (by simpa using z.2)
      | false =>
        have s9 := Same.new (o := .tup [.str "most", .int x, v]) hp
        refine k _ (.one .most x f) _ (BB.trans (Same.but s9)) (d9.same s9) (.one (SqT.of upd_same) (hf.same s9)) ⟨by show f.depth + 1 ≤ _; have := g.dep; omega, ⟨(if_pos (show One.most.bind = true from rfl)).mpr hx4, g.ok⟩, fun y hy => ?_⟩
        have z := List.mem_filter.mp (show y ∈ (fv f).filter (fun y => y ≠ x) from hy)
        exact fr' y z.1 (by simpa using z.2)
    · have gla6 := b6 _ _ lad gla5
      have gua6 := b6 _ _ uad gua
      refine ⟨.ref la, rfl, .int x, rfl, by show 1 ≤ sizeLine; decide, fun p hp => ?_⟩
      have s7 := Same.new (o := .lst [V.int x]) hp
      refine ⟨la, p, _, _, rfl, rfl, s7 _ _ gla6, upd_same, by rw [List.length_map]; exact Nat.le_of_lt (small1000 (by show _ + 1 ≤ 1000; omega)), fun la' hla' => ?_⟩
      have s8' := Same.new (o := .lst (W2.map V.int ++ [V.int x])) hla'
      have hu' := s8' _ _ (s7 _ _ gua6)
      have hl' : IL (upd (upd H6 p (.lst [V.int x])) la' (.lst (W2.map V.int ++ [V.int x]))) la' (W2 ++ [x]) := by show _ = _; rw [upd_same, List.map_append]; rfl
      have gd := (d6.same s7).same s8'
      have nl' := (d6.same s7).ne hla'
      have B : But d H (upd (upd H6 p (.lst [V.int x])) la' (.lst (W2.map V.int ++ [V.int x]))) := (B5.trans b6).trans ((Same.but s7).trans (Same.but s8'))
      generalize upd (upd H6 p (.lst [V.int x])) la' (.lst (W2.map V.int ++ [V.int x])) = G at hl' hu' gd B
      have nu' := uad
      have hsz' : (W2 ++ [x]).length + R2.length + m ≤ 20 := by rw [List.length_append, List.length_singleton]; omega
      have hVR' : ∀ y ∈ R2, y ∈ V4 := fun y hy => hVR y (hRm y hy)
      have hVW' : ∀ y ∈ W2 ++ [x], y ∈ V4 := fun y hy => (List.mem_append.mp hy).elim (fun z => hVW y (hWm y z)) fun z => by rw [List.mem_singleton.mp z]; exact hx4
      have hsub : ∀ y, (y ∈ W2 ++ [x] ∨ y ∈ R2) → y ≠ x → y ∈ W ∨ y ∈ R := fun y hy ne => hy.elim (fun z => (List.mem_append.mp z).elim (fun q => .inl (hWm y q)) fun q => absurd (List.mem_singleton.mp q) ne) fun z => .inr (hRm y z)
      obtain ⟨ua', eua⟩ : ∃ ua' : Addr, ua' = ua := ⟨_, rfl⟩
      subst eua
      obtain ⟨R', eR⟩ : ∃ R' : List Int, R' = R2 := ⟨_, rfl⟩
      subst eR
      obtain ⟨W', eW⟩ : ∃ W' : List Int, W' = W2 ++ [x] := ⟨_, rfl⟩
      rw [← eW] at hl' hsz' hVW' hsub
      -- the binder: lists W' at la', R' at ua', in G
      refine ⟨by show 2 ≤ sizeLine; decide, fun l hl => ?_⟩
      have s8 := Same.new (o := .lst [.str "least", .str "most"]) hl
      have ld := gd.ne hl
      have l8 := upd_same (H := G) (a := l) (o := .lst [.str "least", .str "most"])
      refine ⟨.ref d, rfl, d, 2, rfl, gd.same s8, by decide, fun v8 H8 v80 v82 b8 d8 => ?_⟩
      obtain ⟨bb, hbb⟩ := two_at (x := V.str "least") (y := V.str "most") v80 v82
      refine ⟨l, _, _, _, rfl, rfl, SqL.of (b8 _ _ ld l8), hbb, .int x, rfl, ?_⟩
      refine ⟨.ref d, rfl, .int ((m + 1 : Nat) : Int), rfl, _, 1, rfl, rfl, .ref la', rfl, .ref ua', rfl, .bl true, rfl, d, la', ua', W', R', by rw [Int.natCast_add]; show [V.ref d, V.int ((m : Int) + 1 - 1), _, _, _] ++ [] = _; rw [Int.add_sub_cancel]; rfl, d8, b8 _ _ nl' (s8 _ _ hl'), b8 _ _ nu' (s8 _ _ hu'), nl', nu', hsz', hVW', hVR', fun v f H9 b9 d9 hf g => ?_⟩
      refine ⟨by show 3 ≤ sizeLine; decide, fun p hp => ?_⟩
      have BB := ((B.trans (Same.but s8)).trans b8).trans b9
      have fr' : ∀ y ∈ fv f, y ≠ x → y ∈ W ∨ y ∈ R := fun y hy ne => (g.fr y hy).elim (fun z => hsub y (.inl z) ne) fun z => hsub y (.inr z) ne
      cases bb with
      | true =>
        have s9 := Same.new (o := .tup [.str "least", .int x, v]) hp
        refine k _ (.one .least x f) _ (BB.trans (Same.but s9)) (d9.same s9) (.one (SqT.of upd_same) (hf.same s9)) ⟨by show f.depth + 1 ≤ _; have := g.dep; omega, ⟨(if_pos (show One.least.bind = true from rfl)).mpr hx4, g.ok⟩, fun y hy => ?_⟩
        have z := List.mem_filter.mp (show y ∈ (fv f).filter (fun y => y ≠ x) from hy)
        exact fr' y z.1 (by simpa using z.2)
      | false =>
        have s9 := Same.new (o := .tup [.str "most", .int x, v]) hp
        refine k _ (.one .most x f) _ (BB.trans (Same.but s9)) (d9.same s9) (.one (SqT.of upd_same) (hf.same s9)) ⟨by show f.depth + 1 ≤ _; have := g.dep; omega, ⟨(if_pos (show One.most.bind = true from rfl)).mpr hx4, g.ok⟩, fun y hy => ?_⟩
        have z := List.mem_filter.mp (show y ∈ (fv f).filter (fun y => y ≠ x) from hy)
        exact fr' y z.1 (by simpa using z.2)
end
end Fw

set_option maxRecDepth 100000
set_option maxHeartbeats 4000000
namespace Fw
open PySem PySem.Spec PyProof.Rows L2
theorem in_ints (x : Int) : ∀ bs : List Int, inV (.int x) (bs.map V.int) = decide (x ∈ bs)
  | [] => by simp [inV]
  | b :: bs => by
    have ih := in_ints x bs
    unfold inV at ih ⊢
    rw [List.map_cons, List.any_cons, ih]
    have e : eqV (V.int b) (V.int x) = decide (x = b) := by
      show _ = _
      by_cases c : x = b
      · subst c
        simp [eqV]
      · simp [eqV, c]
        exact fun q => c q.symm
    rw [e]
    simp
theorem flat_ints (bs : List Int) : (bs.map V.int).all flatV = true := by
  induction bs with
  | nil => rfl
  | cons b bs ih => simpa [flatV] using ih
def spClosed (K : PySem.W.Frag) (n : Nat) : Sp := fun vs H Q _ => ∃ (d : Addr), vs = [.ref d, .int (n : Nat)] ∧ Draws H d ∧ n ≤ 10 ∧ ∀ v t H', But d H H' → Draws H' d → IsF K H' v t → Gen n [] [] t → Q v H'
def spFr (K : PySem.W.Frag) : Nat → Sp
  | 0 => fun _ _ _ _ => False
  | n + 1 => fun vs H Q _ => ∃ (v : V) (t : F) (ba : Addr) (bs : List Int), vs = [v, .ref ba] ∧ IsF K H v t ∧ t.depth ≤ n + 1 ∧ t.size ≤ 1000 ∧ IL H ba bs ∧ bs.length + n ≤ 100 ∧ ∀ l H', Same H H' → IL H' l (freeL t bs) → Q (.ref l) H'
theorem free_len : ∀ (t : F) (b : List Int), (freeL t b).length ≤ t.size
  | .nul _, _ => Nat.zero_le _
  | .leaf .has _, _ => Nat.zero_le _
  | .leaf .lacks _, _ => Nat.zero_le _
  | .leaf .var x, b => by
    simp only [freeL, F.size]
    split <;> simp
  | .two _ f g, b => by
    have := free_len f b
    have := free_len g b
    simp only [freeL, F.size, List.length_append]
    omega
  | .one k x f, b => by
    have h1 := free_len f (b ++ [x])
    have h2 := free_len f b
    simp only [freeL, F.size]
    split <;> omega
/-- the kids' free variables, one behind the other -/
def freeK (bs : List Int) : List F → List Int
  | [] => []
  | f :: fs => freeL f bs ++ freeK bs fs
theorem freeK_snoc (bs : List Int) : ∀ (fs : List F) (f : F), freeK bs (fs ++ [f]) = freeK bs fs ++ freeL f bs
  | [], f => by simp [freeK]
  | g :: fs, f => by simp [freeK, freeK_snoc bs fs f]
theorem freeK_kids {t : F} {bs : List Int} (nv : ∀ x, t ≠ .leaf .var x) (nb : isB t = false) : freeK bs t.kids = freeL t bs := by
  cases t with
  | nul b => rfl
  | leaf k n =>
    cases k with
    | var => exact absurd rfl (nv n)
    | has => rfl
    | lacks => rfl
  | two b f g => simp [F.kids, freeK, freeL]
  | one k n f =>
    have hk : ¬ k.bind = true := by rw [show k.bind = false from nb]; exact Bool.false_ne_true
    simp only [F.kids, freeK, freeL, if_neg hk, List.append_nil]
theorem var_word {hd : Hd} (nv : ∀ x, hd ≠ .leaf .var x) : V.str (hw hd) ≠ V.str "var" := by
  cases hd with
  | nul b => exact nv_N b
  | two b => exact nv_T b
  | one k _ => exact nv_O k
  | leaf k x =>
    cases k with
    | var => exact absurd rfl (nv x)
    | has => exact nv_has
    | lacks => exact nv_lacks
theorem kid_small {t f : F} (h : f ∈ t.kids) : f.depth + 1 ≤ t.depth ∧ f.size + 1 ≤ t.size := by
  cases t with
  | nul b => cases h
  | leaf k n => cases h
  | two b x y =>
    simp only [F.kids, List.mem_cons, List.not_mem_nil, or_false] at h
    simp only [F.depth, F.size]
    rcases h with rfl | rfl <;> omega
  | one k n x =>
    simp only [F.kids, List.mem_cons, List.not_mem_nil, or_false] at h
    subst h
    simp [F.depth, F.size]
section
variable {P : Program} {w : World} {K : PySem.W.Frag} {mg : Str → Option Value} {base : Heap} {C J B NC FE : Addr}
theorem noneOk {f : Addr} {fd : FuncData} {k : Nat} {ps : List Str} : FnOk P w K mg base CX0 k f fd ps (fun _ _ _ _ => False) :=
  ⟨fun _ _ _ _ h => h.elim, fun _ _ _ _ _ _ _ _ _ _ _ _ _ h => h.elim⟩
theorem all_statement {f : Addr} {fd : FuncData} (FF : Fun K "_law_statement" "_law_statement" s_law_statement f fd) (b : Binds K fd a_law_statement []) (m : mg "_law_statement" = some (.ref f)) (T : Txt K mg C J B)
    (h_law_take : Has P w K mg base "_law_take" 1 a_law_take spTake) (h_law_atom : Has P w K mg base "_law_atom" 2 a_law_atom (spAtom K)) : ∀ n, Has P w K mg base "_law_statement" (n + 2) a_law_statement (spS K n)
  | 0 => ⟨f, fd, m, FF.kp, b, noneOk⟩
  | n + 1 => ⟨f, fd, m, FF.kp, b, ok_law_statement n FF T h_law_take h_law_atom (all_statement FF b m T h_law_take h_law_atom n)⟩
theorem ok_law_closed {f : Addr} {fd : FuncData} (n : Nat) (FF : Fun K "_law_closed" "_law_closed" s_law_closed f fd) (h_law_statement : Has P w K mg base "_law_statement" (n + 3) a_law_statement (spS K (n + 1))) : FnOk P w K mg base CX0 (n + 4) f fd a_law_closed (spClosed K n) := by
  refine FF.ok sc_law_closed (fun vs H Q E h => ?_) (fun cdv A outer s H vs Q E hr h => ?_)
  · obtain ⟨d, rfl, _⟩ := h
    rfl
  · obtain ⟨d, rfl, hd, hn, k⟩ := h
    refine ⟨_, (pss_one (ps_ret (pe_callH h_law_statement (hr.mono (by omega)) (pa_cons (pv 0) (pa_cons (pv 1) (pa_cons (pe_lst pa_nil) (pa_cons (pe_lst pa_nil) (pa_cons pe_bl pa_nil)))))))), ?_⟩
    refine ⟨.ref d, rfl, .int (n : Nat), rfl, Nat.zero_le _, fun wa hwa => ⟨Nat.zero_le _, fun ra hra => ?_⟩⟩
    have s1 := Same.new (o := .lst []) hwa
    have s2 := Same.new (o := .lst []) hra
    have d1 := hd.same s1
    exact ⟨d, wa, ra, [], [], rfl, d1.same s2, s2 _ _ upd_same, upd_same, hd.ne hwa, d1.ne hra, by simp; omega, by simp, by simp, fun v t H' b dd ht g => k v t H' (((Same.but s1).trans (Same.but s2)).trans b) dd ht g⟩
theorem ok_law_free {f : Addr} {fd : FuncData} (n : Nat) (FF : Fun K "_law_free" "_law_free" s_law_free f fd) (T : Txt K mg C J B) (h_law_inner : Has P w K mg base "_law_inner" 1 a_law_inner (spInner K))
    (h_law_free : Has P w K mg base "_law_free" (n + 1) a_law_free (spFr K n)) : FnOk P w K mg base CX0 (n + 2) f fd a_law_free (spFr K (n + 1)) := by
  refine FF.ok sc_law_free (fun vs H Q E h => ?_) (fun cdv A outer s H vs Q E hr h => ?_)
  · obtain ⟨v, t, ba, bs, rfl, _⟩ := h
    rfl
  · obtain ⟨v, t, ba, bs, rfl, ht, hdep, hsz, hB, hbl, k⟩ := h
    refine ⟨_, (pss_cons (ps_if (pt_cmpR op_eq (pe_ix ix_tup (pv 0) pe_int (fun _ _ => rfl)) pe_str (nomark _)) (pss_one (ps_ret (pe_ifExp (pt_cmpR op_notIn_seq (pe_ix ix_tup (pv 0) pe_int (fun _ _ => rfl)) (pv 1) (by rfl)) (pe_lst (pa_cons (pe_ix ix_tup (pv 0) pe_int (fun _ _ => rfl)) pa_nil)) (pe_lst pa_nil)))) pss_nil)
      (pss_cons (ps_if (pt_cmpR op_in_seq (pe_ix ix_tup (pv 0) pe_int (fun _ _ => rfl)) (pe_tup (pa_cons pe_str (pa_cons pe_str pa_nil))) (by rfl)) (pss_one (ps_ret (pe_callH h_law_free (hr.mono (by omega)) (pa_cons (pe_ix ix_tup (pv 0) pe_int (fun _ _ => rfl)) (pa_cons (pe_op op_cat (pv 1) (pe_lst (pa_cons (pe_ix ix_tup (pv 0) pe_int (fun _ _ => rfl)) pa_nil))) pa_nil))))) pss_nil)
      (pss_cons (ps_set (i := 2) sc_law_free.nd rfl (.inl rfl) (pe_lst pa_nil))
      (pss_cons (ps_for PassesOwn.never rfl (pi_list (pe_callH h_law_inner (hr.mono (by omega)) (pa_cons (pv 0) pa_nil))) (pg_name (i := 3) sc_law_free.nd rfl (.inl rfl)) (pss_one (ps_set (i := 2) sc_law_free.nd rfl (.inl rfl) (pe_op op_cat (pv 2) (pe_callH h_law_free (hr.mono (by omega)) (pa_cons (pv 3) (pa_cons (pv 1) pa_nil)))))))
      (pss_one (ps_ret (pv 2))))))), ?_⟩
    obtain ⟨a, ks, rfl, sq, ak⟩ := ht.open
    have at0 : atI (hv t.hd ++ ks) 0 = some (.str (hw t.hd)) := atI_nat (j := 0) (by rw [List.getElem?_append_left (by rcases hv_len t.hd with e | e <;> omega)]; exact hv_head _)
    refine ⟨.ref a, rfl, a, _, _, _, rfl, rfl, sq, at0, rfl, _, rfl, ?_⟩
    by_cases hvar : ∃ x, t = .leaf .var x
    · obtain ⟨x, rfl⟩ := hvar
      cases ak
      have at1 : atI (hv (F.leaf .var x).hd ++ []) 1 = some (.int x) := rfl
      refine (if_pos (decide_eq_true rfl)).mpr ?_
      refine ⟨.ref a, rfl, a, _, 1, .int x, rfl, rfl, sq, at1, .ref ba, rfl, ba, _, rfl, .inl (SqL.of hB), rfl, flat_ints bs, _, rfl, ?_⟩
      rw [if_pos rfl, in_ints]
      by_cases c : x ∈ bs
      · rw [decide_eq_true c]
        refine iteF ⟨Nat.zero_le _, fun p hp => ?_⟩
        refine k p _ (Same.new hp) ?_
        show _ = _
        rw [upd_same, freeL, if_pos c]
        rfl
      · rw [decide_eq_false c]
        refine iteT ⟨.ref a, rfl, a, _, 1, .int x, rfl, rfl, sq, at1, by show 1 ≤ sizeLine; decide, fun p hp => ?_⟩
        refine k p _ (Same.new hp) ?_
        show _ = _
        rw [upd_same, freeL, if_neg c]
        rfl
    · refine (if_neg (by rw [decide_eq_false (var_word (hd := t.hd) fun x e => hvar ⟨x, by cases t <;> cases e; rfl⟩)]; exact Bool.false_ne_true)).mpr ?_
      refine ⟨.ref a, rfl, a, _, _, _, rfl, rfl, sq, at0, by show 2 ≤ sizeLine; decide, fun p hp => ⟨p, _, rfl, .inr (SqT.of upd_same), rfl, rfl, _, rfl, ?_⟩⟩
      rw [if_neg Bool.false_ne_true, in_binders, isB_hd]
      have s1 := Same.new (o := .tup [.str "least", .str "most"]) hp
      generalize upd H p (.tup [.str "least", .str "most"]) = H1 at s1
      have sq1 := SqT.same s1 sq
      have ak1 := ak.lk (LKp.same s1)
      have hB1 := s1 _ _ hB
      cases hb : isB t with
      | true =>
        refine iteT ?_
        obtain ⟨kd, x, f, rfl⟩ : ∃ kd x f, t = .one kd x f := by
          cases t with
          | one kd x f => exact ⟨kd, x, f, rfl⟩
          | _ => cases hb
        have hk : kd.bind = true := hb
        cases ak1 with
        | cons hf hn =>
          rename_i vf _
          cases hn
          have fd := F.size_pos f
          obtain ⟨m, rfl⟩ : ∃ m, n = m + 1 := by
            cases n with
            | zero => exact absurd hdep (by have : 0 < f.depth := (by cases f <;> simp [F.depth]); simp only [F.depth]; omega)
            | succ m => exact ⟨m, rfl⟩
          have at1 : atI (hv (F.one kd x f).hd ++ [vf]) 1 = some (.int x) := rfl
          have at2 : atI (hv (F.one kd x f).hd ++ [vf]) 2 = some vf := rfl
          refine ⟨.ref a, rfl, a, _, 2, vf, rfl, rfl, sq1, at2, .ref ba, rfl, .ref a, rfl, a, _, 1, .int x, rfl, rfl, sq1, at1, by show 1 ≤ sizeLine; decide, fun q hq => ?_⟩
          have s2 := Same.new (o := .lst [V.int x]) hq
          refine ⟨ba, q, _, _, rfl, rfl, s2 _ _ hB1, upd_same, by rw [List.length_map]; exact Nat.le_of_lt (small1000 (by show _ + 1 ≤ 1000; omega)), fun r hr => ?_⟩
          have s3 := Same.new (o := .lst (bs.map V.int ++ [V.int x])) hr
          refine ⟨vf, f, r, bs ++ [x], rfl, (hf.same s2).same s3, ?_, ?_, ?_, ?_, fun l H' s4 hl => ?_⟩
          · simp only [F.depth] at hdep
            omega
          · simp only [F.size] at hsz
            omega
          · show _ = _
            rw [upd_same, List.map_append]
            rfl
          · rw [List.length_append, List.length_singleton]
            omega
          · refine k l H' (s1.trans (s2.trans (s3.trans s4))) ?_
            rw [show freeL (.one kd x f) bs = freeL f (bs ++ [x]) by simp only [freeL, if_pos hk]]
            exact hl
      | false =>
        refine iteF ?_
        have hfk := freeK_kids (t := t) (bs := bs) (fun x e => hvar ⟨x, e⟩) hb
        refine ⟨Nat.zero_le _, fun fo hfo => ?_⟩
        have s2 := Same.new (o := .lst []) hfo
        refine ⟨.ref a, rfl, .ref a, t, rfl, (ht.same s1).same s2, fun l ks' H3 s3 hl ak3 => ⟨l, rfl, ⟨_, SqL.of hl⟩, ?_⟩⟩
        have s123 := s1.trans (s2.trans s3)
        have lk3 := ak3.len
        refine for_list (xs := ks') (fun i σ G => ∃ (fo' : Addr) (y3 : Option V), σ = [some (.ref a), some (.ref ba), some (.ref fo'), y3] ∧ Same H3 G ∧ IL G fo' (freeK bs (t.kids.take i)))
          ⟨fo, none, rfl, Same.refl _, s3 _ _ (by rw [upd_same]; rfl)⟩ (fun i σ G _ ⟨_, _, _, sG, _⟩ => SqL.of (sG _ _ hl)) ?_ ?_
        · rintro i x σ G hx ⟨fo', y3, rfl, sG, gf⟩
          have il := (List.getElem?_eq_some_iff.mp hx).1
          obtain ⟨f, hf⟩ : ∃ f, t.kids[i]? = some f := ⟨t.kids[i]'(by omega), by simp⟩
          have fm := kid_small (List.mem_of_getElem? hf)
          obtain ⟨m, rfl⟩ : ∃ m, n = m + 1 := by
            cases n with
            | zero => exact absurd hdep (by have : 0 < f.depth := (by cases f <;> simp [F.depth]); omega)
            | succ m => exact ⟨m, rfl⟩
          have isf := (ak3.get hx hf).same sG
          have fkl : (freeK bs (t.kids.take i)).length + (freeL f bs).length ≤ t.size + t.size := by
            have h1 : ∀ fs : List F, (freeK bs fs).length ≤ (fs.map F.size).sum := by
              intro fs
              induction fs with
              | nil => exact Nat.le_refl _
              | cons g fs ih =>
                have := free_len g bs
                simp only [freeK, List.length_append, List.map_cons, List.sum_cons]
                omega
            have h2 : ((t.kids.take i).map F.size).sum ≤ t.size := by
              cases t with
              | nul b => simp [F.kids]
              | leaf k n => simp [F.kids]
              | two b f g =>
                match i with
                | 0 => simp [F.kids]
                | 1 => simp only [F.kids, F.size, List.take_succ_cons, List.take_zero, List.map_cons, List.map_nil, List.sum_cons, List.sum_nil]; omega
                | i + 2 => simp only [F.kids, F.size, List.take_succ_cons, List.take_nil, List.map_cons, List.map_nil, List.sum_cons, List.sum_nil]; omega
              | one k n f =>
                match i with
                | 0 => simp [F.kids]
                | i + 1 => simp [F.kids, F.size]
            have := h1 (t.kids.take i)
            have := free_len f bs
            omega
          refine ⟨.ref fo', rfl, x, rfl, .ref ba, rfl, x, f, ba, bs, rfl, isf, by omega, by omega, sG _ _ (s3 _ _ (s2 _ _ hB1)), by omega, fun l2 H5 s5 hl2 => ?_⟩
          refine ⟨fo', l2, _, _, rfl, rfl, s5 _ _ gf, hl2, ?_, fun q hq => ?_⟩
          · rw [List.length_map, List.length_map]
            exact Nat.le_of_lt (Nat.lt_of_le_of_lt (show _ ≤ 2000 by omega) (by decide))
          · refine ⟨q, _, rfl, sG.trans (s5.trans (Same.new hq)), ?_⟩
            show _ = _
            rw [upd_same, List.take_add_one, hf, Option.toList_some, freeK_snoc, List.map_append]
        · rintro σ G ⟨fo', y3, rfl, sG, gf⟩
          refine ⟨_, rfl, k fo' G (s123.trans sG) ?_⟩
          rw [← hfk, show t.kids = t.kids.take ks'.length by rw [List.take_of_length_le (by omega)]]
          exact gf
end
end Fw

set_option maxRecDepth 100000
set_option maxHeartbeats 4000000
namespace Fw
open PySem PySem.Spec PyProof.Rows L2
/-! ### statements as data -/
def dV : V → PyData
  | .str z => .str z
  | .int i => .int i
  | _ => .none
def dF : F → PyData
  | .nul b => .tuple ((hv (.nul b)).map dV)
  | .leaf k n => .tuple ((hv (.leaf k n)).map dV)
  | .two b f g => .tuple ((hv (.two b)).map dV ++ [dF f, dF g])
  | .one k n f => .tuple ((hv (.one k n)).map dV ++ [dF f])
theorem dp_F {K : PySem.W.Frag} {H : Hp} {v : V} {t : F} (h : IsF K H v t) : Dp K H v (dF t) := by
  induction h with
  | nul h => exact .tup h (.cons (.str _) .nil)
  | leaf h => exact .tup h (.cons (.str _) (.cons (.int _) .nil))
  | two h _ _ f g => exact .tup h (.cons (.str _) (.cons f (.cons g .nil)))
  | one h _ f => exact .tup h (.cons (.str _) (.cons (.int _) (.cons f .nil)))
theorem ok_hw (h : Hd) : PyData.strOk (hw h) = true := by
  cases h with
  | nul b => cases b <;> decide +kernel
  | leaf k n =>
    show PyData.strOk (wL k) = true
    cases k <;> decide +kernel
  | two b => cases b <;> decide +kernel
  | one k n =>
    show PyData.strOk (wO k) = true
    cases k <;> decide +kernel
theorem dF_lay : ∀ t : F, (dF t).canLay0 = true
  | .nul b => by
    have := ok_hw (.nul b)
    simp only [hw] at this
    simp [dF, hv, dV, PyData.canLay0, PyData.canLayAll0, this]
  | .leaf k n => by
    have := ok_hw (.leaf k n)
    simp only [hw] at this
    simp [dF, hv, dV, PyData.canLay0, PyData.canLayAll0, this]
  | .two b f g => by
    have := ok_hw (.two b)
    simp only [hw] at this
    simp [dF, hv, dV, PyData.canLay0, PyData.canLayAll0, this, dF_lay f, dF_lay g]
  | .one k n f => by
    have := ok_hw (.one k n)
    simp only [hw] at this
    simp [dF, hv, dV, PyData.canLay0, PyData.canLayAll0, this, dF_lay f]
theorem dF_depth : ∀ t : F, (dF t).depth ≤ t.depth
  | .nul b => by simp [dF, hv, dV, PyData.depth, PyData.depthAll, F.depth]
  | .leaf k n => by simp [dF, hv, dV, PyData.depth, PyData.depthAll, F.depth]
  | .two b f g => by
    have := dF_depth f
    have := dF_depth g
    simp [dF, hv, dV, PyData.depth, PyData.depthAll, F.depth]
    omega
  | .one k n f => by
    have := dF_depth f
    simp [dF, hv, dV, PyData.depth, PyData.depthAll, F.depth]
    omega
theorem dF_shaped {t : F} (h : t.depth ≤ 64) : SeqAt.shaped (dF t) = true := by
  unfold SeqAt.shaped
  rw [dF_lay, decide_eq_true (Nat.le_trans (dF_depth t) h)]
  rfl
theorem dF_same (t : F) : PyData.eqv (dF t) (dF t) = true := SeqAt.eqv_refl _ (dF_lay t)
theorem dp_ints {K : PySem.W.Frag} {H : Hp} : ∀ ns : List Int, DpAll K H (ns.map V.int) (ns.map PyData.int)
  | [] => .nil
  | n :: ns => .cons (.int n) (dp_ints ns)
theorem ints_lay : ∀ ns : List Int, PyData.canLayAll0 (ns.map PyData.int) = true
  | [] => by simp [PyData.canLayAll0]
  | n :: ns => by simp [PyData.canLayAll0, PyData.canLay0, ints_lay ns]
theorem ints_depth : ∀ ns : List Int, PyData.depthAll (ns.map PyData.int) = 0
  | [] => by simp [PyData.depthAll]
  | n :: ns => by simp [PyData.depthAll, PyData.depth, ints_depth ns]
theorem ints_shaped (ns : List Int) : SeqAt.shaped (.list (ns.map PyData.int)) = true := by
  unfold SeqAt.shaped
  simp [PyData.canLay0, PyData.depth, ints_lay, ints_depth]
theorem ints_same (ns : List Int) : PyData.eqv (.list (ns.map PyData.int)) (.list (ns.map PyData.int)) = true := SeqAt.eqv_refl _ (by simp [PyData.canLay0, ints_lay])
/-- two rising lists of the same members are one -/
theorem rising_one : ∀ {a b : List Int}, a.Pairwise (· < ·) → b.Pairwise (· < ·) → (∀ x, x ∈ a ↔ x ∈ b) → a = b
  | [], [], _, _, _ => rfl
  | [], y :: b, _, _, h => by have := (h y).mpr List.mem_cons_self; cases this
  | x :: a, [], _, _, h => by have := (h x).mp List.mem_cons_self; cases this
  | x :: a, y :: b, ha, hb, h => by
    have ha' := List.pairwise_cons.mp ha
    have hb' := List.pairwise_cons.mp hb
    have e : x = y := by
      rcases List.mem_cons.mp ((h x).mp List.mem_cons_self) with q | q
      · exact q
      · rcases List.mem_cons.mp ((h y).mpr List.mem_cons_self) with r | r
        · exact r.symm
        · have := ha'.1 y r
          have := hb'.1 x q
          omega
    subst e
    congr 1
    refine rising_one ha'.2 hb'.2 fun z => ?_
    constructor
    · intro hz
      rcases List.mem_cons.mp ((h z).mp (List.mem_cons_of_mem _ hz)) with q | q
      · have := ha'.1 z hz
        omega
      · exact q
    · intro hz
      rcases List.mem_cons.mp ((h z).mpr (List.mem_cons_of_mem _ hz)) with q | q
      · have := hb'.1 z hz
        omega
      · exact q
def isOneH : Hd → Bool
  | .one _ _ => true
  | _ => false
theorem in_four (h : Hd) : inV (.str (hw h)) [.str "least", .str "most", .str "some", .str "all"] = isOneH h := by
  cases h with
  | nul b => cases b <;> rfl
  | leaf k n => cases k <;> rfl
  | two b => cases b <;> rfl
  | one k n => cases k <;> rfl
section
variable {P : Program} {w : World} {K : PySem.W.Frag} {mg : Str → Option Value} {base : Heap} {C J B NC FE : Addr}
theorem all_free {f : Addr} {fd : FuncData} (FF : Fun K "_law_free" "_law_free" s_law_free f fd) (b : Binds K fd a_law_free []) (m : mg "_law_free" = some (.ref f)) (T : Txt K mg C J B)
    (h_law_inner : Has P w K mg base "_law_inner" 1 a_law_inner (spInner K)) : ∀ n, Has P w K mg base "_law_free" (n + 1) a_law_free (spFr K n)
  | 0 => ⟨f, fd, m, FF.kp, b, noneOk⟩
  | n + 1 => ⟨f, fd, m, FF.kp, b, ok_law_free n FF T h_law_inner (all_free FF b m T h_law_inner n)⟩
end
end Fw

set_option maxRecDepth 100000
set_option maxHeartbeats 4000000
namespace Fw
open PySem PySem.Spec PyProof.Rows L2
/-- the kids' tidy forms, the number handed on -/
def tidyK (nm : Int → Int) : List F → Int → List F × Int
  | [], n => ([], n)
  | f :: fs, n => ((tidyF f nm n).1 :: (tidyK nm fs (tidyF f nm n).2).1, (tidyK nm fs (tidyF f nm n).2).2)
theorem tidyK_snoc (nm : Int → Int) : ∀ (fs : List F) (f : F) (n : Int), tidyK nm (fs ++ [f]) n = ((tidyK nm fs n).1 ++ [(tidyF f nm (tidyK nm fs n).2).1], (tidyF f nm (tidyK nm fs n).2).2)
  | [], f, n => rfl
  | g :: fs, f, n => by simp [tidyK, tidyK_snoc nm fs f]
theorem tidyK_kids {t : F} {nm : Int → Int} {n : Int} (nv : ∀ x, t ≠ .leaf .var x) (nb : isB t = false) :
    (tidyF t nm n).1.hd = t.hd ∧ (tidyF t nm n).1.kids = (tidyK nm t.kids n).1 ∧ (tidyF t nm n).2 = (tidyK nm t.kids n).2 := by
  cases t with
  | nul b => exact ⟨rfl, rfl, rfl⟩
  | leaf k x =>
    cases k with
    | var => exact absurd rfl (nv x)
    | has => exact ⟨rfl, rfl, rfl⟩
    | lacks => exact ⟨rfl, rfl, rfl⟩
  | two b f g => exact ⟨rfl, rfl, rfl⟩
  | one k x f =>
    have hk : ¬ k.bind = true := by rw [show k.bind = false from nb]; exact Bool.false_ne_true
    simp only [tidyF, if_neg hk, F.kids, tidyK, F.hd, and_self]
theorem AllF.snoc {K : PySem.W.Frag} {H : Hp} {xs : List V} {fs : List F} {x : V} {f : F} (h : AllF K H xs fs) (hx : IsF K H x f) : AllF K H (xs ++ [x]) (fs ++ [f]) := by
  induction h with
  | nil => exact .cons hx .nil
  | cons a _ ih => exact .cons a ih
theorem nd_put {kvs : List (Key × V)} {k : Key} {v : V} (h : (kvs.map (·.1)).Nodup) : ((putK kvs k v).map (·.1)).Nodup := by
  cases e : valV kvs k with
  | none => exact nd_putK v h e
  | some u =>
    have : (putK kvs k v).map (·.1) = kvs.map (·.1) := by
      unfold putK
      rw [valV_any, e]
      simp only [Option.isSome_some, if_true, List.map_map]
      refine List.map_congr_left fun x _ => ?_
      simp only [Function.comp]
      split <;> rfl
    rw [this]
    exact h
theorem valV_at : ∀ {kvs : List (Key × V)} {i : Nat} {k : Key} {v : V}, (kvs.map (·.1)).Nodup → kvs[i]? = some (k, v) → valV kvs k = some v ∧ valV (kvs.take i) k = none
  | [], i, k, v, _, h => by simp at h
  | p :: r, 0, k, v, _, h => by
    cases h
    exact ⟨valV_pos rfl, rfl⟩
  | p :: r, i + 1, k, v, nd, h => by
    have nd' := List.nodup_cons.mp (show (p.1 :: r.map (·.1)).Nodup from nd)
    have ih := valV_at nd'.2 (show r[i]? = some (k, v) from h)
    have ne : ¬ p.1 = k := fun e => nd'.1 (by rw [e]; exact List.mem_map.mpr ⟨(k, v), List.mem_of_getElem? (show r[i]? = some (k, v) from h), rfl⟩)
    exact ⟨by rw [valV_neg ne]; exact ih.1, by rw [List.take_succ_cons, valV_neg ne]; exact ih.2⟩
theorem hv_flat {hd : Hd} {x : V} (h : x ∈ hv hd) : (∃ s, x = .str s) ∨ ∃ n, x = .int n := by
  cases hd <;> simp only [hv, List.mem_cons, List.not_mem_nil, or_false] at h
  · exact .inl ⟨_, h⟩
  · exact h.elim (fun e => .inl ⟨_, e⟩) fun e => .inr ⟨_, e⟩
  · exact .inl ⟨_, h⟩
  · exact h.elim (fun e => .inl ⟨_, e⟩) fun e => .inr ⟨_, e⟩
def spTf (K : PySem.W.Frag) : Nat → Sp
  | 0 => fun _ _ _ _ => False
  | n + 1 => fun vs H Q _ => ∃ (v : V) (t : F) (na : Addr) (kvs : List (Key × V)) (c : Int) (nm : Int → Int), vs = [v, .ref na, .int c] ∧ IsF K H v t ∧ t.depth ≤ n + 1 ∧ H na = some (.dK kvs) ∧ kvs.length + n ≤ 100 ∧ (kvs.map (·.1)).Nodup ∧
      (∀ x ∈ fv t, valV kvs (Sum.inl x) = some (.int (nm x))) ∧
      ∀ (p : Addr) (v' : V) H', Same H H' → SqT K H' p [v', .int (tidyF t nm c).2] → IsF K H' v' (tidyF t nm c).1 → Q (.ref p) H'
section
variable {P : Program} {w : World} {K : PySem.W.Frag} {mg : Str → Option Value} {base : Heap} {C J B NC FE : Addr}
theorem ok_law_tidy_from {f : Addr} {fd : FuncData} (n : Nat) (FF : Fun K "_law_tidy_from" "_law_tidy_from" s_law_tidy_from f fd) (T : Txt K mg C J B)
    (h_law_tidy_from : Has P w K mg base "_law_tidy_from" (n + 1) a_law_tidy_from (spTf K n)) : FnOk P w K mg base CX0 (n + 2) f fd a_law_tidy_from (spTf K (n + 1)) := by
  refine FF.ok sc_law_tidy_from (fun vs H Q E h => ?_) (fun cdv A outer s H vs Q E hr h => ?_)
  · obtain ⟨v, t, na, kvs, c, nm, rfl, _⟩ := h
    rfl
  · obtain ⟨v, t, na, kvs, c, nm, rfl, ht, hdep, hN, hkl, hnd, hnm, k⟩ := h
    have hu := hu_of hr
    refine ⟨_, (pss_cons (ps_if (pt_cmpR op_eq (pe_ix ix_tup (pv 0) pe_int (fun _ _ => rfl)) pe_str (nomark _)) (pss_one (ps_ret (pe_tup (pa_cons (pe_tup (pa_cons pe_str (pa_cons (pe_dget hu (pv 1) (pe_ix ix_tup (pv 0) pe_int (fun _ _ => rfl)) (fun _ _ => rfl)) pa_nil))) (pa_cons (pv 2) pa_nil))))) pss_nil)
      (pss_cons (ps_if (pt_cmpR op_in_seq (pe_ix ix_tup (pv 0) pe_int (fun _ _ => rfl)) (pe_tup (pa_cons pe_str (pa_cons pe_str pa_nil))) (by rfl)) (pss_cons (ps_set (i := 3) sc_law_tidy_from.nd rfl (.inl rfl) pe_dnewK)
      (pss_cons (ps_lock (ps_for PassesOwn.never rfl (pi_keys (pv 1)) (pg_name (i := 4) sc_law_tidy_from.nd rfl (.inl rfl)) (pss_one (ps_dput hu (pv 3) (pv 4) (pe_dget hu (pv 1) (pv 4) (fun _ _ => rfl)) rfl))))
      (pss_cons (ps_dput hu (pv 3) (pe_ix ix_tup (pv 0) pe_int (fun _ _ => rfl)) (pv 2) rfl)
      (pss_cons (ps_asg (pe_callH h_law_tidy_from (hr.mono (by omega)) (pa_cons (pe_ix ix_tup (pv 0) pe_int (fun _ _ => rfl)) (pa_cons (pv 3) (pa_cons (pe_op op_add (pv 2) pe_int) pa_nil)))) (pg_tup rfl (pgs_cons (pg_name (i := 5) sc_law_tidy_from.nd rfl (.inl rfl)) (pgs_cons (pg_name (i := 6) sc_law_tidy_from.nd rfl (.inl rfl)) pgs_nil))))
      (pss_one (ps_ret (pe_tup (pa_cons (pe_tup (pa_cons (pe_ix ix_tup (pv 0) pe_int (fun _ _ => rfl)) (pa_cons (pv 2) (pa_cons (pv 5) pa_nil)))) (pa_cons (pv 6) pa_nil))))))))) pss_nil)
      (pss_cons (ps_set (i := 7) sc_law_tidy_from.nd rfl (.inl rfl) (pe_lst pa_nil))
      (pss_cons (ps_for PassesOwn.never rfl (pi_tup (pv 0)) (pg_name (i := 8) sc_law_tidy_from.nd rfl (.inl rfl)) (pss_cons (ps_if (pt_val (pe_callB call_isi rfl T.z_isinstance (by decide +kernel) (pa_cons (pv 8) (pa_cons (pe_bltn (v := .ty "tuple") (u := .type "tuple") rfl T.z_tuple (by decide +kernel) rfl) pa_nil)))) (pss_one (ps_asg (pe_callH h_law_tidy_from (hr.mono (by omega)) (pa_cons (pv 8) (pa_cons (pv 1) (pa_cons (pv 2) pa_nil)))) (pg_tup rfl (pgs_cons (pg_name (i := 8) sc_law_tidy_from.nd rfl (.inl rfl)) (pgs_cons (pg_name (i := 2) sc_law_tidy_from.nd rfl (.inl rfl)) pgs_nil))))) pss_nil)
      (pss_one (ps_expr (pe_bm PySem.F.plainAttrs_list PySem.F.slot_list_append PySem.F.type_list_append mt_append (pv 7) (pa_cons (pv 8) pa_nil))))))
      (pss_one (ps_ret (pe_tup (pa_cons (pe_callTy call_tuple_of rfl T.z_tuple (by decide +kernel) (pa_cons (pv 7) pa_nil)) (pa_cons (pv 2) pa_nil))))))))), ?_⟩
    obtain ⟨a, ks, rfl, sq, ak⟩ := ht.open
    have at0 : atI (hv t.hd ++ ks) 0 = some (.str (hw t.hd)) := atI_nat (j := 0) (by rw [List.getElem?_append_left (by rcases hv_len t.hd with e | e <;> omega)]; exact hv_head _)
    refine ⟨.ref a, rfl, a, _, _, _, rfl, rfl, sq, at0, rfl, _, rfl, ?_⟩
    by_cases hvar : ∃ x, t = .leaf .var x
    · obtain ⟨x, rfl⟩ := hvar
      cases ak
      have at1 : atI (hv (F.leaf .var x).hd ++ []) 1 = some (.int x) := rfl
      have hget := DGet.k (k := Sum.inl x) hN
      rw [hnm x (List.mem_singleton.mpr rfl)] at hget
      refine (if_pos (decide_eq_true rfl)).mpr ?_
      refine ⟨.ref na, rfl, .ref a, rfl, a, _, 1, .int x, rfl, rfl, sq, at1, na, _, rfl, hget, by show 2 ≤ sizeLine; decide, fun p hp => ?_⟩
      have s1 := Same.new (o := .tup [.str "var", .int (nm x)]) hp
      refine ⟨.int c, rfl, by show 2 ≤ sizeLine; decide, fun q hq => ?_⟩
      have s2 := Same.new (o := .tup [.ref p, .int c]) hq
      exact k q (.ref p) _ (s1.trans s2) (SqT.of upd_same) (.leaf (SqT.of (s2 _ _ upd_same)))
    · refine (if_neg (by rw [decide_eq_false (var_word (hd := t.hd) fun x e => hvar ⟨x, by cases t <;> cases e; rfl⟩)]; exact Bool.false_ne_true)).mpr ?_
      refine ⟨.ref a, rfl, a, _, _, _, rfl, rfl, sq, at0, by show 2 ≤ sizeLine; decide, fun p hp => ⟨p, _, rfl, .inr (SqT.of upd_same), rfl, rfl, _, rfl, ?_⟩⟩
      rw [if_neg Bool.false_ne_true, in_binders, isB_hd]
      have s1 := Same.new (o := .tup [.str "least", .str "most"]) hp
      generalize upd H p (.tup [.str "least", .str "most"]) = H1 at s1
      have sq1 := SqT.same s1 sq
      have ak1 := ak.lk (LKp.same s1)
      have hN1 := s1 _ _ hN
      cases hb : isB t with
      | true =>
        refine iteT ?_
        obtain ⟨kd, x, f, rfl⟩ : ∃ kd x f, t = .one kd x f := by
          cases t with
          | one kd x f => exact ⟨kd, x, f, rfl⟩
          | _ => cases hb
        have hk : kd.bind = true := hb
        cases ak1 with
        | cons hf hn =>
          rename_i vf _
          cases hn
          obtain ⟨m, rfl⟩ : ∃ m, n = m + 1 := by
            cases n with
            | zero => exact absurd hdep (by have : 0 < f.depth := (by cases f <;> simp [F.depth]); simp only [F.depth]; omega)
            | succ m => exact ⟨m, rfl⟩
          have at1 : atI (hv (F.one kd x f).hd ++ [vf]) 1 = some (.int x) := rfl
          have at2 : atI (hv (F.one kd x f).hd ++ [vf]) 2 = some vf := rfl
          -- inner = {}
          intro na2 hna2
          have s2 := Same.new (o := .dK []) hna2
          have nn : na ≠ na2 := ne_of_none hN1 hna2
          refine ⟨na, _, s2 _ _ hN1, trivial, fun od => ?_⟩
          refine ⟨.ref na, rfl, na, od, rfl, .inl ⟨kvs, upd_same, ?_⟩⟩
          refine for_it (walk_keys (d := na) (o := od) (kvs := kvs)) (fun i σ G => ∃ (y4 : Option V), σ = [some (.ref a), some (.ref na), some (.int c), some (.ref na2), y4, none, none, none, none] ∧ G na = some (.frz od (.dK kvs)) ∧ G na2 = some (.dK (kvs.take i)) ∧
              ∀ b o, b ≠ na → b ≠ na2 → H1 b = some o → G b = some o)
            ⟨none, rfl, upd_same, by rw [upd_ne nn.symm, upd_same]; rfl, fun b o n1 n2 e => by rw [upd_ne n1, upd_ne n2]; exact e⟩ (fun i σ G _ ⟨_, _, g, _⟩ => g) ?_ ?_
          · rintro i x0 σ G G' hi ⟨y4, rfl, gN, gI, gK⟩ ⟨rfl, kk, vv, hkv, rfl⟩
            obtain ⟨v1, v2⟩ := valV_at hnd hkv
            refine ⟨.ref na, rfl, kV kk, rfl, na, vv, rfl, .inl ⟨kvs, kk, .inr ⟨od, gN⟩, rfl, v1.symm⟩, .ref na2, rfl, kV kk, rfl, na2, _, rfl, DPut.k (k := kk) gI (by rw [List.length_take]; exact small1000 (by omega)), ?_⟩
            refine ⟨_, rfl, by rw [upd_ne nn]; exact gN, ?_, fun b o n1 n2 e => by rw [upd_ne n2]; exact gK b o n1 n2 e⟩
            rw [upd_same, putK_new _ v2, List.take_add_one, hkv]
            rfl
          · rintro σ G ⟨y4, rfl, gN, gI, gK⟩
            rw [List.take_length] at gI
            refine ⟨gN, ?_⟩
            have s3 : Same H1 (upd G na (.dK kvs)) := fun b o e => by
              by_cases e1 : b = na
              · subst e1
                rw [hN1] at e
                cases e
                exact upd_same
              · rw [upd_ne e1]
                exact gK b o e1 (ne_of_none e hna2) e
            have gI3 : (upd G na (.dK kvs)) na2 = some (.dK kvs) := by rw [upd_ne nn.symm]; exact gI
            generalize upd G na (.dK kvs) = G3 at s3 gI3
            -- inner[statement[1]] = number
            refine ⟨.int c, rfl, .ref na2, rfl, .ref a, rfl, a, _, 1, .int x, rfl, rfl, SqT.same s3 sq1, at1, na2, _, rfl, DPut.k (k := Sum.inl x) gI3 (small1000 (by omega)), ?_⟩
            have s4 : Same H1 (upd G3 na2 (.dK (putK kvs (Sum.inl x) (.int c)))) := fun b o e => by
              rw [upd_ne (ne_of_none e hna2)]
              exact s3 b o e
            have gI4 : (upd G3 na2 (.dK (putK kvs (Sum.inl x) (.int c)))) na2 = some (.dK (putK kvs (Sum.inl x) (.int c))) := upd_same
            generalize upd G3 na2 (.dK (putK kvs (Sum.inl x) (.int c))) = G4 at s4 gI4
            have sq4 := SqT.same s4 sq1
            have lp := length_putK kvs (Sum.inl x) (.int c)
            refine ⟨.ref a, rfl, a, _, 2, vf, rfl, rfl, sq4, at2, .ref na2, rfl, .int c, rfl, c, 1, rfl, rfl, vf, f, na2, putK kvs (Sum.inl x) (.int c), c + 1, fun y => if y = x then c else nm y, rfl, hf.same s4, by simp only [F.depth] at hdep; omega, gI4, by omega, nd_put hnd, fun y hy => ?_, fun p5 v' H5 s5 sqp isf => ?_⟩
            · rw [valV_put]
              show _ = some (V.int (if y = x then c else nm y))
              by_cases e : y = x
              · rw [if_pos (by rw [e]), if_pos e]
              · rw [if_neg (fun q => e (by injection q)), if_neg e]
                refine hnm y ?_
                simp only [fv, if_pos hk, List.mem_filter, decide_eq_true_eq]
                exact ⟨hy, e⟩
            · refine ⟨p5, _, rfl, sqp, rfl, v', _, rfl, _, _, rfl, rfl, ?_⟩
              refine ⟨.ref a, rfl, a, _, _, _, rfl, rfl, SqT.same s5 sq4, at0, .int c, rfl, v', rfl, by show 3 ≤ sizeLine; decide, fun q hq => ?_⟩
              have s6 := Same.new (o := .tup [.str (hw (F.one kd x f).hd), .int c, v']) hq
              refine ⟨_, rfl, by show 2 ≤ sizeLine; decide, fun r hr => ?_⟩
              have s7 := Same.new (o := .tup [.ref q, .int (tidyF f (fun y => if y = x then c else nm y) (c + 1)).2]) hr
              have et : tidyF (.one kd x f) nm c = (.one kd c (tidyF f (fun y => if y = x then c else nm y) (c + 1)).1, (tidyF f (fun y => if y = x then c else nm y) (c + 1)).2) := by simp only [tidyF, if_pos hk]
              refine k r (.ref q) _ (s1.trans (s4.trans (s5.trans (s6.trans s7)))) ?_ ?_
              · rw [et]
                exact SqT.of upd_same
              · rw [et]
                exact .one (SqT.of (s7 _ _ upd_same)) ((isf.same s6).same s7)
      | false =>
        refine iteF ?_
        refine ⟨Nat.zero_le _, fun fo hfo => ?_⟩
        have s2 := Same.new (o := .lst []) hfo
        obtain ⟨th1, th2, th3⟩ := tidyK_kids (t := t) (nm := nm) (n := c) (fun x e => hvar ⟨x, e⟩) hb
        have lk := ak.len
        have sqf := SqT.same s2 sq1
        have hl := hv_len t.hd
        have kl := F.kids_le t
        refine ⟨.ref a, rfl, a, rfl, ⟨_, sqf⟩, for_tup (xs := hv t.hd ++ ks) (fun i σ G => ∃ (fs' : List V) (c' : Int) (y8 : Option V), σ = [some (.ref a), some (.ref na), some (.int c'), none, none, none, none, some (.ref fo), y8] ∧
            Same H1 G ∧ G fo = some (.lst ((hv t.hd).take i ++ fs')) ∧ AllF K G fs' (tidyK nm (t.kids.take (i - (hv t.hd).length)) c).1 ∧ c' = (tidyK nm (t.kids.take (i - (hv t.hd).length)) c).2)
          ⟨[], c, none, rfl, s2, by rw [upd_same]; rfl, by rw [Nat.zero_sub, List.take_zero]; exact .nil, by rw [Nat.zero_sub, List.take_zero]; rfl⟩ (fun i σ G _ ⟨_, _, _, _, sG, _⟩ => SqT.same sG sq1) ?_ ?_⟩
        · rintro i x σ G hx ⟨fs', c', y8, rfl, sG, gf, af, rfl⟩
          have il := (List.getElem?_eq_some_iff.mp hx).1
          rw [List.length_append] at il
          have aflen := af.len
          have fsz : ((hv t.hd).take i ++ fs').length < sizeLine := by
            have e1 : (tidyK nm (t.kids.take (i - (hv t.hd).length)) c).1.length ≤ 2 := by
              have : ∀ (fs : List F) (n : Int), (tidyK nm fs n).1.length = fs.length := by
                intro fs
                induction fs with
                | nil => intro n; rfl
                | cons g fs ih => intro n; simp [tidyK, ih]
              rw [this, List.length_take]
              omega
            rw [List.length_append, List.length_take]
            exact small1000 (by omega)
          by_cases lt : i < (hv t.hd).length
          · rw [List.getElem?_append_left lt] at hx
            have ty : ∃ ty : String, TyX K G x (.type ty) ∧ kitB ty "tuple" = some false := by
              rcases hv_flat (List.mem_of_getElem? hx) with ⟨s, rfl⟩ | ⟨s, rfl⟩
              · exact ⟨"str", .base (.str s), by decide +kernel⟩
              · exact ⟨"int", .base (.int s), by decide +kernel⟩
            obtain ⟨ty, ty1, ty2⟩ := ty
            refine ⟨x, rfl, x, .ty "tuple", .type ty, .type "tuple", false, rfl, .ty "tuple", ty1, kit_ty ty2, false, rfl, ?_⟩
            refine iteF ?_
            have z0 : i - (hv t.hd).length = 0 := by omega
            rw [z0, List.take_zero] at af
            have : fs' = [] := by cases af; rfl
            subst this
            refine ⟨.ref fo, rfl, .inl ⟨rfl, _, SqL.of gf⟩, x, rfl, fo, _, _, rfl, rfl, gf, fsz, ?_⟩
            have z1 : i + 1 - (hv t.hd).length = 0 := by omega
            refine ⟨[], c, _, by rw [z0, List.take_zero]; rfl, fun b o e => by rw [upd_ne (ne_of_none e hfo)]; exact sG b o e, ?_, by rw [z1, List.take_zero]; exact .nil, by rw [z1, List.take_zero]; rfl⟩
            rw [upd_same, List.take_add_one, hx]
            simp
          · rw [List.getElem?_append_right (by omega)] at hx
            obtain ⟨f, hf⟩ : ∃ f, t.kids[i - (hv t.hd).length]? = some f := ⟨t.kids[i - (hv t.hd).length]'(by omega), by simp⟩
            have fm := kid_small (List.mem_of_getElem? hf)
            obtain ⟨m, rfl⟩ : ∃ m, n = m + 1 := by
              cases n with
              | zero => exact absurd hdep (by have : 0 < f.depth := (by cases f <;> simp [F.depth]); omega)
              | succ m => exact ⟨m, rfl⟩
            have isf := (ak1.get hx hf).same sG
            refine ⟨x, rfl, x, .ty "tuple", .type "tuple", .type "tuple", true, rfl, .ty "tuple", isf.ty, kit_ty (by decide +kernel), true, rfl, ?_⟩
            refine iteT ?_
            refine ⟨x, rfl, .ref na, rfl, _, rfl, x, f, na, kvs, (tidyK nm (t.kids.take (i - (hv t.hd).length)) c).2, nm, rfl, isf, by omega, sG _ _ hN1, by omega, hnd, fun y hy => ?_, fun p5 v' H5 s5 sqp isf5 => ?_⟩
            · refine hnm y ?_
              have hm := List.mem_of_getElem? hf
              cases t with
              | nul b => cases hm
              | leaf kd z => cases hm
              | two b g1 g2 =>
                simp only [F.kids, List.mem_cons, List.not_mem_nil, or_false] at hm
                show y ∈ fv g1 ++ fv g2
                rcases hm with rfl | rfl
                · exact List.mem_append_left _ hy
                · exact List.mem_append_right _ hy
              | one kd z g =>
                simp only [F.kids, List.mem_cons, List.not_mem_nil, or_false] at hm
                subst hm
                have hk : ¬ kd.bind = true := by rw [show kd.bind = false from hb]; exact Bool.false_ne_true
                simp only [fv, if_neg hk]
                exact hy
            · refine ⟨p5, _, rfl, sqp, rfl, v', _, rfl, _, _, rfl, rfl, ?_⟩
              have gf5 := s5 _ _ gf
              refine ⟨.ref fo, rfl, .inl ⟨rfl, _, SqL.of gf5⟩, v', rfl, fo, _, _, rfl, rfl, gf5, fsz, ?_⟩
              have lk6 : LKp H5 (upd H5 fo (.lst ((hv t.hd).take i ++ fs' ++ [v']))) := LKp.upd gf5
              have e1 : i + 1 - (hv t.hd).length = (i - (hv t.hd).length) + 1 := by omega
              have e2 : t.kids.take (i + 1 - (hv t.hd).length) = t.kids.take (i - (hv t.hd).length) ++ [f] := by rw [e1, List.take_add_one, hf]; rfl
              refine ⟨fs' ++ [v'], (tidyF f nm (tidyK nm (t.kids.take (i - (hv t.hd).length)) c).2).2, _, rfl, fun b o e => by rw [upd_ne (ne_of_none e hfo)]; exact s5 _ _ (sG b o e), ?_, ?_, ?_⟩
              · rw [upd_same, List.take_of_length_le (i := i) (by omega), List.take_of_length_le (i := i + 1) (by omega), List.append_assoc]
              · rw [e2, tidyK_snoc]
                exact ((af.lk (LKp.same s5)).lk lk6).snoc (isf5.lk lk6)
              · rw [e2, tidyK_snoc]
        · rintro σ G ⟨fs', c', y8, rfl, sG, gf, af, rfl⟩
          rw [List.length_append, show (hv t.hd).length + ks.length - (hv t.hd).length = ks.length by omega, lk, List.take_length] at af
          rw [List.length_append, List.take_of_length_le (by omega)] at gf
          have ec : (tidyK nm (t.kids.take ((hv t.hd ++ ks).length - (hv t.hd).length)) c).2 = (tidyF t nm c).2 := by
            rw [List.length_append, show (hv t.hd).length + ks.length - (hv t.hd).length = ks.length by omega, lk, List.take_length, th3]
          rw [ec]
          refine ⟨.ref fo, rfl, fo, _, rfl, .inl ⟨SqL.of gf, fun tp htp => ?_⟩⟩
          have s5 := Same.new (o := .tup (hv t.hd ++ fs')) htp
          refine ⟨_, rfl, by show 2 ≤ sizeLine; decide, fun q hq => ?_⟩
          have s6 := Same.new (o := .tup [.ref tp, .int (tidyF t nm c).2]) hq
          refine k q (.ref tp) _ (s1.trans (sG.trans (s5.trans s6))) (SqT.of upd_same) ?_
          refine IsF.close (ks := fs') (SqT.of (s6 _ _ ?_)) ?_
          · rw [upd_same, th1]
          · rw [th2]
            exact (af.lk (LKp.same s5)).lk (LKp.same s6)
end
end Fw

set_option maxRecDepth 100000
set_option maxHeartbeats 4000000
namespace Fw
open PySem PySem.Spec PyProof.Rows L2
section
variable {P : Program} {w : World} {K : PySem.W.Frag} {mg : Str → Option Value} {base : Heap} {C J B NC FE : Addr}
theorem all_tidy_from {f : Addr} {fd : FuncData} (FF : Fun K "_law_tidy_from" "_law_tidy_from" s_law_tidy_from f fd) (b : Binds K fd a_law_tidy_from []) (m : mg "_law_tidy_from" = some (.ref f)) (T : Txt K mg C J B) : ∀ n, Has P w K mg base "_law_tidy_from" (n + 1) a_law_tidy_from (spTf K n)
  | 0 => ⟨f, fd, m, FF.kp, b, noneOk⟩
  | n + 1 => ⟨f, fd, m, FF.kp, b, ok_law_tidy_from n FF T (all_tidy_from FF b m T n)⟩
def spLTidy (K : PySem.W.Frag) : Sp := fun vs H Q _ => ∃ (v : V) (t : F), vs = [v] ∧ IsF K H v t ∧ t.depth ≤ 20 ∧ Closed t ∧ ∀ v' H', Same H H' → IsF K H' v' (tidyF t nm0 0).1 → Q v' H'
theorem ok_law_tidy {f : Addr} {fd : FuncData} (FF : Fun K "_law_tidy" "_law_tidy" s_law_tidy f fd) (h_law_tidy_from : Has P w K mg base "_law_tidy_from" 21 a_law_tidy_from (spTf K 20)) : FnOk P w K mg base CX0 22 f fd a_law_tidy (spLTidy K) := by
  refine FF.ok sc_law_tidy (fun vs H Q E h => ?_) (fun cdv A outer s H vs Q E hr h => ?_)
  · obtain ⟨v, t, rfl, _⟩ := h
    rfl
  · obtain ⟨v, t, rfl, ht, hdep, hc, k⟩ := h
    refine ⟨_, (pss_one (ps_ret (pe_ix ix_tup (pe_callH h_law_tidy_from (hr.mono (by omega)) (pa_cons (pv 0) (pa_cons pe_dnewK (pa_cons pe_int pa_nil)))) pe_int (fun _ _ => rfl)))), ?_⟩
    refine ⟨v, rfl, fun na hna => ⟨v, t, na, [], 0, nm0, rfl, ht.same (Same.new hna), hdep, upd_same, by simp, List.nodup_nil, fun x hx => ?_, fun p v' H' s' sqp isf => ?_⟩⟩
    · rw [closed_fv.mpr hc] at hx
      cases hx
    · exact ⟨p, _, 0, v', rfl, rfl, sqp, rfl, k v' H' ((Same.new hna).trans s') isf⟩
end
end Fw

set_option maxRecDepth 100000
set_option maxHeartbeats 4000000
namespace Fw
open PySem PySem.Spec PyProof.Rows L2
theorem stk_len {t : F} : ∀ (st : Stk) (j : Nat) (r : Rec), (infos t)[j]? = some r → r.stk = st → st.length ≤ j
  | [], _, _, _, _ => Nat.zero_le _
  | (x, q) :: rest, j, r, h, e => by
    obtain ⟨h1, k, f, a, h2, _⟩ := infos_stk j j r x q rest (Nat.le_refl _) h e
    have := stk_len rest q _ h2 rfl
    rw [List.length_cons]
    omega
theorem above_len (x : Int) : ∀ st : Stk, (aboveP x st).length ≤ st.length
  | [] => Nat.le_refl _
  | (y, p) :: r => by
    have := above_len x r
    simp only [aboveP]
    split
    · exact Nat.zero_le _
    · simp only [List.length_cons]
      omega
def kAt (t : F) (b : Nat) : One := match (infos t)[b]? with
  | some r => kOf r.sub
  | none => .some
def pass (r : Rec) : List Nat := match r.sub with
  | .leaf .var x => aboveP x r.stk
  | _ => []
def oth (t : F) (p : Nat) (b : Nat) : Bool := decide (kAt t b ≠ kAt t p)
def contrib (t : F) (p : Nat) (r : Rec) : List Nat := if placeOf r = (p : Int) then (pass r).filter (oth t p) else []
def spk (t : F) (p n : Nat) : List Nat := ((infos t).take n).flatMap (contrib t p)
theorem spk_succ {t : F} {p n : Nat} {r : Rec} (h : (infos t)[n]? = some r) : spk t p (n + 1) = spk t p n ++ contrib t p r := by
  unfold spk
  rw [List.take_add_one, h, List.flatMap_append]
  simp
theorem contrib_len {t : F} {p n : Nat} {r : Rec} (h : (infos t)[n]? = some r) : (contrib t p r).length ≤ n := by
  unfold contrib
  split
  · refine Nat.le_trans (List.length_filter_le _ _) ?_
    unfold pass
    split
    · exact Nat.le_trans (above_len _ _) (stk_len _ _ _ h rfl)
    · exact Nat.zero_le _
  · exact Nat.zero_le _
theorem spk_len {t : F} {p : Nat} : ∀ n, n ≤ t.size → (spk t p n).length ≤ n * t.size
  | 0, _ => by simp [spk]
  | n + 1, h => by
    obtain ⟨r, hr⟩ : ∃ r, (infos t)[n]? = some r := ⟨(infos t)[n]'(by rw [info_len]; omega), by simp⟩
    have h1 := spk_len n (Nat.le_of_succ_le h) (t := t) (p := p)
    have h2 := contrib_len (p := p) hr
    rw [spk_succ hr, List.length_append, Nat.succ_mul]
    omega
/-- the list of a binder, at its end -/
theorem spk_mem {t : F} {p : Nat} {b : Nat} : b ∈ spk t p t.size ↔ oth t p b = true ∧ ∃ rv ∈ infos t, ∃ z, rv.sub = .leaf .var z ∧ posOf z rv.stk = (p : Int) ∧ b ∈ aboveP z rv.stk := by
  unfold spk
  rw [List.take_of_length_le (by rw [info_len]; exact Nat.le_refl _), List.mem_flatMap]
  constructor
  · rintro ⟨r, hr, hb⟩
    unfold contrib at hb
    split at hb
    · rename_i hp
      obtain ⟨h1, h2⟩ := List.mem_filter.mp hb
      obtain ⟨s, a, st⟩ := r
      unfold placeOf at hp
      unfold pass at h1
      cases s with
      | leaf k x =>
        cases k with
        | var => exact ⟨h2, _, hr, x, rfl, hp, h1⟩
        | has => cases h1
        | lacks => cases h1
      | _ => cases h1
    · cases hb
  · rintro ⟨h0, r, hr, z, h1, h2, h3⟩
    refine ⟨r, hr, ?_⟩
    have e : placeOf r = (p : Int) := by unfold placeOf; rw [h1]; exact h2
    unfold contrib
    rw [if_pos e]
    refine List.mem_filter.mpr ⟨?_, h0⟩
    unfold pass
    rw [h1]
    exact h3
theorem wO_ne {k k' : One} : V.str (wO k) = V.str (wO k') ↔ k = k' := by
  constructor
  · intro e
    injection e with e
    cases k <;> cases k' <;> first | rfl | exact absurd e (by decide)
  · rintro rfl
    rfl
abbrev NL (H : Hp) (a : Addr) (xs : List Nat) : Prop := H a = some (.lst (xs.map fun b => V.int (b : Nat)))
/-- a dict of lists, one for each binder -/
def SpeakAt (H : Hp) (da : Addr) (t : F) : Prop := ∃ kvs : List (Key × V), H da = some (.dK kvs) ∧
  ∀ p r, (infos t)[p]? = some r → isB r.sub = true → ∃ la, valV kvs (Sum.inl ((p : Nat) : Int)) = some (.ref la) ∧ NL H la (spk t p t.size)
section
variable {P : Program} {w : World} {K : PySem.W.Frag} {mg : Str → Option Value} {base : Heap} {C J B NC FE : Addr}
def spSpeak (K : PySem.W.Frag) (C : Addr) : Sp := fun vs H Q _ => ∃ (pa : Addr) (t : F), vs = [.ref pa] ∧ PartsAt K C H pa (pre t (-1) 0) ∧ t.size ≤ 100 ∧
  ∀ da H', Same H H' → SpeakAt H' da t → Q (.ref da) H'
theorem ok_speaking {f : Addr} {fd : FuncData} (FF : Fun K "speaking_binders" "speaking_binders" s_speaking_binders f fd) (T : Txt K mg C J B)
    (h_nearest_around : Has P w K mg base "nearest_around" 1 a_nearest_around (spNear K C B)) (h_binder_places : Has P w K mg base "binder_places" 2 a_binder_places (spPlaces K C)) : FnOk P w K mg base CX0 3 f fd a_speaking_binders (spSpeak K C) := by
  refine FF.ok sc_speaking_binders (fun vs H Q E h => ?_) (fun cdv A outer s H vs Q E hr h => ?_)
  · obtain ⟨pa, t, rfl, _⟩ := h
    rfl
  · obtain ⟨pa, t, rfl, PA, hsz, k⟩ := h
    have hu := hu_of hr
    have small : ∀ n : Nat, n ≤ 10000 → n < sizeLine := fun n hn => Nat.lt_of_le_of_lt hn (by decide)
    have lenI : (infos t).length = t.size := info_len _ _ _ _
    have nlen : (nearL t).length = t.size := by rw [nearL, List.length_map, lenI]
    have plen : (placeL t).length = t.size := by rw [placeL, List.length_map, lenI]
    refine ⟨_, (pss_cons (ps_set (i := 1) sc_speaking_binders.nd rfl (.inl rfl) (pe_callH h_nearest_around (hr.mono (by omega)) (pa_cons (pv 0) (pa_cons (pe_glob rfl T.m_BINDERS (show RelV (.ref _) _ from rfl)) pa_nil))))
      (pss_cons (ps_setDc (i := 3) (own := [("at", 2), ("part", 6)]) rfl sc_speaking_binders.nd rfl rfl (swD_true rfl rfl rfl (by decide +kernel)) (pi_enum rfl T.z_enumerate (pa_cons (pv 0) pa_nil)) (blkOk_by (own := [("at", 2), ("part", 6)]) (N := n_speaking_binders) (sc := defScope s_speaking_binders) (by decide +kernel)) (fun _ _ _ _ _ => (show PG _ _ (gTup K 2 _) from pg_tup rfl (pgs_cons (pg_name (i := 2) sc_speaking_binders.nd rfl (.inl rfl)) (pgs_cons (pg_name (i := 6) sc_speaking_binders.nd rfl (.inl rfl)) pgs_nil)))) (fun _ _ _ _ _ => (pts_one (pt_cmpR (@id (OpR _ _ (rIn K false)) op_in_seq) (pe_ix (@id (IxR _ (rIxT K)) ix_tup) (show PE _ _ (tFld K _ "head") from pe_fld (pv 6) rfl) pe_int (fun _ _ => rfl)) (pe_glob rfl T.m_BINDERS (show RelV (.ref _) _ from rfl)) (by rfl)))) (fun _ _ _ _ _ => (pv 2)) (fun _ _ _ _ _ => (pe_lst pa_nil)))
      (pss_cons (ps_for PassesOwn.never rfl (pi_enum rfl T.z_enumerate (pa_cons (pe_callH h_binder_places (hr.mono (by omega)) (pa_cons (pv 0) pa_nil)) pa_nil)) (pg_tup rfl (pgs_cons (pg_name (i := 2) sc_speaking_binders.nd rfl (.inl rfl)) (pgs_cons (pg_name (i := 4) sc_speaking_binders.nd rfl (.inl rfl)) pgs_nil))) (pss_one (ps_if (pt_cmpR op_ge (pv 4) pe_int (nomark _)) (pss_cons (ps_set (i := 5) sc_speaking_binders.nd rfl (.inl rfl) (pe_ix ix_list (pv 1) (pv 2) (fun _ _ => rfl)))
      (pss_one (ps_while PassesOwn.never (pt_cmpR op_ne (pv 5) (pv 4) (nomark _)) (pss_cons (ps_if (pt_cmpR op_ne (pe_ix ix_tup (pe_fld (pe_ix ix_list (pv 0) (pv 5) (fun _ _ => rfl)) rfl) pe_int (fun _ _ => rfl)) (pe_ix ix_tup (pe_fld (pe_ix ix_list (pv 0) (pv 4) (fun _ _ => rfl)) rfl) pe_int (fun _ _ => rfl)) (nomark _)) (pss_one (ps_expr (pe_bm PySem.F.plainAttrs_list PySem.F.slot_list_append PySem.F.type_list_append mt_append (pe_dget hu (pv 3) (pv 4) (fun _ _ => rfl)) (pa_cons (pv 5) pa_nil)))) pss_nil)
      (pss_one (ps_set (i := 5) sc_speaking_binders.nd rfl (.inl rfl) (pe_ix ix_list (pv 1) (pv 5) (fun _ _ => rfl)))))))) pss_nil)))
      (pss_one (ps_ret (pv 3)))))), ?_⟩
    refine ⟨.ref pa, rfl, pa, t, rfl, PA, by omega, fun na H1 s1 n1 => ?_⟩
    obtain ⟨R, hR, PR⟩ := id (PA.same s1)
    have lenR : R.length = t.size := by rw [PR.1, pre_len]
    -- the lists, none of them filled
    refine ⟨.ref pa, rfl, pa, _, rfl, hR, fun D hD => ?_⟩
    refine dc_it (walk_enum (xs := R.map fun (r : PRec) => V.ref r.p)) (fun i G => Same H1 G ∧ ∃ (kvs : List (Key × V)) (la : Nat → Addr), G D = some (.dK kvs) ∧ kvs.length ≤ i ∧ (∀ p : Nat, i ≤ p → valV kvs (Sum.inl (p : Int)) = none) ∧
      (∀ p r, p < i → (infos t)[p]? = some r → isB r.sub = true → valV kvs (Sum.inl (p : Int)) = some (.ref (la p)) ∧ NL G (la p) [] ∧ H1 (la p) = none ∧ la p ≠ D) ∧
      ∀ p q r r', p < i → q < i → (infos t)[p]? = some r → isB r.sub = true → (infos t)[q]? = some r' → isB r'.sub = true → la p = la q → p = q)
      ⟨Same.new hD, [], fun _ => D, upd_same, Nat.le_refl _, fun p _ => rfl, fun p r h => absurd h (Nat.not_lt_zero _), fun p q r r' h => absurd h (Nat.not_lt_zero _)⟩
      (fun i G _ q => q.1.seq hR) ?_ ?_
    · rintro i x G G' hi ⟨sG, kvs, la, gD, lk, hout, hin, inj⟩ ⟨tp, x1, x2, rfl, htp, rfl, e1, e2⟩
      rw [List.length_map, lenR] at hi
      obtain ⟨r, pr, hr', hpr, z0⟩ := PartsAt.nth (pa := pa) PR hi
      have e2' : (R.map fun (r : PRec) => V.ref r.p)[i]? = some x2 := e2
      rw [List.getElem?_map, hpr] at e2'
      cases e1
      cases e2'
      have st := Same.new (o := .tup [.int (i : Nat), .ref pr.p]) htp
      have sG' := sG.trans st
      have z := z0.same sG'
      have gD' := st _ _ gD
      have hin' : ∀ p r, p < i → (infos t)[p]? = some r → isB r.sub = true → valV kvs (Sum.inl (p : Int)) = some (.ref (la p)) ∧ NL (upd G tp (.tup [.int (i : Nat), .ref pr.p])) (la p) [] ∧ H1 (la p) = none ∧ la p ≠ D := fun p r a b c =>
        have y := hin p r a b c
        ⟨y.1, st _ _ y.2.1, y.2.2⟩
      have tT : SqT K (upd G tp (.tup [.int (i : Nat), .ref pr.p])) tp [.int (i : Nat), .ref pr.p] := SqT.of upd_same
      generalize upd G tp (.tup [.int (i : Nat), .ref pr.p]) = G1 at st sG' z gD' tT hin'
      refine ⟨tp, _, rfl, tT, rfl, .int (i : Nat), _, rfl, .ref pr.p, _, rfl, rfl, rfl, ?_⟩
      refine ⟨.ref pr.p, rfl, pr.p, C, pr.dx, _, .ref pr.h, rfl, z.ob, T.cl, T.nH, fld_head _ _ _, pr.h, _, _, _, rfl, rfl, z.hd, hd_at0 _, B, _, rfl, .inr (T.c_BINDERS _), rfl, rfl, _, rfl, ?_⟩
      rw [if_neg Bool.false_ne_true, in_binders, isB_hd]
      cases hb : isB r.sub with
      | false =>
        refine iteF ?_
        refine ⟨sG', kvs, la, gD', Nat.le_succ_of_le lk, fun p hp => hout p (by omega), fun p r2 hp h2 hb2 => ?_, fun p q r2 r3 hp hq h2 hb2 h3 hb3 e => ?_⟩
        · by_cases e : p = i
          · subst e
            rw [hr'] at h2
            cases h2
            rw [hb] at hb2
            cases hb2
          · exact hin' p r2 (by omega) h2 hb2
        · by_cases ep : p = i
          · subst ep
            rw [hr'] at h2
            cases h2
            rw [hb] at hb2
            cases hb2
          · by_cases eq : q = i
            · subst eq
              rw [hr'] at h3
              cases h3
              rw [hb] at hb3
              cases hb3
            · exact inj p q r2 r3 (by omega) (by omega) h2 hb2 h3 hb3 e
      | true =>
        refine iteT ?_
        refine ⟨.int (i : Nat), rfl, Nat.zero_le _, fun l hl => ?_⟩
        have s2 := Same.new (o := .lst []) hl
        have gl : (upd G1 l (.lst [])) l = some (.lst []) := upd_same
        have lD : l ≠ D := fun e => by rw [e, gD'] at hl; cases hl
        have hl1 : H1 l = none := sG'.free hl
        refine ⟨kvs, Sum.inl ((i : Nat) : Int), rfl, s2 _ _ gD', small _ (by omega), fun b o e => ?_, putK kvs (Sum.inl ((i : Nat) : Int)) (.ref l), fun p => if p = i then l else la p, upd_same, ?_, fun p hp => ?_, fun p r2 hp h2 hb2 => ?_, fun p q r2 r3 hp hq h2 hb2 h3 hb3 e => ?_⟩
        · rw [upd_ne (ne_of_none e hD)]
          exact s2 _ _ (sG' _ _ e)
        · rw [putK_new _ (hout i (Nat.le_refl _)), List.length_append]
          exact Nat.succ_le_succ lk
        · rw [valV_put, if_neg (fun q => by injection q with q; omega)]
          exact hout p (by omega)
        · rw [valV_put]
          by_cases e : p = i
          · subst e
            rw [if_pos rfl]
            simp only [if_true]
            exact ⟨trivial, by show _ = _; rw [upd_ne lD]; exact gl, hl1, lD⟩
          · rw [if_neg (fun q => e (by injection q with q; omega))]
            simp only [if_neg e]
            obtain ⟨y1, y2, y3, y4⟩ := hin' p r2 (by omega) h2 hb2
            exact ⟨y1, by show _ = _; rw [upd_ne y4]; exact s2 _ _ y2, y3, y4⟩
        · have fresh : ∀ p r2, p < i → (infos t)[p]? = some r2 → isB r2.sub = true → la p ≠ l := fun p r2 a b c e => by
            have y := (hin' p r2 a b c).2.1
            rw [e] at y
            have y' : G1 l = some (.lst []) := y
            rw [hl] at y'
            cases y'
          by_cases ep : p = i
          · by_cases eq : q = i
            · rw [ep, eq]
            · simp only [if_pos ep, if_neg eq] at e
              exact absurd e.symm (fresh q r3 (by omega) h3 hb3)
          · by_cases eq : q = i
            · simp only [if_pos eq, if_neg ep] at e
              exact absurd e (fresh p r2 (by omega) h2 hb2)
            · simp only [if_neg ep, if_neg eq] at e
              exact inj p q r2 r3 (by omega) (by omega) h2 hb2 h3 hb3 e
    · rintro G2 ⟨s2, kvs, la, gD, lk, _, hin, inj⟩
      rw [List.length_map, lenR] at hin inj
      have bin : ∀ p r, (infos t)[p]? = some r → p < t.size := fun p r h => by
        have := (List.getElem?_eq_some_iff.mp h).1
        omega
      have n2 := s2 _ _ n1
      -- the places
      refine ⟨.ref pa, rfl, pa, t, rfl, PA.same (s1.trans s2), by omega, fun pl H3 s3 hpl => ?_⟩
      have s23 := s2.trans s3
      have gD3 := s3 _ _ gD
      have hlD : ∀ p r, (infos t)[p]? = some r → isB r.sub = true → la p ≠ D := fun p r h b => (hin p r (bin p r h) h b).2.2.2
      have hl3 : ∀ p r, (infos t)[p]? = some r → isB r.sub = true → NL H3 (la p) [] := fun p r h b => s3 _ _ (hin p r (bin p r h) h b).2.1
      have hl1 : ∀ p r, (infos t)[p]? = some r → isB r.sub = true → H1 (la p) = none := fun p r h b => (hin p r (bin p r h) h b).2.2.1
      have hval : ∀ (p : Nat) (r : Rec), (infos t)[p]? = some r → isB r.sub = true → valV kvs (Sum.inl (p : Int)) = some (.ref (la p)) := fun p r h b => (hin p r (bin p r h) h b).1
      have inj' : ∀ p q r r', (infos t)[p]? = some r → isB r.sub = true → (infos t)[q]? = some r' → isB r'.sub = true → la p = la q → p = q := fun p q r r' a b c d e => inj p q r r' (bin p r a) (bin q r' c) a b c d e
      have hlna : ∀ p r, (infos t)[p]? = some r → isB r.sub = true → na ≠ la p := fun p r h b => ne_of_none n1 (hl1 p r h b)
      have plne : ∀ p r, (infos t)[p]? = some r → isB r.sub = true → pl ≠ la p := fun p r h b e => by
        have y := hl3 p r h b
        have y' : H3 (la p) = some (.lst []) := y
        rw [← e, hpl] at y'
        have y2 := congrArg List.length (HO.lst.inj (Option.some.inj y'))
        rw [List.length_map, plen] at y2
        have := F.size_pos t
        simp at y2
        omega
      have kind : ∀ p r, (infos t)[p]? = some r → isB r.sub = true → V.str (hw r.sub.hd) = V.str (wO (kAt t p)) := fun p r h b => by
        unfold kAt
        rw [h]
        obtain ⟨sb, a, stk⟩ := r
        cases sb with
        | one kd x f => rfl
        | _ => cases b
      refine ⟨pl, _, rfl, SqL.of hpl, for_it (walk_enum (xs := (placeL t).map V.int)) (fun i σ G => ∃ (y2 y4 y5 : Option V), σ = [some (.ref pa), some (.ref na), y2, some (.ref D), y4, y5, none] ∧
        (∀ b o, (∀ p r, (infos t)[p]? = some r → isB r.sub = true → b ≠ la p) → H3 b = some o → G b = some o) ∧ ∀ p r, (infos t)[p]? = some r → isB r.sub = true → NL G (la p) (spk t p i))
        ⟨none, none, none, rfl, fun _ _ _ e => e, hl3⟩ (fun i σ G _ ⟨_, _, _, _, kp, _⟩ => SqL.of (kp _ _ plne hpl)) ?_ ?_⟩
      · rintro i x σ G G' hi ⟨y2, y4, y5, rfl, kp, cont⟩ ⟨tp, x1, x2, rfl, htp, rfl, e1, e2⟩
        rw [List.length_map, plen] at hi
        obtain ⟨r, hr'⟩ : ∃ r, (infos t)[i]? = some r := ⟨(infos t)[i]'(by omega), by simp⟩
        have e2' : ((placeL t).map V.int)[i]? = some x2 := e2
        rw [List.getElem?_map, placeL, List.getElem?_map, hr'] at e2'
        cases e1
        cases e2'
        have st := Same.new (o := .tup [.int (i : Nat), .int (placeOf r)]) htp
        have kp' : ∀ b o, (∀ p r, (infos t)[p]? = some r → isB r.sub = true → b ≠ la p) → H3 b = some o → (upd G tp (.tup [.int (i : Nat), .int (placeOf r)])) b = some o := fun b o h e => st _ _ (kp b o h e)
        have cont' : ∀ p r', (infos t)[p]? = some r' → isB r'.sub = true → NL (upd G tp (.tup [.int (i : Nat), .int (placeOf r)])) (la p) (spk t p i) := fun p r' a b => st _ _ (cont p r' a b)
        have tT : SqT K (upd G tp (.tup [.int (i : Nat), .int (placeOf r)])) tp [.int (i : Nat), .int (placeOf r)] := SqT.of upd_same
        generalize upd G tp (.tup [.int (i : Nat), .int (placeOf r)]) = G1 at st kp' cont' tT
        have same1 : ∀ {G : Hp}, (∀ b o, (∀ p r, (infos t)[p]? = some r → isB r.sub = true → b ≠ la p) → H3 b = some o → G b = some o) → Same H1 G := fun kk b o e =>
          kk b o (fun p r h hb => ne_of_none e (hl1 p r h hb)) (s23 _ _ e)
        refine ⟨tp, _, rfl, tT, rfl, .int (i : Nat), _, rfl, .int (placeOf r), _, rfl, rfl, ?_⟩
        refine ⟨.int (placeOf r), rfl, _, _, rfl, rfl, _, rfl, ite2 (fun c => ?_) (fun c => ?_)⟩
        · -- a variable with its binder
          have ge : 0 ≤ placeOf r := of_decide_eq_true c
          obtain ⟨p0, hp0⟩ : ∃ p0 : Nat, placeOf r = (p0 : Int) := ⟨(placeOf r).toNat, by omega⟩
          obtain ⟨x, hx⟩ : ∃ x, r.sub = .leaf .var x := by
            obtain ⟨sb, a, stk⟩ := r
            cases sb with
            | leaf k x =>
              cases k with
              | var => exact ⟨x, rfl⟩
              | has => exact absurd ge (by show ¬ 0 ≤ (-1 : Int); decide)
              | lacks => exact absurd ge (by show ¬ 0 ≤ (-1 : Int); decide)
            | _ => exact absurd ge (by show ¬ 0 ≤ (-1 : Int); decide)
          have hpos : posOf x r.stk = (p0 : Int) := by rw [← hp0]; unfold placeOf; rw [hx]
          have inN : ∀ st : Stk, posOf x st = (p0 : Int) → x ∈ st.map (·.1) := fun st e => Classical.byContradiction fun q => by
            have := (posOf_neg x st).mpr q
            omega
          obtain ⟨p1, rb, q1, q2, hrb, hbb⟩ := infos_pos r.stk i r hr' rfl (inN _ hpos)
          have : p1 = p0 := by omega
          subst this
          rw [hp0]
          have nget : (nearL t)[i]? = some (topPos r.stk) := by rw [nearL, List.getElem?_map, hr']; rfl
          refine ⟨.ref na, rfl, .int (i : Nat), rfl, na, _, _, .int (topPos r.stk), rfl, rfl, SqL.of (same1 kp' _ _ n1), atI_nat (j := i) (by rw [List.getElem?_map, nget]; rfl), ?_⟩
          refine ⟨fun m σ G' => ∃ (st' : Stk) (j0 : Nat) (r0 : Rec) (done : List Nat), σ = [some (.ref pa), some (.ref na), some (.int (i : Nat)), some (.ref D), some (.int (p1 : Nat)), some (.int (topPos st')), none] ∧ posOf x st' = (p1 : Int) ∧ (infos t)[j0]? = some r0 ∧ r0.stk = st' ∧ aboveP x r.stk = done ++ aboveP x st' ∧
            (∀ b o, (∀ p r, (infos t)[p]? = some r → isB r.sub = true → b ≠ la p) → H3 b = some o → G' b = some o) ∧ (∀ p r', (infos t)[p]? = some r' → isB r'.sub = true → NL G' (la p) (spk t p i ++ if p = p1 then done.filter (oth t p1) else [])) ∧ m = st'.length,
            ⟨_, r.stk, i, r, [], rfl, hpos, hr', rfl, rfl, kp', fun p r' a b => ?_, rfl⟩, ?_⟩
          · have e : (if p = p1 then ([] : List Nat).filter (oth t p1) else []) = [] := by split <;> rfl
            rw [e, List.append_nil]
            exact cont' p r' a b
          rintro m σ G' ⟨st', j0, r0, done, rfl, hpos', hr0, est, hab, kk, cc, rfl⟩
          refine ⟨.int (topPos st'), rfl, .int (p1 : Nat), rfl, rfl, _, rfl, ?_⟩
          cases st' with
          | nil =>
            simp only [posOf] at hpos'
            omega
          | cons yp rest =>
            obtain ⟨y, p⟩ := yp
            obtain ⟨hp, kd, f, a, hrp, hk⟩ := infos_stk j0 j0 r0 y p rest (Nat.le_refl _) hr0 est
            have j0lt : j0 < t.size := bin j0 r0 hr0
            have S1 := same1 kk
            by_cases ey : y = x
            · -- the binder is reached
              subst ey
              have epp : p = p1 := by simp only [posOf, if_pos] at hpos'; omega
              subst epp
              show if (!decide (V.int ((p : Nat) : Int) = V.int ((p : Nat) : Int))) = true then _ else _
              rw [decide_eq_true (rfl : V.int ((p : Nat) : Int) = V.int ((p : Nat) : Int))]
              refine iteF ?_
              rw [show aboveP y ((y, p) :: rest) = [] from if_pos rfl, List.append_nil] at hab
              refine ⟨_, _, _, rfl, kk, fun q r' h b => ?_⟩
              rw [spk_succ hr']
              have ec : contrib t q r = if q = p then done.filter (oth t p) else [] := by
                unfold contrib
                rw [hp0]
                by_cases e : q = p
                · subst e
                  rw [if_pos rfl, if_pos rfl]
                  unfold pass
                  rw [hx, ← hab]
                · rw [if_neg (by omega), if_neg e]
              rw [ec]
              exact cc q r' h b
            · have hpos2 : posOf x rest = (p1 : Int) := by
                simp only [posOf, if_neg ey] at hpos'
                exact hpos'
              obtain ⟨p2, rb2, q3, q4, _, _⟩ := infos_pos rest p _ hrp rfl (inN _ hpos2)
              have lt : p1 < p := by omega
              show if (!decide (V.int ((p : Nat) : Int) = V.int ((p1 : Nat) : Int))) = true then _ else _
              rw [decide_eq_false (fun q : V.int ((p : Nat) : Int) = V.int ((p1 : Nat) : Int) => by injection q with q; omega)]
              refine iteT ⟨_, fun σ' H' z => z, ?_⟩
              obtain ⟨r2, pr2, hr2, hpr2, z2⟩ := PartsAt.nth (pa := pa) PR (show p < t.size by omega)
              obtain ⟨r3, pr3, hr3, hpr3, z3⟩ := PartsAt.nth (pa := pa) PR (show p1 < t.size by omega)
              have z2' := z2.same S1
              have z3' := z3.same S1
              have hb2 : isB r2.sub = true := by
                rw [hrp] at hr2
                cases hr2
                exact hk
              have hb3 : isB r3.sub = true := by
                rw [hrb] at hr3
                cases hr3
                exact hbb
              refine ⟨.ref pa, rfl, .int (p : Nat), rfl, pa, _, _, .ref pr2.p, rfl, rfl, S1.seq hR, atI_nat (j := p) (by rw [List.getElem?_map, hpr2]; rfl), pr2.p, C, pr2.dx, _, .ref pr2.h, rfl, z2'.ob, T.cl, T.nH, fld_head _ _ _, pr2.h, _, _, _, rfl, rfl, z2'.hd, hd_at0 _, ?_⟩
              refine ⟨.ref pa, rfl, .int (p1 : Nat), rfl, pa, _, _, .ref pr3.p, rfl, rfl, S1.seq hR, atI_nat (j := p1) (by rw [List.getElem?_map, hpr3]; rfl), pr3.p, C, pr3.dx, _, .ref pr3.h, rfl, z3'.ob, T.cl, T.nH, fld_head _ _ _, pr3.h, _, _, _, rfl, rfl, z3'.hd, hd_at0 _, rfl, _, rfl, ?_⟩
              have eo : (!decide (V.str (hw r2.sub.hd) = V.str (hw r3.sub.hd))) = oth t p1 p := by
                rw [kind p r2 hr2 hb2, kind p1 r3 hr3 hb3]
                unfold oth
                by_cases q : kAt t p = kAt t p1
                · rw [decide_eq_true (wO_ne.mpr q), decide_eq_false (fun z => z q)]
                  rfl
                · rw [decide_eq_false (fun z => q (wO_ne.mp z)), decide_eq_true q]
                  rfl
              rw [eo]
              refine join (G := G') (fun G5 => (∀ b o, (∀ p r, (infos t)[p]? = some r → isB r.sub = true → b ≠ la p) → H3 b = some o → G5 b = some o) ∧ (∀ q r', (infos t)[q]? = some r' → isB r'.sub = true → NL G5 (la q) (spk t q i ++ if q = p1 then (done ++ [p]).filter (oth t p1) else []))) ?_ ?_ ?_
              · rintro G5 ⟨k5, c5⟩
                refine ⟨.ref na, rfl, .int (p : Nat), rfl, na, _, _, .int (topPos rest), rfl, rfl, SqL.of (same1 k5 _ _ n1), atI_nat (j := p) (by rw [List.getElem?_map, nearL, List.getElem?_map, hrp]; rfl), ?_⟩
                refine ⟨rest.length, Nat.lt_succ_self _, rest, p, _, done ++ [p], rfl, hpos2, hrp, rfl, ?_, k5, c5, rfl⟩
                rw [hab]
                simp only [aboveP, if_neg ey, List.append_assoc, List.singleton_append]
              · intro co rest5
                have hget := DGet.k (k := Sum.inl ((p1 : Nat) : Int)) (kk _ _ (fun q r' h b e => hlD q r' h b e.symm) gD3)
                rw [hval p1 rb hrb hbb] at hget
                have gl := cc p1 rb hrb hbb
                rw [if_pos rfl] at gl
                refine ⟨.ref D, rfl, .int (p1 : Nat), rfl, D, _, rfl, hget, .inl ⟨rfl, _, SqL.of gl⟩, .int (p : Nat), rfl, la p1, _, _, rfl, rfl, gl, ?_, rest5 _ ⟨fun b o h e => ?_, fun q r' h b => ?_⟩⟩
                · have l1 := spk_len i (Nat.le_of_lt hi) (t := t) (p := p1)
                  have l2 := above_len x r.stk
                  have l3 := stk_len _ _ _ hr' rfl
                  have l4 := congrArg List.length hab
                  have l5 := List.length_filter_le (oth t p1) done
                  rw [List.length_append] at l4
                  rw [List.length_map, List.length_append]
                  have l6 : i * t.size ≤ 100 * 100 := Nat.mul_le_mul (by omega) hsz
                  exact Nat.lt_of_le_of_lt (show _ ≤ 20000 by omega) (by decide)
                · rw [upd_ne (h p1 rb hrb hbb)]
                  exact kk b o h e
                · by_cases e : q = p1
                  · subst e
                    rw [if_pos rfl]
                    show _ = _
                    rw [upd_same, List.filter_append, List.filter_cons_of_pos (by exact co), ← List.append_assoc, List.map_append (l₁ := spk t q i ++ _)]
                    rfl
                  · have nl : la q ≠ la p1 := fun z => e (inj' q p1 r' rb h b hrb hbb z)
                    show _ = _
                    rw [upd_ne nl]
                    have := cc q r' h b
                    rw [if_neg e] at this ⊢
                    exact this
              · intro co
                refine ⟨kk, fun q r' h b => ?_⟩
                have := cc q r' h b
                rw [List.filter_append, List.filter_cons_of_neg (by rw [co]; exact Bool.false_ne_true)]
                rw [show List.filter (oth t p1) [] = [] from rfl, List.append_nil]
                exact this
        · -- none
          have neg : ¬ 0 ≤ placeOf r := fun q => c (decide_eq_true q)
          refine ⟨_, _, _, rfl, kp', fun p r' h b => ?_⟩
          rw [spk_succ hr']
          have e : contrib t p r = [] := by
            unfold contrib
            rw [if_neg (by omega)]
          rw [e, List.append_nil]
          exact cont' p r' h b
      · rintro σ G ⟨y2, y4, y5, rfl, kp, cont⟩
        rw [List.length_map, plen] at cont
        refine ⟨_, rfl, k D G (fun b o e => ?_) ⟨kvs, kp _ _ (fun q r' h b e => hlD q r' h b e.symm) gD3, fun p r h b => ⟨la p, hval p r h b, cont p r h b⟩⟩⟩
        have e1 := s1 _ _ e
        exact kp b o (fun p r h hb => ne_of_none e1 (hl1 p r h hb)) (s23 _ _ e1)
end
end Fw

set_option maxRecDepth 100000
set_option maxHeartbeats 4000000
namespace Fw
open PySem PySem.Spec PyProof.Rows L2
def numAt (t : F) (p : Nat) : Nat := match (infos t)[p]? with
  | some r => (en r.sub p).2
  | none => 0
theorem numAt_of {t : F} {p : Nat} {r : Rec} (h : (infos t)[p]? = some r) : numAt t p = (en r.sub p).2 := by unfold numAt; rw [h]
theorem entry_at {t : F} {j : Nat} {rj : Rec} {k : One} {x : Int} {f : F} (h : (infos t)[j]? = some rj) (hs : rj.sub = .one k x f) (hk : k.bind = true) {e : En} (he : e ∈ (en f (j + 1)).1) :
    j < e.pos ∧ e.pos < t.size ∧ numAt t e.pos = e.num ∧ kAt t e.pos = e.k := by
  obtain ⟨q, r, y, g, h1, h2, h3, h4, h5⟩ := en_at f j (j + 1) ((x, j) :: rj.stk) e he
  have at' : (info rj.sub rj.aro j rj.stk)[q + 1]? = some r := by
    rw [hs]
    simp only [info, if_pos hk, List.getElem?_cons_succ]
    exact h2
  have z := sub_at h (q + 1) _ at'
  rw [show j + (q + 1) = e.pos by omega] at z
  have lt := (List.getElem?_eq_some_iff.mp z).1
  rw [info_len] at lt
  refine ⟨by omega, lt, by rw [numAt_of z]; exact h5, ?_⟩
  unfold kAt
  rw [z]
  show kOf r.sub = e.k
  rw [h3]
  rfl
theorem spk_in {t : F} {j : Nat} {rj : Rec} {k : One} {x : Int} {f : F} (h : (infos t)[j]? = some rj) (hs : rj.sub = .one k x f) (hk : k.bind = true) (b : Nat) :
    b ∈ spk t j t.size ↔ ∃ e ∈ (en f (j + 1)).1, e.pos = b ∧ pE k x e = true := by
  have kj : kAt t j = k := by unfold kAt; rw [h]; show kOf rj.sub = k; rw [hs]; rfl
  rw [spk_mem, ← speak_iff h hs hk b]
  unfold oth pE
  constructor
  · rintro ⟨h1, e, he, h2, h3⟩
    obtain ⟨_, _, _, q⟩ := entry_at h hs hk he
    rw [h2] at q
    have h1' := of_decide_eq_true h1
    rw [q, kj] at h1'
    exact ⟨e, he, h2, by rw [decide_eq_true h1', decide_eq_true h3]; rfl⟩
  · rintro ⟨e, he, h2, h3⟩
    obtain ⟨_, _, _, q⟩ := entry_at h hs hk he
    rw [h2] at q
    rw [Bool.and_eq_true] at h3
    have h1' := of_decide_eq_true h3.1
    exact ⟨decide_eq_true (by rw [q, kj]; exact h1'), e, he, h2, of_decide_eq_true h3.2⟩
/-- the greatest of what is known, or 0 -/
def Top (ks : List Int) (m : Int) : Prop := (ks = [] ∧ m = 0) ∨ (m ∈ ks ∧ ∀ y ∈ ks, y ≤ m)
theorem top_binder {t : F} {j : Nat} {rj : Rec} {k : One} {x : Int} {f : F} (h : (infos t)[j]? = some rj) (hs : rj.sub = .one k x f) (hk : k.bind = true) {m : Int}
    (ht : Top ([((en f (j + 1)).2 : Int)] ++ [1] ++ (spk t j t.size).map fun b => 1 + (numAt t b : Int)) m) : m = (numAt t j : Int) := by
  have e0 : numAt t j = mxl (pE k x) En.num (max (en f (j + 1)).2 1) (en f (j + 1)).1 := by
    rw [numAt_of h, hs]
    simp only [en, if_pos hk]
  rw [e0]
  obtain ⟨h1, h2⟩ := (mxl_le (pE k x) En.num _ (en f (j + 1)).1 (max (en f (j + 1)).2 1)).mp (Nat.le_refl _)
  generalize hM : mxl (pE k x) En.num (max (en f (j + 1)).2 1) (en f (j + 1)).1 = M at h1 h2
  rcases ht with ⟨e, _⟩ | ⟨hm, hall⟩
  · cases e
  · have up : m ≤ (M : Int) := by
      rcases List.mem_append.mp hm with hm | hm
      · rcases List.mem_append.mp hm with hm | hm
        · rw [List.mem_singleton.mp hm]
          omega
        · rw [List.mem_singleton.mp hm]
          omega
      · obtain ⟨b, hb, rfl⟩ := List.mem_map.mp hm
        obtain ⟨e, he, e1, e2⟩ := (spk_in h hs hk b).mp hb
        have q := (entry_at h hs hk he).2.2.1
        have := h2 e he e2
        rw [e1] at q
        omega
    have one : (1 : Int) ≤ m := hall 1 (List.mem_append_left _ (List.mem_append_right _ (List.mem_singleton.mpr rfl)))
    have a : ((en f (j + 1)).2 : Int) ≤ m := hall _ (List.mem_append_left _ (List.mem_append_left _ (List.mem_singleton.mpr rfl)))
    have low : M ≤ m.toNat := by
      rw [← hM]
      refine (mxl_le _ _ _ _ _).mpr ⟨by omega, fun e he hp => ?_⟩
      have q := (entry_at h hs hk he).2.2.1
      have := hall (1 + (numAt t e.pos : Int)) (List.mem_append_right _ (List.mem_map.mpr ⟨e.pos, (spk_in h hs hk e.pos).mpr ⟨e, he, rfl, hp⟩, rfl⟩))
      omega
    omega
theorem top_other {t : F} {j : Nat} {rj : Rec} (h : (infos t)[j]? = some rj) (nb : isB rj.sub = false) {m : Int} (ht : Top ((inPlaces rj.sub j).map fun p => (numAt t p : Int)) m) : m = (numAt t j : Int) := by
  obtain ⟨kl, kr⟩ := kids_recs h
  rw [numAt_of h]
  obtain ⟨s, a, st⟩ := rj
  cases s with
  | nul b =>
    rcases ht with ⟨_, e⟩ | ⟨hm, _⟩
    · exact e
    · cases hm
  | leaf k n =>
    rcases ht with ⟨_, e⟩ | ⟨hm, _⟩
    · exact e
    · cases hm
  | two b f g =>
    obtain ⟨r1, q1, q2, _⟩ := kr 0 (j + 1) rfl
    obtain ⟨r2, q3, q4, _⟩ := kr 1 (j + 1 + f.size) rfl
    have n1 : numAt t (j + 1) = (en f (j + 1)).2 := by rw [numAt_of q1, ← Option.some.inj q2]
    have n2 : numAt t (j + 1 + f.size) = (en g (j + 1 + f.size)).2 := by rw [numAt_of q3, ← Option.some.inj q4]
    show m = ((max (en f (j + 1)).2 (en g (j + 1 + f.size)).2 : Nat) : Int)
    rw [← n1, ← n2]
    rcases ht with ⟨e, _⟩ | ⟨hm, hall⟩
    · cases e
    · have h1 : (numAt t (j + 1) : Int) ≤ m := hall _ (List.mem_cons_self)
      have h2 : (numAt t (j + 1 + f.size) : Int) ≤ m := hall _ (List.mem_cons_of_mem _ List.mem_cons_self)
      simp only [inPlaces, List.map_cons, List.map_nil, List.mem_cons, List.not_mem_nil, or_false] at hm
      rcases hm with rfl | rfl <;> omega
  | one k n f =>
    obtain ⟨r1, q1, q2, _⟩ := kr 0 (j + 1) rfl
    have n1 : numAt t (j + 1) = (en f (j + 1)).2 := by rw [numAt_of q1, ← Option.some.inj q2]
    have hk : ¬ k.bind = true := by rw [show k.bind = false from nb]; exact Bool.false_ne_true
    simp only [en, if_neg hk]
    rw [← n1]
    rcases ht with ⟨e, _⟩ | ⟨hm, _⟩
    · cases e
    · exact List.mem_singleton.mp hm
theorem SpeakAt.same {H H' : Hp} {da : Addr} {t : F} (s : Same H H') (h : SpeakAt H da t) : SpeakAt H' da t := by
  obtain ⟨kvs, h1, h2⟩ := h
  refine ⟨kvs, s _ _ h1, fun p r a b => ?_⟩
  obtain ⟨la, q1, q2⟩ := h2 p r a b
  exact ⟨la, q1, s _ _ q2⟩
section
variable {P : Program} {w : World} {K : PySem.W.Frag} {mg : Str → Option Value} {base : Heap} {C J B NC FE : Addr}
def spAlt (K : PySem.W.Frag) : Sp := fun vs H Q _ => ∃ (v : V) (t : F), vs = [v] ∧ IsF K H v t ∧ t.size ≤ 100 ∧ Closed t ∧ ∀ H', Same H H' → Q (.int ((en t 0).2 : Nat)) H'
theorem ok_alternation {f : Addr} {fd : FuncData} (FF : Fun K "alternation" "alternation" s_alternation f fd) (T : Txt K mg C J B) (TE : TxtE K mg NC FE)
    (h_ensure_closed : HasX P w K mg base "ensure_closed" 5 a_ensure_closed (spEnsure K NC)) (h_parts_of : Has P w K mg base "parts_of" 3 a_parts_of (spParts K C))
    (h_speaking_binders : Has P w K mg base "speaking_binders" 3 a_speaking_binders (spSpeak K C)) : FnOk P w K mg base (L2.CX P w) 6 f fd a_alternation (spAlt K) := by
  refine FF.okX sc_alternation (fun vs H Q E h => ?_) (fun cdv A outer s H vs Q E hr h => ?_)
  · obtain ⟨v, t, rfl, _⟩ := h
    rfl
  · obtain ⟨v, t, rfl, ht, hsz, hc, k⟩ := h
    have hu := hu_of hr
    have small : ∀ n : Nat, n ≤ 20000 → n < sizeLine := fun n hn => Nat.lt_of_le_of_lt hn (by decide)
    have lenI : (infos t).length = t.size := info_len _ _ _ _
    refine ⟨_, (pss_cons (ps_expr (pe_callX h_ensure_closed (hr.mono (by omega)) (takes_of rfl rfl rfl rfl) (pa_cons (pv 0) pa_nil)))
      (PSs.nox (pss_cons (ps_set (i := 1) sc_alternation.nd rfl (.inl rfl) (pe_callH h_parts_of (hr.mono (by omega)) (pa_cons (pv 0) pa_nil)))
      (pss_cons (ps_set (i := 2) sc_alternation.nd rfl (.inl rfl) (pe_callH h_speaking_binders (hr.mono (by omega)) (pa_cons (pv 1) pa_nil)))
      (pss_cons (ps_set (i := 3) sc_alternation.nd rfl (.inr rfl) (pe_op op_rep (pe_lst (pa_cons pe_int pa_nil)) (pe_callB call_len_seq rfl T.z_len (by decide +kernel) (pa_cons (pv 1) pa_nil))))
      (pss_cons (ps_for PassesOwn.never rfl (pi_revR rfl T.z_reversed (prg_1 rfl T.z_range (pe_callB call_len_seq rfl T.z_len (by decide +kernel) (pa_cons (pv 1) pa_nil)))) (pg_name (i := 4) sc_alternation.nd rfl (.inl rfl)) (pss_cons (ps_setLc (i := 5) (own := [("place", 6)]) (g := gName 6) rfl sc_alternation.nd rfl rfl (sw_true rfl rfl rfl (by decide +kernel)) (pi_list (pe_fld (pe_ix ix_list (pv 1) (pv 4) (fun _ _ => rfl)) rfl)) (blkOk_by (own := [("place", 6)]) (N := n_alternation) (sc := defScope s_alternation) (by decide +kernel)) (fun _ _ _ _ _ => (pg_name (i := 6) sc_alternation.nd rfl (.inl rfl))) (fun _ _ _ _ _ => pts_nil) (fun _ _ _ _ _ => (pe_ix (@id (IxR _ (rIxL K)) ix_list) (pv 3) (pv 6) (fun _ _ => rfl))))
      (pss_cons (ps_if (pt_cmpR op_in_seq (pe_ix ix_tup (pe_fld (pe_ix ix_list (pv 1) (pv 4) (fun _ _ => rfl)) rfl) pe_int (fun _ _ => rfl)) (pe_glob rfl T.m_BINDERS (show RelV (.ref _) _ from rfl)) (by rfl)) (pss_cons (ps_expr (pe_bm PySem.F.plainAttrs_list PySem.F.slot_list_append PySem.F.type_list_append mt_append (pv 5) (pa_cons pe_int pa_nil)))
      (pss_one (ps_expr (pe_bm PySem.F.plainAttrs_list PySem.F.slot_list_extend PySem.F.type_list_extend mt_extend (pv 5) (pa_cons (pe_lc (own := [("place", 6)]) (g := gName 6) rfl sc_alternation.nd (pi_list (pe_dget hu (pv 2) (pv 4) (fun _ _ => rfl))) (blkOk_by (own := [("place", 6)]) (N := n_alternation) (sc := defScope s_alternation) (by decide +kernel)) (fun _ _ _ _ _ => (pg_name (i := 6) sc_alternation.nd rfl (.inl rfl))) (fun _ _ _ _ _ => pts_nil) (fun _ _ _ _ _ => (pe_op op_add pe_int (pe_ix (@id (IxR _ (rIxL K)) ix_list) (pv 3) (pv 6) (fun _ _ => rfl))))) pa_nil))))) pss_nil)
      (pss_one (ps_asg (pe_callBK (cr_maxDf rfl hu) rfl T.z_max (by decide +kernel) (pa_cons (pv 5) pa_nil) (pk_cons pe_int pk_nil)) (pg_sub (pv 3) (pv 4) set_list))))))
      (pss_one (ps_ret (pe_ix ix_list (pv 3) pe_int (fun _ _ => rfl)))))))))), ?_⟩
    refine ⟨v, rfl, v, t, rfl, ht, by omega, Few.closed hc, fun _ H1 s1 => ?_, fun hn => absurd hc hn⟩
    refine ⟨v, rfl, v, t, rfl, ht.same s1, by omega, fun pa H2 s2 PA => ?_⟩
    refine ⟨.ref pa, rfl, pa, t, rfl, PA, hsz, fun da H3 s3 SA => ?_⟩
    obtain ⟨R, hR, PR⟩ := id (PA.same s3)
    have lenR : R.length = t.size := by rw [PR.1, pre_len]
    have RL : (R.map fun r => V.ref r.p).length = t.size := by rw [List.length_map, lenR]
    have s123 := s1.trans (s2.trans s3)
    refine ⟨by show 1 ≤ sizeLine; decide, fun o ho => ?_⟩
    have so := Same.new (o := .lst [V.int 0]) ho
    refine ⟨.ref pa, rfl, pa, _, rfl, .inl (so.seq hR), ?_⟩
    rw [RL]
    refine ⟨o, (t.size : Nat), _, rfl, rfl, upd_same, by omega, by omega, ?_, fun fa hfa => ?_⟩
    · rw [List.length_singleton, Nat.one_mul, Int.toNat_natCast]
      exact Nat.le_of_lt (small _ (by omega))
    have eM : (List.replicate ((t.size : Nat) : Int).toNat [V.int 0]).flatten = (List.replicate t.size (0 : Int)).map V.int := by
      rw [Int.toNat_natCast, List.map_replicate]
      induction t.size with
      | zero => rfl
      | succ n ih =>
        rw [List.replicate_succ, List.flatten_cons, ih, List.replicate_succ]
        rfl
    rw [eM]
    have sf := Same.new (o := .lst ((List.replicate t.size (0 : Int)).map V.int)) hfa
    have s0 := so.trans sf
    have gf0 : (upd (upd H3 o (.lst [V.int 0])) fa (.lst ((List.replicate t.size (0 : Int)).map V.int))) fa = some (.lst ((List.replicate t.size (0 : Int)).map V.int)) := upd_same
    have hfa3 : H3 fa = none := so.free hfa
    generalize upd (upd H3 o (.lst [V.int 0])) fa (.lst ((List.replicate t.size (0 : Int)).map V.int)) = G0 at s0 gf0
    clear sf so
    refine ⟨.ref pa, rfl, pa, _, rfl, .inl (s0.seq hR), (t.size : Nat), by rw [RL], by omega, by omega, by omega, by omega, ?_⟩
    refine for_rangeC (fun i σ G => ∃ (ms : List Int) (y4 y5 : Option V), σ = [some v, some (.ref pa), some (.ref da), some (.ref fa), y4, y5, none] ∧ Same H3 G ∧ IL G fa ms ∧ ms.length = t.size ∧
      ∀ j, t.size - i ≤ j → j < t.size → ms[j]? = some (numAt t j : Int)) ⟨_, none, none, rfl, s0, gf0, by rw [List.length_replicate], fun j h1 h2 => ?_⟩ ?_ ?_
    · omega
    · rintro i σ G hi ⟨ms, y4, y5, rfl, sG, gf, lm, inv⟩
      have hi' : i < t.size := by omega
      obtain ⟨j, hj⟩ : ∃ j : Nat, j = t.size - 1 - i := ⟨_, rfl⟩
      have ej : (0 : Int) + (((t.size : Nat) : Int) - 0).toNat - 1 + (i : Nat) * (-1) = (j : Nat) := by omega
      rw [ej]
      have jlt : j < t.size := by omega
      obtain ⟨r, pr, hr', hpr, z0⟩ := PartsAt.nth (pa := pa) PR jlt
      have z := z0.same sG
      obtain ⟨kl, kr⟩ := kids_recs hr'
      have gf' : G fa = some (.lst (ms.map V.int)) := gf
      -- known = [found[place] for place in parts[at].inner]
      refine ⟨.ref pa, rfl, .int (j : Nat), rfl, pa, _, _, .ref pr.p, rfl, rfl, sG.seq hR, atI_nat (j := j) (by rw [List.getElem?_map, hpr]; rfl), pr.p, C, pr.dx, _, .ref pr.l, rfl, z.ob, T.cl, T.nI, rfl, pr.l, rfl, ⟨_, SqL.of z.inn⟩, fun D hD => ?_⟩
      refine lc_list (xs := (inPlaces r.sub j).map fun n => V.int (n : Nat)) (fun m G2 => Same G G2 ∧ IL G2 D (((inPlaces r.sub j).take m).map fun p => (numAt t p : Int))) ⟨Same.new hD, upd_same⟩ (fun m G2 _ q => SqL.of (q.1 _ _ z.inn)) ?_ ?_
      · rintro m x G2 hx ⟨s4, gD⟩
        rw [List.getElem?_map] at hx
        obtain ⟨p, hp, rfl⟩ : ∃ p, (inPlaces r.sub j)[m]? = some p ∧ x = V.int (p : Nat) := by
          cases e : (inPlaces r.sub j)[m]? with
          | none => rw [e] at hx; cases hx
          | some p => rw [e] at hx; exact ⟨p, rfl, (Option.some.inj hx).symm⟩
        obtain ⟨r', h1, h2, h3⟩ := kr m p hp
        have plt : p < t.size := by
          have := (List.getElem?_eq_some_iff.mp h1).1
          omega
        have v1 := inv p (by omega) plt
        refine ⟨rfl, .ref fa, rfl, .int (p : Nat), rfl, fa, _, _, .int (numAt t p : Nat), rfl, rfl, SqL.of (s4 _ _ gf'), atI_nat (j := p) (by rw [List.getElem?_map, v1]; rfl), _, gD, ?_, ?_⟩
        · have l2 : (inPlaces r.sub j).length ≤ 2 := by
            rw [kl]
            exact F.kids_le r.sub
          rw [List.length_map, List.length_map, List.length_take]
          exact small _ (by omega)
        · refine ⟨fun b o e => by rw [upd_ne (ne_of_none e hD)]; exact s4 b o e, ?_⟩
          show _ = _
          rw [upd_same, List.take_add_one, hp, List.map_append, List.map_append]
          rfl
      · rintro G2 ⟨s4, gD⟩
        rw [List.length_map, List.take_length] at gD
        have sG2 := sG.trans s4
        have z2 := z0.same sG2
        refine ⟨.ref pa, rfl, .int (j : Nat), rfl, pa, _, _, .ref pr.p, rfl, rfl, sG2.seq hR, atI_nat (j := j) (by rw [List.getElem?_map, hpr]; rfl), pr.p, C, pr.dx, _, .ref pr.h, rfl, z2.ob, T.cl, T.nH, fld_head _ _ _, pr.h, _, _, _, rfl, rfl, z2.hd, hd_at0 _, B, _, rfl, .inr (T.c_BINDERS _), rfl, rfl, _, rfl, ?_⟩
        rw [if_neg Bool.false_ne_true, in_binders, isB_hd]
        have gf2 : G2 fa = some (.lst (ms.map V.int)) := s4 _ _ gf'
        have DF : D ≠ fa := fun e => by rw [e, gf'] at hD; cases hD
        refine join (G := G2) (fun G5 => Same G G5 ∧ ∃ ks : List Int, IL G5 D ks ∧ ∀ m, Top ks m → m = (numAt t j : Int)) ?_ ?_ ?_
        · rintro G5 ⟨s5, ks, g5, top⟩
          refine ⟨.ref D, rfl, D, ks, 0, rfl, rfl, SqL.of g5, fun m hm => ?_⟩
          rw [top m hm]
          have ixj : ixN (ms.map V.int).length ((j : Nat) : Int) = some j := by
            unfold ixN
            rw [if_pos (by omega), if_pos (by rw [List.length_map]; omega), Int.toNat_natCast]
          refine ⟨.ref fa, rfl, .int (j : Nat), rfl, fa, _, _, j, rfl, rfl, s5 _ _ gf', ixj, ?_⟩
          refine ⟨ms.set j (numAt t j : Int), _, _, rfl, fun b o e => ?_, ?_, by rw [List.length_set]; exact lm, fun q h1 h2 => ?_⟩
          · rw [upd_ne (ne_of_none e hfa3)]
            exact s5 _ _ (sG _ _ e)
          · show _ = _
            rw [upd_same, List.map_set]
          · by_cases e : q = j
            · subst e
              rw [List.getElem?_set_self (by omega)]
            · rw [List.getElem?_set_ne (fun z => e z.symm)]
              exact inv q (by omega) h2
        · intro hb rest
          obtain ⟨kd, x, f, hs⟩ : ∃ kd x f, r.sub = .one kd x f := by
            cases hsub : r.sub with
            | one kd x f => exact ⟨kd, x, f, rfl⟩
            | _ => rw [hsub] at hb; cases hb
          have hk : kd.bind = true := by rw [hs] at hb; exact hb
          have kn : (inPlaces r.sub j).map (fun p => (numAt t p : Int)) = [((en f (j + 1)).2 : Int)] := by
            rw [hs]
            obtain ⟨r1, q1, q2, _⟩ := kr 0 (j + 1) (by rw [hs]; rfl)
            rw [hs] at q2
            show [((numAt t (j + 1) : Nat) : Int)] = _
            rw [numAt_of q1, ← Option.some.inj q2]
          rw [kn] at gD
          have gD' : G2 D = some (.lst [V.int ((en f (j + 1)).2 : Nat)]) := gD
          -- known.append(1)
          refine ⟨.ref D, rfl, .inl ⟨rfl, _, SqL.of gD'⟩, D, _, _, rfl, rfl, gD', by show 1 < sizeLine; decide, ?_⟩
          have s6 : Same G (upd G2 D (.lst ([V.int ((en f (j + 1)).2 : Nat)] ++ [.int 1]))) := fun b o e => by rw [upd_ne (ne_of_none e hD)]; exact s4 b o e
          have g6 : (upd G2 D (.lst ([V.int ((en f (j + 1)).2 : Nat)] ++ [.int 1]))) D = some (.lst ([V.int ((en f (j + 1)).2 : Nat)] ++ [.int 1])) := upd_same
          generalize upd G2 D (.lst ([V.int ((en f (j + 1)).2 : Nat)] ++ [.int 1])) = G6 at s6 g6
          obtain ⟨kvs, gd, cont⟩ := SA.same (sG.trans s6)
          obtain ⟨la, hv, gl⟩ := cont j r hr' hb
          have hget := DGet.k (k := Sum.inl ((j : Nat) : Int)) gd
          rw [hv] at hget
          have gl' : G6 la = some (.lst ((spk t j t.size).map fun b => V.int (b : Nat))) := gl
          refine ⟨.ref D, rfl, .inl ⟨rfl, _, SqL.of g6⟩, .ref da, rfl, .int (j : Nat), rfl, da, _, rfl, hget, la, rfl, ⟨_, SqL.of gl'⟩, fun D2 hD2 => ?_⟩
          have slen := spk_len t.size (Nat.le_refl _) (t := t) (p := j)
          have slen2 : t.size * t.size ≤ 100 * 100 := Nat.mul_le_mul hsz hsz
          refine lc_list (xs := (spk t j t.size).map fun b => V.int (b : Nat)) (fun m G7 => Same G6 G7 ∧ IL G7 D2 (((spk t j t.size).take m).map fun b => 1 + (numAt t b : Int))) ⟨Same.new hD2, upd_same⟩ (fun m G7 _ q => SqL.of (q.1 _ _ gl')) ?_ ?_
          · rintro m y G7 hy ⟨s7, g7⟩
            rw [List.getElem?_map] at hy
            obtain ⟨b, hb', rfl⟩ : ∃ b, (spk t j t.size)[m]? = some b ∧ y = V.int (b : Nat) := by
              cases e : (spk t j t.size)[m]? with
              | none => rw [e] at hy; cases hy
              | some b => rw [e] at hy; exact ⟨b, rfl, (Option.some.inj hy).symm⟩
            obtain ⟨e, he, e1, _⟩ := (spk_in hr' hs hk b).mp (List.mem_of_getElem? hb')
            obtain ⟨q1, q2, _, _⟩ := entry_at hr' hs hk he
            have v1 := inv b (by omega) (by omega)
            refine ⟨rfl, .ref fa, rfl, .int (b : Nat), rfl, fa, _, _, .int (numAt t b : Nat), rfl, rfl, SqL.of (s7 _ _ (s6 _ _ gf')), atI_nat (j := b) (by rw [List.getElem?_map, v1]; rfl), 1, (numAt t b : Nat), rfl, rfl, _, g7, ?_, ?_⟩
            · rw [List.length_map, List.length_map, List.length_take]
              exact small _ (by omega)
            · refine ⟨fun c o e => by rw [upd_ne (ne_of_none e hD2)]; exact s7 c o e, ?_⟩
              show _ = _
              rw [upd_same, List.take_add_one, hb', List.map_append, List.map_append]
              rfl
          · rintro G7 ⟨s7, g7⟩
            rw [List.length_map, List.take_length] at g7
            refine ⟨D, D2, _, _, rfl, rfl, s7 _ _ g6, g7, ?_, ?_⟩
            · simp only [List.length_append, List.length_map, List.length_cons, List.length_nil]
              exact Nat.le_of_lt (small _ (by omega))
            · refine rest _ ⟨fun c o e => ?_, [((en f (j + 1)).2 : Int)] ++ [1] ++ (spk t j t.size).map fun b => 1 + (numAt t b : Int), ?_, fun m hm => top_binder hr' hs hk hm⟩
              · rw [upd_ne (ne_of_none e hD)]
                exact s7 _ _ (s6 _ _ e)
              · show _ = _
                rw [upd_same, List.map_append]
                rfl
        · intro hb
          exact ⟨s4, _, gD, fun m hm => top_other hr' hb hm⟩
    · rintro σ G ⟨ms, y4, y5, rfl, sG, gf, lm, inv⟩
      have gf' : G fa = some (.lst (ms.map V.int)) := gf
      have v0 := inv 0 (by omega) (F.size_pos t)
      refine ⟨.ref fa, rfl, fa, _, 0, .int (numAt t 0 : Nat), rfl, rfl, SqL.of gf', atI_nat (j := 0) (by rw [List.getElem?_map, v0]; rfl), ?_⟩
      rw [numAt_of (info_head t (-1) 0 [])]
      exact k G (s123.trans sG)
end
end Fw

set_option maxRecDepth 100000
set_option maxHeartbeats 4000000
namespace Fw
open PySem PySem.Spec PyProof.Rows L2
def bl (t : F) : List F := (lb t).1.map Prod.fst
def blK : List F → List F
  | [] => []
  | f :: fs => bl f ++ blK fs
theorem blK_snoc : ∀ (fs : List F) (f : F), blK (fs ++ [f]) = blK fs ++ bl f
  | [], f => by simp [blK]
  | g :: fs, f => by simp [blK, blK_snoc fs f]
theorem bl_eq (t : F) : bl t = (if isB t = true then [t] else []) ++ blK t.kids := by
  unfold bl
  cases t with
  | nul b => rfl
  | leaf k n => rfl
  | two b f g => simp [lb, isB, F.kids, blK, bl]
  | one k x f =>
    by_cases hk : k.bind = true
    · simp [lb, if_pos hk, isB, hk, F.kids, blK, bl]
    · simp [lb, if_neg hk, isB, hk, F.kids, blK, bl]
theorem bl_len : ∀ t : F, (bl t).length ≤ t.size
  | .nul _ => Nat.zero_le _
  | .leaf _ _ => Nat.zero_le _
  | .two b f g => by
    have h1 := bl_len f
    have h2 := bl_len g
    rw [bl_eq]
    simp only [isB, F.kids, blK, F.size, List.length_append, List.append_nil]
    simp
    omega
  | .one k x f => by
    have h1 := bl_len f
    rw [bl_eq]
    simp only [F.kids, blK, F.size, List.length_append, List.append_nil]
    split <;> simp <;> omega
def kmax : List F → Nat
  | [] => 0
  | f :: fs => max (lb f).2 (kmax fs)
theorem kmax_top : ∀ (fs : List F) (m : Int), m ∈ [(0 : Int)] ++ fs.map (fun f => ((lb f).2 : Int)) → (∀ y ∈ [(0 : Int)] ++ fs.map (fun f => ((lb f).2 : Int)), y ≤ m) → m = (kmax fs : Int) := by
  have up : ∀ fs : List F, ∀ y ∈ [(0 : Int)] ++ fs.map (fun f => ((lb f).2 : Int)), y ≤ (kmax fs : Int) := by
    intro fs
    induction fs with
    | nil =>
      intro y hy
      simp only [List.map_nil, List.append_nil, List.mem_singleton] at hy
      rw [hy]
      exact Int.natCast_nonneg _
    | cons f fs ih =>
      intro y hy
      simp only [List.map_cons, List.singleton_append, List.mem_cons] at hy
      show y ≤ ((max (lb f).2 (kmax fs) : Nat) : Int)
      rcases hy with rfl | rfl | hy
      · omega
      · omega
      · have := ih y (by simp only [List.singleton_append, List.mem_cons]; exact .inr hy)
        omega
  have inn : ∀ fs : List F, (kmax fs : Int) ∈ [(0 : Int)] ++ fs.map (fun f => ((lb f).2 : Int)) := by
    intro fs
    induction fs with
    | nil => exact List.mem_cons_self
    | cons f fs ih =>
      simp only [List.map_cons, List.singleton_append, List.mem_cons] at ih ⊢
      show ((max (lb f).2 (kmax fs) : Nat) : Int) = 0 ∨ ((max (lb f).2 (kmax fs) : Nat) : Int) = ((lb f).2 : Int) ∨ ((max (lb f).2 (kmax fs) : Nat) : Int) ∈ fs.map fun f => ((lb f).2 : Int)
      rcases Nat.le_total (lb f).2 (kmax fs) with h | h
      · rw [Nat.max_eq_right h]
        rcases ih with e | e
        · exact .inl e
        · exact .inr (.inr e)
      · rw [Nat.max_eq_left h]
        exact .inr (.inl rfl)
  intro fs m h1 h2
  have := up fs m h1
  have := h2 _ (inn fs)
  omega
theorem lb_kids {t : F} (nb : isB t = false) : (lb t).2 = kmax t.kids := by
  cases t with
  | nul b => rfl
  | leaf k n => rfl
  | two b f g => simp [lb, F.kids, kmax]
  | one k x f =>
    have hk : ¬ k.bind = true := by rw [show k.bind = false from nb]; exact Bool.false_ne_true
    simp [lb, if_neg hk, F.kids, kmax]
theorem mxl_snoc {α : Type} (p : α → Bool) (num : α → Nat) (e : α) : ∀ (L : List α) (m : Nat), mxl p num m (L ++ [e]) = if p e = true then max (mxl p num m L) (num e + 1) else mxl p num m L
  | [], m => rfl
  | a :: L, m => by
    rw [List.cons_append, mxl, mxl, mxl_snoc p num e L]
theorem AllF.app {K : PySem.W.Frag} {H : Hp} {xs ys : List V} {fs gs : List F} (h : AllF K H xs fs) (k : AllF K H ys gs) : AllF K H (xs ++ ys) (fs ++ gs) := by
  induction h with
  | nil => exact k
  | cons a _ ih => exact .cons a ih
theorem lb_one {k : One} {x : Int} {f : F} (hk : k.bind = true) : (lb (.one k x f)).2 = mxl (pL k x) Prod.snd (max (lb f).2 1) (lb f).1 := by
  simp only [lb, if_pos hk]
section
variable {P : Program} {w : World} {K : PySem.W.Frag} {mg : Str → Option Value} {base : Heap} {C J B NC FE : Addr}
def spBind (K : PySem.W.Frag) : Nat → Sp
  | 0 => fun _ _ _ _ => False
  | n + 1 => fun vs H Q _ => ∃ (v : V) (t : F), vs = [v] ∧ IsF K H v t ∧ t.depth ≤ n + 1 ∧ t.size ≤ 1000 ∧ ∀ l ks H', Same H H' → H' l = some (.lst ks) → AllF K H' ks (bl t) → Q (.ref l) H'
theorem ok_law_binders {f : Addr} {fd : FuncData} (n : Nat) (FF : Fun K "_law_binders" "_law_binders" s_law_binders f fd) (T : Txt K mg C J B) (h_law_inner : Has P w K mg base "_law_inner" 1 a_law_inner (spInner K))
    (h_law_binders : Has P w K mg base "_law_binders" (n + 1) a_law_binders (spBind K n)) : FnOk P w K mg base CX0 (n + 2) f fd a_law_binders (spBind K (n + 1)) := by
  refine FF.ok sc_law_binders (fun vs H Q E h => ?_) (fun cdv A outer s H vs Q E hr h => ?_)
  · obtain ⟨v, t, rfl, _⟩ := h
    rfl
  · obtain ⟨v, t, rfl, ht, hdep, hsz, k⟩ := h
    refine ⟨_, (pss_cons (ps_set (i := 1) sc_law_binders.nd rfl (.inl rfl) (pe_ifExp (pt_cmpR op_in_seq (pe_ix ix_tup (pv 0) pe_int (fun _ _ => rfl)) (pe_tup (pa_cons pe_str (pa_cons pe_str pa_nil))) (by rfl)) (pe_lst (pa_cons (pv 0) pa_nil)) (pe_lst pa_nil)))
      (pss_cons (ps_for PassesOwn.never rfl (pi_list (pe_callH h_law_inner (hr.mono (by omega)) (pa_cons (pv 0) pa_nil))) (pg_name (i := 2) sc_law_binders.nd rfl (.inl rfl)) (pss_one (ps_set (i := 1) sc_law_binders.nd rfl (.inl rfl) (pe_op op_cat (pv 1) (pe_callH h_law_binders (hr.mono (by omega)) (pa_cons (pv 2) pa_nil))))))
      (pss_one (ps_ret (pv 1))))), ?_⟩
    obtain ⟨a, ks, rfl, sq, ak⟩ := ht.open
    have at0 : atI (hv t.hd ++ ks) 0 = some (.str (hw t.hd)) := atI_nat (j := 0) (by rw [List.getElem?_append_left (by rcases hv_len t.hd with e | e <;> omega)]; exact hv_head _)
    refine ⟨.ref a, rfl, a, _, _, _, rfl, rfl, sq, at0, by show 2 ≤ sizeLine; decide, fun p hp => ⟨p, _, rfl, .inr (SqT.of upd_same), rfl, rfl, _, rfl, ?_⟩⟩
    rw [if_neg Bool.false_ne_true, in_binders, isB_hd]
    have s1 := Same.new (o := .tup [.str "least", .str "most"]) hp
    generalize upd H p (.tup [.str "least", .str "most"]) = H1 at s1
    replace ht := ht.same s1
    have small1000 : ∀ {n : Nat}, n ≤ 1000 → n < sizeLine := fun h => Nat.lt_of_le_of_lt h (by decide)
    cases hb : isB t with
    | true =>
      refine iteT ?_
      refine ⟨.ref a, rfl, by show 1 ≤ sizeLine; decide, fun fo hfo => ?_⟩
      have s2 := Same.new (o := .lst [.ref a]) hfo
      have gfo : (upd H1 fo (.lst [.ref a])) fo = some (.lst [.ref a]) := upd_same
      have afo : AllF K (upd H1 fo (.lst [.ref a])) [.ref a] [t] := .cons (ht.same s2) .nil
      obtain ⟨pre0, hpre⟩ : ∃ q : List F, q = if isB t = true then [t] else [] := ⟨_, rfl⟩
      have e0 : pre0 = [t] := by rw [hpre, hb]; rfl
      rw [← e0] at afo
      generalize upd H1 fo (.lst [.ref a]) = H2 at s2 gfo afo
      refine ⟨.ref a, rfl, .ref a, t, rfl, ht.same s2, fun l ks' H3 s3 hl ak3 => ⟨l, rfl, ⟨_, SqL.of hl⟩, ?_⟩⟩
      have s23 := s2.trans s3
      have lk3 := ak3.len
      refine for_list (xs := ks') (fun i σ G => ∃ (fo' : Addr) (y2 : Option V) (qs : List V), σ = [some (.ref a), some (.ref fo'), y2] ∧ Same H3 G ∧ G fo' = some (.lst qs) ∧ AllF K G qs (pre0 ++ blK (t.kids.take i)))
        ⟨fo, none, _, rfl, Same.refl _, s3 _ _ gfo, by rw [List.take_zero]; simpa [blK] using afo.lk (LKp.same s3)⟩ (fun i σ G _ ⟨_, _, _, _, sG, _⟩ => SqL.of (sG _ _ hl)) ?_ ?_
      · rintro i x σ G hx ⟨fo', y2, qs, rfl, sG, gf, af⟩
        have il := (List.getElem?_eq_some_iff.mp hx).1
        obtain ⟨f, hf⟩ : ∃ f, t.kids[i]? = some f := ⟨t.kids[i]'(by omega), by simp⟩
        have fm := kid_small (List.mem_of_getElem? hf)
        obtain ⟨m, rfl⟩ : ∃ m, n = m + 1 := by
          cases n with
          | zero => exact absurd hdep (by have : 0 < f.depth := (by cases f <;> simp [F.depth]); omega)
          | succ m => exact ⟨m, rfl⟩
        have isf := (ak3.get hx hf).same sG
        have total : (pre0 ++ blK t.kids).length ≤ 1000 := by
          have := bl_len t
          rw [bl_eq, ← hpre] at this
          omega
        have blen := bl_len f
        refine ⟨.ref fo', rfl, x, rfl, x, f, rfl, isf, by omega, by omega, fun l2 ks2 H5 s5 hl2 ak5 => ?_⟩
        refine ⟨fo', l2, _, _, rfl, rfl, s5 _ _ gf, hl2, ?_, fun q hq => ?_⟩
        · have e1 := af.len
          have e2 := ak5.len
          have e3 : (blK (t.kids.take i)).length + (bl f).length ≤ (blK t.kids).length := by
            have : t.kids = t.kids.take i ++ f :: t.kids.drop (i + 1) := by
              rw [← List.getElem?_eq_some_iff.mp hf |>.2, ← List.drop_eq_getElem_cons, List.take_append_drop]
            have app : ∀ A B : List F, (blK (A ++ B)).length = (blK A).length + (blK B).length := by
              intro A B
              induction A with
              | nil => simp [blK]
              | cons a A ih => simp only [List.cons_append, blK, List.length_append, ih]; omega
            have e := app (t.kids.take i) (f :: t.kids.drop (i + 1))
            rw [← this] at e
            rw [e]
            simp only [blK, List.length_append]
            omega
          rw [List.length_append] at total e1
          exact Nat.le_of_lt (small1000 (by omega))
        · refine ⟨q, _, _, rfl, sG.trans (s5.trans (Same.new hq)), upd_same, ?_⟩
          rw [List.take_add_one, hf, Option.toList_some, blK_snoc, ← List.append_assoc]
          exact ((af.lk (LKp.same s5)).app ak5).lk (LKp.same (Same.new hq))
      · rintro σ G ⟨fo', y2, qs, rfl, sG, gf, af⟩
        refine ⟨_, rfl, k fo' qs G (s1.trans (s23.trans sG)) gf ?_⟩
        rw [bl_eq, ← hpre, show t.kids = t.kids.take ks'.length by rw [List.take_of_length_le (by omega)]]
        exact af
    | false =>
      refine iteF ?_
      refine ⟨Nat.zero_le _, fun fo hfo => ?_⟩
      have s2 := Same.new (o := .lst []) hfo
      have gfo : (upd H1 fo (.lst [])) fo = some (.lst []) := upd_same
      have afo : AllF K (upd H1 fo (.lst [])) [] [] := .nil
      obtain ⟨pre0, hpre⟩ : ∃ q : List F, q = if isB t = true then [t] else [] := ⟨_, rfl⟩
      have e0 : pre0 = [] := by rw [hpre, hb]; rfl
      rw [← e0] at afo
      generalize upd H1 fo (.lst []) = H2 at s2 gfo afo
      refine ⟨.ref a, rfl, .ref a, t, rfl, ht.same s2, fun l ks' H3 s3 hl ak3 => ⟨l, rfl, ⟨_, SqL.of hl⟩, ?_⟩⟩
      have s23 := s2.trans s3
      have lk3 := ak3.len
      refine for_list (xs := ks') (fun i σ G => ∃ (fo' : Addr) (y2 : Option V) (qs : List V), σ = [some (.ref a), some (.ref fo'), y2] ∧ Same H3 G ∧ G fo' = some (.lst qs) ∧ AllF K G qs (pre0 ++ blK (t.kids.take i)))
        ⟨fo, none, _, rfl, Same.refl _, s3 _ _ gfo, by rw [List.take_zero]; simpa [blK] using afo.lk (LKp.same s3)⟩ (fun i σ G _ ⟨_, _, _, _, sG, _⟩ => SqL.of (sG _ _ hl)) ?_ ?_
      · rintro i x σ G hx ⟨fo', y2, qs, rfl, sG, gf, af⟩
        have il := (List.getElem?_eq_some_iff.mp hx).1
        obtain ⟨f, hf⟩ : ∃ f, t.kids[i]? = some f := ⟨t.kids[i]'(by omega), by simp⟩
        have fm := kid_small (List.mem_of_getElem? hf)
        obtain ⟨m, rfl⟩ : ∃ m, n = m + 1 := by
          cases n with
          | zero => exact absurd hdep (by have : 0 < f.depth := (by cases f <;> simp [F.depth]); omega)
          | succ m => exact ⟨m, rfl⟩
        have isf := (ak3.get hx hf).same sG
        have total : (pre0 ++ blK t.kids).length ≤ 1000 := by
          have := bl_len t
          rw [bl_eq, ← hpre] at this
          omega
        have blen := bl_len f
        refine ⟨.ref fo', rfl, x, rfl, x, f, rfl, isf, by omega, by omega, fun l2 ks2 H5 s5 hl2 ak5 => ?_⟩
        refine ⟨fo', l2, _, _, rfl, rfl, s5 _ _ gf, hl2, ?_, fun q hq => ?_⟩
        · have e1 := af.len
          have e2 := ak5.len
          have e3 : (blK (t.kids.take i)).length + (bl f).length ≤ (blK t.kids).length := by
            have : t.kids = t.kids.take i ++ f :: t.kids.drop (i + 1) := by
              rw [← List.getElem?_eq_some_iff.mp hf |>.2, ← List.drop_eq_getElem_cons, List.take_append_drop]
            have app : ∀ A B : List F, (blK (A ++ B)).length = (blK A).length + (blK B).length := by
              intro A B
              induction A with
              | nil => simp [blK]
              | cons a A ih => simp only [List.cons_append, blK, List.length_append, ih]; omega
            have e := app (t.kids.take i) (f :: t.kids.drop (i + 1))
            rw [← this] at e
            rw [e]
            simp only [blK, List.length_append]
            omega
          rw [List.length_append] at total e1
          exact Nat.le_of_lt (small1000 (by omega))
        · refine ⟨q, _, _, rfl, sG.trans (s5.trans (Same.new hq)), upd_same, ?_⟩
          rw [List.take_add_one, hf, Option.toList_some, blK_snoc, ← List.append_assoc]
          exact ((af.lk (LKp.same s5)).app ak5).lk (LKp.same (Same.new hq))
      · rintro σ G ⟨fo', y2, qs, rfl, sG, gf, af⟩
        refine ⟨_, rfl, k fo' qs G (s1.trans (s23.trans sG)) gf ?_⟩
        rw [bl_eq, ← hpre, show t.kids = t.kids.take ks'.length by rw [List.take_of_length_le (by omega)]]
        exact af
theorem all_binders {f : Addr} {fd : FuncData} (FF : Fun K "_law_binders" "_law_binders" s_law_binders f fd) (b : Binds K fd a_law_binders []) (m : mg "_law_binders" = some (.ref f)) (T : Txt K mg C J B)
    (h_law_inner : Has P w K mg base "_law_inner" 1 a_law_inner (spInner K)) : ∀ n, Has P w K mg base "_law_binders" (n + 1) a_law_binders (spBind K n)
  | 0 => ⟨f, fd, m, FF.kp, b, noneOk⟩
  | n + 1 => ⟨f, fd, m, FF.kp, b, ok_law_binders n FF T h_law_inner (all_binders FF b m T h_law_inner n)⟩
def spNum (K : PySem.W.Frag) : Nat → Sp
  | 0 => fun _ _ _ _ => False
  | n + 1 => fun vs H Q _ => ∃ (v : V) (t : F), vs = [v] ∧ IsF K H v t ∧ t.depth ≤ n + 1 ∧ n ≤ 19 ∧ t.size ≤ 1000 ∧ ∀ H', Same H H' → Q (.int ((lb t).2 : Nat)) H'
theorem ok_law_number {f : Addr} {fd : FuncData} (n : Nat) (FF : Fun K "_law_number" "_law_number" s_law_number f fd) (T : Txt K mg C J B) (h_law_inner : Has P w K mg base "_law_inner" 1 a_law_inner (spInner K))
    (h_law_binders : Has P w K mg base "_law_binders" 21 a_law_binders (spBind K 20)) (h_law_free : Has P w K mg base "_law_free" 21 a_law_free (spFr K 20))
    (h_law_number : Has P w K mg base "_law_number" (n + 22) a_law_number (spNum K n)) : FnOk P w K mg base CX0 (n + 23) f fd a_law_number (spNum K (n + 1)) := by
  refine FF.ok sc_law_number (fun vs H Q E h => ?_) (fun cdv A outer s H vs Q E hr h => ?_)
  · obtain ⟨v, t, rfl, _⟩ := h
    rfl
  · obtain ⟨v, t, rfl, ht, hdep, hn19, hsz, k⟩ := h
    have hu := hu_of hr
    refine ⟨_, (pss_cons (ps_set (i := 1) sc_law_number.nd rfl (.inl rfl) (pe_callB (cr_max rfl) rfl T.z_max (by decide +kernel) (pa_cons (pe_op op_cat (pe_lst (pa_cons pe_int pa_nil)) (pe_lc (own := [("part", 3)]) (g := gName 3) rfl sc_law_number.nd (pi_list (pe_callH h_law_inner (hr.mono (by omega)) (pa_cons (pv 0) pa_nil))) (blkOk_by (own := [("part", 3)]) (N := n_law_number) (sc := defScope s_law_number) (by decide +kernel)) (fun _ _ _ _ _ => (pg_name (i := 3) sc_law_number.nd rfl (.inl rfl))) (fun _ _ _ _ _ => pts_nil) (fun _ _ _ _ _ => (pe_callH h_law_number (hr.mono (by omega)) (pa_cons (pv 3) pa_nil))))) pa_nil)))
      (pss_cons (ps_if (pt_cmpR op_in_seq (pe_ix ix_tup (pv 0) pe_int (fun _ _ => rfl)) (pe_tup (pa_cons pe_str (pa_cons pe_str pa_nil))) (by rfl)) (pss_cons (ps_set (i := 1) sc_law_number.nd rfl (.inl rfl) (pe_callB (call_max2 rfl) rfl T.z_max (by decide +kernel) (pa_cons (pv 1) (pa_cons pe_int pa_nil))))
      (pss_one (ps_for PassesOwn.never rfl (pi_list (pe_callH h_law_binders (hr.mono (by omega)) (pa_cons (pe_ix ix_tup (pv 0) pe_int (fun _ _ => rfl)) pa_nil))) (pg_name (i := 2) sc_law_number.nd rfl (.inl rfl)) (pss_one (ps_if (PW.pt (pw_and (pt_cmpR op_ne (pe_ix ix_tup (pv 2) pe_int (fun _ _ => rfl)) (pe_ix ix_tup (pv 0) pe_int (fun _ _ => rfl)) (nomark _)) (pw_and1 (pt_cmpR op_in_seq (pe_ix ix_tup (pv 0) pe_int (fun _ _ => rfl)) (pe_callH h_law_free (hr.mono (by omega)) (pa_cons (pv 2) (pa_cons (pe_lst pa_nil) pa_nil))) (by rfl))))) (pss_one (ps_set (i := 1) sc_law_number.nd rfl (.inl rfl) (pe_callB (call_max2 rfl) rfl T.z_max (by decide +kernel) (pa_cons (pv 1) (pa_cons (pe_op op_add pe_int (pe_callH h_law_number (hr.mono (by omega)) (pa_cons (pv 2) pa_nil))) pa_nil))))) pss_nil))))) pss_nil)
      (pss_one (ps_ret (pv 1))))), ?_⟩
    obtain ⟨a, ks, rfl, sq, ak⟩ := ht.open
    have at0 : atI (hv t.hd ++ ks) 0 = some (.str (hw t.hd)) := atI_nat (j := 0) (by rw [List.getElem?_append_left (by rcases hv_len t.hd with e | e <;> omega)]; exact hv_head _)
    -- found = max([0] + [..])
    refine ⟨by show 1 ≤ sizeLine; decide, fun o ho => ?_⟩
    have s1 := Same.new (o := .lst [V.int 0]) ho
    have go : (upd H o (.lst [V.int 0])) o = some (.lst [V.int 0]) := upd_same
    generalize upd H o (.lst [V.int 0]) = H1 at s1 go
    refine ⟨.ref a, rfl, .ref a, t, rfl, ht.same s1, fun l ks' H2 s2 hl ak2 => ⟨l, rfl, ⟨_, SqL.of hl⟩, fun D hD => ?_⟩⟩
    have lk2 := ak2.len
    refine lc_list (xs := ks') (fun i G => Same H2 G ∧ IL G D ((t.kids.take i).map fun f => ((lb f).2 : Int))) ⟨Same.new hD, upd_same⟩ (fun i G _ q => SqL.of (q.1 _ _ hl)) ?_ ?_
    · rintro i x G hx ⟨sG, gD⟩
      have il := (List.getElem?_eq_some_iff.mp hx).1
      obtain ⟨f, hf⟩ : ∃ f, t.kids[i]? = some f := ⟨t.kids[i]'(by omega), by simp⟩
      have fm := kid_small (List.mem_of_getElem? hf)
      obtain ⟨m, rfl⟩ : ∃ m, n = m + 1 := by
        cases n with
        | zero => exact absurd hdep (by have : 0 < f.depth := (by cases f <;> simp [F.depth]); omega)
        | succ m => exact ⟨m, rfl⟩
      have isf := (ak2.get hx hf).same sG
      refine ⟨rfl, x, rfl, x, f, rfl, isf, by omega, by omega, by omega, fun H5 s5 => ?_⟩
      refine ⟨_, s5 _ _ gD, ?_, fun b o e => ?_, ?_⟩
      · have := F.kids_le t
        rw [List.length_map, List.length_map, List.length_take]
        exact small1000 (by omega)
      · rw [upd_ne (ne_of_none e hD)]
        exact s5 _ _ (sG _ _ e)
      · show _ = _
        rw [upd_same, List.take_add_one, hf, List.map_append, List.map_append]
        rfl
    · rintro G ⟨sG, gD⟩
      rw [show t.kids.take ks'.length = t.kids by rw [List.take_of_length_le (by omega)]] at gD
      refine ⟨o, D, _, _, rfl, rfl, sG _ _ (s2 _ _ go), gD, ?_, fun q hq => ?_⟩
      · have := F.kids_le t
        simp only [List.length_map, List.length_cons, List.length_nil]
        exact Nat.le_of_lt (small1000 (by omega))
      have s3 := Same.new (o := .lst ([V.int 0] ++ (t.kids.map fun f => ((lb f).2 : Int)).map V.int)) hq
      have gq : (upd G q (.lst ([V.int 0] ++ (t.kids.map fun f => ((lb f).2 : Int)).map V.int))) q = some (.lst (([(0 : Int)] ++ t.kids.map fun f => ((lb f).2 : Int)).map V.int)) := by
        rw [upd_same, List.map_append]
        rfl
      have sH := s1.trans (s2.trans (sG.trans s3))
      generalize upd G q (.lst ([V.int 0] ++ (t.kids.map fun f => ((lb f).2 : Int)).map V.int)) = G3 at s3 gq sH
      refine ⟨q, _, rfl, SqL.of gq, by simp, fun m hm hle => ?_⟩
      rw [kmax_top _ m hm hle]
      have sq3 := SqT.same sH sq
      have ak3 := ak.lk (LKp.same sH)
      refine ⟨.ref a, rfl, a, _, _, _, rfl, rfl, sq3, at0, by show 2 ≤ sizeLine; decide, fun p hp => ⟨p, _, rfl, .inr (SqT.of upd_same), rfl, rfl, _, rfl, ?_⟩⟩
      rw [if_neg Bool.false_ne_true, in_binders, isB_hd]
      have s4 := Same.new (o := .tup [.str "least", .str "most"]) hp
      generalize upd G3 p (.tup [.str "least", .str "most"]) = G4 at s4
      have sq4 := SqT.same s4 sq3
      have ak4 := ak3.lk (LKp.same s4)
      have sH4 := sH.trans s4
      cases hb : isB t with
      | false =>
        refine iteF ⟨_, rfl, ?_⟩
        rw [← lb_kids hb]
        exact k _ sH4
      | true =>
        refine iteT ?_
        obtain ⟨kd, x, f, rfl⟩ : ∃ kd x f, t = .one kd x f := by
          cases t with
          | one kd x f => exact ⟨kd, x, f, rfl⟩
          | _ => cases hb
        have hk : kd.bind = true := hb
        cases ak4 with
        | cons hf hn =>
          rename_i vf _
          cases hn
          have at1 : atI (hv (F.one kd x f).hd ++ [vf]) 1 = some (.int x) := rfl
          have at2 : atI (hv (F.one kd x f).hd ++ [vf]) 2 = some vf := rfl
          refine ⟨.int (kmax (F.one kd x f).kids : Nat), rfl, (kmax (F.one kd x f).kids : Nat), 1, rfl, ?_⟩
          have e1 : (if (1 : Int) > ((kmax (F.one kd x f).kids : Nat) : Int) then (1 : Int) else ((kmax (F.one kd x f).kids : Nat) : Int)) = ((max (lb f).2 1 : Nat) : Int) := by
            have : kmax (F.one kd x f).kids = (lb f).2 := by simp [F.kids, kmax]
            rw [this]
            split <;> omega
          rw [e1]
          have fd1 : f.depth + 1 ≤ n + 1 := hdep
          have fs1 : f.size + 1 ≤ 1000 := hsz
          refine ⟨.ref a, rfl, a, _, 2, vf, rfl, rfl, sq4, at2, vf, f, rfl, hf, by show f.depth ≤ 20; omega, by omega, fun l3 ks3 G5 s5 hl3 ak5 => ⟨l3, rfl, ⟨_, SqL.of hl3⟩, ?_⟩⟩
          have lk5 := ak5.len
          have ll : (bl f).length = (lb f).1.length := by simp [bl]
          refine for_list (xs := ks3) (fun i σ G => ∃ y2 : Option V, σ = [some (.ref a), some (.int (mxl (pL kd x) Prod.snd (max (lb f).2 1) ((lb f).1.take i) : Nat)), y2, none] ∧ Same G5 G)
            ⟨none, rfl, Same.refl _⟩ (fun i σ G _ ⟨_, _, sG⟩ => SqL.of (sG _ _ hl3)) ?_ ?_
          · rintro i y σ G6 hy ⟨y2, rfl, s6⟩
            have il := (List.getElem?_eq_some_iff.mp hy).1
            obtain ⟨⟨g, ng⟩, hg⟩ : ∃ e, (lb f).1[i]? = some e := ⟨(lb f).1[i]'(by omega), by simp⟩
            have hgb : (bl f)[i]? = some g := by unfold bl; rw [List.getElem?_map, hg]; rfl
            have isg := (ak5.get hy hgb).same s6
            obtain ⟨n1, n2, n3, n4⟩ := lb_num f g ng (List.mem_of_getElem? hg)
            obtain ⟨b, kg, rfl, sqg, akg⟩ := isg.open
            have at0g : atI (hv g.hd ++ kg) 0 = some (.str (hw g.hd)) := atI_nat (j := 0) (by rw [List.getElem?_append_left (by rcases hv_len g.hd with e | e <;> omega)]; exact hv_head _)
            have s56 := s5.trans s6
            have sq6 := SqT.same s56 sq4
            obtain ⟨kg', xg, fg, rfl⟩ : ∃ kd x f, g = .one kd x f := by
              cases g with
              | one kd x f => exact ⟨kd, x, f, rfl⟩
              | _ => cases n2
            have take : mxl (pL kd x) Prod.snd (max (lb f).2 1) ((lb f).1.take (i + 1)) = if pL kd x (.one kg' xg fg, ng) = true then max (mxl (pL kd x) Prod.snd (max (lb f).2 1) ((lb f).1.take i)) (ng + 1) else mxl (pL kd x) Prod.snd (max (lb f).2 1) ((lb f).1.take i) := by
              rw [List.take_add_one, hg]
              exact mxl_snoc _ _ _ _ _
            have skip : pL kd x (.one kg' xg fg, ng) = false → ∀ G7, Same G6 G7 → ∃ y2 : Option V, ([some (.ref a), some (.int (mxl (pL kd x) Prod.snd (max (lb f).2 1) ((lb f).1.take i) : Nat)), some (.ref b), none] : List (Option V)) = [some (.ref a), some (.int (mxl (pL kd x) Prod.snd (max (lb f).2 1) ((lb f).1.take (i + 1)) : Nat)), y2, none] ∧ Same G5 G7 := fun e G7 s7 => by
              refine ⟨some (.ref b), ?_, s6.trans s7⟩
              rw [take, e, if_neg Bool.false_ne_true]
            refine ⟨.ref b, rfl, b, _, _, _, rfl, rfl, sqg, at0g, .ref a, rfl, a, _, _, _, rfl, rfl, sq6, at0, rfl, _, rfl, ?_⟩
            by_cases ek : kg' = kd
            · subst ek
              show if (!decide (V.str (hw (F.one kg' xg fg).hd) = V.str (hw (F.one kg' x f).hd))) = true then _ else _
              rw [decide_eq_true (show V.str (hw (F.one kg' xg fg).hd) = V.str (hw (F.one kg' x f).hd) from rfl)]
              refine iteF (iteF ?_)
              exact skip (by unfold pL; rw [decide_eq_false (fun q : kOf (F.one kg' xg fg) ≠ kg' => q rfl)]; rfl) _ (Same.refl _)
            · have ne : V.str (hw (F.one kg' xg fg).hd) ≠ V.str (hw (F.one kd x f).hd) := fun q => ek (wO_ne.mp q)
              rw [decide_eq_false ne]
              refine iteT ?_
              refine ⟨.ref a, rfl, a, _, 1, .int x, rfl, rfl, sq6, at1, .ref b, rfl, Nat.zero_le _, fun ba hba => ?_⟩
              have s7 := Same.new (o := .lst []) hba
              refine ⟨.ref b, .one kg' xg fg, ba, [], rfl, isg.same s7, by show (F.one kg' xg fg).depth ≤ 20; omega, by omega, upd_same, by decide, fun l8 G8 s8 hl8 => ?_⟩
              have s78 := s7.trans s8
              refine ⟨l8, _, rfl, .inl (SqL.of hl8), rfl, flat_ints _, _, rfl, ?_⟩
              rw [if_neg Bool.false_ne_true, in_ints]
              by_cases hx : x ∈ freeL (.one kg' xg fg) []
              · rw [decide_eq_true hx]
                refine iteT ?_
                obtain ⟨m', rfl⟩ : ∃ m, n = m + 1 := by
                  cases n with
                  | zero =>
                    exfalso
                    have : 0 < f.depth := (by cases f <;> simp [F.depth])
                    omega
                  | succ m => exact ⟨m, rfl⟩
                refine ⟨.int (mxl (pL kd x) Prod.snd (max (lb f).2 1) ((lb f).1.take i) : Nat), rfl, .ref b, rfl, .ref b, .one kg' xg fg, rfl, isg.same s78, by omega, by omega, by omega, fun G9 s9 => ?_⟩
                refine ⟨1, ((lb (.one kg' xg fg)).2 : Nat), rfl, rfl, (mxl (pL kd x) Prod.snd (max (lb f).2 1) ((lb f).1.take i) : Nat), 1 + ((lb (.one kg' xg fg)).2 : Nat), rfl, some (.ref b), ?_, s6.trans (s78.trans s9)⟩
                have ep : pL kd x (.one kg' xg fg, ng) = true := by
                  unfold pL
                  rw [decide_eq_true (show kOf (F.one kg' xg fg) ≠ kd from ek), decide_eq_true ((free_fv x _ []).mp hx).1]
                  rfl
                rw [take, ep, if_pos rfl, n1]
                have e2 : ∀ M N : Nat, (if (1 : Int) + (N : Int) > (M : Int) then 1 + (N : Int) else (M : Int)) = ((max M (N + 1) : Nat) : Int) := fun M N => by split <;> omega
                rw [← e2]
                rfl
              · rw [decide_eq_false hx]
                refine iteF ?_
                refine skip ?_ _ s78
                unfold pL
                rw [decide_eq_false (fun q : x ∈ fv (F.one kg' xg fg) => hx ((free_fv x _ []).mpr ⟨q, by simp⟩)), Bool.and_false]
          · rintro σ G6 ⟨y2, rfl, s6⟩
            refine ⟨_, rfl, ?_⟩
            rw [List.take_of_length_le (by omega), ← lb_one hk]
            exact k _ (sH4.trans (s5.trans s6))
theorem all_number {f : Addr} {fd : FuncData} (FF : Fun K "_law_number" "_law_number" s_law_number f fd) (b : Binds K fd a_law_number []) (m : mg "_law_number" = some (.ref f)) (T : Txt K mg C J B)
    (h_law_inner : Has P w K mg base "_law_inner" 1 a_law_inner (spInner K)) (h_law_binders : Has P w K mg base "_law_binders" 21 a_law_binders (spBind K 20)) (h_law_free : Has P w K mg base "_law_free" 21 a_law_free (spFr K 20)) :
    ∀ n, Has P w K mg base "_law_number" (n + 22) a_law_number (spNum K n)
  | 0 => ⟨f, fd, m, FF.kp, b, noneOk⟩
  | n + 1 => ⟨f, fd, m, FF.kp, b, ok_law_number n FF T h_law_inner h_law_binders h_law_free (all_number FF b m T h_law_inner h_law_binders h_law_free n)⟩
end
end Fw

set_option maxRecDepth 100000
set_option maxHeartbeats 4000000
namespace Fw
open PySem PySem.Spec PyProof.Rows L2
theorem size_le36 {t : F} (h : t.depth ≤ 5) : t.size ≤ 100 := by
  have := F.size_depth t
  have : 2 ^ t.depth ≤ 2 ^ 5 := Nat.pow_le_pow_right (by decide) h
  omega
/-! ### rows of binders -/
def kb (b : Bool) : One := if b = true then .least else .most
def rowIn : Nat → F
  | 0 => .leaf .has 0
  | n + 1 => .two false (rowIn n) (.one .some 0 (.leaf .var (n : Int)))
def rowF : List Bool → Nat → F → F
  | [], _, t => t
  | b :: r, k, t => .one (kb b) (k : Int) (rowF r (k + 1) t)
def chgN (ks : List Bool) (m : Nat) : Nat := ((List.range m).filter fun i => decide (ks[i + 1]? ≠ ks[i]?)).length
def allB : Nat → List (List Bool)
  | 0 => [[]]
  | n + 1 => (allB n).flatMap fun l => [true :: l, false :: l]
theorem mem_allB : ∀ ks : List Bool, ks ∈ allB ks.length
  | [] => List.mem_singleton.mpr rfl
  | b :: ks => List.mem_flatMap.mpr ⟨ks, mem_allB ks, by cases b <;> simp⟩
theorem row_dec : ∀ n ∈ [1, 2, 3, 4, 5, 6], ∀ ks ∈ allB n, (en (rowF ks 0 (rowIn n)) 0).2 = chgN ks (n - 1) + 1 := by decide +kernel
theorem row_num {ks : List Bool} (h1 : 1 ≤ ks.length) (h6 : ks.length ≤ 6) : (en (rowF ks 0 (rowIn ks.length)) 0).2 = chgN ks (ks.length - 1) + 1 := by
  refine row_dec ks.length ?_ ks (mem_allB ks)
  simp only [List.mem_cons, List.not_mem_nil, or_false]
  omega
theorem chg_succ (ks : List Bool) (m : Nat) : chgN ks (m + 1) = chgN ks m + if ks[m + 1]? ≠ ks[m]? then 1 else 0 := by
  unfold chgN
  rw [List.range_succ, List.filter_append, List.length_append]
  congr 1
  by_cases h : ks[m + 1]? ≠ ks[m]?
  · rw [if_pos h]
    simp [List.filter_cons, h]
  · rw [if_neg h]
    simp only [ne_eq, Classical.not_not] at h
    simp [List.filter_cons, h]
abbrev wB (b : Bool) : V := .str (wO (kb b))
theorem wB_ne {a b : Bool} : wB a = wB b ↔ a = b := by
  rw [show (wB a = wB b) ↔ (V.str (wO (kb a)) = V.str (wO (kb b))) from Iff.rfl, wO_ne]
  cases a <;> cases b <;> simp [kb]
section
variable {P : Program} {w : World} {K : PySem.W.Frag} {mg : Str → Option Value} {base : Heap} {C J B NC FE : Addr}
def spIsInt : Sp := fun vs H Q _ => ∃ n : Int, vs = [.int n] ∧ Q (.bl true) H
theorem ok_law_is_integer {f : Addr} {fd : FuncData} (FF : Fun K "_law_is_integer" "_law_is_integer" s_law_is_integer f fd) (T : Txt K mg C J B) : FnOk P w K mg base CX0 1 f fd a_law_is_integer spIsInt := by
  refine FF.ok sc_law_is_integer (fun vs H Q E h => ?_) (fun cdv A outer s H vs Q E hr h => ?_)
  · obtain ⟨n, rfl, _⟩ := h
    rfl
  · obtain ⟨n, rfl, k⟩ := h
    refine ⟨_, (pss_one (ps_ret (pe_and (pe_callB call_isi rfl T.z_isinstance (by decide +kernel) (pa_cons (pv 0) (pa_cons (pe_bltn (v := .ty "int") (u := .type "int") rfl T.z_int (by decide +kernel) rfl) pa_nil))) (pe_one (pe_not (pe_callB call_isi rfl T.z_isinstance (by decide +kernel) (pa_cons (pv 0) (pa_cons (pe_bltn (v := .ty "bool") (u := .type "bool") rfl T.z_bool (by decide +kernel) rfl) pa_nil)))))))), ?_⟩
    refine ⟨.int n, rfl, .int n, .ty "int", .type "int", .type "int", true, rfl, .ty "int", .base (.int n), kit_ty (by decide +kernel), true, rfl, iteT ?_⟩
    exact ⟨.int n, rfl, .int n, .ty "bool", .type "int", .type "bool", false, rfl, .ty "bool", .base (.int n), kit_ty (by decide +kernel), false, rfl, k⟩
def spLaw (K : PySem.W.Frag) : Sp := fun vs H Q _ => ∃ (a : Addr) (ns : List Int), vs = [.ref a] ∧ SqL K H a (ns.map V.int) ∧ ns.length ≤ 63 ∧ ∀ H', Q (.bl true) H'
theorem ok_law {f : Addr} {fd : FuncData} (FF : Fun K "law" "law" s_law f fd) (T : Txt K mg C J B) (h_law_draws : Has P w K mg base "_law_draws" 1 a_law_draws (spDraws K)) (h_law_closed : Has P w K mg base "_law_closed" 8 a_law_closed (spClosed K 4))
    (h_law_take : Has P w K mg base "_law_take" 1 a_law_take spTake) (h_law_is_integer : Has P w K mg base "_law_is_integer" 1 a_law_is_integer spIsInt) (h_alternation : HasX P w K mg base "alternation" 6 a_alternation (spAlt K))
    (h_law_tidy : Has P w K mg base "_law_tidy" 22 a_law_tidy (spLTidy K)) (h_law_number : Has P w K mg base "_law_number" 42 a_law_number (spNum K 20)) : FnOk P w K mg base CX0 43 f fd a_law (spLaw K) := by
  refine FF.ok sc_law (fun vs H Q E h => ?_) (fun cdv A outer s H vs Q E hr h => ?_)
  · obtain ⟨a, ns, rfl, _⟩ := h
    rfl
  · obtain ⟨a, ns, rfl, hS, hlen, k⟩ := h
    have small : ∀ n : Nat, n ≤ 1000 → n < sizeLine := fun n hn => small1000 hn
    refine ⟨_, (pss_cons (ps_set (i := 1) sc_law.nd rfl (.inr rfl) (pe_callH h_law_draws (hr.mono (by omega)) (pa_cons (pv 0) (pa_cons pe_int pa_nil))))
      (pss_cons (ps_set (i := 2) sc_law.nd rfl (.inl rfl) (pe_callH h_law_closed (hr.mono (by omega)) (pa_cons (pv 1) (pa_cons pe_int pa_nil))))
      (pss_cons (ps_set (i := 4) sc_law.nd rfl (.inr rfl) (pe_lc (own := [("k", 3)]) (g := gName 3) rfl sc_law.nd (pi_range1 rfl T.z_range (pa_cons (pe_op op_add pe_int (pe_callH h_law_take (hr.mono (by omega)) (pa_cons (pv 1) (pa_cons pe_int pa_nil)))) pa_nil)) (blkOk_by (own := [("k", 3)]) (N := n_law) (sc := defScope s_law) (by decide +kernel)) (fun _ _ _ _ _ => (pg_name (i := 3) sc_law.nd rfl (.inl rfl))) (fun _ _ _ _ _ => pts_nil) (fun _ _ _ _ _ => (pe_ix (@id (IxR _ (rIxL K)) ix_list) (pe_lst (pa_cons pe_str (pa_cons pe_str pa_nil))) (pe_callH h_law_take (hr.mono (by omega)) (pa_cons (pv 1) (pa_cons pe_int pa_nil))) (fun _ _ => rfl)))))
      (pss_cons (ps_set (i := 5) sc_law.nd rfl (.inl rfl) pe_bl)
      (pss_cons (ps_set (i := 6) sc_law.nd rfl (.inl rfl) (pe_tup (pa_cons pe_str (pa_cons pe_int pa_nil))))
      (pss_cons (ps_for PassesOwn.never rfl (pi_range1 rfl T.z_range (pa_cons (pe_callB call_len_seq rfl T.z_len (by decide +kernel) (pa_cons (pv 4) pa_nil)) pa_nil)) (pg_name (i := 3) sc_law.nd rfl (.inl rfl)) (pss_one (ps_if (pt_cmpR op_gt (pe_callH h_law_take (hr.mono (by omega)) (pa_cons (pv 1) (pa_cons pe_int pa_nil))) pe_int (nomark _)) (pss_one (ps_set (i := 6) sc_law.nd rfl (.inl rfl) (pe_tup (pa_cons pe_str (pa_cons (pv 6) (pa_cons (pe_tup (pa_cons pe_str (pa_cons pe_int (pa_cons (pe_tup (pa_cons pe_str (pa_cons (pv 3) pa_nil))) pa_nil)))) pa_nil)))))) (pss_one (ps_set (i := 5) sc_law.nd rfl (.inl rfl) pe_bl)))))
      (pss_cons (ps_for PassesOwn.never rfl (pi_range3 rfl T.z_range (pa_cons (pe_op op_sub (pe_callB call_len_seq rfl T.z_len (by decide +kernel) (pa_cons (pv 4) pa_nil)) pe_int) (pa_cons (pe_un un_neg pe_int) (pa_cons (pe_un un_neg pe_int) pa_nil)))) (pg_name (i := 3) sc_law.nd rfl (.inl rfl)) (pss_one (ps_set (i := 6) sc_law.nd rfl (.inl rfl) (pe_tup (pa_cons (pe_ix ix_list (pv 4) (pv 3) (fun _ _ => rfl)) (pa_cons (pv 3) (pa_cons (pv 6) pa_nil)))))))
      (pss_cons (ps_for PassesOwn.never rfl (pi_tup (pe_tup (pa_cons (pv 2) (pa_cons (pv 6) pa_nil)))) (pg_name (i := 7) sc_law.nd rfl (.inl rfl)) (pss_cons (ps_set (i := 8) sc_law.nd rfl (.inl rfl) (pe_callL h_alternation (hr.mono (by omega)) (pa_cons (pv 7) pa_nil)))
      (pss_one (ps_if (PW.pt (pw_or (pt_not (pt_val (pe_callH h_law_is_integer (hr.mono (by omega)) (pa_cons (pv 8) pa_nil)))) (pw_or1 (pt_cmpR op_ne (pv 8) (pe_callH h_law_number (hr.mono (by omega)) (pa_cons (pe_callH h_law_tidy (hr.mono (by omega)) (pa_cons (pv 7) pa_nil)) pa_nil)) (nomark _))))) (pss_one (ps_ret pe_bl)) pss_nil))))
      (pss_cons (ps_set (i := 9) sc_law.nd rfl (.inl rfl) (pe_callB call_len_seq rfl T.z_len (by decide +kernel) (pa_cons (pe_lc (own := [("k", 3)]) (g := gName 3) rfl sc_law.nd (pi_range2 rfl T.z_range (pa_cons pe_int (pa_cons (pe_callB call_len_seq rfl T.z_len (by decide +kernel) (pa_cons (pv 4) pa_nil)) pa_nil))) (blkOk_by (own := [("k", 3)]) (N := n_law) (sc := defScope s_law) (by decide +kernel)) (fun _ _ _ _ _ => (pg_name (i := 3) sc_law.nd rfl (.inl rfl))) (fun _ _ _ _ _ => (pts_one (pt_cmpR op_ne (pe_ix (@id (IxR _ (rIxL K)) ix_list) (pv 4) (pv 3) (fun _ _ => rfl)) (pe_ix (@id (IxR _ (rIxL K)) ix_list) (pv 4) (pe_op op_sub (pv 3) pe_int) (fun _ _ => rfl)) (nomark _)))) (fun _ _ _ _ _ => (pv 3))) pa_nil)))
      (pss_one (ps_ret (pe_or (pe_not (pv 5)) (pe_one (pe_cmpR op_eq (pe_callL h_alternation (hr.mono (by omega)) (pa_cons (pv 6) pa_nil)) (pe_op op_add (pv 9) pe_int) (nomark _))))))))))))))), ?_⟩
    refine ⟨.ref a, rfl, a, ns, 300, rfl, hS, hlen, by decide, by decide, fun d H1 s1 hd0 d1 => ?_⟩
    refine ⟨.ref d, rfl, d, rfl, d1, by decide, fun v t H2 b2 d2 ht g => ?_⟩
    have hfv : fv t = [] := List.eq_nil_iff_forall_not_mem.mpr fun x hx => (g.fr x hx).elim (fun z => by cases z) fun z => by cases z
    have dep : t.depth ≤ 5 := g.dep
    -- kinds
    refine ⟨.ref d, rfl, d, 6, rfl, d2, by decide, fun v3 H3 v30 v36 b3 d3 => ⟨1, v3, rfl, rfl, 1 + v3, rfl, by omega, by omega, fun ka hka => ?_⟩⟩
    have kad := d3.ne hka
    have ht3 := ht.but d2.lst b3
    obtain ⟨n, hn⟩ : ∃ n : Nat, (n : Int) = 1 + v3 := ⟨(1 + v3).toNat, by omega⟩
    rw [← hn]
    refine lc_range (lo := 0) (n := n) (fun i G => But d H3 G ∧ Draws G d ∧ ∃ ks : List Bool, ks.length = i ∧ G ka = some (.lst (ks.map wB)))
      ⟨Same.but (Same.new hka), d3.same (Same.new hka), [], rfl, upd_same⟩ ?_ ?_
    · rintro i G hi ⟨bG, dG, ks, lk, gk⟩
      refine ⟨rfl, by show 2 ≤ sizeLine; decide, fun l hl => ?_⟩
      have s4 := Same.new (o := .lst [.str "least", .str "most"]) hl
      have l4 := upd_same (H := G) (a := l) (o := .lst [.str "least", .str "most"])
      have ld := dG.ne hl
      refine ⟨.ref d, rfl, d, 2, rfl, dG.same s4, by decide, fun v4 H4 v40 v42 b4 d4 => ?_⟩
      obtain ⟨b, hb⟩ := two_at (x := V.str "least") (y := V.str "most") v40 v42
      have gk4 := b4 _ _ kad (s4 _ _ gk)
      refine ⟨l, _, _, _, rfl, rfl, SqL.of (b4 _ _ ld l4), hb, _, gk4, by rw [List.length_map]; exact small _ (by omega), ?_⟩
      refine ⟨fun c o nc e => ?_, ?_, ks ++ [b], by rw [List.length_append, lk]; rfl, ?_⟩
      · rw [upd_ne (ne_of_none e hka)]
        exact b4 _ _ nc (s4 _ _ (bG _ _ nc e))
      · obtain ⟨ds, e⟩ := d4
        exact ⟨ds, by rw [upd_ne kad.symm]; exact e⟩
      · rw [upd_same, List.map_append]
        cases b <;> rfl
    · rintro G ⟨bG, dG, ks, lk, gk⟩
      have htG := ht3.but d3.lst bG
      have n1 : 1 ≤ n := by omega
      have n6 : n ≤ 6 := by omega
      -- inner
      refine ⟨by show 2 ≤ sizeLine; decide, fun p hp => ?_⟩
      have s5 := Same.new (o := .tup [.str "has", .int 0]) hp
      have gk5 := s5 _ _ gk
      have d5 := dG.same s5
      have ht5 := htG.same s5
      have hi5 : IsF K (upd G p (.tup [.str "has", .int 0])) (.ref p) (rowIn 0) := .leaf (SqT.of upd_same)
      generalize upd G p (.tup [.str "has", .int 0]) = G5 at s5 gk5 d5 ht5 hi5
      have lkm : (ks.map wB).length = n := by rw [List.length_map, lk]
      refine ⟨.ref ka, rfl, ka, _, rfl, .inl (SqL.of gk5), (n : Int), by rw [lkm], by omega, by omega, ?_⟩
      refine for_range (lo := 0) (n := n) (fun i σ G => ∃ (y3 : Option V) (b : Bool) (v' : V) (t' : F), σ = [some (.ref a), some (.ref d), some v, y3, some (.ref ka), some (.bl b), some v', none, none, none] ∧ But d G5 G ∧ Draws G d ∧ IsF K G v' t' ∧
        t'.depth ≤ i + 2 ∧ t'.size ≤ 1 + 4 * i ∧ (∀ y ∈ fv t', 0 ≤ y ∧ y < (i : Int)) ∧ (b = true → t' = rowIn i)) ⟨none, true, _, _, rfl, But.refl _ _, d5, hi5, by decide, by decide, (fun y hy => by cases hy), fun _ => rfl⟩ ?_ ?_
      · rintro i σ G6 hi ⟨y3, b, v', t', rfl, b6, d6, ht6, dp, sz, fr, row⟩
        rw [Int.zero_add]
        refine ⟨.ref d, rfl, d, 4, rfl, d6, by decide, fun v7 H7 v70 v74 b7 d7 => ⟨_, _, rfl, rfl, _, rfl, ite2 (fun c => ?_) (fun c => ?_)⟩⟩
        · refine ⟨v', rfl, .int (i : Nat), rfl, by show 2 ≤ sizeLine; decide, fun p1 hp1 => ⟨by show 3 ≤ sizeLine; decide, fun p2 hp2 => ⟨by show 3 ≤ sizeLine; decide, fun p3 hp3 => ?_⟩⟩⟩
          have q1 := Same.new (o := .tup [.str "var", .int (i : Nat)]) hp1
          have q2 := Same.new (o := .tup [.str "some", .int 0, .ref p1]) hp2
          have q3 := Same.new (o := .tup [.str "or", v', .ref p2]) hp3
          have s13 := q1.trans (q2.trans q3)
          refine ⟨_, b, .ref p3, .two false t' (.one .some 0 (.leaf .var (i : Int))), rfl, (b6.trans b7).trans (Same.but s13), d7.same s13, ?_, ?_, ?_, fun y hy => ?_, fun e => by rw [row e]; rfl⟩
          · exact .two (SqT.of upd_same) ((ht6.but d6.lst b7).same s13) (.one (SqT.of (q3 _ _ upd_same)) (.leaf (SqT.of (q3 _ _ (q2 _ _ upd_same)))))
          · simp only [F.depth]
            omega
          · simp only [F.size]
            omega
          · rcases List.mem_append.mp (show y ∈ fv t' ++ [(i : Int)] from hy) with z | z
            · have := fr y z
              omega
            · rw [List.mem_singleton.mp z]
              omega
        · refine ⟨_, false, v', t', rfl, b6.trans b7, d7, ht6.but d6.lst b7, by omega, by omega, fun y hy => ?_, fun e => by cases e⟩
          have := fr y hy
          omega
      · rintro σ G6 ⟨y3, b, v', t', rfl, b6, d6, ht6, dp, sz, fr, row⟩
        have gk6 := b6 _ _ kad gk5
        have ht6' := ht5.but d5.lst b6
        -- the binders around it
        refine ⟨.ref ka, rfl, ka, _, rfl, .inl (SqL.of gk6), _, 1, rfl, rfl, 1, rfl, 1, rfl, (n : Int) - 1, -1, -1, n, by rw [lkm], ?_, ?_⟩
        · have z := RgC.neg (i := (n : Int) - 1) (j := -1) (by omega) (by omega) (by decide) (by decide)
          rw [show ((n : Int) - 1 - -1).toNat = n by omega] at z
          exact z
        refine for_rangeC (fun i σ G => ∃ (y3 : Option V) (v' : V) (t' : F), σ = [some (.ref a), some (.ref d), some v, y3, some (.ref ka), some (.bl b), some v', none, none, none] ∧ Same G6 G ∧ IsF K G v' t' ∧
          t'.depth ≤ n + 2 + i ∧ t'.size ≤ 1 + 4 * n + i ∧ (∀ y ∈ fv t', 0 ≤ y ∧ y < ((n - i : Nat) : Int)) ∧ (b = true → t' = rowF (ks.drop (n - i)) (n - i) (rowIn n)))
          ⟨_, _, _, rfl, Same.refl _, ht6, dp, sz, fr, fun e => by rw [row e, Nat.sub_zero, List.drop_of_length_le (by omega)]; rfl⟩ ?_ ?_
        · rintro i σ G7 hi ⟨y3', v'', t'', rfl, s7, ht7, dp7, sz7, fr7, row7⟩
          obtain ⟨q, hq⟩ : ∃ q : Nat, q = n - 1 - i := ⟨_, rfl⟩
          have eq : (n : Int) - 1 + (i : Nat) * (-1) = (q : Nat) := by omega
          rw [eq]
          have qn : q < ks.length := by omega
          obtain ⟨bq, hbq⟩ : ∃ bq, ks[q]? = some bq := ⟨ks[q], by simp [qn]⟩
          refine ⟨.ref ka, rfl, .int (q : Nat), rfl, ka, _, _, wB bq, rfl, rfl, SqL.of (s7 _ _ gk6), atI_nat (j := q) (by rw [List.getElem?_map, hbq]; rfl), .int (q : Nat), rfl, v'', rfl, by show 3 ≤ sizeLine; decide, fun p3 hp3 => ?_⟩
          have s8 := Same.new (o := .tup [wB bq, .int (q : Nat), v'']) hp3
          have kbb : (kb bq).bind = true := by cases bq <;> rfl
          refine ⟨_, .ref p3, .one (kb bq) (q : Int) t'', rfl, s7.trans s8, .one (SqT.of upd_same) (ht7.same s8), ?_, ?_, fun y hy => ?_, fun e => ?_⟩
          · simp only [F.depth]
            omega
          · simp only [F.size]
            omega
          · rw [fv_bind kbb] at hy
            obtain ⟨h1, h2⟩ := mem_noX.mp hy
            have := fr7 y h1
            omega
          · rw [row7 e, show n - (i + 1) = q by omega, List.drop_eq_getElem_cons qn]
            have : ks[q] = bq := Option.some.inj ((List.getElem?_eq_getElem qn).symm.trans hbq)
            rw [this, show n - i = q + 1 by omega]
            rfl
        · rintro σ G7 ⟨y3', v'', t'', rfl, s7, ht7, dp7, sz7, fr7, row7⟩
          rw [Nat.sub_self] at fr7 row7
          have htv := ht6'.same s7
          have gk7 := s7 _ _ gk6
          have hfv2 : fv t'' = [] := List.eq_nil_iff_forall_not_mem.mpr fun y hy => by have := fr7 y hy; omega
          -- both
          refine ⟨v, rfl, v'', rfl, by show 2 ≤ sizeLine; decide, fun tp htp => ⟨tp, rfl, ⟨_, SqT.of upd_same⟩, ?_⟩⟩
          have s8 := Same.new (o := .tup [v, v'']) htp
          have tT : SqT K (upd G7 tp (.tup [v, v''])) tp [v, v''] := SqT.of upd_same
          generalize upd G7 tp (.tup [v, v'']) = G8 at s8 tT
          refine for_tup (xs := [v, v'']) (fun i σ G => ∃ (y7 y8 : Option V), σ = [some (.ref a), some (.ref d), some v, y3', some (.ref ka), some (.bl b), some v'', y7, y8, none] ∧ Same G8 G) ⟨none, none, rfl, Same.refl _⟩ (fun i σ G _ ⟨_, _, _, sG⟩ => SqT.same sG tT) ?_ ?_
          · rintro i x σ G9 hx ⟨y7, y8, rfl, s9⟩
            have one : ∃ tx, IsF K G9 x tx ∧ tx.depth ≤ 20 ∧ tx.size ≤ 100 ∧ fv tx = [] := by
              match i, hx with
              | 0, hx =>
                cases hx
                exact ⟨t, (htv.same s8).same s9, by omega, size_le36 dep, hfv⟩
              | 1, hx =>
                cases hx
                exact ⟨t'', (ht7.same s8).same s9, by omega, by omega, hfv2⟩
              | i + 2, hx => simp at hx
            obtain ⟨tx, hx1, hx2, hx3, hx4⟩ := one
            have hc := closed_fv.mp hx4
            have es := tidy_skel tx nm0 0
            refine ⟨x, rfl, x, tx, rfl, hx1, hx3, hc, fun G10 s10 => ?_⟩
            refine ⟨.int ((en tx 0).2 : Nat), rfl, _, rfl, true, rfl, iteF ?_⟩
            refine ⟨.int ((en tx 0).2 : Nat), rfl, x, rfl, x, tx, rfl, hx1.same s10, hx2, hc, fun v11 G11 s11 h11 => ?_⟩
            refine ⟨v11, _, rfl, h11, ?_, by decide, ?_, fun G12 s12 => ?_⟩
            · show (tidyF tx nm0 0).1.depth ≤ 20
              rw [← skel_depth, es, skel_depth]
              exact hx2
            · rw [same_size es]
              omega
            · rw [tidy_num hx4]
              refine ⟨rfl, _, rfl, ?_⟩
              rw [decide_eq_true (rfl : V.int ((en tx 0).2 : Nat) = V.int ((en tx 0).2 : Nat))]
              refine iteF ?_
              exact ⟨_, _, rfl, s9.trans (s10.trans (s11.trans s12))⟩
          · rintro σ G9 ⟨y7, y8, rfl, s9⟩
            have gk9 := s9 _ _ (s8 _ _ gk7)
            have ht9 := (ht7.same s8).same s9
            -- changes
            refine ⟨.ref ka, rfl, ka, _, rfl, .inl (SqL.of gk9), 1, (n : Int), by rw [lkm], ⟨by decide, by decide, by omega, by omega⟩, fun D hD => ?_⟩
            refine lc_range (lo := 1) (n := ((n : Int) - 1).toNat) (fun i G => Same G9 G ∧ ∃ acc : List V, G D = some (.lst acc) ∧ acc.length = chgN ks i ∧ acc.length ≤ i) ⟨Same.new hD, [], upd_same, rfl, Nat.le_refl _⟩ ?_ ?_
            · rintro i G hi ⟨sG, acc, gD, la, li⟩
              have i1 : i + 1 < ks.length := by omega
              obtain ⟨x1, hx1⟩ : ∃ x, ks[i + 1]? = some x := ⟨ks[i + 1], by simp [i1]⟩
              obtain ⟨x0, hx0⟩ : ∃ x, ks[i]? = some x := ⟨ks[i]'(by omega), by simp⟩
              have e1 : (1 : Int) + (i : Nat) = ((i + 1 : Nat) : Int) := by omega
              rw [e1]
              refine ⟨rfl, .ref ka, rfl, .int ((i + 1 : Nat) : Int), rfl, ka, _, _, wB x1, rfl, rfl, SqL.of (sG _ _ gk9), atI_nat (j := i + 1) (by rw [List.getElem?_map, hx1]; rfl), .ref ka, rfl, .int ((i + 1 : Nat) : Int), rfl, _, 1, rfl, rfl, ka, _, _, wB x0, rfl, rfl, SqL.of (sG _ _ gk9), ?_, rfl, _, rfl, ?_⟩
              · have : ((i + 1 : Nat) : Int) - 1 = (i : Nat) := by omega
                rw [this]
                exact atI_nat (j := i) (by rw [List.getElem?_map, hx0]; rfl)
              have ch := chg_succ ks i
              rw [hx1, hx0] at ch
              by_cases e : x1 = x0
              · rw [decide_eq_true (wB_ne.mpr e)]
                refine iteF ⟨sG, acc, gD, ?_, by omega⟩
                rw [ch, if_neg (fun q => q (by rw [e]))]
                exact la
              · rw [decide_eq_false (fun q => e (wB_ne.mp q))]
                refine iteT ⟨.int ((i + 1 : Nat) : Int), rfl, acc, gD, small _ (by omega), fun c o q => by rw [upd_ne (ne_of_none q hD)]; exact sG c o q, acc ++ [.int ((i + 1 : Nat) : Int)], upd_same, ?_, ?_⟩
                · rw [ch, if_pos (fun q => e (Option.some.inj q)), List.length_append, la]
                  rfl
                · rw [List.length_append, List.length_singleton]
                  omega
            · rintro G ⟨sG, acc, gD, la, li⟩
              refine ⟨D, _, rfl, .inl (SqL.of gD), ?_⟩
              rw [la]
              refine ⟨.bl b, rfl, b, rfl, _, rfl, ?_⟩
              cases b with
              | false => exact iteT (k _)
              | true =>
                refine iteF ?_
                have ht10 := ht9.same sG
                have er := row7 rfl
                rw [List.drop_zero] at er
                refine ⟨v'', rfl, v'', t'', rfl, ht10, by omega, closed_fv.mp hfv2, fun G11 s11 => ?_⟩
                have num := row_num (ks := ks) (by omega) (by omega)
                rw [lk] at num
                rw [er, num, show ((n : Int) - 1).toNat = n - 1 by omega]
                refine ⟨.int (chgN ks (n - 1) : Nat), rfl, _, 1, rfl, rfl, rfl, ?_⟩
                have e : V.int ((chgN ks (n - 1) + 1 : Nat) : Int) = V.int ((chgN ks (n - 1) : Nat) + 1) := by congr 1
                rw [decide_eq_true e]
                exact k _
end
end Fw

set_option maxRecDepth 100000
set_option maxHeartbeats 4000000
namespace Fw
open PySem PySem.Spec PyProof.Rows L2
theorem exm_own {K : PySem.W.Frag} {S : Addr} (h1 : PySem.W.subIn K (.ref S) (.type "BaseException") = some true) (h2 : PySem.W.hasDictIn K S = true) (h3 : PySem.W.typeIn K (.ref S) = some (.type "type")) (h4 : PySem.W.subIn K (.ref S) (.ref S) = some true) :
    PySem.W.exmOne K (.ref S) (.ref S) = some true := PySem.W.exm_ref h1 h2 h3 h4
theorem pairK {K : PySem.W.Frag} {J : Addr} {d : Option Addr} {n : Nat} {sl : Array (Option Value)} {t1 t2 : Tok} {x y : Str} (l : K.lookup J = some ⟨.type "tuple", d, .seq #[.str x t1, .str y t2] n, sl⟩) (H : Hp) : SqT K H J [.str x, .str y] :=
  .inr ⟨_, #[.str x t1, .str y t2], n, l, rfl, rfl, by show 2 ≤ sizeLine; decide, .cons ⟨t1, rfl⟩ (.cons ⟨t2, rfl⟩ .nil)⟩
theorem all_mk {P : Program} {w : World} {K : PySem.W.Frag} {h : Heap} {mg : Str → Option Value} {NC FE : Addr}
    {C_Part : Addr}
    {fa f0 f1 f2 f3 f4 f5 f6 f7 f8 f9 f10 f11 f12 f13 f14 f15 f16 f17 f18 f19 f20 f21 : Addr}
    {od0 an0 od1 an1 od2 an2 od3 an3 od4 an4 od5 an5 od6 an6 od7 an7 od8 an8 od9 an9 od10 an10 od11 an11 od12 an12 od13 an13 od14 an14 od15 an15 od16 an16 od17 an17 od18 an18 od19 an19 od20 an20 od21 an21 : Option Addr} {sl0 sl1 sl2 sl3 sl4 sl5 sl6 sl7 sl8 sl9 sl10 sl11 sl12 sl13 sl14 sl15 sl16 sl17 sl18 sl19 sl20 sl21 : Array (Option Value)} {oc0 kV0 dc0 pm0 cd0 ct0 oc1 kV1 dc1 pm1 cd1 ct1 oc2 kV2 dc2 pm2 cd2 ct2 oc3 kV3 dc3 pm3 cd3 ct3 oc4 kV4 dc4 pm4 cd4 ct4 oc5 kV5 dc5 pm5 cd5 ct5 oc6 kV6 dc6 pm6 cd6 ct6 oc7 kV7 dc7 pm7 cd7 ct7 oc8 kV8 dc8 pm8 cd8 ct8 oc9 kV9 dc9 pm9 cd9 ct9 oc10 kV10 dc10 pm10 cd10 ct10 oc11 kV11 dc11 pm11 cd11 ct11 oc12 kV12 dc12 pm12 cd12 ct12 oc13 kV13 dc13 pm13 cd13 ct13 oc14 kV14 dc14 pm14 cd14 ct14 oc15 kV15 dc15 pm15 cd15 ct15 oc16 kV16 dc16 pm16 cd16 ct16 oc17 kV17 dc17 pm17 cd17 ct17 oc18 kV18 dc18 pm18 cd18 ct18 oc19 kV19 dc19 pm19 cd19 ct19 oc20 kV20 dc20 pm20 cd20 ct20 oc21 kV21 dc21 pm21 cd21 ct21 : Value}
    {J_BINDERS : Addr} {dJ_BINDERS : Option Addr} {nJ_BINDERS : Nat} {sJ_BINDERS : Array (Option Value)} {t_BINDERS_0 t_BINDERS_1 : Tok}
    {J_JOINS : Addr} {dJ_JOINS : Option Addr} {nJ_JOINS : Nat} {sJ_JOINS : Array (Option Value)} {t_JOINS_0 t_JOINS_1 : Tok}
    (X : K.In h) (G : h.Ns mainGlobals mg) (hfa : mg "law" = some (.ref fa))
    (aC_Part : PySem.W.nsIn K mainGlobals "Part" = some (some (.ref C_Part)))
    (a0 : PySem.W.findIn K (.ref C_Part) "__init__" = some (some (.ref f0)))
    (i0 : PySem.W.isFn K (.ref f0) = true)
    (l0 : K.lookup f0 = some ⟨oc0, od0, .func (PySem.W.fnOf "__init__" "Part.__init__" (defArgs s_Part_init) (defBody s_Part_init) (defScope s_Part_init) .none kV0 dc0 pm0 an0 cd0 ct0), sl0⟩)
    (c0 : PySem.W.codeIn K cd0 "Part.__init__" = true)
    (k0 : PySem.W.keepIn K (.ref f0) = true)
    (a1 : PySem.W.nsIn K mainGlobals "head_of" = some (some (.ref f1)))
    (l1 : K.lookup f1 = some ⟨oc1, od1, .func (PySem.W.fnOf "head_of" "head_of" (defArgs s_head_of) (defBody s_head_of) (defScope s_head_of) .none kV1 dc1 pm1 an1 cd1 ct1), sl1⟩)
    (c1 : PySem.W.codeIn K cd1 "head_of" = true)
    (k1 : PySem.W.keepIn K (.ref f1) = true)
    (a2 : PySem.W.nsIn K mainGlobals "parts_of" = some (some (.ref f2)))
    (l2 : K.lookup f2 = some ⟨oc2, od2, .func (PySem.W.fnOf "parts_of" "parts_of" (defArgs s_parts_of) (defBody s_parts_of) (defScope s_parts_of) .none kV2 dc2 pm2 an2 cd2 ct2), sl2⟩)
    (c2 : PySem.W.codeIn K cd2 "parts_of" = true)
    (k2 : PySem.W.keepIn K (.ref f2) = true)
    (a3 : PySem.W.nsIn K mainGlobals "nearest_around" = some (some (.ref f3)))
    (l3 : K.lookup f3 = some ⟨oc3, od3, .func (PySem.W.fnOf "nearest_around" "nearest_around" (defArgs s_nearest_around) (defBody s_nearest_around) (defScope s_nearest_around) .none kV3 dc3 pm3 an3 cd3 ct3), sl3⟩)
    (c3 : PySem.W.codeIn K cd3 "nearest_around" = true)
    (k3 : PySem.W.keepIn K (.ref f3) = true)
    (a4 : PySem.W.nsIn K mainGlobals "binder_places" = some (some (.ref f4)))
    (l4 : K.lookup f4 = some ⟨oc4, od4, .func (PySem.W.fnOf "binder_places" "binder_places" (defArgs s_binder_places) (defBody s_binder_places) (defScope s_binder_places) .none kV4 dc4 pm4 an4 cd4 ct4), sl4⟩)
    (c4 : PySem.W.codeIn K cd4 "binder_places" = true)
    (k4 : PySem.W.keepIn K (.ref f4) = true)
    (a5 : PySem.W.nsIn K mainGlobals "free_variables" = some (some (.ref f5)))
    (l5 : K.lookup f5 = some ⟨oc5, od5, .func (PySem.W.fnOf "free_variables" "free_variables" (defArgs s_free_variables) (defBody s_free_variables) (defScope s_free_variables) .none kV5 dc5 pm5 an5 cd5 ct5), sl5⟩)
    (c5 : PySem.W.codeIn K cd5 "free_variables" = true)
    (k5 : PySem.W.keepIn K (.ref f5) = true)
    (a6 : PySem.W.nsIn K mainGlobals "ensure_closed" = some (some (.ref f6)))
    (l6 : K.lookup f6 = some ⟨oc6, od6, .func (PySem.W.fnOf "ensure_closed" "ensure_closed" (defArgs s_ensure_closed) (defBody s_ensure_closed) (defScope s_ensure_closed) .none kV6 dc6 pm6 an6 cd6 ct6), sl6⟩)
    (c6 : PySem.W.codeIn K cd6 "ensure_closed" = true)
    (k6 : PySem.W.keepIn K (.ref f6) = true)
    (a7 : PySem.W.nsIn K mainGlobals "alternation" = some (some (.ref f7)))
    (l7 : K.lookup f7 = some ⟨oc7, od7, .func (PySem.W.fnOf "alternation" "alternation" (defArgs s_alternation) (defBody s_alternation) (defScope s_alternation) .none kV7 dc7 pm7 an7 cd7 ct7), sl7⟩)
    (c7 : PySem.W.codeIn K cd7 "alternation" = true)
    (k7 : PySem.W.keepIn K (.ref f7) = true)
    (a8 : PySem.W.nsIn K mainGlobals "speaking_binders" = some (some (.ref f8)))
    (l8 : K.lookup f8 = some ⟨oc8, od8, .func (PySem.W.fnOf "speaking_binders" "speaking_binders" (defArgs s_speaking_binders) (defBody s_speaking_binders) (defScope s_speaking_binders) .none kV8 dc8 pm8 an8 cd8 ct8), sl8⟩)
    (c8 : PySem.W.codeIn K cd8 "speaking_binders" = true)
    (k8 : PySem.W.keepIn K (.ref f8) = true)
    (a9 : PySem.W.nsIn K mainGlobals "_law_draws" = some (some (.ref f9)))
    (l9 : K.lookup f9 = some ⟨oc9, od9, .func (PySem.W.fnOf "_law_draws" "_law_draws" (defArgs s_law_draws) (defBody s_law_draws) (defScope s_law_draws) .none kV9 dc9 pm9 an9 cd9 ct9), sl9⟩)
    (c9 : PySem.W.codeIn K cd9 "_law_draws" = true)
    (k9 : PySem.W.keepIn K (.ref f9) = true)
    (a10 : PySem.W.nsIn K mainGlobals "_law_take" = some (some (.ref f10)))
    (l10 : K.lookup f10 = some ⟨oc10, od10, .func (PySem.W.fnOf "_law_take" "_law_take" (defArgs s_law_take) (defBody s_law_take) (defScope s_law_take) .none kV10 dc10 pm10 an10 cd10 ct10), sl10⟩)
    (c10 : PySem.W.codeIn K cd10 "_law_take" = true)
    (k10 : PySem.W.keepIn K (.ref f10) = true)
    (a11 : PySem.W.nsIn K mainGlobals "_law_is_integer" = some (some (.ref f11)))
    (l11 : K.lookup f11 = some ⟨oc11, od11, .func (PySem.W.fnOf "_law_is_integer" "_law_is_integer" (defArgs s_law_is_integer) (defBody s_law_is_integer) (defScope s_law_is_integer) .none kV11 dc11 pm11 an11 cd11 ct11), sl11⟩)
    (c11 : PySem.W.codeIn K cd11 "_law_is_integer" = true)
    (k11 : PySem.W.keepIn K (.ref f11) = true)
    (a12 : PySem.W.nsIn K mainGlobals "_law_inner" = some (some (.ref f12)))
    (l12 : K.lookup f12 = some ⟨oc12, od12, .func (PySem.W.fnOf "_law_inner" "_law_inner" (defArgs s_law_inner) (defBody s_law_inner) (defScope s_law_inner) .none kV12 dc12 pm12 an12 cd12 ct12), sl12⟩)
    (c12 : PySem.W.codeIn K cd12 "_law_inner" = true)
    (k12 : PySem.W.keepIn K (.ref f12) = true)
    (a13 : PySem.W.nsIn K mainGlobals "_law_atom" = some (some (.ref f13)))
    (l13 : K.lookup f13 = some ⟨oc13, od13, .func (PySem.W.fnOf "_law_atom" "_law_atom" (defArgs s_law_atom) (defBody s_law_atom) (defScope s_law_atom) .none kV13 dc13 pm13 an13 cd13 ct13), sl13⟩)
    (c13 : PySem.W.codeIn K cd13 "_law_atom" = true)
    (k13 : PySem.W.keepIn K (.ref f13) = true)
    (a14 : PySem.W.nsIn K mainGlobals "_law_statement" = some (some (.ref f14)))
    (l14 : K.lookup f14 = some ⟨oc14, od14, .func (PySem.W.fnOf "_law_statement" "_law_statement" (defArgs s_law_statement) (defBody s_law_statement) (defScope s_law_statement) .none kV14 dc14 pm14 an14 cd14 ct14), sl14⟩)
    (c14 : PySem.W.codeIn K cd14 "_law_statement" = true)
    (k14 : PySem.W.keepIn K (.ref f14) = true)
    (a15 : PySem.W.nsIn K mainGlobals "_law_closed" = some (some (.ref f15)))
    (l15 : K.lookup f15 = some ⟨oc15, od15, .func (PySem.W.fnOf "_law_closed" "_law_closed" (defArgs s_law_closed) (defBody s_law_closed) (defScope s_law_closed) .none kV15 dc15 pm15 an15 cd15 ct15), sl15⟩)
    (c15 : PySem.W.codeIn K cd15 "_law_closed" = true)
    (k15 : PySem.W.keepIn K (.ref f15) = true)
    (a16 : PySem.W.nsIn K mainGlobals "_law_free" = some (some (.ref f16)))
    (l16 : K.lookup f16 = some ⟨oc16, od16, .func (PySem.W.fnOf "_law_free" "_law_free" (defArgs s_law_free) (defBody s_law_free) (defScope s_law_free) .none kV16 dc16 pm16 an16 cd16 ct16), sl16⟩)
    (c16 : PySem.W.codeIn K cd16 "_law_free" = true)
    (k16 : PySem.W.keepIn K (.ref f16) = true)
    (a17 : PySem.W.nsIn K mainGlobals "_law_tidy_from" = some (some (.ref f17)))
    (l17 : K.lookup f17 = some ⟨oc17, od17, .func (PySem.W.fnOf "_law_tidy_from" "_law_tidy_from" (defArgs s_law_tidy_from) (defBody s_law_tidy_from) (defScope s_law_tidy_from) .none kV17 dc17 pm17 an17 cd17 ct17), sl17⟩)
    (c17 : PySem.W.codeIn K cd17 "_law_tidy_from" = true)
    (k17 : PySem.W.keepIn K (.ref f17) = true)
    (a18 : PySem.W.nsIn K mainGlobals "_law_tidy" = some (some (.ref f18)))
    (l18 : K.lookup f18 = some ⟨oc18, od18, .func (PySem.W.fnOf "_law_tidy" "_law_tidy" (defArgs s_law_tidy) (defBody s_law_tidy) (defScope s_law_tidy) .none kV18 dc18 pm18 an18 cd18 ct18), sl18⟩)
    (c18 : PySem.W.codeIn K cd18 "_law_tidy" = true)
    (k18 : PySem.W.keepIn K (.ref f18) = true)
    (a19 : PySem.W.nsIn K mainGlobals "_law_binders" = some (some (.ref f19)))
    (l19 : K.lookup f19 = some ⟨oc19, od19, .func (PySem.W.fnOf "_law_binders" "_law_binders" (defArgs s_law_binders) (defBody s_law_binders) (defScope s_law_binders) .none kV19 dc19 pm19 an19 cd19 ct19), sl19⟩)
    (c19 : PySem.W.codeIn K cd19 "_law_binders" = true)
    (k19 : PySem.W.keepIn K (.ref f19) = true)
    (a20 : PySem.W.nsIn K mainGlobals "_law_number" = some (some (.ref f20)))
    (l20 : K.lookup f20 = some ⟨oc20, od20, .func (PySem.W.fnOf "_law_number" "_law_number" (defArgs s_law_number) (defBody s_law_number) (defScope s_law_number) .none kV20 dc20 pm20 an20 cd20 ct20), sl20⟩)
    (c20 : PySem.W.codeIn K cd20 "_law_number" = true)
    (k20 : PySem.W.keepIn K (.ref f20) = true)
    (a21 : PySem.W.nsIn K mainGlobals "law" = some (some (.ref f21)))
    (l21 : K.lookup f21 = some ⟨oc21, od21, .func (PySem.W.fnOf "law" "law" (defArgs s_law) (defBody s_law) (defScope s_law) .none kV21 dc21 pm21 an21 cd21 ct21), sl21⟩)
    (c21 : PySem.W.codeIn K cd21 "law" = true)
    (k21 : PySem.W.keepIn K (.ref f21) = true)
    (pg_Part : PySem.W.plainGet K C_Part Str.empty = true)
    (hd_Part : PySem.W.hasDictIn K C_Part = true)
    (po_Part : PySem.W.plainOver K C_Part = true)
    (sa_Part : PySem.W.findIn K (.ref C_Part) "__setattr__" = some (some (.builtin "object.__setattr__")))
    (mk_Part : PySem.W.makesIn K C_Part = true)
    (kc_Part : PySem.W.keepIn K (.ref C_Part) = true)
    (n_Part_head : PySem.W.findIn K (.ref C_Part) "head" = some none)
    (n_Part_around : PySem.W.findIn K (.ref C_Part) "around" = some none)
    (n_Part_inner : PySem.W.findIn K (.ref C_Part) "inner" = some none)
    (z_bool : PySem.W.nsIn K mainGlobals "bool" = some none)
    (z_enumerate : PySem.W.nsIn K mainGlobals "enumerate" = some none)
    (z_int : PySem.W.nsIn K mainGlobals "int" = some none)
    (z_isinstance : PySem.W.nsIn K mainGlobals "isinstance" = some none)
    (z_len : PySem.W.nsIn K mainGlobals "len" = some none)
    (z_list : PySem.W.nsIn K mainGlobals "list" = some none)
    (z_max : PySem.W.nsIn K mainGlobals "max" = some none)
    (z_range : PySem.W.nsIn K mainGlobals "range" = some none)
    (z_reversed : PySem.W.nsIn K mainGlobals "reversed" = some none)
    (z_sorted : PySem.W.nsIn K mainGlobals "sorted" = some none)
    (z_tuple : PySem.W.nsIn K mainGlobals "tuple" = some none)
    (z_zip : PySem.W.nsIn K mainGlobals "zip" = some none)
    (aJ_BINDERS : PySem.W.nsIn K mainGlobals "BINDERS" = some (some (.ref J_BINDERS)))
    (lJ_BINDERS : K.lookup J_BINDERS = some ⟨.type "tuple", dJ_BINDERS, .seq #[.str "least" t_BINDERS_0, .str "most" t_BINDERS_1] nJ_BINDERS, sJ_BINDERS⟩)
    (aJ_JOINS : PySem.W.nsIn K mainGlobals "JOINS" = some (some (.ref J_JOINS)))
    (lJ_JOINS : K.lookup J_JOINS = some ⟨.type "tuple", dJ_JOINS, .seq #[.str "and" t_JOINS_0, .str "or" t_JOINS_1] nJ_JOINS, sJ_JOINS⟩)
    (e_gC : PySem.W.nsIn K mainGlobals "NotClosed" = some (some (.ref NC)))
    (e_gF : PySem.W.nsIn K mainGlobals "FixError" = some (some (.ref FE)))
    (e_xC : PySem.W.excIn K NC [.type "ValueError", .type "Exception", .type "BaseException", .type "object"] "ValueError.__new__" = true)
    (e_kC : PySem.W.keepIn K (.ref NC) = true)
    (e_bC : PySem.W.subIn K (.ref NC) (.type "BaseException") = some true)
    (e_tC : PySem.W.typeIn K (.ref NC) = some (.type "type"))
    (e_iC : PySem.W.isClsIn K NC = true)
    (e_sC : PySem.W.subIn K (.ref NC) (.ref NC) = some true)
    (e_xg : PySem.W.findIn K (.ref NC) "__getattribute__" = some (some (.builtin "BaseException.__getattribute__")))
    (e_xk : PySem.W.findIn K (.ref NC) "__getattr__" = some none)
    (e_xd : PySem.W.hasDictIn K NC = true)
    (e_xa : PySem.W.findIn K (.ref NC) "__class__" = some (some (.builtin "object.__class__")))
    (e_xn : PySem.W.specialIn K (.builtin "object.__class__") "__get__" = some (some (.builtin "getset_descriptor.__get__")))
    (e_xt : PySem.W.takesIn K (.builtin "object.__class__") = some true)
    (e_xm : PySem.W.mroIn K NC (.type "object") = some true)
    (e_kF : PySem.W.kitOne K (.ref NC) (.ref FE) = some true)
    (e_kV : PySem.W.kitOne K (.ref NC) (.type "ValueError") = some true) :
    ∃ fd : FuncData, (∀ (s : Shared) (u : Value), BindsTo s fd ⟨[u], []⟩ [("script", u)]) ∧ ∀ base : Heap, K.In base → base.Ns mainGlobals mg → FnOk P w K mg base CX0 43 fa fd ["script"] (spLaw K) := by
  have e := hfa.symm.trans (PySem.W.mg_of X G a21)
  cases e
  have F_Part_init := fun_mk (st := s_Part_init) l0 c0 k0
  have b_Part_init := F_Part_init.binds (ps := a_Part_init) fun _ _ _ _ _ _ us hl => match us, hl with | [_, _, _], _ => rfl
  have F_head_of := fun_mk (st := s_head_of) l1 c1 k1
  have b_head_of := F_head_of.binds (ps := a_head_of) fun _ _ _ _ _ _ us hl => match us, hl with | [_], _ => rfl
  have m_head_of := PySem.W.mg_of X G a1
  have F_parts_of := fun_mk (st := s_parts_of) l2 c2 k2
  have b_parts_of := F_parts_of.binds (ps := a_parts_of) fun _ _ _ _ _ _ us hl => match us, hl with | [_], _ => rfl
  have m_parts_of := PySem.W.mg_of X G a2
  have F_nearest_around := fun_mk (st := s_nearest_around) l3 c3 k3
  have b_nearest_around := F_nearest_around.binds (ps := a_nearest_around) fun _ _ _ _ _ _ us hl => match us, hl with | [_, _], _ => rfl
  have m_nearest_around := PySem.W.mg_of X G a3
  have F_binder_places := fun_mk (st := s_binder_places) l4 c4 k4
  have b_binder_places := F_binder_places.binds (ps := a_binder_places) fun _ _ _ _ _ _ us hl => match us, hl with | [_], _ => rfl
  have m_binder_places := PySem.W.mg_of X G a4
  have F_free_variables := fun_mk (st := s_free_variables) l5 c5 k5
  have b_free_variables := F_free_variables.binds (ps := a_free_variables) fun _ _ _ _ _ _ us hl => match us, hl with | [_], _ => rfl
  have m_free_variables := PySem.W.mg_of X G a5
  have F_ensure_closed := fun_mk (st := s_ensure_closed) l6 c6 k6
  have b_ensure_closed := F_ensure_closed.binds (ps := a_ensure_closed) fun _ _ _ _ _ _ us hl => match us, hl with | [_], _ => rfl
  have m_ensure_closed := PySem.W.mg_of X G a6
  have F_alternation := fun_mk (st := s_alternation) l7 c7 k7
  have b_alternation := F_alternation.binds (ps := a_alternation) fun _ _ _ _ _ _ us hl => match us, hl with | [_], _ => rfl
  have m_alternation := PySem.W.mg_of X G a7
  have F_speaking_binders := fun_mk (st := s_speaking_binders) l8 c8 k8
  have b_speaking_binders := F_speaking_binders.binds (ps := a_speaking_binders) fun _ _ _ _ _ _ us hl => match us, hl with | [_], _ => rfl
  have m_speaking_binders := PySem.W.mg_of X G a8
  have F_law_draws := fun_mk (st := s_law_draws) l9 c9 k9
  have b_law_draws := F_law_draws.binds (ps := a_law_draws) fun _ _ _ _ _ _ us hl => match us, hl with | [_, _], _ => rfl
  have m_law_draws := PySem.W.mg_of X G a9
  have F_law_take := fun_mk (st := s_law_take) l10 c10 k10
  have b_law_take := F_law_take.binds (ps := a_law_take) fun _ _ _ _ _ _ us hl => match us, hl with | [_, _], _ => rfl
  have m_law_take := PySem.W.mg_of X G a10
  have F_law_is_integer := fun_mk (st := s_law_is_integer) l11 c11 k11
  have b_law_is_integer := F_law_is_integer.binds (ps := a_law_is_integer) fun _ _ _ _ _ _ us hl => match us, hl with | [_], _ => rfl
  have m_law_is_integer := PySem.W.mg_of X G a11
  have F_law_inner := fun_mk (st := s_law_inner) l12 c12 k12
  have b_law_inner := F_law_inner.binds (ps := a_law_inner) fun _ _ _ _ _ _ us hl => match us, hl with | [_], _ => rfl
  have m_law_inner := PySem.W.mg_of X G a12
  have F_law_atom := fun_mk (st := s_law_atom) l13 c13 k13
  have b_law_atom := F_law_atom.binds (ps := a_law_atom) fun _ _ _ _ _ _ us hl => match us, hl with | [_, _], _ => rfl
  have m_law_atom := PySem.W.mg_of X G a13
  have F_law_statement := fun_mk (st := s_law_statement) l14 c14 k14
  have b_law_statement := F_law_statement.binds (ps := a_law_statement) fun _ _ _ _ _ _ us hl => match us, hl with | [_, _, _, _, _], _ => rfl
  have m_law_statement := PySem.W.mg_of X G a14
  have F_law_closed := fun_mk (st := s_law_closed) l15 c15 k15
  have b_law_closed := F_law_closed.binds (ps := a_law_closed) fun _ _ _ _ _ _ us hl => match us, hl with | [_, _], _ => rfl
  have m_law_closed := PySem.W.mg_of X G a15
  have F_law_free := fun_mk (st := s_law_free) l16 c16 k16
  have b_law_free := F_law_free.binds (ps := a_law_free) fun _ _ _ _ _ _ us hl => match us, hl with | [_, _], _ => rfl
  have m_law_free := PySem.W.mg_of X G a16
  have F_law_tidy_from := fun_mk (st := s_law_tidy_from) l17 c17 k17
  have b_law_tidy_from := F_law_tidy_from.binds (ps := a_law_tidy_from) fun _ _ _ _ _ _ us hl => match us, hl with | [_, _, _], _ => rfl
  have m_law_tidy_from := PySem.W.mg_of X G a17
  have F_law_tidy := fun_mk (st := s_law_tidy) l18 c18 k18
  have b_law_tidy := F_law_tidy.binds (ps := a_law_tidy) fun _ _ _ _ _ _ us hl => match us, hl with | [_], _ => rfl
  have m_law_tidy := PySem.W.mg_of X G a18
  have F_law_binders := fun_mk (st := s_law_binders) l19 c19 k19
  have b_law_binders := F_law_binders.binds (ps := a_law_binders) fun _ _ _ _ _ _ us hl => match us, hl with | [_], _ => rfl
  have m_law_binders := PySem.W.mg_of X G a19
  have F_law_number := fun_mk (st := s_law_number) l20 c20 k20
  have b_law_number := F_law_number.binds (ps := a_law_number) fun _ _ _ _ _ _ us hl => match us, hl with | [_], _ => rfl
  have m_law_number := PySem.W.mg_of X G a20
  have F_law := fun_mk (st := s_law) l21 c21 k21
  have T : Txt K mg C_Part J_JOINS J_BINDERS := ⟨PySem.W.mg_none_of X G z_bool, PySem.W.mg_none_of X G z_enumerate, PySem.W.mg_none_of X G z_int, PySem.W.mg_none_of X G z_isinstance, PySem.W.mg_none_of X G z_len, PySem.W.mg_none_of X G z_list, PySem.W.mg_none_of X G z_max, PySem.W.mg_none_of X G z_range, PySem.W.mg_none_of X G z_reversed, PySem.W.mg_none_of X G z_sorted, PySem.W.mg_none_of X G z_tuple, PySem.W.mg_none_of X G z_zip, PySem.W.mg_of X G aJ_JOINS, pairK lJ_JOINS, PySem.W.mg_of X G aJ_BINDERS, pairK lJ_BINDERS, ⟨pg_Part, hd_Part, po_Part, sa_Part⟩, n_Part_head, n_Part_around, n_Part_inner⟩
  have TE : TxtE K mg NC FE := ⟨PySem.W.mg_of X G e_gC, PySem.W.mg_of X G e_gF, e_xC, e_kC, e_bC, e_tC, exm_own e_bC e_xd e_tC e_sC, ⟨e_xg, e_xk, e_bC, e_xd, e_xa, e_xn, e_xt, e_xm⟩, e_kF, e_kV⟩
  refine ⟨PySem.W.fnOf "law" "law" (defArgs s_law) (defBody s_law) (defScope s_law) .none kV21 dc21 pm21 an21 cd21 ct21, fun s u => .of_eq rfl, fun base _ _ => ?_⟩
  have h_Part : HasC P w K mg base "Part" C_Part 1 a_Part_init (spPart K C_Part) := ⟨_, _, PySem.W.mg_of X G aC_Part, ⟨mk_Part, a0, i0, kc_Part⟩, b_Part_init, ok_Part F_Part_init T⟩
  have h_head_of : Has P w K mg base "head_of" 1 a_head_of (spHead K) := ⟨_, _, m_head_of, F_head_of.kp, b_head_of, ok_head_of F_head_of T⟩
  have h_parts_of : Has P w K mg base "parts_of" 3 a_parts_of (spParts K C_Part) := ⟨_, _, m_parts_of, F_parts_of.kp, b_parts_of, ok_parts_of F_parts_of T h_head_of h_Part⟩
  have h_near : Has P w K mg base "nearest_around" 1 a_nearest_around (spNear K C_Part J_BINDERS) := ⟨_, _, m_nearest_around, F_nearest_around.kp, b_nearest_around, ok_nearest_around F_nearest_around T⟩
  have h_places : Has P w K mg base "binder_places" 2 a_binder_places (spPlaces K C_Part) := ⟨_, _, m_binder_places, F_binder_places.kp, b_binder_places, ok_binder_places F_binder_places T h_near⟩
  have h_free : Has P w K mg base "free_variables" 4 a_free_variables (spFree K) := ⟨_, _, m_free_variables, F_free_variables.kp, b_free_variables, ok_free_variables F_free_variables T h_parts_of h_places⟩
  have h_ens : HasX P w K mg base "ensure_closed" 5 a_ensure_closed (spEnsure K NC) := ⟨_, _, m_ensure_closed, F_ensure_closed.kp, b_ensure_closed, ok_ensure_closed F_ensure_closed T TE h_free⟩
  have h_speak : Has P w K mg base "speaking_binders" 3 a_speaking_binders (spSpeak K C_Part) := ⟨_, _, m_speaking_binders, F_speaking_binders.kp, b_speaking_binders, ok_speaking F_speaking_binders T h_near h_places⟩
  have h_alt : HasX P w K mg base "alternation" 6 a_alternation (spAlt K) := ⟨_, _, m_alternation, F_alternation.kp, b_alternation, ok_alternation F_alternation T TE h_ens h_parts_of h_speak⟩
  have h_draws : Has P w K mg base "_law_draws" 1 a_law_draws (spDraws K) := ⟨_, _, m_law_draws, F_law_draws.kp, b_law_draws, ok_law_draws F_law_draws T⟩
  have h_take : Has P w K mg base "_law_take" 1 a_law_take spTake := ⟨_, _, m_law_take, F_law_take.kp, b_law_take, ok_law_take F_law_take T⟩
  have h_inner : Has P w K mg base "_law_inner" 1 a_law_inner (spInner K) := ⟨_, _, m_law_inner, F_law_inner.kp, b_law_inner, ok_law_inner F_law_inner T⟩
  have h_atom : Has P w K mg base "_law_atom" 2 a_law_atom (spAtom K) := ⟨_, _, m_law_atom, F_law_atom.kp, b_law_atom, ok_law_atom F_law_atom T h_take⟩
  have h_closed : Has P w K mg base "_law_closed" 8 a_law_closed (spClosed K 4) := ⟨_, _, m_law_closed, F_law_closed.kp, b_law_closed, ok_law_closed 4 F_law_closed (all_statement F_law_statement b_law_statement m_law_statement T h_take h_atom 5)⟩
  have h_lfree := all_free (P := P) (w := w) (base := base) F_law_free b_law_free m_law_free T h_inner 20
  have h_ltidy : Has P w K mg base "_law_tidy" 22 a_law_tidy (spLTidy K) := ⟨_, _, m_law_tidy, F_law_tidy.kp, b_law_tidy, ok_law_tidy F_law_tidy (all_tidy_from F_law_tidy_from b_law_tidy_from m_law_tidy_from T 20)⟩
  have h_int : Has P w K mg base "_law_is_integer" 1 a_law_is_integer spIsInt := ⟨_, _, m_law_is_integer, F_law_is_integer.kp, b_law_is_integer, ok_law_is_integer F_law_is_integer T⟩
  have h_bind := all_binders (P := P) (w := w) (base := base) F_law_binders b_law_binders m_law_binders T h_inner 20
  have h_num := all_number (P := P) (w := w) (base := base) F_law_number b_law_number m_law_number T h_inner h_bind h_lfree 20
  exact ok_law F_law T h_draws h_closed h_take h_int h_alt h_ltidy h_num
theorem walk {l : PySem.W.OpenLaw} {q : Program} {loose : List Str} {XP : (Str → Option Value) → Heap → Prop} {YP : World → Heap → Prop} {d : DefRec} {K : Params → PySem.W.Frag} (hn : l.most = some 63) (hdf : d.params.defaults = [])
    (hY : ∀ (w : World) (h : Heap), YP w h → (K w.params).In h)
    (F : ∀ (w : World) (mg : Str → Option Value) (fa : Addr) (h : Heap), (K w.params).In h → h.Ns mainGlobals mg → mg d.name = some (.ref fa) →
      ∃ fd : FuncData, (∀ (s : Shared) (u : Value), BindsTo s fd ⟨[u], []⟩ [("script", u)]) ∧ ∀ base : Heap, (K w.params).In base → base.Ns mainGlobals mg → FnOk l.prog w (K w.params) mg base CX0 43 fa fd ["script"] (spLaw (K w.params))) :
    PySem.W.WalkO q loose XP YP l.row.toRowW d [] (fun f vs => PySem.call f vs) :=
  L2.walk_of (n := 63) (k := 43) (x := "script") (CX := fun _ => CX0) (sp := fun w => spLaw (K w.params)) hn (by decide) hdf ⟨rfl, by decide, by decide⟩ hY F (fun _ _ a ns hl _ hS => ⟨a, ns, rfl, hS, hl, fun _ => rfl⟩) fun _ _ _ _ _ z => z
end Fw

set_option maxRecDepth 100000
open PySem PySem.W PyProof.Rows
set_option maxHeartbeats 0 in
theorem PySem.Challenge.cw_fixworlds_k36_alternation_holds : PySem.Challenge.rw_fixworlds_k36_alternation.Holds := by
  w_on; o_law; k_head; (case hw => w_witness2)
  k_fill
  refine Fw.walk (l := PySem.Challenge.rw_fixworlds_k36_alternation) rfl rfl (fun w h Y => PySem.W.kIn_of Y) ?F
  case F =>
    intro w mg fa h KX G hmg
    refine' Fw.all_mk KX G hmg ?aC_Part ?a0 ?i0 ?l0 ?c0 ?k0 ?a1 ?l1 ?c1 ?k1 ?a2 ?l2 ?c2 ?k2 ?a3 ?l3 ?c3 ?k3 ?a4 ?l4 ?c4 ?k4 ?a5 ?l5 ?c5 ?k5 ?a6 ?l6 ?c6 ?k6 ?a7 ?l7 ?c7 ?k7 ?a8 ?l8 ?c8 ?k8 ?a9 ?l9 ?c9 ?k9 ?a10 ?l10 ?c10 ?k10 ?a11 ?l11 ?c11 ?k11 ?a12 ?l12 ?c12 ?k12 ?a13 ?l13 ?c13 ?k13 ?a14 ?l14 ?c14 ?k14 ?a15 ?l15 ?c15 ?k15 ?a16 ?l16 ?c16 ?k16 ?a17 ?l17 ?c17 ?k17 ?a18 ?l18 ?c18 ?k18 ?a19 ?l19 ?c19 ?k19 ?a20 ?l20 ?c20 ?k20 ?a21 ?l21 ?c21 ?k21 ?pg_Part ?hd_Part ?po_Part ?sa_Part ?mk_Part ?kc_Part ?n_Part_head ?n_Part_around ?n_Part_inner ?z_bool ?z_enumerate ?z_int ?z_isinstance ?z_len ?z_list ?z_max ?z_range ?z_reversed ?z_sorted ?z_tuple ?z_zip ?aJ_BINDERS ?lJ_BINDERS ?aJ_JOINS ?lJ_JOINS ?e_gC ?e_gF ?e_xC ?e_kC ?e_bC ?e_tC ?e_iC ?e_sC ?e_xg ?e_xk ?e_xd ?e_xa ?e_xn ?e_xt ?e_xm ?e_kF ?e_kV
    (case aC_Part => k_is)
    (case a0 => k_is)
    (case i0 => k_is)
    (case l0 => k_is)
    (case c0 => k_is)
    (case k0 => k_is)
    (case a1 => k_is)
    (case l1 => k_is)
    (case c1 => k_is)
    (case k1 => k_is)
    (case a2 => k_is)
    (case l2 => k_is)
    (case c2 => k_is)
    (case k2 => k_is)
    (case a3 => k_is)
    (case l3 => k_is)
    (case c3 => k_is)
    (case k3 => k_is)
    (case a4 => k_is)
    (case l4 => k_is)
    (case c4 => k_is)
    (case k4 => k_is)
    (case a5 => k_is)
    (case l5 => k_is)
    (case c5 => k_is)
    (case k5 => k_is)
    (case a6 => k_is)
    (case l6 => k_is)
    (case c6 => k_is)
    (case k6 => k_is)
    (case a7 => k_is)
    (case l7 => k_is)
    (case c7 => k_is)
    (case k7 => k_is)
    (case a8 => k_is)
    (case l8 => k_is)
    (case c8 => k_is)
    (case k8 => k_is)
    (case a9 => k_is)
    (case l9 => k_is)
    (case c9 => k_is)
    (case k9 => k_is)
    (case a10 => k_is)
    (case l10 => k_is)
    (case c10 => k_is)
    (case k10 => k_is)
    (case a11 => k_is)
    (case l11 => k_is)
    (case c11 => k_is)
    (case k11 => k_is)
    (case a12 => k_is)
    (case l12 => k_is)
    (case c12 => k_is)
    (case k12 => k_is)
    (case a13 => k_is)
    (case l13 => k_is)
    (case c13 => k_is)
    (case k13 => k_is)
    (case a14 => k_is)
    (case l14 => k_is)
    (case c14 => k_is)
    (case k14 => k_is)
    (case a15 => k_is)
    (case l15 => k_is)
    (case c15 => k_is)
    (case k15 => k_is)
    (case a16 => k_is)
    (case l16 => k_is)
    (case c16 => k_is)
    (case k16 => k_is)
    (case a17 => k_is)
    (case l17 => k_is)
    (case c17 => k_is)
    (case k17 => k_is)
    (case a18 => k_is)
    (case l18 => k_is)
    (case c18 => k_is)
    (case k18 => k_is)
    (case a19 => k_is)
    (case l19 => k_is)
    (case c19 => k_is)
    (case k19 => k_is)
    (case a20 => k_is)
    (case l20 => k_is)
    (case c20 => k_is)
    (case k20 => k_is)
    (case a21 => k_is)
    (case l21 => k_is)
    (case c21 => k_is)
    (case k21 => k_is)
    (case pg_Part => k_is)
    (case hd_Part => k_is)
    (case po_Part => k_is)
    (case sa_Part => k_is)
    (case mk_Part => k_is)
    (case kc_Part => k_is)
    (case n_Part_head => k_is)
    (case n_Part_around => k_is)
    (case n_Part_inner => k_is)
    (case z_bool => k_is)
    (case z_enumerate => k_is)
    (case z_int => k_is)
    (case z_isinstance => k_is)
    (case z_len => k_is)
    (case z_list => k_is)
    (case z_max => k_is)
    (case z_range => k_is)
    (case z_reversed => k_is)
    (case z_sorted => k_is)
    (case z_tuple => k_is)
    (case z_zip => k_is)
    (case aJ_BINDERS => k_is)
    (case lJ_BINDERS => k_is)
    (case aJ_JOINS => k_is)
    (case lJ_JOINS => k_is)
    (case e_gC => k_is)
    (case e_gF => k_is)
    (case e_xC => k_exc)
    (case e_kC => k_is)
    (case e_bC => k_is)
    (case e_tC => k_is)
    (case e_iC => k_is)
    (case e_sC => first | rfl | k_is)
    (case e_xg => k_is)
    (case e_xk => k_is)
    (case e_xd => k_is)
    (case e_xa => k_is)
    (case e_xn => k_is)
    (case e_xt => k_is)
    (case e_xm => k_is)
    (case e_kF => first | rfl | k_is)
    (case e_kV => first | rfl | k_is)

