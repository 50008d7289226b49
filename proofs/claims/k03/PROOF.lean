import PyProof.Rows.All
import Wide.All
import OpenK.AllK
import Wide.FinOn
import PyProof.EqAt
import PyProof.EqKinds
import PyProof.TupleCall
import HandS.ForMost
import HandS.ForExc
import HandS.Strs
import HandS.SetFor
import HandS.SetBool
import HandS.Walk
import HandS.TupAny
import HandS.Rev
import HandS.RevRange
import HandS.IsInst
import HandS.SortInts
import HandS.ExcIs
import HandS.Flow
import HandS.AnyAll
import HandS.Zip
import PyProof.GenCompD
import HandS.SetKeys
import HandS.SortRule
import PyProof.DictMoreH
import KE.KDictKeyed
import PySem.Challenge.RW_fixworlds_k03_closures
set_option Elab.async false
set_option linter.all false
set_option maxRecDepth 100000
set_option maxHeartbeats 4000000
/-! two rules for sets of ints: made of a list, and by a comprehension -/
namespace Fw
open PySem PySem.Spec PyProof.Rows L2
abbrev freshSet (w : World) : Obj :=
  { cls := .type "set", dict := none, data := .set #[] 0 (.fresh 0 0 (!w.params.followText "set-order")) }
section
variable {P : Program} {w : World} {A : Around} {E : Value → Shared → Prop} {s : Shared}
/-- set(xs), xs a list of ints -/
theorem setOfList {l : Addr} {its : Array Value} (ns : List Int) {Q : Value → Shared → Prop}
    (quiet : A.handled = none) (lst : s.heap.IsList l its) (iv : IntsAre its.toList ns) (few : ns.length + 1 < scanBound)
    (next : ∀ (h' : Heap) (tk c : Nat), SetR w h' s.heap.objs.size (fun j => decide (j ∈ ns)) c → c ≤ ns.length →
      (∀ b o, s.heap.get? b = some o → h'.get? b = some o) → Q (.ref s.heap.objs.size) { s with heap := h', toks := tk }) :
    wpAny (model P w) A (call (.type "set") [.ref l]) Q E s := by
  have many : its.size = ns.length := by
    rw [← Array.length_toList]
    exact IntsAre.length iv
  have f1 := F.called_set.mro
  obtain ⟨c, tl, hmro⟩ := f1
  have f2 := F.called_set.made
  have f3 := F.called_set.sub
  refine wpAny_call (codeAny_of_tree ?_)
  show wpAny _ _ (callAny (.type "set") _) _ _ _
  refine wpAny_pure ⟨Code.quiet_builtin _ (by decide +kernel), codeAny_builtin F.entry_type_call ?_⟩
  rw [Around.under_plain (weight_type_call_type "set" [.ref l] []) rfl]
  have f4 := F.called_set.notType
  have f5 := F.called_set.canCreate
  have f6 := F.typeCall_set_1 (.ref l)
  repeat (any_goals (first | assumption | wp_step))
  generalize hN : s.heap.objs.size = N
  refine codeAny_mono (code_set_led1 (.ref l) (E := E)
    (Q₁ := fun v t => v = .ref N ∧ t = { s with heap := s.heap.push (freshSet w) }) ⟨by rw [hN], rfl⟩) fun r s₁ hr => ?_
  rcases r with e | fl
  · exact hr
  · cases fl
    case ret v =>
      obtain ⟨rfl, rfl⟩ := hr
      have got : (s.heap.push (freshSet w)).get? N = some (freshSet w) := by
        rw [← hN]
        exact Heap.get?_push_size _ rfl
      have ty : Shared.TypeIs { s with heap := s.heap.push (freshSet w) } (.ref N) "set" := ⟨_, got, rfl⟩
      have g1 := F.called_set.init.lookup
      have g2 := F.called_set.init.bind (.ref N)
      repeat (any_goals (first | assumption | wp_step))
      refine codeAny_mono (codeAny_call_builtin (R := wants (fun v t => v = .none ∧ ∃ h' tk c, t = { s with heap := h', toks := tk } ∧
          SetR w h' N (fun j => decide (j ∈ ns)) c ∧ c ≤ ns.length ∧ (∀ b o, s.heap.get? b = some o → h'.get? b = some o)) E)
          F.called_set.init.plain F.entry_set_init (check_set_init_1 ty ?_)) fun r₂ s₂ hr₂ => ?_
      · obtain ⟨ol, hol, hcl, nl, hdl⟩ := lst
        obtain ⟨ocls, odict, odata, oslots⟩ := ol
        simp only at hcl hdl
        subst hcl
        subst hdl
        have hol' : (s.heap.push (freshSet w)).get? l = some { cls := .type "list", dict := odict, data := .seq its nl, slots := oslots } :=
          Heap.get?_push_of_some _ hol
        have k1 := F.sub_list_set
        have k2 := F.sub_list_frozenset
        have k3 : (Value.type "list" == Value.type "dict") = false := by decide
        have lst1 : (s.heap.push (freshSet w)).IsList l its := ⟨_, hol', rfl, nl, rfl⟩
        unfold Builtin.«set.__init__» noKeywords Builtin.Frozenset.updateFrom
        generalize hPI : pyIter = PI
        wp_walk
        subst hPI
        refine wpAny_pyIter_list lst1 (wpAny_bind (wpAny_runValue ?_))
        have lN : l < N := by
          rw [← hN]
          exact Heap.lt_size hol
        have quiet3 : A.in1.in1.in1.handled = none := by simp [quiet]
        have size1 : (s.heap.push (freshSet w)).objs.size = N + 1 := by rw [Heap.size_push, hN]
        have l1 : l ≠ (s.heap.push (freshSet w)).objs.size := by
          rw [size1]
          exact Nat.ne_of_lt (Nat.lt_succ_of_lt lN)
        have n1 : N ∉ [(s.heap.push (freshSet w)).objs.size, l] := by
          rw [size1]
          simp only [List.mem_cons, List.not_mem_nil, or_false, not_or]
          exact ⟨Nat.ne_of_lt (Nat.lt_succ_self _), Nat.ne_of_gt lN⟩
        refine set_update_ints ((Walks.list quiet3 _ l l1 its).toS) N n1 ns many few (fun i v hv => ?_) (its.size - 0) 0 _ (by omega) (Nat.zero_le _)
          ⟨⟨_, Heap.get?_push_size _ rfl, rfl, rfl⟩, lst1.push _⟩ ⟨0, Nat.le_refl 0, setR_new_at (Heap.get?_push_of_some _ got)⟩ fun s' c' hm hc' hS' => ?_
        · have hi : i < ns.length := by
            rw [← many]
            exact (Array.getElem?_eq_some_iff.mp hv).1
          obtain ⟨t, e⟩ := PyProof.Rows.IntsAre.int_at iv i v (by rw [Array.getElem?_toList]; exact hv)
          refine ⟨ns[i], t, List.getElem?_eq_getElem hi, ?_⟩
          rw [e, List.getD_eq_getElem?_getD, List.getElem?_eq_getElem hi]
          rfl
        · obtain ⟨h', g2, d', tk', os'⟩ := s'
          obtain rfl : g2 = s.gens := hm.gens
          obtain rfl : d' = s.drawn := hm.drawn
          obtain rfl : os' = s.os := hm.os
          show wpAny _ _ _ _ _ _
          refine wpAny_pure ?_
          show wpAny _ _ (ret Value.none) _ _ _
          rw [many] at hc'
          refine wpAny_pure ⟨rfl, h', tk', c', rfl, hS', hc', fun b o e => ?_⟩
          have bN : b < N := by
            rw [← hN]
            exact Heap.lt_size e
          refine hm.heap b o ?_ (Heap.get?_push_of_some _ (Heap.get?_push_of_some _ e))
          rw [size1]
          simp only [List.mem_cons, List.not_mem_nil, or_false, not_or]
          exact ⟨Nat.ne_of_lt bN, Nat.ne_of_lt (Nat.lt_succ_of_lt bN)⟩
      · rcases r₂ with e | fl₂
        · exact hr₂
        · cases fl₂
          case ret r =>
            obtain ⟨rfl, h', tk, c', rfl, hS', hc', hk'⟩ := hr₂
            repeat (any_goals (first | assumption | wp_step))
            subst hN
            exact next _ _ _ hS' hc' hk'
          all_goals exact hr₂.elim
    all_goals exact hr.elim
end
end Fw

set_option maxRecDepth 100000
set_option maxHeartbeats 4000000
namespace Fw
open PySem PySem.Spec PyProof.Rows L2
theorem intsOfVals : ∀ {ns : List Int} {us : List Value}, Vals (ns.map V.int) us → IntsAre us ns
  | [], _, .nil => .nil
  | k :: _, _, .cons r t => by
    obtain ⟨tk, rfl⟩ := r
    exact .cons k tk (intsOfVals t)
theorem nodup_le : ∀ {l Vs : List Int}, l.Nodup → (∀ x ∈ l, x ∈ Vs) → l.length ≤ Vs.length
  | [], Vs, _, _ => Nat.zero_le _
  | a :: l, Vs, nd, h => by
    have nd' := List.nodup_cons.mp nd
    have ha := h a List.mem_cons_self
    have ih := nodup_le (Vs := Vs.erase a) nd'.2 fun x hx =>
      (List.mem_erase_of_ne (fun e => nd'.1 (by rw [← e]; exact hx))).mpr (h x (List.mem_cons_of_mem _ hx))
    have := List.length_erase_of_mem ha
    have : 0 < Vs.length := List.length_pos_of_mem ha
    rw [List.length_cons]
    omega
section
variable {X : Cx}
/-- set(xs), xs a list of ints -/
def rSetL (K : PySem.W.Frag) (w : World) : List V → Hp → VK → Prop := fun vs H Q => ∃ (l : Addr) (ns : List Int),
  vs = [V.ref l] ∧ SqL K H l (ns.map V.int) ∧ ns.length ≤ 4000 ∧
  ∀ p c, H p = none → c ≤ ns.length → (∀ Vs : List Int, (∀ x ∈ ns, x ∈ Vs) → c ≤ Vs.length) → Q (.ref p) (upd H p (SetO w p (fun j => decide (j ∈ ns)) c))
theorem call_setL (quiet : X.calm = true) : CallR X (.type "set") (rSetL X.K X.w) := by
  intro pins s σ H vs us Q I r h
  obtain ⟨l, ns, rfl, hl, few, q⟩ := h
  obtain ⟨its, rv, pl, _⟩ := I.list hl
  rw [Vals.ref1 r]
  have iv := intsOfVals rv
  have isl : s.heap.IsList l its.toArray := by
    obtain ⟨o, n, e1, e2, e3, e4⟩ := pl
    exact ⟨o, e1, e2, n, e4⟩
  refine setOfList ns (I.ok.hd quiet) isl (by simpa using iv) (Nat.lt_of_le_of_lt (Nat.succ_le_succ few) (by decide)) fun h' tk c R hc kp => ?_
  have fr : H s.heap.objs.size = none := I.hok.fresh (Nat.le_refl _)
  refine ⟨.ref _, _, I.laid (t' := tk) kp (Nat.le_refl _) (setO_new R), rfl, q _ c fr hc fun Vs hV => ?_⟩
  obtain ⟨o, es, ep, t, _, _, _, _, nd, mem, _, _, size, _⟩ := R
  rw [← size, ← Array.length_toList, ← List.length_map (f := keyOf)]
  exact nodup_le nd fun x hx => hV x (of_decide_eq_true ((mem x).mpr hx))
/-- what a comprehension of ints into a set asks: W tells the turns, D is the new set -/
def tSci (w : World) (wi : TI) (g : TG) (tt : TT) (te : TE) (vs : List Nat) : TE := fun σ H Q => wi σ H fun J H1 => ∀ D, H1 D = none →
  ∃ W : Nat → Nat → Hp → Prop, (∃ m, W 0 m (upd H1 D (SetO w D (fun _ => false) 0))) ∧ ∀ i m H, W i m H →
    (J.stop i H ∧ Q (.ref D) H) ∨ (J.go i H ∧ ∃ Nx : Hp → Prop, (∀ H', Nx H' → ∃ m', m' < m ∧ W (i + 1) m' H') ∧
      ∀ x H', J.yld i H x H' → g x (wipe σ vs) H' fun σ2 H2 => wipe σ2 vs = wipe σ vs ∧ tt σ2 H2 fun b H3 =>
        if b = true then te σ2 H3 fun y H4 => ∃ (k : Int) (S : Int → Bool) (n : Nat), y = .int k ∧ H4 D = some (SetO w D S n) ∧ n + 1 < scanBound ∧
          Nx (upd H4 D (SetO w D (fun j => S j || decide (j = k)) (if S k = true then n else n + 1))) else Nx H3)
theorem addInt {pins : List (Addr × Obj)} {σ : L2.St} {H : Hp} {s : Shared} {E : Value → Shared → Prop} {D : Addr} {S : Int → Bool} {n : Nat} {k : Int} {tk : Tok} {Q : Value → Shared → Prop}
    (I : Inv X pins σ H s) (at_ : H D = some (SetO X.w D S n)) (room : n + 1 < scanBound)
    (next : ∀ s', Inv X pins σ (upd H D (SetO X.w D (fun j => S j || decide (j = k)) (if S k = true then n else n + 1))) s' → Q .none s') :
    wpAny (model X.prog X.w) X.A (call (.builtin "set.add") [.ref D, .int k tk]) Q E s := by
  refine setR_add (setO_get I at_) room fun h' sb R => next _ ?_
  have there : ∃ u, h'.get? D = some u := by
    obtain ⟨o, _, _, _, e, _⟩ := id R
    exact ⟨o, e⟩
  exact I.write (e := D) (t' := s.toks + 1) (by rw [at_]; trivial) (.inl rfl) (fun b u hb hu => (sb.2 b hb).trans hu) there (setO_new R)
abbrev inner (X : Cx) (s : Shared) (scope : Scope) : Env :=
  compEnvC scope (cellsFrom (s.heap.objs.size + 1) scope.names (cloFrom X.env.cells scope.names [])) s.heap.objs.size X.env
theorem setComp {pins : List (Addr × Obj)} {s : Shared} {σ : L2.St} {H : Hp} {Q : VK} {elt tg iter : Expr} {ifs : List Expr} {scope : Scope} {own : List (PySem.Str × Nat)} {pos pos' : Pos} {wi : TI} {g : TG} {tt : TT} {te : TE}
    {use : Option (Value → Sem Unit)} {Qf : Value → Shared → Prop}
    (quiet : X.calm = true) (nd : X.N.Nodup) (I : Inv X pins σ H s) (ii : PI X tg iter wi) (blk : BlkOk X.N X.env.scope scope own)
    (gg : ∀ s H C cl fp, PG (X.blk s H scope (compEnvC scope cl C X.env) fp) tg g)
    (tts : ∀ s H C cl fp, PTs (X.blk s H scope (compEnvC scope cl C X.env) fp) ifs tt)
    (ee : ∀ s H C cl fp, PE (X.blk s H scope (compEnvC scope cl C X.env) fp) elt te)
    (fold : ∀ x, foldedSetIterable iter X.env x = pure x) (h : tSci X.w wi g tt te (own.map (·.2)) σ H Q)
    (fin : ∀ D C s' m H', Inv X pins σ H' s' → Q (.ref D) H' → s'.heap.Ns C m → FpOk X pins H' C →
      compPost (model X.prog X.w) X.A X.xe use Qf (.ref D) C (.ok .next) s') :
    wpAny (model X.prog X.w) X.A (comprehension (.SetComp elt [⟨tg, iter, ifs, 0⟩] scope pos) scope X.env pos' (newSet (.type "set")) false (eval iter X.env) use) Qf X.xe s := by
  have clo : ∀ y ∈ scope.names, y.2 = .free → ∃ c, X.env.cells.lookup y.1 = some c := fun y hy e =>
    (blk.free y hy e).elim (fun k => I.ok.has _ (.inl k)) fun k => I.ok.has _ (.inr k)
  refine wpAny_comprehension_free (use := use) rfl fold (closure_ok clo) blk.kind (fun y hy e => by rw [blk.uniq y hy, e])
    (thn (ii.run pins s σ H _ I h) fun xv s1 hx => thn hx fun itv s2 h2 => ?_)
  obtain ⟨it, fp, tn, J, H2, rfl, I2, T, t0, fp2, q⟩ := h2
  refine PpSet.newSet_ok (newEnv_comp ?_)
  generalize eD : s2.heap.objs.size = D
  obtain ⟨W, ⟨m0, w0⟩, turn⟩ := q D (I2.hok.fresh (Nat.le_of_eq eD))
  generalize e3 : ({ s2 with heap := s2.heap.push (freshSet X.w) } : Shared) = s3
  have heap3 : s3.heap = s2.heap.push (freshSet X.w) := by rw [← e3]
  have up3 : ∀ b o, s2.heap.get? b = some o → s3.heap.get? b = some o := fun b o e => by
    rw [heap3]
    exact Heap.get?_push_of_some _ e
  generalize eH : upd H2 D (SetO X.w D (fun _ => false) 0) = H3 at w0
  have I3 : Inv X pins σ H3 s3 := by
    rw [← eH, ← e3, ← eD]
    exact I2.laid (t' := s2.toks) (fun b o e => Heap.get?_push_of_some _ e) (Nat.le_refl _) (setO_new (setR_fresh X.w))
  have fp3 : ∀ b ∈ fp, FpOk X pins H3 b ∧ b < s3.heap.objs.size := fun b hb => by
    obtain ⟨o, e, _⟩ := T.obj _ _ t0 b hb
    have lt := Heap.lt_size e
    refine ⟨⟨?_, (fp2 b hb).2⟩, ?_⟩
    · rw [← eH, upd_ne (show b ≠ D by rw [← eD]; exact Nat.ne_of_lt lt)]
      exact (fp2 b hb).1
    · rw [heap3, Heap.size_push]
      exact Nat.lt_succ_of_lt lt
  have t3 : tn 0 s3.heap := T.keep _ _ _ t0 fun b _ o e => up3 b o e
  have I4 := block_start I3 blk nd fp3
  have g4 := gg s3 H3 s3.heap.objs.size (cellsFrom (s3.heap.objs.size + 1) scope.names (cloFrom X.env.cells scope.names [])) fp
  have t4 := tts s3 H3 s3.heap.objs.size (cellsFrom (s3.heap.objs.size + 1) scope.names (cloFrom X.env.cells scope.names [])) fp
  have e4 := ee s3 H3 s3.heap.objs.size (cellsFrom (s3.heap.objs.size + 1) scope.names (cloFrom X.env.cells scope.names [])) fp
  show codeAny _ _ (.compStart (.SetComp elt [⟨tg, iter, ifs, 0⟩] scope pos) 0 (.ref it) (.ref D)
      (compEnvC scope (cellsFrom (s3.heap.objs.size + 1) scope.names (cloFrom X.env.cells scope.names [])) s3.heap.objs.size X.env))
    (compPost (model X.prog X.w) X.A X.xe use Qf (.ref D) s3.heap.objs.size) { s3 with heap := pushCells (s3.heap.push { cls := .type "dict", data := .dict #[] }) scope.names }
  generalize eC : compEnvC scope (cellsFrom (s3.heap.objs.size + 1) scope.names (cloFrom X.env.cells scope.names [])) s3.heap.objs.size X.env = ce at I4 g4 t4 e4 ⊢
  have locs : ce.locals = s3.heap.objs.size := by
    subst eC
    rfl
  generalize eS : ({ s3 with heap := pushCells (s3.heap.push { cls := .type "dict", data := .dict #[] }) scope.names } : Shared) = s4 at I4 ⊢
  have ts4 : tn 0 s4.heap := T.keep _ _ _ t3 fun b _ o e => by
    rw [← eS]
    exact pushCells_keeps _ _ _ _ (Heap.get?_push_of_some _ e)
  have held : ∀ {σ' : L2.St} {H' : Hp} {s' : Shared}, Inv (X.blk s3 H3 scope ce fp) [] σ' H' s' → (∀ b ∈ fp, H' b = none) →
      ∀ b ∈ fp, FpOk (X.blk s3 H3 scope ce fp) [] H' b := fun {σ' H' s'} I' hn b hb =>
    have x := I'.ok.exf b hb
    ⟨hn b hb, x.1, I'.ok.exfs b hb, .inl hb, fun y c e => x.2 y c e, fun p hp => by cases hp⟩
  have body : codeAny (model X.prog X.w) X.A (.compLoop (.SetComp elt [⟨tg, iter, ifs, 0⟩] scope pos) 0 (.ref it) (.ref D) ce)
      (compPost (model X.prog X.w) X.A X.xe use Qf (.ref D) s3.heap.objs.size) s4 := by
    refine PpSet.compLoopS_any (fun n t => ∃ i G, Inv (X.blk s3 H3 scope ce fp) [] (wipe σ (own.map (·.2))) G t ∧ tn i t.heap ∧ (∀ b ∈ fp, G b = none) ∧ W i n G)
      ?_ m0 ⟨0, H3, I4, ts4, fun b hb => (fp3 b hb).1.1, w0⟩
    rintro n s5 ⟨i, H5, I5, t5, free5, w5⟩
    rcases turn i n H5 w5 with ⟨stop, qq⟩ | ⟨go, Nx, dec, step⟩
    · refine thnF (T.done (X.blk s3 H3 scope ce fp) rfl rfl rfl quiet i [] s5 _ H5 (fun _ _ => False) I5 (held I5 free5) t5 stop) fun r s6 ⟨hr, I6⟩ => ?_
      subst hr
      have free6 : H5 ce.locals = none := I6.free
      obtain ⟨m, ns6, _⟩ := I6.loc
      have ns6' : s6.heap.Ns ce.locals m := ns6
      rw [locs] at free6 ns6'
      have I7 : Inv X pins σ H5 s6 := I3.call' (ch := fp) I6.os I6.base I6.hok I6.bare fun b hb =>
        have z := (fp3 b hb).1
        ⟨z.2.2.2.1, z.2.1, z.2.2.2.2.1, z.2.2.2.2.2⟩
      exact fin D s3.heap.objs.size s6 m H5 I7 qq ns6' (I3.fpOk (Nat.le_refl _) free6)
    · refine thnF (T.item (X.blk s3 H3 scope ce fp) rfl rfl rfl quiet i [] s5 _ H5 (fun _ _ => False) I5 (held I5 free5) t5 go) fun r s6 ⟨u, hr, h6⟩ => ?_
      subst hr
      refine thnF h6 fun _ s7 ⟨x, H7, I7, rx, y7, t7, free7⟩ => ?_
      refine thnF (g4.run _ s7 _ H7 x u _ (I7.pinned (held I7 free7) (T.obj _ _ t7)) rx (step x H7 y7)) fun _ s8 ⟨σ8, H8, I8, wi8, q8⟩ => ?_
      refine thnF (t4.run _ s8 σ8 H8 _ I8 q8) fun b s9 ⟨H9, I9, q9⟩ => ?_
      have over : ∀ {t : Shared} {G : Hp}, Inv (X.blk s3 H3 scope ce fp) ([] ++ pinsAt fp s7.heap) σ8 G t → Nx G →
          ∃ m, m < n ∧ ∃ i G, Inv (X.blk s3 H3 scope ce fp) [] (wipe σ (own.map (·.2))) G t ∧ tn i t.heap ∧ (∀ b ∈ fp, G b = none) ∧ W i m G := fun {t G} It nx => by
        obtain ⟨m', lt, w'⟩ := dec G nx
        have same : ∀ b ∈ fp, ∀ o, s7.heap.get? b = some o → t.heap.get? b = some o ∧ G b = none := fun b hb o e =>
          have z := It.pin (b, o) (List.mem_append_right _ (List.mem_append_right _ (mem_pinsAt hb e)))
          ⟨z.1, z.2.1⟩
        refine ⟨m', lt, i + 1, G, (It.unpinned (pins := [])).weak (by rw [← wi8, wipe_length]) (fun j v e => ?_), T.keep _ _ _ t7 fun b hb o e => (same b hb o e).1, fun b hb => ?_, w'⟩
        · rw [← wi8] at e
          exact (wipe_some e).1
        · obtain ⟨o, e, _⟩ := T.obj _ _ t7 b hb
          exact (same b hb o e).2
      cases b
      · simp only [Bool.false_eq_true, if_false] at q9 ⊢
        exact over I9 q9
      · simp only [if_true] at q9 ⊢
        refine thnF (e4.run _ s9 σ8 H9 _ I9 q9) fun z s10 ⟨yv, H10, I10, rz, k, S0, n0, ey, hD, room, nx⟩ => ?_
        subst ey
        obtain ⟨tk, rfl⟩ : ∃ tk, z = Value.int k tk := rz
        exact addInt (X := X.blk s3 H3 scope ce fp) I10 hD room fun s11 I11 => over I11 nx
  exact PpSet.codeAny_compStart_set body (T.self X.A 0 _ _ _ ts4 body)
/-- {e for target in iter if test}, e an int -/
theorem pe_sci {elt tg iter : Expr} {ifs : List Expr} {scope : Scope} {own : List (PySem.Str × Nat)} {pos : Pos} {wi : TI} {g : TG} {tt : TT} {te : TE} (quiet : X.calm = true) (nd : X.N.Nodup) (ii : PI X tg iter wi) (blk : BlkOk X.N X.env.scope scope own)
    (gg : ∀ (s : Shared) (H : Hp) (C : Addr) (cl : List (PySem.Str × Addr)) (fp : List Addr), PG (X.blk s H scope (compEnvC scope cl C X.env) fp) tg g)
    (tts : ∀ (s : Shared) (H : Hp) (C : Addr) (cl : List (PySem.Str × Addr)) (fp : List Addr), PTs (X.blk s H scope (compEnvC scope cl C X.env) fp) ifs tt)
    (ee : ∀ (s : Shared) (H : Hp) (C : Addr) (cl : List (PySem.Str × Addr)) (fp : List Addr), PE (X.blk s H scope (compEnvC scope cl C X.env) fp) elt te)
    (fold : ∀ x, foldedSetIterable iter X.env x = pure x := by intro _; rfl) :
    PE X (.SetComp elt [⟨tg, iter, ifs, 0⟩] scope pos) (tSci X.w wi g tt te (own.map (·.2))) := by
  constructor
  intro pins s σ H Q I h
  rw [PpSet.eval_SetComp]
  refine setComp quiet nd I ii blk gg tts ee fold h fun D C s' m H' I' q hn f => ⟨m, hn, fun h'' sb => ⟨.ref D, H', ?_, rfl, q⟩⟩
  exact I'.turned (t' := s'.toks) (fun b o hb e => (sb.2 b hb).trans e) f.1 f.2.1 f.2.2.2.1 f.2.2.2.2.1 f.2.2.2.2.2
end
/-- over any walk: Pv by the turn and the heap -/
theorem sci_it {J : It} {n : Nat} {G : Hp → Prop} {Y : Nat → Hp → V → Hp → Prop} (w : Walk J n G Y) {wd : World} {g : TG} {tt : TT} {te : TE} {vs : List Nat} {σ : L2.St} {H1 : Hp} {D : Addr} {Qd : Hp → Prop} (Pv : Nat → Hp → Prop)
    (h0 : Pv 0 (upd H1 D (SetO wd D (fun _ => false) 0))) (hG : ∀ i H, i ≤ n → Pv i H → G H)
    (hs : ∀ i x H H', i < n → Pv i H → Y i H x H' → g x (wipe σ vs) H' fun σ2 H2 => wipe σ2 vs = wipe σ vs ∧ tt σ2 H2 fun b H3 =>
      if b = true then te σ2 H3 fun y H4 => ∃ (k : Int) (S : Int → Bool) (m : Nat), y = .int k ∧ H4 D = some (SetO wd D S m) ∧ m + 1 < scanBound ∧
        Pv (i + 1) (upd H4 D (SetO wd D (fun j => S j || decide (j = k)) (if S k = true then m else m + 1))) else Pv (i + 1) H3) (hd : ∀ H, Pv n H → Qd H) :
    ∃ W : Nat → Nat → Hp → Prop, (∃ m, W 0 m (upd H1 D (SetO wd D (fun _ => false) 0))) ∧ ∀ i m H, W i m H →
      (J.stop i H ∧ Qd H) ∨ (J.go i H ∧ ∃ Nx : Hp → Prop, (∀ H', Nx H' → ∃ m', m' < m ∧ W (i + 1) m' H') ∧ ∀ x H', J.yld i H x H' → g x (wipe σ vs) H' fun σ2 H2 => wipe σ2 vs = wipe σ vs ∧ tt σ2 H2 fun b H3 =>
        if b = true then te σ2 H3 fun y H4 => ∃ (k : Int) (S : Int → Bool) (m : Nat), y = .int k ∧ H4 D = some (SetO wd D S m) ∧ m + 1 < scanBound ∧
          Nx (upd H4 D (SetO wd D (fun j => S j || decide (j = k)) (if S k = true then m else m + 1))) else Nx H3) := by
  refine ⟨fun i m H => m + i = n ∧ Pv i H, ⟨n, rfl, h0⟩, fun i m H hW => ?_⟩
  obtain ⟨e, p⟩ := hW
  have q := hG i H (by omega) p
  cases m with
  | zero =>
    have e2 : i = n := by omega
    subst e2
    exact .inl ⟨w.stops H q, hd H p⟩
  | succ m =>
    have lt : i < n := by omega
    exact .inr ⟨w.goes i H lt q, Pv (i + 1), fun H' p' => ⟨m, Nat.lt_succ_self m, by omega, p'⟩, fun x H' y => hs i x H H' lt p (w.yields i H x H' lt q y)⟩
end Fw

/-! Statements as trees, and what the passes over their parts find. Plain Lean. -/
namespace Fw
inductive Leaf | has | lacks | var
  deriving DecidableEq
inductive One | some | all | least | most
  deriving DecidableEq
def One.bind : One → Bool
  | .least => true
  | .most => true
  | _ => false
inductive F
  | nul (b : Bool)
  | leaf (k : Leaf) (n : Int)
  | two (b : Bool) (f g : F)
  | one (k : One) (n : Int) (f : F)
  deriving DecidableEq
inductive Hd
  | nul (b : Bool)
  | leaf (k : Leaf) (n : Int)
  | two (b : Bool)
  | one (k : One) (n : Int)
  deriving DecidableEq
def F.hd : F → Hd
  | .nul b => .nul b
  | .leaf k n => .leaf k n
  | .two b _ _ => .two b
  | .one k n _ => .one k n
def F.size : F → Nat
  | .nul _ => 1
  | .leaf _ _ => 1
  | .two _ f g => f.size + g.size + 1
  | .one _ _ f => f.size + 1
def F.depth : F → Nat
  | .nul _ => 1
  | .leaf _ _ => 1
  | .two _ f g => max f.depth g.depth + 1
  | .one _ _ f => f.depth + 1
theorem F.size_pos (t : F) : 0 < t.size := by cases t <;> simp [F.size]
theorem F.size_depth : ∀ t : F, t.size + 1 ≤ 2 ^ t.depth
  | .nul _ => by simp [F.size, F.depth]
  | .leaf _ _ => by simp [F.size, F.depth]
  | .two _ f g => by
    have h1 := F.size_depth f
    have h2 := F.size_depth g
    have m1 : 2 ^ f.depth ≤ 2 ^ max f.depth g.depth := Nat.pow_le_pow_right (by decide) (Nat.le_max_left _ _)
    have m2 : 2 ^ g.depth ≤ 2 ^ max f.depth g.depth := Nat.pow_le_pow_right (by decide) (Nat.le_max_right _ _)
    simp only [F.size, F.depth, Nat.pow_succ]
    omega
  | .one _ _ f => by
    have h1 := F.size_depth f
    have h2 := F.size_pos f
    simp only [F.size, F.depth, Nat.pow_succ]
    omega
abbrev Stk := List (Int × Nat)
structure Rec where
  sub : F
  aro : Int
  stk : Stk
def pushS : F → Nat → Stk → Stk
  | .one k n _, i, st => if k.bind then (n, i) :: st else st
  | _, _, st => st
def info : F → Int → Nat → Stk → List Rec
  | .nul b, a, _, st => [⟨.nul b, a, st⟩]
  | .leaf k n, a, _, st => [⟨.leaf k n, a, st⟩]
  | .two b f g, a, i, st => ⟨.two b f g, a, st⟩ :: (info f i (i + 1) st ++ info g i (i + 1 + f.size) st)
  | .one k n f, a, i, st => ⟨.one k n f, a, st⟩ :: info f i (i + 1) (if k.bind then (n, i) :: st else st)
theorem info_len : ∀ (t : F) (a : Int) (i : Nat) (st : Stk), (info t a i st).length = t.size
  | .nul _, _, _, _ => rfl
  | .leaf _ _, _, _, _ => rfl
  | .two _ f g, a, i, st => by simp [info, F.size, info_len f, info_len g]
  | .one k n f, a, i, st => by simp [info, F.size, info_len f]
theorem info_head : ∀ (t : F) (a : Int) (i : Nat) (st : Stk), (info t a i st)[0]? = some ⟨t, a, st⟩
  | .nul _, _, _, _ => rfl
  | .leaf _ _, _, _, _ => rfl
  | .two _ _ _, _, _, _ => rfl
  | .one _ _ _, _, _, _ => rfl
/-! ### a part's record and the one around it -/
theorem info_up : ∀ (t : F) (a : Int) (i : Nat) (st : Stk) (j : Nat) (r : Rec), (info t a i st)[j]? = some r →
    (j = 0 ∧ r = ⟨t, a, st⟩) ∨ ∃ p r', p < j ∧ (info t a i st)[p]? = some r' ∧ r.aro = ((i + p : Nat) : Int) ∧ r.stk = pushS r'.sub (i + p) r'.stk
  | .nul b, a, i, st, j, r, h => by
    cases j with
    | zero => exact .inl ⟨rfl, (Option.some.inj h).symm⟩
    | succ j => simp [info] at h
  | .leaf k n, a, i, st, j, r, h => by
    cases j with
    | zero => exact .inl ⟨rfl, (Option.some.inj h).symm⟩
    | succ j => simp [info] at h
  | .two b f g, a, i, st, j, r, h => by
    cases j with
    | zero => exact .inl ⟨rfl, (Option.some.inj h).symm⟩
    | succ j =>
      simp only [info, List.getElem?_cons_succ] at h
      by_cases lt : j < f.size
      · rw [List.getElem?_append_left (by rw [info_len]; exact lt)] at h
        rcases info_up f i (i + 1) st j r h with ⟨rfl, rfl⟩ | ⟨p, r', hp, e, e1, e2⟩
        · exact .inr ⟨0, ⟨.two b f g, a, st⟩, Nat.succ_pos _, rfl, by simp, rfl⟩
        · refine .inr ⟨p + 1, r', by omega, ?_, by rw [e1]; congr 1; omega, by rw [e2]; congr 1; omega⟩
          simp only [info, List.getElem?_cons_succ]
          rw [List.getElem?_append_left (by rw [info_len]; omega)]
          exact e
      · rw [List.getElem?_append_right (by rw [info_len]; omega), info_len] at h
        rcases info_up g i (i + 1 + f.size) st (j - f.size) r h with ⟨e0, rfl⟩ | ⟨p, r', hp, e, e1, e2⟩
        · exact .inr ⟨0, ⟨.two b f g, a, st⟩, Nat.succ_pos _, rfl, by simp, rfl⟩
        · refine .inr ⟨p + f.size + 1, r', by omega, ?_, by rw [e1]; congr 1; omega, by rw [e2]; congr 1; omega⟩
          simp only [info, List.getElem?_cons_succ]
          rw [List.getElem?_append_right (by rw [info_len]; omega), info_len, show p + f.size - f.size = p by omega]
          exact e
  | .one k n f, a, i, st, j, r, h => by
    cases j with
    | zero => exact .inl ⟨rfl, (Option.some.inj h).symm⟩
    | succ j =>
      simp only [info, List.getElem?_cons_succ] at h
      rcases info_up f i (i + 1) _ j r h with ⟨rfl, rfl⟩ | ⟨p, r', hp, e, e1, e2⟩
      · exact .inr ⟨0, ⟨.one k n f, a, st⟩, Nat.succ_pos _, rfl, by simp, rfl⟩
      · refine .inr ⟨p + 1, r', by omega, ?_, by rw [e1]; congr 1; omega, by rw [e2]; congr 1; omega⟩
        simp only [info, List.getElem?_cons_succ]
        exact e
/-- the whole, seen from its root -/
abbrev infos (t : F) : List Rec := info t (-1) 0 []
theorem infos_stk {t : F} : ∀ (m j : Nat) (r : Rec) (x : Int) (q : Nat) (rest : Stk), j ≤ m → (infos t)[j]? = some r → r.stk = (x, q) :: rest →
    q < j ∧ ∃ k f a, (infos t)[q]? = some ⟨.one k x f, a, rest⟩ ∧ k.bind = true := by
  intro m
  induction m with
  | zero =>
    intro j r x q rest hj h e
    have : j = 0 := by omega
    subst this
    rw [info_head] at h
    cases h
    cases e
  | succ m ih =>
    intro j r x q rest hj h e
    rcases info_up t (-1) 0 [] j r h with ⟨rfl, rfl⟩ | ⟨p, r', hp, e1, _, e2⟩
    · cases e
    · rw [Nat.zero_add] at e2
      obtain ⟨s, a', st'⟩ := r'
      have old : r.stk = st' → q < j ∧ ∃ k f a, (infos t)[q]? = some ⟨.one k x f, a, rest⟩ ∧ k.bind = true := fun e3 => by
        have z := ih p ⟨s, a', st'⟩ x q rest (by omega) e1 (by rw [← e3]; exact e)
        exact ⟨by omega, z.2⟩
      cases s with
      | nul b => exact old e2
      | leaf k n => exact old e2
      | two b f g => exact old e2
      | one k n f =>
        simp only [pushS] at e2
        by_cases hb : k.bind = true
        · rw [if_pos hb, e] at e2
          injection e2 with e3 e4
          injection e3 with e5 e6
          subst e5
          subst e6
          subst e4
          exact ⟨hp, k, f, a', e1, hb⟩
        · rw [if_neg hb] at e2
          exact old e2
/-! ### the parts directly in a part -/
def kidsFrom : List Int → Nat → Nat → List Nat
  | [], _, _ => []
  | a :: r, j, i => if a = (i : Int) then j :: kidsFrom r (j + 1) i else kidsFrom r (j + 1) i
theorem kids_app : ∀ (A B : List Int) (j i : Nat), kidsFrom (A ++ B) j i = kidsFrom A j i ++ kidsFrom B (j + A.length) i
  | [], _, _, _ => by simp [kidsFrom]
  | a :: A, B, j, i => by
    simp only [List.cons_append, kidsFrom, List.length_cons]
    rw [kids_app A B (j + 1) i, show j + 1 + A.length = j + (A.length + 1) by omega]
    split <;> simp
theorem kids_none : ∀ (A : List Int) (j i : Nat), (∀ a ∈ A, a ≠ (i : Int)) → kidsFrom A j i = []
  | [], _, _, _ => rfl
  | a :: A, j, i, h => by
    simp only [kidsFrom]
    rw [if_neg (h a List.mem_cons_self)]
    exact kids_none A _ _ fun b hb => h b (List.mem_cons_of_mem _ hb)
def arounds (I : List Rec) : List Int := I.map Rec.aro
theorem aro_range : ∀ (t : F) (a : Int) (i : Nat) (st : Stk) (x : Int), x ∈ arounds (info t a i st) → x = a ∨ ((i : Int) ≤ x ∧ x < ((i + t.size : Nat) : Int))
  | .nul _, a, i, st, x, h => by
    simp [arounds, info] at h
    exact .inl h
  | .leaf _ _, a, i, st, x, h => by
    simp [arounds, info] at h
    exact .inl h
  | .two b f g, a, i, st, x, h => by
    simp only [arounds, info, List.map_cons, List.map_append, List.mem_cons, List.mem_append] at h
    rcases h with h | h | h
    · exact .inl h
    · have := aro_range f i (i + 1) st x h
      simp only [F.size]
      omega
    · have := aro_range g i (i + 1 + f.size) st x h
      simp only [F.size]
      omega
  | .one k n f, a, i, st, x, h => by
    simp only [arounds, info, List.map_cons, List.mem_cons] at h
    rcases h with h | h
    · exact .inl h
    · have := aro_range f i (i + 1) _ x h
      simp only [F.size]
      omega
/-- where a part's own parts stand among all -/
def Sits (I : List Rec) (i j : Nat) (r : Rec) : Prop :=
  ∃ A B, I = A ++ info r.sub r.aro (i + j) r.stk ++ B ∧ A.length = j ∧ (∀ x ∈ arounds A, x ≠ ((i + j : Nat) : Int)) ∧ (∀ x ∈ arounds B, x < ((i + j : Nat) : Int) ∨ ((i + j + r.sub.size : Nat) : Int) ≤ x) ∧ r.aro < ((i + j : Nat) : Int) ∧
    (∀ x ∈ arounds A, x < ((i + j : Nat) : Int))
theorem info_sits : ∀ (t : F) (a : Int) (i : Nat) (st : Stk) (j : Nat) (r : Rec), a < (i : Int) → (info t a i st)[j]? = some r → Sits (info t a i st) i j r := by
  have zero : ∀ (t : F) (a : Int) (i : Nat) (st : Stk) (r : Rec), a < (i : Int) → (info t a i st)[0]? = some r → Sits (info t a i st) i 0 r := by
    intro t a i st r ha h
    rw [info_head] at h
    cases h
    exact ⟨[], [], by simp, rfl, by simp [arounds], by simp [arounds], by simpa using ha, by simp [arounds]⟩
  intro t
  induction t with
  | nul b =>
    intro a i st j r ha h
    cases j with
    | zero => exact zero _ _ _ _ _ ha h
    | succ j => simp [info] at h
  | leaf k n =>
    intro a i st j r ha h
    cases j with
    | zero => exact zero _ _ _ _ _ ha h
    | succ j => simp [info] at h
  | two b f g ihf ihg =>
    intro a i st j r ha h
    cases j with
    | zero => exact zero _ _ _ _ _ ha h
    | succ j =>
      simp only [info, List.getElem?_cons_succ] at h
      by_cases lt : j < f.size
      · rw [List.getElem?_append_left (by rw [info_len]; exact lt)] at h
        obtain ⟨A, B, e, eA, hA, hB, hr, hA2⟩ := ihf i (i + 1) st j r (by omega) h
        have ee : i + 1 + j = i + (j + 1) := by omega
        rw [ee] at e hA hB hr hA2
        have szr : r.sub.size + j ≤ f.size := by
          have z := congrArg List.length e
          simp only [info_len, List.length_append, eA] at z
          omega
        refine ⟨⟨.two b f g, a, st⟩ :: A, B ++ info g i (i + 1 + f.size) st, by simp [info, e], by simp [eA], ?_, ?_, hr, ?_⟩
        · intro x hx
          simp only [arounds, List.map_cons, List.mem_cons] at hx
          rcases hx with rfl | hx
          · omega
          · exact hA x hx
        · intro x hx
          simp only [arounds, List.map_append, List.mem_append] at hx
          rcases hx with hx | hx
          · exact hB x hx
          · have := aro_range g i (i + 1 + f.size) st x hx
            omega
        · intro x hx
          simp only [arounds, List.map_cons, List.mem_cons] at hx
          rcases hx with rfl | hx
          · omega
          · exact hA2 x hx
      · rw [List.getElem?_append_right (by rw [info_len]; omega), info_len] at h
        obtain ⟨A, B, e, eA, hA, hB, hr, hA2⟩ := ihg i (i + 1 + f.size) st (j - f.size) r (by omega) h
        have ee : i + 1 + f.size + (j - f.size) = i + (j + 1) := by omega
        rw [ee] at e hA hB hr hA2
        refine ⟨⟨.two b f g, a, st⟩ :: (info f i (i + 1) st ++ A), B, by simp [info, e], by simp [eA, info_len]; omega, ?_, hB, hr, ?_⟩
        · intro x hx
          simp only [arounds, List.map_cons, List.map_append, List.mem_cons, List.mem_append] at hx
          rcases hx with rfl | hx | hx
          · omega
          · have := aro_range f i (i + 1) st x hx
            omega
          · exact hA x hx
        · intro x hx
          simp only [arounds, List.map_cons, List.map_append, List.mem_cons, List.mem_append] at hx
          rcases hx with rfl | hx | hx
          · omega
          · have := aro_range f i (i + 1) st x hx
            omega
          · exact hA2 x hx
  | one k n f ih =>
    intro a i st j r ha h
    cases j with
    | zero => exact zero _ _ _ _ _ ha h
    | succ j =>
      simp only [info, List.getElem?_cons_succ] at h
      obtain ⟨A, B, e, eA, hA, hB, hr, hA2⟩ := ih i (i + 1) _ j r (by omega) h
      have ee : i + 1 + j = i + (j + 1) := by omega
      rw [ee] at e hA hB hr hA2
      refine ⟨⟨.one k n f, a, st⟩ :: A, B, by simp [info, e], by simp [eA], ?_, hB, hr, ?_⟩
      · intro x hx
        simp only [arounds, List.map_cons, List.mem_cons] at hx
        rcases hx with rfl | hx
        · omega
        · exact hA x hx
      · intro x hx
        simp only [arounds, List.map_cons, List.mem_cons] at hx
        rcases hx with rfl | hx
        · omega
        · exact hA2 x hx
/-- the places of the parts directly in one -/
def inPlaces : F → Nat → List Nat
  | .two _ f _, i => [i + 1, i + 1 + f.size]
  | .one _ _ _, i => [i + 1]
  | _, _ => []
theorem kids_own : ∀ (t : F) (a : Int) (i : Nat) (st : Stk), a < (i : Int) → kidsFrom (arounds (info t a i st)) i i = inPlaces t i
  | .nul _, a, i, st, ha => by
    simp only [arounds, info, List.map_cons, List.map_nil, kidsFrom, inPlaces]
    rw [if_neg (by omega)]
  | .leaf _ _, a, i, st, ha => by
    simp only [arounds, info, List.map_cons, List.map_nil, kidsFrom, inPlaces]
    rw [if_neg (by omega)]
  | .two b f g, a, i, st, ha => by
    have rest : ∀ (u : F) (j : Nat) (st : Stk), i < j → kidsFrom (arounds (info u i j st)) j i = [j] := by
      intro u j st hj
      have tail : ∀ (I : List Rec), (∀ x ∈ arounds I, (j : Int) ≤ x) → kidsFrom (arounds I) (j + 1) i = [] := fun I hI =>
        kids_none _ _ _ fun x hx => by have := hI x hx; omega
      cases u with
      | nul b => simp [arounds, info, kidsFrom]
      | leaf k n => simp [arounds, info, kidsFrom]
      | two b f g =>
        simp only [arounds, info, List.map_cons, kidsFrom, if_true]
        have := tail (info f j (j + 1) st ++ info g j (j + 1 + f.size) st) (fun x hx => by
          simp only [arounds, List.map_append, List.mem_append] at hx
          rcases hx with hx | hx
          · have := aro_range f j (j + 1) st x hx
            omega
          · have := aro_range g j (j + 1 + f.size) st x hx
            omega)
        rw [arounds] at this
        rw [this]
      | one k n f =>
        simp only [arounds, info, List.map_cons, kidsFrom, if_true]
        have := tail (info f j (j + 1) (if k.bind then (n, j) :: st else st)) (fun x hx => by
          have := aro_range f j (j + 1) _ x hx
          omega)
        rw [arounds] at this
        rw [this]
    have h1 := rest f (i + 1) st (by omega)
    have h2 := rest g (i + 1 + f.size) st (by omega)
    simp only [arounds] at h1 h2
    simp only [arounds, info, List.map_cons, List.map_append, kidsFrom, inPlaces]
    rw [if_neg (by omega), kids_app, h1, List.length_map, info_len, h2]
    rfl
  | .one k n f, a, i, st, ha => by
    have rest : ∀ (u : F) (j : Nat) (st : Stk), i < j → kidsFrom (arounds (info u i j st)) j i = [j] := by
      intro u j st hj
      have tail : ∀ (I : List Rec), (∀ x ∈ arounds I, (j : Int) ≤ x) → kidsFrom (arounds I) (j + 1) i = [] := fun I hI =>
        kids_none _ _ _ fun x hx => by have := hI x hx; omega
      cases u with
      | nul b => simp [arounds, info, kidsFrom]
      | leaf k n => simp [arounds, info, kidsFrom]
      | two b f g =>
        simp only [arounds, info, List.map_cons, kidsFrom, if_true]
        have := tail (info f j (j + 1) st ++ info g j (j + 1 + f.size) st) (fun x hx => by
          simp only [arounds, List.map_append, List.mem_append] at hx
          rcases hx with hx | hx
          · have := aro_range f j (j + 1) st x hx
            omega
          · have := aro_range g j (j + 1 + f.size) st x hx
            omega)
        rw [arounds] at this
        rw [this]
      | one k n f =>
        simp only [arounds, info, List.map_cons, kidsFrom, if_true]
        have := tail (info f j (j + 1) (if k.bind then (n, j) :: st else st)) (fun x hx => by
          have := aro_range f j (j + 1) _ x hx
          omega)
        rw [arounds] at this
        rw [this]
    have h1 := rest f (i + 1) (if k.bind then (n, i) :: st else st) (by omega)
    simp only [arounds] at h1
    simp only [arounds, info, List.map_cons, kidsFrom, inPlaces]
    rw [if_neg (by omega), h1]
theorem kids_at {t : F} {j : Nat} {r : Rec} (h : (infos t)[j]? = some r) : kidsFrom (arounds (infos t)) 0 j = inPlaces r.sub j := by
  obtain ⟨A, B, e, eA, hA, hB, hr, _⟩ := info_sits t (-1) 0 [] j r (by omega) h
  rw [Nat.zero_add] at e hA hB hr
  have ea : arounds (infos t) = arounds A ++ arounds (info r.sub r.aro j r.stk) ++ arounds B := by
    rw [show infos t = _ from e]
    simp [arounds]
  have lA : (arounds A).length = j := by simp [arounds, eA]
  rw [ea, kids_app, kids_app, kids_none _ _ _ hA, Nat.zero_add, lA, kids_own _ _ _ _ hr, kids_none (arounds B)]
  · simp
  · intro x hx
    have := hB x hx
    have := F.size_pos r.sub
    omega
/-- the parts of a part are among all, at their places -/
theorem sub_at {t : F} {j : Nat} {r : Rec} (h : (infos t)[j]? = some r) : ∀ (k : Nat) (q : Rec), (info r.sub r.aro j r.stk)[k]? = some q → (infos t)[j + k]? = some q := by
  intro k q hq
  obtain ⟨A, B, e, eA, _⟩ := info_sits t (-1) 0 [] j r (by omega) h
  rw [Nat.zero_add] at e
  have lt := (List.getElem?_eq_some_iff.mp hq).1
  rw [show infos t = _ from e, List.append_assoc, List.getElem?_append_right (by omega), eA, show j + k - j = k by omega, List.getElem?_append_left lt]
  exact hq

/-! ### the binder around, and the one of a variable -/
def topPos : Stk → Int
  | [] => -1
  | (_, p) :: _ => (p : Int)
def posOf (x : Int) : Stk → Int
  | [] => -1
  | (y, p) :: r => if y = x then (p : Int) else posOf x r
def isB : F → Bool
  | .one k _ _ => k.bind
  | _ => false
theorem pushS_top (s : F) (p : Nat) (st : Stk) : topPos (pushS s p st) = if isB s = true then (p : Int) else topPos st := by
  cases s with
  | one k n f => cases hk : k.bind <;> simp [pushS, isB, topPos, hk]
  | _ => rfl
theorem top_step {t : F} {j : Nat} {r : Rec} (h : (infos t)[j]? = some r) :
    (r.aro = -1 ∧ topPos r.stk = -1 ∧ j = 0) ∨ ∃ p r', p < j ∧ (infos t)[p]? = some r' ∧ r.aro = (p : Int) ∧ topPos r.stk = if isB r'.sub = true then (p : Int) else topPos r'.stk := by
  rcases info_up t (-1) 0 [] j r h with ⟨rfl, rfl⟩ | ⟨p, r', hp, e, e1, e2⟩
  · exact .inl ⟨rfl, rfl, rfl⟩
  · rw [Nat.zero_add] at e1 e2
    exact .inr ⟨p, r', hp, e, e1, by rw [e2, pushS_top]⟩
theorem posOf_ge (x : Int) : ∀ st : Stk, -1 ≤ posOf x st
  | [] => by simp [posOf]
  | (y, p) :: r => by
    simp only [posOf]
    split
    · omega
    · exact posOf_ge x r
theorem posOf_neg (x : Int) : ∀ st : Stk, posOf x st < 0 ↔ x ∉ st.map (·.1)
  | [] => by simp [posOf]
  | (y, p) :: r => by
    have ih := posOf_neg x r
    simp only [posOf, List.map_cons, List.mem_cons, not_or]
    split
    · rename_i e
      constructor
      · intro z
        omega
      · intro z
        exact absurd e.symm z.1
    · rename_i e
      rw [ih]
      constructor
      · exact fun z => ⟨fun q => e q.symm, z⟩
      · exact fun z => z.2
/-! ### free variables -/
def freeL : F → List Int → List Int
  | .nul _, _ => []
  | .leaf .var x, bound => if x ∈ bound then [] else [x]
  | .leaf _ _, _ => []
  | .two _ f g, bound => freeL f bound ++ freeL g bound
  | .one k x f, bound => if k.bind then freeL f (bound ++ [x]) else freeL f bound
theorem free_iff (x : Int) : ∀ (t : F) (bound : List Int) (a : Int) (i : Nat) (st : Stk), (∀ y, y ∈ bound ↔ y ∈ st.map (·.1)) →
    (x ∈ freeL t bound ↔ ∃ r ∈ info t a i st, r.sub = .leaf .var x ∧ x ∉ r.stk.map (·.1))
  | .nul b, bound, a, i, st, hb => by simp [freeL, info]
  | .leaf .has n, bound, a, i, st, hb => by simp [freeL, info]
  | .leaf .lacks n, bound, a, i, st, hb => by simp [freeL, info]
  | .leaf .var n, bound, a, i, st, hb => by
    simp only [freeL, info, List.mem_singleton]
    constructor
    · intro h
      split at h
      · cases h
      · rename_i hn
        rw [List.mem_singleton] at h
        subst h
        exact ⟨_, rfl, rfl, fun z => hn ((hb _).mpr z)⟩
    · rintro ⟨r, rfl, e, hn⟩
      injection e with _ e
      subst e
      rw [if_neg (fun z => hn ((hb _).mp z))]
      exact List.mem_singleton.mpr rfl
  | .two b f g, bound, a, i, st, hb => by
    simp only [freeL, info, List.mem_append, List.mem_cons]
    rw [free_iff x f bound i (i + 1) st hb, free_iff x g bound i (i + 1 + f.size) st hb]
    constructor
    · rintro (⟨r, h1, h2⟩ | ⟨r, h1, h2⟩)
      · exact ⟨r, .inr (.inl h1), h2⟩
      · exact ⟨r, .inr (.inr h1), h2⟩
    · rintro ⟨r, h1, h2, h3⟩
      rcases h1 with rfl | h1 | h1
      · cases h2
      · exact .inl ⟨r, h1, h2, h3⟩
      · exact .inr ⟨r, h1, h2, h3⟩
  | .one k n f, bound, a, i, st, hb => by
    simp only [freeL, info, List.mem_cons]
    have key : ∀ (bound' : List Int) (st' : Stk), (∀ y, y ∈ bound' ↔ y ∈ st'.map (·.1)) →
        (x ∈ freeL f bound' ↔ ∃ r, (r = ⟨.one k n f, a, st⟩ ∨ r ∈ info f i (i + 1) st') ∧ r.sub = .leaf .var x ∧ x ∉ r.stk.map (·.1)) := by
      intro bound' st' h'
      rw [free_iff x f bound' i (i + 1) st' h']
      constructor
      · rintro ⟨r, h1, h2⟩
        exact ⟨r, .inr h1, h2⟩
      · rintro ⟨r, h1, h2, h3⟩
        rcases h1 with rfl | h1
        · cases h2
        · exact ⟨r, h1, h2, h3⟩
    by_cases hk : k.bind = true
    · rw [if_pos hk, if_pos hk]
      refine key _ _ fun y => ?_
      simp only [List.mem_append, hb y, List.map_cons, List.mem_cons, List.not_mem_nil, or_false]
      exact Or.comm
    · rw [if_neg hk, if_neg hk]
      exact key _ _ hb
def Closed (t : F) : Prop := ∀ r ∈ infos t, ∀ x, r.sub = .leaf .var x → x ∈ r.stk.map (·.1)
theorem closed_iff {t : F} : freeL t [] = [] ↔ Closed t := by
  constructor
  · intro h r hr x e
    refine Classical.byContradiction fun hn => ?_
    have := (free_iff x t [] (-1) 0 [] (by simp)).mpr ⟨r, hr, e, hn⟩
    rw [h] at this
    cases this
  · intro h
    refine List.eq_nil_iff_forall_not_mem.mpr fun x hx => ?_
    obtain ⟨r, hr, e, hn⟩ := (free_iff x t [] (-1) 0 [] (by simp)).mp hx
    exact hn (h r hr x e)
/-! ### the same shape, the same places -/
def skel : F → F
  | .nul _ => .nul true
  | .leaf _ _ => .nul true
  | .two _ f g => .two true (skel f) (skel g)
  | .one _ _ f => .one .some 0 (skel f)
theorem skel_size : ∀ t : F, (skel t).size = t.size
  | .nul _ => rfl
  | .leaf _ _ => rfl
  | .two _ f g => by simp [skel, F.size, skel_size f, skel_size g]
  | .one _ _ f => by simp [skel, F.size, skel_size f]
theorem skel_depth : ∀ t : F, (skel t).depth = t.depth
  | .nul _ => rfl
  | .leaf _ _ => rfl
  | .two _ f g => by simp [skel, F.depth, skel_depth f, skel_depth g]
  | .one _ _ f => by simp [skel, F.depth, skel_depth f]
theorem skel_aro : ∀ (t : F) (a : Int) (i : Nat) (st : Stk), arounds (info t a i st) = arounds (info (skel t) a i [])
  | .nul _, _, _, _ => rfl
  | .leaf _ _, _, _, _ => rfl
  | .two _ f g, a, i, st => by
    have h1 := skel_aro f i (i + 1) st
    have h2 := skel_aro g i (i + 1 + f.size) st
    simp only [arounds] at h1 h2
    simp only [arounds, info, skel, List.map_cons, List.map_append, h1, h2, skel_size]
  | .one k n f, a, i, st => by
    have h1 := skel_aro f i (i + 1) (if k.bind then (n, i) :: st else st)
    simp only [arounds] at h1
    simp only [arounds, info, skel, List.map_cons]
    rw [h1]
    rfl
theorem same_aro {t u : F} (h : skel t = skel u) : arounds (infos t) = arounds (infos u) := by
  rw [skel_aro t, skel_aro u, h]
theorem same_size {t u : F} (h : skel t = skel u) : t.size = u.size := by rw [← skel_size t, h, skel_size]
/-! ### the tidy form -/
def tidyF : F → (Int → Int) → Int → F × Int
  | .nul b, _, n => (.nul b, n)
  | .leaf .var x, nm, n => (.leaf .var (nm x), n)
  | .leaf k x, _, n => (.leaf k x, n)
  | .two b f g, nm, n => (.two b (tidyF f nm n).1 (tidyF g nm (tidyF f nm n).2).1, (tidyF g nm (tidyF f nm n).2).2)
  | .one k x f, nm, n =>
    if k.bind then (.one k n (tidyF f (fun y => if y = x then n else nm y) (n + 1)).1, (tidyF f (fun y => if y = x then n else nm y) (n + 1)).2)
    else (.one k x (tidyF f nm n).1, (tidyF f nm n).2)
theorem tidy_skel : ∀ (t : F) (nm : Int → Int) (n : Int), skel (tidyF t nm n).1 = skel t
  | .nul _, _, _ => rfl
  | .leaf .var _, _, _ => rfl
  | .leaf .has _, _, _ => rfl
  | .leaf .lacks _, _, _ => rfl
  | .two _ f g, nm, n => by simp only [tidyF, skel, tidy_skel f, tidy_skel g]
  | .one k x f, nm, n => by
    simp only [tidyF]
    split <;> simp only [skel, tidy_skel f]
def cntB (I : List Rec) : Nat := (I.filter fun r => isB r.sub).length
theorem cntB_app (A B : List Rec) : cntB (A ++ B) = cntB A + cntB B := by simp [cntB]
theorem cntB_cons (r : Rec) (B : List Rec) : cntB (r :: B) = (if isB r.sub = true then 1 else 0) + cntB B := by
  simp only [cntB, List.filter_cons]
  split <;> simp <;> omega
def newHd (ρ : Nat → Int) (q : Nat) (r : Rec) : Hd :=
  match r.sub with
  | .leaf .var x => .leaf .var (ρ (posOf x r.stk).toNat)
  | .one k x _ => if k.bind then .one k (ρ q) else .one k x
  | s => s.hd
theorem tidy_heads (ρ : Nat → Int) : ∀ (t : F) (a : Int) (i : Nat) (st : Stk) (nm : Int → Int) (n : Int),
    (∀ r ∈ info t a i st, ∀ x, r.sub = .leaf .var x → x ∈ r.stk.map (·.1)) → (∀ x ∈ st.map (·.1), nm x = ρ (posOf x st).toNat) →
    (∀ j r, (info t a i st)[j]? = some r → isB r.sub = true → ρ (i + j) = n + (cntB ((info t a i st).take j) : Nat)) →
    (tidyF t nm n).2 = n + (cntB (info t a i st) : Nat) ∧
    ∀ (st' : Stk) (j : Nat) (r : Rec), (info t a i st)[j]? = some r → ((info (tidyF t nm n).1 a i st')[j]?).map (fun r => r.sub.hd) = some (newHd ρ (i + j) r)
  | .nul b, a, i, st, nm, n, hc, hs, hr => by
    refine ⟨by simp [tidyF, info, cntB, isB], fun st' j r h => ?_⟩
    cases j with
    | zero =>
      cases h
      rfl
    | succ j => simp [info] at h
  | .leaf .has b, a, i, st, nm, n, hc, hs, hr => by
    refine ⟨by simp [tidyF, info, cntB, isB], fun st' j r h => ?_⟩
    cases j with
    | zero =>
      cases h
      rfl
    | succ j => simp [info] at h
  | .leaf .lacks b, a, i, st, nm, n, hc, hs, hr => by
    refine ⟨by simp [tidyF, info, cntB, isB], fun st' j r h => ?_⟩
    cases j with
    | zero =>
      cases h
      rfl
    | succ j => simp [info] at h
  | .leaf .var x, a, i, st, nm, n, hc, hs, hr => by
    refine ⟨by simp [tidyF, info, cntB, isB], fun st' j r h => ?_⟩
    cases j with
    | zero =>
      cases h
      have hx : x ∈ st.map (·.1) := hc ⟨.leaf .var x, a, st⟩ (by simp [info]) x rfl
      simp only [tidyF, info, newHd, List.getElem?_cons_zero, Option.map_some, F.hd]
      rw [hs x hx]
    | succ j => simp [info] at h
  | .two b f g, a, i, st, nm, n, hc, hs, hr => by
    have If : ∀ j r, (info f i (i + 1) st)[j]? = some r → (info (.two b f g) a i st)[j + 1]? = some r := fun j r h => by
      simp only [info, List.getElem?_cons_succ]
      rw [List.getElem?_append_left (List.getElem?_eq_some_iff.mp h).1]
      exact h
    have Ig : ∀ j r, (info g i (i + 1 + f.size) st)[j]? = some r → (info (.two b f g) a i st)[f.size + j + 1]? = some r := fun j r h => by
      simp only [info, List.getElem?_cons_succ]
      rw [List.getElem?_append_right (by rw [info_len]; omega), info_len, show f.size + j - f.size = j by omega]
      exact h
    obtain ⟨f1, f2⟩ := tidy_heads ρ f i (i + 1) st nm n (fun r hr' => hc r (by simp [info, hr'])) hs (fun j r h hb => by
      have := hr (j + 1) r (If j r h) hb
      rw [show i + (j + 1) = i + 1 + j by omega] at this
      rw [this]
      simp only [info, List.take_succ_cons, cntB_cons, isB]
      rw [List.take_append_of_le_length (Nat.le_of_lt (List.getElem?_eq_some_iff.mp h).1)]
      simp)
    obtain ⟨g1, g2⟩ := tidy_heads ρ g i (i + 1 + f.size) st nm (tidyF f nm n).2 (fun r hr' => hc r (by simp [info, hr'])) hs (fun j r h hb => by
      have := hr (f.size + j + 1) r (Ig j r h) hb
      rw [show i + (f.size + j + 1) = i + 1 + f.size + j by omega] at this
      rw [this, f1]
      simp only [info, List.take_succ_cons, cntB_cons, isB]
      rw [List.take_append, info_len, List.take_of_length_le (by rw [info_len]; omega), show f.size + j - f.size = j by omega, cntB_app]
      simp
      omega)
    refine ⟨?_, fun st' j r h => ?_⟩
    · simp only [tidyF, info, cntB_cons, cntB_app, isB]
      rw [g1, f1]
      simp
      omega
    · have sz : (tidyF f nm n).1.size = f.size := same_size (tidy_skel f nm n)
      cases j with
      | zero =>
        cases h
        rfl
      | succ j =>
        simp only [info, List.getElem?_cons_succ] at h
        simp only [tidyF, info, List.getElem?_cons_succ]
        by_cases lt : j < f.size
        · rw [List.getElem?_append_left (by rw [info_len]; exact lt)] at h
          rw [List.getElem?_append_left (by rw [info_len, sz]; exact lt), f2 st' j r h, show i + 1 + j = i + (j + 1) by omega]
        · rw [List.getElem?_append_right (by rw [info_len]; omega), info_len] at h
          rw [List.getElem?_append_right (by rw [info_len, sz]; omega), info_len, sz, g2 st' (j - f.size) r h, show i + 1 + f.size + (j - f.size) = i + (j + 1) by omega]
  | .one k x f, a, i, st, nm, n, hc, hs, hr => by
    by_cases hk : k.bind = true
    · have If : ∀ j r, (info f i (i + 1) ((x, i) :: st))[j]? = some r → (info (.one k x f) a i st)[j + 1]? = some r := fun j r h => by
        simp only [info, List.getElem?_cons_succ, if_pos hk]
        exact h
      have ρi : ρ i = n := by
        have := hr 0 ⟨.one k x f, a, st⟩ rfl hk
        simpa [cntB] using this
      obtain ⟨f1, f2⟩ := tidy_heads ρ f i (i + 1) ((x, i) :: st) (fun y => if y = x then n else nm y) (n + 1) (fun r hr' => hc r (by simp [info, hk, hr'])) (fun y hy => by
        simp only [posOf]
        by_cases e : y = x
        · rw [if_pos e, if_pos e.symm]
          exact ρi.symm
        · rw [if_neg e, if_neg (fun z => e z.symm)]
          rw [List.map_cons, List.mem_cons] at hy
          exact hs y (hy.resolve_left e)) (fun j r h hb => by
        have := hr (j + 1) r (If j r h) hb
        rw [show i + (j + 1) = i + 1 + j by omega] at this
        rw [this]
        simp only [info, List.take_succ_cons, cntB_cons]
        rw [if_pos (show isB (F.one k x f) = true from hk), if_pos hk]
        omega)
      refine ⟨?_, fun st' j r h => ?_⟩
      · simp only [tidyF, info, cntB_cons]
        rw [if_pos (show isB (F.one k x f) = true from hk), if_pos hk, if_pos hk, f1]
        omega
      · cases j with
        | zero =>
          cases h
          simp only [tidyF, if_pos hk, info, newHd, List.getElem?_cons_zero, Option.map_some, F.hd]
          rw [Nat.add_zero, ρi]
        | succ j =>
          simp only [info, List.getElem?_cons_succ, if_pos hk] at h
          simp only [tidyF, if_pos hk, info, List.getElem?_cons_succ]
          rw [f2 _ j r h, show i + 1 + j = i + (j + 1) by omega]
    · have If : ∀ j r, (info f i (i + 1) st)[j]? = some r → (info (.one k x f) a i st)[j + 1]? = some r := fun j r h => by
        simp only [info, List.getElem?_cons_succ, if_neg hk]
        exact h
      obtain ⟨f1, f2⟩ := tidy_heads ρ f i (i + 1) st nm n (fun r hr' => hc r (by simp [info, hk, hr'])) hs (fun j r h hb => by
        have := hr (j + 1) r (If j r h) hb
        rw [show i + (j + 1) = i + 1 + j by omega] at this
        rw [this]
        simp only [info, List.take_succ_cons, cntB_cons]
        rw [if_neg (show ¬ isB (F.one k x f) = true from hk), if_neg hk]
        omega)
      refine ⟨?_, fun st' j r h => ?_⟩
      · simp only [tidyF, info, cntB_cons]
        rw [if_neg (show ¬ isB (F.one k x f) = true from hk), if_neg hk, if_neg hk, f1]
        omega
      · cases j with
        | zero =>
          cases h
          simp only [tidyF, if_neg hk, info, newHd, List.getElem?_cons_zero, Option.map_some, F.hd]
        | succ j =>
          simp only [info, List.getElem?_cons_succ, if_neg hk] at h
          simp only [tidyF, if_neg hk, info, List.getElem?_cons_succ]
          rw [f2 _ j r h, show i + 1 + j = i + (j + 1) by omega]
/-- of a closed one: the head of each part in the tidy form -/
def rankOf (t : F) (q : Nat) : Int := (cntB ((infos t).take q) : Nat)
theorem tidy_whole {t : F} (hc : Closed t) (nm : Int → Int) {j : Nat} {r : Rec} (h : (infos t)[j]? = some r) :
    ((infos (tidyF t nm 0).1)[j]?).map (fun r => r.sub.hd) = some (newHd (rankOf t) j r) := by
  have := (tidy_heads (rankOf t) t (-1) 0 [] nm 0 hc (by simp) (fun j r h hb => by simp [rankOf])).2 [] j r h
  rwa [Nat.zero_add] at this
/-! ### tidy twice -/
theorem tidy_again : ∀ (t : F) (nm nm2 : Int → Int) (n : Int), (∀ y, nm2 (nm y) = nm y) → tidyF (tidyF t nm n).1 nm2 n = tidyF t nm n
  | .nul _, _, _, _, _ => rfl
  | .leaf .has _, _, _, _, _ => rfl
  | .leaf .lacks _, _, _, _, _ => rfl
  | .leaf .var x, nm, nm2, n, h => by simp only [tidyF, h]
  | .two b f g, nm, nm2, n, h => by
    simp only [tidyF]
    rw [tidy_again f nm nm2 n h, tidy_again g nm nm2 _ h]
  | .one k x f, nm, nm2, n, h => by
    by_cases hk : k.bind = true
    · have ih := tidy_again f (fun y => if y = x then n else nm y) (fun y => if y = n then n else nm2 y) (n + 1) (fun y => by
        by_cases e : y = x
        · simp [e]
        · simp only [if_neg e]
          by_cases e2 : nm y = n
          · simp [e2]
          · rw [if_neg e2]
            exact h y)
      simp only [tidyF, if_pos hk, ih]
    · have ih := tidy_again f nm nm2 n h
      simp only [tidyF, if_neg hk, ih]
end Fw
namespace Fw
/-! ### taking a statement apart with a stack -/
def pre (t : F) (a : Int) (i : Nat) : List (Hd × Int) := (info t a i []).map fun r => (r.sub.hd, r.aro)
theorem pre_len (t : F) (a : Int) (i : Nat) : (pre t a i).length = t.size := by simp [pre, info_len]
theorem info_plain : ∀ (t : F) (a : Int) (i : Nat) (st : Stk), ((info t a i st).map fun r => (r.sub.hd, r.aro)) = pre t a i
  | .nul _, _, _, _ => rfl
  | .leaf _ _, _, _, _ => rfl
  | .two _ f g, a, i, st => by
    have h1 := info_plain f i (i + 1)
    have h2 := info_plain g i (i + 1 + f.size)
    simp only [pre, info, List.map_cons, List.map_append] at *
    rw [h1 st, h2 st]
  | .one k n f, a, i, st => by
    have h1 := info_plain f i (i + 1)
    simp only [pre, info, List.map_cons] at *
    rw [h1 (if k.bind then (n, i) :: st else st), h1 (if k.bind then [(n, i)] else [])]
def F.kids : F → List F
  | .two _ f g => [f, g]
  | .one _ _ f => [f]
  | _ => []
def fin (L : List (Hd × Int)) : List (F × Int) → List (Hd × Int)
  | [] => L
  | (t, a) :: r => fin (L ++ pre t a L.length) r
theorem fin_step (L : List (Hd × Int)) (t : F) (a : Int) (r : List (F × Int)) :
    fin L ((t, a) :: r) = fin (L ++ [(t.hd, a)]) (t.kids.map (fun f => (f, (L.length : Int))) ++ r) := by
  cases t with
  | nul b => rfl
  | leaf k n => rfl
  | two b f g =>
    have hf := info_plain f L.length (L.length + 1) []
    have hg := info_plain g L.length (L.length + 1 + f.size) []
    simp only [fin, F.kids, List.map_cons, List.map_nil, List.cons_append, List.nil_append, F.hd, List.length_append, List.length_cons, List.length_nil, pre_len]
    congr 1
    simp only [pre, info, List.map_cons, List.map_append, F.hd]
    simp
  | one k n f =>
    have hf := info_plain f L.length (L.length + 1) (if k.bind then [(n, L.length)] else [])
    simp only [fin, F.kids, List.map_cons, List.map_nil, List.cons_append, List.nil_append, F.hd, List.length_append, List.length_cons, List.length_nil]
    congr 1
    simp only [pre, info, List.map_cons, F.hd] at *
    rw [hf]
    simp
def stSize : List (F × Int) → Nat
  | [] => 0
  | (t, _) :: r => t.size + stSize r
theorem stSize_app : ∀ A B : List (F × Int), stSize (A ++ B) = stSize A + stSize B
  | [], B => by simp [stSize]
  | (t, a) :: A, B => by simp [stSize, stSize_app A B]; omega
theorem stSize_kids (t : F) (i : Int) : stSize (t.kids.map fun f => (f, i)) + 1 = t.size := by
  cases t <;> simp [F.kids, stSize, F.size]
theorem st_len : ∀ A : List (F × Int), A.length ≤ stSize A
  | [] => Nat.le_refl _
  | (t, a) :: A => by
    have := st_len A
    have := F.size_pos t
    simp only [List.length_cons, stSize]
    omega
theorem fin_len : ∀ (S : List (F × Int)) (L : List (Hd × Int)), (fin L S).length = L.length + stSize S
  | [], L => by simp [fin, stSize]
  | (t, a) :: S, L => by
    simp only [fin, stSize]
    rw [fin_len S, List.length_append, pre_len]
    omega
end Fw
namespace Fw
theorem kids_recs {t : F} {j : Nat} {r : Rec} (h : (infos t)[j]? = some r) :
    (inPlaces r.sub j).length = r.sub.kids.length ∧ ∀ (m p : Nat), (inPlaces r.sub j)[m]? = some p → ∃ r', (infos t)[p]? = some r' ∧ r.sub.kids[m]? = some r'.sub ∧ j < p := by
  have sa := sub_at h
  obtain ⟨s, a, st⟩ := r
  cases s with
  | nul b => exact ⟨rfl, fun m p e => by simp [inPlaces] at e⟩
  | leaf k n => exact ⟨rfl, fun m p e => by simp [inPlaces] at e⟩
  | two b f g =>
    refine ⟨rfl, fun m p e => ?_⟩
    match m, e with
    | 0, e =>
      cases e
      refine ⟨⟨f, j, st⟩, sa 1 _ ?_, rfl, by omega⟩
      simp only [info, List.getElem?_cons_succ]
      rw [List.getElem?_append_left (by rw [info_len]; exact F.size_pos f)]
      exact info_head _ _ _ _
    | 1, e =>
      cases e
      have z := sa (1 + f.size) ⟨g, j, st⟩ (by
        rw [Nat.add_comm 1]
        simp only [info, List.getElem?_cons_succ]
        rw [List.getElem?_append_right (by rw [info_len]; omega), info_len, Nat.sub_self]
        exact info_head _ _ _ _)
      rw [← Nat.add_assoc] at z
      exact ⟨_, z, rfl, by omega⟩
    | m + 2, e => simp [inPlaces] at e
  | one k n f =>
    refine ⟨rfl, fun m p e => ?_⟩
    match m, e with
    | 0, e =>
      cases e
      refine ⟨⟨f, j, if k.bind then (n, j) :: st else st⟩, sa 1 _ ?_, rfl, by omega⟩
      simp only [info, List.getElem?_cons_succ]
      exact info_head _ _ _ _
    | m + 1, e => simp [inPlaces] at e
end Fw
namespace Fw
theorem F.kids_le : ∀ t : F, t.kids.length ≤ 2
  | .nul _ => Nat.zero_le 2
  | .leaf _ _ => Nat.zero_le 2
  | .two _ _ _ => Nat.le_refl 2
  | .one _ _ _ => Nat.le_succ 1
end Fw
namespace Fw
theorem infos_pos {t : F} {x : Int} : ∀ (st : Stk) (j : Nat) (r : Rec), (infos t)[j]? = some r → r.stk = st → x ∈ st.map (·.1) →
    ∃ (p : Nat) (r' : Rec), posOf x st = (p : Int) ∧ p < j ∧ (infos t)[p]? = some r' ∧ isB r'.sub = true
  | [], _, _, _, _, h => by cases h
  | (y, q) :: rest, j, r, hr, e, h => by
    obtain ⟨hq, k, f, a, h2, h3⟩ := infos_stk j j r y q rest (Nat.le_refl _) hr e
    simp only [posOf]
    by_cases c : y = x
    · rw [if_pos c]
      exact ⟨q, _, rfl, hq, h2, h3⟩
    · rw [if_neg c]
      have h' : x ∈ rest.map (·.1) := by
        rw [List.map_cons, List.mem_cons] at h
        exact h.resolve_left fun z => c z.symm
      obtain ⟨p, r', e1, e2, e3⟩ := infos_pos rest q _ h2 rfl h'
      exact ⟨p, r', e1, by omega, e3⟩
end Fw
namespace Fw
/-! ### what the law draws -/
def fv : F → List Int
  | .nul _ => []
  | .leaf .var x => [x]
  | .leaf _ _ => []
  | .two _ f g => fv f ++ fv g
  | .one k x f => if k.bind then (fv f).filter (fun y => y ≠ x) else fv f
theorem free_fv (y : Int) : ∀ (t : F) (b : List Int), y ∈ freeL t b ↔ y ∈ fv t ∧ y ∉ b
  | .nul _, b => by simp [freeL, fv]
  | .leaf .has _, b => by simp [freeL, fv]
  | .leaf .lacks _, b => by simp [freeL, fv]
  | .leaf .var x, b => by
    simp only [freeL, fv, List.mem_singleton]
    split
    · rename_i h
      constructor
      · intro z
        cases z
      · rintro ⟨rfl, z⟩
        exact absurd h z
    · rename_i h
      rw [List.mem_singleton]
      constructor
      · rintro rfl
        exact ⟨rfl, h⟩
      · exact fun z => z.1
  | .two _ f g, b => by
    simp only [freeL, fv, List.mem_append, free_fv y f b, free_fv y g b]
    constructor
    · rintro (⟨h1, h2⟩ | ⟨h1, h2⟩)
      · exact ⟨.inl h1, h2⟩
      · exact ⟨.inr h1, h2⟩
    · rintro ⟨h1 | h1, h2⟩
      · exact .inl ⟨h1, h2⟩
      · exact .inr ⟨h1, h2⟩
  | .one k x f, b => by
    simp only [freeL, fv]
    by_cases hk : k.bind = true
    · rw [if_pos hk, if_pos hk, free_fv y f (b ++ [x])]
      simp only [List.mem_append, List.mem_singleton, not_or, List.mem_filter, decide_eq_true_eq]
      constructor
      · rintro ⟨h1, h2, h3⟩
        exact ⟨⟨h1, h3⟩, h2⟩
      · rintro ⟨⟨h1, h3⟩, h2⟩
        exact ⟨h1, h2, h3⟩
    · rw [if_neg hk, if_neg hk, free_fv y f b]
theorem closed_fv {t : F} : fv t = [] ↔ Closed t := by
  rw [← closed_iff]
  constructor
  · intro h
    refine List.eq_nil_iff_forall_not_mem.mpr fun x hx => ?_
    have := ((free_fv x t []).mp hx).1
    rw [h] at this
    cases this
  · intro h
    refine List.eq_nil_iff_forall_not_mem.mpr fun x hx => ?_
    have := (free_fv x t []).mpr ⟨hx, by simp⟩
    rw [h] at this
    cases this
abbrev V4 : List Int := [0, 1, 2, 7]
def Ok : F → Prop
  | .nul _ => True
  | .leaf .var x => x ∈ V4
  | .leaf _ n => 0 ≤ n ∧ n < 2
  | .two _ f g => Ok f ∧ Ok g
  | .one k n f => (if k.bind = true then n ∈ V4 else 0 ≤ n ∧ n < 2) ∧ Ok f
theorem ok_fv : ∀ {t : F}, Ok t → ∀ x ∈ fv t, x ∈ V4
  | .nul _, _, x, h => by cases h
  | .leaf .has _, _, x, h => by cases h
  | .leaf .lacks _, _, x, h => by cases h
  | .leaf .var y, o, x, h => by
    rw [show fv (.leaf .var y) = [y] from rfl, List.mem_singleton] at h
    subst h
    exact o
  | .two _ f g, o, x, h => by
    rcases List.mem_append.mp (show x ∈ fv f ++ fv g from h) with h | h
    · exact ok_fv o.1 x h
    · exact ok_fv o.2 x h
  | .one k n f, o, x, h => by
    refine ok_fv o.2 x ?_
    simp only [fv] at h
    split at h
    · exact (List.mem_filter.mp h).1
    · exact h
structure Gen (n : Nat) (W R : List Int) (t : F) : Prop where
  dep : t.depth ≤ n + 1
  ok : Ok t
  fr : ∀ x ∈ fv t, x ∈ W ∨ x ∈ R
end Fw
namespace Fw
theorem tidy_fv : ∀ (t : F) (nm : Int → Int) (n y : Int), y ∈ fv (tidyF t nm n).1 → ∃ x ∈ fv t, y = nm x
  | .nul _, _, _, _, h => by cases h
  | .leaf .has _, _, _, _, h => by cases h
  | .leaf .lacks _, _, _, _, h => by cases h
  | .leaf .var x, nm, n, y, h => ⟨x, List.mem_singleton.mpr rfl, List.mem_singleton.mp h⟩
  | .two b f g, nm, n, y, h => by
    rcases List.mem_append.mp (show y ∈ fv (tidyF f nm n).1 ++ fv (tidyF g nm (tidyF f nm n).2).1 from h) with h | h
    · obtain ⟨x, h1, h2⟩ := tidy_fv f nm n y h
      exact ⟨x, List.mem_append_left _ h1, h2⟩
    · obtain ⟨x, h1, h2⟩ := tidy_fv g nm _ y h
      exact ⟨x, List.mem_append_right _ h1, h2⟩
  | .one k z f, nm, n, y, h => by
    by_cases hk : k.bind = true
    · simp only [tidyF, if_pos hk, fv, List.mem_filter, decide_eq_true_eq] at h
      obtain ⟨x, h1, h2⟩ := tidy_fv f _ _ y h.1
      by_cases e : x = z
      · rw [if_pos e] at h2
        exact absurd h2 h.2
      · rw [if_neg e] at h2
        refine ⟨x, ?_, h2⟩
        simp only [fv, if_pos hk, List.mem_filter, decide_eq_true_eq]
        exact ⟨h1, e⟩
    · simp only [tidyF, if_neg hk, fv] at h
      obtain ⟨x, h1, h2⟩ := tidy_fv f nm n y h
      refine ⟨x, ?_, h2⟩
      simp only [fv, if_neg hk]
      exact h1
theorem tidy_closed {t : F} (nm : Int → Int) (n : Int) (h : Closed t) : Closed (tidyF t nm n).1 := by
  rw [← closed_fv] at h ⊢
  refine List.eq_nil_iff_forall_not_mem.mpr fun y hy => ?_
  obtain ⟨x, hx, _⟩ := tidy_fv t nm n y hy
  rw [h] at hx
  cases hx
end Fw

namespace Fw
/-! ### opposites -/
def Leaf.opp : Leaf → Leaf
  | .has => .lacks
  | .lacks => .has
  | .var => .var
def One.opp : One → One
  | .some => .all
  | .all => .some
  | .least => .most
  | .most => .least
def opp : F → F
  | .nul b => .nul !b
  | .leaf k n => .leaf k.opp n
  | .two b f g => .two (!b) (opp f) (opp g)
  | .one k n f => .one k.opp n (opp f)
def oppH : Hd → Hd
  | .nul b => .nul !b
  | .leaf k n => .leaf k.opp n
  | .two b => .two !b
  | .one k n => .one k.opp n
theorem opp_hd (t : F) : (opp t).hd = oppH t.hd := by cases t <;> rfl
theorem opp_skel : ∀ t : F, skel (opp t) = skel t
  | .nul _ => rfl
  | .leaf _ _ => rfl
  | .two _ f g => by simp [opp, skel, opp_skel f, opp_skel g]
  | .one _ _ f => by simp [opp, skel, opp_skel f]
theorem opp_size (t : F) : (opp t).size = t.size := same_size (opp_skel t)
theorem opp_depth (t : F) : (opp t).depth = t.depth := by rw [← skel_depth, opp_skel, skel_depth]
theorem opp_opp : ∀ t : F, opp (opp t) = t
  | .nul b => by simp [opp]
  | .leaf k n => by cases k <;> rfl
  | .two b f g => by simp [opp, opp_opp f, opp_opp g]
  | .one k n f => by cases k <;> simp [opp, One.opp, opp_opp f]
theorem bind_opp (k : One) : k.opp.bind = k.bind := by cases k <;> rfl
theorem opp_fv : ∀ t : F, fv (opp t) = fv t
  | .nul _ => rfl
  | .leaf k n => by cases k <;> rfl
  | .two b f g => by simp [opp, fv, opp_fv f, opp_fv g]
  | .one k n f => by simp only [opp, fv, bind_opp, opp_fv f]
theorem opp_closed {t : F} (h : Closed t) : Closed (opp t) := by
  rw [← closed_fv] at h ⊢
  rw [opp_fv, h]
theorem opp_heads : ∀ (t : F) (a : Int) (i : Nat) (st st' : Stk), ((info (opp t) a i st').map fun r => r.sub.hd) = (info t a i st).map fun r => oppH r.sub.hd
  | .nul _, _, _, _, _ => rfl
  | .leaf _ _, _, _, _, _ => rfl
  | .two b f g, a, i, st, st' => by
    simp only [opp, info, List.map_cons, List.map_append, opp_heads f i (i + 1) st st', opp_size, opp_heads g i (i + 1 + f.size) st st']
    rfl
  | .one k n f, a, i, st, st' => by
    simp only [opp, info, List.map_cons, opp_heads f i (i + 1) (if k.bind = true then (n, i) :: st else st)]
    rfl
end Fw

/-! Worlds as the laws draw them, and what is true in them: pure mathematics. -/
namespace Fw
structure Wd where
  facts : List (List Int)
  steps : List (Int × Int × Int)
def Wd.n (W : Wd) : Nat := W.facts.length
def rng (n : Nat) : List Int := (List.range n).map Int.ofNat
theorem rng_get {n i : Nat} (h : i < n) : (rng n)[i]? = some (i : Int) := by
  unfold rng
  rw [List.getElem?_map, List.getElem?_range h]
  rfl
theorem rng_len (n : Nat) : (rng n).length = n := by unfold rng; rw [List.length_map, List.length_range]
theorem rng_mem {n : Nat} {x : Int} : x ∈ rng n ↔ 0 ≤ x ∧ x < n := by
  unfold rng
  rw [List.mem_map]
  constructor
  · rintro ⟨a, h, rfl⟩
    have := List.mem_range.mp h
    exact ⟨Int.natCast_nonneg a, Int.ofNat_lt.mpr this⟩
  · rintro ⟨h1, h2⟩
    exact ⟨x.toNat, List.mem_range.mpr (by omega), Int.toNat_of_nonneg h1⟩
theorem rng_succ (n : Nat) : rng (n + 1) = rng n ++ [(n : Int)] := by
  unfold rng
  rw [List.range_succ, List.map_append]
  rfl
theorem rng_take {n i : Nat} (h : i ≤ n) : (rng n).take i = rng i := by
  unfold rng
  rw [← List.map_take, List.take_range, Nat.min_eq_left h]
/-- the facts of a state -/
def Wd.at (W : Wd) (s : Int) : List Int := (W.facts[s.toNat]?).getD []
def Wd.beh (W : Wd) (s l : Int) : List Int := (W.steps.filter fun p => decide (p.1 = s) && decide (p.2.1 = l)).map fun p => p.2.2
/-- each step leads to a state -/
def Wd.Good (W : Wd) : Prop := ∀ p ∈ W.steps, 0 ≤ p.2.2 ∧ p.2.2 < W.n
def sIn (X : List Int) (s : Int) : Bool := decide (s ∈ X)
def flt (n : Nat) (p : Int → Bool) : List Int := (rng n).filter p
def setE (e : Int → List Int) (x : Int) (X : List Int) : Int → List Int := fun y => if y = x then X else e y
def iter (f : List Int → List Int) : Nat → List Int → List Int
  | 0, X => X
  | k + 1, X => f (iter f k X)
def val (W : Wd) : F → (Int → List Int) → List Int
  | .nul b, _ => if b = true then rng W.n else []
  | .leaf .has n, _ => flt W.n fun s => sIn (W.at s) n
  | .leaf .lacks n, _ => flt W.n fun s => !sIn (W.at s) n
  | .leaf .var x, e => e x
  | .two b f g, e => if b = true then flt W.n (fun s => sIn (val W g e) s && sIn (val W f e) s) else flt W.n (fun s => sIn (val W g e) s || sIn (val W f e) s)
  | .one .some l f, e => flt W.n fun s => decide (0 < (((W.beh s l).filter (sIn (val W f e))).length : Int))
  | .one .all l f, e => flt W.n fun s => decide ((((W.beh s l).filter (fun k => !sIn (val W f e) k)).length : Int) = 0)
  | .one .least x f, e => iter (fun X => val W f (setE e x X)) (W.n + 1) []
  | .one .most x f, e => iter (fun X => val W f (setE e x X)) (W.n + 1) (rng W.n)
/-- the others -/
def co (n : Nat) (X : List Int) : List Int := flt n fun s => !sIn X s
theorem flt_congr {n : Nat} {p q : Int → Bool} (h : ∀ s : Int, 0 ≤ s → s < (n : Int) → p s = q s) : flt n p = flt n q :=
  List.filter_congr fun s hs => h s (rng_mem.mp hs).1 (rng_mem.mp hs).2
theorem sIn_flt {n : Nat} {p : Int → Bool} {s : Int} (h0 : 0 ≤ s) (h1 : s < (n : Int)) : sIn (flt n p) s = p s := by
  unfold sIn flt
  cases e : p s with
  | true => exact decide_eq_true (List.mem_filter.mpr ⟨rng_mem.mpr ⟨h0, h1⟩, e⟩)
  | false => exact decide_eq_false fun h => by rw [(List.mem_filter.mp h).2] at e; cases e
theorem co_flt {n : Nat} {p : Int → Bool} : co n (flt n p) = flt n fun s => !p s := flt_congr fun s h0 h1 => by rw [sIn_flt h0 h1]
theorem sIn_co {n : Nat} {X : List Int} {s : Int} (h0 : 0 ≤ s) (h1 : s < (n : Int)) : sIn (co n X) s = !sIn X s := sIn_flt h0 h1
theorem rng_flt (n : Nat) : rng n = flt n fun _ => true := (List.filter_eq_self.mpr fun _ _ => rfl).symm
theorem co_rng (n : Nat) : co n (rng n) = [] := by
  rw [rng_flt, co_flt]
  exact List.filter_eq_nil_iff.mpr fun _ _ h => by cases h
theorem co_nil (n : Nat) : co n [] = rng n := by
  unfold co
  rw [rng_flt]
  exact flt_congr fun s _ _ => rfl
theorem setE_co {n : Nat} {e : Int → List Int} {x : Int} {X : List Int} : setE (fun y => co n (e y)) x (co n X) = fun y => co n (setE e x X y) := by
  funext y
  unfold setE
  by_cases h : y = x
  · rw [if_pos h, if_pos h]
  · rw [if_neg h, if_neg h]
theorem iter_co {n : Nat} {f g : List Int → List Int} (h : ∀ X, g (co n X) = co n (f X)) : ∀ (k : Nat) (X : List Int), iter g k (co n X) = co n (iter f k X)
  | 0, X => rfl
  | k + 1, X => by
    show g (iter g k (co n X)) = co n (f (iter f k X))
    rw [iter_co h k X, h]
theorem val_opp {W : Wd} (G : W.Good) : ∀ (t : F) (e : Int → List Int), val W (opp t) (fun y => co W.n (e y)) = co W.n (val W t e)
  | .nul b, e => by
    cases b
    · show (if true = true then rng W.n else []) = co W.n (if false = true then rng W.n else [])
      rw [if_pos rfl, if_neg Bool.false_ne_true, co_nil]
    · show (if false = true then rng W.n else []) = co W.n (if true = true then rng W.n else [])
      rw [if_pos rfl, if_neg Bool.false_ne_true, co_rng]
  | .leaf .has n, e => by
    show flt W.n _ = co W.n (flt W.n _)
    rw [co_flt]
  | .leaf .lacks n, e => by
    show flt W.n _ = co W.n (flt W.n _)
    rw [co_flt]
    exact flt_congr fun s _ _ => (Bool.not_not _).symm
  | .leaf .var x, e => rfl
  | .two b f g, e => by
    cases b
    · show (if true = true then _ else _) = co W.n (if false = true then _ else _)
      rw [if_pos rfl, if_neg Bool.false_ne_true, co_flt, val_opp G f e, val_opp G g e]
      exact flt_congr fun s h0 h1 => by rw [sIn_co h0 h1, sIn_co h0 h1, Bool.not_or]
    · show (if false = true then _ else _) = co W.n (if true = true then _ else _)
      rw [if_pos rfl, if_neg Bool.false_ne_true, co_flt, val_opp G f e, val_opp G g e]
      exact flt_congr fun s h0 h1 => by rw [sIn_co h0 h1, sIn_co h0 h1, Bool.not_and]
  | .one .some l f, e => by
    show flt W.n _ = co W.n (flt W.n _)
    rw [co_flt, val_opp G f e]
    refine flt_congr fun s h0 h1 => ?_
    have : (W.beh s l).filter (fun k => !sIn (co W.n (val W f e)) k) = (W.beh s l).filter (sIn (val W f e)) := by
      refine List.filter_congr fun k hk => ?_
      obtain ⟨p, hp, rfl⟩ := List.mem_map.mp hk
      have := G p (List.mem_filter.mp hp).1
      rw [sIn_co this.1 this.2, Bool.not_not]
    rw [this, ← decide_not]
    exact decide_eq_decide.mpr ⟨fun h => by omega, fun h => by omega⟩
  | .one .all l f, e => by
    show flt W.n _ = co W.n (flt W.n _)
    rw [co_flt, val_opp G f e]
    refine flt_congr fun s h0 h1 => ?_
    have : (W.beh s l).filter (sIn (co W.n (val W f e))) = (W.beh s l).filter (fun k => !sIn (val W f e) k) := by
      refine List.filter_congr fun k hk => ?_
      obtain ⟨p, hp, rfl⟩ := List.mem_map.mp hk
      have := G p (List.mem_filter.mp hp).1
      rw [sIn_co this.1 this.2]
    rw [this, ← decide_not]
    exact decide_eq_decide.mpr ⟨fun h => by omega, fun h => by omega⟩
  | .one .least x f, e => by
    show iter (fun X => val W (opp f) (setE (fun y => co W.n (e y)) x X)) (W.n + 1) (rng W.n) = co W.n (iter (fun X => val W f (setE e x X)) (W.n + 1) [])
    rw [← co_nil, iter_co (f := fun X => val W f (setE e x X))]
    exact fun X => by rw [setE_co, val_opp G f]
  | .one .most x f, e => by
    show iter (fun X => val W (opp f) (setE (fun y => co W.n (e y)) x X)) (W.n + 1) [] = co W.n (iter (fun X => val W f (setE e x X)) (W.n + 1) (rng W.n))
    rw [← co_rng W.n, iter_co (f := fun X => val W f (setE e x X))]
    exact fun X => by rw [setE_co, val_opp G f]
/-- all values are ranks of states -/
theorem val_in {W : Wd} : ∀ (t : F) (e : Int → List Int), (∀ x ∈ fv t, (e x).length ≤ W.n) → (val W t e).length ≤ W.n
  | .nul b, e, h => by
    show (if b = true then rng W.n else []).length ≤ _
    split
    · rw [rng_len]; exact Nat.le_refl _
    · exact Nat.zero_le _
  | .leaf .has n, e, h => Nat.le_trans (List.length_filter_le _ _) (by rw [rng_len]; exact Nat.le_refl _)
  | .leaf .lacks n, e, h => Nat.le_trans (List.length_filter_le _ _) (by rw [rng_len]; exact Nat.le_refl _)
  | .leaf .var x, e, h => h x (List.mem_singleton.mpr rfl)
  | .two b f g, e, h => by
    show (if b = true then flt _ _ else flt _ _).length ≤ _
    split <;> exact Nat.le_trans (List.length_filter_le _ _) (by rw [rng_len]; exact Nat.le_refl _)
  | .one .some l f, e, h => Nat.le_trans (List.length_filter_le _ _) (by rw [rng_len]; exact Nat.le_refl _)
  | .one .all l f, e, h => Nat.le_trans (List.length_filter_le _ _) (by rw [rng_len]; exact Nat.le_refl _)
  | .one .least x f, e, h => iter_in (fun X hX => val_in f _ fun y hy => setE_in (fv_one rfl) h hX y hy) _ _ (Nat.zero_le _)
  | .one .most x f, e, h => iter_in (fun X hX => val_in f _ fun y hy => setE_in (fv_one rfl) h hX y hy) _ _ (by rw [rng_len]; exact Nat.le_refl _)
where
  iter_in {n : Nat} {f : List Int → List Int} (hf : ∀ X, X.length ≤ n → (f X).length ≤ n) : ∀ (k : Nat) (X : List Int), X.length ≤ n → (iter f k X).length ≤ n
    | 0, X, h => h
    | k + 1, X, h => hf _ (iter_in hf k X h)
  fv_one {k : One} {x : Int} {f : F} (hk : k.bind = true) : ∀ y ∈ fv f, y ≠ x → y ∈ fv (.one k x f) := fun y hy hn => by
    simp only [fv, if_pos hk, List.mem_filter, decide_eq_true_eq]
    exact ⟨hy, hn⟩
  setE_in {n : Nat} {e : Int → List Int} {x : Int} {X : List Int} {A B : List Int} (hs : ∀ y ∈ A, y ≠ x → y ∈ B) (h : ∀ y ∈ B, (e y).length ≤ n) (hX : X.length ≤ n) : ∀ y ∈ A, (setE e x X y).length ≤ n := fun y hy => by
    unfold setE
    by_cases c : y = x
    · rw [if_pos c]; exact hX
    · rw [if_neg c]; exact h y (hs y hy c)
end Fw

set_option maxRecDepth 100000
set_option maxHeartbeats 4000000
/-! all of a generator expression over zip of two lists or two tuples. -/
namespace Fw
open PySem PySem.Spec PyProof.Rows L2 GxR
theorem walksU_zipL {prog : Program} {w : World} {A : Around} (hh : A.handled = none) {z TI TO i1 i2 l1 l2 : Addr} (D : ZipApart z TI TO i1 i2 l1 l2) (xs ys : Array Value) :
    WalksU prog w A z [z, TI, TO, i1, i2, l1, l2] [z, TO, i1, i2] (min xs.size ys.size)
      (fun i vals => ∃ x y, xs[i]? = some x ∧ ys[i]? = some y ∧ vals = #[x, y])
      (fun i h => IsZip h z TI TO .none ∧ IsPair h TI (.ref i1) (.ref i2) ∧ (∃ a b, IsPair h TO a b) ∧ h.IsListIter i1 l1 i ∧ h.IsListIter i2 l2 i ∧ h.IsList l1 xs ∧ h.IsList l2 ys)
      (fun i T h => IsZip h z TI TO (rawInt T) ∧ IsPair h TI (.ref i1) (.ref i2) ∧ (∃ a b, IsPair h TO a b) ∧ h.IsListIter i1 l1 (i + 1) ∧ h.IsListIter i2 l2 (i + 1) ∧ h.IsList l1 xs ∧ h.IsList l2 ys ∧
        T ≠ z ∧ T ≠ TO ∧ T ≠ i1 ∧ T ≠ i2) := (WalksT.zip2 hh z TI TO i1 i2 l1 l2 D xs ys).toU
theorem isTuple_at {h h' : Heap} {a : Addr} {xs : Array Value} (x : h.IsTuple a xs) (k : ∀ o, h.get? a = some o → h'.get? a = some o) : h'.IsTuple a xs := let ⟨o, e, r⟩ := x; ⟨o, k o e, r⟩
theorem walksU_zipT {prog : Program} {w : World} {A : Around} (hh : A.handled = none) {z TI TO i1 i2 l1 l2 : Addr} (D : ZipApart z TI TO i1 i2 l1 l2) (xs ys : Array Value) :
    WalksU prog w A z [z, TI, TO, i1, i2, l1, l2] [z, TO, i1, i2] (min xs.size ys.size)
      (fun i vals => ∃ x y, xs[i]? = some x ∧ ys[i]? = some y ∧ vals = #[x, y])
      (fun i h => IsZip h z TI TO .none ∧ IsPair h TI (.ref i1) (.ref i2) ∧ (∃ a b, IsPair h TO a b) ∧ h.IsTupleIter i1 l1 i ∧ h.IsTupleIter i2 l2 i ∧ h.IsTuple l1 xs ∧ h.IsTuple l2 ys)
      (fun i T h => IsZip h z TI TO (rawInt T) ∧ IsPair h TI (.ref i1) (.ref i2) ∧ (∃ a b, IsPair h TO a b) ∧ h.IsTupleIter i1 l1 (i + 1) ∧ h.IsTupleIter i2 l2 (i + 1) ∧ h.IsTuple l1 xs ∧ h.IsTuple l2 ys ∧
        T ≠ z ∧ T ≠ TO ∧ T ≠ i1 ∧ T ≠ i2) where
  sub := fun c hc => by simp at hc ⊢; rcases hc with rfl | rfl | rfl | rfl <;> simp
  frame := fun i h h' hst hk => by
    obtain ⟨hz, hTI, ⟨a, b, hTO⟩, h1, h2, hl1, hl2⟩ := hst
    exact ⟨hk z (by simp) _ hz, hk TI (by simp) _ hTI, ⟨a, b, hk TO (by simp) _ hTO⟩, h1.at fun o e => hk i1 (by simp) o e, h2.at fun o e => hk i2 (by simp) o e,
      isTuple_at hl1 fun o e => hk l1 (by simp) o e, isTuple_at hl2 fun o e => hk l2 (by simp) o e⟩
  item := fun i s Q E hi hst hQ => by
    obtain ⟨hz, hTI, ⟨a, b, hTO⟩, h1, h2, hl1, hl2⟩ := hst
    have hix : i < xs.size := Nat.lt_of_lt_of_le hi (Nat.min_le_left ..)
    have hiy : i < ys.size := Nat.lt_of_lt_of_le hi (Nat.min_le_right ..)
    refine RZ.pyNext_zipT_item D hz hTI hTO h1 h2 hl1 hl2 (Array.getElem?_eq_getElem hix) (Array.getElem?_eq_getElem hiy) fun h' a1 a2 a3 a4 a5 a6 hk => ?_
    have lt : ∀ {c o}, s.heap.get? c = some o → s.heap.objs.size ≠ c := fun e => Nat.ne_of_gt (Heap.lt_size e)
    exact hQ s.heap.objs.size #[xs[i], ys[i]] h' s.toks ⟨_, _, Array.getElem?_eq_getElem hix, Array.getElem?_eq_getElem hiy, rfl⟩ ⟨_, a5, rfl, _, rfl⟩
      ⟨a1, hk _ _ D.TIz D.TITO D.TIi1 D.TIi2 hTI, ⟨_, _, a2⟩, a3, a4, isTuple_at hl1 fun o e => hk _ o D.l1z D.l1TO D.l1i1 D.l1i2 e, isTuple_at hl2 fun o e => hk _ o D.l2z D.l2TO D.l2i1 D.l2i2 e,
        lt hz, lt hTO, (by obtain ⟨_, e, _⟩ := h1; exact lt e), (by obtain ⟨_, e, _⟩ := h2; exact lt e)⟩
      fun c o hc e => hk c o (fun x => hc (by simp [x])) (fun x => hc (by simp [x])) (fun x => hc (by simp [x])) (fun x => hc (by simp [x])) e
  go := fun elts k pos i T s Q E hm hQ => by
    obtain ⟨hz, hTI, ⟨a, b, hTO⟩, h1, h2, hl1, hl2, _⟩ := hm
    refine wpAny_letOwnedTupleGo_zip hz fun h' hz' hs' => hQ h' ⟨hz', hs'.extBut _ _ D.TIz hTI, ⟨a, b, hs'.extBut _ _ D.TOz hTO⟩, h1.at fun o e => hs'.extBut _ _ D.i1z e, h2.at fun o e => hs'.extBut _ _ D.i2z e,
      isTuple_at hl1 fun o e => hs'.extBut _ _ D.l1z e, isTuple_at hl2 fun o e => hs'.extBut _ _ D.l2z e⟩ fun c o hc e => hs'.extBut _ _ (fun x => hc (by simp [x])) e
  apart := fun i T h hm hT => by
    obtain ⟨_, _, _, _, _, _, _, t1, t2, t3, t4⟩ := hm
    simp at hT
    rcases hT with rfl | rfl | rfl | rfl
    · exact t1 rfl
    · exact t2 rfl
    · exact t3 rfl
    · exact t4 rfl
  done := fun s Q E hst hQ => by
    obtain ⟨hz, hTI, ⟨a, b, hTO⟩, h1, h2, hl1, hl2⟩ := hst
    have hend : xs[min xs.size ys.size]? = none ∨ ys[min xs.size ys.size]? = none := by
      rcases Nat.le_total xs.size ys.size with h | h
      · exact .inl (by rw [Nat.min_eq_left h]; exact Array.getElem?_eq_none (Nat.le_refl _))
      · exact .inr (by rw [Nat.min_eq_right h]; exact Array.getElem?_eq_none (Nat.le_refl _))
    exact RZ.pyNext_zipT_end hh D hz hTI hTO h1 h2 hl1 hl2 hend fun h' hk => hQ h' s.toks fun c o hc e =>
      hk c o (fun x => hc (by simp [x])) (fun x => hc (by simp [x])) (fun x => hc (by simp [x])) (fun x => hc (by simp [x])) e
  self := fun i s Q E hst hQ => wpAny_pyIter_zip hst.1 hQ
theorem vals_get : ∀ {xs : List V} {us : List Value} {j : Nat} {u : Value}, Vals xs us → us[j]? = some u → ∃ x, xs[j]? = some x ∧ RelV x u
  | _, _, 0, _, .cons r _, e => by
    simp at e
    subst e
    exact ⟨_, rfl, r⟩
  | _, _, j + 1, _, .cons _ rr, e => by
    simp at e
    obtain ⟨x, hx, r⟩ := vals_get rr e
    exact ⟨x, by simpa using hx, r⟩
/-- the generator expression's own scope, two names -/
structure GenS2 (env : Env) (scope : Scope) (xa xb : Str) : Prop where
  kind : scope.kind = .function
  co : scope.isCoroutine = false
  cell : ∀ y ∈ scope.names, y.2 ≠ .cell
  dot : scope.names.lookup (".0" : Str) = some NameKind.local
  la : scope.names.lookup xa = some .local
  lb : scope.names.lookup xb = some .local
  free : ∀ y ∈ scope.names, y.2 = .free → ∃ c, env.cells.lookup y.1 = some c
/-- the element at two values: a test whose outcome is r -/
def EltZ (prog : Program) (w : World) (scope : Scope) (xa xb : Str) (elt : Expr) (U : Nat) (hb : Heap) (P : Addr) (x y : V) (r : Bool) : Prop :=
  ∀ (cenv : Env) (A' : Around) (E' : Value → Shared → Prop) (va vb : Value) (s₂ : Shared) (m₂ : Str → Option Value), cenv.scope = scope → A'.units ≤ U → s₂.heap.Ns cenv.locals m₂ → m₂ xa = some va → m₂ xb = some vb → RelV x va → RelV y vb →
    (∀ b o, b ≠ P → hb.get? b = some o → s₂.heap.get? b = some o) → wpAny (model prog w) A' (eval elt cenv) (fun v s₃ => v = .bool r ∧ Keeps s₂ s₃) E' s₂
def ReadyZ (X : Cx) (pins : List (Addr × Obj)) (σ : L2.St) (H1 : Hp) (P : Addr) (rs : List Bool) (g : Addr) (s5 : Shared) : Prop :=
  ∃ (fp wr : List Addr) (G : Array GenState → Array GenState → Prop) (n : Nat) (F : Nat → Value → Prop) (St : Nat → Shared → Prop),
    n = rs.length ∧ WalksS X.prog X.w X.A.in1 g fp wr G n F St ∧ St 0 s5 ∧
    TruthOf X.prog X.w X.A.in1 F (fun j => (rs[j]?).getD false) ∧
    ∀ s', Moved wr G s5 s' → ∃ H2, Tabbed P H1 H2 ∧ Inv X pins σ H2 s'
section
variable {X : Cx} {pins : List (Addr × Obj)} {σ : L2.St} {H : Hp} {s : Shared}
/-- what the test does at each pair, in any heap like H1 -/
def EltsZ (X : Cx) (scope : Scope) (xa xb : Str) (elt : Expr) (P : Addr) (H1 : Hp) (xs ys : List V) (rs : List Bool) : Prop :=
  rs.length = min xs.length ys.length ∧ ∀ (s : Shared) (pins : List (Addr × Obj)) (σ : L2.St), Inv X pins σ H1 s → ∀ (i : Nat) (x y : V) (r : Bool), xs[i]? = some x → ys[i]? = some y → rs[i]? = some r → EltZ X.prog X.w scope xa xb elt (X.A.units + 8) s.heap P x y r
theorem gen_zip {c P : Addr} {elt e e2 : Expr} {xa xb : Str} {pa pb pt pz cpos gpos : Pos} {kt : Nat} {scope : Scope} {ta : TA} {k : Nat} {Q' : Value → Shared → Prop} {R : List Bool → Hp → Prop}
    (hr : Room k X.A) (TB : TabB X.base X.mg c P) (hcode : X.env.code = .ref c) (S : GenS2 X.env scope xa xb) (hab : xa ≠ xb) (hg : Gl X "zip") (hm : X.mg "zip" = none) (ha : PA X [e, e2] ta)
    (hse : starEach [e, e2] X.env = (false, eval e X.env) :: starEach [e2] X.env) (hpl : (backTo cpos (starEach [e2] X.env)).any (·.1) = false)
    (hs : ∀ v, genFold (.Call (.Name "zip" pz) [e, e2] [] cpos) X.env v = pure v) (I : Inv X pins σ H s)
    (h : ta σ H fun vs H1 => ∃ a b xs ys rs, vs = [.ref a, .ref b] ∧ ((SqL X.K H1 a xs ∧ SqL X.K H1 b ys) ∨ (SqT X.K H1 a xs ∧ SqT X.K H1 b ys)) ∧ TabG H1 P ∧ EltsZ X scope xa xb elt P H1 xs ys rs ∧ R rs H1)
    (hQ : ∀ rs H1 g s5, R rs H1 → ReadyZ X pins σ H1 P rs g s5 → Q' (.ref g) s5) :
    wpAny (model X.prog X.w) X.A (eval (.GeneratorExp elt [⟨.Tuple [.Name xa pa, .Name xb pb] kt pt, .Call (.Name "zip" pz) [e, e2] [] cpos, [], 0⟩] scope gpos) X.env) Q' X.xe s := by
  refine wpAny_GeneratorExp_walksQTD hr.hd S.co (closure_ok S.free) S.cell S.dot S.la S.lb hab S.kind (by have := hr.dp; omega) ?_ hs
  refine Call_ (ld_blt I hg hm PyProof.Rows.boot_zip (PyProof.Rows.callWith_type1 (thn (ha.run cpos pins s σ H _ I h) fun us s1 ⟨vs, H1, I1, r1, q1⟩ => ?_) hse hpl))
  obtain ⟨a, b, xs, ys, rs, ex, hab2, ⟨ps, hP, ht⟩, ⟨hlen, hel⟩, q1⟩ := q1
  subst ex
  cases r1 with
  | cons r rr =>
  cases rr with
  | cons r' rr =>
  cases rr
  cases r
  cases r'
  have hPs : s1.heap.get? P = some { cls := .none, data := .fields ps } := I1.hok P _ hP
  have hPlt : P < s1.heap.objs.size := Heap.lt_size hPs
  -- from the zip object on, over lists or over tuples
  have go : ∀ (h' : Heap) (its its2 : List Value) (St₀ : Nat → Heap → Prop) (Mid : Nat → Addr → Heap → Prop), Vals xs its → Vals ys its2 → (∀ c o, s1.heap.get? c = some o → h'.get? c = some o) → h'.objs.size = s1.heap.objs.size + 5 →
      a < s1.heap.objs.size → b < s1.heap.objs.size → a ≠ P → b ≠ P →
      (∀ A' : Around, A'.handled = none → WalksU X.prog X.w A' (s1.heap.objs.size + 4) [s1.heap.objs.size + 4, s1.heap.objs.size + 2, s1.heap.objs.size + 3, s1.heap.objs.size, s1.heap.objs.size + 1, a, b] [s1.heap.objs.size + 4, s1.heap.objs.size + 3, s1.heap.objs.size, s1.heap.objs.size + 1] (min its.toArray.size its2.toArray.size)
        (fun i vals => ∃ x y, its.toArray[i]? = some x ∧ its2.toArray[i]? = some y ∧ vals = #[x, y]) St₀ Mid) → St₀ 0 h' →
      { s1 with heap := h' }.heap.NoLimit ∧
      wpAny (model X.prog X.w) X.A (genexprCode X.env gpos (X.env.qual ++ "<genexpr>") scope) (fun code s₃ => wpAny (model X.prog X.w) X.A (builtinsFor X.env.globals X.env.builtins) (fun bi s₄ =>
        ∃ Ia fp wr n₀ Pt St₀ Mid pz F, Value.ref (s1.heap.objs.size + 4) = .ref Ia ∧ (∀ A' : Around, A'.handled = none → WalksU X.prog X.w A' Ia fp wr n₀ Pt St₀ Mid) ∧ (∀ i vals, Pt i vals → ∃ va vb, vals = #[va, vb]) ∧ St₀ 0 s₄.heap ∧ (∀ b ∈ fp, b < s₄.heap.objs.size) ∧ s₄.heap.NoLimit ∧ cStatics ∉ wr ∧
          (∀ href : Heap, (∀ b o, s₄.heap.get? b = some o → href.get? b = some o) →
            QuietGenTD X.prog X.w (genEnv scope (cloFrom X.env.cells scope.names []) s₄.heap.objs.size code bi X.env) xa xb [] elt (List.range s₄.heap.objs.size) wr Pt pz F href (X.A.depth + 1) (X.A.units + 8)) ∧
          (∀ a h₅ tk gs, gs.bare = true → s₄.heap.objs.size < a → h₅.objs.size = a + 1 → (∀ b o, s₄.heap.get? b = some o → h₅.get? b = some o) →
            WalksS X.prog X.w X.A.in4 a (a :: s₄.heap.objs.size :: List.range s₄.heap.objs.size) (s₄.heap.objs.size :: wr) (GenOnlyQ s₄.gens.size) (passing pz n₀ 0).length
              (fun j y => ∃ i, (passing pz n₀ 0)[j]? = some i ∧ F i y) (GenAt X.prog X.w X.A.in4 a s₄.gens.size s₄.heap.objs.size (List.range s₄.heap.objs.size) wr pz n₀ F) →
            GenAt X.prog X.w X.A.in4 a s₄.gens.size s₄.heap.objs.size (List.range s₄.heap.objs.size) wr pz n₀ F 0 { s₄ with gens := s₄.gens.push gs, toks := tk, heap := h₅ } →
            Q' (.ref a) { s₄ with gens := s₄.gens.push gs, toks := tk, heap := h₅ })) X.xe s₃) X.xe { s1 with heap := h' } := by
    intro h' its its2 St Mid rv rv2 hk hsz' la lb aP bP W hst
    have l1 := rv.length
    have l2 := rv2.length
    have hP2 : h'.get? P = some { cls := .none, data := .fields ps } := hk _ _ hPs
    have cd : PySem.W.CodeHd h' c P := TB.code.keeps fun b u e => hk _ _ (I1.bk b u e)
    have lim2 : h'.NoLimit := I1.nolimit.keeps hk
    have cont : ∀ (code : Value) (h3 : Heap) (tk : Nat) (ps' : Array Value), Heap.ExtBut P h' h3 → h'.objs.size ≤ h3.objs.size → h3.get? P = some { cls := .none, data := .fields ps' } → (∃ more, ps' = ps ++ more) → TriplesOk ps'.toList →
        wpAny (model X.prog X.w) X.A (builtinsFor X.env.globals X.env.builtins) (fun bi s₄ =>
          ∃ Ia fp wr n₀ Pt St₀ Mid pz F, Value.ref (s1.heap.objs.size + 4) = .ref Ia ∧ (∀ A' : Around, A'.handled = none → WalksU X.prog X.w A' Ia fp wr n₀ Pt St₀ Mid) ∧ (∀ i vals, Pt i vals → ∃ va vb, vals = #[va, vb]) ∧ St₀ 0 s₄.heap ∧ (∀ b ∈ fp, b < s₄.heap.objs.size) ∧ s₄.heap.NoLimit ∧ cStatics ∉ wr ∧
          (∀ href : Heap, (∀ b o, s₄.heap.get? b = some o → href.get? b = some o) →
            QuietGenTD X.prog X.w (genEnv scope (cloFrom X.env.cells scope.names []) s₄.heap.objs.size code bi X.env) xa xb [] elt (List.range s₄.heap.objs.size) wr Pt pz F href (X.A.depth + 1) (X.A.units + 8)) ∧
          (∀ a h₅ tk gs, gs.bare = true → s₄.heap.objs.size < a → h₅.objs.size = a + 1 → (∀ b o, s₄.heap.get? b = some o → h₅.get? b = some o) →
            WalksS X.prog X.w X.A.in4 a (a :: s₄.heap.objs.size :: List.range s₄.heap.objs.size) (s₄.heap.objs.size :: wr) (GenOnlyQ s₄.gens.size) (passing pz n₀ 0).length
              (fun j y => ∃ i, (passing pz n₀ 0)[j]? = some i ∧ F i y) (GenAt X.prog X.w X.A.in4 a s₄.gens.size s₄.heap.objs.size (List.range s₄.heap.objs.size) wr pz n₀ F) →
            GenAt X.prog X.w X.A.in4 a s₄.gens.size s₄.heap.objs.size (List.range s₄.heap.objs.size) wr pz n₀ F 0 { s₄ with gens := s₄.gens.push gs, toks := tk, heap := h₅ } →
            Q' (.ref a) { s₄ with gens := s₄.gens.push gs, toks := tk, heap := h₅ })) X.xe { s1 with heap := h3, toks := tk } := by
      intro code h3 tk ps' hx hsz hP3 hmore ht3
      obtain ⟨bm, ob, e1, e2, e3, e4, e5, e6, e7, e8⟩ := TB.bm
      have hcP : cStatics ≠ P := fun e => by
        obtain ⟨_, hns, _⟩ := I1.nolimit
        obtain ⟨o', es, ep, ho, hd, _⟩ := hns
        rw [e, hPs] at ho
        cases ho
        cases hd
      have hcl : cStatics < s1.heap.objs.size := let ⟨_, hns, _⟩ := I1.nolimit; hns.lt
      have keep3 : ∀ b u, b ≠ P → s1.heap.get? b = some u → h3.get? b = some u := fun b u hb e => hx b u hb (hk _ _ e)
      refine wpAny_builtinsFor (m := X.mg) (by rw [I1.ok.glob]; exact ((I1.mod.glob.keeps I1.bk).keeps hk).extBut hx TB.gP) e1 e2 (keep3 _ _ e4 (I1.bk _ _ e5)) e6 e7 e8 ?_
      refine ⟨s1.heap.objs.size + 4, _, _, _, _, St, Mid, (fun _ => true), (fun i y => ∃ r, rs[i]? = some r ∧ y = .bool r), rfl, W, ?_, ?_, ?_, lim2.extBut hx hcP, ?_, ?_, ?_⟩
      · rintro i vals ⟨x, y, _, _, e⟩
        exact ⟨x, y, e⟩
      · refine (W X.A hr.hd).frame _ _ _ hst fun b' hb u e => hx b' u (fun z => ?_) e
        have : b' = s1.heap.objs.size + 4 ∨ b' = s1.heap.objs.size + 2 ∨ b' = s1.heap.objs.size + 3 ∨ b' = s1.heap.objs.size ∨ b' = s1.heap.objs.size + 1 ∨ b' = a ∨ b' = b := by simpa using hb
        rw [z] at this
        rcases this with q | q | q | q | q | q | q
        · exact absurd hPlt (by rw [q]; exact Nat.not_lt.mpr (Nat.le_add_right _ _))
        · exact absurd hPlt (by rw [q]; exact Nat.not_lt.mpr (Nat.le_add_right _ _))
        · exact absurd hPlt (by rw [q]; exact Nat.not_lt.mpr (Nat.le_add_right _ _))
        · exact absurd hPlt (by rw [q]; exact Nat.lt_irrefl _)
        · exact absurd hPlt (by rw [q]; exact Nat.not_lt.mpr (Nat.le_add_right _ _))
        · exact aP q.symm
        · exact bP q.symm
      · intro b' hb
        show b' < h3.objs.size
        have : b' = s1.heap.objs.size + 4 ∨ b' = s1.heap.objs.size + 2 ∨ b' = s1.heap.objs.size + 3 ∨ b' = s1.heap.objs.size ∨ b' = s1.heap.objs.size + 1 ∨ b' = a ∨ b' = b := by simpa using hb
        refine Nat.lt_of_lt_of_le ?_ (Nat.le_trans (Nat.le_of_eq hsz'.symm) hsz)
        rcases this with q | q | q | q | q | q | q
        · rw [q]; exact Nat.add_lt_add_left (by decide) _
        · rw [q]; exact Nat.add_lt_add_left (by decide) _
        · rw [q]; exact Nat.add_lt_add_left (by decide) _
        · rw [q]; exact Nat.lt_add_of_pos_right (by decide)
        · rw [q]; exact Nat.add_lt_add_left (by decide) _
        · rw [q]; exact Nat.lt_of_lt_of_le la (Nat.le_add_right _ _)
        · rw [q]; exact Nat.lt_of_lt_of_le lb (Nat.le_add_right _ _)
      · intro z
        have : cStatics = s1.heap.objs.size + 4 ∨ cStatics = s1.heap.objs.size + 3 ∨ cStatics = s1.heap.objs.size ∨ cStatics = s1.heap.objs.size + 1 := by simpa using z
        rcases this with q | q | q | q
        · exact absurd hcl (by rw [q]; exact Nat.not_lt.mpr (Nat.le_add_right _ _))
        · exact absurd hcl (by rw [q]; exact Nat.not_lt.mpr (Nat.le_add_right _ _))
        · exact absurd hcl (by rw [q]; exact Nat.lt_irrefl _)
        · exact absurd hcl (by rw [q]; exact Nat.not_lt.mpr (Nat.le_add_right _ _))
      · intro href hhref
        refine ⟨fun A' E' i va vb s₂ m₂ hA _ _ hPv hn hma hmb hkk => ?_, fun A' E' i va vb s₂ m₂ hA _ hu hPv hp hn hma hmb hkk => ?_⟩
        · simp only [List.forIn_nil]
          exact wpAny_pure ⟨rfl, keeps_refl _⟩
        · obtain ⟨x, y, hx', hy', ee⟩ := hPv
          have ea : va = x := by have := congrArg (fun z => z[0]?) ee; simpa using this
          have eb : vb = y := by have := congrArg (fun z => z[1]?) ee; simpa using this
          subst ea eb
          have hx2 : its[i]? = some va := by simpa using hx'
          have hy2 : its2[i]? = some vb := by simpa using hy'
          obtain ⟨x, hxx, rx⟩ := vals_get rv hx2
          obtain ⟨y, hyy, ry⟩ := vals_get rv2 hy2
          have hi : i < rs.length := by
            have h1 := (List.getElem?_eq_some_iff.mp hxx).1
            have h2 := (List.getElem?_eq_some_iff.mp hyy).1
            omega
          have hrr : rs[i]? = some rs[i] := List.getElem?_eq_getElem hi
          refine wpAny_mono (hel s1 pins σ I1 i x y _ hxx hyy hrr _ A' E' va vb s₂ m₂ rfl hu hn hma hmb rx ry fun b' o hb' e => ?_) (fun v s3 r => ⟨⟨_, hrr, r.1⟩, r.2⟩) fun _ _ e => e
          have e3 := keep3 b' o hb' e
          have lt := Heap.lt_size e
          refine hkk b' (List.mem_range.mpr (Nat.lt_of_lt_of_le lt (Nat.le_trans (by rw [hsz']; exact Nat.le_add_right _ _) hsz))) (fun hw => ?_) o (hhref _ _ e3)
          have : b' = s1.heap.objs.size + 4 ∨ b' = s1.heap.objs.size + 3 ∨ b' = s1.heap.objs.size ∨ b' = s1.heap.objs.size + 1 := by simpa using hw
          rcases this with q | q | q | q
          · exact absurd lt (by rw [q]; exact Nat.not_lt.mpr (Nat.le_add_right _ _))
          · exact absurd lt (by rw [q]; exact Nat.not_lt.mpr (Nat.le_add_right _ _))
          · exact absurd lt (by rw [q]; exact Nat.lt_irrefl _)
          · exact absurd lt (by rw [q]; exact Nat.not_lt.mpr (Nat.le_add_right _ _))
      · intro g h5 tk5 gs hgb hag hsz5 hk5 W5 hat
        simp only [GxR.passing_true, List.length_range] at W5
        have en : min its.toArray.size its2.toArray.size = rs.length := by rw [List.size_toArray, List.size_toArray, hlen, ← l1, ← l2]
        refine hQ rs H1 g _ q1 ⟨_, _, _, _, _, _, en, W5.in4_1, hat, ?_, fun s' hm => ?_⟩
        · intro j y sj Qj Ej hy hQj
          obtain ⟨i, hij, r, hrr, rfl⟩ := hy
          obtain ⟨hj, ej⟩ := List.getElem?_eq_some_iff.mp hij
          rw [List.getElem_range] at ej
          subst ej
          have hQ2 : Qj ((rs[j]?).getD false) sj := hQj
          rw [hrr] at hQ2
          exact wpAny_truthy_bool hQ2
        · obtain ⟨more, em⟩ := hmore
          have nwr : ∀ b' u, s1.heap.get? b' = some u → b' ∉ h3.objs.size :: [s1.heap.objs.size + 4, s1.heap.objs.size + 3, s1.heap.objs.size, s1.heap.objs.size + 1] := fun b' u e hb => by
            have hl := Heap.lt_size e
            have : b' = h3.objs.size ∨ b' = s1.heap.objs.size + 4 ∨ b' = s1.heap.objs.size + 3 ∨ b' = s1.heap.objs.size ∨ b' = s1.heap.objs.size + 1 := by simpa using hb
            rcases this with q | q | q | q | q
            · exact absurd hl (by rw [q]; exact Nat.not_lt.mpr (Nat.le_trans (by rw [hsz']; exact Nat.le_add_right _ _) hsz))
            · exact absurd hl (by rw [q]; exact Nat.not_lt.mpr (Nat.le_add_right _ _))
            · exact absurd hl (by rw [q]; exact Nat.not_lt.mpr (Nat.le_add_right _ _))
            · exact absurd hl (by rw [q]; exact Nat.lt_irrefl _)
            · exact absurd hl (by rw [q]; exact Nat.not_lt.mpr (Nat.le_add_right _ _))
          have J := inv_tab (more := more) (h' := s'.heap) (g' := s'.gens) (d' := s'.drawn) (t' := s'.toks) I1 hP (fun b' u hb e => hm.heap b' u (nwr b' u e) (hk5 b' u (keep3 b' u hb e)))
            (by rw [← em]; exact hm.heap P _ (nwr P _ hPs) (hk5 P _ hP3)) (AllBare.movedS (I1.bare.push hgb) hm)
          rw [sh_eta s1 s' hm.os] at J
          exact ⟨upd H1 P (.tbl (ps ++ more)), ⟨⟨ps ++ more, upd_same, by rw [← em]; exact ht3⟩, fun b hb => upd_ne hb⟩, J⟩
    refine ⟨lim2, ?_⟩
    cases hf : codeAmong gpos ps.toList with
    | none =>
      refine wpAny_genexprCodeX hcode (cd.code hP2 ht) (cd.tab hP2) hf fun c' h'' tk hx hge hlt hco' _ htab' _ => ?_
      obtain ⟨o1, vs, f1, tf, fl, tg, inF, tx, tt, op, _, _, _, _, _, _, _, _, _, htr, _⟩ := hco'
      exact cont _ h'' tk _ hx (Nat.le_trans hge (Nat.le_of_lt hlt)) htab'.2 ⟨_, rfl⟩ htr
    | some cv =>
      refine wpAny_genexprCode_hit hcode (cd.code hP2 ht) hf ?_
      exact cont cv h' s1.toks ps (Heap.ExtBut.refl _ _) (Nat.le_refl _) hP2 ⟨#[], by simp⟩ ht
  rcases hab2 with ⟨hqx, hqy⟩ | ⟨hqx, hqy⟩
  · obtain ⟨its, rv, p1, _⟩ := I1.list hqx
    obtain ⟨its2, rv2, p2, _⟩ := I1.list hqy
    refine call_zip_2 p1.isList p2.isList fun h' hz hTI hTO h1 h2 hsz hk => wpAny_pyIter_zip hz ?_
    refine go h' its its2 _ _ rv rv2 hk hsz p1.lt p2.lt ?_ ?_ (fun A' hA => walksU_zipL hA (zipApart_new p1.lt p2.lt) _ _) ⟨hz, hTI, ⟨_, _, hTO⟩, h1, h2, Heap.IsList.at p1.isList (fun o e => hk _ o e), Heap.IsList.at p2.isList (fun o e => hk _ o e)⟩
    · intro e; subst e
      obtain ⟨o, ho, hc, _⟩ := p1.isList
      rw [hPs] at ho; cases ho; cases hc
    · intro e; subst e
      obtain ⟨o, ho, hc, _⟩ := p2.isList
      rw [hPs] at ho; cases ho; cases hc
  · obtain ⟨its, rv, p1, _⟩ := I1.tuple hqx
    obtain ⟨its2, rv2, p2, _⟩ := I1.tuple hqy
    obtain ⟨o1, ho1, hc1, _⟩ := id p1
    obtain ⟨o2, ho2, hc2, _⟩ := id p2
    refine RZ.call_zipT (show s1.heap.IsTuple a its.toArray from p1) (show s1.heap.IsTuple b its2.toArray from p2) fun h' hz hTI hTO h1 h2 hsz hk => wpAny_pyIter_zip hz ?_
    refine go h' its its2 _ _ rv rv2 hk hsz (Heap.lt_size ho1) (Heap.lt_size ho2) ?_ ?_ (fun A' hA => walksU_zipT hA (zipApart_new (Heap.lt_size ho1) (Heap.lt_size ho2)) _ _) ⟨hz, hTI, ⟨_, _, hTO⟩, h1, h2, isTuple_at p1 (fun o e => hk _ o e), isTuple_at p2 (fun o e => hk _ o e)⟩
    · intro e; subst e
      rw [hPs] at ho1; cases ho1; cases hc1
    · intro e; subst e
      rw [hPs] at ho2; cases ho2; cases hc2
theorem all_getD (rs : List Bool) : (List.range rs.length).all (fun j => (rs[j]?).getD false) = rs.all id := by
  rw [Bool.eq_iff_iff, List.all_eq_true, List.all_eq_true]
  constructor
  · intro h b hb
    obtain ⟨j, hj, e⟩ := List.getElem_of_mem hb
    have q := h j (List.mem_range.mpr hj)
    rw [List.getElem?_eq_getElem hj, e] at q
    exact q
  · intro h j hj
    have hj' := List.mem_range.mp hj
    rw [List.getElem?_eq_getElem hj']
    exact h _ (List.getElem_mem hj')
/-- all(test for a, b in zip(x, y)), x and y two lists or two tuples; behind it the def's table may have grown -/
def tAllZ (X : Cx) (scope : Scope) (xa xb : Str) (elt : Expr) (P : Addr) (ta : TA) : TE := fun σ H Q => ta σ H fun vs H1 => ∃ a b xs ys rs, vs = [.ref a, .ref b] ∧ ((SqL X.K H1 a xs ∧ SqL X.K H1 b ys) ∨ (SqT X.K H1 a xs ∧ SqT X.K H1 b ys)) ∧ TabG H1 P ∧
  EltsZ X scope xa xb elt P H1 xs ys rs ∧ ∀ H2, Tabbed P H1 H2 → Q (.bl (rs.all id)) H2
theorem pe_allZ {c P : Addr} {elt e e2 : Expr} {xa xb : Str} {pa pb pt pz p pos cpos gpos : Pos} {kt : Nat} {scope : Scope} {ta : TA} {k : Nat}
    (hr : Room k X.A) (TB : TabB X.base X.mg c P) (hcode : X.env.code = .ref c) (S : GenS2 X.env scope xa xb) (hab : xa ≠ xb) (hg : Gl X "all") (hm : X.mg "all" = none) (hgz : Gl X "zip") (hmz : X.mg "zip" = none) (ha : PA X [e, e2] ta)
    (hb : bootBuiltins "all" = some (.builtin "all") := by decide +kernel)
    (hse : starEach [e, e2] X.env = (false, eval e X.env) :: starEach [e2] X.env := by rfl) (hpl : (backTo cpos (starEach [e2] X.env)).any (·.1) = false := by rfl)
    (hs : ∀ v, genFold (.Call (.Name "zip" pz) [e, e2] [] cpos) X.env v = pure v := by intro _; rfl)
    (he : starEach [.GeneratorExp elt [⟨.Tuple [.Name xa pa, .Name xb pb] kt pt, .Call (.Name "zip" pz) [e, e2] [] cpos, [], 0⟩] scope gpos] X.env = (false, eval (.GeneratorExp elt [⟨.Tuple [.Name xa pa, .Name xb pb] kt pt, .Call (.Name "zip" pz) [e, e2] [] cpos, [], 0⟩] scope gpos) X.env) :: starEach [] X.env := by rfl) :
    PE X (.Call (.Name "all" p) [.GeneratorExp elt [⟨.Tuple [.Name xa pa, .Name xb pb] kt pt, .Call (.Name "zip" pz) [e, e2] [] cpos, [], 0⟩] scope gpos] [] pos) (tAllZ X scope xa xb elt P ta) := by
  refine ⟨fun pins s σ H Q I h => ?_⟩
  refine wpAny_Call_Name_kw (ld_blt I hg hm hb ?_)
  refine PyProof.Rows.callWith_builtin1 ?_ he (by rfl)
  rw [he]
  show wpAny _ _ (spliced ((false, eval (.GeneratorExp elt [⟨.Tuple [.Name xa pa, .Name xb pb] kt pt, .Call (.Name "zip" pz) [e, e2] [] cpos, [], 0⟩] scope gpos) X.env) :: backTo pos (starEach [] X.env))) _ _ s
  refine Calls.spliced_cons (gen_zip (R := fun rs H1 => ∀ H2, Tabbed P H1 H2 → Q (.bl (rs.all id)) H2) hr TB hcode S hab hgz hmz ha hse hpl hs I h fun rs H1 g s5 hR hG => ?_)
  obtain ⟨fp, wr, G, n, F, St, hn, W, hst, htr, hI⟩ := hG
  refine Calls.spliced_nil ?_
  refine call_all_walkS (W.self 0 _ _ _ hst ⟨g, fp, wr, G, _, F, St, _, rfl, W, hst, htr, fun s' hmv => ?_⟩)
  obtain ⟨H2, hT, J⟩ := hI s' hmv
  refine ⟨.bl _, H2, J, rfl, ?_⟩
  rw [hn, all_getD rs]
  exact hR H2 hT
end
end Fw

set_option maxRecDepth 100000
set_option maxHeartbeats 4000000
/-! Sorting of triples of whole numbers, setdefault on tuple keys, tests within a generator. -/
namespace Fw
open PySem PySem.Spec PyProof.Rows L2 GxR
/-! ### triples -/
abbrev T3 := Int × Int × Int
def lex3 (p q : T3) : Bool := if p.1 = q.1 then (if p.2.1 = q.2.1 then decide (p.2.2 < q.2.2) else decide (p.2.1 < q.2.1)) else decide (p.1 < q.1)
def Lt3 (p q : T3) : Prop := p.1 < q.1 ∨ (p.1 = q.1 ∧ (p.2.1 < q.2.1 ∨ (p.2.1 = q.2.1 ∧ p.2.2 < q.2.2)))
theorem lex3_iff {p q : T3} : lex3 p q = true ↔ Lt3 p q := by
  unfold lex3 Lt3
  split
  · split
    · rw [decide_eq_true_eq]; omega
    · rw [decide_eq_true_eq]; omega
  · rw [decide_eq_true_eq]; omega
theorem lex3_no {p q : T3} : lex3 p q = false ↔ ¬ Lt3 p q := by
  rw [← lex3_iff]
  cases lex3 p q <;> simp
theorem swo3 {α : Type} (k : α → T3) : SrtO.Swo fun v u => lex3 (k v) (k u) := by
  refine ⟨fun x y h => ?_, fun x y z h1 h2 => ?_⟩
  · have a := lex3_iff.mp h
    refine lex3_no.mpr ?_
    unfold Lt3 at *
    omega
  · have a := lex3_no.mp h1
    have b := lex3_no.mp h2
    refine lex3_no.mpr ?_
    unfold Lt3 at *
    omega
def IsTrip (h : Heap) (v : Value) (x : T3) : Prop := ∃ a o t u r n, v = .ref a ∧ h.get? a = some o ∧ o.cls = .type "tuple" ∧ o.data = .seq #[.int x.1 t, .int x.2.1 u, .int x.2.2 r] n
theorem IsTrip.keeps {h h' : Heap} {v : Value} {x : T3} (p : IsTrip h v x) (k : ∀ b o, h.get? b = some o → o.cls = .type "tuple" → h'.get? b = some o) : IsTrip h' v x := by
  obtain ⟨a, o, t, u, r, n, e, ho, hc, hd⟩ := p
  exact ⟨a, o, t, u, r, n, e, k a o ho hc, hc, hd⟩
section
variable {prog : Program} {w : World} {A : Around} {E : Value → Shared → Prop} {s : Shared}
theorem trip_cmp {vs : List Value} {k : Value → T3} (hp : ∀ v ∈ vs, IsTrip s.heap v (k v)) : SrtO.Cmp prog w A s (PyProof.Rows.tuples' true) (fun p => p.1 ∈ vs) (SrtO.lt2 fun v u => lex3 (k v) (k u)) := by
  intro p q hm hm'
  have h1 := hp _ hm
  have h2 := hp _ hm'
  show wpAny (model prog w) A (keyLt' (PyProof.Rows.tuples' true) p.1 q.1) (fun r s' => s' = s ∧ r = lex3 (k p.1) (k q.1)) (fun _ _ => False) s
  unfold lex3
  generalize (k p.1) = x at h1 ⊢
  generalize (k q.1) = x' at h2 ⊢
  obtain ⟨x, y, z⟩ := x
  obtain ⟨x', y', z'⟩ := x'
  obtain ⟨a, o, t, u, r, n, e, ho, hc, hd⟩ := h1
  obtain ⟨a', o', t', u', r', n', e', ho', hc', hd'⟩ := h2
  rw [e, e']
  simp only at hd hd' ⊢
  refine PySem.W.kat_lt ho hd ho' hd' ?_
  show PySem.W.KatLex prog w A true (decide (3 < 3)) _ [(.int x t, .int x' t'), (.int y u, .int y' u'), (.int z r, .int z' r')] 0 s
  refine PySem.W.kat_cons (SeqAt.EqAt.int_int x t x' t' prog w _ _ ?_)
  refine PySem.W.kat_go (fun e1 => ?_) (fun e1 => ?_)
  · have ex : x = x' := by simpa using e1
    rw [if_pos ex]
    refine PySem.W.kat_yes (PySem.W.kat_cons (SeqAt.EqAt.int_int y u y' u' prog w _ _ ?_))
    refine PySem.W.kat_go (fun e2 => ?_) (fun e2 => ?_)
    · have ey : y = y' := by simpa using e2
      rw [if_pos ey]
      refine PySem.W.kat_yes (PySem.W.kat_cons (SeqAt.EqAt.int_int z r z' r' prog w _ _ ?_))
      refine PySem.W.kat_go (fun e3 => ?_) (fun e3 => ?_)
      · have ez : z = z' := by simpa using e3
        have e4 : decide (z < z') = false := by rw [ez]; exact decide_eq_false (Int.lt_irrefl _)
        rw [e4]
        exact PySem.W.kat_yes (PySem.W.kat_nil ⟨rfl, rfl⟩)
      · refine PySem.W.kat_no (PySem.W.kat_one _ _ (PyProof.Rows.lt_int ?_))
        exact (show s = s ∧ decide (z < z') = decide (z < z') from ⟨rfl, rfl⟩)
    · have ey : ¬ y = y' := by simpa using e2
      rw [if_neg ey]
      refine PySem.W.kat_no (PySem.W.kat_one _ _ (PyProof.Rows.lt_int ?_))
      exact (show s = s ∧ decide (y < y') = decide (y < y') from ⟨rfl, rfl⟩)
  · have ex : ¬ x = x' := by simpa using e1
    rw [if_neg ex]
    exact PySem.W.kat_no (PyProof.Rows.oneLt_int ⟨rfl, rfl⟩)
theorem firsts3 {h : Heap} {k : Value → T3} : ∀ {vs : List Value}, (∀ v ∈ vs, IsTrip h v (k v)) → ∃ fs : List Value, PySem.W.KatTups h vs fs ∧ fs.length = vs.length ∧ ∀ f ∈ fs, ∃ x t, f = Value.int x t
  | [], _ => ⟨[], PySem.W.KatTups.nil, rfl, fun _ hm => by simp at hm⟩
  | v :: vs, hp => by
    obtain ⟨fs, h1, h2, h3⟩ := firsts3 (vs := vs) fun v' hm => hp v' (List.mem_cons_of_mem _ hm)
    obtain ⟨a, o, t, u, r, n, e, ho, hc, hd⟩ := hp v (List.mem_cons_self ..)
    refine ⟨.int (k v).1 t :: fs, ?_, by rw [List.length_cons, List.length_cons, h2], fun f hm => ?_⟩
    · generalize k v = kv at hd ⊢
      subst e
      exact PySem.W.KatTups.cons ho hc hd rfl h1
    · rcases List.mem_cons.mp hm with rfl | hm
      · exact ⟨_, t, rfl⟩
      · exact h3 f hm
theorem trips_sortableO {a : Addr} {vs : List Value} {k : Value → T3} (h0 : 0 < vs.length) (hp : ∀ v ∈ vs, IsTrip s.heap v (k v)) (ha : ∀ o, s.heap.get? a = some o → o.cls ≠ .type "tuple") : SrtO.SortableO prog w A s a vs fun v u => lex3 (k v) (k u) := by
  intro h' keep
  have hp' : ∀ v ∈ vs, IsTrip h' v (k v) := fun v hm => (hp v hm).keeps fun b o e c => keep b o (fun z => by subst z; exact ha o e c) e
  obtain ⟨fs, h1, h2, h3⟩ := firsts3 hp'
  refine ⟨PyProof.Rows.tuples' true, fun Q E hq => ?_, trip_cmp hp'⟩
  refine PySem.W.kat_kind (T := .type "int") h1 (by omega) (fun f hm => ?_) (by rfl) ?_
  · obtain ⟨x, t, rfl⟩ := h3 f hm
    exact PySem.W.Looks.now
  · have e : (Value.type "int" != Value.type "tuple") = true := by first | decide +kernel | rfl | decide
    rw [e]
    exact hq
theorem sorted_trips {l : Addr} {vs : List Value} {k : Value → T3} {Q : Value → Shared → Prop} (hl : s.heap.IsList l vs.toArray) (hz : vs.length ≤ sizeLine) (hp : ∀ v ∈ vs, IsTrip s.heap v (k v))
    (h : ∀ (h' : Heap) (d : Addr) (out : List Value), SrtO.Srtd (fun v u => lex3 (k v) (k u)) out → SrtO.Stb (fun v u => lex3 (k v) (k u)) out vs → (∀ b o, s.heap.get? b = some o → h'.get? b = some o) → s.heap.objs.size ≤ d → (∃ n, h'.get? d = some (seqObj "list" out.toArray n)) → Q (.ref d) { s with heap := h' }) :
    wpAny (model prog w) A (call (.builtin "sorted") [.ref l]) Q E s := by
  refine SrtO.sorted_ord (swo3 k) hl hz (fun h2 h₁ a ha kk => ?_) fun out hs hb => ?_
  · refine trips_sortableO (s := { s with heap := h₁ }) (by omega) (fun v hm => (hp v hm).keeps fun b o e _ => (kk b o e).2) fun o e => ?_
    have e' : some o = some (seqObj "list" vs.toArray 0) := e.symm.trans ha
    cases e'
    intro c
    exact absurd (Value.type.inj c) (by decide)
  · exact h _ _ out hs hb (fun b o e => sortedAll_old e) (Nat.le_succ _) (sortedAll_at s.heap vs out.toArray)
end
/-- sorted(xs), xs a list of triples of ints (k says which): a new list, sorted, equal ones in their order -/
def rSorted3 (K : PySem.W.Frag) : List V → Hp → VK → Prop := fun vs H Q => ∃ (a : Addr) (xs : List V) (k : V → T3), vs = [V.ref a] ∧ SqL K H a xs ∧ (∀ x ∈ xs, ∃ t, x = V.ref t ∧ H t = some (.tup [.int (k x).1, .int (k x).2.1, .int (k x).2.2])) ∧
  ∀ ys p, SrtO.Srtd (fun x y => lex3 (k x) (k y)) ys → SrtO.Stb (fun x y => lex3 (k x) (k y)) ys xs → H p = none → Q (.ref p) (upd H p (.lst ys))
section
variable {X : Cx}
theorem vals3 {x y z : V} {its : List Value} (r : Vals [x, y, z] its) : ∃ u1 u2 u3, its = [u1, u2, u3] ∧ RelV x u1 ∧ RelV y u2 ∧ RelV z u3 := by
  cases r with
  | cons a r => cases r with
    | cons b r => cases r with
      | cons c r => cases r; exact ⟨_, _, _, rfl, a, b, c⟩
theorem cr_sorted3 : CallR X (.builtin "sorted") (rSorted3 X.K) := by
  intro pins s σ H vs us Q I r h
  obtain ⟨a, xs, k, rfl, hs, hx, q⟩ := h
  obtain ⟨its, rv, hl, hz⟩ := I.list hs
  obtain ⟨u, rfl, ru⟩ := vals1 r
  obtain rfl : u = Value.ref a := ru
  obtain ⟨e1, e2⟩ := refs_back rv fun x m => by
    obtain ⟨t, e, _⟩ := hx x m
    exact ⟨t, e⟩
  refine sorted_trips (k := fun u => k (backV u)) hl.isList (by rw [← rv.length]; exact hz) (fun v hv => ?_) fun h' d out h1 h2 kp hd hn => ?_
  · obtain ⟨t, rfl⟩ := e2 v hv
    have hm : V.ref t ∈ xs := by rw [e1]; exact List.mem_map.mpr ⟨_, hv, rfl⟩
    obtain ⟨t', e, ht⟩ := hx _ hm
    cases e
    obtain ⟨_, its2, r2, o, ho, hc, n, hd⟩ := I.hok _ _ ht
    obtain ⟨u1, u2, u3, rfl, ri, rj, rk⟩ := vals3 r2
    obtain ⟨t1, rfl⟩ := ri
    obtain ⟨t2, rfl⟩ := rj
    obtain ⟨t3, rfl⟩ := rk
    exact ⟨t, o, t1, t2, t3, n, rfl, ho, hc, hd⟩
  · have h3 : ∀ u ∈ out, ∃ a, u = Value.ref a := fun u hu => e2 u (h2.perm.mem_iff.mp hu)
    obtain ⟨n, hn⟩ := hn
    have hb : SrtO.Stb (fun x y => lex3 (k x) (k y)) (out.map backV) xs := by
      rw [e1]
      exact SrtO.Stb.map (swo3 k) backV h2
    refine ⟨.ref d, upd H d (.lst (out.map backV)), I.laid (t' := s.toks) kp hd ⟨?_, out, n, vals_back h3, hn⟩, rfl, q _ d (SrtO.srtd_map h1) hb (I.hok.fresh hd)⟩
    rw [hb.len]
    exact hz
end
/-! ### d.setdefault(k, z), k a tuple -/
section
variable {X : Cx} {pins : List (Addr × Obj)} {σ : L2.St} {H : Hp} {s : Shared} {a b : Addr} {r : Value} {d : V} {k : List Key} {A : Around} {E : Value → Shared → Prop}
theorem d_setdT {kvs : List (List Key × V)} {Q : Value → Shared → Prop} (hu : A.units + 1 < cLine) (I : Inv X pins σ H s) (e : H a = some (.dT kvs)) (eb : H b = some (.tup (k.map kV))) (rd : RelV d r) (hl : kvs.length < sizeLine)
    (h1 : ∀ v, valV kvs k = some v → ∀ (w' : Value) (s' : Shared), Inv X pins σ H s' → RelV v w' → Q w' s') (h2 : valV kvs k = none → ∀ (w' : Value) (s' : Shared), Inv X pins σ (upd H a (.dT (putK kvs k d))) s' → RelV d w' → Q w' s') :
    wpAny (model X.prog X.w) A (call (.builtin "dict.setdefault") [.ref a, .ref b, r]) Q E s := by
  obtain ⟨z, hd, xs, rel, dd⟩ := dt_of I.hok e
  have hz : xs.length ≤ sizeLine := by rw [← Paired.length rel]; exact z
  have hl2 : (putK kvs k d).length ≤ sizeLine := by have := length_putK kvs k d; omega
  refine call_setdefault_heap (hsz := hz) (tupleKind_room_in1 hu) (key_of I.hok eb) hd dd (fun p hp => ?_) fun hn h' dd' hs => ?_
  · have q := rel.val k
    rw [hp] at q
    cases q0 : valV kvs k with
    | none =>
      rw [q0] at q
      exact (show False from q).elim
    | some v0 =>
      rw [q0] at q
      exact h1 v0 q0 _ _ (I.tok _) q
  · have q := rel.val k
    rw [hn] at q
    cases q0 : valV kvs k with
    | some v0 =>
      rw [q0] at q
      exact (show False from q).elim
    | none =>
      obtain ⟨q, es, ep, hq, h2', h3, h4, _, h5⟩ := dd'
      refine h2 q0 _ _ (d_write (t' := s.toks + _) I (by rw [e]; exact True.intro) hs ⟨q, hq⟩ ⟨hl2, hd, _, (rel.put k eb rd).keeps fun c ys ec => ?_, q, es, ep, hq, h2', h3, h4, h5⟩) rd
      rw [upd_ne (ne_of ec e (fun z => nomatch z))]
      exact ec
end
def tDSetdT (td ty tx : TE) : TE := fun σ H Q => td σ H fun x H1 => ∃ a, x = .ref a ∧ IsD H1 a ∧ ty σ H1 fun y H2 => tx σ H2 fun z H3 => ∃ (kvs : List (List Key × V)) (k : List Key) (b : Addr), H3 a = some (.dT kvs) ∧ y = .ref b ∧ H3 b = some (.tup (k.map kV)) ∧ kvs.length < sizeLine ∧
  (∀ v, valV kvs k = some v → Q v H3) ∧ (valV kvs k = none → Q z (upd H3 a (.dT (putK kvs k z))))
section
variable {X : Cx} {o e f : Expr} {td ty tx : TE} {apos cpos : Pos}
theorem pe_dsetdT (hu : X.A.units + 1 < cLine) (ho : PE X o td) (he : PE X e ty) (hf : PE X f tx) (m : M2 X o "setdefault" apos e f cpos) : PE X (.Call (.Attribute o "setdefault" apos) [e, f] [] cpos) (tDSetdT td ty tx) := by
  refine ⟨fun pins s σ H Q I h => ?_⟩
  refine wpAny_Call_method m.base m.few m.line PySem.F.plainAttrs_dict PySem.F.slot_dict_setdefault PySem.F.type_dict_setdefault (thn (ho.run pins s σ H _ I h) fun u s1 ⟨x, H1, I1, rx, a, ex, d, q1⟩ => ?_)
  subst ex
  obtain rfl : u = Value.ref a := rx
  obtain ⟨t1, t2, _⟩ := isD_at I1 d
  refine ⟨t1, t2, ?_⟩
  rw [m.trees]
  refine Calls.callWith_builtin rfl (Calls.evalArgs_plain (Calls.spliced_cons (thn (he.run pins s1 σ H1 _ I1 q1) fun iv s2 ⟨y, H2, I2, ry, q2⟩ =>
    Calls.spliced_cons (thn (hf.run pins s2 σ H2 _ I2 q2) fun fv s3 ⟨z, H3, I3, rz, kvs, k, b, ea, ey, eb, hl, q3, q4⟩ => Calls.spliced_nil ?_))))
  subst ey
  obtain rfl : iv = Value.ref b := ry
  exact d_setdT hu I3 ea eb rz hl (fun v hv w' s4 I4 rw' => ⟨v, _, I4, rw', q3 v hv⟩) fun hn w' s4 I4 rw' => ⟨z, _, I4, rw', q4 hn⟩
end
/-! ### tests within a generator -/
theorem eltZ_lt_int {prog : Program} {w : World} {scope : Scope} {xa xb : Str} {U : Nat} {hb : Heap} {P : Addr} {p1 p2 p3 : Pos} (a b : Int) (hk : scope.kind = .function) (la : scope.names.lookup xa = some .local) (lb : scope.names.lookup xb = some .local)
    (da : (xa == ("__debug__" : Str)) = false := by decide) (db : (xb == ("__debug__" : Str)) = false := by decide) :
    EltZ prog w scope xa xb (.Compare (.Name xa p1) [.Lt] [.Name xb p2] p3) U hb P (.int a) (.int b) (decide (a < b)) := by
  intro cenv A' E' va vb s₂ m₂ hs _ hn hma hmb ra rb _
  obtain ⟨t, rfl⟩ := ra
  obtain ⟨u, rfl⟩ := rb
  refine wpAny_Compare1 ?_
  refine wpAny_Name (wpAny_loadName_local (by rw [hs]; exact hk) (show cenv.scope.names.lookup xa = some .local by rw [hs]; exact la) hn hma ?_) da
  refine wpAny_Name (wpAny_loadName_local (by rw [hs]; exact hk) (show cenv.scope.names.lookup xb = some .local by rw [hs]; exact lb) hn hmb ?_) db
  exact PyProof.Rows.lt_int ⟨rfl, keeps_refl _⟩
theorem lexLt3 (p q : T3) : HT.lexLt [p.1, p.2.1, p.2.2] [q.1, q.2.1, q.2.2] = lex3 p q := by
  unfold lex3
  rw [HT.lexLt_cons, HT.lexLt_cons, HT.lexLt_cons, HT.lexLt_nil_nil]
  by_cases h : p.1 = q.1
  · rw [if_pos h, if_pos h]
    by_cases h2 : p.2.1 = q.2.1
    · rw [if_pos h2, if_pos h2]
      by_cases h3 : p.2.2 = q.2.2
      · rw [if_pos h3, h3]
        exact (decide_eq_false (Int.lt_irrefl _)).symm
      · rw [if_neg h3]
    · rw [if_neg h2, if_neg h2]
  · rw [if_neg h, if_neg h]
theorem eltZ_lt_trip {X : Cx} {pins : List (Addr × Obj)} {σ : L2.St} {H1 : Hp} {s : Shared} {scope : Scope} {xa xb : Str} {U : Nat} {P : Addr} {p1 p2 p3 : Pos} (I : Inv X pins σ H1 s) (hP : TabG H1 P) (hU : U < cLine) {t u : Addr} {p q : T3}
    (ht : H1 t = some (.tup [.int p.1, .int p.2.1, .int p.2.2])) (hu : H1 u = some (.tup [.int q.1, .int q.2.1, .int q.2.2])) (hk : scope.kind = .function) (la : scope.names.lookup xa = some .local) (lb : scope.names.lookup xb = some .local)
    (da : (xa == ("__debug__" : Str)) = false := by decide) (db : (xb == ("__debug__" : Str)) = false := by decide) :
    EltZ X.prog X.w scope xa xb (.Compare (.Name xa p1) [.Lt] [.Name xb p2] p3) U s.heap P (.ref t) (.ref u) (lex3 p q) := by
  intro cenv A' E' va vb s₂ m₂ hs hA hn hma hmb ra rb hkp
  cases ra
  cases rb
  obtain ⟨ps, hP, _⟩ := hP
  have nP : ∀ {b : Addr} {xs : List V}, H1 b = some (.tup xs) → b ≠ P := fun e z => by rw [z, hP] at e; cases e
  have tup : ∀ {b : Addr} {p : T3}, H1 b = some (.tup [.int p.1, .int p.2.1, .int p.2.2]) → ∃ its : Array Value, IsTup s₂.heap b its ∧ IntsAre its.toList [p.1, p.2.1, p.2.2] := fun {b p} e => by
    obtain ⟨_, its2, r2, o, ho, hc, n, hd⟩ := I.hok _ _ e
    obtain ⟨u1, u2, u3, rfl, ri, rj, rk⟩ := vals3 r2
    obtain ⟨t1, rfl⟩ := ri
    obtain ⟨t2, rfl⟩ := rj
    obtain ⟨t3, rfl⟩ := rk
    exact ⟨_, ⟨o, hkp b o (nP e) ho, hc, n, hd⟩, .cons _ _ (.cons _ _ (.cons _ _ .nil))⟩
  obtain ⟨its, T1, i1⟩ := tup ht
  obtain ⟨its2, T2, i2⟩ := tup hu
  refine wpAny_Compare1 ?_
  refine wpAny_Name (wpAny_loadName_local (by rw [hs]; exact hk) (show cenv.scope.names.lookup xa = some .local by rw [hs]; exact la) hn hma ?_) da
  refine wpAny_Name (wpAny_loadName_local (by rw [hs]; exact hk) (show cenv.scope.names.lookup xb = some .local by rw [hs]; exact lb) hn hmb ?_) db
  refine HT.lt_tupInts T1 T2 i1 i2 (Nat.lt_of_le_of_lt hA hU) ?_
  rw [lexLt3]
  exact ⟨rfl, keeps_refl _⟩
end Fw

/-! What a class of worlds asks of numbers, rows and steps: pure mathematics. -/
namespace Fw
def asc {α : Type} (lt : α → α → Bool) : List α → Bool
  | [] => true
  | [_] => true
  | x :: y :: l => lt x y && asc lt (y :: l)
def adj {α : Type} (lt : α → α → Bool) (l : List α) : List Bool := (l.zip l.tail).map fun p => lt p.1 p.2
theorem adj_len {α : Type} (lt : α → α → Bool) (l : List α) : (adj lt l).length = min l.length l.tail.length := by
  unfold adj
  rw [List.length_map, List.length_zip]
theorem adj_get {α : Type} {lt : α → α → Bool} {l : List α} {i : Nat} {r : Bool} (h : (adj lt l)[i]? = some r) : ∃ x y, l[i]? = some x ∧ l.tail[i]? = some y ∧ r = lt x y := by
  unfold adj at h
  rw [List.getElem?_map] at h
  cases e : (l.zip l.tail)[i]? with
  | none => rw [e] at h; cases h
  | some p =>
    rw [e] at h
    have := List.getElem?_zip_eq_some.mp e
    exact ⟨p.1, p.2, this.1, this.2, (Option.some.inj h).symm⟩
theorem adj_asc {α : Type} (lt : α → α → Bool) : ∀ l : List α, (adj lt l).all id = asc lt l
  | [] => rfl
  | [_] => rfl
  | x :: y :: l => by
    have ih := adj_asc lt (y :: l)
    show (id (lt x y) && (adj lt (y :: l)).all id) = (lt x y && asc lt (y :: l))
    rw [ih]
    rfl
theorem asc_pair {α : Type} {lt : α → α → Bool} (tr : ∀ x y z, lt x y = true → lt y z = true → lt x z = true) : ∀ {l : List α}, asc lt l = true ↔ l.Pairwise fun x y => lt x y = true
  | [] => ⟨fun _ => .nil, fun _ => rfl⟩
  | [x] => ⟨fun _ => List.pairwise_singleton _ _, fun _ => rfl⟩
  | x :: y :: l => by
    have ih := asc_pair tr (l := y :: l)
    unfold asc
    rw [Bool.and_eq_true, ih, List.pairwise_cons (a := x)]
    constructor
    · rintro ⟨h1, h2⟩
      refine ⟨fun z hz => ?_, h2⟩
      rcases List.mem_cons.mp hz with rfl | hz
      · exact h1
      · exact tr _ _ _ h1 ((List.pairwise_cons.mp h2).1 z hz)
    · rintro ⟨h1, h2⟩
      exact ⟨h1 y List.mem_cons_self, h2⟩
def ltI (x y : Int) : Bool := decide (x < y)
theorem ltI_tr (x y z : Int) (h1 : ltI x y = true) (h2 : ltI y z = true) : ltI x z = true := by
  unfold ltI at *
  rw [decide_eq_true_eq] at *
  omega
theorem lex3_tr (x y z : T3) (h1 : lex3 x y = true) (h2 : lex3 y z = true) : lex3 x z = true := by
  rw [lex3_iff] at *
  unfold Lt3 at *
  omega
theorem lex3_irr (x : T3) : lex3 x x = false := by
  rw [lex3_no]
  unfold Lt3
  omega
theorem lex3_anti {x y : T3} (h1 : lex3 x y = false) (h2 : lex3 y x = false) : x = y := by
  rw [lex3_no] at *
  unfold Lt3 at *
  obtain ⟨a, b, c⟩ := x
  obtain ⟨a', b', c'⟩ := y
  simp only at *
  have : a = a' ∧ b = b' ∧ c = c' := by omega
  obtain ⟨rfl, rfl, rfl⟩ := this
  rfl
theorem lex3_as {x y : T3} (h : lex3 x y = true) : lex3 y x = false := by
  rw [lex3_no]
  rw [lex3_iff] at h
  unfold Lt3 at *
  omega
/-- one order alone of the same triples, none twice -/
theorem sorted_one : ∀ {a b : List T3}, (a.Pairwise fun x y => lex3 y x = false) → (b.Pairwise fun x y => lex3 x y = true) → a.Perm b → a = b
  | [], b, _, _, h => (List.Perm.nil_eq h)
  | x :: a, [], _, _, h => by have := h.length_eq; cases this
  | x :: a, y :: b, ha, hb, h => by
    have ha' := List.pairwise_cons.mp ha
    have hb' := List.pairwise_cons.mp hb
    have e : x = y := by
      rcases List.mem_cons.mp (h.mem_iff.mp List.mem_cons_self) with q | q
      · exact q
      · rcases List.mem_cons.mp (h.mem_iff.mpr (List.mem_cons_self (a := y) (l := b))) with r | r
        · exact r.symm
        · exact lex3_anti (lex3_as (hb'.1 x q) |> fun z => by
            have z1 := ha'.1 y r
            have z2 := hb'.1 x q
            rw [z1] at z2
            cases z2) (ha'.1 y r)
    subst e
    rw [sorted_one ha'.2 hb'.2 h.cons_inv]
def okNums (l f : Int) : Bool := (decide (1 ≤ l) && decide (l ≤ 3)) && (decide (0 ≤ f) && decide (f ≤ 6))
def okRow (f : Int) (X : List Int) : Bool := X.all (fun x => decide (0 ≤ x) && decide (x ≤ f - 1)) && asc ltI X
def okRows (f : Int) (Xs : List (List Int)) : Bool := (decide (1 ≤ (Xs.length : Int)) && decide ((Xs.length : Int) ≤ 400)) && Xs.all (okRow f)
def okStep (l : Int) (n : Nat) (p : T3) : Bool := (decide (0 ≤ p.2.1) && decide (p.2.1 ≤ l - 1)) && ((decide (0 ≤ p.1) && decide (p.1 ≤ (n : Int) - 1)) && (decide (0 ≤ p.2.2) && decide (p.2.2 ≤ (n : Int) - 1)))
def okSteps (l : Int) (n : Nat) (ss : List T3) : Bool := ss.all (okStep l n) && asc lex3 ss
/-- the ends of the steps from s with l -/
def begS (ss : List T3) (s l : Int) : List Int := (ss.filter fun p => decide (p.1 = s) && decide (p.2.1 = l)).map fun p => p.2.2
theorem begS_snoc (ps : List T3) (p : T3) (s l : Int) : begS (ps ++ [p]) s l = begS ps s l ++ (if (decide (p.1 = s) && decide (p.2.1 = l)) = true then [p.2.2] else []) := by
  unfold begS
  rw [List.filter_append, List.map_append]
  congr 1
  cases c : decide (p.1 = s) && decide (p.2.1 = l)
  · simp [c]
  · simp [c]
theorem beh_begS (W : Wd) (s l : Int) : W.beh s l = begS W.steps s l := rfl
/-- in order they ascend -/
theorem begS_up {ss : List T3} (h : ss.Pairwise fun x y => lex3 x y = true) (s l : Int) : (begS ss s l).Pairwise (· < ·) := by
  unfold begS
  rw [List.pairwise_map]
  have h2 := List.Pairwise.sublist (List.filter_sublist (p := fun p : T3 => decide (p.1 = s) && decide (p.2.1 = l)) (l := ss)) h
  refine h2.imp_of_mem fun {a b} ha hb hab => ?_
  have pa := (List.mem_filter.mp ha).2
  have pb := (List.mem_filter.mp hb).2
  rw [Bool.and_eq_true, decide_eq_true_eq, decide_eq_true_eq] at pa pb
  rw [lex3_iff] at hab
  unfold Lt3 at hab
  omega
end Fw

/-! Parts of worlds: what is true in one that lies in another. Pure mathematics. -/
namespace Fw
def Le (X Y : List Int) : Prop := ∀ s, sIn X s = true → sIn Y s = true
theorem Le.refl (X : List Int) : Le X X := fun _ h => h
/-- in order, of states alone -/
def Norm (n : Nat) (X : List Int) : Prop := X = flt n (sIn X)
theorem filter_sub {α : Type} {p q : α → Bool} (h : ∀ x, p x = true → q x = true) : ∀ l : List α, (l.filter p).Sublist (l.filter q)
  | [] => List.Sublist.slnil
  | x :: l => by
    have ih := filter_sub h l
    cases c : p x with
    | true =>
      rw [List.filter_cons_of_pos c, List.filter_cons_of_pos (h x c)]
      exact ih.cons₂ x
    | false =>
      rw [List.filter_cons_of_neg (by rw [c]; exact Bool.false_ne_true)]
      cases c2 : q x with
      | true => rw [List.filter_cons_of_pos c2]; exact ih.cons x
      | false => rw [List.filter_cons_of_neg (by rw [c2]; exact Bool.false_ne_true)]; exact ih
theorem flt_norm (n : Nat) (p : Int → Bool) : Norm n (flt n p) := by
  unfold Norm
  exact flt_congr fun s h0 h1 => (sIn_flt h0 h1).symm
theorem norm_nil (n : Nat) : Norm n [] := by
  unfold Norm flt
  exact (List.filter_eq_nil_iff.mpr fun _ _ h => by cases h).symm
theorem norm_rng (n : Nat) : Norm n (rng n) := by rw [rng_flt]; exact flt_norm n _
theorem sIn_iff {X : List Int} {s : Int} : sIn X s = true ↔ s ∈ X := decide_eq_true_iff
theorem mem_flt {n : Nat} {p : Int → Bool} {s : Int} : s ∈ flt n p ↔ (0 ≤ s ∧ s < (n : Int)) ∧ p s = true := by
  unfold flt
  rw [List.mem_filter, rng_mem]
theorem Norm.mem {n : Nat} {X : List Int} (h : Norm n X) {s : Int} (hs : s ∈ X) : 0 ≤ s ∧ s < (n : Int) := by
  rw [h] at hs
  exact (mem_flt.mp hs).1
theorem Norm.sub {n : Nat} {X Y : List Int} (hX : Norm n X) (hY : Norm n Y) (h : Le X Y) : X.Sublist Y := by
  rw [hX, hY]
  exact filter_sub h _
theorem Norm.eq {n : Nat} {X Y : List Int} (hX : Norm n X) (hY : Norm n Y) (h : ∀ s, s ∈ X ↔ s ∈ Y) : X = Y := by
  rw [hX, hY]
  exact flt_congr fun s _ _ => by
    cases e : sIn Y s with
    | true => exact sIn_iff.mpr ((h s).mpr (sIn_iff.mp e))
    | false =>
      cases e2 : sIn X s with
      | false => rfl
      | true => rw [sIn_iff.mpr ((h s).mp (sIn_iff.mp e2))] at e; cases e
theorem Norm.len {n : Nat} {X : List Int} (h : Norm n X) : X.length ≤ n := by
  rw [h]
  refine Nat.le_trans (List.length_filter_le _ _) ?_
  rw [rng_len]
  exact Nat.le_refl _
theorem fv_one' {k : One} {x : Int} {f : F} (hk : k.bind = true) {y : Int} (hy : y ∈ fv f) (hn : y ≠ x) : y ∈ fv (.one k x f) := by
  simp only [fv, if_pos hk, List.mem_filter, decide_eq_true_eq]
  exact ⟨hy, hn⟩
theorem setE_same {e : Int → List Int} {x : Int} {X : List Int} : setE e x X x = X := if_pos rfl
theorem setE_ne {e : Int → List Int} {x y : Int} {X : List Int} (h : y ≠ x) : setE e x X y = e y := if_neg h
theorem iter_norm {n : Nat} {f : List Int → List Int} (hf : ∀ X, Norm n X → Norm n (f X)) {X : List Int} (hX : Norm n X) : ∀ k, Norm n (iter f k X)
  | 0 => hX
  | k + 1 => hf _ (iter_norm hf hX k)
theorem val_norm {W : Wd} : ∀ (t : F) (e : Int → List Int), (∀ x ∈ fv t, Norm W.n (e x)) → Norm W.n (val W t e)
  | .nul b, e, h => by
    show Norm W.n (if b = true then rng W.n else [])
    split
    · exact norm_rng _
    · exact norm_nil _
  | .leaf .has n, e, h => flt_norm _ _
  | .leaf .lacks n, e, h => flt_norm _ _
  | .leaf .var x, e, h => h x (List.mem_singleton.mpr rfl)
  | .two b f g, e, h => by
    show Norm W.n (if b = true then flt _ _ else flt _ _)
    split <;> exact flt_norm _ _
  | .one .some l f, e, h => flt_norm _ _
  | .one .all l f, e, h => flt_norm _ _
  | .one .least x f, e, h => iter_norm (fun X hX => val_norm f _ fun y hy => by
      by_cases c : y = x
      · rw [c, setE_same]; exact hX
      · rw [setE_ne c]; exact h y (fv_one' rfl hy c)) (norm_nil _) _
  | .one .most x f, e, h => iter_norm (fun X hX => val_norm f _ fun y hy => by
      by_cases c : y = x
      · rw [c, setE_same]; exact hX
      · rw [setE_ne c]; exact h y (fv_one' rfl hy c)) (norm_rng _) _
theorem Le.flt {n : Nat} {p q : Int → Bool} (h : ∀ s, p s = true → q s = true) : Le (flt n p) (flt n q) := fun s hs => by
  rw [sIn_iff, mem_flt] at hs ⊢
  exact ⟨hs.1, h s hs.2⟩
theorem iter_le {f g : List Int → List Int} (h : ∀ X Y, Le X Y → Le (f X) (g Y)) {X Y : List Int} (hX : Le X Y) : ∀ k, Le (iter f k X) (iter g k Y)
  | 0 => hX
  | k + 1 => h _ _ (iter_le h hX k)
theorem len_filter_le {α : Type} {p q : α → Bool} (h : ∀ x, p x = true → q x = true) (l : List α) : (l.filter p).length ≤ (l.filter q).length :=
  (filter_sub h l).length_le
theorem val_le {W : Wd} : ∀ (t : F) (e e' : Int → List Int), (∀ x ∈ fv t, Le (e x) (e' x)) → Le (val W t e) (val W t e')
  | .nul b, e, e', h => Le.refl _
  | .leaf .has n, e, e', h => Le.refl _
  | .leaf .lacks n, e, e', h => Le.refl _
  | .leaf .var x, e, e', h => h x (List.mem_singleton.mpr rfl)
  | .two b f g, e, e', h => by
    have hf := val_le (W := W) f e e' fun x hx => h x (List.mem_append_left _ hx)
    have hg := val_le (W := W) g e e' fun x hx => h x (List.mem_append_right _ hx)
    show Le (if b = true then Fw.flt _ _ else Fw.flt _ _) (if b = true then Fw.flt _ _ else Fw.flt _ _)
    cases b
    · rw [if_neg Bool.false_ne_true, if_neg Bool.false_ne_true]
      refine Le.flt fun s hs => ?_
      rw [Bool.or_eq_true] at hs ⊢
      exact hs.imp (hg s) (hf s)
    · rw [if_pos rfl, if_pos rfl]
      refine Le.flt fun s hs => ?_
      rw [Bool.and_eq_true] at hs ⊢
      exact ⟨hg s hs.1, hf s hs.2⟩
  | .one .some l f, e, e', h => by
    have hf := val_le (W := W) f e e' h
    refine Le.flt fun s hs => ?_
    rw [decide_eq_true_eq] at hs ⊢
    have := len_filter_le (fun x => hf x) (W.beh s l)
    omega
  | .one .all l f, e, e', h => by
    have hf := val_le (W := W) f e e' h
    refine Le.flt fun s hs => ?_
    rw [decide_eq_true_eq] at hs ⊢
    have := len_filter_le (p := fun k => !sIn (val W f e') k) (q := fun k => !sIn (val W f e) k) (fun x hx => by
      cases c : sIn (val W f e) x with
      | false => rfl
      | true => rw [hf x c] at hx; cases hx) (W.beh s l)
    omega
  | .one .least x f, e, e', h => iter_le (fun X Y hXY => val_le f _ _ fun y hy => by
      by_cases c : y = x
      · rw [c, setE_same, setE_same]; exact hXY
      · rw [setE_ne c, setE_ne c]; exact h y (fv_one' rfl hy c)) (Le.refl _) _
  | .one .most x f, e, e', h => iter_le (fun X Y hXY => val_le f _ _ fun y hy => by
      by_cases c : y = x
      · rw [c, setE_same, setE_same]; exact hXY
      · rw [setE_ne c, setE_ne c]; exact h y (fv_one' rfl hy c)) (Le.refl _) _
/-! ### a chain comes to rest -/
theorem iter_rest {f : List Int → List Int} {X : List Int} {j : Nat} (h : iter f (j + 1) X = iter f j X) : ∀ i, iter f (j + i) X = iter f j X
  | 0 => rfl
  | i + 1 => by
    show f (iter f (j + i) X) = _
    rw [iter_rest h i]
    exact h
theorem rest_of {f : List Int → List Int} {X : List Int} {n : Nat} (h : ∃ j, j ≤ n ∧ iter f (j + 1) X = iter f j X) {k : Nat} (hk : n ≤ k) : iter f k X = iter f n X := by
  obtain ⟨j, hj, e⟩ := h
  have h1 := iter_rest e (k - j)
  have h2 := iter_rest e (n - j)
  rw [show j + (k - j) = k by omega] at h1
  rw [show j + (n - j) = n by omega] at h2
  rw [h1, h2]
theorem rest_up {f : List Int → List Int} {X : List Int} {n : Nat} (hn : ∀ k, Norm n (iter f k X)) (hs : ∀ k, Le (iter f k X) (iter f (k + 1) X)) : ∃ j, j ≤ n ∧ iter f (j + 1) X = iter f j X := by
  apply Classical.byContradiction
  intro no
  have up : ∀ j, j ≤ n + 1 → j ≤ (iter f j X).length := fun j => by
    induction j with
    | zero => intro _; exact Nat.zero_le _
    | succ j ih =>
      intro hj
      have sub := (hn j).sub (hn (j + 1)) (hs j)
      have ne : (iter f j X).length ≠ (iter f (j + 1) X).length := fun e => no ⟨j, by omega, (sub.eq_of_length e).symm⟩
      have := sub.length_le
      have := ih (by omega)
      omega
  have := up (n + 1) (Nat.le_refl _)
  have := (hn (n + 1)).len
  omega
theorem rest_dn {f : List Int → List Int} {X : List Int} {n : Nat} (hn : ∀ k, Norm n (iter f k X)) (hs : ∀ k, Le (iter f (k + 1) X) (iter f k X)) : ∃ j, j ≤ n ∧ iter f (j + 1) X = iter f j X := by
  apply Classical.byContradiction
  intro no
  have dn : ∀ j, j ≤ n + 1 → (iter f j X).length + j ≤ n := fun j => by
    induction j with
    | zero => intro _; exact (hn 0).len
    | succ j ih =>
      intro hj
      have sub := (hn (j + 1)).sub (hn j) (hs j)
      have ne : (iter f (j + 1) X).length ≠ (iter f j X).length := fun e => no ⟨j, by omega, sub.eq_of_length e⟩
      have := sub.length_le
      have := ih (by omega)
      omega
  have := dn (n + 1) (Nat.le_refl _)
  omega
theorem least_rest {W : Wd} {f : F} {x : Int} {e : Int → List Int} (h : ∀ y ∈ fv (.one .least x f), Norm W.n (e y)) {k : Nat} (hk : W.n ≤ k) :
    iter (fun X => val W f (setE e x X)) k [] = iter (fun X => val W f (setE e x X)) (W.n + 1) [] := by
  have N := iter_norm (n := W.n) (f := fun X => val W f (setE e x X)) (fun X hX => val_norm f _ fun y hy => by
      by_cases c : y = x
      · rw [c, setE_same]; exact hX
      · rw [setE_ne c]; exact h y (fv_one' rfl hy c)) (norm_nil _)
  have M : ∀ X Y, Le X Y → Le (val W f (setE e x X)) (val W f (setE e x Y)) := fun X Y hXY => val_le f _ _ fun y hy => by
      by_cases c : y = x
      · rw [c, setE_same, setE_same]; exact hXY
      · rw [setE_ne c, setE_ne c]; exact Le.refl _
  have S : ∀ k, Le (iter (fun X => val W f (setE e x X)) k []) (iter (fun X => val W f (setE e x X)) (k + 1) []) := fun k => by
    induction k with
    | zero => exact fun s hs => by cases hs
    | succ k ih => exact M _ _ ih
  have R := rest_up N S
  rw [rest_of R hk, rest_of R (Nat.le_succ _)]
theorem most_rest {W : Wd} {f : F} {x : Int} {e : Int → List Int} (h : ∀ y ∈ fv (.one .most x f), Norm W.n (e y)) {k : Nat} (hk : W.n ≤ k) :
    iter (fun X => val W f (setE e x X)) k (rng W.n) = iter (fun X => val W f (setE e x X)) (W.n + 1) (rng W.n) := by
  have N := iter_norm (n := W.n) (f := fun X => val W f (setE e x X)) (fun X hX => val_norm f _ fun y hy => by
      by_cases c : y = x
      · rw [c, setE_same]; exact hX
      · rw [setE_ne c]; exact h y (fv_one' rfl hy c)) (norm_rng _)
  have M : ∀ X Y, Le X Y → Le (val W f (setE e x X)) (val W f (setE e x Y)) := fun X Y hXY => val_le f _ _ fun y hy => by
      by_cases c : y = x
      · rw [c, setE_same, setE_same]; exact hXY
      · rw [setE_ne c, setE_ne c]; exact Le.refl _
  have S : ∀ k, Le (iter (fun X => val W f (setE e x X)) (k + 1) (rng W.n)) (iter (fun X => val W f (setE e x X)) k (rng W.n)) := fun k => by
    induction k with
    | zero => exact fun s hs => sIn_iff.mpr (rng_mem.mpr ((N 1).mem (sIn_iff.mp hs)))
    | succ k ih => exact M _ _ ih
  have R := rest_dn N S
  rw [rest_of R hk, rest_of R (Nat.le_succ _)]
/-! ### a world that lies in another -/
def pull (m : Nat) (g : Int → Int) (X : List Int) : List Int := flt m fun k => sIn X (g k)
structure Emb (V W : Wd) (g : Int → Int) : Prop where
  to : ∀ k : Int, 0 ≤ k → k < V.n → 0 ≤ g k ∧ g k < W.n
  fa : ∀ k : Int, 0 ≤ k → k < V.n → ∀ x, sIn (V.at k) x = sIn (W.at (g k)) x
  fo : ∀ k : Int, 0 ≤ k → k < V.n → ∀ l j, j ∈ V.beh k l → 0 ≤ j ∧ j < V.n ∧ g j ∈ W.beh (g k) l
  ba : ∀ k : Int, 0 ≤ k → k < V.n → ∀ l y, y ∈ W.beh (g k) l → ∃ j, j ∈ V.beh k l ∧ g j = y
theorem filter_pos {α : Type} {p : α → Bool} {l : List α} : 0 < ((l.filter p).length : Int) ↔ ∃ x ∈ l, p x = true := by
  constructor
  · intro h
    have : 0 < (l.filter p).length := by omega
    obtain ⟨x, hx⟩ := List.exists_mem_of_length_pos this
    exact ⟨x, (List.mem_filter.mp hx).1, (List.mem_filter.mp hx).2⟩
  · rintro ⟨x, hx, px⟩
    have : x ∈ l.filter p := List.mem_filter.mpr ⟨hx, px⟩
    have := List.length_pos_of_mem this
    omega
theorem filter_zero {α : Type} {p : α → Bool} {l : List α} : ((l.filter p).length : Int) = 0 ↔ ∀ x ∈ l, p x = false := by
  constructor
  · intro h x hx
    have : (l.filter p) = [] := List.length_eq_zero_iff.mp (by omega)
    have := List.filter_eq_nil_iff.mp this x hx
    cases c : p x with
    | false => rfl
    | true => exact absurd c this
  · intro h
    rw [List.filter_eq_nil_iff.mpr fun x hx => by rw [h x hx]; exact Bool.false_ne_true]
    rfl
theorem sIn_pull {m : Nat} {g : Int → Int} {X : List Int} {k : Int} (h0 : 0 ≤ k) (h1 : k < (m : Int)) : sIn (pull m g X) k = sIn X (g k) := sIn_flt h0 h1
theorem val_emb {V W : Wd} {g : Int → Int} (E : Emb V W g) : ∀ (t : F) (d e : Int → List Int), (∀ x ∈ fv t, Norm W.n (e x)) → (∀ x ∈ fv t, d x = pull V.n g (e x)) → val V t d = pull V.n g (val W t e)
  | .nul b, d, e, hn, h => by
    show (if b = true then rng V.n else []) = pull V.n g (if b = true then rng W.n else [])
    cases b
    · rw [if_neg Bool.false_ne_true, if_neg Bool.false_ne_true]
      exact (List.filter_eq_nil_iff.mpr fun _ _ h => by cases h).symm
    · rw [if_pos rfl, if_pos rfl, rng_flt]
      exact flt_congr fun s h0 h1 => (sIn_iff.mpr (rng_mem.mpr (E.to s h0 h1))).symm
  | .leaf .has n, d, e, hn, h => by
    show flt V.n _ = pull V.n g (flt W.n _)
    exact flt_congr fun s h0 h1 => by rw [sIn_flt (E.to s h0 h1).1 (E.to s h0 h1).2, E.fa s h0 h1]
  | .leaf .lacks n, d, e, hn, h => by
    show flt V.n _ = pull V.n g (flt W.n _)
    exact flt_congr fun s h0 h1 => by rw [sIn_flt (E.to s h0 h1).1 (E.to s h0 h1).2, E.fa s h0 h1]
  | .leaf .var x, d, e, hn, h => h x (List.mem_singleton.mpr rfl)
  | .two b f t, d, e, hn, h => by
    have hf := val_emb E f d e (fun x hx => hn x (List.mem_append_left _ hx)) fun x hx => h x (List.mem_append_left _ hx)
    have ht := val_emb E t d e (fun x hx => hn x (List.mem_append_right _ hx)) fun x hx => h x (List.mem_append_right _ hx)
    show (if b = true then flt _ _ else flt _ _) = pull V.n g (if b = true then flt _ _ else flt _ _)
    rw [hf, ht]
    cases b
    · rw [if_neg Bool.false_ne_true, if_neg Bool.false_ne_true]
      exact flt_congr fun s h0 h1 => by rw [sIn_flt (E.to s h0 h1).1 (E.to s h0 h1).2, sIn_pull h0 h1, sIn_pull h0 h1]
    · rw [if_pos rfl, if_pos rfl]
      exact flt_congr fun s h0 h1 => by rw [sIn_flt (E.to s h0 h1).1 (E.to s h0 h1).2, sIn_pull h0 h1, sIn_pull h0 h1]
  | .one .some l f, d, e, hn, h => by
    have hf := val_emb E f d e hn h
    show flt V.n _ = pull V.n g (flt W.n _)
    rw [hf]
    refine flt_congr fun s h0 h1 => ?_
    rw [sIn_flt (E.to s h0 h1).1 (E.to s h0 h1).2]
    refine decide_eq_decide.mpr ?_
    rw [filter_pos, filter_pos]
    constructor
    · rintro ⟨j, hj, pj⟩
      obtain ⟨j0, j1, jg⟩ := E.fo s h0 h1 l j hj
      exact ⟨g j, jg, by rw [sIn_pull j0 j1] at pj; exact pj⟩
    · rintro ⟨y, hy, py⟩
      obtain ⟨j, hj, rfl⟩ := E.ba s h0 h1 l y hy
      obtain ⟨j0, j1, jg⟩ := E.fo s h0 h1 l j hj
      exact ⟨j, hj, by rw [sIn_pull j0 j1]; exact py⟩
  | .one .all l f, d, e, hn, h => by
    have hf := val_emb E f d e hn h
    show flt V.n _ = pull V.n g (flt W.n _)
    rw [hf]
    refine flt_congr fun s h0 h1 => ?_
    rw [sIn_flt (E.to s h0 h1).1 (E.to s h0 h1).2]
    refine decide_eq_decide.mpr ?_
    rw [filter_zero, filter_zero]
    constructor
    · intro q y hy
      obtain ⟨j, hj, rfl⟩ := E.ba s h0 h1 l y hy
      obtain ⟨j0, j1, jg⟩ := E.fo s h0 h1 l j hj
      have := q j hj
      rw [sIn_pull j0 j1] at this
      exact this
    · intro q j hj
      obtain ⟨j0, j1, jg⟩ := E.fo s h0 h1 l j hj
      rw [sIn_pull j0 j1]
      exact q _ jg
  | .one .least x f, d, e, hn, h => by
    have dn : ∀ y ∈ fv (.one .least x f), Norm V.n (d y) := fun y hy => by rw [h y hy]; exact flt_norm _ _
    have N := iter_norm (n := W.n) (f := fun X => val W f (setE e x X)) (fun X hX => val_norm f _ fun y hy => by
      by_cases c : y = x
      · rw [c, setE_same]; exact hX
      · rw [setE_ne c]; exact hn y (fv_one' rfl hy c)) (norm_nil _)
    have key : ∀ k, iter (fun X => val V f (setE d x X)) k [] = pull V.n g (iter (fun X => val W f (setE e x X)) k []) := fun k => by
      induction k with
      | zero => exact (List.filter_eq_nil_iff.mpr fun _ _ h => by cases h).symm
      | succ k ih =>
        show val V f (setE d x _) = pull V.n g (val W f (setE e x _))
        refine val_emb E f _ _ (fun y hy => ?_) fun y hy => ?_
        · by_cases c : y = x
          · rw [c, setE_same]; exact N k
          · rw [setE_ne c]; exact hn y (fv_one' rfl hy c)
        · by_cases c : y = x
          · rw [c, setE_same, setE_same]; exact ih
          · rw [setE_ne c, setE_ne c]; exact h y (fv_one' rfl hy c)
    show iter (fun X => val V f (setE d x X)) (V.n + 1) [] = pull V.n g (iter (fun X => val W f (setE e x X)) (W.n + 1) [])
    rw [← least_rest dn (show V.n ≤ V.n + W.n by omega), ← least_rest hn (show W.n ≤ V.n + W.n by omega)]
    exact key _
  | .one .most x f, d, e, hn, h => by
    have dn : ∀ y ∈ fv (.one .most x f), Norm V.n (d y) := fun y hy => by rw [h y hy]; exact flt_norm _ _
    have N := iter_norm (n := W.n) (f := fun X => val W f (setE e x X)) (fun X hX => val_norm f _ fun y hy => by
      by_cases c : y = x
      · rw [c, setE_same]; exact hX
      · rw [setE_ne c]; exact hn y (fv_one' rfl hy c)) (norm_rng _)
    have key : ∀ k, iter (fun X => val V f (setE d x X)) k (rng V.n) = pull V.n g (iter (fun X => val W f (setE e x X)) k (rng W.n)) := fun k => by
      induction k with
      | zero =>
        show rng V.n = flt V.n _
        rw [rng_flt]
        exact flt_congr fun s h0 h1 => (sIn_iff.mpr (show g s ∈ rng W.n from rng_mem.mpr (E.to s h0 h1))).symm
      | succ k ih =>
        show val V f (setE d x _) = pull V.n g (val W f (setE e x _))
        refine val_emb E f _ _ (fun y hy => ?_) fun y hy => ?_
        · by_cases c : y = x
          · rw [c, setE_same]; exact N k
          · rw [setE_ne c]; exact hn y (fv_one' rfl hy c)
        · by_cases c : y = x
          · rw [c, setE_same, setE_same]; exact ih
          · rw [setE_ne c, setE_ne c]; exact h y (fv_one' rfl hy c)
    show iter (fun X => val V f (setE d x X)) (V.n + 1) (rng V.n) = pull V.n g (iter (fun X => val W f (setE e x X)) (W.n + 1) (rng W.n))
    rw [← most_rest dn (show V.n ≤ V.n + W.n by omega), ← most_rest hn (show W.n ≤ V.n + W.n by omega)]
    exact key _
end Fw

/-! Rows of steps without end, and the fixed points that tell them. Pure mathematics. -/
namespace Fw
inductive RIn (W : Wd) (l : Int) (X : List Int) : Int → Int → Prop
  | here {s : Int} : s ∈ X → RIn W l X s s
  | step {s u t : Int} : s ∈ X → u ∈ W.beh s l → RIn W l X u t → RIn W l X s t
theorem RIn.src {W : Wd} {l : Int} {X : List Int} {s t : Int} (h : RIn W l X s t) : s ∈ X := by cases h <;> assumption
theorem RIn.tgt {W : Wd} {l : Int} {X : List Int} {s t : Int} (h : RIn W l X s t) : t ∈ X := by
  induction h with
  | here h => exact h
  | step _ _ _ ih => exact ih
theorem RIn.trans {W : Wd} {l : Int} {X : List Int} {s t u : Int} (h : RIn W l X s t) (k : RIn W l X t u) : RIn W l X s u := by
  induction h with
  | here _ => exact k
  | step a b _ ih => exact .step a b (ih k)
theorem RIn.snoc {W : Wd} {l : Int} {X : List Int} {s t u : Int} (h : RIn W l X s t) (k : u ∈ W.beh t l) (hu : u ∈ X) : RIn W l X s u := h.trans (.step h.tgt k (.here hu))
theorem RIn.mono {W : Wd} {l : Int} {X Y : List Int} (z : ∀ s ∈ X, s ∈ Y) {s t : Int} (h : RIn W l X s t) : RIn W l Y s t := by
  induction h with
  | here h => exact .here (z _ h)
  | step a b _ ih => exact .step (z _ a) b ih
open Classical in
noncomputable def cyc (W : Wd) (l : Int) (X : List Int) (s : Int) : Bool := decide (∃ u ∈ W.beh s l, RIn W l X u s)
noncomputable def cycL (W : Wd) (l : Int) (X : List Int) : List Int := X.filter (cyc W l X)
open Classical in
noncomputable def lead (W : Wd) (l : Int) (G : List Int) (s : Int) : Bool := decide (∃ t ∈ G, RIn W l (rng W.n) s t)
noncomputable def leadL (W : Wd) (l : Int) (G : List Int) : List Int := flt W.n (lead W l G)
open Classical in
theorem cyc_iff {W : Wd} {l : Int} {X : List Int} {s : Int} : cyc W l X s = true ↔ ∃ u ∈ W.beh s l, RIn W l X u s := by unfold cyc; exact decide_eq_true_iff
open Classical in
theorem lead_iff {W : Wd} {l : Int} {X : List Int} {s : Int} : lead W l X s = true ↔ ∃ t ∈ X, RIn W l (rng W.n) s t := by unfold lead; exact decide_eq_true_iff
theorem mem_leadL {W : Wd} {l : Int} {X : List Int} {s : Int} : s ∈ leadL W l X ↔ ∃ t ∈ X, RIn W l (rng W.n) s t := by
  unfold leadL
  rw [mem_flt, lead_iff]
  constructor
  · exact fun h => h.2
  · rintro ⟨t, h1, h2⟩
    exact ⟨rng_mem.mp h2.src, t, h1, h2⟩
/-! ### least and greatest fixed points of operators on lists -/
structure Op (n : Nat) (f : List Int → List Int) : Prop where
  norm : ∀ X, Norm n X → Norm n (f X)
  mono : ∀ X Y, Le X Y → Le (f X) (f Y)
theorem Le.mem {X Y : List Int} (h : Le X Y) {s : Int} (hs : s ∈ X) : s ∈ Y := sIn_iff.mp (h s (sIn_iff.mpr hs))
theorem Le.of {X Y : List Int} (h : ∀ s ∈ X, s ∈ Y) : Le X Y := fun s hs => sIn_iff.mpr (h s (sIn_iff.mp hs))
theorem lfp_fix {n : Nat} {f : List Int → List Int} (O : Op n f) : f (iter f (n + 1) []) = iter f (n + 1) [] := by
  have N := iter_norm O.norm (norm_nil n)
  have S : ∀ k, Le (iter f k []) (iter f (k + 1) []) := fun k => by
    induction k with
    | zero => exact fun s hs => by cases hs
    | succ k ih => exact O.mono _ _ ih
  have R := rest_up N S
  show iter f (n + 2) [] = _
  rw [rest_of R (show n ≤ n + 2 by omega), rest_of R (Nat.le_succ n)]
theorem lfp_least {n : Nat} {f : List Int → List Int} (O : Op n f) {S : List Int} (h : Le (f S) S) : ∀ k, Le (iter f k []) S
  | 0 => fun s hs => by cases hs
  | k + 1 => fun s hs => h s (O.mono _ _ (lfp_least O h k) s hs)
theorem gfp_fix {n : Nat} {f : List Int → List Int} (O : Op n f) : f (iter f (n + 1) (rng n)) = iter f (n + 1) (rng n) := by
  have N := iter_norm O.norm (norm_rng n)
  have S : ∀ k, Le (iter f (k + 1) (rng n)) (iter f k (rng n)) := fun k => by
    induction k with
    | zero => exact fun s hs => sIn_iff.mpr (rng_mem.mpr ((N 1).mem (sIn_iff.mp hs)))
    | succ k ih => exact O.mono _ _ ih
  have R := rest_dn N S
  show iter f (n + 2) (rng n) = _
  rw [rest_of R (show n ≤ n + 2 by omega), rest_of R (Nat.le_succ n)]
theorem gfp_most {n : Nat} {f : List Int → List Int} (O : Op n f) {S : List Int} (hS : ∀ s ∈ S, 0 ≤ s ∧ s < (n : Int)) (h : Le S (f S)) : ∀ k, Le S (iter f k (rng n))
  | 0 => fun s hs => sIn_iff.mpr (rng_mem.mpr (hS s (sIn_iff.mp hs)))
  | k + 1 => fun s hs => O.mono _ _ (gfp_most O hS h k) s (h s hs)
/-! ### what is read off the parts -/
theorem val_closed {W : Wd} {t : F} (h : fv t = []) (e e' : Int → List Int) : val W t e = val W t e' := by
  have n1 := val_norm (W := W) t e (fun x hx => by rw [h] at hx; cases hx)
  have n2 := val_norm (W := W) t e' (fun x hx => by rw [h] at hx; cases hx)
  have l1 := val_le (W := W) t e e' (fun x hx => by rw [h] at hx; cases hx)
  have l2 := val_le (W := W) t e' e (fun x hx => by rw [h] at hx; cases hx)
  exact n1.eq n2 fun s => ⟨l1.mem, l2.mem⟩
theorem mem_some {W : Wd} {l : Int} {f : F} {e : Int → List Int} {s : Int} : s ∈ val W (.one .some l f) e ↔ (0 ≤ s ∧ s < (W.n : Int)) ∧ ∃ u ∈ W.beh s l, u ∈ val W f e := by
  show s ∈ flt W.n _ ↔ _
  rw [mem_flt, decide_eq_true_eq, filter_pos]
  constructor
  · rintro ⟨h, u, h1, h2⟩
    exact ⟨h, u, h1, sIn_iff.mp h2⟩
  · rintro ⟨h, u, h1, h2⟩
    exact ⟨h, u, h1, sIn_iff.mpr h2⟩
theorem mem_and {W : Wd} {f g : F} {e : Int → List Int} {s : Int} : s ∈ val W (.two true f g) e ↔ (0 ≤ s ∧ s < (W.n : Int)) ∧ s ∈ val W f e ∧ s ∈ val W g e := by
  show s ∈ (if true = true then flt W.n (fun s => sIn (val W g e) s && sIn (val W f e) s) else _) ↔ _
  rw [if_pos rfl, mem_flt, Bool.and_eq_true, sIn_iff, sIn_iff]
  exact ⟨fun h => ⟨h.1, h.2.2, h.2.1⟩, fun h => ⟨h.1, h.2.2, h.2.1⟩⟩
theorem mem_or {W : Wd} {f g : F} {e : Int → List Int} {s : Int} : s ∈ val W (.two false f g) e ↔ (0 ≤ s ∧ s < (W.n : Int)) ∧ (s ∈ val W f e ∨ s ∈ val W g e) := by
  show s ∈ (if false = true then _ else flt W.n (fun s => sIn (val W g e) s || sIn (val W f e) s)) ↔ _
  rw [if_neg Bool.false_ne_true, mem_flt, Bool.or_eq_true, sIn_iff, sIn_iff]
  exact ⟨fun h => ⟨h.1, h.2.symm⟩, fun h => ⟨h.1, h.2.symm⟩⟩
theorem op_val {W : Wd} {f : F} {x : Int} {e : Int → List Int} (h : ∀ y ∈ fv f, y ≠ x → Norm W.n (e y)) : Op W.n (fun X => val W f (setE e x X)) where
  norm X hX := val_norm f _ fun y hy => by
    by_cases c : y = x
    · rw [c, setE_same]; exact hX
    · rw [setE_ne c]; exact h y hy c
  mono X Y hXY := val_le f _ _ fun y hy => by
    by_cases c : y = x
    · rw [c, setE_same, setE_same]; exact hXY
    · rw [setE_ne c, setE_ne c]; exact Le.refl _
theorem beh_in {W : Wd} (G : W.Good) {s l u : Int} (h : u ∈ W.beh s l) : 0 ≤ u ∧ u < (W.n : Int) := by
  obtain ⟨p, hp, rfl⟩ := List.mem_map.mp h
  exact G p (List.mem_filter.mp hp).1
/-! ### a row that comes back -/
open Classical in
theorem comes {W : Wd} {l : Int} {X : List Int} {Z : Int → Prop} {g : Int → Prop} (hX : ∀ s ∈ X, 0 ≤ s ∧ s < (W.n : Int)) (hz : ∀ z, Z z → ∃ c u, RIn W l X z c ∧ g c ∧ u ∈ W.beh c l ∧ u ∈ X ∧ Z u) :
    ∀ z, Z z → ∃ c, RIn W l X z c ∧ g c ∧ ∃ u ∈ W.beh c l, RIn W l X u c := by
  have key : ∀ (m : Nat) (z : Int), ((rng W.n).filter fun t => decide (RIn W l X z t)).length ≤ m → Z z → ∃ c, RIn W l X z c ∧ g c ∧ ∃ u ∈ W.beh c l, RIn W l X u c := by
    intro m
    induction m with
    | zero =>
      intro z hm Zz
      obtain ⟨c, u, h1, _⟩ := hz z Zz
      have : z ∈ (rng W.n).filter fun t => decide (RIn W l X z t) := List.mem_filter.mpr ⟨rng_mem.mpr (hX z h1.src), decide_eq_true (.here h1.src)⟩
      have := List.length_pos_of_mem this
      omega
    | succ m ih =>
      intro z hm Zz
      obtain ⟨c, u, h1, h2, h3, h4, h5⟩ := hz z Zz
      by_cases back : RIn W l X u c
      · exact ⟨c, h1, h2, u, h3, back⟩
      · have zu : RIn W l X z u := h1.snoc h3 h4
        have sub : ((rng W.n).filter fun t => decide (RIn W l X u t)).Sublist ((rng W.n).filter fun t => decide (RIn W l X z t)) :=
          filter_sub (fun t ht => decide_eq_true (zu.trans (of_decide_eq_true ht))) _
        have ne : ((rng W.n).filter fun t => decide (RIn W l X u t)).length ≠ ((rng W.n).filter fun t => decide (RIn W l X z t)).length := fun e => by
          have e2 := sub.eq_of_length e
          have hc : c ∈ (rng W.n).filter fun t => decide (RIn W l X z t) := List.mem_filter.mpr ⟨rng_mem.mpr (hX c h1.tgt), decide_eq_true h1⟩
          rw [← e2] at hc
          exact back (of_decide_eq_true (List.mem_filter.mp hc).2)
        have := sub.length_le
        obtain ⟨c', q1, q2, q3⟩ := ih u (by omega) h5
        exact ⟨c', zu.trans q1, q2, q3⟩
  exact fun z => key _ z (Nat.le_refl _)
/-! ### the four statements -/
def metF (l : Int) (t : F) : F := .two true t (.one .some l (.leaf .var 0))
def agF (l : Int) (t : F) : F := .one .most 0 (.one .least 1 (.two false (metF l t) (.one .some l (.leaf .var 1))))
def onF (l : Int) (t : F) : F := .one .most 1 (.two true t (.one .some l (.leaf .var 1)))
def laF (l : Int) (t : F) : F := .one .least 0 (.two false (onF l t) (.one .some l (.leaf .var 0)))
theorem fv_agF {l : Int} {t : F} (h : fv t = []) : fv (agF l t) = [] := by
  simp [agF, metF, fv, h, One.bind]
theorem fv_laF {l : Int} {t : F} (h : fv t = []) : fv (laF l t) = [] := by
  simp [laF, onF, fv, h, One.bind]
theorem val_ag {W : Wd} (G : W.Good) {l : Int} {t : F} (h : fv t = []) (e : Int → List Int) : val W (agF l t) e = leadL W l ((cycL W l (rng W.n)).filter (sIn (val W t e))) := by
  have Nt : Norm W.n (val W t e) := val_norm t e (fun x hx => by rw [h] at hx; cases hx)
  have inner : ∀ Z Y : List Int, ∀ s, s ∈ val W (.two false (metF l t) (.one .some l (.leaf .var 1))) (setE (setE e 0 Z) 1 Y) ↔
      (0 ≤ s ∧ s < (W.n : Int)) ∧ ((s ∈ val W t e ∧ ∃ u ∈ W.beh s l, u ∈ Z) ∨ ∃ u ∈ W.beh s l, u ∈ Y) := fun Z Y s => by
    rw [mem_or]
    unfold metF
    rw [mem_and, mem_some, mem_some, val_closed h _ e]
    have z0 : val W (.leaf .var 0) (setE (setE e 0 Z) 1 Y) = Z := by show setE (setE e 0 Z) 1 Y 0 = Z; rw [setE_ne (by decide), setE_same]
    have z1 : val W (.leaf .var 1) (setE (setE e 0 Z) 1 Y) = Y := setE_same
    rw [z0, z1]
    constructor
    · rintro ⟨a, (⟨_, b, _, c⟩ | ⟨_, c⟩)⟩
      · exact ⟨a, .inl ⟨b, c⟩⟩
      · exact ⟨a, .inr c⟩
    · rintro ⟨a, (⟨b, c⟩ | c)⟩
      · exact ⟨a, .inl ⟨a, b, a, c⟩⟩
      · exact ⟨a, .inr ⟨a, c⟩⟩
  have vars : ∀ y ∈ fv (F.two false (metF l t) (.one .some l (.leaf .var 1))), y ≠ 1 → y = 0 := fun y hy n1 => by
    simp [metF, fv, h, One.bind] at hy
    exact hy.resolve_right n1
  have Oi : ∀ Z, Norm W.n Z → Op W.n (fun Y => val W (.two false (metF l t) (.one .some l (.leaf .var 1))) (setE (setE e 0 Z) 1 Y)) := fun Z nZ =>
    op_val fun y hy n1 => by
      rw [vars y hy n1, setE_same]
      exact nZ
  have Oo : Op W.n (fun Z => val W (.one .least 1 (.two false (metF l t) (.one .some l (.leaf .var 1)))) (setE e 0 Z)) := op_val fun y hy n0 => by
    exfalso
    rw [fv_bind' rfl] at hy
    have q := List.mem_filter.mp hy
    exact n0 (vars y q.1 (by simpa using q.2))
  have nG : Norm W.n (val W (agF l t) e) := iter_norm Oo.norm (norm_rng _) _
  refine nG.eq (flt_norm _ _) fun s => ?_
  rw [mem_leadL]
  have fixo : val W (.one .least 1 (.two false (metF l t) (.one .some l (.leaf .var 1)))) (setE e 0 (val W (agF l t) e)) = val W (agF l t) e := gfp_fix Oo
  constructor
  · intro hs
    have reach : ∀ z, z ∈ val W (agF l t) e → ∃ c u, RIn W l (rng W.n) z c ∧ c ∈ val W t e ∧ u ∈ W.beh c l ∧ u ∈ rng W.n ∧ u ∈ val W (agF l t) e := by
      open Classical in
      intro z hzz
      rw [← fixo] at hzz
      have least := lfp_least (Oi _ nG) (S := flt W.n fun s => decide (∃ c u, RIn W l (rng W.n) s c ∧ c ∈ val W t e ∧ u ∈ W.beh c l ∧ u ∈ rng W.n ∧ u ∈ val W (agF l t) e)) (Le.of fun s hs => ?_) (W.n + 1)
      · have := least.mem hzz
        exact of_decide_eq_true (mem_flt.mp this).2
      · rw [inner] at hs
        obtain ⟨rs, (⟨h1, u, h2, h3⟩ | ⟨u, h2, h3⟩)⟩ := hs
        · exact mem_flt.mpr ⟨rs, decide_eq_true ⟨s, u, .here (rng_mem.mpr rs), h1, h2, rng_mem.mpr (beh_in G h2), h3⟩⟩
        · obtain ⟨c, v, q1, q2⟩ := of_decide_eq_true (mem_flt.mp h3).2
          exact mem_flt.mpr ⟨rs, decide_eq_true ⟨c, v, .step (rng_mem.mpr rs) h2 q1, q2⟩⟩
    obtain ⟨c, h1, h2, u, h3, h4⟩ := comes (X := rng W.n) (Z := fun z => z ∈ val W (agF l t) e) (g := fun c => c ∈ val W t e) (fun s hs => rng_mem.mp hs) reach s hs
    exact ⟨c, List.mem_filter.mpr ⟨List.mem_filter.mpr ⟨h1.tgt, cyc_iff.mpr ⟨u, h3, h4⟩⟩, sIn_iff.mpr h2⟩, h1⟩
  · intro hs
    have most := gfp_most Oo (S := leadL W l ((cycL W l (rng W.n)).filter (sIn (val W t e)))) (fun s hs => (mem_flt.mp hs).1) (Le.of fun s hs => ?_) (W.n + 1)
    · exact most.mem (mem_leadL.mpr hs)
    · obtain ⟨c, hc, path⟩ := mem_leadL.mp hs
      obtain ⟨h1, h2⟩ := List.mem_filter.mp hc
      obtain ⟨h3, h4⟩ := List.mem_filter.mp h1
      obtain ⟨u, h5, h6⟩ := cyc_iff.mp h4
      have nS : Norm W.n (leadL W l ((cycL W l (rng W.n)).filter (sIn (val W t e)))) := flt_norm _ _
      have fixi := lfp_fix (Oi _ nS)
      show s ∈ val W (.one .least 1 (.two false (metF l t) (.one .some l (.leaf .var 1)))) (setE e 0 (leadL W l ((cycL W l (rng W.n)).filter (sIn (val W t e)))))
      show s ∈ iter (fun Y => val W (.two false (metF l t) (.one .some l (.leaf .var 1))) (setE (setE e 0 (leadL W l ((cycL W l (rng W.n)).filter (sIn (val W t e))))) 1 Y)) (W.n + 1) []
      induction path with
      | here hx =>
        rw [← fixi, inner]
        exact ⟨rng_mem.mp h3, .inl ⟨sIn_iff.mp h2, u, h5, mem_leadL.mpr ⟨_, hc, h6⟩⟩⟩
      | step a b p ih =>
        rw [← fixi, inner]
        exact ⟨rng_mem.mp a, .inr ⟨_, b, ih (mem_leadL.mpr ⟨_, hc, p⟩) hc h1 h2 h3 h4 h5 h6⟩⟩
where
  fv_bind' {k : One} {x : Int} {f : F} (hk : k.bind = true) : fv (.one k x f) = (fv f).filter (fun y => y ≠ x) := by simp only [fv, if_pos hk]
theorem val_la {W : Wd} (G : W.Good) {l : Int} {t : F} (h : fv t = []) (e : Int → List Int) : val W (laF l t) e = leadL W l (cycL W l (val W t e)) := by
  have Nt : Norm W.n (val W t e) := val_norm t e (fun x hx => by rw [h] at hx; cases hx)
  have inner : ∀ (e' : Int → List Int) (Y : List Int), ∀ s, s ∈ val W (.two true t (.one .some l (.leaf .var 1))) (setE e' 1 Y) ↔ (0 ≤ s ∧ s < (W.n : Int)) ∧ s ∈ val W t e ∧ ∃ u ∈ W.beh s l, u ∈ Y := fun e' Y s => by
    rw [mem_and, mem_some, val_closed h _ e]
    have z1 : val W (.leaf .var 1) (setE e' 1 Y) = Y := setE_same
    rw [z1]
    exact ⟨fun q => ⟨q.1, q.2.1, q.2.2.2⟩, fun q => ⟨q.1, q.2.1, q.1, q.2.2⟩⟩
  have Oi : ∀ e' : Int → List Int, Op W.n (fun Y => val W (.two true t (.one .some l (.leaf .var 1))) (setE e' 1 Y)) := fun e' => op_val fun y hy n1 => by
    exfalso
    simp [fv, h, One.bind] at hy
    exact n1 hy
  have cl : fv (onF l t) = [] := by simp [onF, fv, h, One.bind]
  have onE : ∀ e', val W (onF l t) e' = val W (onF l t) e := fun e' => val_closed cl _ _
  have outer : ∀ X, ∀ s, s ∈ val W (.two false (onF l t) (.one .some l (.leaf .var 0))) (setE e 0 X) ↔ (0 ≤ s ∧ s < (W.n : Int)) ∧ (s ∈ val W (onF l t) e ∨ ∃ u ∈ W.beh s l, u ∈ X) := fun X s => by
    rw [mem_or, mem_some, onE]
    have z0 : val W (.leaf .var 0) (setE e 0 X) = X := setE_same
    rw [z0]
    constructor
    · rintro ⟨a, (b | ⟨_, c⟩)⟩
      · exact ⟨a, .inl b⟩
      · exact ⟨a, .inr c⟩
    · rintro ⟨a, (b | c)⟩
      · exact ⟨a, .inl b⟩
      · exact ⟨a, .inr ⟨a, c⟩⟩
  have Oo : Op W.n (fun X => val W (.two false (onF l t) (.one .some l (.leaf .var 0))) (setE e 0 X)) := op_val fun y hy n0 => by
    exfalso
    rw [show fv (F.two false (onF l t) (.one .some l (.leaf .var 0))) = fv (onF l t) ++ [0] from rfl, cl] at hy
    exact n0 (List.mem_singleton.mp hy)
  have non : Norm W.n (val W (onF l t) e) := iter_norm (Oi e).norm (norm_rng _) _
  have fixi : val W (.two true t (.one .some l (.leaf .var 1))) (setE e 1 (val W (onF l t) e)) = val W (onF l t) e := gfp_fix (Oi e)
  have nG : Norm W.n (val W (laF l t) e) := iter_norm Oo.norm (norm_nil _) _
  have fixo : val W (.two false (onF l t) (.one .some l (.leaf .var 0))) (setE e 0 (val W (laF l t) e)) = val W (laF l t) e := lfp_fix Oo
  have gin : ∀ s ∈ val W t e, s ∈ rng W.n := fun s hs => rng_mem.mpr (Nt.mem hs)
  refine nG.eq (flt_norm _ _) fun s => ?_
  constructor
  · intro hs
    have least := lfp_least Oo (S := leadL W l (cycL W l (val W t e))) (Le.of fun s hs => ?_) (W.n + 1)
    · exact least.mem hs
    · rw [outer] at hs
      obtain ⟨rs, (h1 | ⟨u, h2, h3⟩)⟩ := hs
      · obtain ⟨c, q1, q2, u, q3, q4⟩ := comes (W := W) (l := l) (X := val W t e) (Z := fun z => z ∈ val W (onF l t) e) (g := fun _ => True) (fun s hs => Nt.mem hs) (fun z hz => by
          rw [← fixi, inner] at hz
          obtain ⟨_, a, u, b, c⟩ := hz
          have c' := c
          rw [← fixi, inner] at c'
          exact ⟨z, u, .here a, trivial, b, c'.2.1, c⟩) s h1
        exact mem_leadL.mpr ⟨c, List.mem_filter.mpr ⟨q1.tgt, cyc_iff.mpr ⟨u, q3, q4⟩⟩, q1.mono gin⟩
      · obtain ⟨c, q1, q2⟩ := mem_leadL.mp h3
        exact mem_leadL.mpr ⟨c, q1, .step (rng_mem.mpr rs) h2 q2⟩
  · intro hs
    obtain ⟨c, hc, path⟩ := mem_leadL.mp hs
    obtain ⟨h1, h2⟩ := List.mem_filter.mp hc
    obtain ⟨u, h3, h4⟩ := cyc_iff.mp h2
    have conW : c ∈ val W (onF l t) e := by
      open Classical in
      have most := gfp_most (Oi e) (S := flt W.n fun s => decide (RIn W l (val W t e) s c)) (fun s hs => (mem_flt.mp hs).1) (Le.of fun s hs => ?_) (W.n + 1)
      · exact most.mem (mem_flt.mpr ⟨Nt.mem h1, decide_eq_true (.here h1)⟩)
      · obtain ⟨rs, q⟩ := mem_flt.mp hs
        rw [inner]
        have q' := of_decide_eq_true q
        refine ⟨rs, q'.src, ?_⟩
        cases q' with
        | here _ => exact ⟨u, h3, mem_flt.mpr ⟨beh_in G h3, decide_eq_true h4⟩⟩
        | step a b p => exact ⟨_, b, mem_flt.mpr ⟨beh_in G b, decide_eq_true p⟩⟩
    induction path with
    | here hx =>
      rw [← fixo, outer]
      exact ⟨rng_mem.mp hx, .inl conW⟩
    | step a b p ih =>
      rw [← fixo, outer]
      exact ⟨rng_mem.mp a, .inr ⟨_, b, ih (mem_leadL.mpr ⟨_, hc, p⟩) hc h1 h2 h3 h4 conW⟩⟩
/-- of opposites -/
theorem val_oppC {W : Wd} (G : W.Good) {t : F} (h : fv t = []) (e e' : Int → List Int) : val W (opp t) e = co W.n (val W t e') := by
  rw [← val_opp G t e']
  exact val_closed (by rw [opp_fv]; exact h) _ _
end Fw

/-! Shorter statements: pure mathematics. -/
namespace Fw
def One.kept : One → Bool
  | .some => false
  | .all => true
  | .least => false
  | .most => true
/-- x is an operand of y, and y joins with the other word -/
def absB (b : Bool) (x y : F) : Bool :=
  match y with
  | .two c p q => decide (c = !b) && (decide (x = p) || decide (x = q))
  | _ => false
/-- what one order of a pair says -/
def half (b : Bool) (x y : F) : Option F :=
  if x = .nul b ∨ x = y then some y else if x = .nul (!b) then some x else if absB b x y = true then some x else none
def ruledF : F → Option F
  | .two b f g => match half b f g with
    | some r => some r
    | none => half b g f
  | .one k n f => if k.bind = true then (if f = .leaf .var n then some (.nul k.kept) else if n ∉ fv f then some f else none) else if f = .nul k.kept then some f else none
  | _ => none
/-- the program's order -/
def repF : F → F
  | .two b f g => if f = .nul (!b) ∨ g = .nul (!b) then .nul (!b) else if f = .nul b ∨ absB b g f = true then g else if g = .nul b ∨ f = g ∨ absB b f g = true then f else .two b f g
  | .one k n f => if k.bind = true then (if f = .leaf .var n then .nul k.kept else if n ∈ fv f then .one k n f else f) else if f = .nul k.kept then f else .one k n f
  | t => t
def canB : F → Bool
  | .two b f g => (ruledF (.two b f g)).isSome || (canB f || canB g)
  | .one k n f => (ruledF (.one k n f)).isSome || canB f
  | _ => false
def shF : F → F
  | .two b f g => (ruledF (.two b (shF f) (shF g))).getD (.two b (shF f) (shF g))
  | .one k n f => (ruledF (.one k n (shF f))).getD (.one k n (shF f))
  | t => t
theorem absB_size {b : Bool} {x y : F} (h : absB b x y = true) : x.size < y.size := by
  cases y with
  | nul _ => cases h
  | leaf _ _ => cases h
  | one _ _ _ => cases h
  | two c p q =>
    simp only [absB, Bool.and_eq_true, Bool.or_eq_true, decide_eq_true_eq] at h
    have := F.size_pos p
    have := F.size_pos q
    rcases h.2 with rfl | rfl <;> simp only [F.size] <;> omega
theorem half_in {b : Bool} {x y r : F} (h : half b x y = some r) : r = x ∨ r = y := by
  unfold half at h
  split at h
  · exact .inr (Option.some.inj h).symm
  · split at h
    · exact .inl (Option.some.inj h).symm
    · split at h
      · exact .inl (Option.some.inj h).symm
      · cases h
theorem ruled_two {b : Bool} {f g r : F} (h : ruledF (.two b f g) = some r) : r = f ∨ r = g := by
  simp only [ruledF] at h
  cases e : half b f g with
  | some q =>
    rw [e] at h
    obtain rfl : q = r := Option.some.inj h
    exact half_in e
  | none =>
    rw [e] at h
    exact (half_in h).symm
theorem ruled_one {k : One} {n : Int} {f r : F} (h : ruledF (.one k n f) = some r) : r = f ∨ ∃ c, r = .nul c := by
  simp only [ruledF] at h
  split at h
  · split at h
    · exact .inr ⟨_, (Option.some.inj h).symm⟩
    · split at h
      · exact .inl (Option.some.inj h).symm
      · cases h
  · split at h
    · exact .inl (Option.some.inj h).symm
    · cases h
theorem half_none {b : Bool} {x y : F} : half b x y = none ↔ x ≠ .nul b ∧ x ≠ y ∧ x ≠ .nul (!b) ∧ absB b x y = false := by
  unfold half
  constructor
  · intro h
    split at h
    · cases h
    · rename_i h1
      split at h
      · cases h
      · rename_i h2
        split at h
        · cases h
        · rename_i h3
          exact ⟨fun e => h1 (.inl e), fun e => h1 (.inr e), h2, by simpa using h3⟩
  · rintro ⟨h1, h2, h3, h4⟩
    rw [if_neg (by simp [h1, h2]), if_neg h3, if_neg (by simp [h4])]
theorem ruled_none {b : Bool} {f g : F} : ruledF (.two b f g) = none ↔ half b f g = none ∧ half b g f = none := by
  simp only [ruledF]
  cases half b f g <;> simp
/-- no rule is for it: the program leaves it as it is, and else not -/
theorem rep_iff : ∀ t : F, repF t = t ↔ ruledF t = none
  | .nul _ => by simp [repF, ruledF]
  | .leaf _ _ => by simp [repF, ruledF]
  | .two b f g => by
    rw [ruled_none, half_none, half_none]
    have sf := F.size_pos f
    have sg := F.size_pos g
    have ne1 : ∀ c, F.nul c ≠ .two b f g := fun c e => by cases e
    have ne2 : f ≠ .two b f g := fun e => by have := congrArg F.size e; simp only [F.size] at this; omega
    have ne3 : g ≠ .two b f g := fun e => by have := congrArg F.size e; simp only [F.size] at this; omega
    simp only [repF]
    constructor
    · intro h
      split at h
      · exact absurd h (ne1 _)
      · rename_i h1
        split at h
        · exact absurd h ne3
        · rename_i h2
          split at h
          · exact absurd h ne2
          · rename_i h3
            refine ⟨⟨fun e => h2 (.inl e), fun e => h3 (.inr (.inl e)), fun e => h1 (.inl e), ?_⟩, ⟨fun e => h3 (.inl e), fun e => h3 (.inr (.inl e.symm)), fun e => h1 (.inr e), ?_⟩⟩
            · cases c : absB b f g with
              | false => rfl
              | true => exact absurd (.inr (.inr c)) h3
            · cases c : absB b g f with
              | false => rfl
              | true => exact absurd (.inr c) h2
    · rintro ⟨⟨h1, h2, h3, h4⟩, ⟨h5, h6, h7, h8⟩⟩
      rw [if_neg (by simp [h3, h7]), if_neg (by simp [h1, h8]), if_neg (by simp [h5, h2, h4])]
  | .one k n f => by
    have sf := F.size_pos f
    have ne1 : ∀ c, F.nul c ≠ .one k n f := fun c e => by cases e
    have ne2 : f ≠ .one k n f := fun e => by have := congrArg F.size e; simp only [F.size] at this; omega
    simp only [repF, ruledF]
    split
    · split
      · simp
      · by_cases c : n ∈ fv f
        · simp [c]
        · simp [c, ne2]
    · split
      · rename_i e
        simp [ne2]
      · simp
/-- where the parts leave nothing to rule, both orders say the same -/
theorem rep_eq : ∀ t : F, (∀ f ∈ t.kids, ruledF f = none) → repF t = (ruledF t).getD t
  | .nul _, _ => rfl
  | .leaf _ _, _ => rfl
  | .one k n f, _ => by
    simp only [repF, ruledF]
    split
    · split
      · rfl
      · by_cases c : n ∈ fv f
        · simp [c]
        · simp [c]
    · split <;> rfl
  | .two b f g, h => by
    have hf := h f (by simp [F.kids])
    have hg := h g (by simp [F.kids])
    have nb : ∀ c : Bool, F.nul c ≠ F.nul (!c) := fun c e => by cases c <;> cases e
    simp only [repF, ruledF]
    by_cases z1 : f = .nul (!b)
    · have : half b f g = some (.nul (!b)) := by
        unfold half
        by_cases q : f = .nul b ∨ f = g
        · rw [if_pos q]
          rcases q with q | q
          · rw [z1] at q
            exact absurd q.symm (nb b)
          · rw [← q, z1]
        · rw [if_neg q, if_pos z1, z1]
      rw [if_pos (.inl z1), this]
      rfl
    · by_cases u1 : f = .nul b
      · have : half b f g = some g := by unfold half; rw [if_pos (.inl u1)]
        rw [this]
        by_cases z2 : g = .nul (!b)
        · rw [if_pos (.inr z2), z2]
          rfl
        · rw [if_neg (by simp [z1, z2]), if_pos (.inl u1)]
          rfl
      · by_cases e : f = g
        · have : half b f g = some g := by unfold half; rw [if_pos (.inr e)]
          have na : ¬ absB b g f = true := fun q => by have := absB_size q; rw [e] at this; omega
          rw [this, if_neg (by rw [← e]; simp [z1]), if_neg (by simp [u1, na]), if_pos (.inr (.inl e)), e]
          rfl
        · by_cases a1 : absB b f g = true
          · have : half b f g = some f := by unfold half; rw [if_neg (by simp [u1, e]), if_neg z1, if_pos a1]
            have n1 : ¬ absB b g f = true := fun q => by have := absB_size q; have := absB_size a1; omega
            have n2 : g ≠ .nul (!b) := fun q => by rw [q] at a1; cases a1
            rw [this, if_neg (by simp [z1, n2]), if_neg (by simp [u1, n1]), if_pos (.inr (.inr a1))]
            rfl
          · have : half b f g = none := half_none.mpr ⟨u1, e, z1, by simpa using a1⟩
            rw [this]
            show _ = (half b g f).getD _
            by_cases z2 : g = .nul (!b)
            · have : half b g f = some g := by
                unfold half
                rw [if_neg (by rw [z2]; simp [fun q => nb b (Eq.symm q), Ne.symm z1, Ne.symm (nb b)]), if_pos z2]
              rw [this, if_pos (.inr z2), z2]
              rfl
            · rw [if_neg (by simp [z1, z2])]
              by_cases u2 : g = .nul b
              · have : half b g f = some f := by unfold half; rw [if_pos (.inl u2)]
                have na : ¬ absB b g f = true := fun q => by
                  cases f with
                  | nul _ => cases q
                  | leaf _ _ => cases q
                  | one _ _ _ => cases q
                  | two c p q' =>
                    simp only [absB, Bool.and_eq_true, Bool.or_eq_true, decide_eq_true_eq] at q
                    obtain ⟨rfl, q⟩ := q
                    rw [ruled_none, half_none, half_none] at hf
                    rw [Bool.not_not] at hf
                    rcases q with q | q
                    · exact hf.1.2.2.1 (by rw [← q, u2])
                    · exact hf.2.2.2.1 (by rw [← q, u2])
                rw [this, if_neg (by simp [u1, na]), if_pos (.inl u2)]
                rfl
              · by_cases a2 : absB b g f = true
                · have : half b g f = some g := by unfold half; rw [if_neg (by simp [u2, Ne.symm e]), if_neg z2, if_pos a2]
                  rw [this, if_pos (.inr a2)]
                  rfl
                · have : half b g f = none := half_none.mpr ⟨u2, Ne.symm e, z2, by simpa using a2⟩
                  rw [this, if_neg (by simp [u1, a2]), if_neg (by simp [u2, e, a1])]
                  rfl
theorem can_none {t : F} (h : canB t = false) : ruledF t = none := by
  cases t with
  | nul _ => rfl
  | leaf _ _ => rfl
  | two b f g =>
    simp only [canB, Bool.or_eq_false_iff] at h
    cases e : ruledF (.two b f g) with
    | none => rfl
    | some r => rw [e] at h; cases h.1
  | one k n f =>
    simp only [canB, Bool.or_eq_false_iff] at h
    cases e : ruledF (.one k n f) with
    | none => rfl
    | some r => rw [e] at h; cases h.1
theorem sh_plain : ∀ t : F, canB (shF t) = false
  | .nul _ => rfl
  | .leaf _ _ => rfl
  | .two b f g => by
    have hf := sh_plain f
    have hg := sh_plain g
    simp only [shF]
    cases e : ruledF (.two b (shF f) (shF g)) with
    | none => simp only [Option.getD_none, canB, e, hf, hg]; rfl
    | some r =>
      rw [Option.getD_some]
      rcases ruled_two e with rfl | rfl
      · exact hf
      · exact hg
  | .one k n f => by
    have hf := sh_plain f
    simp only [shF]
    cases e : ruledF (.one k n (shF f)) with
    | none => simp only [Option.getD_none, canB, e, hf]; rfl
    | some r =>
      rw [Option.getD_some]
      rcases ruled_one e with rfl | ⟨c, rfl⟩
      · exact hf
      · rfl
theorem sh_rep : ∀ t : F, shF t = match t with
    | .two b f g => repF (.two b (shF f) (shF g))
    | .one k n f => repF (.one k n (shF f))
    | t => t
  | .nul _ => rfl
  | .leaf _ _ => rfl
  | .two b f g => by
    show shF (.two b f g) = repF (.two b (shF f) (shF g))
    rw [rep_eq]
    · rfl
    · intro u hu
      simp only [F.kids, List.mem_cons, List.not_mem_nil, or_false] at hu
      rcases hu with rfl | rfl <;> exact can_none (sh_plain _)
  | .one k n f => by
    show shF (.one k n f) = repF (.one k n (shF f))
    rw [rep_eq]
    · rfl
    · intro u hu
      simp only [F.kids, List.mem_cons, List.not_mem_nil, or_false] at hu
      rcases hu with rfl
      exact can_none (sh_plain _)
theorem plain_sh : ∀ {t : F}, canB t = false → shF t = t
  | .nul _, _ => rfl
  | .leaf _ _, _ => rfl
  | .two b f g, h => by
    have n := can_none h
    simp only [canB, Bool.or_eq_false_iff] at h
    simp only [shF, plain_sh h.2.1, plain_sh h.2.2, n]
    rfl
  | .one k n f, h => by
    have r := can_none h
    simp only [canB, Bool.or_eq_false_iff] at h
    simp only [shF, plain_sh h.2, r]
    rfl
/-- all parts -/
def subs : F → List F
  | .two b f g => .two b f g :: (subs f ++ subs g)
  | .one k n f => .one k n f :: subs f
  | t => [t]
theorem can_iff : ∀ t : F, canB t = false ↔ ∀ u ∈ subs t, ruledF u = none
  | .nul _ => by simp [canB, subs, ruledF]
  | .leaf _ _ => by simp [canB, subs, ruledF]
  | .two b f g => by
    simp only [canB, subs, Bool.or_eq_false_iff, can_iff f, can_iff g, List.mem_cons, List.mem_append]
    constructor
    · rintro ⟨h1, h2, h3⟩ u (rfl | hu | hu)
      · simpa using h1
      · exact h2 u hu
      · exact h3 u hu
    · intro h
      exact ⟨by rw [h _ (.inl rfl)]; rfl, fun u hu => h u (.inr (.inl hu)), fun u hu => h u (.inr (.inr hu))⟩
  | .one k n f => by
    simp only [canB, subs, Bool.or_eq_false_iff, can_iff f, List.mem_cons]
    constructor
    · rintro ⟨h1, h2⟩ u (rfl | hu)
      · simpa using h1
      · exact h2 u hu
    · intro h
      exact ⟨by rw [h _ (.inl rfl)]; rfl, fun u hu => h u (.inr hu)⟩
theorem subs_info : ∀ (t : F) (a : Int) (i : Nat) (st : Stk), (info t a i st).map (·.sub) = subs t
  | .nul _, _, _, _ => rfl
  | .leaf _ _, _, _, _ => rfl
  | .two b f g, a, i, st => by simp only [info, subs, List.map_cons, List.map_append, subs_info f, subs_info g]
  | .one k n f, a, i, st => by simp only [info, subs, List.map_cons, subs_info f]
/-! ### it says the same -/
theorem fv_sh : ∀ (t : F) (x : Int), x ∈ fv (shF t) → x ∈ fv t
  | .nul _, x, h => h
  | .leaf _ _, x, h => h
  | .two b f g, x, h => by
    have hf := fv_sh f x
    have hg := fv_sh g x
    show x ∈ fv f ++ fv g
    rw [List.mem_append]
    simp only [shF] at h
    cases e : ruledF (.two b (shF f) (shF g)) with
    | none =>
      rw [e] at h
      exact (List.mem_append.mp (show x ∈ fv (shF f) ++ fv (shF g) from h)).imp hf hg
    | some r =>
      rw [e, Option.getD_some] at h
      rcases ruled_two e with rfl | rfl
      · exact .inl (hf h)
      · exact .inr (hg h)
  | .one k n f, x, h => by
    have hf := fv_sh f x
    simp only [shF] at h
    simp only [fv]
    cases e : ruledF (.one k n (shF f)) with
    | none =>
      rw [e, Option.getD_none] at h
      simp only [fv] at h
      split
      · rename_i hk
        rw [if_pos hk] at h
        have := List.mem_filter.mp h
        exact List.mem_filter.mpr ⟨hf this.1, this.2⟩
      · rename_i hk
        rw [if_neg hk] at h
        exact hf h
    | some r =>
      rw [e, Option.getD_some] at h
      simp only [ruledF] at e
      split
      · rename_i hk
        rw [if_pos hk] at e
        split at e
        · cases Option.some.inj e
          cases h
        · split at e
          · rename_i hn
            cases Option.some.inj e
            exact List.mem_filter.mpr ⟨hf h, decide_eq_true fun q => hn (q ▸ h)⟩
          · cases e
      · rename_i hk
        rw [if_neg hk] at e
        split at e
        · cases Option.some.inj e
          exact hf h
        · cases e
theorem size_sh : ∀ t : F, (shF t).size ≤ t.size ∧ (shF t).depth ≤ t.depth
  | .nul _ => ⟨Nat.le_refl _, Nat.le_refl _⟩
  | .leaf _ _ => ⟨Nat.le_refl _, Nat.le_refl _⟩
  | .two b f g => by
    have hf := size_sh f
    have hg := size_sh g
    simp only [shF]
    cases e : ruledF (.two b (shF f) (shF g)) with
    | none =>
      rw [Option.getD_none]
      simp only [F.size, F.depth]
      omega
    | some r =>
      rw [Option.getD_some]
      rcases ruled_two e with rfl | rfl <;> simp only [F.size, F.depth] <;> omega
  | .one k n f => by
    have hf := size_sh f
    have := F.size_pos f
    simp only [shF]
    cases e : ruledF (.one k n (shF f)) with
    | none =>
      rw [Option.getD_none]
      simp only [F.size, F.depth]
      omega
    | some r =>
      rw [Option.getD_some]
      rcases ruled_one e with rfl | ⟨c, rfl⟩ <;> simp only [F.size, F.depth] <;> omega
theorem val_ext {W : Wd} {t : F} {e e' : Int → List Int} (n : ∀ x ∈ fv t, Norm W.n (e x)) (h : ∀ x ∈ fv t, e x = e' x) : val W t e = val W t e' := by
  have n1 := val_norm (W := W) t e n
  have n2 := val_norm (W := W) t e' (fun x hx => by rw [← h x hx]; exact n x hx)
  have l1 := val_le (W := W) t e e' (fun x hx => by rw [h x hx]; exact Le.refl _)
  have l2 := val_le (W := W) t e' e (fun x hx => by rw [h x hx]; exact Le.refl _)
  exact n1.eq n2 fun s => ⟨l1.mem, l2.mem⟩
theorem iter_const {Y X : List Int} : ∀ k, iter (fun _ => Y) (k + 1) X = Y := fun _ => rfl
theorem iter_id {X : List Int} : ∀ k, iter (fun X => X) k X = X
  | 0 => rfl
  | k + 1 => iter_id k
theorem iter_congr {n : Nat} {f g : List Int → List Int} (hn : ∀ X, Norm n X → Norm n (f X)) (h : ∀ X, Norm n X → f X = g X) {X : List Int} (hX : Norm n X) : ∀ k, iter f k X = iter g k X
  | 0 => rfl
  | k + 1 => by
    show f (iter f k X) = g (iter g k X)
    rw [← iter_congr hn h hX k]
    exact h _ (iter_norm hn hX k)
theorem norm_setE {n : Nat} {e : Int → List Int} (h : ∀ x, Norm n (e x)) {x : Int} {X : List Int} (hX : Norm n X) : ∀ y, Norm n (setE e x X y) := fun y => by
  by_cases c : y = x
  · rw [c, setE_same]; exact hX
  · rw [setE_ne c]; exact h y
theorem val_half {W : Wd} {b : Bool} {x y r : F} {e : Int → List Int} (he : ∀ z, Norm W.n (e z)) (h : half b x y = some r) : val W r e = val W (.two b x y) e ∧ val W r e = val W (.two b y x) e := by
  have nv : ∀ t, Norm W.n (val W t e) := fun t => val_norm t e fun z _ => he z
  have key : ∀ s, (s ∈ val W r e ↔ s ∈ val W (.two b x y) e) ∧ (s ∈ val W r e ↔ s ∈ val W (.two b y x) e) := by
    intro s
    have inr : ∀ t, s ∈ val W t e → 0 ≤ s ∧ s < (W.n : Int) := fun t h => (nv t).mem h
    have mt : s ∈ val W (.nul true) e ↔ 0 ≤ s ∧ s < (W.n : Int) := rng_mem
    have mf : ¬ s ∈ val W (.nul false) e := fun q => by cases (show s ∈ ([] : List Int) from q)
    unfold half at h
    cases b with
    | true =>
      rw [mem_and, mem_and]
      split at h
      · rename_i c
        cases Option.some.inj h
        rcases c with rfl | rfl
        · exact ⟨⟨fun q => ⟨inr _ q, mt.mpr (inr _ q), q⟩, fun q => q.2.2⟩, ⟨fun q => ⟨inr _ q, q, mt.mpr (inr _ q)⟩, fun q => q.2.1⟩⟩
        · exact ⟨⟨fun q => ⟨inr _ q, q, q⟩, fun q => q.2.2⟩, ⟨fun q => ⟨inr _ q, q, q⟩, fun q => q.2.1⟩⟩
      · split at h
        · rename_i c
          cases Option.some.inj h
          rw [c]
          exact ⟨⟨fun q => absurd q mf, fun q => q.2.1⟩, ⟨fun q => absurd q mf, fun q => q.2.2⟩⟩
        · split at h
          · rename_i c
            cases Option.some.inj h
            cases y with
            | nul _ => cases c
            | leaf _ _ => cases c
            | one _ _ _ => cases c
            | two d p q =>
              simp only [absB, Bool.and_eq_true, Bool.or_eq_true, decide_eq_true_eq] at c
              obtain ⟨rfl, c⟩ := c
              have up : s ∈ val W x e → s ∈ val W (.two false p q) e := fun z => mem_or.mpr ⟨inr _ z, by
                rcases c with rfl | rfl
                · exact .inl z
                · exact .inr z⟩
              exact ⟨⟨fun z => ⟨inr _ z, z, up z⟩, fun z => z.2.1⟩, ⟨fun z => ⟨inr _ z, up z, z⟩, fun z => z.2.2⟩⟩
          · cases h
    | false =>
      rw [mem_or, mem_or]
      split at h
      · rename_i c
        cases Option.some.inj h
        rcases c with rfl | rfl
        · exact ⟨⟨fun q => ⟨inr _ q, .inr q⟩, fun q => q.2.resolve_left mf⟩, ⟨fun q => ⟨inr _ q, .inl q⟩, fun q => q.2.resolve_right mf⟩⟩
        · exact ⟨⟨fun q => ⟨inr _ q, .inr q⟩, fun q => q.2.elim id id⟩, ⟨fun q => ⟨inr _ q, .inl q⟩, fun q => q.2.elim id id⟩⟩
      · split at h
        · rename_i c
          cases Option.some.inj h
          rw [c]
          exact ⟨⟨fun q => ⟨inr _ q, .inl q⟩, fun q => mt.mpr q.1⟩, ⟨fun q => ⟨inr _ q, .inr q⟩, fun q => mt.mpr q.1⟩⟩
        · split at h
          · rename_i c
            cases Option.some.inj h
            cases y with
            | nul _ => cases c
            | leaf _ _ => cases c
            | one _ _ _ => cases c
            | two d p q =>
              simp only [absB, Bool.and_eq_true, Bool.or_eq_true, decide_eq_true_eq] at c
              obtain ⟨rfl, c⟩ := c
              have dn : s ∈ val W (.two true p q) e → s ∈ val W x e := fun z => by
                have := mem_and.mp z
                rcases c with rfl | rfl
                · exact this.2.1
                · exact this.2.2
              exact ⟨⟨fun z => ⟨inr _ z, .inl z⟩, fun z => z.2.elim id dn⟩, ⟨fun z => ⟨inr _ z, .inr z⟩, fun z => z.2.elim dn id⟩⟩
          · cases h
  exact ⟨(nv r).eq (nv _) fun s => (key s).1, (nv r).eq (nv _) fun s => (key s).2⟩
theorem val_ruled {W : Wd} (G : W.Good) : ∀ (t r : F) (e : Int → List Int), (∀ z, Norm W.n (e z)) → ruledF t = some r → val W r e = val W t e
  | .nul _, r, e, he, h => by cases h
  | .leaf _ _, r, e, he, h => by cases h
  | .two b f g, r, e, he, h => by
    simp only [ruledF] at h
    cases c : half b f g with
    | some q =>
      rw [c] at h
      cases Option.some.inj h
      exact (val_half he c).1
    | none =>
      rw [c] at h
      exact (val_half he h).2
  | .one k n f, r, e, he, h => by
    simp only [ruledF] at h
    have nv : ∀ t, Norm W.n (val W t e) := fun t => val_norm t e fun z _ => he z
    cases k with
    | some =>
      rw [if_neg (by decide)] at h
      split at h
      · rename_i c
        cases Option.some.inj h
        rw [c]
        refine (nv _).eq (nv _) fun s => ?_
        rw [mem_some]
        exact ⟨fun q => (nomatch (show s ∈ ([] : List Int) from q)), fun q => by obtain ⟨_, u, _, h2⟩ := q; cases (show u ∈ ([] : List Int) from h2)⟩
      · cases h
    | all =>
      rw [if_neg (by decide)] at h
      split at h
      · rename_i c
        cases Option.some.inj h
        rw [c]
        show rng W.n = flt W.n fun s => decide ((((W.beh s n).filter (fun k => !sIn (val W (.nul true) e) k)).length : Int) = 0)
        rw [rng_flt]
        refine flt_congr fun s _ _ => ?_
        have : (W.beh s n).filter (fun k => !sIn (val W (.nul true) e) k) = [] := List.filter_eq_nil_iff.mpr fun k hk => by
          have : sIn (val W (.nul true) e) k = true := sIn_iff.mpr (rng_mem.mpr (beh_in G hk))
          rw [this]
          exact Bool.false_ne_true
        rw [this]
        rfl
      · cases h
    | least =>
      rw [if_pos (by decide)] at h
      split at h
      · rename_i c
        cases Option.some.inj h
        rw [c]
        show [] = iter (fun X => setE e n X n) (W.n + 1) []
        simp only [setE_same]
        rw [iter_id]
      · split at h
        · rename_i c
          cases Option.some.inj h
          show _ = iter (fun X => val W f (setE e n X)) (W.n + 1) []
          have : (fun X => val W f (setE e n X)) = fun _ => val W f e := by
            funext X
            exact (val_ext (fun x _ => he x) fun x hx => (setE_ne (show x ≠ n from fun q => c (q ▸ hx))).symm).symm
          rw [this]
          rfl
        · cases h
    | most =>
      rw [if_pos (by decide)] at h
      split at h
      · rename_i c
        cases Option.some.inj h
        rw [c]
        show rng W.n = iter (fun X => setE e n X n) (W.n + 1) (rng W.n)
        simp only [setE_same]
        rw [iter_id]
      · split at h
        · rename_i c
          cases Option.some.inj h
          show _ = iter (fun X => val W f (setE e n X)) (W.n + 1) (rng W.n)
          have : (fun X => val W f (setE e n X)) = fun _ => val W f e := by
            funext X
            exact (val_ext (fun x _ => he x) fun x hx => (setE_ne (show x ≠ n from fun q => c (q ▸ hx))).symm).symm
          rw [this]
          rfl
        · cases h
theorem val_sh {W : Wd} (G : W.Good) : ∀ (t : F) (e : Int → List Int), (∀ z, Norm W.n (e z)) → val W (shF t) e = val W t e
  | .nul _, e, he => rfl
  | .leaf _ _, e, he => rfl
  | .two b f g, e, he => by
    have same : val W (.two b (shF f) (shF g)) e = val W (.two b f g) e := by
      simp only [val, val_sh G f e he, val_sh G g e he]
    rw [← same]
    simp only [shF]
    cases c : ruledF (.two b (shF f) (shF g)) with
    | none => rfl
    | some r => exact val_ruled G _ _ e he c
  | .one k n f, e, he => by
    have same : val W (.one k n (shF f)) e = val W (.one k n f) e := by
      have nv : ∀ (t : F) (e : Int → List Int), (∀ z, Norm W.n (e z)) → Norm W.n (val W t e) := fun t e he => val_norm t e fun z _ => he z
      cases k with
      | some => simp only [val, val_sh G f e he]
      | all => simp only [val, val_sh G f e he]
      | least => exact iter_congr (fun X hX => nv _ _ (norm_setE he hX)) (fun X hX => val_sh G f _ (norm_setE he hX)) (norm_nil _) _
      | most => exact iter_congr (fun X hX => nv _ _ (norm_setE he hX)) (fun X hX => val_sh G f _ (norm_setE he hX)) (norm_rng _) _
    rw [← same]
    simp only [shF]
    cases c : ruledF (.one k n (shF f)) with
    | none => rfl
    | some r => exact val_ruled G _ _ e he c
end Fw

set_option maxRecDepth 100000
set_option maxHeartbeats 4000000
/-! dicts whose keys are tuples within tuples -/
namespace Fw
open PySem PySem.Spec PyProof.Rows L2
mutual
/-- v is such a key, in the heap H -/
inductive KIs (K : PySem.W.Frag) (H : Hp) : V → NestedKey → Prop
  | int (i : Int) : KIs K H (.int i) (.num i)
  | str (x : PySem.Str) : KIs K H (.str x) (.text x)
  | tup {a : Addr} {xs : List V} {ks : List NestedKey} : SqT K H a xs → KAll K H xs ks → KIs K H (.ref a) (.tup ks)
inductive KAll (K : PySem.W.Frag) (H : Hp) : List V → List NestedKey → Prop
  | nil : KAll K H [] []
  | cons {x : V} {k : NestedKey} {xs : List V} {ks : List NestedKey} : KIs K H x k → KAll K H xs ks → KAll K H (x :: xs) (k :: ks)
end
mutual
theorem KIs.map {K : PySem.W.Frag} {H H' : Hp} (s : ∀ a xs, SqT K H a xs → SqT K H' a xs) : ∀ {v : V} {k : NestedKey}, KIs K H v k → KIs K H' v k
  | _, _, .int i => .int i
  | _, _, .str x => .str x
  | _, _, .tup h r => .tup (s _ _ h) (KAll.map s r)
theorem KAll.map {K : PySem.W.Frag} {H H' : Hp} (s : ∀ a xs, SqT K H a xs → SqT K H' a xs) : ∀ {vs : List V} {ks : List NestedKey}, KAll K H vs ks → KAll K H' vs ks
  | _, _, .nil => .nil
  | _, _, .cons h r => .cons (KIs.map s h) (KAll.map s r)
end
section
variable {X : Cx} {pins : List (Addr × Obj)} {σ : L2.St} {H : Hp} {s : Shared}
mutual
theorem kis_real (I : Inv X pins σ H s) : ∀ {v : V} {k : NestedKey} {u : Value}, KIs X.K H v k → RelV v u → NestedIs s.heap k u
  | _, _, _, .int i, r => by
    obtain ⟨t, rfl⟩ : ∃ t, _ = Value.int i t := r
    exact .int i t
  | _, _, _, .str x, r => by
    obtain ⟨t, rfl⟩ : ∃ t, _ = Value.str x t := r
    exact .text x t
  | _, _, _, .tup h all, r => by
    obtain rfl : _ = Value.ref _ := r
    obtain ⟨its, rv, ⟨o, e, c, n, d⟩, _⟩ := I.tuple h
    exact .tup e c d (by simpa using kall_real I all rv)
theorem kall_real (I : Inv X pins σ H s) : ∀ {vs : List V} {ks : List NestedKey} {us : List Value}, KAll X.K H vs ks → Vals vs us → NestedAll s.heap ks us
  | _, _, _, .nil, .nil => .nil
  | _, _, _, .cons h r, .cons a b => .cons (kis_real I h a) (kall_real I r b)
end
end
abbrev NK := NestedKey × Addr × V
/-- what stands at a key -/
def valN (kvs : List NK) (k : NestedKey) : Option V := (kvs.find? fun e => decide (e.1 = k)).map fun e => e.2.2
def PairN (p : NK) (q : NestedKey × Addr × Value) : Prop := p.1 = q.1 ∧ p.2.1 = q.2.1 ∧ RelV p.2.2 q.2.2
def DNh (P : Program) (w : World) (a : Addr) (kvs : List NK) (h : Heap) : Prop := (a == sysModules) = false ∧ kvs.length ≤ sizeLine ∧ ∃ xs : List (NestedKey × Addr × Value), Paired PairN kvs xs ∧
  ∃ o es ep, h.get? a = some o ∧ o.ExactDict ∧ o.data = .dict es ep ∧ es.toList = xs.map (entryOfKey (nestedKind P w)) ∧ (xs.map (·.1)).Nodup
/-- a dict with such keys, each with the place of its tuple -/
def DNs (P : Program) (w : World) (a : Addr) (kvs : List NK) : HO := .ext (DNh P w a kvs)
def KeysOk (K : PySem.W.Frag) (H : Hp) (kvs : List NK) : Prop := ∀ e ∈ kvs, KIs K H (.ref e.2.1) e.1 ∧ e.1.depth ≤ 8
theorem DNh.ok {P : Program} {w : World} {H : Hp} {h : Heap} {a : Addr} {kvs : List NK} (x : DNh P w a kvs h) : ObjOk P w H h a (DNs P w a kvs) := by
  obtain ⟨z, y, xs, r, o, es, ep, e, c⟩ := id x
  refine ⟨x, ⟨o, e⟩, fun h1 h2 q k => ?_⟩
  obtain ⟨z, y, xs, r, o, es, ep, e, c⟩ := q
  exact ⟨z, y, xs, r, o, es, ep, k _ e, c⟩
theorem pair_val {kvs : List NK} {xs : List (NestedKey × Addr × Value)} (r : Paired PairN kvs xs) (k : NestedKey) : RelO (valN kvs k) ((atKey xs k).map (·.2)) := by
  induction r with
  | nil => exact trivial
  | @cons p q ps qs h t ih =>
    obtain ⟨h1, h2, h3⟩ := h
    unfold valN atKey at ih ⊢
    by_cases e : p.1 = k
    · have e2 : q.1 = k := h1.symm.trans e
      simp only [List.find?_cons, e, e2, decide_true, Option.map_some]
      exact h3
    · have e2 : ¬ q.1 = k := fun z => e (h1.trans z)
      simp only [List.find?_cons, decide_eq_false e, decide_eq_false e2]
      exact ih
theorem valN_snoc {kvs : List NK} {k : NestedKey} {b : Addr} {v : V} (h : valN kvs k = none) (j : NestedKey) : valN (kvs ++ [(k, b, v)]) j = if j = k then some v else valN kvs j := by
  unfold valN at h ⊢
  rw [List.find?_append]
  by_cases e : j = k
  · subst e
    have : kvs.find? (fun e => decide (e.1 = j)) = none := Option.map_eq_none_iff.mp h
    simp [this, List.find?_cons]
  · rw [if_neg e]
    have : ¬ k = j := fun z => e z.symm
    cases kvs.find? (fun e => decide (e.1 = j)) <;> simp [List.find?_cons, this]
section
variable {X : Cx}
theorem dn_dict {pins : List (Addr × Obj)} {σ : L2.St} {H : Hp} {s : Shared} {a : Addr} {kvs : List NK} (I : Inv X pins σ H s) (e : H a = some (DNs X.prog X.w a kvs)) (ok : KeysOk X.K H kvs) :
    (a == sysModules) = false ∧ kvs.length ≤ sizeLine ∧ ∃ xs, Paired PairN kvs xs ∧ s.heap.DictOfH (nestedKind X.prog X.w) a xs := by
  obtain ⟨z, y, xs, r, o, es, ep, h1, h2, h3, h4, h5⟩ := (I.hok a _ e).1
  refine ⟨z, y, xs, r, o, es, ep, h1, h2, h3, h4, fun x hx => ?_, h5⟩
  have all : ∀ {l : List NK} {m : List (NestedKey × Addr × Value)}, Paired PairN l m → (∀ e ∈ l, KIs X.K H (.ref e.2.1) e.1 ∧ e.1.depth ≤ 8) → ∀ x ∈ m, (nestedKind X.prog X.w).is s.heap x.1 x.2.1 := by
    intro l m q
    induction q with
    | nil => intro _ x hx; exact nomatch hx
    | @cons p q ps qs hq t ih =>
      intro okl x hx
      rcases List.mem_cons.mp hx with e | hx
      · subst e
        obtain ⟨k1, k2⟩ := okl p List.mem_cons_self
        rw [hq.1, hq.2.1] at k1
        exact ⟨kis_real I k1 rfl, by rw [← hq.1]; exact k2⟩
      · exact ih (fun e he => okl e (List.mem_cons_of_mem _ he)) x hx
  exact all r ok x hx
def rInN (P : Program) (w : World) (K : PySem.W.Frag) (neg : Bool) : R2 := fun x y H Q => ∃ (a b : Addr) (kvs : List NK) (k : NestedKey), y = .ref a ∧ x = .ref b ∧ H a = some (DNs P w a kvs) ∧ KeysOk K H kvs ∧ KIs K H (.ref b) k ∧ k.depth ≤ 8 ∧
  Q (.bl (if neg = true then !(valN kvs k).isSome else (valN kvs k).isSome)) H
theorem op_inN (hu : X.A.units + 64 < cLine) : OpR X (compareOp .In) (rInN X.prog X.w X.K false) := by
  intro pins s σ H x y v u Q I rx ry h
  obtain ⟨a, b, kvs, k, rfl, rfl, e, ok, hk, dk, q⟩ := h
  obtain rfl : v = Value.ref b := rx
  obtain rfl : u = Value.ref a := ry
  obtain ⟨z, _, xs, r, dd⟩ := dn_dict I e ok
  refine wpAny_in_heap (knd := nestedKind X.prog X.w) (show X.A.units + 1 + 8 < cLine by omega) ⟨kis_real I hk rfl, dk⟩ z dd ?_
  have q2 := (pair_val r k).isSome_eq
  rw [Option.isSome_map] at q2
  refine ⟨.bl _, H, I.tok _, rfl, ?_⟩
  rw [← q2]
  exact q
theorem op_notInN (hu : X.A.units + 64 < cLine) : OpR X (compareOp .NotIn) (rInN X.prog X.w X.K true) := by
  intro pins s σ H x y v u Q I rx ry h
  obtain ⟨a, b, kvs, k, rfl, rfl, e, ok, hk, dk, q⟩ := h
  obtain rfl : v = Value.ref b := rx
  obtain rfl : u = Value.ref a := ry
  obtain ⟨z, _, xs, r, dd⟩ := dn_dict I e ok
  refine wpAny_notIn_heap (knd := nestedKind X.prog X.w) (show X.A.units + 1 + 8 < cLine by omega) ⟨kis_real I hk rfl, dk⟩ z dd ?_
  have q2 := (pair_val r k).isSome_eq
  rw [Option.isSome_map] at q2
  refine ⟨.bl _, H, I.tok _, rfl, ?_⟩
  rw [← q2]
  exact q
def rIxN (P : Program) (w : World) (K : PySem.W.Frag) : R2 := fun x y H Q => ∃ (a b : Addr) (kvs : List NK) (k : NestedKey) (v : V), x = .ref a ∧ y = .ref b ∧ H a = some (DNs P w a kvs) ∧ KeysOk K H kvs ∧ KIs K H (.ref b) k ∧ k.depth ≤ 8 ∧ valN kvs k = some v ∧ Q v H
theorem ix_nest (hu : X.A.units + 64 < cLine) : IxR X (rIxN X.prog X.w X.K) := by
  intro value slice pins s σ H x y v u Q I rx ry h hs
  obtain ⟨a, b, kvs, k, z0, rfl, rfl, e, ok, hk, dk, hv, q⟩ := h
  obtain rfl : v = Value.ref a := rx
  obtain rfl : u = Value.ref b := ry
  obtain ⟨z, _, xs, r, dd⟩ := dn_dict I e ok
  obtain ⟨w', hw, rw'⟩ := RelO.some_of (v := z0) (o := (atKey xs k).map (·.2)) (by rw [← hv]; exact pair_val r k)
  obtain ⟨p, hp, hp2⟩ := Option.map_eq_some_iff.mp hw
  refine tail_any dd.typeIs PySem.F.slot_dict_getitem.lookup (wpAny_getItem_heap (knd := nestedKind X.prog X.w) (show X.A.units + 1 + 8 < cLine by omega) ⟨kis_real I hk rfl, dk⟩ dd hp ?_) hs
  rw [hp2]
  exact ⟨z0, H, I.tok _, rw', q⟩
/-- d[key] = v, the key not yet there -/
def rSetN (P : Program) (w : World) (K : PySem.W.Frag) : TSet := fun o i v H Q => ∃ (a b : Addr) (kvs : List NK) (k : NestedKey), o = .ref a ∧ i = .ref b ∧ H a = some (DNs P w a kvs) ∧ KeysOk K H kvs ∧ KIs K H (.ref b) k ∧ k.depth ≤ 8 ∧ valN kvs k = none ∧ kvs.length < sizeLine ∧
  Q (upd H a (DNs P w a (kvs ++ [(k, b, v)])))
theorem set_nest (hu : X.A.units + 64 < cLine) : PSet X (rSetN X.prog X.w X.K) := by
  intro pins s σ H o i v ov iv u Q I ro ri rv h
  obtain ⟨a, b, kvs, k, rfl, rfl, e, ok, hk, dk, hn, hl, q⟩ := h
  obtain rfl : ov = Value.ref a := ro
  obtain rfl : iv = Value.ref b := ri
  obtain ⟨z, sz, xs, r, dd⟩ := dn_dict I e ok
  have none' : atKey xs k = none := by
    have q2 := (pair_val r k).isSome_eq
    rw [Option.isSome_map, hn] at q2
    cases h : atKey xs k with
    | none => rfl
    | some p => rw [h] at q2; cases q2
  refine wpAny_setItem_heap (knd := nestedKind X.prog X.w) (hsz := by rw [← Paired.length r]; exact sz) (show X.A.units + 1 + 8 < cLine by omega) ⟨kis_real I hk rfl, dk⟩ dd fun h' dd' hs => ⟨_, ?_, q⟩
  rw [storedH_new none'] at dd'
  obtain ⟨o', es, ep, e1, e2, e3, e4, _, e5⟩ := dd'
  refine d_write I (by rw [e]; trivial) hs ⟨o', e1⟩ (DNh.ok ⟨z, ?_, _, Paired.snoc r ⟨rfl, rfl, rv⟩, o', es, ep, e1, e2, e3, e4, e5⟩)
  rw [List.length_append, List.length_singleton]
  exact hl
/-- {} -/
def tDNewN (P : Program) (w : World) : TE := fun _ H Q => ∀ p, H p = none → Q (.ref p) (upd H p (DNs P w p []))
theorem pe_dnewN {pos : Pos} : PE X (.Dict [] [] pos) (tDNewN X.prog X.w) :=
  ⟨fun pins s σ H Q I h => wpAny_Dict_empty ⟨.ref s.heap.objs.size, _, I.laid (a := s.heap.objs.size) (t' := s.toks) (fun _ _ q => Heap.get?_push_of_some _ q) (Nat.le_refl _) (DNh.ok (by
    obtain ⟨z, y, xs, r, o, es, ep, e, c⟩ := dt_empty (P := X.prog) (w := X.w) (H := H) s.heap I.big
    cases r
    exact ⟨y, Nat.zero_le _, [], .nil, o, es, ep, e, c.1, c.2.1, c.2.2.1, List.nodup_nil⟩)), rfl, h _ (I.hok.fresh (Nat.le_refl _))⟩⟩
end
end Fw

set_option maxRecDepth 100000
set_option maxHeartbeats 2000000
/-! Two clauses of a comprehension over any walks; x in a tuple, deep; what is kept of tuples. -/
namespace Fw
open PySem PySem.Spec PyProof.Rows L2
section
variable {X : Cx}
def rInT (K : PySem.W.Frag) : R2 := fun x y H Q => ∃ d ds, Dp K H x d ∧ Dp K H y (.tuple ds) ∧ SeqAt.shaped d = true ∧ SeqAt.shaped (.tuple ds) = true ∧ Q (.bl (ds.any fun z => PyData.eqv z d)) H
theorem op_inT (hu : X.A.units + 64 < cLine) : OpR X (compareOp .In) (rInT X.K) := by
  intro pins s σ H x y v u Q I rx ry h
  obtain ⟨d, ds, hd, he, sd, se, q⟩ := h
  obtain ⟨as, r1⟩ := Dp.reads I d x v hd rx
  obtain ⟨bs, r2⟩ := Dp.reads I (.tuple ds) y u he ry
  have hz := SeqAt.shaped
  have : X.A.units + 1 + min (PyData.depthAll ds) d.depth < cLine := by
    have e : (PyData.canLay0 (.tuple ds) && decide (PyData.depth (.tuple ds) ≤ 64)) = true := se
    have := of_decide_eq_true (Bool.and_eq_true_iff.mp e).2
    simp only [PyData.depth] at this
    omega
  exact SeqAt.in_tuple_reads r2 r1 (SeqAt.canLay_of_shaped se) (SeqAt.canLay_of_shaped sd) this ⟨.bl _, H, I, rfl, q⟩
def rNotInL (K : PySem.W.Frag) : R2 := fun x y H Q => ∃ d ds, Dp K H x d ∧ Dp K H y (.list ds) ∧ SeqAt.shaped d = true ∧ SeqAt.shaped (.list ds) = true ∧ Q (.bl (!ds.any fun z => PyData.eqv z d)) H
theorem op_notInL (hu : X.A.units + 64 < cLine) : OpR X (compareOp .NotIn) (rNotInL X.K) := by
  intro pins s σ H x y v u Q I rx ry h
  obtain ⟨d, ds, hd, he, sd, se, q⟩ := h
  obtain ⟨as, r1⟩ := Dp.reads I d x v hd rx
  obtain ⟨bs, r2⟩ := Dp.reads I (.list ds) y u he ry
  have : X.A.units + 1 + min (PyData.depthAll ds) d.depth < cLine := by
    have e : (PyData.canLay0 (.list ds) && decide (PyData.depth (.list ds) ≤ 64)) = true := se
    have := of_decide_eq_true (Bool.and_eq_true_iff.mp e).2
    simp only [PyData.depth] at this
    omega
  exact SeqAt.notIn_list_reads r2 r1 (SeqAt.canLay_of_shaped se) (SeqAt.canLay_of_shaped sd) this ⟨.bl _, H, I, rfl, q⟩
end
theorem in2_it {J : It} {n : Nat} {G : Hp → Prop} {Y : Nat → Hp → V → Hp → Prop} (w : Walk J n G Y) {g : TG} {tt : TT} {te : TE} {vs : List Nat} {σ : L2.St} {H1 : Hp} {D : Addr} {Nx : Hp → Prop} (Pv : Nat → Hp → Prop) (h0 : Pv 0 H1) (hG : ∀ i H, i ≤ n → Pv i H → G H)
    (hs : ∀ i x H H', i < n → Pv i H → Y i H x H' → g x (wipe σ vs) H' fun σ2 H2 => wipe σ2 vs = wipe σ vs ∧ tt σ2 H2 fun b H3 =>
      if b = true then te σ2 H3 fun y H4 => ∃ acc, H4 D = some (.lst acc) ∧ acc.length < sizeLine ∧ Pv (i + 1) (upd H4 D (.lst (acc ++ [y]))) else Pv (i + 1) H3) (hd : ∀ H, Pv n H → Nx H) :
    ∃ W : Nat → Nat → Hp → Prop, (∃ m, W 0 m H1) ∧ ∀ i m H, W i m H →
      (J.stop i H ∧ Nx H) ∨ (J.go i H ∧ ∃ Nx1 : Hp → Prop, (∀ H', Nx1 H' → ∃ m', m' < m ∧ W (i + 1) m' H') ∧ ∀ x H', J.yld i H x H' → g x (wipe σ vs) H' fun σ2 H2 => wipe σ2 vs = wipe σ vs ∧ tt σ2 H2 fun b H3 =>
        if b = true then te σ2 H3 fun y H4 => ∃ acc, H4 D = some (.lst acc) ∧ acc.length < sizeLine ∧ Nx1 (upd H4 D (.lst (acc ++ [y]))) else Nx1 H3) := by
  refine ⟨fun i m H => m = n - i ∧ i ≤ n ∧ Pv i H, ⟨n, by simp, Nat.zero_le _, h0⟩, ?_⟩
  rintro i m H ⟨rfl, hi, p⟩
  have q := hG i H hi p
  by_cases hlt : i < n
  · refine .inr ⟨w.goes i H hlt q, Pv (i + 1), fun H' p' => ⟨n - (i + 1), by omega, rfl, hlt, p'⟩, fun x H' y => hs i x H H' hlt p (w.yields i H x H' hlt q y)⟩
  · have e : i = n := by omega
    subst e
    exact .inl ⟨w.stops H q, hd H p⟩
theorem lc2_it {J : It} {n : Nat} {G : Hp → Prop} {Y : Nat → Hp → V → Hp → Prop} (w : Walk J n G Y) {wi1 : TI} {g g1 : TG} {tt tt1 : TT} {te : TE} {vs vs1 : List Nat} {σ : L2.St} {H1 : Hp} {D : Addr} {Qd : Hp → Prop} (Pv : Nat → Hp → Prop) (h0 : Pv 0 (upd H1 D (.lst []))) (hG : ∀ i H, i ≤ n → Pv i H → G H)
    (hs : ∀ i x H H', i < n → Pv i H → Y i H x H' → g x (wipe σ vs) H' fun σ2 H2 => wipe σ2 vs = wipe σ vs ∧ tt σ2 H2 fun b H3 =>
      if b = true then wi1 σ2 H3 fun J1 H4 => ∃ W1 : Nat → Nat → Hp → Prop, (∃ m, W1 0 m H4) ∧ ∀ j k H, W1 j k H →
        (J1.stop j H ∧ Pv (i + 1) H) ∨ (J1.go j H ∧ ∃ Nx1 : Hp → Prop, (∀ H', Nx1 H' → ∃ k', k' < k ∧ W1 (j + 1) k' H') ∧ ∀ x H', J1.yld j H x H' → g1 x (wipe σ2 vs1) H' fun σ3 H5 => wipe σ3 vs1 = wipe σ2 vs1 ∧ tt1 σ3 H5 fun b H6 =>
          if b = true then te σ3 H6 fun y H7 => ∃ acc, H7 D = some (.lst acc) ∧ acc.length < sizeLine ∧ Nx1 (upd H7 D (.lst (acc ++ [y]))) else Nx1 H6)
      else Pv (i + 1) H3) (hd : ∀ H, Pv n H → Qd H) :
    ∃ W : Nat → Nat → Hp → Prop, (∃ m, W 0 m (upd H1 D (.lst []))) ∧ ∀ i m H, W i m H →
      (J.stop i H ∧ Qd H) ∨ (J.go i H ∧ ∃ Nx : Hp → Prop, (∀ H', Nx H' → ∃ m', m' < m ∧ W (i + 1) m' H') ∧ ∀ x H', J.yld i H x H' → g x (wipe σ vs) H' fun σ2 H2 => wipe σ2 vs = wipe σ vs ∧ tt σ2 H2 fun b H3 =>
        if b = true then wi1 σ2 H3 fun J1 H4 => ∃ W1 : Nat → Nat → Hp → Prop, (∃ m, W1 0 m H4) ∧ ∀ j k H, W1 j k H →
          (J1.stop j H ∧ Nx H) ∨ (J1.go j H ∧ ∃ Nx1 : Hp → Prop, (∀ H', Nx1 H' → ∃ k', k' < k ∧ W1 (j + 1) k' H') ∧ ∀ x H', J1.yld j H x H' → g1 x (wipe σ2 vs1) H' fun σ3 H5 => wipe σ3 vs1 = wipe σ2 vs1 ∧ tt1 σ3 H5 fun b H6 =>
            if b = true then te σ3 H6 fun y H7 => ∃ acc, H7 D = some (.lst acc) ∧ acc.length < sizeLine ∧ Nx1 (upd H7 D (.lst (acc ++ [y]))) else Nx1 H6)
        else Nx H3) := by
  refine ⟨fun i m H => m = n - i ∧ i ≤ n ∧ Pv i H, ⟨n, by simp, Nat.zero_le _, h0⟩, ?_⟩
  rintro i m H ⟨rfl, hi, p⟩
  have q := hG i H hi p
  by_cases hlt : i < n
  · refine .inr ⟨w.goes i H hlt q, Pv (i + 1), fun H' p' => ⟨n - (i + 1), by omega, rfl, hlt, p'⟩, fun x H' y => hs i x H H' hlt p (w.yields i H x H' hlt q y)⟩
  · have e : i = n := by omega
    subst e
    exact .inl ⟨w.stops H q, hd H p⟩
/-- tuples are as they were -/
def TKp (K : PySem.W.Frag) (H H' : Hp) : Prop := ∀ a xs, SqT K H a xs → SqT K H' a xs
theorem TKp.refl (K : PySem.W.Frag) (H : Hp) : TKp K H H := fun _ _ h => h
theorem TKp.trans {K : PySem.W.Frag} {H H1 H2 : Hp} (a : TKp K H H1) (b : TKp K H1 H2) : TKp K H H2 := fun c xs h => b c xs (a c xs h)
theorem TKp.put {K : PySem.W.Frag} {H : Hp} {d : Addr} {o o' : HO} (e : H d = some o) (n1 : ∀ xs, o ≠ .tup xs) (n2 : ∀ u xs, o ≠ .frz u (.tup xs)) : TKp K H (upd H d o') := by
  intro a xs h
  rcases h with h | h
  · rcases h with h | ⟨u, h⟩
    · exact .inl (.inl (by rw [upd_ne (ne_of h e (n1 _).symm)]; exact h))
    · exact .inl (.inr ⟨u, by rw [upd_ne (ne_of h e (n2 _ _).symm)]; exact h⟩)
  · exact .inr h
theorem TKp.lst {K : PySem.W.Frag} {H : Hp} {d : Addr} {ys : List V} {o' : HO} (e : H d = some (.lst ys)) : TKp K H (upd H d o') := TKp.put e (fun _ z => by cases z) (fun _ _ z => by cases z)
theorem TKp.ext {K : PySem.W.Frag} {H : Hp} {d : Addr} {p : Heap → Prop} {o' : HO} (e : H d = some (.ext p)) : TKp K H (upd H d o') := TKp.put e (fun _ z => by cases z) (fun _ _ z => by cases z)
theorem TKp.ins {K : PySem.W.Frag} {H : Hp} {d C dx : Addr} {fs : List (Str × V)} {o' : HO} (e : H d = some (.ins C dx fs)) : TKp K H (upd H d o') := TKp.put e (fun _ z => by cases z) (fun _ _ z => by cases z)
end Fw

set_option maxRecDepth 100000
set_option maxHeartbeats 4000000
/-! xs.extend(t), t a tuple. -/
namespace PySem
namespace AutoSeq1
open PySem.Spec
set_option maxRecDepth 8000 in
theorem list_extend_list_tup (l : Addr) (items : Array Value) (n : Nat) (b : Addr) (items2 : Array Value) (n2 : Nat) (dd : Option Addr) (sl : Array (Option Value)) (hs0 : ¬(!items.isEmpty && Builtin.List.listTooLong (items.size + items2.size)) = true) (hs1 : items.size ≤ sizeLine) (hs2 : items.size + items2.size ≤ sizeLine + 1) :
    Meets (Builtin.«list.extend» ⟨[.ref l, .ref b], []⟩) (fun _ R s => s.heap.get? l = some { cls := .type "list", dict := none, data := .seq items n, slots := #[] } ∧ s.heap.get? b = some { cls := .type "tuple", dict := dd, data := .seq items2 n2, slots := sl } ∧ R (.ok (.ret Value.none)) { s with heap := s.heap.update l (Obj.mapSeq fun x => x ++ items2), toks := s.toks }) :=
  .of_wp fun prog w A R s h => by
    obtain ⟨hp, g, d, tk, os⟩ := s; obtain ⟨hl, hb, h⟩ := h; have f1 := idx_int; have f2 := sub_tuple_tuple; have f3 := sub_list_list; have f4 := sub_tuple_list; have f5 := sub_list_tuple;
    have hz' : (items ++ items2).size ≤ sizeLine + 1 := by rw [Array.size_append]; exact hs2
    wp_walk using (wpAny_updateSeq hl rfl (hz := hs1) (_hz' := hz')), wpAny_loadPart' hl, wpAny_loadPart' hb; exact ⟨_, rfl, h⟩
end AutoSeq1
end PySem
namespace Fw
open PySem PySem.Spec PyProof.Rows L2
section
variable {X : Cx}
def rExtendT (K : PySem.W.Frag) : V → List V → Hp → VK → Prop := fun x vs H Q => ∃ l b xs zs, x = .ref l ∧ vs = [.ref b] ∧ H l = some (.lst xs) ∧ SqT K H b zs ∧ xs.length + zs.length ≤ sizeLine ∧ Q .non (upd H l (.lst (xs ++ zs)))
theorem mt_extendT : MtM X "list.extend" (rExtendT X.K) := by
  intro pins s σ H x vs v us Q I rx rv h
  obtain ⟨l, b, xs, zs, rfl, rfl, hH, hB, hz, q⟩ := h
  cases rx
  obtain ⟨u, rfl, ru⟩ := rv.one
  cases ru
  obtain ⟨z, its, n, r, hl, e⟩ := I.lstM hH
  obtain ⟨its2, r2, ⟨⟨cls, dd, data, sls⟩, e2, hc, n2, hd⟩, hl2⟩ := I.tuple hB
  simp only at hc hd
  subst hc hd
  have q1 := r.length
  have q2 := r2.length
  have hsz : its.toArray.size + its2.toArray.size ≤ sizeLine := by rw [List.size_toArray, List.size_toArray]; omega
  have hlong : ¬ (!its.toArray.isEmpty && Builtin.List.listTooLong (its.toArray.size + its2.toArray.size)) = true := by
    rw [notLongL hsz, Bool.and_false]
    exact Bool.false_ne_true
  refine call_meets F.slot_list_extend ⟨_, e, rfl⟩ F.entry_list_extend (F.args_list_extend_2 _ _)
    (AutoSeq1.list_extend_list_tup l its.toArray n b its2.toArray n2 dd sls hlong (by rw [List.size_toArray]; omega) (by omega)) ⟨e, e2, ?_⟩
  refine ⟨.non, _, I.lset (its' := its ++ its2) hH e (by simp) (r.append r2) ?_, rfl, q⟩
  rw [List.length_append]
  omega
end
end Fw

set_option maxRecDepth 100000
set_option maxHeartbeats 2000000
namespace Fw
open PySem PySem.Spec PyProof.Rows L2
/-! ### the text by places -/
def top (i : Nat) : Stmt := PySem.Challenge.pw_fixworlds_k03_closures.main.body.getD i (.Pass ⟨0, 0, 0, 0⟩)
abbrev s_Part_init : Stmt := inClass (top 6) 0
abbrev s_head_of : Stmt := top 7
abbrev s_parts_of : Stmt := top 8
abbrev s_built : Stmt := top 9
abbrev s_nearest_around : Stmt := top 10
abbrev s_binder_places : Stmt := top 11
abbrev s_Shelf_init : Stmt := inClass (top 13) 0
abbrev s_Shelf_number : Stmt := inClass (top 13) 1
abbrev s_Shelf__free_in : Stmt := inClass (top 13) 2
abbrev s_Shelf_numbered : Stmt := inClass (top 13) 3
abbrev s_Shelf_unfolding : Stmt := inClass (top 13) 4
abbrev s_Shelf__parts_with_free : Stmt := inClass (top 13) 5
abbrev s_free_variables : Stmt := top 15
abbrev s_ensure_closed : Stmt := top 16
abbrev s_tidy : Stmt := top 17
abbrev s_unfolded : Stmt := top 18
abbrev s_closure : Stmt := top 19
abbrev s_closure_numbers : Stmt := top 20
abbrev s_behind : Stmt := top 21
abbrev s_law_draws : Stmt := top 23
abbrev s_law_take : Stmt := top 24
abbrev s_law_inner : Stmt := top 25
abbrev s_law_size : Stmt := top 26
abbrev s_law_atom : Stmt := top 27
abbrev s_law_statement : Stmt := top 28
abbrev s_law_closed : Stmt := top 29
abbrev s_law_put : Stmt := top 30
abbrev s_law_tidy_from : Stmt := top 31
abbrev s_law_tidy : Stmt := top 32
abbrev s_law_following : Stmt := top 33
abbrev s_law_closure : Stmt := top 34
abbrev s_law_is_list : Stmt := top 35
abbrev s_law : Stmt := top 36
abbrev n_Part_init : List Str := ["self", "head", "around"]
abbrev a_Part_init : List Str := ["self", "head", "around"]
theorem sc_Part_init : FnScope n_Part_init a_Part_init (defScope s_Part_init) := ⟨rfl, rfl, rfl, by decide +kernel, rfl, by decide +kernel, by decide +kernel⟩
abbrev n_head_of : List Str := ["statement"]
abbrev a_head_of : List Str := ["statement"]
theorem sc_head_of : FnScope n_head_of a_head_of (defScope s_head_of) := ⟨rfl, rfl, rfl, by decide +kernel, rfl, by decide +kernel, by decide +kernel⟩
abbrev n_parts_of : List Str := ["statement", "parts", "waiting", "told", "around", "head", "at", "within"]
abbrev a_parts_of : List Str := ["statement"]
theorem sc_parts_of : FnScope n_parts_of a_parts_of (defScope s_parts_of) := ⟨rfl, rfl, rfl, by decide +kernel, rfl, by decide +kernel, by decide +kernel⟩
abbrev n_built : List Str := ["parts", "heads", "made", "at", "place"]
abbrev a_built : List Str := ["parts", "heads"]
theorem sc_built : FnScope n_built a_built (defScope s_built) := ⟨rfl, rfl, rfl, by decide +kernel, rfl, by decide +kernel, by decide +kernel⟩
abbrev n_nearest_around : List Str := ["parts", "words", "nearest", "part", "around"]
abbrev a_nearest_around : List Str := ["parts", "words"]
theorem sc_nearest_around : FnScope n_nearest_around a_nearest_around (defScope s_nearest_around) := ⟨rfl, rfl, rfl, by decide +kernel, rfl, by decide +kernel, by decide +kernel⟩
abbrev n_binder_places : List Str := ["parts", "nearest", "places", "at", "part", "place"]
abbrev a_binder_places : List Str := ["parts"]
theorem sc_binder_places : FnScope n_binder_places a_binder_places (defScope s_binder_places) := ⟨rfl, rfl, rfl, by decide +kernel, rfl, by decide +kernel, by decide +kernel⟩
abbrev n_Shelf_init : List Str := ["self"]
abbrev a_Shelf_init : List Str := ["self"]
theorem sc_Shelf_init : FnScope n_Shelf_init a_Shelf_init (defScope s_Shelf_init) := ⟨rfl, rfl, rfl, by decide +kernel, rfl, by decide +kernel, by decide +kernel⟩
abbrev n_Shelf_number : List Str := ["self", "head", "inner", "key", "at"]
abbrev a_Shelf_number : List Str := ["self", "head", "inner"]
theorem sc_Shelf_number : FnScope n_Shelf_number a_Shelf_number (defScope s_Shelf_number) := ⟨rfl, rfl, rfl, by decide +kernel, rfl, by decide +kernel, by decide +kernel⟩
abbrev n_Shelf__free_in : List Str := ["self", "head", "inner", "found", "at", "variable"]
abbrev a_Shelf__free_in : List Str := ["self", "head", "inner"]
theorem sc_Shelf__free_in : FnScope n_Shelf__free_in a_Shelf__free_in (defScope s_Shelf__free_in) := ⟨rfl, rfl, rfl, by decide +kernel, rfl, by decide +kernel, by decide +kernel⟩
abbrev n_Shelf_numbered : List Str := ["self", "statement", "parts", "numbers", "at", "inner", "place"]
abbrev a_Shelf_numbered : List Str := ["self", "statement"]
theorem sc_Shelf_numbered : FnScope n_Shelf_numbered a_Shelf_numbered (defScope s_Shelf_numbered) := ⟨rfl, rfl, rfl, by decide +kernel, rfl, by decide +kernel, by decide +kernel⟩
abbrev n_Shelf_unfolding : List Str := ["self", "number", "variable", "scope", "changed", "at", "inner", "part"]
abbrev a_Shelf_unfolding : List Str := ["self", "number"]
theorem sc_Shelf_unfolding : FnScope n_Shelf_unfolding a_Shelf_unfolding (defScope s_Shelf_unfolding) := ⟨rfl, rfl, rfl, by decide +kernel, rfl, by decide +kernel, by decide +kernel⟩
abbrev n_Shelf__parts_with_free : List Str := ["self", "number", "variable", "found", "waiting", "at"]
abbrev a_Shelf__parts_with_free : List Str := ["self", "number", "variable"]
theorem sc_Shelf__parts_with_free : FnScope n_Shelf__parts_with_free a_Shelf__parts_with_free (defScope s_Shelf__parts_with_free) := ⟨rfl, rfl, rfl, by decide +kernel, rfl, by decide +kernel, by decide +kernel⟩
abbrev n_free_variables : List Str := ["statement", "parts", "places", "part", "place"]
abbrev a_free_variables : List Str := ["statement"]
theorem sc_free_variables : FnScope n_free_variables a_free_variables (defScope s_free_variables) := ⟨rfl, rfl, rfl, by decide +kernel, rfl, by decide +kernel, by decide +kernel⟩
abbrev n_ensure_closed : List Str := ["statement"]
abbrev a_ensure_closed : List Str := ["statement"]
theorem sc_ensure_closed : FnScope n_ensure_closed a_ensure_closed (defScope s_ensure_closed) := ⟨rfl, rfl, rfl, by decide +kernel, rfl, by decide +kernel, by decide +kernel⟩
abbrev n_tidy : List Str := ["statement", "parts", "places", "numbers", "heads", "at", "part", "head"]
abbrev a_tidy : List Str := ["statement"]
theorem sc_tidy : FnScope n_tidy a_tidy (defScope s_tidy) := ⟨rfl, rfl, rfl, by decide +kernel, rfl, by decide +kernel, by decide +kernel⟩
abbrev n_unfolded : List Str := ["statement", "shelf"]
abbrev a_unfolded : List Str := ["statement"]
theorem sc_unfolded : FnScope n_unfolded a_unfolded (defScope s_unfolded) := ⟨rfl, rfl, rfl, by decide +kernel, rfl, by decide +kernel, by decide +kernel⟩
abbrev n_closure : List Str := ["statement", "shelf", "number"]
abbrev a_closure : List Str := ["statement"]
theorem sc_closure : FnScope n_closure a_closure (defScope s_closure) := ⟨rfl, rfl, rfl, by decide +kernel, rfl, by decide +kernel, by decide +kernel⟩
abbrev n_closure_numbers : List Str := ["shelf", "statement", "found", "known", "done", "number"]
abbrev a_closure_numbers : List Str := ["shelf", "statement"]
theorem sc_closure_numbers : FnScope n_closure_numbers a_closure_numbers (defScope s_closure_numbers) := ⟨rfl, rfl, rfl, by decide +kernel, rfl, by decide +kernel, by decide +kernel⟩
abbrev n_behind : List Str := ["shelf", "number"]
abbrev a_behind : List Str := ["shelf", "number"]
theorem sc_behind : FnScope n_behind a_behind (defScope s_behind) := ⟨rfl, rfl, rfl, by decide +kernel, rfl, by decide +kernel, by decide +kernel⟩
abbrev n_law_draws : List Str := ["script", "count", "cells", "found", "mixed", "k", "j", "cell", "again"]
abbrev a_law_draws : List Str := ["script", "count"]
theorem sc_law_draws : FnScope n_law_draws a_law_draws (defScope s_law_draws) := ⟨rfl, rfl, rfl, by decide +kernel, rfl, by decide +kernel, by decide +kernel⟩
abbrev n_law_take : List Str := ["draws", "limit"]
abbrev a_law_take : List Str := ["draws", "limit"]
theorem sc_law_take : FnScope n_law_take a_law_take (defScope s_law_take) := ⟨rfl, rfl, rfl, by decide +kernel, rfl, by decide +kernel, by decide +kernel⟩
abbrev n_law_inner : List Str := ["statement", "part"]
abbrev a_law_inner : List Str := ["statement"]
theorem sc_law_inner : FnScope n_law_inner a_law_inner (defScope s_law_inner) := ⟨rfl, rfl, rfl, by decide +kernel, rfl, by decide +kernel, by decide +kernel⟩
abbrev n_law_size : List Str := ["statement", "part"]
abbrev a_law_size : List Str := ["statement"]
theorem sc_law_size : FnScope n_law_size a_law_size (defScope s_law_size) := ⟨rfl, rfl, rfl, by decide +kernel, rfl, by decide +kernel, by decide +kernel⟩
abbrev n_law_atom : List Str := ["draws", "ready", "kind"]
abbrev a_law_atom : List Str := ["draws", "ready"]
theorem sc_law_atom : FnScope n_law_atom a_law_atom (defScope s_law_atom) := ⟨rfl, rfl, rfl, by decide +kernel, rfl, by decide +kernel, by decide +kernel⟩
abbrev n_law_statement : List Str := ["draws", "depth", "waiting", "ready", "loose", "kind", "first", "label", "variable", "later", "usable", "other"]
abbrev a_law_statement : List Str := ["draws", "depth", "waiting", "ready", "loose"]
theorem sc_law_statement : FnScope n_law_statement a_law_statement (defScope s_law_statement) := ⟨rfl, rfl, rfl, by decide +kernel, rfl, by decide +kernel, by decide +kernel⟩
abbrev n_law_closed : List Str := ["draws", "depth"]
abbrev a_law_closed : List Str := ["draws", "depth"]
theorem sc_law_closed : FnScope n_law_closed a_law_closed (defScope s_law_closed) := ⟨rfl, rfl, rfl, by decide +kernel, rfl, by decide +kernel, by decide +kernel⟩
abbrev n_law_put : List Str := ["statement", "variable", "other", "part"]
abbrev a_law_put : List Str := ["statement", "variable", "other"]
theorem sc_law_put : FnScope n_law_put a_law_put (defScope s_law_put) := ⟨rfl, rfl, rfl, by decide +kernel, rfl, by decide +kernel, by decide +kernel⟩
abbrev n_law_tidy_from : List Str := ["statement", "names", "number", "inner", "name", "scope", "after", "found", "part"]
abbrev a_law_tidy_from : List Str := ["statement", "names", "number"]
theorem sc_law_tidy_from : FnScope n_law_tidy_from a_law_tidy_from (defScope s_law_tidy_from) := ⟨rfl, rfl, rfl, by decide +kernel, rfl, by decide +kernel, by decide +kernel⟩
abbrev n_law_tidy : List Str := ["statement"]
abbrev a_law_tidy : List Str := ["statement"]
theorem sc_law_tidy : FnScope n_law_tidy a_law_tidy (defScope s_law_tidy) := ⟨rfl, rfl, rfl, by decide +kernel, rfl, by decide +kernel, by decide +kernel⟩
abbrev n_law_following : List Str := ["statement"]
abbrev a_law_following : List Str := ["statement"]
theorem sc_law_following : FnScope n_law_following a_law_following (defScope s_law_following) := ⟨rfl, rfl, rfl, by decide +kernel, rfl, by decide +kernel, by decide +kernel⟩
abbrev n_law_closure : List Str := ["statement", "found", "at", "part"]
abbrev a_law_closure : List Str := ["statement"]
theorem sc_law_closure : FnScope n_law_closure a_law_closure (defScope s_law_closure) := ⟨rfl, rfl, rfl, by decide +kernel, rfl, by decide +kernel, by decide +kernel⟩
abbrev n_law_is_list : List Str := ["actual", "expected"]
abbrev a_law_is_list : List Str := ["actual", "expected"]
theorem sc_law_is_list : FnScope n_law_is_list a_law_is_list (defScope s_law_is_list) := ⟨rfl, rfl, rfl, by decide +kernel, rfl, by decide +kernel, by decide +kernel⟩
abbrev n_law : List Str := ["script", "draws", "statement", "expected", "part"]
abbrev a_law : List Str := ["script"]
theorem sc_law : FnScope n_law a_law (defScope s_law) := ⟨rfl, rfl, rfl, by decide +kernel, rfl, by decide +kernel, by decide +kernel⟩
/-! ### calls -/
def Has (P : Program) (w : World) (K : PySem.W.Frag) (mg : Str → Option Value) (base : Heap) (x : Str) (k : Nat) (ps : List Str) (sp : Sp) : Prop :=
  ∃ f fd, mg x = some (.ref f) ∧ PySem.W.keepIn K (.ref f) = true ∧ Binds K fd ps [] ∧ FnOk P w K mg base CX0 k f fd ps sp
theorem pe_callH {X : Cx} {x : Str} {k : Nat} {ps : List Str} {sp : Sp} {e : Expr} {es : List Expr} {t : TA} {p pos : Pos} (h : Has X.prog X.w X.K X.mg X.base x k ps sp) (hr : Room k X.A) (ha : PA X (e :: es) t) (hg : Gl X x := by rfl)
    (hdb : (x == ("__debug__" : Str)) = false := by decide) (he : starEach (e :: es) X.env = (false, eval e X.env) :: starEach es X.env := by rfl) (hpl : (backTo pos (starEach es X.env)).any (·.1) = false := by rfl) :
    PE X (.Call (.Name x p) (e :: es) [] pos) (tCall sp [] E0 t) := by
  obtain ⟨f, fd, m, kp, b, G⟩ := h
  exact pe_call G hr hg m kp b .nil pass0 ha hdb he hpl
/-- .. of a def that may raise -/
def HasX (P : Program) (w : World) (K : PySem.W.Frag) (mg : Str → Option Value) (base : Heap) (x : Str) (k : Nat) (ps : List Str) (sp : Sp) : Prop :=
  ∃ f fd, mg x = some (.ref f) ∧ PySem.W.keepIn K (.ref f) = true ∧ Binds K fd ps [] ∧ FnOk P w K mg base (L2.CX P w) k f fd ps sp
theorem pe_callX {X : Cx} {W : WX} {x : Str} {k : Nat} {ps : List Str} {sp : Sp} {e : Expr} {es : List Expr} {t : TA} {p pos : Pos} (h : HasX X.prog X.w X.K X.mg X.base x k ps sp) (hr : Room k X.A) (tk : Takes X W) (ha : PA X (e :: es) t) (hg : Gl X x := by rfl)
    (hdb : (x == ("__debug__" : Str)) = false := by decide) (he : starEach (e :: es) X.env = (false, eval e X.env) :: starEach es X.env := by rfl) (hpl : (backTo pos (starEach es X.env)).any (·.1) = false := by rfl) :
    PE X (.Call (.Name x p) (e :: es) [] pos) (tCallS sp (WE W) t) := by
  obtain ⟨f, fd, m, kp, b, G⟩ := h
  exact pe_callS G hr hg m kp b (fun σ => passAt tk σ) ha hdb he hpl
theorem pe_callL {X : Cx} {x : Str} {k : Nat} {ps : List Str} {sp : Sp} {e : Expr} {es : List Expr} {t : TA} {p pos : Pos} (h : HasX X.prog X.w X.K X.mg X.base x k ps sp) (hr : Room k X.A) (ha : PA X (e :: es) t) (hg : Gl X x := by rfl)
    (hdb : (x == ("__debug__" : Str)) = false := by decide) (he : starEach (e :: es) X.env = (false, eval e X.env) :: starEach es X.env := by rfl) (hpl : (backTo pos (starEach es X.env)).any (·.1) = false := by rfl) :
    PE X (.Call (.Name x p) (e :: es) [] pos) (tCall sp [] E0 t) := by
  obtain ⟨f, fd, m, kp, b, G⟩ := h
  exact pe_call G hr hg m kp b .nil passL ha hdb he hpl
theorem pss_when {X : Cx} {sts : List Stmt} {t : TS} {p : Prop} (h : p → PSs X sts t) : PSs X sts (fun D σ H => p ∧ t D σ H) :=
  ⟨fun pins s σ H D I q => (h q.1).run pins s σ H D I q.2⟩
def HasC (P : Program) (w : World) (K : PySem.W.Frag) (mg : Str → Option Value) (base : Heap) (x : Str) (C : Addr) (k : Nat) (ps : List Str) (sp : Sp) : Prop :=
  ∃ f fd, mg x = some (.ref C) ∧ Mk K C f ∧ Binds K fd ps [] ∧ FnOk P w K mg base CX0 k f fd ps sp
theorem pe_makeH {X : Cx} {x : Str} {C : Addr} {k : Nat} {ps : List Str} {sp : Sp} {e : Expr} {es : List Expr} {t : TA} {p pos : Pos} (h : HasC X.prog X.w X.K X.mg X.base x C k ps sp) (hr : Room (k + 1) X.A) (ha : PA X (e :: es) t) (hg : Gl X x := by rfl)
    (hdb : (x == ("__debug__" : Str)) = false := by decide) (he : starEach (e :: es) X.env = (false, eval e X.env) :: starEach es X.env := by rfl) (hpl : (backTo pos (starEach es X.env)).any (·.1) = false := by rfl) :
    PE X (.Call (.Name x p) (e :: es) [] pos) (tMake C sp [] E0 t) := by
  obtain ⟨f, fd, m, M, b, G⟩ := h
  exact pe_make M G hr hg m b .nil pass0 ha hdb he hpl
/-! ### statements in memory -/
def wN (b : Bool) : Str := if b then "true" else "false"
def wT (b : Bool) : Str := if b then "and" else "or"
def wL : Leaf → Str
  | .has => "has"
  | .lacks => "lacks"
  | .var => "var"
def wO : One → Str
  | .some => "some"
  | .all => "all"
  | .least => "least"
  | .most => "most"
def hv : Hd → List V
  | .nul b => [.str (wN b)]
  | .leaf k n => [.str (wL k), .int n]
  | .two b => [.str (wT b)]
  | .one k n => [.str (wO k), .int n]
def hw : Hd → Str
  | .nul b => wN b
  | .leaf k _ => wL k
  | .two b => wT b
  | .one k _ => wO k
inductive IsF (K : PySem.W.Frag) (H : Hp) : V → F → Prop
  | nul {a : Addr} {b : Bool} : SqT K H a (hv (.nul b)) → IsF K H (.ref a) (.nul b)
  | leaf {a : Addr} {k : Leaf} {n : Int} : SqT K H a (hv (.leaf k n)) → IsF K H (.ref a) (.leaf k n)
  | two {a : Addr} {b : Bool} {x y : V} {f g : F} : SqT K H a (hv (.two b) ++ [x, y]) → IsF K H x f → IsF K H y g → IsF K H (.ref a) (.two b f g)
  | one {a : Addr} {k : One} {n : Int} {x : V} {f : F} : SqT K H a (hv (.one k n) ++ [x]) → IsF K H x f → IsF K H (.ref a) (.one k n f)
/-- all but what stands at d is as it was -/
def But (d : Addr) (H H' : Hp) : Prop := ∀ b o, b ≠ d → H b = some o → H' b = some o
theorem Same.but {d : Addr} {H H' : Hp} (s : Same H H') : But d H H' := fun b o _ e => s b o e
theorem But.refl (d : Addr) (H : Hp) : But d H H := fun _ _ _ e => e
theorem But.trans {d : Addr} {H H1 H2 : Hp} (a : But d H H1) (b : But d H1 H2) : But d H H2 := fun c o n e => b c o n (a c o n e)
theorem But.upd {d : Addr} {H : Hp} {o : HO} : But d H (upd H d o) := fun b u n e => by rw [upd_ne n]; exact e
theorem Same.new {H : Hp} {p : Addr} {o : HO} (h : H p = none) : Same H (upd H p o) := fun b u e => by rw [upd_ne (ne_of_none e h)]; exact e
theorem SqT.keepAt {K : PySem.W.Frag} {H H' : Hp} {a : Addr} {xs : List V} (k : ∀ o, H a = some o → H' a = some o) (h : SqT K H a xs) : SqT K H' a xs := by
  rcases h with h | h
  · rcases h with h | ⟨u, h⟩
    · exact .inl (.inl (k _ h))
    · exact .inl (.inr ⟨u, k _ h⟩)
  · exact .inr h
theorem SqL.keepAt {K : PySem.W.Frag} {H H' : Hp} {a : Addr} {xs : List V} (k : ∀ o, H a = some o → H' a = some o) (h : SqL K H a xs) : SqL K H' a xs := by
  rcases h with h | h
  · rcases h with h | ⟨u, h⟩
    · exact .inl (.inl (k _ h))
    · exact .inl (.inr ⟨u, k _ h⟩)
  · exact .inr h
theorem SqT.same {K : PySem.W.Frag} {H H' : Hp} {a : Addr} {xs : List V} (s : Same H H') (h : SqT K H a xs) : SqT K H' a xs := SqT.keepAt (fun o e => s a o e) h
/-- what stands at d is a list: tuples are elsewhere -/
def IsLst (H : Hp) (d : Addr) : Prop := ∃ xs, H d = some (.lst xs)
theorem SqT.but {K : PySem.W.Frag} {H H' : Hp} {a d : Addr} {xs : List V} (hd : IsLst H d) (s : But d H H') (h : SqT K H a xs) : SqT K H' a xs := by
  rcases h with h | h
  · obtain ⟨ys, e⟩ := hd
    rcases h with h | ⟨u, h⟩
    · exact .inl (.inl (s _ _ (ne_of h e (by intro z; cases z)) h))
    · exact .inl (.inr ⟨u, s _ _ (ne_of h e (by intro z; cases z)) h⟩)
  · exact .inr h
theorem IsF.map {K : PySem.W.Frag} {H H' : Hp} (s : ∀ a xs, SqT K H a xs → SqT K H' a xs) {v : V} {t : F} (h : IsF K H v t) : IsF K H' v t := by
  induction h with
  | nul h => exact .nul (s _ _ h)
  | leaf h => exact .leaf (s _ _ h)
  | two h _ _ f g => exact .two (s _ _ h) f g
  | one h _ f => exact .one (s _ _ h) f
theorem IsF.same {K : PySem.W.Frag} {H H' : Hp} (s : Same H H') {v : V} {t : F} (h : IsF K H v t) : IsF K H' v t := h.map fun _ _ => SqT.same s
theorem IsF.but {K : PySem.W.Frag} {H H' : Hp} {d : Addr} (hd : IsLst H d) (s : But d H H') {v : V} {t : F} (h : IsF K H v t) : IsF K H' v t := h.map fun _ _ => SqT.but hd s
inductive AllF (K : PySem.W.Frag) (H : Hp) : List V → List F → Prop
  | nil : AllF K H [] []
  | cons {x : V} {f : F} {xs : List V} {fs : List F} : IsF K H x f → AllF K H xs fs → AllF K H (x :: xs) (f :: fs)
theorem IsF.open {K : PySem.W.Frag} {H : Hp} {v : V} {t : F} (h : IsF K H v t) : ∃ a ks, v = .ref a ∧ SqT K H a (hv t.hd ++ ks) ∧ AllF K H ks t.kids := by
  cases h with
  | nul h => exact ⟨_, [], rfl, by simpa [F.hd] using h, .nil⟩
  | leaf h => exact ⟨_, [], rfl, by simpa [F.hd] using h, .nil⟩
  | two h f g => exact ⟨_, _, rfl, h, .cons f (.cons g .nil)⟩
  | one h f => exact ⟨_, _, rfl, h, .cons f .nil⟩
theorem IsF.close {K : PySem.W.Frag} {H : Hp} {a : Addr} {t : F} {ks : List V} (h : SqT K H a (hv t.hd ++ ks)) (hk : AllF K H ks t.kids) : IsF K H (.ref a) t := by
  cases t with
  | nul b =>
    cases hk
    exact .nul (by simpa [F.hd] using h)
  | leaf k n =>
    cases hk
    exact .leaf (by simpa [F.hd] using h)
  | two b f g =>
    cases hk with
    | cons x hk =>
      cases hk with
      | cons y hk =>
        cases hk
        exact .two h x y
  | one k n f =>
    cases hk with
    | cons x hk =>
      cases hk
      exact .one h x
theorem hv_len (h : Hd) : (hv h).length = 1 ∨ (hv h).length = 2 := by cases h <;> simp [hv]
theorem hv_head (h : Hd) : (hv h)[0]? = some (.str (hw h)) := by cases h <;> rfl
def isTwo : Hd → Bool
  | .two _ => true
  | _ => false
theorem in_joins (h : Hd) : inV (.str (hw h)) [.str "and", .str "or"] = isTwo h := by
  cases h with
  | nul b => cases b <;> rfl
  | leaf k n => cases k <;> rfl
  | two b => cases b <;> rfl
  | one k n => cases k <;> rfl
def isBH : Hd → Bool
  | .one k _ => k.bind
  | _ => false
theorem in_binders (h : Hd) : inV (.str (hw h)) [.str "least", .str "most"] = isBH h := by
  cases h with
  | nul b => cases b <;> rfl
  | leaf k n => cases k <;> rfl
  | two b => cases b <;> rfl
  | one k n => cases k <;> rfl
/-! ### what the top has written -/
structure Txt (K : PySem.W.Frag) (mg : Str → Option Value) (C J B : Addr) : Prop where
  z_enumerate : mg "enumerate" = none
  z_int : mg "int" = none
  z_isinstance : mg "isinstance" = none
  z_len : mg "len" = none
  z_list : mg "list" = none
  z_range : mg "range" = none
  z_reversed : mg "reversed" = none
  z_set : mg "set" = none
  z_sorted : mg "sorted" = none
  z_sum : mg "sum" = none
  z_tuple : mg "tuple" = none
  z_zip : mg "zip" = none
  m_JOINS : mg "JOINS" = some (.ref J)
  c_JOINS : ∀ H, SqT K H J [.str "and", .str "or"]
  m_BINDERS : mg "BINDERS" = some (.ref B)
  c_BINDERS : ∀ H, SqT K H B [.str "least", .str "most"]
  cl : Cls K C
  nH : NoAttr K C "head"
  nA : NoAttr K C "around"
  nI : NoAttr K C "inner"
/-- what it has written of the errors -/
structure TxtE (K : PySem.W.Frag) (mg : Str → Option Value) (NC FE : Addr) : Prop where
  gC : mg "NotClosed" = some (.ref NC)
  gF : mg "FixError" = some (.ref FE)
  xC : PySem.W.excIn K NC [.type "ValueError", .type "Exception", .type "BaseException", .type "object"] "ValueError.__new__" = true
  kC : PySem.W.keepIn K (.ref NC) = true
  bC : PySem.W.subIn K (.ref NC) (.type "BaseException") = some true
  tC : PySem.W.typeIn K (.ref NC) = some (.type "type")
  eC : PySem.W.exmOne K (.ref NC) (.ref NC) = some true
  is : ExcC K NC
  kF : PySem.W.kitOne K (.ref NC) (.ref FE) = some true
  kV : PySem.W.kitOne K (.ref NC) (.type "ValueError") = some true
def pf (h : V) (a : Int) (l : Addr) : List (Str × V) := [("head", h), ("around", .int a), ("inner", .ref l)]
theorem pf_make (h : V) (a : Int) (l : Addr) : putF "inner" (.ref l) (putF "around" (.int a) (putF "head" h [])) = pf h a l := by rfl
theorem join {c : Bool} {A : Prop} {C : Hp → Prop} {G : Hp} (Fa : Hp → Prop) (hr : ∀ G5, Fa G5 → C G5) (h1 : c = true → (∀ G5, Fa G5 → C G5) → A) (h2 : c = false → Fa G) : if c = true then A else C G := by
  cases c with
  | true => exact h1 rfl hr
  | false => exact hr _ (h2 rfl)
section
variable {P : Program} {w : World} {K : PySem.W.Frag} {mg : Str → Option Value} {base : Heap} {C J B : Addr}
/-! ### Part -/
def spPart (K : PySem.W.Frag) (C : Addr) : Sp := fun vs H Q _ => ∃ (p dx : Addr) (h : V) (a : Int), vs = [.ref p, h, .int a] ∧ H p = some (.ins C dx []) ∧
  ∀ l H', H l = none → H' p = some (.ins C dx (pf h a l)) → H' l = some (.lst []) → But p H H' → Q .non H'
theorem ok_Part {f : Addr} {fd : FuncData} (FF : Fun K "__init__" "Part.__init__" s_Part_init f fd) (T : Txt K mg C J B) : FnOk P w K mg base CX0 1 f fd a_Part_init (spPart K C) := by
  refine FF.ok sc_Part_init (fun vs H Q E h => ?_) (fun cdv A outer s H vs Q E hr h => ?_)
  · obtain ⟨p, dx, h, a, rfl, _⟩ := h
    rfl
  · obtain ⟨p, dx, h, a, rfl, hp, k⟩ := h
    refine ⟨_, (pss_cons (ps_fld (pv 0) (pv 1) rfl)
      (pss_cons (ps_fld (pv 0) (pv 2) rfl)
      (pss_one (ps_fld (pv 0) (pe_lst pa_nil) rfl)))), ?_⟩
    refine ⟨_, rfl, _, rfl, p, C, dx, [], rfl, hp, T.cl, T.nH, by show 0 < 1000; decide, ?_⟩
    refine ⟨_, rfl, _, rfl, p, C, dx, _, rfl, upd_same, T.cl, T.nA, by show 1 < 1000; decide, ?_⟩
    refine ⟨Nat.zero_le _, fun l hl => ?_⟩
    have pl : p ≠ l := fun e => by
      rw [e, upd_same] at hl
      cases hl
    refine ⟨_, rfl, p, C, dx, _, rfl, by rw [upd_ne pl, upd_same], T.cl, T.nI, by show 2 < 1000; decide, ?_⟩
    rw [upd_ne pl.symm, upd_ne pl.symm] at hl
    refine k l _ hl (by rw [upd_same, pf_make]) (by rw [upd_ne pl.symm, upd_same]) fun b o nb e => ?_
    rw [upd_ne nb, upd_ne (ne_of_none e hl), upd_ne nb, upd_ne nb]
    exact e
/-! ### head_of -/
def spHead (K : PySem.W.Frag) : Sp := fun vs H Q _ => ∃ (v : V) (t : F), vs = [v] ∧ IsF K H v t ∧ ∀ h H', Same H H' → SqT K H' h (hv t.hd) → Q (.ref h) H'
theorem ok_head_of {f : Addr} {fd : FuncData} (FF : Fun K "head_of" "head_of" s_head_of f fd) (T : Txt K mg C J B) : FnOk P w K mg base CX0 1 f fd a_head_of (spHead K) := by
  refine FF.ok sc_head_of (fun vs H Q E h => ?_) (fun cdv A outer s H vs Q E hr h => ?_)
  · obtain ⟨v, t, rfl, _⟩ := h
    rfl
  · obtain ⟨v, t, rfl, ht, k⟩ := h
    obtain ⟨a, ks, rfl, sq, ak⟩ := ht.open
    refine ⟨_, (pss_cons (ps_if (pt_cmpR op_in_seq (pe_ix ix_tup (pv 0) pe_int (fun _ _ => rfl)) (pe_glob rfl T.m_JOINS (show RelV (.ref _) _ from rfl)) (by rfl)) (pss_one (ps_ret (pe_slice sl_tupA (pv 0) po_none (po_some pe_int)))) pss_nil)
      (pss_one (ps_ret (pe_slice sl_tupA (pv 0) po_none (po_some pe_int))))), ?_⟩
    have at0 : atI (hv t.hd ++ ks) 0 = some (.str (hw t.hd)) := atI_nat (j := 0) (by rw [List.getElem?_append_left (by rcases hv_len t.hd with e | e <;> omega)]; exact hv_head _)
    refine ⟨_, rfl, a, _, _, _, rfl, rfl, sq, at0, J, _, rfl, .inr (T.c_JOINS H), rfl, rfl, _, rfl, ?_⟩
    rw [if_neg Bool.false_ne_true, in_joins]
    have both : ∀ n : Nat, cutV (hv t.hd ++ ks) none (some (n : Int)) = (hv t.hd ++ ks).take n := fun n => by
      unfold cutV
      rw [HT.sIx_none, HT.sIx_nat, List.drop_zero, Nat.sub_zero]
      rcases Nat.le_total n (hv t.hd ++ ks).length with h | h
      · rw [Nat.min_eq_left h]
      · rw [Nat.min_eq_right h, List.take_of_length_le (Nat.le_refl _), List.take_of_length_le h]
    have fin : ∀ n : Nat, (hv t.hd ++ ks).take n = hv t.hd → rSlA K (.ref a) none (some (n : Int)) H Q := fun n e => by
      refine ⟨a, _, rfl, sq, fun whole => ?_, fun _ p hp => ?_⟩
      · refine k a H (Same.refl H) ?_
        rw [← e]
        rw [HT.sIx_none, HT.sIx_nat] at whole
        rw [List.take_of_length_le (by omega)]
        exact sq
      · refine k p _ (Same.new hp) (SqT.of ?_)
        rw [upd_same, both, e]
    cases h2 : isTwo t.hd
    · refine iteF ?_
      refine ⟨_, rfl, 2, rfl, fin 2 ?_⟩
      cases t with
      | two b f g => cases h2
      | nul b =>
        cases ak
        rfl
      | leaf kd n => rfl
      | one kd n f => rfl
    · refine iteT ?_
      refine ⟨_, rfl, 1, rfl, fin 1 ?_⟩
      cases t with
      | two b f g => rfl
      | nul b => cases h2
      | leaf kd n => cases h2
      | one kd n f => cases h2
end
end Fw

set_option maxRecDepth 100000
set_option maxHeartbeats 2000000
namespace Fw
open PySem PySem.Spec PyProof.Rows L2
/-! ### parts in memory -/
/-- all but what stands at the addresses of X is as it was -/
def Kp (X : List Addr) (H H' : Hp) : Prop := ∀ b o, b ∉ X → H b = some o → H' b = some o
/-- all but lists is as it was -/
def LKp (H H' : Hp) : Prop := ∀ b o, (∀ xs, o ≠ .lst xs) → H b = some o → H' b = some o
theorem LKp.refl (H : Hp) : LKp H H := fun _ _ _ e => e
theorem LKp.trans {H H1 H2 : Hp} (a : LKp H H1) (b : LKp H1 H2) : LKp H H2 := fun c o n e => b c o n (a c o n e)
theorem LKp.same {H H' : Hp} (s : Same H H') : LKp H H' := fun b o _ e => s b o e
theorem LKp.upd {H : Hp} {d : Addr} {xs : List V} {o : HO} (h : H d = some (.lst xs)) : LKp H (upd H d o) := fun b u n e => by
  rw [upd_ne (ne_of e h (n xs))]
  exact e
theorem SqT.lk {K : PySem.W.Frag} {H H' : Hp} {a : Addr} {xs : List V} (s : LKp H H') (h : SqT K H a xs) : SqT K H' a xs := by
  rcases h with h | h
  · rcases h with h | ⟨u, h⟩
    · exact .inl (.inl (s _ _ (by intro xs z; cases z) h))
    · exact .inl (.inr ⟨u, s _ _ (by intro xs z; cases z) h⟩)
  · exact .inr h
theorem IsF.lk {K : PySem.W.Frag} {H H' : Hp} (s : LKp H H') {v : V} {t : F} (h : IsF K H v t) : IsF K H' v t := h.map fun _ _ => SqT.lk s
theorem AllF.lk {K : PySem.W.Frag} {H H' : Hp} (s : LKp H H') {vs : List V} {ts : List F} (h : AllF K H vs ts) : AllF K H' vs ts := by
  induction h with
  | nil => exact .nil
  | cons a _ ih => exact .cons (a.lk s) ih
theorem AllF.len {K : PySem.W.Frag} {H : Hp} {vs : List V} {ts : List F} (h : AllF K H vs ts) : vs.length = ts.length := by
  induction h with
  | nil => rfl
  | cons _ _ ih => simp [ih]
theorem AllF.get {K : PySem.W.Frag} {H : Hp} {vs : List V} {ts : List F} (h : AllF K H vs ts) : ∀ {m : Nat} {y : V} {f : F}, vs[m]? = some y → ts[m]? = some f → IsF K H y f := by
  induction h with
  | nil => intro m y f e _; cases e
  | cons a _ ih =>
    intro m y f e1 e2
    cases m with
    | zero =>
      cases e1
      cases e2
      exact a
    | succ m => exact ih e1 e2
structure PRec where
  p : Addr
  l : Addr
  dx : Addr
  h : Addr
structure PartIs (K : PySem.W.Frag) (C : Addr) (H : Hp) (pr : PRec) (hd : Hd) (a : Int) (ks : List Nat) : Prop where
  ob : H pr.p = some (.ins C pr.dx (pf (.ref pr.h) a pr.l))
  hd : SqT K H pr.h (hv hd)
  inn : H pr.l = some (.lst (ks.map fun n => V.int (n : Nat)))
def Parts (K : PySem.W.Frag) (C : Addr) (H : Hp) (R : List PRec) (L : List (Hd × Int)) : Prop :=
  R.length = L.length ∧ ∀ i pr hd a, R[i]? = some pr → L[i]? = some (hd, a) → PartIs K C H pr hd a (kidsFrom (L.map (·.2)) 0 i)
def PartsAt (K : PySem.W.Frag) (C : Addr) (H : Hp) (pa : Addr) (L : List (Hd × Int)) : Prop :=
  ∃ R : List PRec, SqL K H pa (R.map fun r => V.ref r.p) ∧ Parts K C H R L
theorem PartIs.same {K : PySem.W.Frag} {C : Addr} {H H' : Hp} {pr : PRec} {hd : Hd} {a : Int} {ks : List Nat} (s : Same H H') (h : PartIs K C H pr hd a ks) : PartIs K C H' pr hd a ks :=
  ⟨s _ _ h.ob, SqT.same s h.hd, s _ _ h.inn⟩
theorem PartsAt.same {K : PySem.W.Frag} {C : Addr} {H H' : Hp} {pa : Addr} {L : List (Hd × Int)} (s : Same H H') (h : PartsAt K C H pa L) : PartsAt K C H' pa L := by
  obtain ⟨R, h1, h2, h3⟩ := h
  exact ⟨R, s.seq h1, h2, fun i pr hd a e1 e2 => (h3 i pr hd a e1 e2).same s⟩
/-- what waits: bottom first in memory, top first in the list -/
inductive SA (K : PySem.W.Frag) (H : Hp) : List V → List (F × Int) → Prop
  | nil : SA K H [] []
  | snoc {ws : List V} {st : List (F × Int)} {q : Addr} {x : V} {t : F} {a : Int} : SA K H ws st → SqT K H q [x, .int a] → IsF K H x t → SA K H (ws ++ [.ref q]) ((t, a) :: st)
theorem SA.lk {K : PySem.W.Frag} {H H' : Hp} (s : LKp H H') {ws : List V} {st : List (F × Int)} (h : SA K H ws st) : SA K H' ws st := by
  induction h with
  | nil => exact .nil
  | snoc _ b c ih => exact .snoc ih (SqT.lk s b) (c.lk s)
theorem SA.len {K : PySem.W.Frag} {H : Hp} {ws : List V} {st : List (F × Int)} (h : SA K H ws st) : ws.length = st.length := by
  induction h with
  | nil => rfl
  | snoc _ _ _ ih => simp [ih]
theorem kids_snoc (L : List (Hd × Int)) (h : Hd) (a : Int) (i : Nat) :
    kidsFrom ((L ++ [(h, a)]).map (·.2)) 0 i = kidsFrom (L.map (·.2)) 0 i ++ if a = (i : Int) then [L.length] else [] := by
  rw [List.map_append, kids_app]
  simp only [List.map_cons, List.map_nil, kidsFrom, Nat.zero_add, List.length_map]
theorem kids_out : ∀ (A : List Int) (j i : Nat), (∀ a ∈ A, a < (i : Int)) → kidsFrom A j i = [] := fun A j i h => kids_none A j i fun a ha => by have := h a ha; omega
theorem Parts.more {K : PySem.W.Frag} {C : Addr} {G G5 : Hp} {R : List PRec} {L : List (Hd × Int)} {n : PRec} {hd : Hd} {a : Int} (PR : Parts K C G R L) (lk : LKp G G5)
    (hin : ∀ i pr, R[i]? = some pr → G5 pr.l = some (.lst ((kidsFrom (L.map (·.2)) 0 i ++ if a = (i : Int) then [L.length] else []).map fun n => V.int (n : Nat))))
    (Lb : ∀ x ∈ L, x.2 < (L.length : Int)) (ha : a < (L.length : Int)) (new : PartIs K C G5 n hd a []) : Parts K C G5 (R ++ [n]) (L ++ [(hd, a)]) := by
  obtain ⟨len, h⟩ := PR
  refine ⟨by simp [len], fun i pr hd' a' e1 e2 => ?_⟩
  rw [kids_snoc]
  by_cases lt : i < R.length
  · rw [List.getElem?_append_left lt] at e1
    rw [List.getElem?_append_left (by omega)] at e2
    have z := h i pr hd' a' e1 e2
    exact ⟨lk _ _ (by intro xs q; cases q) z.ob, SqT.lk lk z.hd, hin i pr e1⟩
  · have ei : i = R.length := by
      have q := (List.getElem?_eq_some_iff.mp e1).1
      rw [List.length_append, List.length_singleton] at q
      omega
    subst ei
    rw [List.getElem?_append_right (Nat.le_refl _), Nat.sub_self] at e1
    rw [List.getElem?_append_right (by omega), len, Nat.sub_self] at e2
    cases e1
    cases e2
    have none : kidsFrom (L.map (·.2)) 0 R.length = [] := by
      refine kids_out _ _ _ fun b hb => ?_
      obtain ⟨x, hx, rfl⟩ := List.mem_map.mp hb
      rw [len]
      exact Lb x hx
    rw [none, if_neg (by rw [len]; omega)]
    exact new
section
variable {P : Program} {w : World} {K : PySem.W.Frag} {mg : Str → Option Value} {base : Heap} {C J B : Addr}
def spParts (K : PySem.W.Frag) (C : Addr) : Sp := fun vs H Q _ => ∃ (v : V) (t : F), vs = [v] ∧ IsF K H v t ∧ t.size ≤ 1000 ∧
  ∀ pa H', Same H H' → PartsAt K C H' pa (pre t (-1) 0) → Q (.ref pa) H'
def spPartsN (K : PySem.W.Frag) (C : Addr) : Sp := fun vs H Q _ => ∃ (v : V) (t : F), vs = [v] ∧ IsF K H v t ∧ t.size ≤ 1000 ∧
  ∀ pa R H', Same H H' → H' pa = some (.lst (R.map fun (r : PRec) => V.ref r.p)) → H pa = none → Parts K C H' R (pre t (-1) 0) → (∀ r ∈ R, H r.l = none) → Q (.ref pa) H'
theorem ok_parts_of {f : Addr} {fd : FuncData} (FF : Fun K "parts_of" "parts_of" s_parts_of f fd) (T : Txt K mg C J B)
    (h_head_of : Has P w K mg base "head_of" 1 a_head_of (spHead K)) (h_Part : HasC P w K mg base "Part" C 1 a_Part_init (spPart K C)) : FnOk P w K mg base CX0 3 f fd a_parts_of (spPartsN K C) := by
  refine FF.ok sc_parts_of (fun vs H Q E h => ?_) (fun cdv A outer s H vs Q E hr h => ?_)
  · obtain ⟨v, t, rfl, _⟩ := h
    rfl
  · obtain ⟨v, t, rfl, ht, hsz, k⟩ := h
    refine ⟨_, (pss_cons (ps_set (i := 1) sc_parts_of.nd rfl (.inl rfl) (pe_lst pa_nil))
      (pss_cons (ps_set (i := 2) sc_parts_of.nd rfl (.inl rfl) (pe_lst (pa_cons (pe_tup (pa_cons (pv 0) (pa_cons (pe_un un_neg pe_int) pa_nil))) pa_nil)))
      (pss_cons (ps_while PassesOwn.never (pt_truth (pv 2) (by intro _; rfl)) (pss_cons (ps_asg (pe_bm0 PySem.F.plainAttrs_list PySem.F.slot_list_pop PySem.F.type_list_pop mt_pop (pv 2)) (pg_tup rfl (pgs_cons (pg_name (i := 3) sc_parts_of.nd rfl (.inl rfl)) (pgs_cons (pg_name (i := 4) sc_parts_of.nd rfl (.inl rfl)) pgs_nil))))
      (pss_cons (ps_set (i := 5) sc_parts_of.nd rfl (.inl rfl) (pe_callH h_head_of (hr.mono (by omega)) (pa_cons (pv 3) pa_nil)))
      (pss_cons (ps_set (i := 6) sc_parts_of.nd rfl (.inl rfl) (pe_callB call_len_seq rfl T.z_len (by decide +kernel) (pa_cons (pv 1) pa_nil)))
      (pss_cons (ps_expr (pe_bm PySem.F.plainAttrs_list PySem.F.slot_list_append PySem.F.type_list_append mt_append (pv 1) (pa_cons (pe_makeH h_Part (hr.mono (by omega)) (pa_cons (pv 5) (pa_cons (pv 4) pa_nil))) pa_nil)))
      (pss_cons (ps_if (pt_cmpR op_ge (pv 4) pe_int (nomark _)) (pss_one (ps_expr (pe_bm PySem.F.plainAttrs_list PySem.F.slot_list_append PySem.F.type_list_append mt_append (pe_fld (pe_ix ix_list (pv 1) (pv 4) (fun _ _ => rfl)) rfl) (pa_cons (pv 6) pa_nil)))) pss_nil)
      (pss_one (ps_for PassesOwn.never rfl (RT.pi_revA rfl T.z_reversed (pe_slice sl_tupA (pv 3) (po_some (pe_callB call_len_seq rfl T.z_len (by decide +kernel) (pa_cons (pv 5) pa_nil))) po_none)) (pg_name (i := 7) sc_parts_of.nd rfl (.inl rfl)) (pss_one (ps_expr (pe_bm PySem.F.plainAttrs_list PySem.F.slot_list_append PySem.F.type_list_append mt_append (pv 2) (pa_cons (pe_tup (pa_cons (pv 7) (pa_cons (pv 6) pa_nil))) pa_nil))))))))))))
      (pss_one (ps_ret (pv 1)))))), ?_⟩
    refine ⟨Nat.zero_le _, fun pa hpa => ?_⟩
    refine ⟨v, rfl, _, rfl, by show 2 ≤ sizeLine; decide, fun q0 hq0 => ?_⟩
    refine ⟨by show 1 ≤ sizeLine; decide, fun wa hwa => ?_⟩
    have paq : pa ≠ q0 := fun e => by rw [e, upd_same] at hq0; cases hq0
    have hq0' : H q0 = none := by rw [upd_ne paq.symm] at hq0; exact hq0
    have wq : wa ≠ q0 := fun e => by rw [e, upd_same] at hwa; cases hwa
    have wpa : wa ≠ pa := fun e => by rw [e, upd_ne paq, upd_same] at hwa; cases hwa
    have hwa' : H wa = none := by rw [upd_ne wq, upd_ne wpa] at hwa; exact hwa
    have s1 : Same H (upd H pa (.lst [])) := Same.new hpa
    have s2 : Same (upd H pa (.lst [])) (upd (upd H pa (.lst [])) q0 (.tup [v, .int (-1)])) := Same.new hq0
    have s3 : Same (upd (upd H pa (.lst [])) q0 (.tup [v, .int (-1)])) (upd (upd (upd H pa (.lst [])) q0 (.tup [v, .int (-1)])) wa (.lst [.ref q0])) := Same.new hwa
    have s123 := s1.trans (s2.trans s3)
    generalize hH0 : upd (upd (upd H pa (.lst [])) q0 (.tup [v, .int (-1)])) wa (.lst [.ref q0]) = H0 at s3 s123
    have w0 : H0 wa = some (.lst [.ref q0]) := by rw [← hH0, upd_same]
    have p0 : H0 pa = some (.lst []) := by rw [← hH0, upd_ne wpa.symm, upd_ne paq, upd_same]
    have t0 : SqT K H0 q0 [v, .int (-1)] := SqT.of (by rw [← hH0, upd_ne wq.symm, upd_same])
    clear hH0 hq0
    refine ⟨fun m σ G => ∃ (R : List PRec) (L : List (Hd × Int)) (ws : List V) (st : List (F × Int)) (y3 y4 y5 y6 y7 : Option V),
      σ = [some v, some (.ref pa), some (.ref wa), y3, y4, y5, y6, y7] ∧ Same H G ∧ G pa = some (.lst (R.map fun r => V.ref r.p)) ∧ G wa = some (.lst ws) ∧ SA K G ws st ∧
      Parts K C G R L ∧ (R.map PRec.l).Nodup ∧ (∀ r ∈ R, H r.l = none ∧ r.l ≠ pa ∧ r.l ≠ wa) ∧ (∀ x ∈ st, x.2 < (L.length : Int) ∧ -1 ≤ x.2) ∧ (∀ x ∈ L, x.2 < (L.length : Int)) ∧
      m = stSize st ∧ L.length + m = t.size ∧ fin L st = pre t (-1) 0,
      ⟨t.size, [], [], [.ref q0], [(t, -1)], none, none, none, none, none, rfl, s123, p0, w0, .snoc .nil t0 (ht.same s123), ⟨rfl, by simp⟩, by simp, by simp, by simp, by simp, by simp [stSize], by simp, by simp [fin, pre]⟩, ?_⟩
    rintro m σ G ⟨R, L, ws, st, y3, y4, y5, y6, y7, rfl, sG, gpa, gwa, sa, PR, nd, lfr, stb, Lb, rfl, cnt, hfin⟩
    refine ⟨.ref wa, rfl, !ws.isEmpty, .inl ⟨ws, SqL.of gwa, rfl⟩, ?_⟩
    cases sa with
    | nil =>
      -- nothing waits
      refine iteF ?_
      refine ⟨_, rfl, ?_⟩
      refine k pa R G sG gpa hpa ?_ (fun r hr => (lfr r hr).1)
      rw [← hfin]
      exact PR
    | @snoc ws' st' q x u a sa' hq hx =>
      have e1 : (!(ws' ++ [V.ref q]).isEmpty) = true := by simp
      rw [e1]
      refine iteT ?_
      refine ⟨_, fun σ' H' z => z, ?_⟩
      have szu : 0 < u.size := F.size_pos u
      have lst' : st'.length ≤ stSize st' := st_len st'
      have cnt' : L.length + (u.size + stSize st') = t.size := cnt
      have hwl := sa'.len
      have small : ∀ n : Nat, n ≤ 1000 → n < sizeLine := fun n hn => small1000 hn
      -- told, around = waiting.pop()
      refine ⟨.ref wa, rfl, .inl ⟨rfl, _, SqL.of gwa⟩, wa, _, .ref q, rfl, rfl, gwa, by simp, ?_⟩
      rw [List.dropLast_concat]
      generalize hG1 : upd G wa (.lst ws') = G1
      have l1 : LKp G G1 := by rw [← hG1]; exact LKp.upd gwa
      have w1 : G1 wa = some (.lst ws') := by rw [← hG1, upd_same]
      have k1 : ∀ b o, b ≠ wa → G b = some o → G1 b = some o := fun b o nb e => by rw [← hG1, upd_ne nb]; exact e
      clear hG1
      refine ⟨q, _, rfl, SqT.lk l1 hq, rfl, x, _, rfl, .int a, _, rfl, rfl, ?_⟩
      -- head = head_of(told)
      refine ⟨x, rfl, x, u, rfl, hx.lk l1, fun h G2 s2 hh => ?_⟩
      have w2 := s2 _ _ w1
      have pw : pa ≠ wa := wpa.symm
      have p2 := s2 _ _ (k1 _ _ pw gpa)
      -- at = len(parts)
      refine ⟨.ref pa, rfl, pa, _, rfl, .inl (SqL.of p2), ?_⟩
      rw [List.length_map, PR.1]
      -- parts.append(Part(head, around))
      refine ⟨.ref pa, rfl, .inl ⟨rfl, _, SqL.of p2⟩, .ref h, rfl, .int a, rfl, fun x1 dx nx ndx nex => ⟨x1, dx, .ref h, a, rfl, upd_same, fun l G3 hl hx1 hl3 b3 => ⟨rfl, ?_⟩⟩⟩
      have nx1 : l ≠ x1 := fun e => by rw [e, upd_same] at hl; cases hl
      have hl2 : G2 l = none := by
        rw [upd_ne nx1] at hl
        by_cases e : l = dx
        · rw [e, upd_same] at hl
          cases hl
        · rw [upd_ne e] at hl
          exact hl
      have s3' : Same G2 G3 := fun b o e => by
        refine b3 b o (ne_of_none e nx) ?_
        rw [upd_ne (ne_of_none e nx), upd_ne (ne_of_none e ndx)]
        exact e
      have p3 := s3' _ _ p2
      have w3 := s3' _ _ w2
      have lpa : l ≠ pa := (ne_of_none p2 hl2).symm
      have lwa : l ≠ wa := (ne_of_none w2 hl2).symm
      refine ⟨pa, _, .ref x1, rfl, rfl, p3, by rw [List.length_map, PR.1]; exact small _ (by omega), ?_⟩
      generalize hG4 : upd G3 pa (.lst (R.map (fun r => V.ref r.p) ++ [V.ref x1])) = G4
      have l4 : LKp G3 G4 := by rw [← hG4]; exact LKp.upd p3
      have k4 : ∀ b o, b ≠ pa → G3 b = some o → G4 b = some o := fun b o nb e => by rw [← hG4, upd_ne nb]; exact e
      have p4 : G4 pa = some (.lst (R.map (fun r => V.ref r.p) ++ [V.ref x1])) := by rw [← hG4, upd_same]
      clear hG4
      have w4 := k4 _ _ wpa w3
      have L14 : LKp G G4 := l1.trans ((LKp.same s2).trans ((LKp.same s3').trans l4))
      have K14 : ∀ b o, b ≠ wa → b ≠ pa → G b = some o → G4 b = some o := fun b o n1 n2 e => k4 _ _ n2 (s3' _ _ (s2 _ _ (k1 _ _ n1 e)))
      have ob4 : G4 x1 = some (.ins C dx (pf (.ref h) a l)) := l4 _ _ (by intro xs z; cases z) hx1
      have hd4 : SqT K G4 h (hv u.hd) := SqT.lk l4 (SqT.same s3' hh)
      have ln4 : G4 l = some (.lst []) := k4 _ _ lpa hl3
      have nfresh : H l = none := sG.free (by
        cases e : G l with
        | none => rfl
        | some o =>
          have := s2 _ _ (k1 _ _ lwa e)
          rw [hl2] at this
          cases this)
      have lnew : ∀ pr ∈ R, pr.l ≠ l := fun pr hpr e => by
        obtain ⟨i, hi⟩ := List.mem_iff_getElem?.mp hpr
        obtain ⟨⟨hd', a'⟩, hi2⟩ : ∃ y, L[i]? = some y := ⟨L[i]'(by have := (List.getElem?_eq_some_iff.mp hi).1; rw [PR.1] at this; exact this), by simp⟩
        have z := (PR.2 i pr hd' a' hi hi2).inn
        have z2 := s2 _ _ (k1 _ _ (lfr pr hpr).2.2 z)
        rw [e, hl2] at z2
        cases z2
      have sb := stb (u, a) List.mem_cons_self
      refine ⟨.int a, rfl, _, _, rfl, rfl, _, rfl, ?_⟩
      refine join (G := G4) (fun G5 => LKp G G5 ∧ (∀ b o, b ≠ wa → b ≠ pa → (∀ r ∈ R, b ≠ r.l) → G b = some o → G5 b = some o) ∧ G5 wa = some (.lst ws') ∧
        G5 pa = some (.lst (R.map (fun r => V.ref r.p) ++ [V.ref x1])) ∧ SqT K G5 h (hv u.hd) ∧ Parts K C G5 (R ++ [⟨x1, l, dx, h⟩]) (L ++ [(u.hd, a)])) ?_ ?_ ?_
      · rintro G5 ⟨l5, k5, w5, p5, hd5, PR5⟩
        obtain ⟨ua, ks, rfl, squ, ak⟩ := (hx.lk l5).open
        -- reversed(told[len(head):])
        have hn : ∃ n : Nat, (hv u.hd).length = n ∧ 1 ≤ n := ⟨_, rfl, by rcases hv_len u.hd with e | e <;> omega⟩
        obtain ⟨n, hvn, n1⟩ := hn
        refine ⟨.ref ua, rfl, .ref h, rfl, h, _, rfl, .inr hd5, _, rfl, ua, _, rfl, squ, fun whole => ?_, fun _ z hz => ?_⟩
        · exfalso
          rw [HT.sIx_nat, List.length_append] at whole
          omega
        have cut : cutV (hv u.hd ++ ks) (some ((hv u.hd).length : Nat)) none = ks := by
          unfold cutV
          rw [HT.sIx_nat, HT.sIx_none, Nat.min_eq_left (by rw [List.length_append]; omega), List.drop_left, List.take_of_length_le]
          rw [List.length_append]
          omega
        rw [cut]
        generalize hG6 : upd G5 z (.tup ks) = G6
        have s6 : Same G5 G6 := by rw [← hG6]; exact Same.new hz
        have sq6 : SqT K G6 z ks := SqT.of (by rw [← hG6, upd_same])
        clear hG6 hz
        have hn : ks.length = u.kids.length := ak.len
        refine ⟨z, ks, rfl, .inr ⟨sq6, ?_⟩⟩
        have sG6 : Same H G6 := fun b o e => s6 _ _ (k5 b o (fun q => by rw [q, hwa'] at e; cases e) (fun q => by rw [q, hpa] at e; cases e) (fun r hr' q => by rw [q, (lfr r hr').1] at e; cases e) (sG b o e))
        have szk := stSize_kids u (L.length : Int)
        have lk := st_len (u.kids.map fun f => (f, (L.length : Int)))
        refine RT.for_ItvT (fun i σ G7 => ∃ (ws7 : List V) (y : Option V), σ = [some v, some (.ref pa), some (.ref wa), some (.ref ua), some (.int a), some (.ref h), some (.int (L.length : Nat)), y] ∧
            LKp G6 G7 ∧ (∀ b o, b ≠ wa → G6 b = some o → G7 b = some o) ∧ G7 wa = some (.lst ws7) ∧ SA K G7 ws7 ((u.kids.drop (ks.length - i)).map (fun f => (f, (L.length : Int))) ++ st')) ?_ ?_ ?_ ?_
        · refine ⟨ws', y7, rfl, LKp.refl _, fun _ _ _ e => e, s6 _ _ w5, ?_⟩
          rw [Nat.sub_zero, hn, List.drop_length]
          exact sa'.lk (l5.trans (LKp.same s6))
        · rintro i σ G7 ⟨ws7, y, rfl, l7, _, _, _⟩
          exact SqT.lk l7 sq6
        · rintro i y σ G7 hi hy ⟨ws7, y', rfl, l7, k7, w7, sa7⟩
          obtain ⟨kf, hkf⟩ : ∃ kf, u.kids[ks.length - 1 - i]? = some kf := ⟨u.kids[ks.length - 1 - i]'(by omega), by simp⟩
          have isk : IsF K G7 y kf := ((ak.lk (LKp.same s6)).lk l7).get hy hkf
          refine ⟨.ref wa, rfl, .inl ⟨rfl, _, SqL.of w7⟩, y, rfl, .int (L.length : Nat), rfl, by show 2 ≤ sizeLine; decide, fun p hp => ?_⟩
          have s8 : Same G7 (upd G7 p (.tup [y, .int (L.length : Nat)])) := Same.new hp
          have lw7 := sa7.len
          rw [List.length_append, List.length_map, List.length_drop] at lw7
          rw [List.length_map] at lk
          refine ⟨wa, _, .ref p, rfl, rfl, s8 _ _ w7, small _ (by omega), ?_⟩
          have l9 : LKp (upd G7 p (.tup [y, .int (L.length : Nat)])) (upd (upd G7 p (.tup [y, .int (L.length : Nat)])) wa (.lst (ws7 ++ [.ref p]))) := LKp.upd (s8 _ _ w7)
          refine ⟨_, some y, rfl, l7.trans ((LKp.same s8).trans l9), fun b o nb e => ?_, upd_same, ?_⟩
          · rw [upd_ne nb]
            exact s8 _ _ (k7 b o nb e)
          · have e2 : u.kids.drop (ks.length - (i + 1)) = kf :: u.kids.drop (ks.length - i) := by
              have lt : ks.length - 1 - i < u.kids.length := by omega
              rw [show ks.length - (i + 1) = ks.length - 1 - i by omega, List.drop_eq_getElem_cons lt, show ks.length - 1 - i + 1 = ks.length - i by omega]
              congr 1
              exact Option.some.inj ((List.getElem?_eq_getElem lt).symm.trans hkf)
            rw [e2]
            exact .snoc (sa7.lk ((LKp.same s8).trans l9)) (SqT.lk l9 (SqT.of upd_same)) (isk.lk ((LKp.same s8).trans l9))
        · rintro σ G7 ⟨ws7, y, rfl, l7, k7, w7, sa7⟩
          rw [Nat.sub_self, List.drop_zero] at sa7
          have zst : stSize (u.kids.map (fun f => (f, (L.length : Int))) ++ st') + 1 = u.size + stSize st' := by
            rw [stSize_app]
            omega
          have PR7 : Parts K C G7 (R ++ [⟨x1, l, dx, h⟩]) (L ++ [(u.hd, a)]) := by
            refine ⟨PR5.1, fun i pr hd' a' e1 e2 => ?_⟩
            have z := (PR5.2 i pr hd' a' e1 e2).same s6
            have nw : pr.l ≠ wa := by
              rcases List.mem_append.mp (List.mem_of_getElem? e1) with m | m
              · exact (lfr pr m).2.2
              · rw [List.mem_singleton.mp m]
                exact lwa
            exact ⟨l7 _ _ (by intro xs q; cases q) z.ob, SqT.lk l7 z.hd, k7 _ _ nw z.inn⟩
          refine ⟨stSize (u.kids.map (fun f => (f, (L.length : Int))) ++ st'), by show _ < u.size + stSize st'; omega, R ++ [⟨x1, l, dx, h⟩], L ++ [(u.hd, a)], ws7, _, _, _, _, _, _, rfl, fun b o e => ?_, ?_, w7, sa7, PR7, ?_, ?_, ?_, ?_, rfl, ?_, ?_⟩
          · exact k7 b o (fun q => by rw [q, hwa'] at e; cases e) (sG6 b o e)
          · rw [List.map_append]
            exact k7 _ _ wpa.symm (s6 _ _ p5)
          · rw [List.map_append, List.nodup_append]
            refine ⟨nd, by simp, fun a' ha b hb => ?_⟩
            obtain ⟨r, hr', rfl⟩ := List.mem_map.mp ha
            rw [List.map_cons, List.map_nil, List.mem_singleton] at hb
            subst hb
            exact lnew r hr'
          · intro r hr'
            rcases List.mem_append.mp hr' with m | m
            · exact lfr r m
            · rw [List.mem_singleton.mp m]
              exact ⟨nfresh, lpa, lwa⟩
          · intro y hy
            rw [List.length_append, List.length_singleton]
            rcases List.mem_append.mp hy with m | m
            · obtain ⟨f', _, rfl⟩ := List.mem_map.mp m
              show (L.length : Int) < ((L.length + 1 : Nat) : Int) ∧ -1 ≤ (L.length : Int)
              omega
            · have := stb y (List.mem_cons_of_mem _ m)
              omega
          · intro y hy
            rw [List.length_append, List.length_singleton]
            rcases List.mem_append.mp hy with m | m
            · have := Lb y m
              omega
            · rw [List.mem_singleton.mp m]
              show a < _
              have := sb.1
              have e : (((u, a) : F × Int).2) = a := rfl
              omega
          · rw [List.length_append, List.length_singleton]
            omega
          · rw [← hfin, fin_step]
      · intro c rest
        have ha : 0 ≤ a := of_decide_eq_true c
        have hal : a < (L.length : Int) := sb.1
        obtain ⟨m, rfl⟩ : ∃ m : Nat, a = (m : Int) := ⟨a.toNat, by omega⟩
        have hm : m < R.length := by rw [PR.1]; omega
        obtain ⟨pr, hpr⟩ : ∃ pr, R[m]? = some pr := ⟨R[m], by simp [hm]⟩
        obtain ⟨⟨hd', a'⟩, hlr⟩ : ∃ y, L[m]? = some y := ⟨L[m]'(by omega), by simp⟩
        have z := PR.2 m pr hd' a' hpr hlr
        have prm := List.mem_of_getElem? hpr
        have ob := L14 _ _ (by intro xs q; cases q) z.ob
        have inn := K14 _ _ (lfr pr prm).2.2 (lfr pr prm).2.1 z.inn
        -- parts[around].inner.append(at)
        refine ⟨.ref pa, rfl, .int (m : Nat), rfl, pa, _, _, .ref pr.p, rfl, rfl, SqL.of p4, atI_nat (j := m) ?_, pr.p, C, pr.dx, _, .ref pr.l, rfl, ob, T.cl, T.nI, rfl, .inl ⟨rfl, _, SqL.of inn⟩, .int (L.length : Nat), rfl, pr.l, _, _, rfl, rfl, inn, ?_, ?_⟩
        · rw [List.getElem?_append_left (by rw [List.length_map]; exact hm), List.getElem?_map, hpr]
          rfl
        · rw [List.length_map]
          refine small _ ?_
          have : ∀ (A : List Int) (j i : Nat), (kidsFrom A j i).length ≤ A.length := by
            intro A
            induction A with
            | nil => intro j i; exact Nat.le_refl _
            | cons b A ih =>
              intro j i
              have := ih (j + 1) i
              simp only [kidsFrom]
              split <;> simp only [List.length_cons] <;> omega
          have := this (L.map (·.2)) 0 m
          rw [List.length_map] at this
          omega
        · have l5 : LKp G4 (upd G4 pr.l (.lst ((kidsFrom (L.map (·.2)) 0 m).map (fun n => V.int (n : Nat)) ++ [.int (L.length : Nat)]))) := LKp.upd inn
          refine rest _ ⟨L14.trans l5, fun b o n1 n2 n3 e => ?_, ?_, ?_, SqT.lk l5 hd4, ?_⟩
          · rw [upd_ne (n3 pr prm)]
            exact K14 b o n1 n2 e
          · rw [upd_ne (lfr pr prm).2.2.symm]
            exact w4
          · rw [upd_ne (lfr pr prm).2.1.symm]
            exact p4
          · refine Parts.more PR (L14.trans l5) (fun i pr' hi => ?_) Lb sb.1 ⟨l5 _ _ (by intro xs q; cases q) ob4, SqT.lk l5 hd4, ?_⟩
            · obtain ⟨⟨hd2, a2⟩, hl2'⟩ : ∃ y, L[i]? = some y := ⟨L[i]'(by have := (List.getElem?_eq_some_iff.mp hi).1; rw [PR.1] at this; exact this), by simp⟩
              by_cases e : i = m
              · subst e
                rw [hpr] at hi
                cases hi
                rw [upd_same, if_pos rfl, List.map_append]
                rfl
              · have nl : pr'.l ≠ pr.l := fun q => e (nd_ix nd (x := pr.l) (by rw [List.getElem?_map, hi, Option.map_some, q]) (by rw [List.getElem?_map, hpr]; rfl))
                rw [upd_ne nl, if_neg (by omega), List.append_nil]
                have pm' := List.mem_of_getElem? hi
                exact K14 _ _ (lfr pr' pm').2.2 (lfr pr' pm').2.1 (PR.2 i pr' hd2 a2 hi hl2').inn
            · rw [upd_ne (lnew pr prm).symm]
              exact ln4
      · intro c
        have ha : ¬ 0 ≤ a := of_decide_eq_false c
        refine ⟨L14, fun b o n1 n2 _ e => K14 b o n1 n2 e, w4, p4, hd4, ?_⟩
        refine Parts.more PR L14 (fun i pr' hi => ?_) Lb sb.1 ⟨ob4, hd4, ln4⟩
        obtain ⟨⟨hd2, a2⟩, hl2'⟩ : ∃ y, L[i]? = some y := ⟨L[i]'(by have := (List.getElem?_eq_some_iff.mp hi).1; rw [PR.1] at this; exact this), by simp⟩
        rw [if_neg (by omega), List.append_nil]
        have pm' := List.mem_of_getElem? hi
        exact K14 _ _ (lfr pr' pm').2.2 (lfr pr' pm').2.1 (PR.2 i pr' hd2 a2 hi hl2').inn
end
end Fw

set_option maxRecDepth 100000
set_option maxHeartbeats 2000000
namespace Fw
open PySem PySem.Spec PyProof.Rows L2
def HeadsAt (K : PySem.W.Frag) (H : Hp) (ha : Addr) (l : List Hd) : Prop :=
  ∃ hs : List Addr, SqL K H ha (hs.map V.ref) ∧ hs.length = l.length ∧ ∀ (i : Nat) (h : Addr) (hd : Hd), hs[i]? = some h → l[i]? = some hd → SqT K H h (hv hd)
theorem HeadsAt.same {K : PySem.W.Frag} {H H' : Hp} {ha : Addr} {l : List Hd} (s : Same H H') (h : HeadsAt K H ha l) : HeadsAt K H' ha l := by
  obtain ⟨hs, h1, h2, h3⟩ := h
  exact ⟨hs, s.seq h1, h2, fun i h hd e1 e2 => SqT.same s (h3 i h hd e1 e2)⟩
theorem no_get {α : Type} (m : Nat) (v : α) : ¬ ([] : List α)[m]? = some v := by simp
theorem pre_aro (t : F) : (pre t (-1) 0).map (·.2) = arounds (infos t) := by simp [pre, arounds, Function.comp_def]
section
variable {P : Program} {w : World} {K : PySem.W.Frag} {mg : Str → Option Value} {base : Heap} {C J B : Addr}
/-! ### built -/
def spBuilt (K : PySem.W.Frag) (C : Addr) : Sp := fun vs H Q _ => ∃ (pa ha : Addr) (L : List (Hd × Int)) (t : F), vs = [.ref pa, .ref ha] ∧ PartsAt K C H pa L ∧ L.map (·.2) = arounds (infos t) ∧
  HeadsAt K H ha ((infos t).map fun r => r.sub.hd) ∧ t.size ≤ 1000 ∧ ∀ v H', Same H H' → IsF K H' v t → Q v H'
theorem ok_built {f : Addr} {fd : FuncData} (FF : Fun K "built" "built" s_built f fd) (T : Txt K mg C J B) : FnOk P w K mg base CX0 1 f fd a_built (spBuilt K C) := by
  refine FF.ok sc_built (fun vs H Q E h => ?_) (fun cdv A outer s H vs Q E hr h => ?_)
  · obtain ⟨pa, ha, L, t, rfl, _⟩ := h
    rfl
  · obtain ⟨pa, ha, L, t, rfl, ⟨R, hR, lenR, PR⟩, aro, ⟨hs, hH, lenH, HH⟩, hsz, k⟩ := h
    have lenI : (infos t).length = t.size := info_len _ _ _ _
    have lenL : L.length = t.size := by
      have := congrArg List.length aro
      rw [List.length_map, arounds, List.length_map, lenI] at this
      exact this
    rw [List.length_map, lenI] at lenH
    have RL : (R.map fun r => V.ref r.p).length = t.size := by rw [List.length_map, lenR, lenL]
    have small : ∀ n : Nat, n ≤ 1000 → n < sizeLine := fun n hn => small1000 hn
    refine ⟨_, (pss_cons (ps_set (i := 2) sc_built.nd rfl (.inr rfl) (pe_op op_rep (pe_lst (pa_cons (pe_tup pa_nil) pa_nil)) (pe_callB call_len_seq rfl T.z_len (by decide +kernel) (pa_cons (pv 0) pa_nil))))
      (pss_cons (ps_for PassesOwn.never rfl (pi_revR rfl T.z_reversed (prg_1 rfl T.z_range (pe_callB call_len_seq rfl T.z_len (by decide +kernel) (pa_cons (pv 0) pa_nil)))) (pg_name (i := 3) sc_built.nd rfl (.inl rfl)) (pss_one (ps_asg (pe_op op_catA (pe_ix ix_list (pv 1) (pv 3) (fun _ _ => rfl)) (pe_callTy call_tuple_of rfl T.z_tuple (by decide +kernel) (pa_cons (pe_lc (own := [("place", 4)]) (g := gName 4) rfl sc_built.nd (pi_list (pe_fld (pe_ix ix_list (pv 0) (pv 3) (fun _ _ => rfl)) rfl)) (blkOk_by (own := [("place", 4)]) (N := n_built) (sc := defScope s_built) (by decide +kernel)) (fun _ _ _ _ _ => (pg_name (i := 4) sc_built.nd rfl (.inl rfl))) (fun _ _ _ _ _ => pts_nil) (fun _ _ _ _ _ => (pe_ix (@id (IxR _ (rIxL K)) ix_list) (pv 2) (pv 4) (fun _ _ => rfl)))) pa_nil))) (pg_sub (pv 2) (pv 3) set_list))))
      (pss_one (ps_ret (pe_ix ix_list (pv 2) pe_int (fun _ _ => rfl)))))), ?_⟩
    refine ⟨by show 0 ≤ sizeLine; decide, fun u hu0 => ⟨by show 1 ≤ sizeLine; decide, fun o ho => ?_⟩⟩
    have su := Same.new (o := .tup []) hu0
    have so := Same.new (o := .lst [V.ref u]) ho
    have suo := su.trans so
    refine ⟨.ref pa, rfl, pa, _, rfl, .inl (suo.seq hR), ?_⟩
    rw [RL]
    refine ⟨o, (t.size : Nat), _, rfl, rfl, upd_same, by omega, by omega, ?_, fun ma hma => ?_⟩
    · rw [List.length_singleton, Nat.one_mul, Int.toNat_natCast]
      exact Nat.le_of_lt (small _ hsz)
    generalize hM : (List.replicate ((t.size : Nat) : Int).toNat [V.ref u]).flatten = M
    have lenM : M.length = t.size := by
      rw [← hM, List.length_flatten, List.map_replicate, List.sum_replicate_nat]
      simp
    have sm := Same.new (o := .lst M) hma
    have s0 := suo.trans sm
    have hma0 : H ma = none := suo.free hma
    generalize hG : upd (upd (upd H u (.tup [])) o (.lst [V.ref u])) ma (.lst M) = G0 at sm s0
    have m0 : G0 ma = some (.lst M) := by rw [← hG, upd_same]
    clear hG sm so
    refine ⟨.ref pa, rfl, pa, _, rfl, .inl (s0.seq hR), (t.size : Nat), by rw [RL], by omega, by omega, by omega, by omega, ?_⟩
    refine for_rangeC (fun i σ G => ∃ (ms : List V) (y : Option V), σ = [some (.ref pa), some (.ref ha), some (.ref ma), y, none] ∧ Same H G ∧ G ma = some (.lst ms) ∧ ms.length = t.size ∧
      ∀ j r, t.size - i ≤ j → (infos t)[j]? = some r → ∃ v, ms[j]? = some v ∧ IsF K G v r.sub) ⟨M, none, rfl, s0, m0, lenM, fun j r hj hjr => ?_⟩ ?_ ?_
    · have := (List.getElem?_eq_some_iff.mp hjr).1
      omega
    · rintro i σ G hi ⟨ms, y, rfl, sG, gm, lm, inv⟩
      have hi' : i < t.size := by omega
      obtain ⟨j, hj⟩ : ∃ j : Nat, j = t.size - 1 - i := ⟨_, rfl⟩
      have ej : (0 : Int) + (((t.size : Nat) : Int) - 0).toNat - 1 + (i : Nat) * (-1) = (j : Nat) := by omega
      rw [ej]
      have jlt : j < t.size := by omega
      obtain ⟨r, hr'⟩ : ∃ r, (infos t)[j]? = some r := ⟨(infos t)[j]'(by omega), by simp⟩
      obtain ⟨h, hh⟩ : ∃ h, hs[j]? = some h := ⟨hs[j]'(by omega), by simp⟩
      obtain ⟨pr, hpr⟩ : ∃ pr, R[j]? = some pr := ⟨R[j]'(by omega), by simp⟩
      obtain ⟨⟨hd', a'⟩, hl⟩ : ∃ y, L[j]? = some y := ⟨L[j]'(by omega), by simp⟩
      have hdT := SqT.same sG (HH j h r.sub.hd hh (by rw [List.getElem?_map, hr']; rfl))
      have z := (PR j pr hd' a' hpr hl).same sG
      rw [aro, kids_at hr'] at z
      obtain ⟨kl, kr⟩ := kids_recs hr'
      -- heads[at]
      refine ⟨.ref ha, rfl, .int (j : Nat), rfl, ha, _, _, .ref h, rfl, rfl, sG.seq hH, atI_nat (j := j) (by rw [List.getElem?_map, hh]; rfl), ?_⟩
      -- parts[at].inner
      refine ⟨.ref pa, rfl, .int (j : Nat), rfl, pa, _, _, .ref pr.p, rfl, rfl, sG.seq hR, atI_nat (j := j) (by rw [List.getElem?_map, hpr]; rfl), pr.p, C, pr.dx, _, .ref pr.l, rfl, z.ob, T.cl, T.nI, rfl, pr.l, rfl, ⟨_, SqL.of z.inn⟩, fun D hD => ?_⟩
      refine lc_list (xs := (inPlaces r.sub j).map fun n => V.int (n : Nat)) (fun m G2 => Same G (G2) ∧ ∃ acc : List V, G2 D = some (.lst acc) ∧ acc.length = m ∧
        ∀ m' v, acc[m']? = some v → ∃ f, r.sub.kids[m']? = some f ∧ IsF K G v f) ⟨Same.new hD, [], upd_same, rfl, fun m' v e => absurd e (no_get m' v)⟩ (fun m G2 _ q => SqL.of (q.1 _ _ z.inn)) ?_ ?_
      · rintro m x G2 hx ⟨s2, acc, hacc, lacc, iacc⟩
        rw [List.getElem?_map] at hx
        obtain ⟨p, hp, rfl⟩ : ∃ p, (inPlaces r.sub j)[m]? = some p ∧ x = V.int (p : Nat) := by
          cases e : (inPlaces r.sub j)[m]? with
          | none => rw [e] at hx; cases hx
          | some p => rw [e] at hx; exact ⟨p, rfl, (Option.some.inj hx).symm⟩
        obtain ⟨r', h1, h2, h3⟩ := kr m p hp
        obtain ⟨v, hv1, hv2⟩ := inv p r' (by omega) h1
        refine ⟨rfl, .ref ma, rfl, .int (p : Nat), rfl, ma, _, _, v, rfl, rfl, SqL.of (s2 _ _ gm), atI_nat (j := p) hv1, acc, hacc, ?_, ?_⟩
        · have : m < (inPlaces r.sub j).length := (List.getElem?_eq_some_iff.mp hp).1
          have l2 : (inPlaces r.sub j).length ≤ 2 := by
            rw [kl]
            exact F.kids_le r.sub
          exact small _ (by omega)
        · have dn : ∀ b o, G b = some o → b ≠ D := fun b o e => ne_of_none e hD
          refine ⟨fun b o e => by rw [upd_ne (dn b o e)]; exact s2 b o e, acc ++ [v], upd_same, (by rw [List.length_append, List.length_singleton, lacc]), fun m' v' e => ?_⟩
          by_cases lt : m' < acc.length
          · rw [List.getElem?_append_left lt] at e
            exact iacc m' v' e
          · have : m' = acc.length := by
              have := (List.getElem?_eq_some_iff.mp e).1
              rw [List.length_append, List.length_singleton] at this
              omega
            subst this
            rw [List.getElem?_append_right (Nat.le_refl _), Nat.sub_self] at e
            cases e
            rw [lacc]
            exact ⟨r'.sub, h2, hv2⟩
      · rintro G2 ⟨s2, acc, hacc, lacc, iacc⟩
        rw [List.length_map] at lacc
        -- tuple(..)
        refine ⟨D, acc, rfl, .inl ⟨SqL.of hacc, fun tp htp => ?_⟩⟩
        have s3 := Same.new (o := .tup acc) htp
        have s23 := s2.trans s3
        generalize hG3 : upd G2 tp (.tup acc) = G3 at s3 s23
        have tpT : G3 tp = some (.tup acc) := by rw [← hG3, upd_same]
        have allf : AllF K G acc r.sub.kids := by
          have len : acc.length = r.sub.kids.length := by rw [lacc, kl]
          generalize r.sub.kids = ts at len iacc
          clear lacc hacc tpT hG3
          induction acc generalizing ts with
          | nil =>
            cases ts with
            | nil => exact .nil
            | cons _ _ => simp at len
          | cons v acc ih =>
            cases ts with
            | nil => simp at len
            | cons f ts =>
              obtain ⟨f', e1, e2⟩ := iacc 0 v rfl
              cases e1
              exact .cons e2 (ih ts (by simpa using len) fun m' v' e => iacc (m' + 1) v' e)
        have fin : ∀ (b : Addr) (G4 : Hp), Same G3 G4 → SqT K G4 b (hv r.sub.hd ++ acc) → G4 ma = some (.lst ms) → ∃ (ms' : List V) (y : Option V), ([some (.ref pa), some (.ref ha), some (.ref ma), some (.int (j : Nat)), none] : List (Option V)) = [some (.ref pa), some (.ref ha), some (.ref ma), y, none] ∧
            Same H (upd G4 ma (.lst (ms.set j (.ref b)))) ∧ (upd G4 ma (.lst (ms.set j (.ref b)))) ma = some (.lst ms') ∧ ms'.length = t.size ∧ ∀ j' r, t.size - (i + 1) ≤ j' → (infos t)[j']? = some r → ∃ v, ms'[j']? = some v ∧ IsF K (upd G4 ma (.lst (ms.set j (.ref b)))) v r.sub := by
          intro b G4 s4 sq4 gm4
          have l5 : LKp G4 (upd G4 ma (.lst (ms.set j (.ref b)))) := LKp.upd gm4
          have l45 : LKp G (upd G4 ma (.lst (ms.set j (.ref b)))) := (LKp.same (s23.trans s4)).trans l5
          refine ⟨_, _, rfl, fun c o e => ?_, upd_same, by rw [List.length_set]; exact lm, fun j' r2 hj' hr2 => ?_⟩
          · rw [upd_ne (fun q => by rw [q, hma0] at e; cases e)]
            exact s4 _ _ (s23 _ _ (sG _ _ e))
          · by_cases e : j' = j
            · subst e
              rw [hr'] at hr2
              cases hr2
              refine ⟨.ref b, by rw [List.getElem?_set_self (by omega)], IsF.close (SqT.lk l5 sq4) (allf.lk l45)⟩
            · obtain ⟨v, e1, e2⟩ := inv j' r2 (by omega) hr2
              exact ⟨v, by rw [List.getElem?_set_ne (fun q => e q.symm)]; exact e1, e2.lk l45⟩
        have nz : hv r.sub.hd ≠ [] := fun q => by have := hv_len r.sub.hd; rw [q] at this; simp at this
        have gm3 := s23 _ _ gm
        have ixj : ixN ms.length ((j : Nat) : Int) = some j := by
          unfold ixN
          rw [if_pos (by omega), if_pos (by omega), Int.toNat_natCast]
        refine ⟨h, tp, _, _, rfl, rfl, SqT.same s23 hdT, SqT.of tpT, ?_, fun q => absurd q nz, fun _ e => ?_, fun _ _ p hp => ?_⟩
        · have := hv_len r.sub.hd
          have l2 := F.kids_le r.sub
          rw [allf.len]
          exact Nat.le_of_lt (small _ (by omega))
        · refine ⟨.ref ma, rfl, .int (j : Nat), rfl, ma, _, _, j, rfl, rfl, gm3, ixj, ?_⟩
          exact fin h G3 (Same.refl _) (by rw [e, List.append_nil]; exact SqT.same s23 hdT) gm3
        · have s4 := Same.new (o := .tup (hv r.sub.hd ++ acc)) hp
          refine ⟨.ref ma, rfl, .int (j : Nat), rfl, ma, _, _, j, rfl, rfl, s4 _ _ gm3, ixj, ?_⟩
          exact fin p _ s4 (SqT.of upd_same) (s4 _ _ gm3)
    · rintro σ G ⟨ms, y, rfl, sG, gm, lm, inv⟩
      obtain ⟨v, hv1, hv2⟩ := inv 0 ⟨t, -1, []⟩ (by omega) (info_head _ _ _ _)
      refine ⟨.ref ma, rfl, ma, _, 0, v, rfl, rfl, SqL.of gm, atI_nat (j := 0) hv1, ?_⟩
      exact k v G sG hv2
end
end Fw

set_option maxRecDepth 100000
set_option maxHeartbeats 2000000
namespace Fw
open PySem PySem.Spec PyProof.Rows L2
theorem pre_get {t : F} {i : Nat} {r : Rec} (h : (infos t)[i]? = some r) : (pre t (-1) 0)[i]? = some (r.sub.hd, r.aro) := by
  rw [pre, List.getElem?_map, h]
  rfl
theorem isB_hd (s : F) : isBH s.hd = isB s := by cases s <;> rfl
def nearL (t : F) : List Int := (infos t).map fun r => topPos r.stk
def placeOf (r : Rec) : Int := match r.sub with
  | .leaf .var x => posOf x r.stk
  | _ => -1
def placeL (t : F) : List Int := (infos t).map placeOf
/-- the i-th part and what is known of it -/
theorem PartsAt.nth {K : PySem.W.Frag} {C : Addr} {H : Hp} {pa : Addr} {t : F} {R : List PRec} (PR : Parts K C H R (pre t (-1) 0)) {i : Nat} (hi : i < t.size) :
    ∃ r pr, (infos t)[i]? = some r ∧ R[i]? = some pr ∧ PartIs K C H pr r.sub.hd r.aro (inPlaces r.sub i) := by
  have lenI : (infos t).length = t.size := info_len _ _ _ _
  have lenR : R.length = t.size := by rw [PR.1, pre_len]
  obtain ⟨r, hr⟩ : ∃ r, (infos t)[i]? = some r := ⟨(infos t)[i]'(by omega), by simp⟩
  obtain ⟨pr, hpr⟩ : ∃ pr, R[i]? = some pr := ⟨R[i]'(by omega), by simp⟩
  have z := PR.2 i pr _ _ hpr (pre_get hr)
  rw [pre_aro, kids_at hr] at z
  exact ⟨r, pr, hr, hpr, z⟩
theorem nv_N : ∀ b : Bool, V.str (wN b) ≠ V.str "var"
  | true => by decide +kernel
  | false => by decide +kernel
theorem nv_T : ∀ b : Bool, V.str (wT b) ≠ V.str "var"
  | true => by decide +kernel
  | false => by decide +kernel
theorem nv_O : ∀ k : One, V.str (wO k) ≠ V.str "var"
  | .some => by decide +kernel
  | .all => by decide +kernel
  | .least => by decide +kernel
  | .most => by decide +kernel
theorem nv_has : V.str (wL .has) ≠ V.str "var" := by decide +kernel
theorem nv_lacks : V.str (wL .lacks) ≠ V.str "var" := by decide +kernel
theorem hd_at0 (hd : Hd) : atI (hv hd) 0 = some (.str (hw hd)) := atI_nat (j := 0) (hv_head hd)
theorem fld_head (h : V) (a : Int) (l : Addr) : (pf h a l).lookup ("head" : Str) = some h := rfl
theorem fld_around (h : V) (a : Int) (l : Addr) : (pf h a l).lookup ("around" : Str) = some (.int a) := rfl
section
variable {P : Program} {w : World} {K : PySem.W.Frag} {mg : Str → Option Value} {base : Heap} {C J B : Addr}
def spNear (K : PySem.W.Frag) (C B : Addr) : Sp := fun vs H Q _ => ∃ (pa : Addr) (t : F), vs = [.ref pa, .ref B] ∧ PartsAt K C H pa (pre t (-1) 0) ∧ t.size ≤ 1000 ∧
  ∀ na H', Same H H' → H' na = some (.lst ((nearL t).map V.int)) → Q (.ref na) H'
theorem ok_nearest_around {f : Addr} {fd : FuncData} (FF : Fun K "nearest_around" "nearest_around" s_nearest_around f fd) (T : Txt K mg C J B) : FnOk P w K mg base CX0 1 f fd a_nearest_around (spNear K C B) := by
  refine FF.ok sc_nearest_around (fun vs H Q E h => ?_) (fun cdv A outer s H vs Q E hr h => ?_)
  · obtain ⟨pa, t, rfl, _⟩ := h
    rfl
  · obtain ⟨pa, t, rfl, ⟨R, hR, PR⟩, hsz, k⟩ := h
    have small : ∀ n : Nat, n ≤ 1000 → n < sizeLine := fun n hn => small1000 hn
    have lenR : R.length = t.size := by rw [PR.1, pre_len]
    have lenI : (infos t).length = t.size := info_len _ _ _ _
    refine ⟨_, (pss_cons (ps_set (i := 2) sc_nearest_around.nd rfl (.inl rfl) (pe_lst pa_nil))
      (pss_cons (ps_for PassesOwn.never rfl (pi_list (pv 0)) (pg_name (i := 3) sc_nearest_around.nd rfl (.inl rfl)) (pss_cons (ps_set (i := 4) sc_nearest_around.nd rfl (.inl rfl) (pe_fld (pv 3) rfl))
      (pss_cons (ps_if (PW.pt (pw_and (pt_cmpR op_ge (pv 4) pe_int (nomark _)) (pw_and1 (pt_cmpR op_notIn_seq (pe_ix ix_tup (pe_fld (pe_ix ix_list (pv 0) (pv 4) (fun _ _ => rfl)) rfl) pe_int (fun _ _ => rfl)) (pv 1) (by rfl))))) (pss_one (ps_set (i := 4) sc_nearest_around.nd rfl (.inl rfl) (pe_ix ix_list (pv 2) (pv 4) (fun _ _ => rfl)))) pss_nil)
      (pss_one (ps_expr (pe_bm PySem.F.plainAttrs_list PySem.F.slot_list_append PySem.F.type_list_append mt_append (pv 2) (pa_cons (pv 4) pa_nil)))))))
      (pss_one (ps_ret (pv 2))))), ?_⟩
    refine ⟨Nat.zero_le _, fun na hna => ?_⟩
    refine ⟨.ref pa, rfl, pa, rfl, ⟨_, (Same.new hna).seq hR⟩, for_list (xs := R.map fun (r : PRec) => V.ref r.p) (fun i σ G => ∃ (y3 y4 : Option V), σ = [some (.ref pa), some (.ref B), some (.ref na), y3, y4] ∧ Same H G ∧ G na = some (.lst (((nearL t).take i).map V.int)))
      ⟨none, none, rfl, Same.new hna, upd_same⟩ (fun i σ G _ ⟨_, _, _, sG, _⟩ => sG.seq hR) ?_ ?_⟩
    · rintro i x σ G hx ⟨y3, y4, rfl, sG, gn⟩
      have hi : i < t.size := by
        have := (List.getElem?_eq_some_iff.mp hx).1
        rw [List.length_map] at this
        omega
      obtain ⟨r, pr, hr', hpr, z0⟩ := PartsAt.nth (pa := pa) PR hi
      have z := z0.same sG
      rw [List.getElem?_map, hpr] at hx
      cases hx
      -- around = part.around
      refine ⟨.ref pr.p, rfl, pr.p, C, pr.dx, _, _, rfl, z.ob, T.cl, T.nA, fld_around _ _ _, ?_⟩
      have nlen : (nearL t).length = t.size := by rw [nearL, List.length_map, lenI]
      have nget : (nearL t)[i]? = some (topPos r.stk) := by rw [nearL, List.getElem?_map, hr']; rfl
      have fin : ∀ (a : Int) (y : Option V), a = topPos r.stk → ∃ (y3 y4 : Option V), ([some (.ref pa), some (.ref B), some (.ref na), some (.ref pr.p), some (.int a)] : List (Option V)) = [some (.ref pa), some (.ref B), some (.ref na), y3, y4] ∧
          Same H (upd G na (.lst (((nearL t).take i).map V.int ++ [.int a]))) ∧ (upd G na (.lst (((nearL t).take i).map V.int ++ [.int a]))) na = some (.lst (((nearL t).take (i + 1)).map V.int)) := by
        intro a y e
        subst e
        refine ⟨_, _, rfl, fun b o e => ?_, ?_⟩
        · rw [upd_ne (ne_of_none e hna)]
          exact sG b o e
        · rw [upd_same, List.take_add_one, nget, List.map_append]
          rfl
      have nsz : (((nearL t).take i).map V.int).length < sizeLine := by
        rw [List.length_map, List.length_take]
        exact small _ (by omega)
      refine ⟨.int r.aro, rfl, _, _, rfl, rfl, _, rfl, ?_⟩
      rcases top_step hr' with ⟨e1, e2, _⟩ | ⟨p, r', hp, e3, e1, e2⟩
      · refine ite2 (fun c => ?_) (fun c => ?_)
        · have := of_decide_eq_true c
          omega
        · refine iteF ?_
          refine ⟨.ref na, rfl, .inl ⟨rfl, _, SqL.of gn⟩, .int r.aro, rfl, na, _, _, rfl, rfl, gn, nsz, ?_⟩
          exact fin r.aro none (by rw [e1, e2])
      · refine ite2 (fun c => ?_) (fun c => ?_)
        · obtain ⟨r2, pr', hr2, hpr', z1⟩ := PartsAt.nth (pa := pa) PR (show p < t.size by omega)
          rw [e3] at hr2
          cases hr2
          have z' := z1.same sG
          refine ⟨.ref pa, rfl, .int r.aro, rfl, pa, _, _, .ref pr'.p, rfl, rfl, sG.seq hR, ?_, pr'.p, C, pr'.dx, _, .ref pr'.h, rfl, z'.ob, T.cl, T.nH, fld_head _ _ _, pr'.h, _, _, _, rfl, rfl, z'.hd, hd_at0 _, .ref B, rfl, B, _, rfl, .inr (T.c_BINDERS _), rfl, rfl, _, rfl, ?_⟩
          · rw [e1]
            exact atI_nat (j := p) (by rw [List.getElem?_map, hpr']; rfl)
          rw [if_pos rfl, in_binders, isB_hd]
          cases hb : isB r'.sub with
          | true =>
            refine iteF ?_
            refine ⟨.ref na, rfl, .inl ⟨rfl, _, SqL.of gn⟩, .int r.aro, rfl, na, _, _, rfl, rfl, gn, nsz, ?_⟩
            exact fin r.aro none (by rw [e2, hb, if_pos rfl, e1])
          | false =>
            refine iteT ?_
            refine ⟨.ref na, rfl, .int r.aro, rfl, na, _, _, .int (topPos r'.stk), rfl, rfl, SqL.of gn, ?_, ?_⟩
            · rw [e1]
              refine atI_nat (j := p) ?_
              rw [List.getElem?_map, List.getElem?_take, if_pos hp, nearL, List.getElem?_map, e3]
              rfl
            · refine ⟨.ref na, rfl, .inl ⟨rfl, _, SqL.of gn⟩, .int (topPos r'.stk), rfl, na, _, _, rfl, rfl, gn, nsz, ?_⟩
              exact fin (topPos r'.stk) none (by rw [e2, hb]; rfl)
        · have := of_decide_eq_false (Bool.eq_false_iff.mpr c)
          omega
    · rintro σ G ⟨y3, y4, rfl, sG, gn⟩
      refine ⟨_, rfl, k na G sG ?_⟩
      rw [gn, List.length_map, lenR, List.take_of_length_le (by rw [nearL, List.length_map, lenI]; exact Nat.le_refl _)]
/-! ### binder_places -/
def spPlaces (K : PySem.W.Frag) (C : Addr) : Sp := fun vs H Q _ => ∃ (pa : Addr) (t : F), vs = [.ref pa] ∧ PartsAt K C H pa (pre t (-1) 0) ∧ t.size ≤ 1000 ∧
  ∀ la H', Same H H' → H' la = some (.lst ((placeL t).map V.int)) → Q (.ref la) H'
theorem ok_binder_places {f : Addr} {fd : FuncData} (FF : Fun K "binder_places" "binder_places" s_binder_places f fd) (T : Txt K mg C J B)
    (h_nearest_around : Has P w K mg base "nearest_around" 1 a_nearest_around (spNear K C B)) : FnOk P w K mg base CX0 2 f fd a_binder_places (spPlaces K C) := by
  refine FF.ok sc_binder_places (fun vs H Q E h => ?_) (fun cdv A outer s H vs Q E hr h => ?_)
  · obtain ⟨pa, t, rfl, _⟩ := h
    rfl
  · obtain ⟨pa, t, rfl, PA, hsz, k⟩ := h
    obtain ⟨R, hR, PR⟩ := id PA
    have small : ∀ n : Nat, n ≤ 1000 → n < sizeLine := fun n hn => small1000 hn
    have lenR : R.length = t.size := by rw [PR.1, pre_len]
    have lenI : (infos t).length = t.size := info_len _ _ _ _
    have plen : (placeL t).length = t.size := by rw [placeL, List.length_map, lenI]
    refine ⟨_, (pss_cons (ps_set (i := 1) sc_binder_places.nd rfl (.inl rfl) (pe_callH h_nearest_around (hr.mono (by omega)) (pa_cons (pv 0) (pa_cons (pe_glob rfl T.m_BINDERS (show RelV (.ref _) _ from rfl)) pa_nil))))
      (pss_cons (ps_set (i := 2) sc_binder_places.nd rfl (.inl rfl) (pe_lst pa_nil))
      (pss_cons (ps_for PassesOwn.never rfl (pi_enum rfl T.z_enumerate (pa_cons (pv 0) pa_nil)) (pg_tup rfl (pgs_cons (pg_name (i := 3) sc_binder_places.nd rfl (.inl rfl)) (pgs_cons (pg_name (i := 4) sc_binder_places.nd rfl (.inl rfl)) pgs_nil))) (pss_cons (ps_set (i := 5) sc_binder_places.nd rfl (.inl rfl) (pe_un un_neg pe_int))
      (pss_cons (ps_if (pt_cmpR op_eq (pe_ix ix_tup (pe_fld (pv 4) rfl) pe_int (fun _ _ => rfl)) pe_str (nomark _)) (pss_cons (ps_set (i := 5) sc_binder_places.nd rfl (.inl rfl) (pe_ix ix_list (pv 1) (pv 3) (fun _ _ => rfl)))
      (pss_one (ps_while PassesOwn.never (PW.pt (pw_and (pt_cmpR op_ge (pv 5) pe_int (nomark _)) (pw_and1 (pt_cmpR op_ne (pe_ix ix_tup (pe_fld (pe_ix ix_list (pv 0) (pv 5) (fun _ _ => rfl)) rfl) pe_int (fun _ _ => rfl)) (pe_ix ix_tup (pe_fld (pv 4) rfl) pe_int (fun _ _ => rfl)) (nomark _))))) (pss_one (ps_set (i := 5) sc_binder_places.nd rfl (.inl rfl) (pe_ix ix_list (pv 1) (pv 5) (fun _ _ => rfl))))))) pss_nil)
      (pss_one (ps_expr (pe_bm PySem.F.plainAttrs_list PySem.F.slot_list_append PySem.F.type_list_append mt_append (pv 2) (pa_cons (pv 5) pa_nil)))))))
      (pss_one (ps_ret (pv 2)))))), ?_⟩
    refine ⟨.ref pa, rfl, pa, t, rfl, PA, hsz, fun na H1 s1 n1 => ?_⟩
    refine ⟨Nat.zero_le _, fun la hla => ?_⟩
    have s2 := Same.new (o := .lst []) hla
    have hla0 := s1.free hla
    refine ⟨.ref pa, rfl, pa, _, rfl, (s1.trans s2).seq hR, for_it (walk_enum (xs := R.map fun (r : PRec) => V.ref r.p)) (fun i σ G => ∃ (y3 y4 y5 : Option V), σ = [some (.ref pa), some (.ref na), some (.ref la), y3, y4, y5] ∧ Same H G ∧
      G na = some (.lst ((nearL t).map V.int)) ∧ G la = some (.lst (((placeL t).take i).map V.int)))
      ⟨none, none, none, rfl, s1.trans s2, s2 _ _ n1, upd_same⟩ (fun i σ G _ ⟨_, _, _, _, sG, _⟩ => sG.seq hR) ?_ ?_⟩
    · rintro i x σ G H' hi ⟨y3, y4, y5, rfl, sG, gn, gl⟩ ⟨tp, x1, x2, rfl, htp, rfl, e1, e2⟩
      rw [List.length_map, lenR] at hi
      obtain ⟨r, pr, hr', hpr, z0⟩ := PartsAt.nth (pa := pa) PR hi
      have e2' : (R.map fun (r : PRec) => V.ref r.p)[i]? = some x2 := e2
      rw [List.getElem?_map, hpr] at e2'
      cases e1
      cases e2'
      have st := Same.new (o := .tup [.int (i : Nat), .ref pr.p]) htp
      have sG' := sG.trans st
      have z := z0.same sG'
      have gn' := st _ _ gn
      have gl' := st _ _ gl
      have tT : SqT K (upd G tp (.tup [.int (i : Nat), .ref pr.p])) tp [.int (i : Nat), .ref pr.p] := SqT.of upd_same
      generalize upd G tp (.tup [.int (i : Nat), .ref pr.p]) = G1 at st sG' z gn' gl' tT
      refine ⟨tp, _, rfl, tT, rfl, .int (i : Nat), _, rfl, .ref pr.p, _, rfl, rfl, 1, rfl, ?_⟩
      have fin : ∀ (a : Int) (y : Option V), a = placeOf r → ∃ (y3 y4 y5 : Option V), ([some (.ref pa), some (.ref na), some (.ref la), some (.int (i : Nat)), some (.ref pr.p), some (.int a)] : List (Option V)) = [some (.ref pa), some (.ref na), some (.ref la), y3, y4, y5] ∧
          Same H (upd G1 la (.lst (((placeL t).take i).map V.int ++ [.int a]))) ∧ (upd G1 la (.lst (((placeL t).take i).map V.int ++ [.int a]))) na = some (.lst ((nearL t).map V.int)) ∧
          (upd G1 la (.lst (((placeL t).take i).map V.int ++ [.int a]))) la = some (.lst (((placeL t).take (i + 1)).map V.int)) := by
        intro a y e
        subst e
        refine ⟨_, _, _, rfl, fun b o e => ?_, ?_, ?_⟩
        · rw [upd_ne (ne_of_none e hla0)]
          exact sG' b o e
        · rw [upd_ne (ne_of_none n1 hla)]
          exact gn'
        · rw [upd_same, List.take_add_one, show (placeL t)[i]? = some (placeOf r) by rw [placeL, List.getElem?_map, hr']; rfl, List.map_append]
          rfl
      have lsz : (((placeL t).take i).map V.int).length < sizeLine := by
        rw [List.length_map, List.length_take]
        exact small _ (by omega)
      refine ⟨.ref pr.p, rfl, pr.p, C, pr.dx, _, .ref pr.h, rfl, z.ob, T.cl, T.nH, fld_head _ _ _, pr.h, _, _, _, rfl, rfl, z.hd, hd_at0 _, rfl, _, rfl, ?_⟩
      have other : (∀ x, r.sub ≠ .leaf .var x) → V.str (hw r.sub.hd) ≠ V.str "var" ∧ placeOf r = -1 := fun nv => by
        obtain ⟨sb, a, stk⟩ := r
        cases sb with
        | nul b => exact ⟨nv_N b, rfl⟩
        | two b _ _ => exact ⟨nv_T b, rfl⟩
        | one k _ _ => exact ⟨nv_O k, rfl⟩
        | leaf k x =>
          cases k with
          | var => exact absurd rfl (nv x)
          | has => exact ⟨nv_has, rfl⟩
          | lacks => exact ⟨nv_lacks, rfl⟩
      by_cases hv' : ∃ x, r.sub = .leaf .var x
      · obtain ⟨x, hx⟩ := hv'
        have zh := z.hd
        rw [hx] at zh
        rw [hx]
        refine (if_pos (decide_eq_true rfl)).mpr ?_
        have nget : (nearL t)[i]? = some (topPos r.stk) := by rw [nearL, List.getElem?_map, hr']; rfl
        refine ⟨.ref na, rfl, .int (i : Nat), rfl, na, _, _, .int (topPos r.stk), rfl, rfl, SqL.of gn', atI_nat (j := i) (by rw [List.getElem?_map, nget]; rfl), ?_⟩
        have fin' := fin (posOf x r.stk) none (by unfold placeOf; rw [hx])
        refine ⟨fun m σ G' => ∃ (st' : Stk) (j0 : Nat) (r0 : Rec), σ = [some (.ref pa), some (.ref na), some (.ref la), some (.int (i : Nat)), some (.ref pr.p), some (.int (topPos st'))] ∧ G' = G1 ∧ posOf x st' = posOf x r.stk ∧
          (infos t)[j0]? = some r0 ∧ r0.stk = st' ∧ m = st'.length, ⟨_, r.stk, i, r, rfl, rfl, rfl, hr', rfl, rfl⟩, ?_⟩
        rintro m σ G' ⟨st', j0, r0, rfl, rfl, hpos, hr0, rfl, rfl⟩
        refine ⟨.int (topPos r0.stk), rfl, _, _, rfl, rfl, _, rfl, ?_⟩
        have out : ∀ a : Int, a = posOf x r.stk → ∀ σ : L2.St, σ = [some (.ref pa), some (.ref na), some (.ref la), some (.int (i : Nat)), some (.ref pr.p), some (.int a)] → σ = [some (.ref pa), some (.ref na), some (.ref la), some (.int (i : Nat)), some (.ref pr.p), some (.int (posOf x r.stk))] := fun a e σ es => by rw [es, e]
        cases hst : r0.stk with
        | nil =>
          rw [hst] at hpos
          refine iteF (iteF ?_)
          refine ⟨.ref la, rfl, .inl ⟨rfl, _, SqL.of gl'⟩, .int (-1), rfl, la, _, _, rfl, rfl, gl', lsz, ?_⟩
          have e : (-1 : Int) = posOf x r.stk := hpos
          rw [← e] at fin'
          exact fin'
        | cons yp rest =>
          obtain ⟨y, p⟩ := yp
          rw [hst] at hpos
          obtain ⟨hp, kd, f, a, hrp, hk⟩ := infos_stk j0 j0 r0 y p rest (Nat.le_refl _) hr0 hst
          have j0lt : j0 < t.size := by
            have := (List.getElem?_eq_some_iff.mp hr0).1
            omega
          obtain ⟨r2, pr', hr2, hpr', z1⟩ := PartsAt.nth (pa := pa) PR (show p < t.size by omega)
          rw [hrp] at hr2
          cases hr2
          have z' := z1.same sG'
          refine (if_pos (decide_eq_true (Int.natCast_nonneg p))).mpr ?_
          refine ⟨.ref pa, rfl, .int (p : Nat), rfl, pa, _, _, .ref pr'.p, rfl, rfl, sG'.seq hR, atI_nat (j := p) (by rw [List.getElem?_map, hpr']; rfl), pr'.p, C, pr'.dx, _, .ref pr'.h, rfl, z'.ob, T.cl, T.nH, fld_head _ _ _, pr'.h, _, 1, .int y, rfl, rfl, z'.hd, atI_nat (j := 1) rfl, ?_⟩
          refine ⟨.ref pr.p, rfl, pr.p, C, pr.dx, _, .ref pr.h, rfl, z.ob, T.cl, T.nH, fld_head _ _ _, pr.h, _, 1, .int x, rfl, rfl, zh, atI_nat (j := 1) rfl, rfl, _, rfl, ?_⟩
          by_cases e : y = x
          · subst e
            rw [decide_eq_true (rfl : V.int y = V.int y)]
            refine iteF ?_
            refine ⟨.ref la, rfl, .inl ⟨rfl, _, SqL.of gl'⟩, .int (p : Nat), rfl, la, _, _, rfl, rfl, gl', lsz, ?_⟩
            have e : ((p : Nat) : Int) = posOf y r.stk := by rw [← hpos]; simp [posOf]
            rw [← e] at fin'
            exact fin'
          · rw [decide_eq_false (fun q : V.int y = V.int x => e (V.int.inj q))]
            refine iteT ⟨_, fun σ' H' z => z, ?_⟩
            refine ⟨.ref na, rfl, .int (p : Nat), rfl, na, _, _, .int (topPos rest), rfl, rfl, SqL.of gn', atI_nat (j := p) (by rw [List.getElem?_map, nearL, List.getElem?_map, hrp]; rfl), ?_⟩
            refine ⟨rest.length, Nat.lt_succ_self _, rest, p, _, rfl, rfl, ?_, hrp, rfl, rfl⟩
            rw [← hpos]
            simp only [posOf]
            rw [if_neg e]
      · obtain ⟨n1', n2'⟩ := other fun x e => hv' ⟨x, e⟩
        refine (if_neg (by rw [decide_eq_false n1']; exact Bool.false_ne_true)).mpr ?_
        refine ⟨.ref la, rfl, .inl ⟨rfl, _, SqL.of gl'⟩, .int (-1), rfl, la, _, _, rfl, rfl, gl', lsz, ?_⟩
        exact fin (-1) none n2'.symm
    · rintro σ G ⟨y3, y4, y5, rfl, sG, gn, gl⟩
      refine ⟨_, rfl, k la G sG ?_⟩
      rw [gl, List.length_map, lenR, List.take_of_length_le (by omega)]
end
end Fw

set_option maxRecDepth 100000
set_option maxHeartbeats 2000000
namespace Fw
open PySem PySem.Spec PyProof.Rows L2
theorem filter_more {S : Int → Bool} {k : Int} : ∀ {l : List Int}, l.Nodup → k ∈ l → (l.filter fun j => S j || decide (j = k)).length = if S k = true then (l.filter S).length else (l.filter S).length + 1
  | [], _, h => by cases h
  | a :: l, nd, h => by
    have nd' := List.nodup_cons.mp nd
    by_cases e : a = k
    · subst e
      have same : (l.filter fun j => S j || decide (j = a)) = l.filter S := by
        refine List.filter_congr fun x hx => ?_
        have : x ≠ a := fun q => nd'.1 (q ▸ hx)
        simp [this]
      by_cases hs : S a = true
      · simp [List.filter_cons, hs, same]
      · simp [List.filter_cons, hs, same]
    · have hk : k ∈ l := (List.mem_cons.mp h).resolve_left fun q => e q.symm
      have ih := filter_more (S := S) nd'.2 hk
      by_cases ha : S a = true
      · simp only [List.filter_cons, ha, Bool.true_or, if_true, List.length_cons, ih]
        split <;> rfl
      · have ha' : S a = false := by simpa using ha
        simp only [List.filter_cons, ha', Bool.false_or, decide_eq_false e, Bool.false_eq_true, if_false, ih]
theorem none_len (l : List Int) : 0 = (l.filter fun _ => false).length := by
  induction l with
  | nil => rfl
  | cons a l ih => simpa [List.filter_cons] using ih
theorem none_yet {I : List Rec} {x : Int} : false = true ↔ ∃ (j : Nat) (r : Rec), j < 0 ∧ I[j]? = some r ∧ r.sub = .leaf .var x ∧ x ∉ r.stk.map (·.1) :=
  ⟨fun e => (Bool.false_ne_true e).elim, fun ⟨_, _, h, _⟩ => absurd h (Nat.not_lt_zero _)⟩
section
variable {P : Program} {w : World} {K : PySem.W.Frag} {mg : Str → Option Value} {base : Heap} {C J B : Addr}
/-! ### free_variables -/
def spFree (K : PySem.W.Frag) : Sp := fun vs H Q _ => ∃ (v : V) (t : F) (Vs : List Int), vs = [v] ∧ IsF K H v t ∧ t.size ≤ 1000 ∧ Vs.Nodup ∧ Vs.length < 64 ∧ (∀ x ∈ freeL t [], x ∈ Vs) ∧
  ∀ (ns : List Int) p H', Same H H' → ns.Pairwise (· < ·) → (∀ x, x ∈ ns ↔ x ∈ freeL t []) → H' p = some (.lst (ns.map V.int)) → Q (.ref p) H'
theorem ok_free_variables {f : Addr} {fd : FuncData} (FF : Fun K "free_variables" "free_variables" s_free_variables f fd) (T : Txt K mg C J B)
    (h_parts_of : Has P w K mg base "parts_of" 3 a_parts_of (spParts K C)) (h_binder_places : Has P w K mg base "binder_places" 2 a_binder_places (spPlaces K C)) : FnOk P w K mg base CX0 4 f fd a_free_variables (spFree K) := by
  refine FF.ok sc_free_variables (fun vs H Q E h => ?_) (fun cdv A outer s H vs Q E hr h => ?_)
  · obtain ⟨v, t, Vs, rfl, _⟩ := h
    rfl
  · obtain ⟨v, t, Vs, rfl, ht, hsz, nd, l64, sub, k⟩ := h
    have lenI : (infos t).length = t.size := info_len _ _ _ _
    refine ⟨_, (pss_cons (ps_set (i := 1) sc_free_variables.nd rfl (.inl rfl) (pe_callH h_parts_of (hr.mono (by omega)) (pa_cons (pv 0) pa_nil)))
      (pss_cons (ps_set (i := 2) sc_free_variables.nd rfl (.inl rfl) (pe_callH h_binder_places (hr.mono (by omega)) (pa_cons (pv 1) pa_nil)))
      (pss_one (ps_ret (pe_callB (cr_sortedSet rfl) rfl T.z_sorted (by decide +kernel) (pa_cons (pe_sci (own := [("part", 3), ("place", 4)]) rfl sc_free_variables.nd (pi_zip rfl T.z_zip (pa_cons (pv 1) (pa_cons (pv 2) pa_nil))) (blkOk_by (own := [("part", 3), ("place", 4)]) (N := n_free_variables) (sc := defScope s_free_variables) (by decide +kernel)) (fun _ _ _ _ _ => (show PG _ _ (gTup K 2 _) from pg_tup rfl (pgs_cons (pg_name (i := 3) sc_free_variables.nd rfl (.inl rfl)) (pgs_cons (pg_name (i := 4) sc_free_variables.nd rfl (.inl rfl)) pgs_nil)))) (fun _ _ _ _ _ => (pts_one (PW.pt (pw_and (pt_cmpR op_eq (pe_ix (@id (IxR _ (rIxT K)) ix_tup) (show PE _ _ (tFld K _ "head") from pe_fld (pv 3) rfl) pe_int (fun _ _ => rfl)) pe_str (nomark _)) (pw_and1 (pt_cmpR op_lt (pv 4) pe_int (nomark _))))))) (fun _ _ _ _ _ => (pe_ix (@id (IxR _ (rIxT K)) ix_tup) (show PE _ _ (tFld K _ "head") from pe_fld (pv 3) rfl) pe_int (fun _ _ => rfl)))) pa_nil)))))), ?_⟩
    refine ⟨v, rfl, v, t, rfl, ht, hsz, fun pa H1 s1 PA => ?_⟩
    refine ⟨.ref pa, rfl, pa, t, rfl, PA, hsz, fun la H2 s2 hl => ?_⟩
    obtain ⟨R, hR, PR⟩ := id (PA.same s2)
    have lenR : R.length = t.size := by rw [PR.1, pre_len]
    refine ⟨.ref pa, rfl, .ref la, rfl, pa, la, _, _, rfl, hR, SqL.of hl, fun D hD => ?_⟩
    refine sci_it (walk_zip (n := t.size) (xs := R.map fun (r : PRec) => V.ref r.p) (ys := (placeL t).map V.int) (by rw [List.length_map, List.length_map, placeL, List.length_map, lenI, lenR, Nat.min_self]))
      (fun i G => Same H2 G ∧ ∃ S n, G D = some (SetO w D S n) ∧ n = (Vs.filter S).length ∧ ∀ x, S x = true ↔ ∃ (j : Nat) (r : Rec), j < i ∧ (infos t)[j]? = some r ∧ r.sub = .leaf .var x ∧ x ∉ r.stk.map (·.1))
      ⟨Same.new hD, fun _ => false, 0, upd_same, none_len Vs, fun x => none_yet⟩ (fun i G _ q => ⟨q.1.seq hR, SqL.of (q.1 _ _ hl)⟩) ?_ ?_
    · rintro i x G G' hi ⟨sG, S, n, hS, rfl, hSx⟩ ⟨tp, x1, x2, rfl, htp, rfl, e1, e2⟩
      obtain ⟨r, pr, hr', hpr, z0⟩ := PartsAt.nth (pa := pa) PR hi
      have e1' : (R.map fun (r : PRec) => V.ref r.p)[i]? = some x1 := e1
      have e2' : ((placeL t).map V.int)[i]? = some x2 := e2
      rw [List.getElem?_map, hpr] at e1'
      rw [List.getElem?_map, placeL, List.getElem?_map, hr'] at e2'
      cases e1'
      cases e2'
      have st := Same.new (o := .tup [.ref pr.p, .int (placeOf r)]) htp
      have sG' := sG.trans st
      have z := z0.same sG'
      have hS' := st _ _ hS
      have tT : SqT K (upd G tp (.tup [.ref pr.p, .int (placeOf r)])) tp [.ref pr.p, .int (placeOf r)] := SqT.of upd_same
      generalize upd G tp (.tup [.ref pr.p, .int (placeOf r)]) = G1 at st sG' z hS' tT
      refine ⟨tp, _, rfl, tT, rfl, .ref pr.p, _, rfl, .int (placeOf r), _, rfl, rfl, rfl, ?_⟩
      have noteq : (∀ x, ¬ (r.sub = .leaf .var x ∧ x ∉ r.stk.map (·.1))) → ∀ x, S x = true ↔ ∃ (j : Nat) (r : Rec), j < i + 1 ∧ (infos t)[j]? = some r ∧ r.sub = .leaf .var x ∧ x ∉ r.stk.map (·.1) := by
        intro hno x
        rw [hSx x]
        constructor
        · rintro ⟨j, r', h1, h2⟩
          exact ⟨j, r', by omega, h2⟩
        · rintro ⟨j, r', h1, h2, h3⟩
          by_cases e : j = i
          · subst e
            rw [hr'] at h2
            cases h2
            exact absurd h3 (hno x)
          · exact ⟨j, r', by omega, h2, h3⟩
      refine ⟨.ref pr.p, rfl, pr.p, C, pr.dx, _, .ref pr.h, rfl, z.ob, T.cl, T.nH, fld_head _ _ _, pr.h, _, _, _, rfl, rfl, z.hd, hd_at0 _, rfl, _, rfl, ?_⟩
      have ie : ∀ x y : Int, r.sub = .leaf .var x → F.leaf .var x = .leaf .var y → x = y := fun x y _ e => by injection e
      by_cases hv' : ∃ x, r.sub = .leaf .var x
      · obtain ⟨x, hx⟩ := hv'
        have zh := z.hd
        have hp : placeOf r = posOf x r.stk := by unfold placeOf; rw [hx]
        rw [hx] at zh
        rw [hx]
        refine (if_pos (decide_eq_true rfl)).mpr ?_
        refine ⟨.int (placeOf r), rfl, _, _, rfl, rfl, _, rfl, ?_⟩
        refine ite2 (fun c => ?_) (fun c => ?_)
        · have hneg : x ∉ r.stk.map (·.1) := (posOf_neg x r.stk).mp (by rw [← hp]; exact of_decide_eq_true c)
          have hxV : x ∈ Vs := sub x ((free_iff x t [] (-1) 0 [] (by simp)).mpr ⟨r, List.mem_of_getElem? hr', hx, hneg⟩)
          refine ⟨.ref pr.p, rfl, pr.p, C, pr.dx, _, .ref pr.h, rfl, z.ob, T.cl, T.nH, fld_head _ _ _, pr.h, _, 1, .int x, rfl, rfl, zh, atI_nat (j := 1) rfl, x, S, _, rfl, hS', ?_, ?_⟩
          · have := List.length_filter_le S Vs
            exact Nat.lt_of_le_of_lt (show _ ≤ 64 by omega) (by decide)
          · refine ⟨fun b o e => by rw [upd_ne (ne_of_none e hD)]; exact sG' b o e, _, _, upd_same, (filter_more nd hxV).symm, fun y => ?_⟩
            rw [Bool.or_eq_true, decide_eq_true_eq, hSx y]
            constructor
            · rintro (⟨j, r', h1, h2⟩ | rfl)
              · exact ⟨j, r', by omega, h2⟩
              · exact ⟨i, r, by omega, hr', hx, hneg⟩
            · rintro ⟨j, r', h1, h2, h3⟩
              by_cases e : j = i
              · subst e
                rw [hr'] at h2
                cases h2
                rw [hx] at h3
                exact .inr (ie x y hx h3.1).symm
              · exact .inl ⟨j, r', by omega, h2, h3⟩
        · refine ⟨sG', S, _, hS', rfl, noteq fun y q => ?_⟩
          rw [hx] at q
          have exy := ie x y hx q.1
          subst exy
          exact c (decide_eq_true (by rw [hp]; exact (posOf_neg x r.stk).mpr q.2))
      · have n1' : V.str (hw r.sub.hd) ≠ V.str "var" := by
          cases hs : r.sub with
          | nul b => exact nv_N b
          | two b _ _ => exact nv_T b
          | one k _ _ => exact nv_O k
          | leaf k x =>
            cases k with
            | var => exact absurd ⟨x, hs⟩ hv'
            | has => exact nv_has
            | lacks => exact nv_lacks
        refine (if_neg (by rw [decide_eq_false n1']; exact Bool.false_ne_true)).mpr ?_
        exact ⟨sG', S, _, hS', rfl, noteq fun y q => hv' ⟨y, q.1⟩⟩
    · rintro G ⟨sG, S, n, hS, rfl, hSx⟩
      refine ⟨D, S, _, rfl, hS, Nat.lt_of_le_of_lt (List.length_filter_le _ _) l64, fun ns p pw mem len hp => ?_⟩
      refine k ns p _ (s1.trans (s2.trans (sG.trans (Same.new hp)))) pw (fun x => ?_) upd_same
      rw [mem x, hSx x, free_iff x t [] (-1) 0 [] (by simp)]
      constructor
      · rintro ⟨j, r, h1, h2, h3⟩
        exact ⟨r, List.mem_of_getElem? h2, h3⟩
      · rintro ⟨r, h1, h2⟩
        obtain ⟨j, hj⟩ := List.mem_iff_getElem?.mp h1
        have := (List.getElem?_eq_some_iff.mp hj).1
        exact ⟨j, r, by rw [info_len] at this; exact this, hj, h2⟩
end
end Fw

set_option maxRecDepth 100000
set_option maxHeartbeats 2000000
namespace Fw
open PySem PySem.Spec PyProof.Rows L2
theorem SqT.butD {K : PySem.W.Frag} {G1 G2 : Hp} {a d : Addr} {xs : List V} {kvs : List (Key × V)} (hd : G1 d = some (.dK kvs)) (s : ∀ b o, b ≠ d → G1 b = some o → G2 b = some o) (h : SqT K G1 a xs) : SqT K G2 a xs := by
  rcases h with h | h
  · rcases h with h | ⟨u, h⟩
    · exact .inl (.inl (s _ _ (ne_of h hd (by intro z; cases z)) h))
    · exact .inl (.inr ⟨u, s _ _ (ne_of h hd (by intro z; cases z)) h⟩)
  · exact .inr h
section
variable {P : Program} {w : World} {K : PySem.W.Frag} {mg : Str → Option Value} {base : Heap} {C J B NC FE : Addr}
/-- a statement whose free variables are few -/
def Few (t : F) : Prop := ∃ Vs : List Int, Vs.Nodup ∧ Vs.length < 64 ∧ ∀ x ∈ freeL t [], x ∈ Vs
theorem Few.closed {t : F} (h : Closed t) : Few t := ⟨[], List.nodup_nil, by decide, fun x hx => by rw [closed_iff.mpr h] at hx; exact hx⟩
/-! ### ensure_closed -/
def spEnsure (K : PySem.W.Frag) (NC : Addr) : Sp := fun vs H Q E => ∃ (v : V) (t : F), vs = [v] ∧ IsF K H v t ∧ t.size ≤ 1000 ∧ Few t ∧
  (Closed t → ∀ H', Same H H' → Q .non H') ∧ (¬ Closed t → ∀ H', Same H H' → E (.ref NC) none H')
theorem ok_ensure_closed {f : Addr} {fd : FuncData} (FF : Fun K "ensure_closed" "ensure_closed" s_ensure_closed f fd) (T : Txt K mg C J B) (TE : TxtE K mg NC FE)
    (h_free_variables : Has P w K mg base "free_variables" 4 a_free_variables (spFree K)) : FnOk P w K mg base (L2.CX P w) 5 f fd a_ensure_closed (spEnsure K NC) := by
  refine FF.okX sc_ensure_closed (fun vs H Q E h => ?_) (fun cdv A outer s H vs Q E hr h => ?_)
  · obtain ⟨v, t, rfl, _⟩ := h
    rfl
  · obtain ⟨v, t, rfl, ht, hsz, ⟨Vs, nd, l64, sub⟩, k1, k2⟩ := h
    refine ⟨_, (pss_one (ps_if (pt_truth (pe_callH h_free_variables (hr.mono (by omega)) (pa_cons (pv 0) pa_nil)) (by intro _; rfl)) (pss_one (ps_raise rfl (takes_of rfl rfl rfl rfl) (pmk_own PySem.F.excBase_ValueError TE.xC TE.gC TE.kC (raises_own TE.bC TE.tC) (by exact rfl)))) pss_nil)), ?_⟩
    refine ⟨v, rfl, v, t, Vs, rfl, ht, hsz, nd, l64, sub, fun ns p H' s1 pw mem hp => ?_⟩
    refine ⟨!(ns.map V.int).isEmpty, .inl ⟨_, SqL.of hp, rfl⟩, ?_⟩
    cases ns with
    | nil =>
      refine iteF ?_
      exact k1 (closed_iff.mp (List.eq_nil_iff_forall_not_mem.mpr fun x hx => by have := (mem x).mpr hx; cases this)) H' s1
    | cons x ns =>
      refine iteT ?_
      refine k2 (fun c => ?_) H' s1
      have := (mem x).mp List.mem_cons_self
      rw [closed_iff.mpr c] at this
      cases this
abbrev nm0 : Int → Int := fun _ => 0
/-! ### tidy -/
def spTidy (K : PySem.W.Frag) (NC : Addr) : Sp := fun vs H Q E => ∃ (v : V) (t : F), vs = [v] ∧ IsF K H v t ∧ t.size ≤ 1000 ∧ Few t ∧
  (Closed t → ∀ v' H', Same H H' → IsF K H' v' (tidyF t nm0 0).1 → Q v' H') ∧ (¬ Closed t → ∀ H', Same H H' → E (.ref NC) none H')
theorem rank_succ {t : F} {i : Nat} {r : Rec} (h : (infos t)[i]? = some r) : cntB ((infos t).take (i + 1)) = cntB ((infos t).take i) + if isB r.sub = true then 1 else 0 := by
  rw [List.take_add_one, h, cntB_app]
  congr 1
  show cntB [r] = _
  rw [cntB_cons]
  rfl
theorem ok_tidy {f : Addr} {fd : FuncData} (FF : Fun K "tidy" "tidy" s_tidy f fd) (T : Txt K mg C J B) (TE : TxtE K mg NC FE)
    (h_ensure_closed : HasX P w K mg base "ensure_closed" 5 a_ensure_closed (spEnsure K NC)) (h_parts_of : Has P w K mg base "parts_of" 3 a_parts_of (spParts K C)) (h_binder_places : Has P w K mg base "binder_places" 2 a_binder_places (spPlaces K C))
    (h_built : Has P w K mg base "built" 1 a_built (spBuilt K C)) : FnOk P w K mg base (L2.CX P w) 6 f fd a_tidy (spTidy K NC) := by
  refine FF.okX sc_tidy (fun vs H Q E h => ?_) (fun cdv A outer s H vs Q E hr h => ?_)
  · obtain ⟨v, t, rfl, _⟩ := h
    rfl
  · obtain ⟨v, t, rfl, ht, hsz, few, k1, k2⟩ := h
    have hu := hu_of hr
    have small : ∀ n : Nat, n ≤ 1000 → n < sizeLine := fun n hn => small1000 hn
    have lenI : (infos t).length = t.size := info_len _ _ _ _
    refine ⟨_, (pss_cons (ps_expr (pe_callX h_ensure_closed (hr.mono (by omega)) (takes_of rfl rfl rfl rfl) (pa_cons (pv 0) pa_nil)))
      (PSs.nox (pss_cons (ps_set (i := 1) sc_tidy.nd rfl (.inl rfl) (pe_callH h_parts_of (hr.mono (by omega)) (pa_cons (pv 0) pa_nil)))
      (pss_cons (ps_set (i := 2) sc_tidy.nd rfl (.inl rfl) (pe_callH h_binder_places (hr.mono (by omega)) (pa_cons (pv 1) pa_nil)))
      (pss_cons (ps_set (i := 3) sc_tidy.nd rfl (.inl rfl) pe_dnewK)
      (pss_cons (ps_set (i := 4) sc_tidy.nd rfl (.inl rfl) (pe_lst pa_nil))
      (pss_cons (ps_for PassesOwn.never rfl (pi_enum rfl T.z_enumerate (pa_cons (pv 1) pa_nil)) (pg_tup rfl (pgs_cons (pg_name (i := 5) sc_tidy.nd rfl (.inl rfl)) (pgs_cons (pg_name (i := 6) sc_tidy.nd rfl (.inl rfl)) pgs_nil))) (pss_cons (ps_set (i := 7) sc_tidy.nd rfl (.inl rfl) (pe_fld (pv 6) rfl))
      (pss_cons (ps_if (pt_cmpR op_in_seq (pe_ix ix_tup (pv 7) pe_int (fun _ _ => rfl)) (pe_glob rfl T.m_BINDERS (show RelV (.ref _) _ from rfl)) (by rfl)) (pss_cons (ps_dput hu (pv 3) (pv 5) (pe_callB call_lenD rfl T.z_len (by decide +kernel) (pa_cons (pv 3) pa_nil)) rfl)
      (pss_one (ps_set (i := 7) sc_tidy.nd rfl (.inl rfl) (pe_tup (pa_cons (pe_ix ix_tup (pv 7) pe_int (fun _ _ => rfl)) (pa_cons (pe_dget hu (pv 3) (pv 5) (fun _ _ => rfl)) pa_nil)))))) (pss_one (ps_if (pt_cmpR op_eq (pe_ix ix_tup (pv 7) pe_int (fun _ _ => rfl)) pe_str (nomark _)) (pss_one (ps_set (i := 7) sc_tidy.nd rfl (.inl rfl) (pe_tup (pa_cons pe_str (pa_cons (pe_dget hu (pv 3) (pe_ix ix_list (pv 2) (pv 5) (fun _ _ => rfl)) (fun _ _ => rfl)) pa_nil))))) pss_nil)))
      (pss_one (ps_expr (pe_bm PySem.F.plainAttrs_list PySem.F.slot_list_append PySem.F.type_list_append mt_append (pv 4) (pa_cons (pv 7) pa_nil)))))))
      (pss_one (ps_ret (pe_callH h_built (hr.mono (by omega)) (pa_cons (pv 1) (pa_cons (pv 4) pa_nil)))))))))))), ?_⟩
    refine ⟨v, rfl, v, t, rfl, ht, hsz, few, fun hc H1 s1 => ?_, fun hc H1 s1 => k2 hc H1 s1⟩
    refine ⟨v, rfl, v, t, rfl, ht.same s1, hsz, fun pa H2 s2 PA => ?_⟩
    refine ⟨.ref pa, rfl, pa, t, rfl, PA, hsz, fun la H3 s3 hl => ?_⟩
    intro nda hnd
    refine ⟨Nat.zero_le _, fun ha hha => ?_⟩
    have s4 := Same.new (o := .dK []) hnd
    have s5 := Same.new (o := .lst []) hha
    have ndha : nda ≠ ha := fun e => by rw [← e, upd_same] at hha; cases hha
    have s123 := s1.trans (s2.trans s3)
    have s45 := s4.trans s5
    obtain ⟨R, hR, PR⟩ := id (PA.same s3)
    have lenR : R.length = t.size := by rw [PR.1, pre_len]
    have hnd0 := s123.free hnd
    have hha0 := s123.free (s4.free hha)
    have hnd3 : H3 nda = none := hnd
    have hha3 : H3 ha = none := s4.free hha
    refine ⟨.ref pa, rfl, pa, _, rfl, s45.seq hR, for_it (walk_enum (xs := R.map fun (r : PRec) => V.ref r.p)) (fun i σ G => ∃ (y5 y6 y7 : Option V) (kvs : List (Key × V)) (hs : List Addr),
      σ = [some v, some (.ref pa), some (.ref la), some (.ref nda), some (.ref ha), y5, y6, y7] ∧ Same H3 G ∧ G nda = some (.dK kvs) ∧ G ha = some (.lst (hs.map V.ref)) ∧ hs.length = i ∧ kvs.length = cntB ((infos t).take i) ∧
      (∀ p r, p < i → (infos t)[p]? = some r → isB r.sub = true → valV kvs (Sum.inl (p : Int)) = some (.int (rankOf t p))) ∧ (∀ p : Nat, i ≤ p → valV kvs (Sum.inl (p : Int)) = none) ∧
      ∀ (j : Nat) (h : Addr) (r : Rec), hs[j]? = some h → (infos t)[j]? = some r → SqT K G h (hv (newHd (rankOf t) j r)))
      ⟨none, none, none, [], [], rfl, s45, by rw [upd_ne ndha, upd_same], upd_same, rfl, rfl, fun p r h => absurd h (Nat.not_lt_zero _), fun p _ => rfl, fun j h r e => absurd e (no_get j h)⟩
      (fun i σ G _ ⟨_, _, _, _, _, _, sG, _⟩ => sG.seq hR) ?_ ?_⟩
    · rintro i x σ G H' hi ⟨y5, y6, y7, kvs, hs, rfl, sG, gnd, gha, lhs, lkv, hin, hout, hhd⟩ ⟨tp, x1, x2, rfl, htp, rfl, e1, e2⟩
      rw [List.length_map, lenR] at hi
      obtain ⟨r, pr, hr', hpr, z0⟩ := PartsAt.nth (pa := pa) PR hi
      have e2' : (R.map fun (r : PRec) => V.ref r.p)[i]? = some x2 := e2
      rw [List.getElem?_map, hpr] at e2'
      cases e1
      cases e2'
      have st := Same.new (o := .tup [.int (i : Nat), .ref pr.p]) htp
      have sG' := sG.trans st
      have z := z0.same sG'
      have gnd' := st _ _ gnd
      have gha' := st _ _ gha
      have hhd' : ∀ (j : Nat) (h : Addr) (r : Rec), hs[j]? = some h → (infos t)[j]? = some r → SqT K (upd G tp (.tup [.int (i : Nat), .ref pr.p])) h (hv (newHd (rankOf t) j r)) := fun j h r a b => SqT.same st (hhd j h r a b)
      have tT : SqT K (upd G tp (.tup [.int (i : Nat), .ref pr.p])) tp [.int (i : Nat), .ref pr.p] := SqT.of upd_same
      generalize upd G tp (.tup [.int (i : Nat), .ref pr.p]) = G1 at st sG' z gnd' gha' tT hhd'
      refine ⟨tp, _, rfl, tT, rfl, .int (i : Nat), _, rfl, .ref pr.p, _, rfl, rfl, ?_⟩
      -- head = part.head
      refine ⟨.ref pr.p, rfl, pr.p, C, pr.dx, _, .ref pr.h, rfl, z.ob, T.cl, T.nH, fld_head _ _ _, ?_⟩
      have lsz : (hs.map V.ref).length < sizeLine := by
        rw [List.length_map]
        exact small _ (by omega)
      have cntle : cntB ((infos t).take i) ≤ 1000 := by
        have := List.length_filter_le (fun r : Rec => isB r.sub) ((infos t).take i)
        rw [List.length_take] at this
        unfold cntB
        omega
      -- the turn's end
      have fin : ∀ (G2 : Hp) (h : Addr) (kvs' : List (Key × V)), (∀ b o, b ≠ nda → G1 b = some o → G2 b = some o) → G2 nda = some (.dK kvs') → kvs'.length = cntB ((infos t).take (i + 1)) →
          (∀ p r, p < i + 1 → (infos t)[p]? = some r → isB r.sub = true → valV kvs' (Sum.inl (p : Int)) = some (.int (rankOf t p))) → (∀ p : Nat, i + 1 ≤ p → valV kvs' (Sum.inl (p : Int)) = none) → SqT K G2 h (hv (newHd (rankOf t) i r)) →
          ∃ (y5 y6 y7 : Option V) (kvs : List (Key × V)) (hs' : List Addr), ([some v, some (.ref pa), some (.ref la), some (.ref nda), some (.ref ha), some (.int (i : Nat)), some (.ref pr.p), some (.ref h)] : List (Option V)) = [some v, some (.ref pa), some (.ref la), some (.ref nda), some (.ref ha), y5, y6, y7] ∧
            Same H3 (upd G2 ha (.lst (hs.map V.ref ++ [.ref h]))) ∧ (upd G2 ha (.lst (hs.map V.ref ++ [.ref h]))) nda = some (.dK kvs) ∧ (upd G2 ha (.lst (hs.map V.ref ++ [.ref h]))) ha = some (.lst (hs'.map V.ref)) ∧ hs'.length = i + 1 ∧ kvs.length = cntB ((infos t).take (i + 1)) ∧
            (∀ p r, p < i + 1 → (infos t)[p]? = some r → isB r.sub = true → valV kvs (Sum.inl (p : Int)) = some (.int (rankOf t p))) ∧ (∀ p : Nat, i + 1 ≤ p → valV kvs (Sum.inl (p : Int)) = none) ∧
            ∀ (j : Nat) (h' : Addr) (r : Rec), hs'[j]? = some h' → (infos t)[j]? = some r → SqT K (upd G2 ha (.lst (hs.map V.ref ++ [.ref h]))) h' (hv (newHd (rankOf t) j r)) := by
        intro G2 h kvs' k2' n2 l2 i2 o2 sq
        have ha2 : G2 ha = some (.lst (hs.map V.ref)) := k2' _ _ ndha.symm gha'
        have lk : LKp G2 (upd G2 ha (.lst (hs.map V.ref ++ [.ref h]))) := LKp.upd ha2
        refine ⟨_, _, _, kvs', hs ++ [h], rfl, fun b o e => ?_, by rw [upd_ne ndha]; exact n2, by rw [upd_same, List.map_append]; rfl, by rw [List.length_append, lhs]; rfl, l2, i2, o2, fun j h' r2 e1 e2 => ?_⟩
        · rw [upd_ne (ne_of_none e hha3)]
          exact k2' _ _ (ne_of_none e hnd3) (sG' _ _ e)
        · by_cases lt : j < hs.length
          · rw [List.getElem?_append_left lt] at e1
            exact SqT.lk lk (SqT.butD gnd' k2' (hhd' j h' r2 e1 e2))
          · have ej : j = hs.length := by
              have := (List.getElem?_eq_some_iff.mp e1).1
              rw [List.length_append, List.length_singleton] at this
              omega
            subst ej
            rw [List.getElem?_append_right (Nat.le_refl _), Nat.sub_self] at e1
            cases e1
            rw [lhs, hr'] at e2
            cases e2
            rw [lhs]
            exact SqT.lk lk sq
      have rs := rank_succ hr'
      refine ⟨.ref pr.h, rfl, pr.h, _, _, _, rfl, rfl, z.hd, hd_at0 _, B, _, rfl, .inr (T.c_BINDERS _), rfl, rfl, _, rfl, ?_⟩
      rw [if_neg Bool.false_ne_true, in_binders, isB_hd]
      cases hb : isB r.sub with
      | true =>
        refine iteT ?_
        rw [hb, if_pos rfl] at rs
        -- numbers[at] = len(numbers)
        refine ⟨.ref nda, rfl, nda, kvs, rfl, gnd', .ref nda, rfl, .int (i : Nat), rfl, nda, _, rfl, DPut.k (k := Sum.inl ((i : Nat) : Int)) gnd' (by rw [lkv]; exact small _ cntle), ?_⟩
        have kk : ∀ b o, b ≠ nda → G1 b = some o → (upd G1 nda (.dK (putK kvs (Sum.inl ((i : Nat) : Int)) (.int (kvs.length : Nat))))) b = some o := fun b o nb e => by rw [upd_ne nb]; exact e
        have hdd := SqT.butD gnd' kk z.hd
        have hdk : (upd G1 nda (.dK (putK kvs (Sum.inl ((i : Nat) : Int)) (.int (kvs.length : Nat))))) nda = some (.dK (putK kvs (Sum.inl ((i : Nat) : Int)) (.int (kvs.length : Nat)))) := upd_same
        have ha1 := kk _ _ ndha.symm gha'
        have hget := DGet.k (k := Sum.inl ((i : Nat) : Int)) hdk
        rw [valV_put, if_pos rfl] at hget
        generalize upd G1 nda (.dK (putK kvs (Sum.inl ((i : Nat) : Int)) (.int (kvs.length : Nat)))) = G2 at kk hdd hdk hget ha1
        -- head = (head[0], numbers[at])
        refine ⟨.ref pr.h, rfl, pr.h, _, _, _, rfl, rfl, hdd, hd_at0 _, .ref nda, rfl, .int (i : Nat), rfl, nda, _, rfl, hget, by show 2 ≤ sizeLine; decide, fun q hq => ?_⟩
        have s8 := Same.new (o := .tup [.str (hw r.sub.hd), .int (kvs.length : Nat)]) hq
        refine ⟨.ref ha, rfl, .inl ⟨rfl, _, SqL.of (s8 _ _ ha1)⟩, .ref q, rfl, ha, _, _, rfl, rfl, s8 _ _ ha1, lsz, ?_⟩
        refine fin _ q _ (fun b o nb e => s8 _ _ (kk b o nb e)) (s8 _ _ hdk) (by rw [putK_new _ (hout i (Nat.le_refl _)), List.length_append, lkv, rs]; rfl) (fun p r2 hp h2 hb2 => ?_) (fun p hp => ?_) ?_
        · rw [valV_put]
          by_cases e : p = i
          · subst e
            rw [if_pos rfl, lkv]
            rfl
          · rw [if_neg (fun q => e (by injection q with q; omega))]
            exact hin p r2 (by omega) h2 hb2
        · rw [valV_put, if_neg (fun q => by injection q with q; omega)]
          exact hout p (by omega)
        · refine SqT.of ?_
          rw [upd_same]
          have e : hv (newHd (rankOf t) i r) = [.str (hw r.sub.hd), .int (kvs.length : Nat)] := by
            obtain ⟨sb, a, stk⟩ := r
            cases sb with
            | nul b => cases hb
            | leaf k x => cases hb
            | two b f g => cases hb
            | one k x f =>
              have hk : k.bind = true := hb
              simp only [newHd, if_pos hk, hv, F.hd, hw, rankOf, lkv]
          rw [e]
      | false =>
        refine iteF ?_
        rw [hb, if_neg Bool.false_ne_true] at rs
        have hin' : ∀ p r2, p < i + 1 → (infos t)[p]? = some r2 → isB r2.sub = true → valV kvs (Sum.inl (p : Int)) = some (.int (rankOf t p)) := fun p r2 hp h2 hb2 => by
          by_cases e : p = i
          · subst e
            rw [hr'] at h2
            cases h2
            rw [hb] at hb2
            cases hb2
          · exact hin p r2 (by omega) h2 hb2
        refine ⟨.ref pr.h, rfl, pr.h, _, _, _, rfl, rfl, z.hd, hd_at0 _, rfl, _, rfl, ?_⟩
        by_cases hv' : ∃ x, r.sub = .leaf .var x
        · obtain ⟨x, hx⟩ := hv'
          obtain ⟨p, r', hp, hpi, hrp, hbp⟩ := infos_pos r.stk i r hr' rfl (hc r (List.mem_of_getElem? hr') x hx)
          have pl : placeOf r = (p : Int) := by unfold placeOf; rw [hx]; exact hp
          have hget := DGet.k (k := Sum.inl ((p : Nat) : Int)) gnd'
          rw [hin p r' hpi hrp hbp] at hget
          rw [hx]
          refine (if_pos (decide_eq_true rfl)).mpr ?_
          refine ⟨.ref nda, rfl, .ref la, rfl, .int (i : Nat), rfl, la, _, _, .int (p : Nat), rfl, rfl, SqL.of (sG' _ _ hl), atI_nat (j := i) (by rw [List.getElem?_map, placeL, List.getElem?_map, hr', ← pl]; rfl), nda, _, rfl, hget, by show 2 ≤ sizeLine; decide, fun q hq => ?_⟩
          have s8 := Same.new (o := .tup [.str "var", .int (rankOf t p)]) hq
          refine ⟨.ref ha, rfl, .inl ⟨rfl, _, SqL.of (s8 _ _ gha')⟩, .ref q, rfl, ha, _, _, rfl, rfl, s8 _ _ gha', lsz, ?_⟩
          refine fin _ q kvs (fun b o _ e => s8 _ _ e) (s8 _ _ gnd') (by rw [lkv, rs]; rfl) hin' (fun p hp => hout p (by omega)) (SqT.of ?_)
          rw [upd_same]
          have e : hv (newHd (rankOf t) i r) = [.str "var", .int (rankOf t p)] := by
            unfold newHd
            rw [hx]
            simp only [hv, wL, hp, Int.toNat_natCast]
          rw [e]
        · have n1' : V.str (hw r.sub.hd) ≠ V.str "var" ∧ newHd (rankOf t) i r = r.sub.hd := by
            obtain ⟨sb, a, stk⟩ := r
            cases sb with
            | nul b => exact ⟨nv_N b, rfl⟩
            | two b _ _ => exact ⟨nv_T b, rfl⟩
            | one k x f =>
              have hk : ¬ k.bind = true := by rw [show k.bind = false from hb]; exact Bool.false_ne_true
              exact ⟨nv_O k, by simp only [newHd, if_neg hk, F.hd]⟩
            | leaf k x =>
              cases k with
              | var => exact absurd ⟨x, rfl⟩ hv'
              | has => exact ⟨nv_has, rfl⟩
              | lacks => exact ⟨nv_lacks, rfl⟩
          refine (if_neg (by rw [decide_eq_false n1'.1]; exact Bool.false_ne_true)).mpr ?_
          refine ⟨.ref ha, rfl, .inl ⟨rfl, _, SqL.of gha'⟩, .ref pr.h, rfl, ha, _, _, rfl, rfl, gha', lsz, ?_⟩
          exact fin G1 pr.h kvs (fun b o _ e => e) gnd' (by rw [lkv, rs]; rfl) hin' (fun p hp => hout p (by omega)) (by rw [n1'.2]; exact z.hd)
    · rintro σ G ⟨y5, y6, y7, kvs, hs, rfl, sG, gnd, gha, lhs, lkv, hin, hout, hhd⟩
      rw [List.length_map, lenR] at lhs
      have sk : skel (tidyF t nm0 0).1 = skel t := tidy_skel _ _ _
      have lenT : (infos (tidyF t nm0 0).1).length = t.size := by rw [info_len]; exact same_size sk
      refine ⟨.ref pa, rfl, .ref ha, rfl, pa, ha, _, (tidyF t nm0 0).1, rfl, (PA.same s3).same sG, by rw [pre_aro]; exact same_aro sk.symm, ⟨hs, SqL.of gha, by rw [List.length_map, lhs, lenT], fun j h hd e1 e2 => ?_⟩, by rw [same_size sk]; exact hsz, fun v' H' s' hv' => ?_⟩
      · obtain ⟨r, hr'⟩ : ∃ r, (infos t)[j]? = some r := ⟨(infos t)[j]'(by have := (List.getElem?_eq_some_iff.mp e1).1; omega), by simp⟩
        have z := tidy_whole hc nm0 hr'
        rw [List.getElem?_map, z] at e2
        cases e2
        exact hhd j h r e1 hr'
      · exact k1 hc v' H' (s123.trans (sG.trans s')) hv'
end
end Fw

set_option maxRecDepth 100000
set_option maxHeartbeats 2000000
namespace Fw
open PySem PySem.Spec PyProof.Rows L2
def Draws (H : Hp) (d : Addr) : Prop := ∃ ds : List Int, H d = some (.lst (ds.map V.int))
theorem Draws.lst {H : Hp} {d : Addr} (h : Draws H d) : IsLst H d := by
  obtain ⟨ds, e⟩ := h
  exact ⟨_, e⟩
theorem fmod_in {a b : Int} (h : 0 < b) : 0 ≤ a.fmod b ∧ a.fmod b < b := by
  rw [Int.fmod_eq_emod_of_nonneg a (Int.le_of_lt h)]
  exact ⟨Int.emod_nonneg a (by omega), Int.emod_lt_of_pos a h⟩
theorem nz1 : (1000 : Int) ≠ 0 := by decide
theorem nz2 : (2147483647 : Int) ≠ 0 := by decide
theorem nz3 : (1000003 : Int) ≠ 0 := by decide
theorem sq_small {m : Int} (h0 : 0 ≤ m) (h1 : m < 2147483647) : -(2 ^ 64) < m ∧ m < 2 ^ 64 := ⟨by omega, by omega⟩
theorem isTup {K : PySem.W.Frag} {H : Hp} {a : Addr} {xs : List V} (h : SqT K H a xs) : TyX K H (.ref a) (.type "tuple") := by
  rcases h with h | ⟨o, _, _, e, c, _⟩
  · rcases h with h | ⟨u, h⟩
    · exact .base (.tup h)
    · exact .fTuple h
  · exact .kTuple e c
theorem IsF.ty {K : PySem.W.Frag} {H : Hp} {v : V} {t : F} (h : IsF K H v t) : TyX K H v (.type "tuple") := by
  obtain ⟨a, ks, rfl, sq, _⟩ := h.open
  exact isTup sq
section
variable {P : Program} {w : World} {K : PySem.W.Frag} {mg : Str → Option Value} {base : Heap} {C J B NC FE : Addr}
/-! ### the law's draws -/
def spDraws (K : PySem.W.Frag) : Sp := fun vs H Q _ => ∃ (a : Addr) (ns : List Int) (c : Int), vs = [.ref a, .int c] ∧ SqL K H a (ns.map V.int) ∧ ns.length ≤ 63 ∧ 0 ≤ c ∧ c ≤ 1000 ∧
  ∀ d H', Same H H' → H d = none → Draws H' d → Q (.ref d) H'
theorem ok_law_draws {f : Addr} {fd : FuncData} (FF : Fun K "_law_draws" "_law_draws" s_law_draws f fd) (T : Txt K mg C J B) : FnOk P w K mg base CX0 1 f fd a_law_draws (spDraws K) := by
  refine FF.ok sc_law_draws (fun vs H Q E h => ?_) (fun cdv A outer s H vs Q E hr h => ?_)
  · obtain ⟨a, ns, c, rfl, _⟩ := h
    rfl
  · obtain ⟨a, ns, c, rfl, hS, hlen, c0, c1, k⟩ := h
    refine ⟨_, (pss_cons (ps_set (i := 2) sc_law_draws.nd rfl (.inl rfl) (pe_callTy call_list_of rfl T.z_list (by decide +kernel) (pa_cons (pv 0) pa_nil)))
      (pss_cons (ps_if (pt_cmpR op_eq (pe_callB call_len_seq rfl T.z_len (by decide +kernel) (pa_cons (pv 2) pa_nil)) pe_int (nomark _)) (pss_one (ps_set (i := 2) sc_law_draws.nd rfl (.inl rfl) (pe_lst (pa_cons pe_int pa_nil)))) pss_nil)
      (pss_cons (ps_set (i := 3) sc_law_draws.nd rfl (.inl rfl) (pe_lst pa_nil))
      (pss_cons (ps_set (i := 4) sc_law_draws.nd rfl (.inl rfl) pe_int)
      (pss_cons (ps_for PassesOwn.never rfl (pi_range1 rfl T.z_range (pa_cons (pv 1) pa_nil)) (pg_name (i := 5) sc_law_draws.nd rfl (.inl rfl)) (pss_cons (ps_set (i := 6) sc_law_draws.nd rfl (.inl rfl) (pe_op op_modN (pv 5) (pe_callB call_len_seq rfl T.z_len (by decide +kernel) (pa_cons (pv 2) pa_nil))))
      (pss_cons (ps_set (i := 7) sc_law_draws.nd rfl (.inl rfl) (pe_ix ix_list (pv 2) (pv 6) (fun _ _ => rfl)))
      (pss_cons (ps_set (i := 4) sc_law_draws.nd rfl (.inl rfl) (pe_op op_modN (pe_callTy call_int1 rfl T.z_int (by decide +kernel) (pa_cons (pe_op op_add (pe_op op_add (pe_op op_add (pe_op op_mul (pv 4) pe_int) (pe_op op_mul (pe_op op_modN (pe_callTy call_int1 rfl T.z_int (by decide +kernel) (pa_cons (pv 7) pa_nil)) pe_int) pe_int)) (pe_op op_mul (pv 5) pe_int)) pe_int) pa_nil)) pe_int))
      (pss_cons (ps_set (i := 8) sc_law_draws.nd rfl (.inl rfl) (pe_op op_modN (pe_callTy call_int1 rfl T.z_int (by decide +kernel) (pa_cons (pe_op op_add (pe_op op_add (pe_op op_mul (pv 4) (pv 4)) (pe_op op_mul pe_int (pv 4))) (pv 5)) pa_nil)) pe_int))
      (pss_one (ps_if (pt_cmpR op_ge (pv 7) (pe_op op_pow pe_int pe_int) (nomark _)) (pss_cons (ps_expr (pe_bm PySem.F.plainAttrs_list PySem.F.slot_list_append PySem.F.type_list_append mt_append (pv 3) (pa_cons (pe_op op_modN (pe_callTy call_int1 rfl T.z_int (by decide +kernel) (pa_cons (pv 7) pa_nil)) pe_int) pa_nil)))
      (pss_one (ps_asg (pe_op op_fdivN (pv 7) pe_int) (pg_sub (pv 2) (pv 6) set_list)))) (pss_one (ps_expr (pe_bm PySem.F.plainAttrs_list PySem.F.slot_list_append PySem.F.type_list_append mt_append (pv 3) (pa_cons (pe_op op_modN (pe_callTy call_int1 rfl T.z_int (by decide +kernel) (pa_cons (pv 8) pa_nil)) pe_int) pa_nil)))))))))))
      (pss_cons (ps_expr (pe_bm0 PySem.F.plainAttrs_list PySem.F.slot_list_reverse PySem.F.type_list_reverse mt_reverse (pv 3)))
      (pss_one (ps_ret (pv 3))))))))), ?_⟩
    refine ⟨.ref a, rfl, a, _, rfl, .inl hS, fun ca hca => ?_⟩
    have s1 := Same.new (o := .lst (ns.map V.int)) hca
    refine ⟨.ref ca, rfl, ca, _, rfl, .inl (SqL.of upd_same), rfl, _, rfl, ?_⟩
    have fresh : H ca = none := hca
    have goal : ∀ (cb : Addr) (cs : List Int) (G0 : Hp), Same H G0 → H cb = none → G0 cb = some (.lst (cs.map V.int)) → cs ≠ [] → cs.length ≤ 63 → True := fun _ _ _ _ _ _ _ _ => trivial
    refine ite2 (fun c => ?_) (fun c => ?_)
    · refine ⟨by show 1 ≤ sizeLine; decide, fun cb hcb => ?_⟩
      have s2 := Same.new (o := .lst [V.int 7]) hcb
      have sG0 := s1.trans s2
      have hcb0 := s1.free hcb
      have gcb : (upd (upd H ca (.lst (ns.map V.int))) cb (.lst [V.int 7])) cb = some (.lst (([7] : List Int).map V.int)) := upd_same
      generalize upd (upd H ca (.lst (ns.map V.int))) cb (.lst [V.int 7]) = G0 at sG0 gcb
      have hne : ([7] : List Int) ≠ [] := by simp
      have hl63 : ([7] : List Int).length ≤ 63 := by decide
      generalize ([7] : List Int) = cs at gcb hne hl63
      clear s2 s1 hca fresh hcb c goal hlen hS
      refine ⟨Nat.zero_le _, fun fa hfa => ?_⟩
      have s3 := Same.new (o := .lst []) hfa
      have hfa0 := sG0.free hfa
      have fcb : fa ≠ cb := fun e => by rw [e, gcb] at hfa; cases hfa
      refine ⟨.int c, rfl, c, rfl, by omega, by omega, ?_⟩
      refine for_range (lo := 0) (n := c.toNat) (fun i σ G => ∃ (cs' ds : List Int) (m : Int) (y5 y6 y7 y8 : Option V), σ = [some (.ref a), some (.int c), some (.ref cb), some (.ref fa), some (.int m), y5, y6, y7, y8] ∧ Same H G ∧
          G cb = some (.lst (cs'.map V.int)) ∧ cs'.length = cs.length ∧ G fa = some (.lst (ds.map V.int)) ∧ ds.length = i ∧ 0 ≤ m ∧ m < 2147483647)
        ⟨cs, [], 12345, none, none, none, none, rfl, sG0.trans s3, s3 _ _ gcb, rfl, upd_same, rfl, by decide, by decide⟩ ?_ ?_
      · rintro i σ G hi ⟨cs', ds, m, y5, y6, y7, y8, rfl, sG, gc, lc, gf, ld, m0, m1⟩
        have hic : (i : Int) < c := by omega
        rw [Int.zero_add]
        have lpos : 0 < cs'.length := by rw [lc]; exact List.length_pos_iff.mpr hne
        have lmap : ((cs'.map V.int).length : Int) = (cs'.length : Int) := by rw [List.length_map]
        -- j = k % len(cells)
        refine ⟨.int (i : Nat), rfl, .ref cb, rfl, cb, _, rfl, .inl (SqL.of gc), _, _, rfl, rfl, by rw [lmap]; omega, ?_⟩
        rw [lmap]
        have hj := fmod_in (a := (i : Int)) (b := (cs'.length : Int)) (by omega)
        obtain ⟨j, hJ⟩ : ∃ j : Nat, (i : Int).fmod (cs'.length : Int) = (j : Int) := ⟨((i : Int).fmod (cs'.length : Int)).toNat, by omega⟩
        rw [hJ] at hj
        have hjl : j < cs'.length := by omega
        obtain ⟨x, hx⟩ : ∃ x, cs'[j]? = some x := ⟨cs'[j], by simp [hjl]⟩
        -- cell = cells[j]
        refine ⟨.ref cb, rfl, _, rfl, cb, _, _, .int x, rfl, rfl, SqL.of gc, by rw [hJ]; exact atI_nat (j := j) (by rw [List.getElem?_map, hx]; rfl), ?_⟩
        -- mixed
        have x3 := fmod_in (a := x) (b := 1000003) (by decide)
        refine ⟨.int m, rfl, m, 48271, rfl, rfl, .inl (sq_small m0 m1), .int x, rfl, .inl ⟨x, rfl, x, 1000003, rfl, rfl, nz3, x.fmod 1000003, 69621, rfl, rfl, .inl ⟨by omega, by omega⟩, _, _, rfl, rfl, .int (i : Nat), rfl, (i : Int), 7919, rfl, rfl, .inl ⟨by omega, by omega⟩, _, _, rfl, rfl, _, 11, rfl, rfl, .inl ⟨_, rfl, _, 2147483647, rfl, rfl, nz2, ?_⟩⟩⟩
        have mm := fmod_in (a := m * 48271 + x.fmod 1000003 * 69621 + (i : Int) * 7919 + 11) (b := 2147483647) (by decide)
        -- again
        refine ⟨_, rfl, _, rfl, _, _, rfl, rfl, .inl (sq_small mm.1 mm.2), _, rfl, 31, _, rfl, rfl, .inl ⟨by decide, by decide⟩, _, _, rfl, rfl, _, rfl, _, _, rfl, rfl, .inl ⟨_, rfl, _, 1000003, rfl, rfl, nz3, ?_⟩⟩
        -- if cell >= 10 ** 18
        refine ⟨.int x, rfl, 10, 18, rfl, rfl, ⟨by decide, by decide, by decide⟩, _, _, rfl, rfl, _, rfl, ite2 (fun _ => ?_) (fun _ => ?_)⟩
        · refine ⟨.ref fa, rfl, .inl ⟨rfl, _, SqL.of gf⟩, .int x, rfl, .inl ⟨x, rfl, x, 1000, rfl, rfl, nz1, fa, _, _, rfl, rfl, gf, by rw [List.length_map]; exact small1000 (by omega), ?_⟩⟩
          have gc2 : (upd G fa (.lst (ds.map V.int ++ [V.int (x.fmod 1000)]))) cb = some (.lst (cs'.map V.int)) := by rw [upd_ne fcb.symm]; exact gc
          refine ⟨.int x, rfl, x, 1000, rfl, rfl, ⟨by decide, by decide⟩, .ref cb, rfl, _, rfl, cb, _, _, j, rfl, rfl, gc2, by rw [hJ]; unfold ixN; rw [if_pos (by omega), if_pos (by rw [List.length_map]; omega), Int.toNat_natCast], ?_⟩
          refine ⟨cs'.set j (x.fdiv 1000), ds ++ [x.fmod 1000], _, _, _, _, _, rfl, fun b o e => ?_, ?_, by rw [List.length_set]; exact lc, ?_, by rw [List.length_append, ld]; rfl, mm.1, mm.2⟩
          · rw [upd_ne (ne_of_none e hcb0), upd_ne (ne_of_none e hfa0)]
            exact sG b o e
          · rw [upd_same, List.map_set]
          · rw [upd_ne fcb, upd_same, List.map_append]
            rfl
        · refine ⟨.ref fa, rfl, .inl ⟨rfl, _, SqL.of gf⟩, _, rfl, .inl ⟨_, rfl, _, 1000, rfl, rfl, nz1, fa, _, _, rfl, rfl, gf, by rw [List.length_map]; exact small1000 (by omega), ?_⟩⟩
          obtain ⟨ag, hag⟩ : ∃ ag : Int, ag = (((m * 48271 + x.fmod 1000003 * 69621 + (i : Int) * 7919 + 11).fmod 2147483647 * (m * 48271 + x.fmod 1000003 * 69621 + (i : Int) * 7919 + 11).fmod 2147483647 + 31 * (m * 48271 + x.fmod 1000003 * 69621 + (i : Int) * 7919 + 11).fmod 2147483647 + (i : Int)).fmod 1000003).fmod 1000 := ⟨_, rfl⟩
          refine ⟨cs', ds ++ [ag], _, _, _, _, _, rfl, fun b o e => ?_, ?_, lc, ?_, by rw [List.length_append, ld]; rfl, mm.1, mm.2⟩
          · rw [upd_ne (ne_of_none e hfa0)]
            exact sG b o e
          · rw [upd_ne fcb.symm]
            exact gc
          · rw [upd_same, List.map_append, hag]
            rfl
      · rintro σ G ⟨cs', ds, m, y5, y6, y7, y8, rfl, sG, gc, lc, gf, ld, m0, m1⟩
        refine ⟨.ref fa, rfl, .inl ⟨rfl, _, SqL.of gf⟩, fa, _, rfl, rfl, gf, .ref fa, rfl, ?_⟩
        refine k fa _ (fun b o e => ?_) hfa0 ⟨ds.reverse, by rw [upd_same, List.map_reverse]⟩
        rw [upd_ne (ne_of_none e hfa0)]
        exact sG b o e
    · have hne : ns ≠ [] := fun e => c (decide_eq_true (by rw [e]; rfl))
      have sG0 := s1
      have hcb0 := fresh
      have gcb : (upd H ca (.lst (ns.map V.int))) ca = some (.lst (ns.map V.int)) := upd_same
      generalize upd H ca (.lst (ns.map V.int)) = G0 at sG0 gcb
      have hl63 := hlen
      clear s1 hca fresh c goal hlen hS
      obtain ⟨cb, ecb⟩ : ∃ cb : Addr, cb = ca := ⟨_, rfl⟩
      obtain ⟨cs, ecs⟩ : ∃ cs : List Int, cs = ns := ⟨_, rfl⟩
      subst ecb
      subst ecs
      refine ⟨Nat.zero_le _, fun fa hfa => ?_⟩
      have s3 := Same.new (o := .lst []) hfa
      have hfa0 := sG0.free hfa
      have fcb : fa ≠ cb := fun e => by rw [e, gcb] at hfa; cases hfa
      refine ⟨.int c, rfl, c, rfl, by omega, by omega, ?_⟩
      refine for_range (lo := 0) (n := c.toNat) (fun i σ G => ∃ (cs' ds : List Int) (m : Int) (y5 y6 y7 y8 : Option V), σ = [some (.ref a), some (.int c), some (.ref cb), some (.ref fa), some (.int m), y5, y6, y7, y8] ∧ Same H G ∧
          G cb = some (.lst (cs'.map V.int)) ∧ cs'.length = cs.length ∧ G fa = some (.lst (ds.map V.int)) ∧ ds.length = i ∧ 0 ≤ m ∧ m < 2147483647)
        ⟨cs, [], 12345, none, none, none, none, rfl, sG0.trans s3, s3 _ _ gcb, rfl, upd_same, rfl, by decide, by decide⟩ ?_ ?_
      · rintro i σ G hi ⟨cs', ds, m, y5, y6, y7, y8, rfl, sG, gc, lc, gf, ld, m0, m1⟩
        have hic : (i : Int) < c := by omega
        rw [Int.zero_add]
        have lpos : 0 < cs'.length := by rw [lc]; exact List.length_pos_iff.mpr hne
        have lmap : ((cs'.map V.int).length : Int) = (cs'.length : Int) := by rw [List.length_map]
        -- j = k % len(cells)
        refine ⟨.int (i : Nat), rfl, .ref cb, rfl, cb, _, rfl, .inl (SqL.of gc), _, _, rfl, rfl, by rw [lmap]; omega, ?_⟩
        rw [lmap]
        have hj := fmod_in (a := (i : Int)) (b := (cs'.length : Int)) (by omega)
        obtain ⟨j, hJ⟩ : ∃ j : Nat, (i : Int).fmod (cs'.length : Int) = (j : Int) := ⟨((i : Int).fmod (cs'.length : Int)).toNat, by omega⟩
        rw [hJ] at hj
        have hjl : j < cs'.length := by omega
        obtain ⟨x, hx⟩ : ∃ x, cs'[j]? = some x := ⟨cs'[j], by simp [hjl]⟩
        -- cell = cells[j]
        refine ⟨.ref cb, rfl, _, rfl, cb, _, _, .int x, rfl, rfl, SqL.of gc, by rw [hJ]; exact atI_nat (j := j) (by rw [List.getElem?_map, hx]; rfl), ?_⟩
        -- mixed
        have x3 := fmod_in (a := x) (b := 1000003) (by decide)
        refine ⟨.int m, rfl, m, 48271, rfl, rfl, .inl (sq_small m0 m1), .int x, rfl, .inl ⟨x, rfl, x, 1000003, rfl, rfl, nz3, x.fmod 1000003, 69621, rfl, rfl, .inl ⟨by omega, by omega⟩, _, _, rfl, rfl, .int (i : Nat), rfl, (i : Int), 7919, rfl, rfl, .inl ⟨by omega, by omega⟩, _, _, rfl, rfl, _, 11, rfl, rfl, .inl ⟨_, rfl, _, 2147483647, rfl, rfl, nz2, ?_⟩⟩⟩
        have mm := fmod_in (a := m * 48271 + x.fmod 1000003 * 69621 + (i : Int) * 7919 + 11) (b := 2147483647) (by decide)
        -- again
        refine ⟨_, rfl, _, rfl, _, _, rfl, rfl, .inl (sq_small mm.1 mm.2), _, rfl, 31, _, rfl, rfl, .inl ⟨by decide, by decide⟩, _, _, rfl, rfl, _, rfl, _, _, rfl, rfl, .inl ⟨_, rfl, _, 1000003, rfl, rfl, nz3, ?_⟩⟩
        -- if cell >= 10 ** 18
        refine ⟨.int x, rfl, 10, 18, rfl, rfl, ⟨by decide, by decide, by decide⟩, _, _, rfl, rfl, _, rfl, ite2 (fun _ => ?_) (fun _ => ?_)⟩
        · refine ⟨.ref fa, rfl, .inl ⟨rfl, _, SqL.of gf⟩, .int x, rfl, .inl ⟨x, rfl, x, 1000, rfl, rfl, nz1, fa, _, _, rfl, rfl, gf, by rw [List.length_map]; exact small1000 (by omega), ?_⟩⟩
          have gc2 : (upd G fa (.lst (ds.map V.int ++ [V.int (x.fmod 1000)]))) cb = some (.lst (cs'.map V.int)) := by rw [upd_ne fcb.symm]; exact gc
          refine ⟨.int x, rfl, x, 1000, rfl, rfl, ⟨by decide, by decide⟩, .ref cb, rfl, _, rfl, cb, _, _, j, rfl, rfl, gc2, by rw [hJ]; unfold ixN; rw [if_pos (by omega), if_pos (by rw [List.length_map]; omega), Int.toNat_natCast], ?_⟩
          refine ⟨cs'.set j (x.fdiv 1000), ds ++ [x.fmod 1000], _, _, _, _, _, rfl, fun b o e => ?_, ?_, by rw [List.length_set]; exact lc, ?_, by rw [List.length_append, ld]; rfl, mm.1, mm.2⟩
          · rw [upd_ne (ne_of_none e hcb0), upd_ne (ne_of_none e hfa0)]
            exact sG b o e
          · rw [upd_same, List.map_set]
          · rw [upd_ne fcb, upd_same, List.map_append]
            rfl
        · refine ⟨.ref fa, rfl, .inl ⟨rfl, _, SqL.of gf⟩, _, rfl, .inl ⟨_, rfl, _, 1000, rfl, rfl, nz1, fa, _, _, rfl, rfl, gf, by rw [List.length_map]; exact small1000 (by omega), ?_⟩⟩
          obtain ⟨ag, hag⟩ : ∃ ag : Int, ag = (((m * 48271 + x.fmod 1000003 * 69621 + (i : Int) * 7919 + 11).fmod 2147483647 * (m * 48271 + x.fmod 1000003 * 69621 + (i : Int) * 7919 + 11).fmod 2147483647 + 31 * (m * 48271 + x.fmod 1000003 * 69621 + (i : Int) * 7919 + 11).fmod 2147483647 + (i : Int)).fmod 1000003).fmod 1000 := ⟨_, rfl⟩
          refine ⟨cs', ds ++ [ag], _, _, _, _, _, rfl, fun b o e => ?_, ?_, lc, ?_, by rw [List.length_append, ld]; rfl, mm.1, mm.2⟩
          · rw [upd_ne (ne_of_none e hfa0)]
            exact sG b o e
          · rw [upd_ne fcb.symm]
            exact gc
          · rw [upd_same, List.map_append, hag]
            rfl
      · rintro σ G ⟨cs', ds, m, y5, y6, y7, y8, rfl, sG, gc, lc, gf, ld, m0, m1⟩
        refine ⟨.ref fa, rfl, .inl ⟨rfl, _, SqL.of gf⟩, fa, _, rfl, rfl, gf, .ref fa, rfl, ?_⟩
        refine k fa _ (fun b o e => ?_) hfa0 ⟨ds.reverse, by rw [upd_same, List.map_reverse]⟩
        rw [upd_ne (ne_of_none e hfa0)]
        exact sG b o e
/-! ### one draw -/
def spTake : Sp := fun vs H Q _ => ∃ (d : Addr) (lim : Int), vs = [.ref d, .int lim] ∧ Draws H d ∧ 0 < lim ∧ ∀ v H', 0 ≤ v → v < lim → But d H H' → Draws H' d → Q (.int v) H'
theorem ok_law_take {f : Addr} {fd : FuncData} (FF : Fun K "_law_take" "_law_take" s_law_take f fd) (T : Txt K mg C J B) : FnOk P w K mg base CX0 1 f fd a_law_take spTake := by
  refine FF.ok sc_law_take (fun vs H Q E h => ?_) (fun cdv A outer s H vs Q E hr h => ?_)
  · obtain ⟨d, lim, rfl, _⟩ := h
    rfl
  · obtain ⟨d, lim, rfl, ⟨ds, hd⟩, hl, k⟩ := h
    refine ⟨_, (pss_cons (ps_if (pt_cmpR op_eq (pe_callB call_len_seq rfl T.z_len (by decide +kernel) (pa_cons (pv 0) pa_nil)) pe_int (nomark _)) (pss_one (ps_ret pe_int)) pss_nil)
      (pss_one (ps_ret (pe_op op_modN (pe_callTy call_int1 rfl T.z_int (by decide +kernel) (pa_cons (pe_bm0 PySem.F.plainAttrs_list PySem.F.slot_list_pop PySem.F.type_list_pop mt_pop (pv 0)) pa_nil)) (pv 1))))), ?_⟩
    refine ⟨.ref d, rfl, d, _, rfl, .inl (SqL.of hd), rfl, _, rfl, ite2 (fun c => ?_) (fun c => ?_)⟩
    · exact k 0 H (Int.le_refl 0) hl (But.refl _ _) ⟨ds, hd⟩
    · have ne : ds ≠ [] := fun e => c (decide_eq_true (by rw [e]; rfl))
      obtain ⟨l, x, rfl⟩ : ∃ l x, ds = l ++ [x] := ⟨ds.dropLast, ds.getLast ne, (List.dropLast_concat_getLast ne).symm⟩
      refine ⟨.ref d, rfl, .inl ⟨rfl, _, SqL.of hd⟩, d, _, .int x, rfl, rfl, hd, by simp, .inl ⟨x, rfl, ?_⟩⟩
      have := fmod_in (a := x) hl
      refine ⟨.int lim, rfl, x, lim, rfl, rfl, by omega, ?_⟩
      refine k _ _ this.1 this.2 (fun b o nb e => by rw [upd_ne nb]; exact e) ⟨l, ?_⟩
      rw [upd_same]
      simp
/-! ### the statements in one -/
def spInner (K : PySem.W.Frag) : Sp := fun vs H Q _ => ∃ (v : V) (t : F), vs = [v] ∧ IsF K H v t ∧ ∀ l ks H', Same H H' → H' l = some (.lst ks) → AllF K H' ks t.kids → Q (.ref l) H'
theorem cut_one (xs : List V) : cutV xs (some 1) none = xs.drop 1 := by
  unfold cutV
  rw [show HT.sIx xs.length 0 (some 1) = min 1 xs.length from HT.sIx_nat _ _ 1, HT.sIx_none]
  rcases Nat.le_total 1 xs.length with h | h
  · rw [Nat.min_eq_left h, List.take_of_length_le (by rw [List.length_drop]; exact Nat.le_refl _)]
  · rw [Nat.min_eq_right h, List.drop_length, List.drop_eq_nil_of_le h]
    simp
theorem ok_law_inner {f : Addr} {fd : FuncData} (FF : Fun K "_law_inner" "_law_inner" s_law_inner f fd) (T : Txt K mg C J B) : FnOk P w K mg base CX0 1 f fd a_law_inner (spInner K) := by
  refine FF.ok sc_law_inner (fun vs H Q E h => ?_) (fun cdv A outer s H vs Q E hr h => ?_)
  · obtain ⟨v, t, rfl, _⟩ := h
    rfl
  · obtain ⟨v, t, rfl, ht, k⟩ := h
    obtain ⟨a, ks, rfl, sq, ak⟩ := ht.open
    refine ⟨_, (pss_one (ps_ret (pe_lc (own := [("part", 1)]) (g := gName 1) rfl sc_law_inner.nd (pi_tup (pe_slice sl_tupA (pv 0) (po_some pe_int) po_none)) (blkOk_by (own := [("part", 1)]) (N := n_law_inner) (sc := defScope s_law_inner) (by decide +kernel)) (fun _ _ _ _ _ => (pg_name (i := 1) sc_law_inner.nd rfl (.inl rfl))) (fun _ _ _ _ _ => (pts_one (pt_val (pe_callB (@id (CallR _ _ (rIsi K)) call_isi) rfl T.z_isinstance (by decide +kernel) (pa_cons (pv 1) (pa_cons (pe_bltn (v := .ty "tuple") (u := .type "tuple") rfl T.z_tuple (by decide +kernel) rfl) pa_nil)))))) (fun _ _ _ _ _ => (pv 1))))), ?_⟩
    have hl := hv_len t.hd
    refine ⟨.ref a, rfl, 1, rfl, a, _, rfl, sq, fun whole => ?_, fun _ z hz => ?_⟩
    · exfalso
      rw [show HT.sIx (hv t.hd ++ ks).length 0 (some 1) = min 1 (hv t.hd ++ ks).length from HT.sIx_nat _ _ 1, List.length_append] at whole
      omega
    rw [cut_one]
    have s1 := Same.new (o := .tup ((hv t.hd ++ ks).drop 1)) hz
    have zT : SqT K (upd H z (.tup ((hv t.hd ++ ks).drop 1))) z ((hv t.hd ++ ks).drop 1) := SqT.of upd_same
    generalize upd H z (.tup ((hv t.hd ++ ks).drop 1)) = H1 at s1 zT
    have ak1 := ak.lk (LKp.same s1)
    -- the numbers ahead of the statements
    obtain ⟨ns, hns, nsi⟩ : ∃ ns : List V, (hv t.hd ++ ks).drop 1 = ns ++ ks ∧ ∀ x ∈ ns, ∃ n, x = V.int n := by
      cases t with
      | nul b => exact ⟨[], rfl, by simp⟩
      | leaf k n => exact ⟨[.int n], rfl, by simp⟩
      | two b f g => exact ⟨[], rfl, by simp⟩
      | one k n f => exact ⟨[.int n], rfl, by simp⟩
    rw [hns] at zT
    refine ⟨z, rfl, ⟨_, zT⟩, fun D hD => ?_⟩
    refine lc_tup (xs := ns ++ ks) (fun i G => Same H1 G ∧ G D = some (.lst ((ns ++ ks).take i |>.drop ns.length))) ⟨Same.new hD, by rw [upd_same]; simp⟩ (fun i G _ q => SqT.same q.1 zT) ?_ ?_
    · rintro i x G hx ⟨sG, gD⟩
      have nd : ∀ b o, H1 b = some o → b ≠ D := fun b o e => ne_of_none e hD
      have e1 : (ns ++ ks).take (i + 1) = (ns ++ ks).take i ++ [x] := by
        rw [List.take_add_one, hx]
        rfl
      have il := (List.getElem?_eq_some_iff.mp hx).1
      rw [List.length_append] at il
      by_cases lt : i < ns.length
      · obtain ⟨n, rfl⟩ := nsi x (by rw [List.getElem?_append_left lt] at hx; exact List.mem_of_getElem? hx)
        refine ⟨rfl, .int n, rfl, .int n, .ty "tuple", .type "int", .type "tuple", false, rfl, ?_, .base (.int n), kit_ty (by decide +kernel), false, rfl, ?_⟩
        · exact .ty "tuple"
        · refine ⟨sG, ?_⟩
          rw [gD, e1, List.drop_append, List.drop_eq_nil_of_le (by rw [List.length_take]; omega), List.length_take, List.nil_append, List.drop_eq_nil_of_le (by simp; omega)]
      · obtain ⟨f, hf⟩ : ∃ f, t.kids[i - ns.length]? = some f := ⟨t.kids[i - ns.length]'(by rw [← ak.len]; omega), by simp⟩
        have ty := (ak1.get (by rw [List.getElem?_append_right (by omega)] at hx; exact hx) hf).lk (LKp.same sG) |>.ty
        refine ⟨rfl, x, rfl, x, .ty "tuple", .type "tuple", .type "tuple", true, rfl, .ty "tuple", ty, kit_ty (by decide +kernel), true, rfl, ?_⟩
        refine ⟨x, rfl, _, gD, ?_, ?_⟩
        · have := F.kids_le t
          have := ak.len
          rw [List.length_drop, List.length_take, List.length_append]
          exact small1000 (by omega)
        · refine ⟨fun b o e => by rw [upd_ne (nd b o e)]; exact sG b o e, ?_⟩
          rw [upd_same, e1, List.drop_append, List.length_take, List.length_append]
          congr 2
          rw [show ns.length - min i (ns.length + ks.length) = 0 by omega]
          rfl
    · rintro G ⟨sG, gD⟩
      refine k D ks G (s1.trans sG) ?_ (ak1.lk (LKp.same sG))
      rw [gD, List.take_of_length_le (Nat.le_refl _), List.drop_left]
end
end Fw

set_option maxRecDepth 100000
set_option maxHeartbeats 2000000
namespace Fw
open PySem PySem.Spec PyProof.Rows L2
theorem iteF_out {A B : Prop} (h : if false = true then A else B) : B := by
  rw [if_neg Bool.false_ne_true] at h
  exact h
theorem iteT_out {A B : Prop} (h : if true = true then A else B) : A := by
  rw [if_pos rfl] at h
  exact h
theorem Draws.but {d : Addr} {H H' : Hp} (s : ∀ o, H d = some o → H' d = some o) (h : Draws H d) : Draws H' d := by
  obtain ⟨ds, e⟩ := h
  exact ⟨ds, s _ e⟩
theorem Draws.same {d : Addr} {H H' : Hp} (s : Same H H') (h : Draws H d) : Draws H' d := h.but fun o e => s d o e
theorem SqL.but {K : PySem.W.Frag} {H H' : Hp} {a d : Addr} {xs : List V} (n : a ≠ d) (s : But d H H') (h : SqL K H a xs) : SqL K H' a xs := SqL.keepAt (fun o e => s a o n e) h
theorem two_at {α : Type} {x y : α} {v : Int} (h0 : 0 ≤ v) (h2 : v < 2) : ∃ b : Bool, atI [x, y] v = some (if b = true then x else y) := by
  have : v = 0 ∨ v = 1 := by omega
  rcases this with rfl | rfl
  · exact ⟨true, rfl⟩
  · exact ⟨false, rfl⟩
section
variable {P : Program} {w : World} {K : PySem.W.Frag} {mg : Str → Option Value} {base : Heap} {C J B NC FE : Addr}
def spAtom (K : PySem.W.Frag) : Sp := fun vs H Q _ => ∃ (d ra : Addr) (R : List Int), vs = [.ref d, .ref ra] ∧ Draws H d ∧ SqL K H ra (R.map V.int) ∧ ra ≠ d ∧ R.length ≤ 100 ∧ (∀ x ∈ R, x ∈ V4) ∧
  ∀ v t H', But d H H' → Draws H' d → IsF K H' v t → Gen 0 [] R t → Q v H'
theorem ok_law_atom {f : Addr} {fd : FuncData} (FF : Fun K "_law_atom" "_law_atom" s_law_atom f fd) (T : Txt K mg C J B) (h_law_take : Has P w K mg base "_law_take" 1 a_law_take spTake) : FnOk P w K mg base CX0 2 f fd a_law_atom (spAtom K) := by
  refine FF.ok sc_law_atom (fun vs H Q E h => ?_) (fun cdv A outer s H vs Q E hr h => ?_)
  · obtain ⟨d, ra, R, rfl, _⟩ := h
    rfl
  · obtain ⟨d, ra, R, rfl, hd, hR, nrd, hlen, hV, k⟩ := h
    refine ⟨_, (pss_cons (ps_set (i := 2) sc_law_atom.nd rfl (.inl rfl) (pe_callH h_law_take (hr.mono (by omega)) (pa_cons (pv 0) (pa_cons pe_int pa_nil))))
      (pss_cons (ps_if (PW.pt (pw_and (pt_cmpR op_gt (pe_callB call_len_seq rfl T.z_len (by decide +kernel) (pa_cons (pv 1) pa_nil)) pe_int (nomark _)) (pw_and1 (pt_cmpR op_lt (pv 2) pe_int (nomark _))))) (pss_one (ps_ret (pe_tup (pa_cons pe_str (pa_cons (pe_ix ix_list (pv 1) (pe_callH h_law_take (hr.mono (by omega)) (pa_cons (pv 0) (pa_cons (pe_callB call_len_seq rfl T.z_len (by decide +kernel) (pa_cons (pv 1) pa_nil)) pa_nil))) (fun _ _ => rfl)) pa_nil))))) pss_nil)
      (pss_cons (ps_if (pt_cmpR op_eq (pv 2) pe_int (nomark _)) (pss_one (ps_ret (pe_ix ix_list (pe_lst (pa_cons (pe_tup (pa_cons pe_str pa_nil)) (pa_cons (pe_tup (pa_cons pe_str pa_nil)) pa_nil))) (pe_callH h_law_take (hr.mono (by omega)) (pa_cons (pv 0) (pa_cons pe_int pa_nil))) (fun _ _ => rfl)))) pss_nil)
      (pss_one (ps_ret (pe_tup (pa_cons (pe_ix ix_list (pe_lst (pa_cons pe_str (pa_cons pe_str pa_nil))) (pe_callH h_law_take (hr.mono (by omega)) (pa_cons (pv 0) (pa_cons pe_int pa_nil))) (fun _ _ => rfl)) (pa_cons (pe_callH h_law_take (hr.mono (by omega)) (pa_cons (pv 0) (pa_cons pe_int pa_nil))) pa_nil)))))))), ?_⟩
    refine ⟨.ref d, rfl, d, 8, rfl, hd, by decide, fun v1 H1 v10 v18 b1 d1 => ?_⟩
    have hR1 := SqL.but nrd b1 hR
    refine ⟨.ref ra, rfl, ra, _, rfl, .inl hR1, _, _, rfl, rfl, _, rfl, ?_⟩
    rw [List.length_map]
    have nR : ∀ b o, H1 b = some o → ∀ q, H1 q = none → b ≠ q := fun b o e q hq => ne_of_none e hq
    refine ite2 (fun c => ?_) (fun c => ?_)
    · refine ⟨.int v1, rfl, _, _, rfl, rfl, _, rfl, ite2 (fun c2 => ?_) (fun c2 => ?_)⟩
      · -- a variable
        have pos : 0 < (R.length : Int) := of_decide_eq_true c
        refine ⟨.ref ra, rfl, .ref d, rfl, .ref ra, rfl, ra, _, rfl, .inl hR1, d, (R.length : Nat), by rw [List.length_map]; rfl, d1, pos, fun v2 H2 v20 v2r b2 d2 => ?_⟩
        have hR2 := SqL.but nrd b2 hR1
        obtain ⟨m, rfl⟩ : ∃ m : Nat, v2 = (m : Int) := ⟨v2.toNat, by omega⟩
        obtain ⟨x, hx⟩ : ∃ x, R[m]? = some x := ⟨R[m]'(by omega), by simp⟩
        refine ⟨ra, _, _, .int x, rfl, rfl, hR2, atI_nat (j := m) (by rw [List.getElem?_map, hx]; rfl), by show 2 ≤ sizeLine; decide, fun p hp => ?_⟩
        have s3 := Same.new (o := .tup [.str "var", .int x]) hp
        have xm := List.mem_of_getElem? hx
        exact k _ (.leaf .var x) _ ((b1.trans b2).trans (Same.but s3)) (d2.same s3) (.leaf (SqT.of upd_same)) ⟨Nat.le_refl 1, hV x xm, fun y hy => .inr (by rw [List.mem_singleton.mp hy]; exact xm)⟩
      · skip
        refine ⟨.int v1, rfl, rfl, _, rfl, ite2 (fun c3 => ?_) (fun c3 => ?_)⟩
        · refine ⟨by show 1 ≤ sizeLine; decide, fun p hp => ⟨by show 1 ≤ sizeLine; decide, fun q hq => ⟨by show 2 ≤ sizeLine; decide, fun l hl => ?_⟩⟩⟩
          have s2 := Same.new (o := .tup [.str "true"]) hp
          have s3 := Same.new (o := .tup [.str "false"]) hq
          have s4 := Same.new (o := .lst [.ref p, .ref q]) hl
          have p4 := s4 _ _ (s3 _ _ (upd_same (H := H1) (a := p) (o := .tup [.str "true"])))
          have q4 := s4 _ _ (upd_same (H := upd H1 p (.tup [.str "true"])) (a := q) (o := .tup [.str "false"]))
          have l4 := upd_same (H := upd (upd H1 p (.tup [.str "true"])) q (.tup [.str "false"])) (a := l) (o := .lst [.ref p, .ref q])
          have s14 := s2.trans (s3.trans s4)
          have ld : l ≠ d := fun e => by
            obtain ⟨ds, e2⟩ := d1
            have := (s2.trans s3) _ _ e2
            rw [← e, hl] at this
            cases this
          refine ⟨.ref d, rfl, d, 2, rfl, d1.same s14, by decide, fun v2 H2 v20 v22 b2 d2 => ?_⟩
          obtain ⟨b, hb⟩ := two_at (x := V.ref p) (y := V.ref q) v20 v22
          have l5 := b2 _ _ ld l4
          have keepT : ∀ (a : Addr) (xs : List V), SqT K _ a xs → SqT K H2 a xs := fun a xs h => SqT.but (d1.same s14).lst b2 h
          refine ⟨l, _, _, _, rfl, rfl, SqL.of l5, hb, ?_⟩
          have B2 := (b1.trans (Same.but s14)).trans b2
          cases b with
          | true => exact k _ (.nul true) _ B2 d2 (.nul (keepT _ _ (SqT.of p4))) ⟨Nat.le_refl 1, trivial, fun y hy => by cases hy⟩
          | false => exact k _ (.nul false) _ B2 d2 (.nul (keepT _ _ (SqT.of q4))) ⟨Nat.le_refl 1, trivial, fun y hy => by cases hy⟩
        · refine ⟨by show 2 ≤ sizeLine; decide, fun l hl => ?_⟩
          have s2 := Same.new (o := .lst [.str "has", .str "lacks"]) hl
          have l2 := upd_same (H := H1) (a := l) (o := .lst [.str "has", .str "lacks"])
          have ld : l ≠ d := fun e => by
            obtain ⟨ds, e2⟩ := d1
            rw [← e, hl] at e2
            cases e2
          refine ⟨.ref d, rfl, d, 2, rfl, d1.same s2, by decide, fun v2 H2 v20 v22 b2 d2 => ?_⟩
          obtain ⟨b, hb⟩ := two_at (x := V.str "has") (y := V.str "lacks") v20 v22
          refine ⟨l, _, _, _, rfl, rfl, SqL.of (b2 _ _ ld l2), hb, ?_⟩
          refine ⟨.ref d, rfl, d, 2, rfl, d2, by decide, fun v3 H3 v30 v32 b3 d3 => ?_⟩
          refine ⟨by show 2 ≤ sizeLine; decide, fun p hp => ?_⟩
          have B3 := ((b1.trans (Same.but s2)).trans b2).trans b3
          cases b with
          | true =>
            have s4 := Same.new (o := .tup [.str "has", .int v3]) hp
            exact k _ (.leaf .has v3) _ (B3.trans (Same.but s4)) (d3.same s4) (.leaf (SqT.of upd_same)) ⟨Nat.le_refl 1, ⟨v30, v32⟩, fun y hy => by cases hy⟩
          | false =>
            have s4 := Same.new (o := .tup [.str "lacks", .int v3]) hp
            exact k _ (.leaf .lacks v3) _ (B3.trans (Same.but s4)) (d3.same s4) (.leaf (SqT.of upd_same)) ⟨Nat.le_refl 1, ⟨v30, v32⟩, fun y hy => by cases hy⟩
    · refine iteF ?_
      refine ⟨.int v1, rfl, rfl, _, rfl, ite2 (fun c3 => ?_) (fun c3 => ?_)⟩
      · refine ⟨by show 1 ≤ sizeLine; decide, fun p hp => ⟨by show 1 ≤ sizeLine; decide, fun q hq => ⟨by show 2 ≤ sizeLine; decide, fun l hl => ?_⟩⟩⟩
        have s2 := Same.new (o := .tup [.str "true"]) hp
        have s3 := Same.new (o := .tup [.str "false"]) hq
        have s4 := Same.new (o := .lst [.ref p, .ref q]) hl
        have p4 := s4 _ _ (s3 _ _ (upd_same (H := H1) (a := p) (o := .tup [.str "true"])))
        have q4 := s4 _ _ (upd_same (H := upd H1 p (.tup [.str "true"])) (a := q) (o := .tup [.str "false"]))
        have l4 := upd_same (H := upd (upd H1 p (.tup [.str "true"])) q (.tup [.str "false"])) (a := l) (o := .lst [.ref p, .ref q])
        have s14 := s2.trans (s3.trans s4)
        have ld : l ≠ d := fun e => by
          obtain ⟨ds, e2⟩ := d1
          have := (s2.trans s3) _ _ e2
          rw [← e, hl] at this
          cases this
        refine ⟨.ref d, rfl, d, 2, rfl, d1.same s14, by decide, fun v2 H2 v20 v22 b2 d2 => ?_⟩
        obtain ⟨b, hb⟩ := two_at (x := V.ref p) (y := V.ref q) v20 v22
        have l5 := b2 _ _ ld l4
        have keepT : ∀ (a : Addr) (xs : List V), SqT K _ a xs → SqT K H2 a xs := fun a xs h => SqT.but (d1.same s14).lst b2 h
        refine ⟨l, _, _, _, rfl, rfl, SqL.of l5, hb, ?_⟩
        have B2 := (b1.trans (Same.but s14)).trans b2
        cases b with
        | true => exact k _ (.nul true) _ B2 d2 (.nul (keepT _ _ (SqT.of p4))) ⟨Nat.le_refl 1, trivial, fun y hy => by cases hy⟩
        | false => exact k _ (.nul false) _ B2 d2 (.nul (keepT _ _ (SqT.of q4))) ⟨Nat.le_refl 1, trivial, fun y hy => by cases hy⟩
      · refine ⟨by show 2 ≤ sizeLine; decide, fun l hl => ?_⟩
        have s2 := Same.new (o := .lst [.str "has", .str "lacks"]) hl
        have l2 := upd_same (H := H1) (a := l) (o := .lst [.str "has", .str "lacks"])
        have ld : l ≠ d := fun e => by
          obtain ⟨ds, e2⟩ := d1
          rw [← e, hl] at e2
          cases e2
        refine ⟨.ref d, rfl, d, 2, rfl, d1.same s2, by decide, fun v2 H2 v20 v22 b2 d2 => ?_⟩
        obtain ⟨b, hb⟩ := two_at (x := V.str "has") (y := V.str "lacks") v20 v22
        refine ⟨l, _, _, _, rfl, rfl, SqL.of (b2 _ _ ld l2), hb, ?_⟩
        refine ⟨.ref d, rfl, d, 2, rfl, d2, by decide, fun v3 H3 v30 v32 b3 d3 => ?_⟩
        refine ⟨by show 2 ≤ sizeLine; decide, fun p hp => ?_⟩
        have B3 := ((b1.trans (Same.but s2)).trans b2).trans b3
        cases b with
        | true =>
          have s4 := Same.new (o := .tup [.str "has", .int v3]) hp
          exact k _ (.leaf .has v3) _ (B3.trans (Same.but s4)) (d3.same s4) (.leaf (SqT.of upd_same)) ⟨Nat.le_refl 1, ⟨v30, v32⟩, fun y hy => by cases hy⟩
        | false =>
          have s4 := Same.new (o := .tup [.str "lacks", .int v3]) hp
          exact k _ (.leaf .lacks v3) _ (B3.trans (Same.but s4)) (d3.same s4) (.leaf (SqT.of upd_same)) ⟨Nat.le_refl 1, ⟨v30, v32⟩, fun y hy => by cases hy⟩
end
end Fw

set_option maxRecDepth 100000
set_option maxHeartbeats 4000000
namespace Fw
open PySem PySem.Spec PyProof.Rows L2
theorem Draws.ne {H : Hp} {d q : Addr} (h : Draws H d) (hq : H q = none) : q ≠ d := fun e => by
  obtain ⟨ds, z⟩ := h
  rw [← e, hq] at z
  cases z
theorem four_at {v : Int} (h0 : 0 ≤ v) (h4 : v < 4) : ∃ x ∈ V4, atI [V.int 0, V.int 1, V.int 2, V.int 7] v = some (.int x) := by
  have : v = 0 ∨ v = 1 ∨ v = 2 ∨ v = 3 := by omega
  rcases this with rfl | rfl | rfl | rfl
  · exact ⟨0, by decide, rfl⟩
  · exact ⟨1, by decide, rfl⟩
  · exact ⟨2, by decide, rfl⟩
  · exact ⟨7, by decide, rfl⟩
theorem V4_nonneg {x : Int} (h : x ∈ V4) : 0 ≤ x ∧ x < 8 := by
  simp only [List.mem_cons, List.not_mem_nil, or_false] at h
  omega
def ofB (b : Bool) : Int := if b = true then 1 else 0
abbrev IL (H : Hp) (a : Addr) (xs : List Int) : Prop := H a = some (.lst (xs.map V.int))
def spS (K : PySem.W.Frag) : Nat → Sp
  | 0 => fun _ _ _ _ => False
  | n + 1 => fun vs H Q _ => ∃ (d wa ra : Addr) (W R : List Int), vs = [.ref d, .int (n : Nat), .ref wa, .ref ra, .bl true] ∧ Draws H d ∧ IL H wa W ∧ IL H ra R ∧ wa ≠ d ∧ ra ≠ d ∧ W.length + R.length + n ≤ 20 ∧ (∀ x ∈ W, x ∈ V4) ∧ (∀ x ∈ R, x ∈ V4) ∧
    ∀ v t H', But d H H' → Draws H' d → IsF K H' v t → Gen n W R t → Q v H'
section
variable {P : Program} {w : World} {K : PySem.W.Frag} {mg : Str → Option Value} {base : Heap} {C J B NC FE : Addr}
theorem ok_law_statement {f : Addr} {fd : FuncData} (n : Nat) (FF : Fun K "_law_statement" "_law_statement" s_law_statement f fd) (T : Txt K mg C J B) (h_law_take : Has P w K mg base "_law_take" 1 a_law_take spTake)
    (h_law_atom : Has P w K mg base "_law_atom" 2 a_law_atom (spAtom K)) (h_law_statement : Has P w K mg base "_law_statement" (n + 2) a_law_statement (spS K n)) : FnOk P w K mg base CX0 (n + 3) f fd a_law_statement (spS K (n + 1)) := by
  refine FF.ok sc_law_statement (fun vs H Q E h => ?_) (fun cdv A outer s H vs Q E hr h => ?_)
  · obtain ⟨d, wa, ra, W, R, rfl, _⟩ := h
    rfl
  · obtain ⟨d, wa, ra, W, R, rfl, hd, hW, hR, nwd, nrd, hsz, hVW, hVR, k⟩ := h
    refine ⟨_, (pss_cons (ps_set (i := 5) sc_law_statement.nd rfl (.inl rfl) (pe_callH h_law_take (hr.mono (by omega)) (pa_cons (pv 0) (pa_cons pe_int pa_nil))))
      (pss_cons (ps_if (PW.pt (pw_or (pt_cmpR op_eq (pv 1) pe_int (nomark _)) (pw_or1 (pt_cmpR op_eq (pv 5) pe_int (nomark _))))) (pss_one (ps_ret (pe_callH h_law_atom (hr.mono (by omega)) (pa_cons (pv 0) (pa_cons (pv 3) pa_nil))))) pss_nil)
      (pss_cons (ps_if (pt_cmpR op_lt (pv 5) pe_int (nomark _)) (pss_cons (ps_set (i := 6) sc_law_statement.nd rfl (.inl rfl) (pe_callH h_law_statement (hr.mono (by omega)) (pa_cons (pv 0) (pa_cons (pe_op op_sub (pv 1) pe_int) (pa_cons (pv 2) (pa_cons (pv 3) (pa_cons (pv 4) pa_nil)))))))
      (pss_one (ps_ret (pe_tup (pa_cons (pe_ix ix_list (pe_lst (pa_cons pe_str (pa_cons pe_str pa_nil))) (pe_callTy call_int1 rfl T.z_int (by decide +kernel) (pa_cons (pe_cmpR op_gt (pv 5) pe_int (nomark _)) pa_nil)) (fun _ _ => rfl)) (pa_cons (pv 6) (pa_cons (pe_callH h_law_statement (hr.mono (by omega)) (pa_cons (pv 0) (pa_cons (pe_op op_sub (pv 1) pe_int) (pa_cons (pv 2) (pa_cons (pv 3) (pa_cons (pv 4) pa_nil)))))) pa_nil))))))) pss_nil)
      (pss_cons (ps_if (pt_cmpR op_lt (pv 5) pe_int (nomark _)) (pss_cons (ps_set (i := 7) sc_law_statement.nd rfl (.inl rfl) (pe_op op_fdivN (pe_callH h_law_take (hr.mono (by omega)) (pa_cons (pv 0) (pa_cons pe_int pa_nil))) pe_int))
      (pss_one (ps_ret (pe_tup (pa_cons (pe_ix ix_list (pe_lst (pa_cons pe_str (pa_cons pe_str pa_nil))) (pe_callH h_law_take (hr.mono (by omega)) (pa_cons (pv 0) (pa_cons pe_int pa_nil))) (fun _ _ => rfl)) (pa_cons (pv 7) (pa_cons (pe_callH h_law_statement (hr.mono (by omega)) (pa_cons (pv 0) (pa_cons (pe_op op_sub (pv 1) pe_int) (pa_cons (pe_lst pa_nil) (pa_cons (pe_op op_cat (pv 3) (pv 2)) (pa_cons (pv 4) pa_nil)))))) pa_nil))))))) pss_nil)
      (pss_cons (ps_set (i := 8) sc_law_statement.nd rfl (.inr rfl) (pe_ix ix_list (pe_lst (pa_cons pe_int (pa_cons pe_int (pa_cons pe_int (pa_cons pe_int pa_nil))))) (pe_callH h_law_take (hr.mono (by omega)) (pa_cons (pv 0) (pa_cons pe_int pa_nil))) (fun _ _ => rfl)))
      (pss_cons (ps_setLc (i := 9) (own := [("other", 11)]) (g := gName 11) rfl sc_law_statement.nd rfl rfl (sw_true rfl rfl rfl (by decide +kernel)) (pi_list (pv 2)) (blkOk_by (own := [("other", 11)]) (N := n_law_statement) (sc := defScope s_law_statement) (by decide +kernel)) (fun _ _ _ _ _ => (pg_name (i := 11) sc_law_statement.nd rfl (.inl rfl))) (fun _ _ _ _ _ => (pts_one (pt_cmpR op_ne (pv 11) (pv 8) (nomark _)))) (fun _ _ _ _ _ => (pv 11)))
      (pss_cons (ps_setLc (i := 10) (own := [("other", 11)]) (g := gName 11) rfl sc_law_statement.nd rfl rfl (sw_true rfl rfl rfl (by decide +kernel)) (pi_list (pv 3)) (blkOk_by (own := [("other", 11)]) (N := n_law_statement) (sc := defScope s_law_statement) (by decide +kernel)) (fun _ _ _ _ _ => (pg_name (i := 11) sc_law_statement.nd rfl (.inl rfl))) (fun _ _ _ _ _ => (pts_one (pt_cmpR op_ne (pv 11) (pv 8) (nomark _)))) (fun _ _ _ _ _ => (pv 11)))
      (pss_cons (ps_if (PW.pt (pw_and (pt_val (pv 4)) (pw_and1 (pt_cmpR op_eq (pe_callH h_law_take (hr.mono (by omega)) (pa_cons (pv 0) (pa_cons pe_int pa_nil))) pe_int (nomark _))))) (pss_one (ps_set (i := 10) sc_law_statement.nd rfl (.inl rfl) (pe_op op_cat (pv 10) (pe_lst (pa_cons (pv 8) pa_nil))))) (pss_one (ps_set (i := 9) sc_law_statement.nd rfl (.inl rfl) (pe_op op_cat (pv 9) (pe_lst (pa_cons (pv 8) pa_nil))))))
      (pss_one (ps_ret (pe_tup (pa_cons (pe_ix ix_list (pe_lst (pa_cons pe_str (pa_cons pe_str pa_nil))) (pe_callH h_law_take (hr.mono (by omega)) (pa_cons (pv 0) (pa_cons pe_int pa_nil))) (fun _ _ => rfl)) (pa_cons (pv 8) (pa_cons (pe_callH h_law_statement (hr.mono (by omega)) (pa_cons (pv 0) (pa_cons (pe_op op_sub (pv 1) pe_int) (pa_cons (pv 9) (pa_cons (pv 10) (pa_cons (pv 4) pa_nil)))))) pa_nil)))))))))))))), ?_⟩
    refine ⟨.ref d, rfl, d, 12, rfl, hd, by decide, fun v1 H1 v10 v112 b1 d1 => ?_⟩
    refine ⟨.int (n : Nat), rfl, rfl, _, rfl, ite2 (fun c => ?_) (fun c => ?_)⟩
    · refine iteT ?_
      refine ⟨.ref d, rfl, .ref ra, rfl, d, ra, R, rfl, d1, SqL.of (b1 _ _ nrd hR), nrd, by omega, hVR, fun v t H2 b2 d2 ht g => ?_⟩
      exact k v t H2 (b1.trans b2) d2 ht ⟨Nat.le_trans g.dep (by omega), g.ok, fun x hx => (g.fr x hx).elim (fun z => by cases z) .inr⟩
    refine ⟨.int v1, rfl, rfl, _, rfl, ite2 (fun c1 => ?_) (fun c1 => ?_)⟩
    · skip
      refine ⟨.ref d, rfl, .ref ra, rfl, d, ra, R, rfl, d1, SqL.of (b1 _ _ nrd hR), nrd, by omega, hVR, fun v t H2 b2 d2 ht g => ?_⟩
      exact k v t H2 (b1.trans b2) d2 ht ⟨Nat.le_trans g.dep (by omega), g.ok, fun x hx => (g.fr x hx).elim (fun z => by cases z) .inr⟩
    obtain ⟨m, rfl⟩ : ∃ m, n = m + 1 := by
      cases n with
      | zero => exact absurd (decide_eq_true rfl) c
      | succ m => exact ⟨m, rfl⟩
    have hW1 := b1 _ _ nwd hW
    have hR1 := b1 _ _ nrd hR
    have em : V.int (((m + 1 : Nat) : Int) - 1) = V.int (m : Nat) := by congr 1; omega
    refine ⟨.int v1, rfl, _, _, rfl, rfl, _, rfl, ite2 (fun c2 => ?_) (fun c2 => ?_)⟩
    · -- and, or
      refine ⟨.ref d, rfl, .int ((m + 1 : Nat) : Int), rfl, _, 1, rfl, rfl, .ref wa, rfl, .ref ra, rfl, .bl true, rfl, d, wa, ra, W, R, by show [V.ref d, V.int (((m + 1 : Nat) : Int) - 1), _, _, _] ++ [] = _; rw [em]; rfl, d1, hW1, hR1, nwd, nrd, by omega, hVW, hVR, fun vf tf H2 b2 d2 hf gf => ?_⟩
      refine ⟨by show 2 ≤ sizeLine; decide, fun l hl => ?_⟩
      have s3 := Same.new (o := .lst [.str "and", .str "or"]) hl
      have l3 := upd_same (H := H2) (a := l) (o := .lst [.str "and", .str "or"])
      have hW3 := s3 _ _ (b2 _ _ nwd hW1)
      have hR3 := s3 _ _ (b2 _ _ nrd hR1)
      have b3 := b1.trans (b2.trans (Same.but s3))
      have d3 := d2.same s3
      have hf3 := hf.same s3
      have word : ∃ b : Bool, atI [V.str "and", V.str "or"] (if decide (2 < v1) = true then 1 else 0) = some (.str (wT b)) := by
        by_cases q : 2 < v1
        · exact ⟨false, by rw [if_pos (decide_eq_true q)]; rfl⟩
        · exact ⟨true, by rw [if_neg (by rw [decide_eq_false q]; exact Bool.false_ne_true)]; rfl⟩
      obtain ⟨b, hb⟩ := word
      refine ⟨.int v1, rfl, _, _, rfl, rfl, .inr ⟨_, rfl, l, _, _, _, rfl, rfl, SqL.of l3, hb, ?_⟩⟩
      refine ⟨vf, rfl, ?_⟩
      refine ⟨.ref d, rfl, .int ((m + 1 : Nat) : Int), rfl, _, 1, rfl, rfl, .ref wa, rfl, .ref ra, rfl, .bl true, rfl, d, wa, ra, W, R, by show [V.ref d, V.int (((m + 1 : Nat) : Int) - 1), _, _, _] ++ [] = _; rw [em]; rfl, d3, hW3, hR3, nwd, nrd, by omega, hVW, hVR, fun vg tg H4 b4 d4 hg gg => ?_⟩
      refine ⟨by show 3 ≤ sizeLine; decide, fun p hp => ?_⟩
      have s5 := Same.new (o := .tup [.str (wT b), vf, vg]) hp
      refine k _ (.two b tf tg) _ ((b3.trans b4).trans (Same.but s5)) (d4.same s5) (.two (SqT.of upd_same) ((hf3.but d3.lst b4).same s5) (hg.same s5)) ⟨by show max tf.depth tg.depth + 1 ≤ _; have := gf.dep; have := gg.dep; omega, ⟨gf.ok, gg.ok⟩, fun y hy => ?_⟩
      rcases List.mem_append.mp (show y ∈ fv tf ++ fv tg from hy) with z | z
      · exact gf.fr y z
      · exact gg.fr y z
    refine ⟨.int v1, rfl, _, _, rfl, rfl, _, rfl, ite2 (fun c3 => ?_) (fun c3 => ?_)⟩
    · -- some, all
      refine ⟨.ref d, rfl, d, 3, rfl, d1, by decide, fun v2 H2 v20 v23 b2 d2 => ⟨v2, 2, rfl, rfl, ⟨by decide, by decide⟩, ?_⟩⟩
      have lab : 0 ≤ v2.fdiv 2 ∧ v2.fdiv 2 < 2 := by
        have : v2 = 0 ∨ v2 = 1 ∨ v2 = 2 := by omega
        rcases this with rfl | rfl | rfl <;> decide
      refine ⟨by show 2 ≤ sizeLine; decide, fun l hl => ?_⟩
      have s3 := Same.new (o := .lst [.str "some", .str "all"]) hl
      have l3 := upd_same (H := H2) (a := l) (o := .lst [.str "some", .str "all"])
      have ld := d2.ne hl
      refine ⟨.ref d, rfl, d, 2, rfl, d2.same s3, by decide, fun v4 H4 v40 v42 b4 d4 => ?_⟩
      obtain ⟨b, hb⟩ := two_at (x := V.str "some") (y := V.str "all") v40 v42
      refine ⟨l, _, _, _, rfl, rfl, SqL.of (b4 _ _ ld l3), hb, _, rfl, ?_⟩
      have hW4 := b4 _ _ nwd (s3 _ _ (b2 _ _ nwd hW1))
      have hR4 := b4 _ _ nrd (s3 _ _ (b2 _ _ nrd hR1))
      refine ⟨.ref d, rfl, .int ((m + 1 : Nat) : Int), rfl, _, 1, rfl, rfl, Nat.zero_le _, fun e he => ?_⟩
      have s5 := Same.new (o := .lst []) he
      refine ⟨.ref ra, rfl, .ref wa, rfl, ra, wa, _, _, rfl, rfl, s5 _ _ hR4, s5 _ _ hW4, by rw [List.length_map, List.length_map]; exact Nat.le_of_lt (small1000 (by omega)), fun q hq => ?_⟩
      have s6 := Same.new (o := .lst (R.map V.int ++ W.map V.int)) hq
      have ed := d4.ne he
      have qd := (d4.same s5).ne hq
      refine ⟨.bl true, rfl, d, e, q, [], R ++ W, by show [V.ref d, V.int (((m + 1 : Nat) : Int) - 1), _, _, _] ++ [] = _; rw [em]; rfl, (d4.same s5).same s6, s6 _ _ upd_same, by show _ = _; rw [upd_same, List.map_append], ed, qd, by simp; omega, by simp, fun x hx => (List.mem_append.mp hx).elim (hVR x) (hVW x), fun v f H7 b7 d7 hf g => ?_⟩
      refine ⟨by show 3 ≤ sizeLine; decide, fun p hp => ?_⟩
      have BB := (((b1.trans (b2.trans ((Same.but s3).trans b4))).trans (Same.but s5)).trans (Same.but s6)).trans b7
      have fr' : ∀ y ∈ fv f, y ∈ W ∨ y ∈ R := fun y hy => (g.fr y hy).elim (fun z => by cases z) fun z => (List.mem_append.mp z).symm
      cases b with
      | true =>
        have s9 := Same.new (o := .tup [.str "some", .int (v2.fdiv 2), v]) hp
        exact k _ (.one .some (v2.fdiv 2) f) _ (BB.trans (Same.but s9)) (d7.same s9) (.one (SqT.of upd_same) (hf.same s9)) ⟨by show f.depth + 1 ≤ _; have := g.dep; omega, ⟨by rw [if_neg (by decide)]; exact lab, g.ok⟩, fr'⟩
      | false =>
        have s9 := Same.new (o := .tup [.str "all", .int (v2.fdiv 2), v]) hp
        exact k _ (.one .all (v2.fdiv 2) f) _ (BB.trans (Same.but s9)) (d7.same s9) (.one (SqT.of upd_same) (hf.same s9)) ⟨by show f.depth + 1 ≤ _; have := g.dep; omega, ⟨by rw [if_neg (by decide)]; exact lab, g.ok⟩, fr'⟩
    -- least, most
    refine ⟨by show 4 ≤ sizeLine; decide, fun l hl => ?_⟩
    have s2 := Same.new (o := .lst [V.int 0, V.int 1, V.int 2, V.int 7]) hl
    have l2 := upd_same (H := H1) (a := l) (o := .lst [V.int 0, V.int 1, V.int 2, V.int 7])
    have ld := d1.ne hl
    refine ⟨.ref d, rfl, d, 4, rfl, d1.same s2, by decide, fun v3 H3 v30 v34 b3 d3 => ?_⟩
    obtain ⟨x, hx4, hx⟩ := four_at v30 v34
    refine ⟨l, _, _, _, rfl, rfl, SqL.of (b3 _ _ ld l2), hx, ?_⟩
    have hW3 := b3 _ _ nwd (s2 _ _ hW1)
    have hR3 := b3 _ _ nrd (s2 _ _ hR1)
    have B3 := b1.trans ((Same.but s2).trans b3)
    -- later, usable
    refine ⟨.ref wa, rfl, wa, rfl, ⟨_, SqL.of hW3⟩, fun la hla => ?_⟩
    refine lc_list (xs := W.map V.int) (fun i G => Same H3 G ∧ G la = some (.lst (((W.take i).filter (fun y => y ≠ x)).map V.int))) ⟨Same.new hla, upd_same⟩ (fun i G _ q => SqL.of (q.1 _ _ hW3)) ?_ ?_
    · rintro i y G hy ⟨sG, gl⟩
      obtain ⟨z, hz, rfl⟩ : ∃ z, W[i]? = some z ∧ y = V.int z := by
        rw [List.getElem?_map] at hy
        cases e : W[i]? with
        | none => rw [e] at hy; cases hy
        | some z => rw [e] at hy; exact ⟨z, rfl, (Option.some.inj hy).symm⟩
      refine ⟨rfl, .int z, rfl, .int x, rfl, rfl, _, rfl, ?_⟩
      have e1 : W.take (i + 1) = W.take i ++ [z] := by rw [List.take_add_one, hz]; rfl
      by_cases e : z = x
      · rw [show (!decide (V.int z = V.int x)) = false by rw [e, decide_eq_true rfl]; rfl]
        refine iteF ⟨sG, ?_⟩
        rw [gl, e1, List.filter_append, e]
        simp
      · rw [show (!decide (V.int z = V.int x)) = true by rw [decide_eq_false (fun q => e (V.int.inj q))]; rfl]
        refine iteT ⟨.int z, rfl, _, gl, ?_, fun b o e2 => by rw [upd_ne (ne_of_none e2 hla)]; exact sG b o e2, ?_⟩
        · rw [List.length_map]
          have := List.length_filter_le (fun y => decide (y ≠ x)) (W.take i)
          rw [List.length_take] at this
          exact small1000 (by omega)
        · rw [upd_same, e1, List.filter_append, List.map_append]
          simp [e]
    rintro G4 ⟨s4, gla⟩
    rw [List.length_map, List.take_length] at gla
    have hR4 := s4 _ _ hR3
    have d4 := d3.same s4
    have lad := d3.ne hla
    refine ⟨.ref ra, rfl, ra, rfl, ⟨_, SqL.of hR4⟩, fun ua hua => ?_⟩
    refine lc_list (xs := R.map V.int) (fun i G => Same G4 G ∧ G ua = some (.lst (((R.take i).filter (fun y => y ≠ x)).map V.int))) ⟨Same.new hua, upd_same⟩ (fun i G _ q => SqL.of (q.1 _ _ hR4)) ?_ ?_
    · rintro i y G hy ⟨sG, gl⟩
      obtain ⟨z, hz, rfl⟩ : ∃ z, R[i]? = some z ∧ y = V.int z := by
        rw [List.getElem?_map] at hy
        cases e : R[i]? with
        | none => rw [e] at hy; cases hy
        | some z => rw [e] at hy; exact ⟨z, rfl, (Option.some.inj hy).symm⟩
      refine ⟨rfl, .int z, rfl, .int x, rfl, rfl, _, rfl, ?_⟩
      have e1 : R.take (i + 1) = R.take i ++ [z] := by rw [List.take_add_one, hz]; rfl
      by_cases e : z = x
      · rw [show (!decide (V.int z = V.int x)) = false by rw [e, decide_eq_true rfl]; rfl]
        refine iteF ⟨sG, ?_⟩
        rw [gl, e1, List.filter_append, e]
        simp
      · rw [show (!decide (V.int z = V.int x)) = true by rw [decide_eq_false (fun q => e (V.int.inj q))]; rfl]
        refine iteT ⟨.int z, rfl, _, gl, ?_, fun b o e2 => by rw [upd_ne (ne_of_none e2 hua)]; exact sG b o e2, ?_⟩
        · rw [List.length_map]
          have := List.length_filter_le (fun y => decide (y ≠ x)) (R.take i)
          rw [List.length_take] at this
          exact small1000 (by omega)
        · rw [upd_same, e1, List.filter_append, List.map_append]
          simp [e]
    rintro G5 ⟨s5, gua⟩
    rw [List.length_map, List.take_length] at gua
    have gla5 := s5 _ _ gla
    have d5 := d4.same s5
    have uad := d4.ne hua
    have B5 := B3.trans ((Same.but s4).trans (Same.but s5))
    have hWl := List.length_filter_le (fun y => decide (y ≠ x)) W
    have hRl := List.length_filter_le (fun y => decide (y ≠ x)) R
    have hWm : ∀ y ∈ W.filter (fun y => y ≠ x), y ∈ W := fun y hy => (List.mem_filter.mp hy).1
    have hRm : ∀ y ∈ R.filter (fun y => y ≠ x), y ∈ R := fun y hy => (List.mem_filter.mp hy).1
    generalize W.filter (fun y => decide (y ≠ x)) = W2 at gla5 gla hWl hWm
    generalize R.filter (fun y => decide (y ≠ x)) = R2 at gua hRl hRm
    -- if loose and a draw is 0
    refine ⟨.bl true, rfl, true, rfl, iteT ?_⟩
    refine ⟨.ref d, rfl, d, 3, rfl, d5, by decide, fun v6 H6 v60 v63 b6 d6 => ⟨rfl, _, rfl, ite2 (fun c4 => ?_) (fun c4 => ?_)⟩⟩
    · have gla6 := b6 _ _ lad gla5
      have gua6 := b6 _ _ uad gua
      refine ⟨.ref ua, rfl, .int x, rfl, by show 1 ≤ sizeLine; decide, fun p hp => ?_⟩
      have s7 := Same.new (o := .lst [V.int x]) hp
      refine ⟨ua, p, _, _, rfl, rfl, s7 _ _ gua6, upd_same, by rw [List.length_map]; exact Nat.le_of_lt (small1000 (by show _ + 1 ≤ 1000; omega)), fun ua' hua' => ?_⟩
      have s8' := Same.new (o := .lst (R2.map V.int ++ [V.int x])) hua'
      have hl' := s8' _ _ (s7 _ _ gla6)
      have hu' : IL (upd (upd H6 p (.lst [V.int x])) ua' (.lst (R2.map V.int ++ [V.int x]))) ua' (R2 ++ [x]) := by show _ = _; rw [upd_same, List.map_append]; rfl
      have gd := (d6.same s7).same s8'
      have nu' := (d6.same s7).ne hua'
      have B : But d H (upd (upd H6 p (.lst [V.int x])) ua' (.lst (R2.map V.int ++ [V.int x]))) := (B5.trans b6).trans ((Same.but s7).trans (Same.but s8'))
      generalize upd (upd H6 p (.lst [V.int x])) ua' (.lst (R2.map V.int ++ [V.int x])) = G at hl' hu' gd B
      have nl' := lad
      have hsz' : W2.length + (R2 ++ [x]).length + m ≤ 20 := by rw [List.length_append, List.length_singleton]; omega
      have hVW' : ∀ y ∈ W2, y ∈ V4 := fun y hy => hVW y (hWm y hy)
      have hVR' : ∀ y ∈ R2 ++ [x], y ∈ V4 := fun y hy => (List.mem_append.mp hy).elim (fun z => hVR y (hRm y z)) fun z => by rw [List.mem_singleton.mp z]; exact hx4
      have hsub : ∀ y, (y ∈ W2 ∨ y ∈ R2 ++ [x]) → y ≠ x → y ∈ W ∨ y ∈ R := fun y hy ne => hy.elim (fun z => .inl (hWm y z)) fun z => (List.mem_append.mp z).elim (fun q => .inr (hRm y q)) fun q => absurd (List.mem_singleton.mp q) ne
      obtain ⟨la', ela⟩ : ∃ la' : Addr, la' = la := ⟨_, rfl⟩
      subst ela
      obtain ⟨W', eW⟩ : ∃ W' : List Int, W' = W2 := ⟨_, rfl⟩
      subst eW
      obtain ⟨R', eR⟩ : ∃ R' : List Int, R' = R2 ++ [x] := ⟨_, rfl⟩
      rw [← eR] at hu' hsz' hVR' hsub
      -- the binder: lists W' at la', R' at ua', in G
      refine ⟨by show 2 ≤ sizeLine; decide, fun l hl => ?_⟩
      have s8 := Same.new (o := .lst [.str "least", .str "most"]) hl
      have ld := gd.ne hl
      have l8 := upd_same (H := G) (a := l) (o := .lst [.str "least", .str "most"])
      refine ⟨.ref d, rfl, d, 2, rfl, gd.same s8, by decide, fun v8 H8 v80 v82 b8 d8 => ?_⟩
      obtain ⟨bb, hbb⟩ := two_at (x := V.str "least") (y := V.str "most") v80 v82
      refine ⟨l, _, _, _, rfl, rfl, SqL.of (b8 _ _ ld l8), hbb, .int x, rfl, ?_⟩
      refine ⟨.ref d, rfl, .int ((m + 1 : Nat) : Int), rfl, _, 1, rfl, rfl, .ref la', rfl, .ref ua', rfl, .bl true, rfl, d, la', ua', W', R', by rw [Int.natCast_add]; show [V.ref d, V.int ((m : Int) + 1 - 1), _, _, _] ++ [] = _; rw [Int.add_sub_cancel]; rfl, d8, b8 _ _ nl' (s8 _ _ hl'), b8 _ _ nu' (s8 _ _ hu'), nl', nu', hsz', hVW', hVR', fun v f H9 b9 d9 hf g => ?_⟩
      refine ⟨by show 3 ≤ sizeLine; decide, fun p hp => ?_⟩
      have BB := ((B.trans (Same.but s8)).trans b8).trans b9
      have fr' : ∀ y ∈ fv f, y ≠ x → y ∈ W ∨ y ∈ R := fun y hy ne => (g.fr y hy).elim (fun z => hsub y (.inl z) ne) fun z => hsub y (.inr z) ne
      cases bb with
      | true =>
        have s9 := Same.new (o := .tup [.str "least", .int x, v]) hp
        refine k _ (.one .least x f) _ (BB.trans (Same.but s9)) (d9.same s9) (.one (SqT.of upd_same) (hf.same s9)) ⟨by show f.depth + 1 ≤ _; have := g.dep; omega, ⟨(if_pos (show One.least.bind = true from rfl)).mpr hx4, g.ok⟩, fun y hy => ?_⟩
        have z := List.mem_filter.mp (show y ∈ (fv f).filter (fun y => y ≠ x) from hy)
        exact fr' y z.1 (by simpa using z.2)
      | false =>
        have s9 := Same.new (o := .tup [.str "most", .int x, v]) hp
        refine k _ (.one .most x f) _ (BB.trans (Same.but s9)) (d9.same s9) (.one (SqT.of upd_same) (hf.same s9)) ⟨by show f.depth + 1 ≤ _; have := g.dep; omega, ⟨(if_pos (show One.most.bind = true from rfl)).mpr hx4, g.ok⟩, fun y hy => ?_⟩
        have z := List.mem_filter.mp (show y ∈ (fv f).filter (fun y => y ≠ x) from hy)
        exact fr' y z.1 (by simpa using z.2)
    · have gla6 := b6 _ _ lad gla5
      have gua6 := b6 _ _ uad gua
      refine ⟨.ref la, rfl, .int x, rfl, by show 1 ≤ sizeLine; decide, fun p hp => ?_⟩
      have s7 := Same.new (o := .lst [V.int x]) hp
      refine ⟨la, p, _, _, rfl, rfl, s7 _ _ gla6, upd_same, by rw [List.length_map]; exact Nat.le_of_lt (small1000 (by show _ + 1 ≤ 1000; omega)), fun la' hla' => ?_⟩
      have s8' := Same.new (o := .lst (W2.map V.int ++ [V.int x])) hla'
      have hu' := s8' _ _ (s7 _ _ gua6)
      have hl' : IL (upd (upd H6 p (.lst [V.int x])) la' (.lst (W2.map V.int ++ [V.int x]))) la' (W2 ++ [x]) := by show _ = _; rw [upd_same, List.map_append]; rfl
      have gd := (d6.same s7).same s8'
      have nl' := (d6.same s7).ne hla'
      have B : But d H (upd (upd H6 p (.lst [V.int x])) la' (.lst (W2.map V.int ++ [V.int x]))) := (B5.trans b6).trans ((Same.but s7).trans (Same.but s8'))
      generalize upd (upd H6 p (.lst [V.int x])) la' (.lst (W2.map V.int ++ [V.int x])) = G at hl' hu' gd B
      have nu' := uad
      have hsz' : (W2 ++ [x]).length + R2.length + m ≤ 20 := by rw [List.length_append, List.length_singleton]; omega
      have hVR' : ∀ y ∈ R2, y ∈ V4 := fun y hy => hVR y (hRm y hy)
      have hVW' : ∀ y ∈ W2 ++ [x], y ∈ V4 := fun y hy => (List.mem_append.mp hy).elim (fun z => hVW y (hWm y z)) fun z => by rw [List.mem_singleton.mp z]; exact hx4
      have hsub : ∀ y, (y ∈ W2 ++ [x] ∨ y ∈ R2) → y ≠ x → y ∈ W ∨ y ∈ R := fun y hy ne => hy.elim (fun z => (List.mem_append.mp z).elim (fun q => .inl (hWm y q)) fun q => absurd (List.mem_singleton.mp q) ne) fun z => .inr (hRm y z)
      obtain ⟨ua', eua⟩ : ∃ ua' : Addr, ua' = ua := ⟨_, rfl⟩
      subst eua
      obtain ⟨R', eR⟩ : ∃ R' : List Int, R' = R2 := ⟨_, rfl⟩
      subst eR
      obtain ⟨W', eW⟩ : ∃ W' : List Int, W' = W2 ++ [x] := ⟨_, rfl⟩
      rw [← eW] at hl' hsz' hVW' hsub
      -- the binder: lists W' at la', R' at ua', in G
      refine ⟨by show 2 ≤ sizeLine; decide, fun l hl => ?_⟩
      have s8 := Same.new (o := .lst [.str "least", .str "most"]) hl
      have ld := gd.ne hl
      have l8 := upd_same (H := G) (a := l) (o := .lst [.str "least", .str "most"])
      refine ⟨.ref d, rfl, d, 2, rfl, gd.same s8, by decide, fun v8 H8 v80 v82 b8 d8 => ?_⟩
      obtain ⟨bb, hbb⟩ := two_at (x := V.str "least") (y := V.str "most") v80 v82
      refine ⟨l, _, _, _, rfl, rfl, SqL.of (b8 _ _ ld l8), hbb, .int x, rfl, ?_⟩
      refine ⟨.ref d, rfl, .int ((m + 1 : Nat) : Int), rfl, _, 1, rfl, rfl, .ref la', rfl, .ref ua', rfl, .bl true, rfl, d, la', ua', W', R', by rw [Int.natCast_add]; show [V.ref d, V.int ((m : Int) + 1 - 1), _, _, _] ++ [] = _; rw [Int.add_sub_cancel]; rfl, d8, b8 _ _ nl' (s8 _ _ hl'), b8 _ _ nu' (s8 _ _ hu'), nl', nu', hsz', hVW', hVR', fun v f H9 b9 d9 hf g => ?_⟩
      refine ⟨by show 3 ≤ sizeLine; decide, fun p hp => ?_⟩
      have BB := ((B.trans (Same.but s8)).trans b8).trans b9
      have fr' : ∀ y ∈ fv f, y ≠ x → y ∈ W ∨ y ∈ R := fun y hy ne => (g.fr y hy).elim (fun z => hsub y (.inl z) ne) fun z => hsub y (.inr z) ne
      cases bb with
      | true =>
        have s9 := Same.new (o := .tup [.str "least", .int x, v]) hp
        refine k _ (.one .least x f) _ (BB.trans (Same.but s9)) (d9.same s9) (.one (SqT.of upd_same) (hf.same s9)) ⟨by show f.depth + 1 ≤ _; have := g.dep; omega, ⟨(if_pos (show One.least.bind = true from rfl)).mpr hx4, g.ok⟩, fun y hy => ?_⟩
        have z := List.mem_filter.mp (show y ∈ (fv f).filter (fun y => y ≠ x) from hy)
        exact fr' y z.1 (by simpa using z.2)
      | false =>
        have s9 := Same.new (o := .tup [.str "most", .int x, v]) hp
        refine k _ (.one .most x f) _ (BB.trans (Same.but s9)) (d9.same s9) (.one (SqT.of upd_same) (hf.same s9)) ⟨by show f.depth + 1 ≤ _; have := g.dep; omega, ⟨(if_pos (show One.most.bind = true from rfl)).mpr hx4, g.ok⟩, fun y hy => ?_⟩
        have z := List.mem_filter.mp (show y ∈ (fv f).filter (fun y => y ≠ x) from hy)
        exact fr' y z.1 (by simpa using z.2)
end
end Fw

set_option maxRecDepth 100000
set_option maxHeartbeats 4000000
namespace Fw
open PySem PySem.Spec PyProof.Rows L2
theorem in_ints (x : Int) : ∀ bs : List Int, inV (.int x) (bs.map V.int) = decide (x ∈ bs)
  | [] => by simp [inV]
  | b :: bs => by
    have ih := in_ints x bs
    unfold inV at ih ⊢
    rw [List.map_cons, List.any_cons, ih]
    have e : eqV (V.int b) (V.int x) = decide (x = b) := by
      show _ = _
      by_cases c : x = b
      · subst c
        simp [eqV]
      · simp [eqV, c]
        exact fun q => c q.symm
    rw [e]
    simp
theorem flat_ints (bs : List Int) : (bs.map V.int).all flatV = true := by
  induction bs with
  | nil => rfl
  | cons b bs ih => simpa [flatV] using ih
def spClosed (K : PySem.W.Frag) (n : Nat) : Sp := fun vs H Q _ => ∃ (d : Addr), vs = [.ref d, .int (n : Nat)] ∧ Draws H d ∧ n ≤ 10 ∧ ∀ v t H', But d H H' → Draws H' d → IsF K H' v t → Gen n [] [] t → Q v H'
def spFr (K : PySem.W.Frag) : Nat → Sp
  | 0 => fun _ _ _ _ => False
  | n + 1 => fun vs H Q _ => ∃ (v : V) (t : F) (ba : Addr) (bs : List Int), vs = [v, .ref ba] ∧ IsF K H v t ∧ t.depth ≤ n + 1 ∧ t.size ≤ 1000 ∧ IL H ba bs ∧ bs.length + n ≤ 100 ∧ ∀ l H', Same H H' → IL H' l (freeL t bs) → Q (.ref l) H'
theorem free_len : ∀ (t : F) (b : List Int), (freeL t b).length ≤ t.size
  | .nul _, _ => Nat.zero_le _
  | .leaf .has _, _ => Nat.zero_le _
  | .leaf .lacks _, _ => Nat.zero_le _
  | .leaf .var x, b => by
    simp only [freeL, F.size]
    split <;> simp
  | .two _ f g, b => by
    have := free_len f b
    have := free_len g b
    simp only [freeL, F.size, List.length_append]
    omega
  | .one k x f, b => by
    have h1 := free_len f (b ++ [x])
    have h2 := free_len f b
    simp only [freeL, F.size]
    split <;> omega
/-- the kids' free variables, one behind the other -/
def freeK (bs : List Int) : List F → List Int
  | [] => []
  | f :: fs => freeL f bs ++ freeK bs fs
theorem freeK_snoc (bs : List Int) : ∀ (fs : List F) (f : F), freeK bs (fs ++ [f]) = freeK bs fs ++ freeL f bs
  | [], f => by simp [freeK]
  | g :: fs, f => by simp [freeK, freeK_snoc bs fs f]
theorem freeK_kids {t : F} {bs : List Int} (nv : ∀ x, t ≠ .leaf .var x) (nb : isB t = false) : freeK bs t.kids = freeL t bs := by
  cases t with
  | nul b => rfl
  | leaf k n =>
    cases k with
    | var => exact absurd rfl (nv n)
    | has => rfl
    | lacks => rfl
  | two b f g => simp [F.kids, freeK, freeL]
  | one k n f =>
    have hk : ¬ k.bind = true := by rw [show k.bind = false from nb]; exact Bool.false_ne_true
    simp only [F.kids, freeK, freeL, if_neg hk, List.append_nil]
theorem var_word {hd : Hd} (nv : ∀ x, hd ≠ .leaf .var x) : V.str (hw hd) ≠ V.str "var" := by
  cases hd with
  | nul b => exact nv_N b
  | two b => exact nv_T b
  | one k _ => exact nv_O k
  | leaf k x =>
    cases k with
    | var => exact absurd rfl (nv x)
    | has => exact nv_has
    | lacks => exact nv_lacks
theorem kid_small {t f : F} (h : f ∈ t.kids) : f.depth + 1 ≤ t.depth ∧ f.size + 1 ≤ t.size := by
  cases t with
  | nul b => cases h
  | leaf k n => cases h
  | two b x y =>
    simp only [F.kids, List.mem_cons, List.not_mem_nil, or_false] at h
    simp only [F.depth, F.size]
    rcases h with rfl | rfl <;> omega
  | one k n x =>
    simp only [F.kids, List.mem_cons, List.not_mem_nil, or_false] at h
    subst h
    simp [F.depth, F.size]
section
variable {P : Program} {w : World} {K : PySem.W.Frag} {mg : Str → Option Value} {base : Heap} {C J B NC FE : Addr}
theorem noneOk {f : Addr} {fd : FuncData} {k : Nat} {ps : List Str} : FnOk P w K mg base CX0 k f fd ps (fun _ _ _ _ => False) :=
  ⟨fun _ _ _ _ h => h.elim, fun _ _ _ _ _ _ _ _ _ _ _ _ _ h => h.elim⟩
theorem all_statement {f : Addr} {fd : FuncData} (FF : Fun K "_law_statement" "_law_statement" s_law_statement f fd) (b : Binds K fd a_law_statement []) (m : mg "_law_statement" = some (.ref f)) (T : Txt K mg C J B)
    (h_law_take : Has P w K mg base "_law_take" 1 a_law_take spTake) (h_law_atom : Has P w K mg base "_law_atom" 2 a_law_atom (spAtom K)) : ∀ n, Has P w K mg base "_law_statement" (n + 2) a_law_statement (spS K n)
  | 0 => ⟨f, fd, m, FF.kp, b, noneOk⟩
  | n + 1 => ⟨f, fd, m, FF.kp, b, ok_law_statement n FF T h_law_take h_law_atom (all_statement FF b m T h_law_take h_law_atom n)⟩
theorem ok_law_closed {f : Addr} {fd : FuncData} (n : Nat) (FF : Fun K "_law_closed" "_law_closed" s_law_closed f fd) (h_law_statement : Has P w K mg base "_law_statement" (n + 3) a_law_statement (spS K (n + 1))) : FnOk P w K mg base CX0 (n + 4) f fd a_law_closed (spClosed K n) := by
  refine FF.ok sc_law_closed (fun vs H Q E h => ?_) (fun cdv A outer s H vs Q E hr h => ?_)
  · obtain ⟨d, rfl, _⟩ := h
    rfl
  · obtain ⟨d, rfl, hd, hn, k⟩ := h
    refine ⟨_, (pss_one (ps_ret (pe_callH h_law_statement (hr.mono (by omega)) (pa_cons (pv 0) (pa_cons (pv 1) (pa_cons (pe_lst pa_nil) (pa_cons (pe_lst pa_nil) (pa_cons pe_bl pa_nil)))))))), ?_⟩
    refine ⟨.ref d, rfl, .int (n : Nat), rfl, Nat.zero_le _, fun wa hwa => ⟨Nat.zero_le _, fun ra hra => ?_⟩⟩
    have s1 := Same.new (o := .lst []) hwa
    have s2 := Same.new (o := .lst []) hra
    have d1 := hd.same s1
    exact ⟨d, wa, ra, [], [], rfl, d1.same s2, s2 _ _ upd_same, upd_same, hd.ne hwa, d1.ne hra, by simp; omega, by simp, by simp, fun v t H' b dd ht g => k v t H' (((Same.but s1).trans (Same.but s2)).trans b) dd ht g⟩
end
end Fw

set_option maxRecDepth 100000
set_option maxHeartbeats 4000000
namespace Fw
open PySem PySem.Spec PyProof.Rows L2
/-! ### statements as data -/
def dV : V → PyData
  | .str z => .str z
  | .int i => .int i
  | _ => .none
def dF : F → PyData
  | .nul b => .tuple ((hv (.nul b)).map dV)
  | .leaf k n => .tuple ((hv (.leaf k n)).map dV)
  | .two b f g => .tuple ((hv (.two b)).map dV ++ [dF f, dF g])
  | .one k n f => .tuple ((hv (.one k n)).map dV ++ [dF f])
theorem dp_F {K : PySem.W.Frag} {H : Hp} {v : V} {t : F} (h : IsF K H v t) : Dp K H v (dF t) := by
  induction h with
  | nul h => exact .tup h (.cons (.str _) .nil)
  | leaf h => exact .tup h (.cons (.str _) (.cons (.int _) .nil))
  | two h _ _ f g => exact .tup h (.cons (.str _) (.cons f (.cons g .nil)))
  | one h _ f => exact .tup h (.cons (.str _) (.cons (.int _) (.cons f .nil)))
theorem ok_hw (h : Hd) : PyData.strOk (hw h) = true := by
  cases h with
  | nul b => cases b <;> decide +kernel
  | leaf k n =>
    show PyData.strOk (wL k) = true
    cases k <;> decide +kernel
  | two b => cases b <;> decide +kernel
  | one k n =>
    show PyData.strOk (wO k) = true
    cases k <;> decide +kernel
theorem dF_lay : ∀ t : F, (dF t).canLay0 = true
  | .nul b => by
    have := ok_hw (.nul b)
    simp only [hw] at this
    simp [dF, hv, dV, PyData.canLay0, PyData.canLayAll0, this]
  | .leaf k n => by
    have := ok_hw (.leaf k n)
    simp only [hw] at this
    simp [dF, hv, dV, PyData.canLay0, PyData.canLayAll0, this]
  | .two b f g => by
    have := ok_hw (.two b)
    simp only [hw] at this
    simp [dF, hv, dV, PyData.canLay0, PyData.canLayAll0, this, dF_lay f, dF_lay g]
  | .one k n f => by
    have := ok_hw (.one k n)
    simp only [hw] at this
    simp [dF, hv, dV, PyData.canLay0, PyData.canLayAll0, this, dF_lay f]
theorem dF_depth : ∀ t : F, (dF t).depth ≤ t.depth
  | .nul b => by simp [dF, hv, dV, PyData.depth, PyData.depthAll, F.depth]
  | .leaf k n => by simp [dF, hv, dV, PyData.depth, PyData.depthAll, F.depth]
  | .two b f g => by
    have := dF_depth f
    have := dF_depth g
    simp [dF, hv, dV, PyData.depth, PyData.depthAll, F.depth]
    omega
  | .one k n f => by
    have := dF_depth f
    simp [dF, hv, dV, PyData.depth, PyData.depthAll, F.depth]
    omega
theorem dF_shaped {t : F} (h : t.depth ≤ 64) : SeqAt.shaped (dF t) = true := by
  unfold SeqAt.shaped
  rw [dF_lay, decide_eq_true (Nat.le_trans (dF_depth t) h)]
  rfl
theorem dF_same (t : F) : PyData.eqv (dF t) (dF t) = true := SeqAt.eqv_refl _ (dF_lay t)
theorem dp_ints {K : PySem.W.Frag} {H : Hp} : ∀ ns : List Int, DpAll K H (ns.map V.int) (ns.map PyData.int)
  | [] => .nil
  | n :: ns => .cons (.int n) (dp_ints ns)
theorem ints_lay : ∀ ns : List Int, PyData.canLayAll0 (ns.map PyData.int) = true
  | [] => by simp [PyData.canLayAll0]
  | n :: ns => by simp [PyData.canLayAll0, PyData.canLay0, ints_lay ns]
theorem ints_depth : ∀ ns : List Int, PyData.depthAll (ns.map PyData.int) = 0
  | [] => by simp [PyData.depthAll]
  | n :: ns => by simp [PyData.depthAll, PyData.depth, ints_depth ns]
theorem ints_shaped (ns : List Int) : SeqAt.shaped (.list (ns.map PyData.int)) = true := by
  unfold SeqAt.shaped
  simp [PyData.canLay0, PyData.depth, ints_lay, ints_depth]
theorem ints_same (ns : List Int) : PyData.eqv (.list (ns.map PyData.int)) (.list (ns.map PyData.int)) = true := SeqAt.eqv_refl _ (by simp [PyData.canLay0, ints_lay])
/-- two rising lists of the same members are one -/
theorem rising_one : ∀ {a b : List Int}, a.Pairwise (· < ·) → b.Pairwise (· < ·) → (∀ x, x ∈ a ↔ x ∈ b) → a = b
  | [], [], _, _, _ => rfl
  | [], y :: b, _, _, h => by have := (h y).mpr List.mem_cons_self; cases this
  | x :: a, [], _, _, h => by have := (h x).mp List.mem_cons_self; cases this
  | x :: a, y :: b, ha, hb, h => by
    have ha' := List.pairwise_cons.mp ha
    have hb' := List.pairwise_cons.mp hb
    have e : x = y := by
      rcases List.mem_cons.mp ((h x).mp List.mem_cons_self) with q | q
      · exact q
      · rcases List.mem_cons.mp ((h y).mpr List.mem_cons_self) with r | r
        · exact r.symm
        · have := ha'.1 y r
          have := hb'.1 x q
          omega
    subst e
    congr 1
    refine rising_one ha'.2 hb'.2 fun z => ?_
    constructor
    · intro hz
      rcases List.mem_cons.mp ((h z).mp (List.mem_cons_of_mem _ hz)) with q | q
      · have := ha'.1 z hz
        omega
      · exact q
    · intro hz
      rcases List.mem_cons.mp ((h z).mpr (List.mem_cons_of_mem _ hz)) with q | q
      · have := hb'.1 z hz
        omega
      · exact q
def isOneH : Hd → Bool
  | .one _ _ => true
  | _ => false
theorem in_four (h : Hd) : inV (.str (hw h)) [.str "least", .str "most", .str "some", .str "all"] = isOneH h := by
  cases h with
  | nul b => cases b <;> rfl
  | leaf k n => cases k <;> rfl
  | two b => cases b <;> rfl
  | one k n => cases k <;> rfl
section
variable {P : Program} {w : World} {K : PySem.W.Frag} {mg : Str → Option Value} {base : Heap} {C J B NC FE : Addr}
end
end Fw

set_option maxRecDepth 100000
set_option maxHeartbeats 4000000
namespace Fw
open PySem PySem.Spec PyProof.Rows L2
/-- the kids' tidy forms, the number handed on -/
def tidyK (nm : Int → Int) : List F → Int → List F × Int
  | [], n => ([], n)
  | f :: fs, n => ((tidyF f nm n).1 :: (tidyK nm fs (tidyF f nm n).2).1, (tidyK nm fs (tidyF f nm n).2).2)
theorem tidyK_snoc (nm : Int → Int) : ∀ (fs : List F) (f : F) (n : Int), tidyK nm (fs ++ [f]) n = ((tidyK nm fs n).1 ++ [(tidyF f nm (tidyK nm fs n).2).1], (tidyF f nm (tidyK nm fs n).2).2)
  | [], f, n => rfl
  | g :: fs, f, n => by simp [tidyK, tidyK_snoc nm fs f]
theorem tidyK_kids {t : F} {nm : Int → Int} {n : Int} (nv : ∀ x, t ≠ .leaf .var x) (nb : isB t = false) :
    (tidyF t nm n).1.hd = t.hd ∧ (tidyF t nm n).1.kids = (tidyK nm t.kids n).1 ∧ (tidyF t nm n).2 = (tidyK nm t.kids n).2 := by
  cases t with
  | nul b => exact ⟨rfl, rfl, rfl⟩
  | leaf k x =>
    cases k with
    | var => exact absurd rfl (nv x)
    | has => exact ⟨rfl, rfl, rfl⟩
    | lacks => exact ⟨rfl, rfl, rfl⟩
  | two b f g => exact ⟨rfl, rfl, rfl⟩
  | one k x f =>
    have hk : ¬ k.bind = true := by rw [show k.bind = false from nb]; exact Bool.false_ne_true
    simp only [tidyF, if_neg hk, F.kids, tidyK, F.hd, and_self]
theorem AllF.snoc {K : PySem.W.Frag} {H : Hp} {xs : List V} {fs : List F} {x : V} {f : F} (h : AllF K H xs fs) (hx : IsF K H x f) : AllF K H (xs ++ [x]) (fs ++ [f]) := by
  induction h with
  | nil => exact .cons hx .nil
  | cons a _ ih => exact .cons a ih
theorem nd_put {kvs : List (Key × V)} {k : Key} {v : V} (h : (kvs.map (·.1)).Nodup) : ((putK kvs k v).map (·.1)).Nodup := by
  cases e : valV kvs k with
  | none => exact nd_putK v h e
  | some u =>
    have : (putK kvs k v).map (·.1) = kvs.map (·.1) := by
      unfold putK
      rw [valV_any, e]
      simp only [Option.isSome_some, if_true, List.map_map]
      refine List.map_congr_left fun x _ => ?_
      simp only [Function.comp]
      split <;> rfl
    rw [this]
    exact h
theorem valV_at : ∀ {kvs : List (Key × V)} {i : Nat} {k : Key} {v : V}, (kvs.map (·.1)).Nodup → kvs[i]? = some (k, v) → valV kvs k = some v ∧ valV (kvs.take i) k = none
  | [], i, k, v, _, h => by simp at h
  | p :: r, 0, k, v, _, h => by
    cases h
    exact ⟨valV_pos rfl, rfl⟩
  | p :: r, i + 1, k, v, nd, h => by
    have nd' := List.nodup_cons.mp (show (p.1 :: r.map (·.1)).Nodup from nd)
    have ih := valV_at nd'.2 (show r[i]? = some (k, v) from h)
    have ne : ¬ p.1 = k := fun e => nd'.1 (by rw [e]; exact List.mem_map.mpr ⟨(k, v), List.mem_of_getElem? (show r[i]? = some (k, v) from h), rfl⟩)
    exact ⟨by rw [valV_neg ne]; exact ih.1, by rw [List.take_succ_cons, valV_neg ne]; exact ih.2⟩
theorem hv_flat {hd : Hd} {x : V} (h : x ∈ hv hd) : (∃ s, x = .str s) ∨ ∃ n, x = .int n := by
  cases hd <;> simp only [hv, List.mem_cons, List.not_mem_nil, or_false] at h
  · exact .inl ⟨_, h⟩
  · exact h.elim (fun e => .inl ⟨_, e⟩) fun e => .inr ⟨_, e⟩
  · exact .inl ⟨_, h⟩
  · exact h.elim (fun e => .inl ⟨_, e⟩) fun e => .inr ⟨_, e⟩
def spTf (K : PySem.W.Frag) : Nat → Sp
  | 0 => fun _ _ _ _ => False
  | n + 1 => fun vs H Q _ => ∃ (v : V) (t : F) (na : Addr) (kvs : List (Key × V)) (c : Int) (nm : Int → Int), vs = [v, .ref na, .int c] ∧ IsF K H v t ∧ t.depth ≤ n + 1 ∧ H na = some (.dK kvs) ∧ kvs.length + n ≤ 100 ∧ (kvs.map (·.1)).Nodup ∧
      (∀ x ∈ fv t, valV kvs (Sum.inl x) = some (.int (nm x))) ∧
      ∀ (p : Addr) (v' : V) H', Same H H' → SqT K H' p [v', .int (tidyF t nm c).2] → IsF K H' v' (tidyF t nm c).1 → Q (.ref p) H'
section
variable {P : Program} {w : World} {K : PySem.W.Frag} {mg : Str → Option Value} {base : Heap} {C J B NC FE : Addr}
theorem ok_law_tidy_from {f : Addr} {fd : FuncData} (n : Nat) (FF : Fun K "_law_tidy_from" "_law_tidy_from" s_law_tidy_from f fd) (T : Txt K mg C J B)
    (h_law_tidy_from : Has P w K mg base "_law_tidy_from" (n + 1) a_law_tidy_from (spTf K n)) : FnOk P w K mg base CX0 (n + 2) f fd a_law_tidy_from (spTf K (n + 1)) := by
  refine FF.ok sc_law_tidy_from (fun vs H Q E h => ?_) (fun cdv A outer s H vs Q E hr h => ?_)
  · obtain ⟨v, t, na, kvs, c, nm, rfl, _⟩ := h
    rfl
  · obtain ⟨v, t, na, kvs, c, nm, rfl, ht, hdep, hN, hkl, hnd, hnm, k⟩ := h
    have hu := hu_of hr
    refine ⟨_, (pss_cons (ps_if (pt_cmpR op_eq (pe_ix ix_tup (pv 0) pe_int (fun _ _ => rfl)) pe_str (nomark _)) (pss_one (ps_ret (pe_tup (pa_cons (pe_tup (pa_cons pe_str (pa_cons (pe_dget hu (pv 1) (pe_ix ix_tup (pv 0) pe_int (fun _ _ => rfl)) (fun _ _ => rfl)) pa_nil))) (pa_cons (pv 2) pa_nil))))) pss_nil)
      (pss_cons (ps_if (pt_cmpR op_in_seq (pe_ix ix_tup (pv 0) pe_int (fun _ _ => rfl)) (pe_tup (pa_cons pe_str (pa_cons pe_str pa_nil))) (by rfl)) (pss_cons (ps_set (i := 3) sc_law_tidy_from.nd rfl (.inl rfl) pe_dnewK)
      (pss_cons (ps_lock (ps_for PassesOwn.never rfl (pi_keys (pv 1)) (pg_name (i := 4) sc_law_tidy_from.nd rfl (.inl rfl)) (pss_one (ps_dput hu (pv 3) (pv 4) (pe_dget hu (pv 1) (pv 4) (fun _ _ => rfl)) rfl))))
      (pss_cons (ps_dput hu (pv 3) (pe_ix ix_tup (pv 0) pe_int (fun _ _ => rfl)) (pv 2) rfl)
      (pss_cons (ps_asg (pe_callH h_law_tidy_from (hr.mono (by omega)) (pa_cons (pe_ix ix_tup (pv 0) pe_int (fun _ _ => rfl)) (pa_cons (pv 3) (pa_cons (pe_op op_add (pv 2) pe_int) pa_nil)))) (pg_tup rfl (pgs_cons (pg_name (i := 5) sc_law_tidy_from.nd rfl (.inl rfl)) (pgs_cons (pg_name (i := 6) sc_law_tidy_from.nd rfl (.inl rfl)) pgs_nil))))
      (pss_one (ps_ret (pe_tup (pa_cons (pe_tup (pa_cons (pe_ix ix_tup (pv 0) pe_int (fun _ _ => rfl)) (pa_cons (pv 2) (pa_cons (pv 5) pa_nil)))) (pa_cons (pv 6) pa_nil))))))))) pss_nil)
      (pss_cons (ps_set (i := 7) sc_law_tidy_from.nd rfl (.inl rfl) (pe_lst pa_nil))
      (pss_cons (ps_for PassesOwn.never rfl (pi_tup (pv 0)) (pg_name (i := 8) sc_law_tidy_from.nd rfl (.inl rfl)) (pss_cons (ps_if (pt_val (pe_callB call_isi rfl T.z_isinstance (by decide +kernel) (pa_cons (pv 8) (pa_cons (pe_bltn (v := .ty "tuple") (u := .type "tuple") rfl T.z_tuple (by decide +kernel) rfl) pa_nil)))) (pss_one (ps_asg (pe_callH h_law_tidy_from (hr.mono (by omega)) (pa_cons (pv 8) (pa_cons (pv 1) (pa_cons (pv 2) pa_nil)))) (pg_tup rfl (pgs_cons (pg_name (i := 8) sc_law_tidy_from.nd rfl (.inl rfl)) (pgs_cons (pg_name (i := 2) sc_law_tidy_from.nd rfl (.inl rfl)) pgs_nil))))) pss_nil)
      (pss_one (ps_expr (pe_bm PySem.F.plainAttrs_list PySem.F.slot_list_append PySem.F.type_list_append mt_append (pv 7) (pa_cons (pv 8) pa_nil))))))
      (pss_one (ps_ret (pe_tup (pa_cons (pe_callTy call_tuple_of rfl T.z_tuple (by decide +kernel) (pa_cons (pv 7) pa_nil)) (pa_cons (pv 2) pa_nil))))))))), ?_⟩
    obtain ⟨a, ks, rfl, sq, ak⟩ := ht.open
    have at0 : atI (hv t.hd ++ ks) 0 = some (.str (hw t.hd)) := atI_nat (j := 0) (by rw [List.getElem?_append_left (by rcases hv_len t.hd with e | e <;> omega)]; exact hv_head _)
    refine ⟨.ref a, rfl, a, _, _, _, rfl, rfl, sq, at0, rfl, _, rfl, ?_⟩
    by_cases hvar : ∃ x, t = .leaf .var x
    · obtain ⟨x, rfl⟩ := hvar
      cases ak
      have at1 : atI (hv (F.leaf .var x).hd ++ []) 1 = some (.int x) := rfl
      have hget := DGet.k (k := Sum.inl x) hN
      rw [hnm x (List.mem_singleton.mpr rfl)] at hget
      refine (if_pos (decide_eq_true rfl)).mpr ?_
      refine ⟨.ref na, rfl, .ref a, rfl, a, _, 1, .int x, rfl, rfl, sq, at1, na, _, rfl, hget, by show 2 ≤ sizeLine; decide, fun p hp => ?_⟩
      have s1 := Same.new (o := .tup [.str "var", .int (nm x)]) hp
      refine ⟨.int c, rfl, by show 2 ≤ sizeLine; decide, fun q hq => ?_⟩
      have s2 := Same.new (o := .tup [.ref p, .int c]) hq
      exact k q (.ref p) _ (s1.trans s2) (SqT.of upd_same) (.leaf (SqT.of (s2 _ _ upd_same)))
    · refine (if_neg (by rw [decide_eq_false (var_word (hd := t.hd) fun x e => hvar ⟨x, by cases t <;> cases e; rfl⟩)]; exact Bool.false_ne_true)).mpr ?_
      refine ⟨.ref a, rfl, a, _, _, _, rfl, rfl, sq, at0, by show 2 ≤ sizeLine; decide, fun p hp => ⟨p, _, rfl, .inr (SqT.of upd_same), rfl, rfl, _, rfl, ?_⟩⟩
      rw [if_neg Bool.false_ne_true, in_binders, isB_hd]
      have s1 := Same.new (o := .tup [.str "least", .str "most"]) hp
      generalize upd H p (.tup [.str "least", .str "most"]) = H1 at s1
      have sq1 := SqT.same s1 sq
      have ak1 := ak.lk (LKp.same s1)
      have hN1 := s1 _ _ hN
      cases hb : isB t with
      | true =>
        refine iteT ?_
        obtain ⟨kd, x, f, rfl⟩ : ∃ kd x f, t = .one kd x f := by
          cases t with
          | one kd x f => exact ⟨kd, x, f, rfl⟩
          | _ => cases hb
        have hk : kd.bind = true := hb
        cases ak1 with
        | cons hf hn =>
          rename_i vf _
          cases hn
          obtain ⟨m, rfl⟩ : ∃ m, n = m + 1 := by
            cases n with
            | zero => exact absurd hdep (by have : 0 < f.depth := (by cases f <;> simp [F.depth]); simp only [F.depth]; omega)
            | succ m => exact ⟨m, rfl⟩
          have at1 : atI (hv (F.one kd x f).hd ++ [vf]) 1 = some (.int x) := rfl
          have at2 : atI (hv (F.one kd x f).hd ++ [vf]) 2 = some vf := rfl
          -- inner = {}
          intro na2 hna2
          have s2 := Same.new (o := .dK []) hna2
          have nn : na ≠ na2 := ne_of_none hN1 hna2
          refine ⟨na, _, s2 _ _ hN1, trivial, fun od => ?_⟩
          refine ⟨.ref na, rfl, na, od, rfl, .inl ⟨kvs, upd_same, ?_⟩⟩
          refine for_it (walk_keys (d := na) (o := od) (kvs := kvs)) (fun i σ G => ∃ (y4 : Option V), σ = [some (.ref a), some (.ref na), some (.int c), some (.ref na2), y4, none, none, none, none] ∧ G na = some (.frz od (.dK kvs)) ∧ G na2 = some (.dK (kvs.take i)) ∧
              ∀ b o, b ≠ na → b ≠ na2 → H1 b = some o → G b = some o)
            ⟨none, rfl, upd_same, by rw [upd_ne nn.symm, upd_same]; rfl, fun b o n1 n2 e => by rw [upd_ne n1, upd_ne n2]; exact e⟩ (fun i σ G _ ⟨_, _, g, _⟩ => g) ?_ ?_
          · rintro i x0 σ G G' hi ⟨y4, rfl, gN, gI, gK⟩ ⟨rfl, kk, vv, hkv, rfl⟩
            obtain ⟨v1, v2⟩ := valV_at hnd hkv
            refine ⟨.ref na, rfl, kV kk, rfl, na, vv, rfl, .inl ⟨kvs, kk, .inr ⟨od, gN⟩, rfl, v1.symm⟩, .ref na2, rfl, kV kk, rfl, na2, _, rfl, DPut.k (k := kk) gI (by rw [List.length_take]; exact small1000 (by omega)), ?_⟩
            refine ⟨_, rfl, by rw [upd_ne nn]; exact gN, ?_, fun b o n1 n2 e => by rw [upd_ne n2]; exact gK b o n1 n2 e⟩
            rw [upd_same, putK_new _ v2, List.take_add_one, hkv]
            rfl
          · rintro σ G ⟨y4, rfl, gN, gI, gK⟩
            rw [List.take_length] at gI
            refine ⟨gN, ?_⟩
            have s3 : Same H1 (upd G na (.dK kvs)) := fun b o e => by
              by_cases e1 : b = na
              · subst e1
                rw [hN1] at e
                cases e
                exact upd_same
              · rw [upd_ne e1]
                exact gK b o e1 (ne_of_none e hna2) e
            have gI3 : (upd G na (.dK kvs)) na2 = some (.dK kvs) := by rw [upd_ne nn.symm]; exact gI
            generalize upd G na (.dK kvs) = G3 at s3 gI3
            -- inner[statement[1]] = number
            refine ⟨.int c, rfl, .ref na2, rfl, .ref a, rfl, a, _, 1, .int x, rfl, rfl, SqT.same s3 sq1, at1, na2, _, rfl, DPut.k (k := Sum.inl x) gI3 (small1000 (by omega)), ?_⟩
            have s4 : Same H1 (upd G3 na2 (.dK (putK kvs (Sum.inl x) (.int c)))) := fun b o e => by
              rw [upd_ne (ne_of_none e hna2)]
              exact s3 b o e
            have gI4 : (upd G3 na2 (.dK (putK kvs (Sum.inl x) (.int c)))) na2 = some (.dK (putK kvs (Sum.inl x) (.int c))) := upd_same
            generalize upd G3 na2 (.dK (putK kvs (Sum.inl x) (.int c))) = G4 at s4 gI4
            have sq4 := SqT.same s4 sq1
            have lp := length_putK kvs (Sum.inl x) (.int c)
            refine ⟨.ref a, rfl, a, _, 2, vf, rfl, rfl, sq4, at2, .ref na2, rfl, .int c, rfl, c, 1, rfl, rfl, vf, f, na2, putK kvs (Sum.inl x) (.int c), c + 1, fun y => if y = x then c else nm y, rfl, hf.same s4, by simp only [F.depth] at hdep; omega, gI4, by omega, nd_put hnd, fun y hy => ?_, fun p5 v' H5 s5 sqp isf => ?_⟩
            · rw [valV_put]
              show _ = some (V.int (if y = x then c else nm y))
              by_cases e : y = x
              · rw [if_pos (by rw [e]), if_pos e]
              · rw [if_neg (fun q => e (by injection q)), if_neg e]
                refine hnm y ?_
                simp only [fv, if_pos hk, List.mem_filter, decide_eq_true_eq]
                exact ⟨hy, e⟩
            · refine ⟨p5, _, rfl, sqp, rfl, v', _, rfl, _, _, rfl, rfl, ?_⟩
              refine ⟨.ref a, rfl, a, _, _, _, rfl, rfl, SqT.same s5 sq4, at0, .int c, rfl, v', rfl, by show 3 ≤ sizeLine; decide, fun q hq => ?_⟩
              have s6 := Same.new (o := .tup [.str (hw (F.one kd x f).hd), .int c, v']) hq
              refine ⟨_, rfl, by show 2 ≤ sizeLine; decide, fun r hr => ?_⟩
              have s7 := Same.new (o := .tup [.ref q, .int (tidyF f (fun y => if y = x then c else nm y) (c + 1)).2]) hr
              have et : tidyF (.one kd x f) nm c = (.one kd c (tidyF f (fun y => if y = x then c else nm y) (c + 1)).1, (tidyF f (fun y => if y = x then c else nm y) (c + 1)).2) := by simp only [tidyF, if_pos hk]
              refine k r (.ref q) _ (s1.trans (s4.trans (s5.trans (s6.trans s7)))) ?_ ?_
              · rw [et]
                exact SqT.of upd_same
              · rw [et]
                exact .one (SqT.of (s7 _ _ upd_same)) ((isf.same s6).same s7)
      | false =>
        refine iteF ?_
        refine ⟨Nat.zero_le _, fun fo hfo => ?_⟩
        have s2 := Same.new (o := .lst []) hfo
        obtain ⟨th1, th2, th3⟩ := tidyK_kids (t := t) (nm := nm) (n := c) (fun x e => hvar ⟨x, e⟩) hb
        have lk := ak.len
        have sqf := SqT.same s2 sq1
        have hl := hv_len t.hd
        have kl := F.kids_le t
        refine ⟨.ref a, rfl, a, rfl, ⟨_, sqf⟩, for_tup (xs := hv t.hd ++ ks) (fun i σ G => ∃ (fs' : List V) (c' : Int) (y8 : Option V), σ = [some (.ref a), some (.ref na), some (.int c'), none, none, none, none, some (.ref fo), y8] ∧
            Same H1 G ∧ G fo = some (.lst ((hv t.hd).take i ++ fs')) ∧ AllF K G fs' (tidyK nm (t.kids.take (i - (hv t.hd).length)) c).1 ∧ c' = (tidyK nm (t.kids.take (i - (hv t.hd).length)) c).2)
          ⟨[], c, none, rfl, s2, by rw [upd_same]; rfl, by rw [Nat.zero_sub, List.take_zero]; exact .nil, by rw [Nat.zero_sub, List.take_zero]; rfl⟩ (fun i σ G _ ⟨_, _, _, _, sG, _⟩ => SqT.same sG sq1) ?_ ?_⟩
        · rintro i x σ G hx ⟨fs', c', y8, rfl, sG, gf, af, rfl⟩
          have il := (List.getElem?_eq_some_iff.mp hx).1
          rw [List.length_append] at il
          have aflen := af.len
          have fsz : ((hv t.hd).take i ++ fs').length < sizeLine := by
            have e1 : (tidyK nm (t.kids.take (i - (hv t.hd).length)) c).1.length ≤ 2 := by
              have : ∀ (fs : List F) (n : Int), (tidyK nm fs n).1.length = fs.length := by
                intro fs
                induction fs with
                | nil => intro n; rfl
                | cons g fs ih => intro n; simp [tidyK, ih]
              rw [this, List.length_take]
              omega
            rw [List.length_append, List.length_take]
            exact small1000 (by omega)
          by_cases lt : i < (hv t.hd).length
          · rw [List.getElem?_append_left lt] at hx
            have ty : ∃ ty : String, TyX K G x (.type ty) ∧ kitB ty "tuple" = some false := by
              rcases hv_flat (List.mem_of_getElem? hx) with ⟨s, rfl⟩ | ⟨s, rfl⟩
              · exact ⟨"str", .base (.str s), by decide +kernel⟩
              · exact ⟨"int", .base (.int s), by decide +kernel⟩
            obtain ⟨ty, ty1, ty2⟩ := ty
            refine ⟨x, rfl, x, .ty "tuple", .type ty, .type "tuple", false, rfl, .ty "tuple", ty1, kit_ty ty2, false, rfl, ?_⟩
            refine iteF ?_
            have z0 : i - (hv t.hd).length = 0 := by omega
            rw [z0, List.take_zero] at af
            have : fs' = [] := by cases af; rfl
            subst this
            refine ⟨.ref fo, rfl, .inl ⟨rfl, _, SqL.of gf⟩, x, rfl, fo, _, _, rfl, rfl, gf, fsz, ?_⟩
            have z1 : i + 1 - (hv t.hd).length = 0 := by omega
            refine ⟨[], c, _, by rw [z0, List.take_zero]; rfl, fun b o e => by rw [upd_ne (ne_of_none e hfo)]; exact sG b o e, ?_, by rw [z1, List.take_zero]; exact .nil, by rw [z1, List.take_zero]; rfl⟩
            rw [upd_same, List.take_add_one, hx]
            simp
          · rw [List.getElem?_append_right (by omega)] at hx
            obtain ⟨f, hf⟩ : ∃ f, t.kids[i - (hv t.hd).length]? = some f := ⟨t.kids[i - (hv t.hd).length]'(by omega), by simp⟩
            have fm := kid_small (List.mem_of_getElem? hf)
            obtain ⟨m, rfl⟩ : ∃ m, n = m + 1 := by
              cases n with
              | zero => exact absurd hdep (by have : 0 < f.depth := (by cases f <;> simp [F.depth]); omega)
              | succ m => exact ⟨m, rfl⟩
            have isf := (ak1.get hx hf).same sG
            refine ⟨x, rfl, x, .ty "tuple", .type "tuple", .type "tuple", true, rfl, .ty "tuple", isf.ty, kit_ty (by decide +kernel), true, rfl, ?_⟩
            refine iteT ?_
            refine ⟨x, rfl, .ref na, rfl, _, rfl, x, f, na, kvs, (tidyK nm (t.kids.take (i - (hv t.hd).length)) c).2, nm, rfl, isf, by omega, sG _ _ hN1, by omega, hnd, fun y hy => ?_, fun p5 v' H5 s5 sqp isf5 => ?_⟩
            · refine hnm y ?_
              have hm := List.mem_of_getElem? hf
              cases t with
              | nul b => cases hm
              | leaf kd z => cases hm
              | two b g1 g2 =>
                simp only [F.kids, List.mem_cons, List.not_mem_nil, or_false] at hm
                show y ∈ fv g1 ++ fv g2
                rcases hm with rfl | rfl
                · exact List.mem_append_left _ hy
                · exact List.mem_append_right _ hy
              | one kd z g =>
                simp only [F.kids, List.mem_cons, List.not_mem_nil, or_false] at hm
                subst hm
                have hk : ¬ kd.bind = true := by rw [show kd.bind = false from hb]; exact Bool.false_ne_true
                simp only [fv, if_neg hk]
                exact hy
            · refine ⟨p5, _, rfl, sqp, rfl, v', _, rfl, _, _, rfl, rfl, ?_⟩
              have gf5 := s5 _ _ gf
              refine ⟨.ref fo, rfl, .inl ⟨rfl, _, SqL.of gf5⟩, v', rfl, fo, _, _, rfl, rfl, gf5, fsz, ?_⟩
              have lk6 : LKp H5 (upd H5 fo (.lst ((hv t.hd).take i ++ fs' ++ [v']))) := LKp.upd gf5
              have e1 : i + 1 - (hv t.hd).length = (i - (hv t.hd).length) + 1 := by omega
              have e2 : t.kids.take (i + 1 - (hv t.hd).length) = t.kids.take (i - (hv t.hd).length) ++ [f] := by rw [e1, List.take_add_one, hf]; rfl
              refine ⟨fs' ++ [v'], (tidyF f nm (tidyK nm (t.kids.take (i - (hv t.hd).length)) c).2).2, _, rfl, fun b o e => by rw [upd_ne (ne_of_none e hfo)]; exact s5 _ _ (sG b o e), ?_, ?_, ?_⟩
              · rw [upd_same, List.take_of_length_le (i := i) (by omega), List.take_of_length_le (i := i + 1) (by omega), List.append_assoc]
              · rw [e2, tidyK_snoc]
                exact ((af.lk (LKp.same s5)).lk lk6).snoc (isf5.lk lk6)
              · rw [e2, tidyK_snoc]
        · rintro σ G ⟨fs', c', y8, rfl, sG, gf, af, rfl⟩
          rw [List.length_append, show (hv t.hd).length + ks.length - (hv t.hd).length = ks.length by omega, lk, List.take_length] at af
          rw [List.length_append, List.take_of_length_le (by omega)] at gf
          have ec : (tidyK nm (t.kids.take ((hv t.hd ++ ks).length - (hv t.hd).length)) c).2 = (tidyF t nm c).2 := by
            rw [List.length_append, show (hv t.hd).length + ks.length - (hv t.hd).length = ks.length by omega, lk, List.take_length, th3]
          rw [ec]
          refine ⟨.ref fo, rfl, fo, _, rfl, .inl ⟨SqL.of gf, fun tp htp => ?_⟩⟩
          have s5 := Same.new (o := .tup (hv t.hd ++ fs')) htp
          refine ⟨_, rfl, by show 2 ≤ sizeLine; decide, fun q hq => ?_⟩
          have s6 := Same.new (o := .tup [.ref tp, .int (tidyF t nm c).2]) hq
          refine k q (.ref tp) _ (s1.trans (sG.trans (s5.trans s6))) (SqT.of upd_same) ?_
          refine IsF.close (ks := fs') (SqT.of (s6 _ _ ?_)) ?_
          · rw [upd_same, th1]
          · rw [th2]
            exact (af.lk (LKp.same s5)).lk (LKp.same s6)
end
end Fw

set_option maxRecDepth 100000
set_option maxHeartbeats 4000000
namespace Fw
open PySem PySem.Spec PyProof.Rows L2
section
variable {P : Program} {w : World} {K : PySem.W.Frag} {mg : Str → Option Value} {base : Heap} {C J B NC FE : Addr}
theorem all_tidy_from {f : Addr} {fd : FuncData} (FF : Fun K "_law_tidy_from" "_law_tidy_from" s_law_tidy_from f fd) (b : Binds K fd a_law_tidy_from []) (m : mg "_law_tidy_from" = some (.ref f)) (T : Txt K mg C J B) : ∀ n, Has P w K mg base "_law_tidy_from" (n + 1) a_law_tidy_from (spTf K n)
  | 0 => ⟨f, fd, m, FF.kp, b, noneOk⟩
  | n + 1 => ⟨f, fd, m, FF.kp, b, ok_law_tidy_from n FF T (all_tidy_from FF b m T n)⟩
def spLTidy (K : PySem.W.Frag) : Sp := fun vs H Q _ => ∃ (v : V) (t : F), vs = [v] ∧ IsF K H v t ∧ t.depth ≤ 20 ∧ Closed t ∧ ∀ v' H', Same H H' → IsF K H' v' (tidyF t nm0 0).1 → Q v' H'
theorem ok_law_tidy {f : Addr} {fd : FuncData} (FF : Fun K "_law_tidy" "_law_tidy" s_law_tidy f fd) (h_law_tidy_from : Has P w K mg base "_law_tidy_from" 21 a_law_tidy_from (spTf K 20)) : FnOk P w K mg base CX0 22 f fd a_law_tidy (spLTidy K) := by
  refine FF.ok sc_law_tidy (fun vs H Q E h => ?_) (fun cdv A outer s H vs Q E hr h => ?_)
  · obtain ⟨v, t, rfl, _⟩ := h
    rfl
  · obtain ⟨v, t, rfl, ht, hdep, hc, k⟩ := h
    refine ⟨_, (pss_one (ps_ret (pe_ix ix_tup (pe_callH h_law_tidy_from (hr.mono (by omega)) (pa_cons (pv 0) (pa_cons pe_dnewK (pa_cons pe_int pa_nil)))) pe_int (fun _ _ => rfl)))), ?_⟩
    refine ⟨v, rfl, fun na hna => ⟨v, t, na, [], 0, nm0, rfl, ht.same (Same.new hna), hdep, upd_same, by simp, List.nodup_nil, fun x hx => ?_, fun p v' H' s' sqp isf => ?_⟩⟩
    · rw [closed_fv.mpr hc] at hx
      cases hx
    · exact ⟨p, _, 0, v', rfl, rfl, sqp, rfl, k v' H' ((Same.new hna).trans s') isf⟩
end
end Fw

set_option maxRecDepth 100000
set_option maxHeartbeats 4000000
namespace Fw
open PySem PySem.Spec PyProof.Rows L2
abbrev rLenS (K : PySem.W.Frag) : List V → Hp → VK → Prop := fun xs H Q => ∃ p ys, xs = [.ref p] ∧ (SqL K H p ys ∨ SqT K H p ys) ∧ Q (.int ys.length) H
section
variable {P : Program} {w : World} {K : PySem.W.Frag} {mg : Str → Option Value} {base : Heap} {C J B NC FE OD : Addr}
def spIsInt : Sp := fun vs H Q _ => ∃ n : Int, vs = [.int n] ∧ Q (.bl true) H
def spSz (K : PySem.W.Frag) : Nat → Sp
  | 0 => fun _ _ _ _ => False
  | n + 1 => fun vs H Q _ => ∃ (v : V) (t : F), vs = [v] ∧ IsF K H v t ∧ t.depth ≤ n + 1 ∧ ∀ H', Same H H' → Q (.int (t.size : Nat)) H'
theorem kids_size (t : F) : (t.kids.map F.size).sum + 1 = t.size := by cases t <;> simp [F.kids, F.size]
theorem sum_cast : ∀ l : List Nat, (l.map fun (n : Nat) => (n : Int)).sum = (l.sum : Nat)
  | [] => rfl
  | a :: l => by simp [sum_cast l]
theorem ok_law_size {f : Addr} {fd : FuncData} (n : Nat) (FF : Fun K "_law_size" "_law_size" s_law_size f fd) (T : Txt K mg C J B) (h_law_inner : Has P w K mg base "_law_inner" 1 a_law_inner (spInner K))
    (h_law_size : Has P w K mg base "_law_size" (n + 1) a_law_size (spSz K n)) : FnOk P w K mg base CX0 (n + 2) f fd a_law_size (spSz K (n + 1)) := by
  refine FF.ok sc_law_size (fun vs H Q E h => ?_) (fun cdv A outer s H vs Q E hr h => ?_)
  · obtain ⟨v, t, rfl, _⟩ := h
    rfl
  · obtain ⟨v, t, rfl, ht, hdep, k⟩ := h
    refine ⟨_, (pss_one (ps_ret (pe_op op_add pe_int (pe_callB (cr_sum rfl) rfl T.z_sum (by decide +kernel) (pa_cons (pe_lc (own := [("part", 1)]) (g := gName 1) rfl sc_law_size.nd (pi_list (pe_callH h_law_inner (hr.mono (by omega)) (pa_cons (pv 0) pa_nil))) (blkOk_by (own := [("part", 1)]) (N := n_law_size) (sc := defScope s_law_size) (by decide +kernel)) (fun _ _ _ _ _ => (pg_name (i := 1) sc_law_size.nd rfl (.inl rfl))) (fun _ _ _ _ _ => pts_nil) (fun _ _ _ _ _ => (pe_callH h_law_size (hr.mono (by omega)) (pa_cons (pv 1) pa_nil)))) pa_nil))))), ?_⟩
    refine ⟨v, rfl, v, t, rfl, ht, fun l ks H1 s1 hl ak => ⟨l, rfl, ⟨_, SqL.of hl⟩, fun D hD => ?_⟩⟩
    have kl := F.kids_le t
    have al := ak.len
    refine lc_list (xs := ks) (fun i G => Same H1 G ∧ IL G D ((t.kids.take i).map fun f => (f.size : Int))) ⟨Same.new hD, by show _ = _; rw [upd_same]; rfl⟩ (fun i G _ q => SqL.of (q.1 _ _ hl)) ?_ ?_
    · rintro i x G hx ⟨sG, gD⟩
      have il := (List.getElem?_eq_some_iff.mp hx).1
      obtain ⟨f, hf⟩ : ∃ f, t.kids[i]? = some f := ⟨t.kids[i]'(by omega), by simp⟩
      have fm := kid_small (List.mem_of_getElem? hf)
      obtain ⟨m, rfl⟩ : ∃ m, n = m + 1 := by
        cases n with
        | zero => exact absurd hdep (by have : 0 < f.depth := (by cases f <;> simp [F.depth]); omega)
        | succ m => exact ⟨m, rfl⟩
      refine ⟨rfl, x, rfl, x, f, rfl, (ak.get hx hf).same sG, by omega, fun H5 s5 => ⟨_, s5 _ _ gD, ?_, fun b o e => by rw [upd_ne (ne_of_none e hD)]; exact s5 _ _ (sG b o e), ?_⟩⟩
      · rw [List.length_map, List.length_map, List.length_take]
        exact small1000 (by omega)
      · show _ = _
        rw [upd_same, List.take_add_one, hf, Option.toList_some, List.map_append, List.map_append]
        rfl
    · rintro G ⟨sG, gD⟩
      rw [al, List.take_length] at gD
      refine ⟨D, _, rfl, SqL.of gD, 1, _, rfl, rfl, ?_⟩
      have e : (1 : Int) + (t.kids.map fun f => (f.size : Int)).sum = (t.size : Nat) := by
        have h1 := sum_cast (t.kids.map F.size)
        rw [List.map_map] at h1
        have h2 := kids_size t
        rw [show (t.kids.map fun f => (f.size : Int)) = t.kids.map ((fun n : Nat => (n : Int)) ∘ F.size) from rfl, h1]
        omega
      show Q (V.int (1 + _)) G
      rw [e]
      exact k G (s1.trans sG)
theorem all_size {f : Addr} {fd : FuncData} (FF : Fun K "_law_size" "_law_size" s_law_size f fd) (b : Binds K fd a_law_size []) (m : mg "_law_size" = some (.ref f)) (T : Txt K mg C J B)
    (h_law_inner : Has P w K mg base "_law_inner" 1 a_law_inner (spInner K)) : ∀ n, Has P w K mg base "_law_size" (n + 1) a_law_size (spSz K n)
  | 0 => ⟨f, fd, m, FF.kp, b, noneOk⟩
  | n + 1 => ⟨f, fd, m, FF.kp, b, ok_law_size n FF T h_law_inner (all_size FF b m T h_law_inner n)⟩
/-! ### is it a statement -/
def NN : F → Prop
  | .nul _ => True
  | .leaf _ n => 0 ≤ n
  | .two _ f g => NN f ∧ NN g
  | .one _ n f => 0 ≤ n ∧ NN f
theorem NN.kid {t f : F} (h : NN t) (hf : f ∈ t.kids) : NN f := by
  cases t with
  | nul b => cases hf
  | leaf k n => cases hf
  | two b x y =>
    simp only [F.kids, List.mem_cons, List.not_mem_nil, or_false] at hf
    rcases hf with rfl | rfl
    · exact h.1
    · exact h.2
  | one k n x =>
    simp only [F.kids, List.mem_cons, List.not_mem_nil, or_false] at hf
    subst hf
    exact h.2
def arity : Hd → Int
  | .nul _ => 1
  | .leaf _ _ => 2
  | .two _ => 3
  | .one _ _ => 3
def isNum : Hd → Bool
  | .leaf _ _ => true
  | .one _ _ => true
  | _ => false
theorem in_seven (h : Hd) : inV (.str (hw h)) [.str "has", .str "lacks", .str "var", .str "some", .str "all", .str "least", .str "most"] = isNum h := by
  cases h with
  | nul b => cases b <;> rfl
  | leaf k n => cases k <;> rfl
  | two b => cases b <;> rfl
  | one k n => cases k <;> rfl
abbrev sizesK : List (Key × V) := mergeK [] [(Sum.inr "true", V.int 1), (Sum.inr "false", V.int 1), (Sum.inr "has", V.int 2), (Sum.inr "lacks", V.int 2), (Sum.inr "var", V.int 2), (Sum.inr "and", V.int 3), (Sum.inr "or", V.int 3), (Sum.inr "some", V.int 3), (Sum.inr "all", V.int 3), (Sum.inr "least", V.int 3), (Sum.inr "most", V.int 3)]
theorem sizes_at (h : Hd) : valV sizesK (Sum.inr (hw h)) = some (.int (arity h)) := by
  cases h with
  | nul b => cases b <;> rfl
  | leaf k n => cases k <;> rfl
  | two b => cases b <;> rfl
  | one k n => cases k <;> rfl
def spIs (K : PySem.W.Frag) : Nat → Sp
  | 0 => fun _ _ _ _ => False
  | n + 1 => fun vs H Q _ => ∃ (v : V) (t : F) (d : Int), vs = [v, .int d] ∧ IsF K H v t ∧ t.depth ≤ n + 1 ∧ (t.depth : Int) ≤ d ∧ NN t ∧ ∀ H', Same H H' → Q (.bl true) H'
end
end Fw

set_option maxRecDepth 100000
set_option maxHeartbeats 4000000
namespace Fw
open PySem PySem.Spec PyProof.Rows L2
theorem pe_makeH0 {X : Cx} {x : Str} {C : Addr} {k : Nat} {ps : List Str} {sp : Sp} {p pos : Pos} (h : HasC X.prog X.w X.K X.mg X.base x C k ps sp) (hr : Room (k + 1) X.A) (hg : Gl X x := by rfl)
    (hdb : (x == ("__debug__" : Str)) = false := by decide) :
    PE X (.Call (.Name x p) [] [] pos) (tMake C sp [] E0 tNil) := by
  obtain ⟨f, fd, m, M, b, G⟩ := h
  exact pe_make0 M G hr hg m b .nil pass0 hdb
theorem isB_hdS (s : F) : isBH s.hd = isB s := by cases s <;> rfl
theorem lc_filS {K : PySem.W.Frag} {la : Addr} {X : List Int} {g : TG} {tt : TT} {te : TE} {vs : List Nat} {σ : L2.St} {H0 : Hp} {D : Addr} {Qd : Hp → Prop} (p : Int → Bool)
    (hl : IL H0 la X) (hD : H0 D = none) (hX : X.length ≤ 200)
    (hs : ∀ x ∈ X, ∀ (G : Hp) (Y : VK) (N : Hp → Prop), Same H0 G → (p x = true → ∀ G', Same G G' → Y (.int x) G') → (p x = false → ∀ G', Same G G' → N G') →
      g (.int x) (wipe σ vs) G fun σ2 H2 => wipe σ2 vs = wipe σ vs ∧ tt σ2 H2 fun b H3 => if b = true then te σ2 H3 Y else N H3)
    (hd : ∀ G, Same H0 G → IL G D (X.filter p) → Qd G) :
    ∃ Wm : Nat → Nat → Hp → Prop, (∃ k, Wm 0 k (upd H0 D (.lst []))) ∧ ∀ i k G, Wm i k G →
      ((Itl K la).stop i G ∧ Qd G) ∨
      ((Itl K la).go i G ∧ ∃ Nn : Hp → Prop, (∀ G', Nn G' → ∃ k', k' < k ∧ Wm (i + 1) k' G') ∧ ∀ x G', (Itl K la).yld i G x G' →
        g x (wipe σ vs) G' fun σ2 G2 => wipe σ2 vs = wipe σ vs ∧ tt σ2 G2 fun b G3 =>
          if b = true then te σ2 G3 fun y G4 => ∃ ys, G4 D = some (.lst ys) ∧ ys.length < sizeLine ∧ Nn (upd G4 D (.lst (ys ++ [y])))
          else Nn G3) := by
  refine lc_list (xs := X.map V.int) (fun i G => Same H0 G ∧ IL G D ((X.take i).filter p)) ⟨Same.new hD, upd_same⟩ (fun i G _ q => SqL.of (q.1 _ _ hl)) ?_ ?_
  · rintro i y G hy ⟨sG, gD⟩
    obtain ⟨x, hx, rfl⟩ : ∃ x, X[i]? = some x ∧ V.int x = y := by
      rw [List.getElem?_map] at hy
      cases e : X[i]? with
      | none => rw [e] at hy; cases hy
      | some x => rw [e] at hy; exact ⟨x, rfl, Option.some.inj hy⟩
    have nx : X.take (i + 1) = X.take i ++ [x] := by rw [List.take_add_one, hx]; rfl
    have sz : ((X.take i).filter p).length ≤ 200 := by
      refine Nat.le_trans (List.length_filter_le _ _) ?_
      rw [List.length_take]
      omega
    refine hs x (List.mem_of_getElem? hx) G _ _ sG (fun c G' s' => ⟨_, s' _ _ gD, by rw [List.length_map]; exact small1000 (by omega), fun b o e => by rw [upd_ne (ne_of_none e hD)]; exact s' _ _ (sG b o e), ?_⟩) (fun c G' s' => ⟨sG.trans s', ?_⟩)
    · show _ = _
      rw [upd_same, nx, List.filter_append, List.map_append, List.filter_cons_of_pos c]
      rfl
    · rw [nx, List.filter_append, List.filter_cons_of_neg (by rw [c]; exact Bool.false_ne_true)]
      rw [show List.filter p [] = [] from rfl, List.append_nil]
      exact s' _ _ gD
  · rintro G ⟨sG, gD⟩
    rw [List.length_map, List.take_length] at gD
    exact hd G sG gD
/-! ### words -/
abbrev words : List Str := ["true", "false", "has", "lacks", "var", "and", "or", "some", "all", "least", "most"]
def wcode : Hd → Nat
  | .nul true => 0
  | .nul false => 1
  | .leaf .has _ => 2
  | .leaf .lacks _ => 3
  | .leaf .var _ => 4
  | .two true => 5
  | .two false => 6
  | .one .some _ => 7
  | .one .all _ => 8
  | .one .least _ => 9
  | .one .most _ => 10
theorem words_at (h : Hd) : words[wcode h]? = some (hw h) := by
  cases h with
  | nul b => cases b <;> rfl
  | leaf k n => cases k <;> rfl
  | two b => cases b <;> rfl
  | one k n => cases k <;> rfl
theorem words_nodup : words.Nodup := by decide +kernel
theorem wcode_lt (h : Hd) : wcode h < 11 := (List.getElem?_eq_some_iff.mp (words_at h)).1
theorem hw_code {a b : Hd} (e : hw a = hw b) : wcode a = wcode b :=
  (List.getElem?_inj (wcode_lt a) words_nodup).mp (by rw [words_at, words_at, e])
def hnum : Hd → Option Int
  | .leaf _ n => some n
  | .one _ n => some n
  | _ => none
theorem hd_of {a b : Hd} (e : wcode a = wcode b) (n : hnum a = hnum b) : a = b := by
  cases a with
  | nul x => cases b with
    | nul y => cases x <;> cases y <;> first | rfl | cases e
    | leaf k m => cases x <;> cases k <;> cases e
    | two y => cases x <;> cases y <;> cases e
    | one k m => cases x <;> cases k <;> cases e
  | leaf k m => cases b with
    | nul y => cases k <;> cases y <;> cases e
    | leaf k' m' =>
      obtain rfl : m = m' := Option.some.inj n
      cases k <;> cases k' <;> first | rfl | cases e
    | two y => cases k <;> cases y <;> cases e
    | one k' m' => cases k <;> cases k' <;> cases e
  | two x => cases b with
    | nul y => cases x <;> cases y <;> cases e
    | leaf k m => cases x <;> cases k <;> cases e
    | two y => cases x <;> cases y <;> first | rfl | cases e
    | one k m => cases x <;> cases k <;> cases e
  | one k m => cases b with
    | nul y => cases k <;> cases y <;> cases e
    | leaf k' m' => cases k <;> cases k' <;> cases e
    | two y => cases k <;> cases y <;> cases e
    | one k' m' =>
      obtain rfl : m = m' := Option.some.inj n
      cases k <;> cases k' <;> first | rfl | cases e
def hdK : Hd → List NestedKey
  | .nul b => [.text (wN b)]
  | .leaf k n => [.text (wL k), .num n]
  | .two b => [.text (wT b)]
  | .one k n => [.text (wO k), .num n]
theorem hdK_inj {a b : Hd} (e : hdK a = hdK b) : a = b := by
  have e0 : hw a = hw b := by
    have z : ∀ h : Hd, (hdK h)[0]? = some (.text (hw h)) := fun h => by cases h <;> rfl
    have := z a
    rw [e, z b] at this
    exact (NestedKey.text.inj (Option.some.inj this)).symm
  have e1 : hnum a = hnum b := by
    have z : ∀ h : Hd, (hdK h)[1]? = (hnum h).map NestedKey.num := fun h => by cases h <;> rfl
    have := z a
    rw [e, z b] at this
    cases ha : hnum a with
    | none => cases hb : hnum b with
      | none => rfl
      | some m => rw [ha, hb] at this; cases this
    | some n => cases hb : hnum b with
      | none => rw [ha, hb] at this; cases this
      | some m =>
        rw [ha, hb] at this
        rw [NestedKey.num.inj (Option.some.inj this)]
  exact hd_of (hw_code e0) e1
/-! ### places -/
def ix : List F → F → Nat
  | [], _ => 0
  | a :: l, u => if a = u then 0 else ix l u + 1
theorem ix_get : ∀ {S : List F} {u : F}, u ∈ S → S[ix S u]? = some u
  | a :: l, u, h => by
    simp only [ix]
    split
    · rename_i e
      rw [e]
      rfl
    · rename_i e
      rw [List.getElem?_cons_succ]
      exact ix_get ((List.mem_cons.mp h).resolve_left fun z => e z.symm)
theorem ix_lt {S : List F} {u : F} (h : u ∈ S) : ix S u < S.length := (List.getElem?_eq_some_iff.mp (ix_get h)).1
theorem ix_inj {S : List F} {u v : F} (hu : u ∈ S) (hv : v ∈ S) (e : ix S u = ix S v) : u = v := by
  have := ix_get hu
  rw [e, ix_get hv] at this
  exact (Option.some.inj this).symm
theorem ix_of {S : List F} {i : Nat} {u : F} (nd : S.Nodup) (h : S[i]? = some u) : ix S u = i :=
  (List.getElem?_inj (ix_lt (List.mem_of_getElem? h)) nd).mp (by rw [ix_get (List.mem_of_getElem? h), h])
theorem ix_app {T : List F} : ∀ {S : List F} {u : F}, u ∈ S → ix (S ++ T) u = ix S u
  | a :: l, u, h => by
    simp only [List.cons_append, ix]
    split
    · rfl
    · rename_i e
      rw [ix_app ((List.mem_cons.mp h).resolve_left fun z => e z.symm)]
theorem ix_new : ∀ {S : List F} {t : F}, t ∉ S → ix (S ++ [t]) t = S.length
  | [], t, _ => by simp [ix]
  | a :: l, t, h => by
    simp only [List.cons_append, ix, List.length_cons]
    rw [if_neg fun e => h (by rw [e]; exact List.mem_cons_self), ix_new fun z => h (List.mem_cons_of_mem _ z)]
def kyF (S : List F) (t : F) : NestedKey := .tup [.tup (hdK t.hd), .tup (t.kids.map fun u => .num (ix S u : Nat))]
theorem kyF_app {S T : List F} {t : F} (h : ∀ u ∈ t.kids, u ∈ S) : kyF (S ++ T) t = kyF S t := by
  unfold kyF
  have : (t.kids.map fun u => NestedKey.num (ix (S ++ T) u : Nat)) = t.kids.map fun u => NestedKey.num (ix S u : Nat) := List.map_congr_left fun u hu => by rw [ix_app (h u hu)]
  rw [this]
theorem f_of {t u : F} (h : t.hd = u.hd) (k : t.kids = u.kids) : t = u := by
  cases t <;> cases u <;> simp only [F.hd, F.kids, Hd.nul.injEq, Hd.leaf.injEq, Hd.two.injEq, Hd.one.injEq, List.cons.injEq, and_true, reduceCtorEq] at h k <;> simp_all
theorem kyF_inj {S : List F} {t u : F} (ht : ∀ x ∈ t.kids, x ∈ S) (hu : ∀ x ∈ u.kids, x ∈ S) (e : kyF S t = kyF S u) : t = u := by
  unfold kyF at e
  injection e with e
  injection e with e1 e
  injection e with e2 _
  injection e1 with e1
  injection e2 with e2
  refine f_of (hdK_inj e1) ?_
  have : ∀ (l m : List F), (∀ x ∈ l, x ∈ S) → (∀ x ∈ m, x ∈ S) → (l.map fun u => NestedKey.num (ix S u : Nat)) = (m.map fun u => NestedKey.num (ix S u : Nat)) → l = m := by
    intro l
    induction l with
    | nil => intro m _ _ q; cases m with
      | nil => rfl
      | cons _ _ => cases q
    | cons a l ih => intro m hl hm q; cases m with
      | nil => cases q
      | cons b m =>
        rw [List.map_cons, List.map_cons] at q
        injection q with q1 q2
        injection q1 with q1
        rw [ix_inj (hl a List.mem_cons_self) (hm b List.mem_cons_self) (by omega), ih m (fun x hx => hl x (List.mem_cons_of_mem _ hx)) (fun x hx => hm x (List.mem_cons_of_mem _ hx)) q2]
  exact this _ _ ht hu e2
theorem nums_deep : ∀ l : List F, ∀ S, NestedKey.depthAll (l.map fun u => NestedKey.num (ix S u : Nat)) = 0
  | [], _ => by simp [NestedKey.depthAll]
  | a :: l, S => by simp [NestedKey.depthAll, NestedKey.depth, nums_deep l S]
theorem hdK_deep (h : Hd) : NestedKey.depthAll (hdK h) = 0 := by cases h <;> simp [hdK, NestedKey.depthAll, NestedKey.depth]
theorem kyF_deep (S : List F) (t : F) : (kyF S t).depth ≤ 8 := by
  simp only [kyF, NestedKey.depth, NestedKey.depthAll, nums_deep, hdK_deep]
  decide
theorem kis_hd {K : PySem.W.Frag} {H : Hp} {a : Addr} (h : Hd) (s : SqT K H a (hv h)) : KIs K H (.ref a) (.tup (hdK h)) := by
  cases h with
  | nul b => exact .tup s (.cons (.str _) .nil)
  | leaf k n => exact .tup s (.cons (.str _) (.cons (.int _) .nil))
  | two b => exact .tup s (.cons (.str _) .nil)
  | one k n => exact .tup s (.cons (.str _) (.cons (.int _) .nil))
theorem kall_ints {K : PySem.W.Frag} {H : Hp} (S : List F) : ∀ l : List F, KAll K H (l.map fun u => V.int (ix S u : Nat)) (l.map fun u => NestedKey.num (ix S u : Nat))
  | [] => .nil
  | a :: l => .cons (.int _) (kall_ints S l)
theorem kis_key {K : PySem.W.Frag} {H : Hp} {q h i : Addr} {S : List F} {t : F} (sq : SqT K H q [.ref h, .ref i]) (sh : SqT K H h (hv t.hd)) (si : SqT K H i (t.kids.map fun u => V.int (ix S u : Nat))) : KIs K H (.ref q) (kyF S t) :=
  .tup sq (.cons (kis_hd _ sh) (.cons (.tup si (kall_ints S _)) .nil))
/-! ### the shelf -/
structure TxtS (K : PySem.W.Frag) (SC : Addr) : Prop where
  cl : Cls K SC
  nH : NoAttr K SC "heads"
  nI : NoAttr K SC "inner"
  nF : NoAttr K SC "free"
  nS : NoAttr K SC "statements"
  nN : NoAttr K SC "_numbers"
structure SR where
  (p dx ha ia fa sa na : Addr)
def sf (r : SR) : List (Str × V) := [("heads", .ref r.ha), ("inner", .ref r.ia), ("free", .ref r.fa), ("statements", .ref r.sa), ("_numbers", .ref r.na)]
def SR.Own (r : SR) (b : Addr) : Prop := b = r.ha ∨ b = r.ia ∨ b = r.fa ∨ b = r.sa ∨ b = r.na
structure Er where
  (h i f : Addr)
  v : V
def FreAt (K : PySem.W.Frag) (H : Hp) (f : Addr) (t : F) : Prop := ∃ L : List Int, SqT K H f (L.map V.int) ∧ (∀ x, x ∈ L ↔ x ∈ fv t) ∧ L.length ≤ 63
structure Ent (K : PySem.W.Frag) (H : Hp) (S : List F) (t : F) (e : Er) : Prop where
  hd : SqT K H e.h (hv t.hd)
  inn : SqT K H e.i (t.kids.map fun u => V.int (ix S u : Nat))
  fre : FreAt K H e.f t
  st : IsF K H e.v t
structure Sh (P : Program) (w : World) (K : PySem.W.Frag) (SC : Addr) (H : Hp) (r : SR) (S : List F) : Prop where
  obj : H r.p = some (.ins SC r.dx (sf r))
  nd : S.Nodup
  cl : ∀ t ∈ S, ∀ u ∈ t.kids, u ∈ S
  ord : ∀ t ∈ S, ∀ u ∈ t.kids, ix S u < ix S t
  ne : r.ha ≠ r.ia ∧ r.ha ≠ r.fa ∧ r.ha ≠ r.sa ∧ r.ia ≠ r.fa ∧ r.ia ≠ r.sa ∧ r.fa ≠ r.sa
  ents : ∃ E : List Er, H r.ha = some (.lst (E.map fun e => V.ref e.h)) ∧ H r.ia = some (.lst (E.map fun e => V.ref e.i)) ∧ H r.fa = some (.lst (E.map fun e => V.ref e.f)) ∧ H r.sa = some (.lst (E.map fun e => e.v)) ∧
    E.length = S.length ∧ ∀ (i : Nat) (t : F) (e : Er), S[i]? = some t → E[i]? = some e → Ent K H S t e
  nums : ∃ kvs, H r.na = some (DNs P w r.na kvs) ∧ KeysOk K H kvs ∧ kvs.length = S.length ∧ ∀ k v, valN kvs k = some v ↔ ∃ (i : Nat) (t : F), S[i]? = some t ∧ k = kyF S t ∧ v = .int (i : Nat)
def Kx (r : SR) (H H' : Hp) : Prop := ∀ b o, ¬ r.Own b → H b = some o → H' b = some o
theorem Kx.refl (r : SR) (H : Hp) : Kx r H H := fun _ _ _ h => h
theorem Kx.trans {r : SR} {H H1 H2 : Hp} (a : Kx r H H1) (b : Kx r H1 H2) : Kx r H H2 := fun c o n h => b c o n (a c o n h)
theorem Kx.same {r : SR} {H H' : Hp} (s : Same H H') : Kx r H H' := fun b o _ h => s b o h
theorem Kx.put {r : SR} {H H' : Hp} {d : Addr} {o : HO} (k : Kx r H H') (h : r.Own d) : Kx r H (upd H' d o) := fun b u n e => by
  have nb : b ≠ d := fun z => n (by rw [z]; exact h)
  rw [upd_ne nb]
  exact k b u n e
theorem KeysOk.tk {K : PySem.W.Frag} {H H' : Hp} {kvs : List NK} (k : TKp K H H') (h : KeysOk K H kvs) : KeysOk K H' kvs := fun e he => ⟨(h e he).1.map k, (h e he).2⟩
theorem FreAt.tk {K : PySem.W.Frag} {H H' : Hp} {f : Addr} {t : F} (k : TKp K H H') (h : FreAt K H f t) : FreAt K H' f t := by
  obtain ⟨L, h1, h2⟩ := h
  exact ⟨L, k _ _ h1, h2⟩
theorem Ent.tk {K : PySem.W.Frag} {H H' : Hp} {S : List F} {t : F} {e : Er} (k : TKp K H H') (h : Ent K H S t e) : Ent K H' S t e := ⟨k _ _ h.hd, k _ _ h.inn, h.fre.tk k, h.st.map k⟩
theorem Ent.app {K : PySem.W.Frag} {H : Hp} {S T : List F} {t : F} {e : Er} (c : ∀ u ∈ t.kids, u ∈ S) (h : Ent K H S t e) : Ent K H (S ++ T) t e := ⟨h.hd, by
  have : (t.kids.map fun u => V.int (ix (S ++ T) u : Nat)) = t.kids.map fun u => V.int (ix S u : Nat) := List.map_congr_left fun u hu => by rw [ix_app (c u hu)]
  rw [this]
  exact h.inn, h.fre, h.st⟩
theorem Sh.keep {P : Program} {w : World} {K : PySem.W.Frag} {SC : Addr} {H H' : Hp} {r : SR} {S : List F} (k : ∀ b o, (r.Own b ∨ b = r.p) → H b = some o → H' b = some o) (t : TKp K H H') (h : Sh P w K SC H r S) : Sh P w K SC H' r S := by
  obtain ⟨obj, nd, cl, ord, ne, ⟨E, h1, h2, h3, h4, h5, h6⟩, ⟨kvs, g1, g2, g3, g4⟩⟩ := h
  exact ⟨k _ _ (.inr rfl) obj, nd, cl, ord, ne, ⟨E, k _ _ (.inl (.inl rfl)) h1, k _ _ (.inl (.inr (.inl rfl))) h2, k _ _ (.inl (.inr (.inr (.inl rfl)))) h3, k _ _ (.inl (.inr (.inr (.inr (.inl rfl))))) h4, h5, fun i t' e e1 e2 => (h6 i t' e e1 e2).tk t⟩,
    ⟨kvs, k _ _ (.inl (.inr (.inr (.inr (.inr rfl))))) g1, g2.tk t, g3, g4⟩⟩
theorem TKp.same {K : PySem.W.Frag} {H H' : Hp} (s : Same H H') : TKp K H H' := fun _ _ h => SqT.same s h
theorem Sh.same {P : Program} {w : World} {K : PySem.W.Frag} {SC : Addr} {H H' : Hp} {r : SR} {S : List F} (s : Same H H') (h : Sh P w K SC H r S) : Sh P w K SC H' r S := h.keep (fun b o _ e => s b o e) (.same s)
section
variable {P : Program} {w : World} {K : PySem.W.Frag} {mg : Str → Option Value} {base : Heap} {C J B SC HC STP : Addr}
/-! ### _free_in -/
def spFreS (K : PySem.W.Frag) (SC : Addr) : Sp := fun vs H Q _ => ∃ (r : SR) (h i : Addr) (S : List F) (E : List Er) (t : F), vs = [.ref r.p, .ref h, .ref i] ∧ H r.p = some (.ins SC r.dx (sf r)) ∧ H r.fa = some (.lst (E.map fun e => V.ref e.f)) ∧ E.length = S.length ∧
  (∀ (j : Nat) (u : F) (e : Er), S[j]? = some u → E[j]? = some e → FreAt K H e.f u) ∧ SqT K H h (hv t.hd) ∧ SqT K H i (t.kids.map fun u => V.int (ix S u : Nat)) ∧ (∀ u ∈ t.kids, u ∈ S) ∧ (∃ Vs : List Int, (∀ x ∈ fv t, x ∈ Vs) ∧ Vs.length ≤ 63) ∧
  ∀ f H', Same H H' → FreAt K H' f t → Q (.ref f) H'
theorem sum_take {l : List F} {i : Nat} {u : F} (h : l[i]? = some u) : ((l.take (i + 1)).map F.size).sum = ((l.take i).map F.size).sum + u.size := by
  rw [List.take_add_one, h]
  simp
theorem ok_free_in {f : Addr} {fd : FuncData} (FF : Fun K "_free_in" "Shelf._free_in" s_Shelf__free_in f fd) (T : Txt K mg C J B) (TS : TxtS K SC) : FnOk P w K mg base CX0 1 f fd a_Shelf__free_in (spFreS K SC) := by
  refine FF.ok sc_Shelf__free_in (fun vs H Q E h => ?_) (fun cdv A outer s H vs Q E hr h => ?_)
  · obtain ⟨r, h, i, S, E, t, rfl, _⟩ := h
    rfl
  · obtain ⟨r, h, i, S, E, t, rfl, hp, hfa, hE, hfre, hh, hi, hk, ⟨Vs, hV, hVl⟩, k⟩ := h
    refine ⟨_, (pss_cons (ps_setLc2 (i := 3) (own := [("at", 4), ("variable", 5)]) (vs1 := [5]) rfl sc_Shelf__free_in.nd rfl rfl (sw_true rfl rfl rfl (by decide +kernel)) (pi_tup (pv 2)) (blkOk_by (own := [("at", 4), ("variable", 5)]) (N := n_Shelf__free_in) (sc := defScope s_Shelf__free_in) (by decide +kernel)) (by decide) (fun _ _ _ _ _ => (pg_name (i := 4) sc_Shelf__free_in.nd rfl (.inl rfl))) (fun _ _ _ _ _ => pts_nil) (fun _ _ _ _ _ => (@id (PI _ _ _ (iTup K _)) (pi_tup (pe_ix (@id (IxR _ (rIxL K)) ix_list) (show PE _ _ (tFld K _ "free") from pe_fld (pv 0) rfl) (pv 4) (fun _ _ => rfl))))) (fun _ _ _ _ _ => (pg_name (i := 5) sc_Shelf__free_in.nd rfl (.inl rfl))) (fun _ _ _ _ _ => pts_nil) (fun _ _ _ _ _ => (pv 5)))
      (pss_cons (ps_if (pt_cmpR op_eq (pe_ix ix_tup (pv 1) pe_int (fun _ _ => rfl)) pe_str (nomark _)) (pss_one (ps_expr (pe_bm PySem.F.plainAttrs_list PySem.F.slot_list_append PySem.F.type_list_append mt_append (pv 3) (pa_cons (pe_ix ix_tup (pv 1) pe_int (fun _ _ => rfl)) pa_nil)))) pss_nil)
      (pss_cons (ps_if (pt_cmpR op_in_seq (pe_ix ix_tup (pv 1) pe_int (fun _ _ => rfl)) (pe_glob rfl T.m_BINDERS (show RelV (.ref _) _ from rfl)) (by rfl)) (pss_one (ps_setLc (i := 3) (own := [("variable", 5)]) (g := gName 5) rfl sc_Shelf__free_in.nd rfl rfl (sw_true rfl rfl rfl (by decide +kernel)) (pi_list (pv 3)) (blkOk_by (own := [("variable", 5)]) (N := n_Shelf__free_in) (sc := defScope s_Shelf__free_in) (by decide +kernel)) (fun _ _ _ _ _ => (pg_name (i := 5) sc_Shelf__free_in.nd rfl (.inl rfl))) (fun _ _ _ _ _ => (pts_one (pt_cmpR op_ne (pv 5) (pe_ix (@id (IxR _ (rIxT K)) ix_tup) (pv 1) pe_int (fun _ _ => rfl)) (nomark _)))) (fun _ _ _ _ _ => (pv 5)))) pss_nil)
      (pss_one (ps_ret (pe_callTy call_tuple_of rfl T.z_tuple (by decide +kernel) (pa_cons (pe_callB (cr_sortedSet rfl) rfl T.z_sorted (by decide +kernel) (pa_cons (pe_callTy (show CallR _ _ (rSetL K w) from call_setL rfl) rfl T.z_set (by decide +kernel) (pa_cons (pv 3) pa_nil)) pa_nil)) pa_nil))))))), ?_⟩
    have small : ∀ n : Nat, n ≤ 1000 → n < sizeLine := fun n hn => small1000 hn
    refine ⟨.ref i, rfl, i, rfl, ⟨_, hi⟩, fun D hD => ?_⟩
    refine lc2_it walk_tup (fun m G => Same H G ∧ ∃ acc : List Int, G D = some (.lst (acc.map V.int)) ∧ (∀ x, x ∈ acc ↔ ∃ u ∈ t.kids.take m, x ∈ fv u) ∧ acc.length ≤ 63 * m) ⟨Same.new hD, [], upd_same, by simp, by simp⟩ (fun m G _ q => SqT.same q.1 hi) ?_ ?_
    · rintro m x G G' hm ⟨sG, acc, gD, hacc, hlen⟩ ⟨rfl, hx⟩
      rw [List.length_map] at hm
      obtain ⟨u, hu⟩ : ∃ u, t.kids[m]? = some u := ⟨t.kids[m], by simp [hm]⟩
      rw [List.getElem?_map, hu] at hx
      obtain rfl := Option.some.inj hx
      have hS := ix_get (hk u (List.mem_of_getElem? hu))
      obtain ⟨e, he⟩ : ∃ e, E[ix S u]? = some e := ⟨E[ix S u]'(by rw [hE]; exact ix_lt (hk u (List.mem_of_getElem? hu))), by simp⟩
      obtain ⟨L, hL, memL, lenL⟩ := hfre _ u e hS he
      have k2 := F.kids_le t
      refine ⟨rfl, .ref r.p, rfl, r.p, SC, r.dx, _, .ref r.fa, rfl, sG _ _ hp, TS.cl, TS.nF, rfl, .int (ix S u : Nat), rfl, r.fa, _, _, .ref e.f, rfl, rfl, SqL.of (sG _ _ hfa), atI_nat (j := ix S u) (by rw [List.getElem?_map, he]; rfl), e.f, rfl, ⟨_, SqT.same sG hL⟩, ?_⟩
      refine in2_it walk_tup (fun j G' => Same H G' ∧ G' D = some (.lst ((acc ++ L.take j).map V.int))) ⟨sG, by simpa using gD⟩ (fun j G' _ q => SqT.same q.1 hL) ?_ ?_
      · rintro j x G1 G2 hj ⟨sG1, gD1⟩ ⟨rfl, hx⟩
        rw [List.length_map] at hj
        have hx' : L[j]? = some L[j] := by simp [hj]
        rw [List.getElem?_map, hx'] at hx
        obtain rfl := Option.some.inj hx
        refine ⟨rfl, _, rfl, _, gD1, small _ (by simp only [List.length_map, List.length_append, List.length_take]; omega), ?_, ?_⟩
        · exact fun b o e => by rw [upd_ne (ne_of_none e hD)]; exact sG1 b o e
        · have e1 : (acc ++ L.take (j + 1)).map V.int = (acc ++ L.take j).map V.int ++ [V.int L[j]] := by
            rw [List.take_add_one, hx', ← List.append_assoc, List.map_append]
            rfl
          rw [upd_same, e1]
      · rintro G1 ⟨sG1, gD1⟩
        rw [List.length_map, List.take_length] at gD1
        refine ⟨sG1, _, gD1, fun x => ?_, ?_⟩
        · rw [List.mem_append, hacc, memL, List.take_add_one, hu]
          simp only [Option.toList, List.mem_append, List.mem_singleton]
          constructor
          · intro z
            rcases z with ⟨v, z1, z2⟩ | z
            · exact ⟨v, .inl z1, z2⟩
            · exact ⟨u, .inr rfl, z⟩
          · intro z
            obtain ⟨v, z1 | z1, z2⟩ := z
            · exact .inl ⟨v, z1, z2⟩
            · rw [z1] at z2
              exact .inr z2
        · rw [List.length_append]
          omega
    · rintro G ⟨sG, acc, gD, hacc, hlen⟩
      rw [List.length_map, List.take_length] at hacc
      rw [List.length_map] at hlen
      have k2 := F.kids_le t
      have hal0 : acc.length ≤ 126 := by omega
      have at0 : ∀ G, Same H G → SqT K G h (hv t.hd) := fun G s => SqT.same s hh
      have hd0 : atI (hv t.hd) 0 = some (.str (hw t.hd)) := atI_nat (j := 0) (hv_head _)
      by_cases hvar : ∃ n, t = .leaf .var n
      · obtain ⟨n, rfl⟩ := hvar
        have e0 : acc = [] := by
          cases acc with
          | nil => rfl
          | cons y _ => exact absurd ((hacc y).mp List.mem_cons_self) (by simp [F.kids])
        subst e0
        refine ⟨.ref h, rfl, h, _, _, _, rfl, rfl, at0 _ sG, hd0, rfl, _, rfl, (if_pos (decide_eq_true rfl)).mpr ?_⟩
        refine ⟨.ref D, rfl, .inl ⟨rfl, _, SqL.of gD⟩, .ref h, rfl, h, _, 1, .int n, rfl, rfl, at0 _ sG, rfl, D, _, .int n, rfl, rfl, gD, small _ (by simp), ?_⟩
        have sG' : Same H (upd G D (.lst (([] : List Int).map V.int ++ [V.int n]))) := fun b o e => by rw [upd_ne (ne_of_none e hD)]; exact sG b o e
        have hl : (upd G D (.lst (([] : List Int).map V.int ++ [V.int n]))) D = some (.lst (([n] : List Int).map V.int)) := upd_same
        generalize upd G D (.lst (([] : List Int).map V.int ++ [V.int n])) = G2 at sG' hl
        refine ⟨.ref h, rfl, h, _, _, _, rfl, rfl, at0 _ sG', hd0, B, _, rfl, .inr (T.c_BINDERS _), rfl, rfl, _, rfl, ?_⟩
        rw [if_neg Bool.false_ne_true, in_binders]
        refine iteF ?_
        clear sG gD hacc hlen
        have hacc : ∀ x, x ∈ [n] ↔ x ∈ fv (.leaf .var n) := fun x => Iff.rfl
        have hal : [n].length ≤ 126 := by show 1 ≤ 126; decide
        have sG := sG'
        obtain ⟨acc, eacc⟩ : ∃ a, a = [n] := ⟨_, rfl⟩
        rw [← eacc] at hl hacc hal
        obtain ⟨l, el⟩ : ∃ l, l = D := ⟨_, rfl⟩
        rw [← el] at hl
        rw [← el]
        clear el
        refine ⟨.ref l, rfl, l, acc, rfl, SqL.of hl, by omega, fun sp c hsp hc hmin => ?_⟩
        have s1 := Same.new (o := SetO w sp (fun j => decide (j ∈ acc)) c) hsp
        have hcc := hmin Vs fun x hx => hV x ((hacc x).mp hx)
        refine ⟨sp, _, c, rfl, upd_same, by omega, fun ns p _ hmem hlen hp => ?_⟩
        have s2 := Same.new (o := .lst (ns.map V.int)) hp
        refine ⟨p, _, rfl, .inl ⟨SqL.of upd_same, fun q hq => ?_⟩⟩
        refine k q _ (sG.trans (s1.trans (s2.trans (Same.new hq)))) ⟨ns, SqT.of upd_same, fun x => ?_, by omega⟩
        rw [hmem, decide_eq_true_eq]
        exact hacc x
      · refine ⟨.ref h, rfl, h, _, _, _, rfl, rfl, at0 _ sG, hd0, rfl, _, rfl, (if_neg (by rw [decide_eq_false (var_word (hd := t.hd) fun x e => hvar ⟨x, by cases t <;> cases e; rfl⟩)]; exact Bool.false_ne_true)).mpr ?_⟩
        refine ⟨.ref h, rfl, h, _, _, _, rfl, rfl, at0 _ sG, hd0, B, _, rfl, .inr (T.c_BINDERS _), rfl, rfl, _, rfl, ?_⟩
        rw [if_neg Bool.false_ne_true, in_binders, isB_hdS]
        cases hb : isB t with
        | true =>
          refine iteT ?_
          obtain ⟨kd, n, g, rfl⟩ : ∃ kd x f, t = .one kd x f := by
            cases t with
            | one kd x f => exact ⟨kd, x, f, rfl⟩
            | _ => cases hb
          have hkb : kd.bind = true := hb
          have gl0 : IL G D acc := gD
          refine ⟨.ref D, rfl, D, rfl, ⟨_, SqL.of gD⟩, fun D2 hD2 => ?_⟩
          refine lc_filS (fun x => !decide (V.int x = V.int n)) gl0 hD2 (by omega) (fun x hx G2 Y N sG2 hY hN' => ?_) (fun G2 sG2 gD2 => ?_)
          · refine ⟨rfl, .int x, rfl, .ref h, rfl, h, _, 1, .int n, rfl, rfl, SqT.same sG2 (at0 _ sG), rfl, rfl, _, rfl, ?_⟩
            cases c : (!decide (V.int x = V.int n)) with
            | true => exact iteT ⟨_, rfl, hY c _ (Same.refl _)⟩
            | false => exact iteF (hN' c _ (Same.refl _))
          · have sG := sG.trans sG2
            have hal : (acc.filter fun x => !decide (V.int x = V.int n)).length ≤ 126 := by
              have := List.length_filter_le (fun x => !decide (V.int x = V.int n)) acc
              omega
            have hacc : ∀ x, x ∈ (acc.filter fun x => !decide (V.int x = V.int n)) ↔ x ∈ fv (.one kd n g) := fun x => by
              rw [List.mem_filter, hacc]
              simp only [fv, if_pos hkb, List.mem_filter, F.kids, List.mem_singleton, exists_eq_left, Bool.not_eq_true', decide_eq_false_iff_not, decide_eq_true_eq, V.int.injEq, ne_eq]
            have hl := gD2
            generalize (acc.filter fun x => !decide (V.int x = V.int n)) = acc at hl hacc hal
            obtain ⟨l, el⟩ : ∃ l, l = D2 := ⟨_, rfl⟩
            rw [← el] at hl
            rw [← el]
            clear el
            refine ⟨.ref l, rfl, l, acc, rfl, SqL.of hl, by omega, fun sp c hsp hc hmin => ?_⟩
            have s1 := Same.new (o := SetO w sp (fun j => decide (j ∈ acc)) c) hsp
            have hcc := hmin Vs fun x hx => hV x ((hacc x).mp hx)
            refine ⟨sp, _, c, rfl, upd_same, by omega, fun ns p _ hmem hlen hp => ?_⟩
            have s2 := Same.new (o := .lst (ns.map V.int)) hp
            refine ⟨p, _, rfl, .inl ⟨SqL.of upd_same, fun q hq => ?_⟩⟩
            refine k q _ (sG.trans (s1.trans (s2.trans (Same.new hq)))) ⟨ns, SqT.of upd_same, fun x => ?_, by omega⟩
            rw [hmem, decide_eq_true_eq]
            exact hacc x
        | false =>
          refine iteF ?_
          have hl := gD
          have hal : acc.length ≤ 126 := hal0
          have hacc : ∀ x, x ∈ acc ↔ x ∈ fv t := fun x => by
            rw [hacc]
            cases t with
            | nul b => simp [F.kids, fv]
            | leaf kd n =>
              cases kd with
              | var => exact absurd ⟨n, rfl⟩ hvar
              | has => simp [F.kids, fv]
              | lacks => simp [F.kids, fv]
            | two b f g => simp [F.kids, fv]
            | one kd n g =>
              have : ¬ kd.bind = true := fun z => by rw [show isB (.one kd n g) = kd.bind from rfl, z] at hb; cases hb
              simp [F.kids, fv, this]
          obtain ⟨l, el⟩ : ∃ l, l = D := ⟨_, rfl⟩
          rw [← el] at hl
          rw [← el]
          clear el
          refine ⟨.ref l, rfl, l, acc, rfl, SqL.of hl, by omega, fun sp c hsp hc hmin => ?_⟩
          have s1 := Same.new (o := SetO w sp (fun j => decide (j ∈ acc)) c) hsp
          have hcc := hmin Vs fun x hx => hV x ((hacc x).mp hx)
          refine ⟨sp, _, c, rfl, upd_same, by omega, fun ns p _ hmem hlen hp => ?_⟩
          have s2 := Same.new (o := .lst (ns.map V.int)) hp
          refine ⟨p, _, rfl, .inl ⟨SqL.of upd_same, fun q hq => ?_⟩⟩
          refine k q _ (sG.trans (s1.trans (s2.trans (Same.new hq)))) ⟨ns, SqT.of upd_same, fun x => ?_, by omega⟩
          rw [hmem, decide_eq_true_eq]
          exact hacc x
end
end Fw

set_option maxRecDepth 100000
set_option maxHeartbeats 4000000
namespace Fw
open PySem PySem.Spec PyProof.Rows L2
theorem get_snocS {α : Type} {l : List α} {x : α} {i : Nat} {y : α} (h : (l ++ [x])[i]? = some y) : l[i]? = some y ∨ (i = l.length ∧ x = y) := by
  by_cases lt : i < l.length
  · rw [List.getElem?_append_left lt] at h
    exact .inl h
  · have e : i = l.length := by
      have := (List.getElem?_eq_some_iff.mp h).1
      rw [List.length_append, List.length_singleton] at this
      omega
    subst e
    rw [List.getElem?_append_right (Nat.le_refl _), Nat.sub_self] at h
    exact .inr ⟨rfl, Option.some.inj h⟩
/-- the shelf's own things -/
structure Fv (SC : Addr) (H : Hp) (r : SR) (a b c d : List V) (k : HO) : Prop where
  p : H r.p = some (.ins SC r.dx (sf r))
  a : H r.ha = some (.lst a)
  b : H r.ia = some (.lst b)
  c : H r.fa = some (.lst c)
  d : H r.sa = some (.lst d)
  k : H r.na = some k
abbrev SR.Ne (r : SR) : Prop := r.ha ≠ r.ia ∧ r.ha ≠ r.fa ∧ r.ha ≠ r.sa ∧ r.ia ≠ r.fa ∧ r.ia ≠ r.sa ∧ r.fa ≠ r.sa
theorem Fv.same {SC : Addr} {H H' : Hp} {r : SR} {a b c d : List V} {k : HO} (s : Same H H') (h : Fv SC H r a b c d k) : Fv SC H' r a b c d k := ⟨s _ _ h.p, s _ _ h.a, s _ _ h.b, s _ _ h.c, s _ _ h.d, s _ _ h.k⟩
section
variable {SC : Addr} {H : Hp} {r : SR} {a b c d : List V} {p : Heap → Prop}
theorem Fv.setA (n : r.Ne) (h : Fv SC H r a b c d (.ext p)) (x : List V) : Fv SC (upd H r.ha (.lst x)) r x b c d (.ext p) :=
  ⟨by rw [upd_ne (ne_of h.p h.a (by intro z; cases z))]; exact h.p, upd_same, by rw [upd_ne n.1.symm]; exact h.b, by rw [upd_ne n.2.1.symm]; exact h.c, by rw [upd_ne n.2.2.1.symm]; exact h.d, by rw [upd_ne (ne_of h.k h.a (by intro z; cases z))]; exact h.k⟩
theorem Fv.setB (n : r.Ne) (h : Fv SC H r a b c d (.ext p)) (x : List V) : Fv SC (upd H r.ia (.lst x)) r a x c d (.ext p) :=
  ⟨by rw [upd_ne (ne_of h.p h.b (by intro z; cases z))]; exact h.p, by rw [upd_ne n.1]; exact h.a, upd_same, by rw [upd_ne n.2.2.2.1.symm]; exact h.c, by rw [upd_ne n.2.2.2.2.1.symm]; exact h.d, by rw [upd_ne (ne_of h.k h.b (by intro z; cases z))]; exact h.k⟩
theorem Fv.setC (n : r.Ne) (h : Fv SC H r a b c d (.ext p)) (x : List V) : Fv SC (upd H r.fa (.lst x)) r a b x d (.ext p) :=
  ⟨by rw [upd_ne (ne_of h.p h.c (by intro z; cases z))]; exact h.p, by rw [upd_ne n.2.1]; exact h.a, by rw [upd_ne n.2.2.2.1]; exact h.b, upd_same, by rw [upd_ne n.2.2.2.2.2.symm]; exact h.d, by rw [upd_ne (ne_of h.k h.c (by intro z; cases z))]; exact h.k⟩
theorem Fv.setD (n : r.Ne) (h : Fv SC H r a b c d (.ext p)) (x : List V) : Fv SC (upd H r.sa (.lst x)) r a b c x (.ext p) :=
  ⟨by rw [upd_ne (ne_of h.p h.d (by intro z; cases z))]; exact h.p, by rw [upd_ne n.2.2.1]; exact h.a, by rw [upd_ne n.2.2.2.2.1]; exact h.b, by rw [upd_ne n.2.2.2.2.2]; exact h.c, upd_same, by rw [upd_ne (ne_of h.k h.d (by intro z; cases z))]; exact h.k⟩
theorem Fv.setK (h : Fv SC H r a b c d (.ext p)) (x : HO) : Fv SC (upd H r.na x) r a b c d x :=
  ⟨by rw [upd_ne (ne_of h.p h.k (by intro z; cases z))]; exact h.p, by rw [upd_ne (ne_of h.a h.k (by intro z; cases z))]; exact h.a, by rw [upd_ne (ne_of h.b h.k (by intro z; cases z))]; exact h.b,
   by rw [upd_ne (ne_of h.c h.k (by intro z; cases z))]; exact h.c, by rw [upd_ne (ne_of h.d h.k (by intro z; cases z))]; exact h.d, upd_same⟩
end
structure Grow (S S' : List F) (t : F) : Prop where
  app : ∃ T, S' = S ++ T
  mem : t ∈ S'
  all : ∀ u, u ∈ S' ↔ u ∈ S ∨ u = t
  len : S'.length ≤ S.length + 1
section
variable {P : Program} {w : World} {K : PySem.W.Frag} {mg : Str → Option Value} {base : Heap} {C J B SC HC STP : Addr}
def spNum (P : Program) (w : World) (K : PySem.W.Frag) (SC : Addr) : Sp := fun vs H Q _ => ∃ (r : SR) (h i : Addr) (S : List F) (t : F), vs = [.ref r.p, .ref h, .ref i] ∧ Sh P w K SC H r S ∧ SqT K H h (hv t.hd) ∧ SqT K H i (t.kids.map fun u => V.int (ix S u : Nat)) ∧
  (∀ u ∈ t.kids, u ∈ S) ∧ S.length ≤ 60000 ∧ (∃ Vs : List Int, (∀ x ∈ fv t, x ∈ Vs) ∧ Vs.length ≤ 63) ∧ ∀ S' H', Kx r H H' → TKp K H H' → Sh P w K SC H' r S' → Grow S S' t → Q (.int (ix S' t : Nat)) H'
theorem val_some {S : List F} {kvs : List NK} (g : ∀ k v, valN kvs k = some v ↔ ∃ (i : Nat) (t : F), S[i]? = some t ∧ k = kyF S t ∧ v = .int (i : Nat)) {t : F} (h : t ∈ S) : valN kvs (kyF S t) = some (.int (ix S t : Nat)) :=
  (g _ _).mpr ⟨_, t, ix_get h, rfl, rfl⟩
theorem val_none {S : List F} {kvs : List NK} (cl : ∀ t ∈ S, ∀ u ∈ t.kids, u ∈ S) (g : ∀ k v, valN kvs k = some v ↔ ∃ (i : Nat) (t : F), S[i]? = some t ∧ k = kyF S t ∧ v = .int (i : Nat)) {t : F} (hk : ∀ u ∈ t.kids, u ∈ S) (h : t ∉ S) : valN kvs (kyF S t) = none := by
  cases e : valN kvs (kyF S t) with
  | none => rfl
  | some v =>
    obtain ⟨i, u, h1, h2, _⟩ := (g _ _).mp e
    have hu := List.mem_of_getElem? h1
    rw [kyF_inj hk (cl u hu) h2] at h
    exact absurd hu h
theorem val_grow {S : List F} {kvs : List NK} {t : F} {q : Addr} (nd : S.Nodup) (cl : ∀ t ∈ S, ∀ u ∈ t.kids, u ∈ S) (g : ∀ k v, valN kvs k = some v ↔ ∃ (i : Nat) (t : F), S[i]? = some t ∧ k = kyF S t ∧ v = .int (i : Nat)) (hk : ∀ u ∈ t.kids, u ∈ S) (h : t ∉ S) :
    ∀ k v, valN (kvs ++ [(kyF S t, q, V.int (S.length : Nat))]) k = some v ↔ ∃ (i : Nat) (u : F), (S ++ [t])[i]? = some u ∧ k = kyF (S ++ [t]) u ∧ v = .int (i : Nat) := by
  intro k v
  rw [valN_snoc (val_none cl g hk h)]
  constructor
  · intro z
    split at z
    · rename_i e
      refine ⟨S.length, t, by simp, ?_, (Option.some.inj z).symm⟩
      rw [kyF_app hk, e]
    · obtain ⟨i, u, h1, h2, h3⟩ := (g _ _).mp z
      refine ⟨i, u, by rw [List.getElem?_append_left (List.getElem?_eq_some_iff.mp h1).1]; exact h1, ?_, h3⟩
      rw [kyF_app (cl u (List.mem_of_getElem? h1)), h2]
  · rintro ⟨i, u, h1, h2, h3⟩
    rcases get_snocS h1 with h4 | ⟨rfl, rfl⟩
    · have hu := List.mem_of_getElem? h4
      rw [kyF_app (cl u hu)] at h2
      rw [if_neg fun e => h (by rw [kyF_inj hk (cl u hu) (e.symm.trans h2)]; exact hu)]
      exact (g _ _).mpr ⟨i, u, h4, h2, h3⟩
    · rw [kyF_app hk] at h2
      rw [if_pos h2, h3]
theorem AllF.tk {K : PySem.W.Frag} {H H' : Hp} (s : TKp K H H') {vs : List V} {ts : List F} (h : AllF K H vs ts) : AllF K H' vs ts := by
  induction h with
  | nil => exact .nil
  | cons a _ ih => exact .cons (a.map s) ih
theorem AllF.snocS {K : PySem.W.Frag} {H : Hp} {vs : List V} {ts : List F} {v : V} {t : F} (h : AllF K H vs ts) (x : IsF K H v t) : AllF K H (vs ++ [v]) (ts ++ [t]) := by
  induction h with
  | nil => exact .cons x .nil
  | cons a _ ih => exact .cons a ih
theorem ok_number {f fv' : Addr} {fd fdv : FuncData} (FF : Fun K "number" "Shelf.number" s_Shelf_number f fd) (T : Txt K mg C J B) (TS : TxtS K SC)
    (m_Shelf_free_in : Meth K SC "_free_in" fv') (g_Shelf_free_in : FnOk P w K mg base CX0 1 fv' fdv a_Shelf__free_in (spFreS K SC)) (b_Shelf_free_in : Binds K fdv a_Shelf__free_in []) : FnOk P w K mg base CX0 2 f fd a_Shelf_number (spNum P w K SC) := by
  refine FF.ok sc_Shelf_number (fun vs H Q E h => ?_) (fun cdv A outer s H vs Q E hr h => ?_)
  · obtain ⟨r, h, i, S, t, rfl, _⟩ := h
    rfl
  · obtain ⟨r, h, i, S, t, rfl, n, hh, hi, hk, hS, hsz, k⟩ := h
    refine ⟨_, (pss_cons (ps_set (i := 3) sc_Shelf_number.nd rfl (.inl rfl) (pe_tup (pa_cons (pv 1) (pa_cons (pv 2) pa_nil))))
      (pss_cons (ps_if (pt_cmpR (@id (OpR _ _ (rInN P w K true)) (op_notInN hr.units)) (pv 3) (pe_fld (pv 0) rfl) (by rfl)) (pss_cons (ps_asg (pe_callB call_len_seq rfl T.z_len (by decide +kernel) (pa_cons (pe_fld (pv 0) rfl) pa_nil)) (pg_sub (pe_fld (pv 0) rfl) (pv 3) (@id (PSet _ (rSetN P w K)) (set_nest hr.units))))
      (pss_cons (ps_expr (pe_bm PySem.F.plainAttrs_list PySem.F.slot_list_append PySem.F.type_list_append mt_append (pe_fld (pv 0) rfl) (pa_cons (pv 1) pa_nil)))
      (pss_cons (ps_expr (pe_bm PySem.F.plainAttrs_list PySem.F.slot_list_append PySem.F.type_list_append mt_append (pe_fld (pv 0) rfl) (pa_cons (pv 2) pa_nil)))
      (pss_cons (ps_expr (pe_bm PySem.F.plainAttrs_list PySem.F.slot_list_append PySem.F.type_list_append mt_append (pe_fld (pv 0) rfl) (pa_cons (pe_meth (pv 0) TS.cl m_Shelf_free_in g_Shelf_free_in (hr.mono (by omega)) b_Shelf_free_in .nil pass0 (pa_cons (pv 1) (pa_cons (pv 2) pa_nil))) pa_nil)))
      (pss_one (ps_expr (pe_bm PySem.F.plainAttrs_list PySem.F.slot_list_append PySem.F.type_list_append mt_append (pe_fld (pv 0) rfl) (pa_cons (pe_op op_catA (pv 1) (pe_callTy call_tuple_of rfl T.z_tuple (by decide +kernel) (pa_cons (pe_lc (own := [("at", 4)]) (g := gName 4) rfl sc_Shelf_number.nd (pi_tup (pv 2)) (blkOk_by (own := [("at", 4)]) (N := n_Shelf_number) (sc := defScope s_Shelf_number) (by decide +kernel)) (fun _ _ _ _ _ => (pg_name (i := 4) sc_Shelf_number.nd rfl (.inl rfl))) (fun _ _ _ _ _ => pts_nil) (fun _ _ _ _ _ => (pe_ix (@id (IxR _ (rIxL K)) ix_list) (show PE _ _ (tFld K _ "statements") from pe_fld (pv 0) rfl) (pv 4) (fun _ _ => rfl)))) pa_nil))) pa_nil)))))))) pss_nil)
      (pss_one (ps_ret (pe_ix (@id (IxR _ (rIxN P w K)) (ix_nest hr.units)) (pe_fld (pv 0) rfl) (pv 3) (fun _ _ => rfl)))))), ?_⟩
    have small : ∀ n : Nat, n ≤ 60000 → n < sizeLine := fun n hn => Nat.lt_of_le_of_lt hn (by decide)
    obtain ⟨E, e1, e2, e3, e4, hE, h6⟩ := n.ents
    obtain ⟨kvs, g1, g2, g3, g4⟩ := n.nums
    have F0 : Fv SC H r (E.map fun e => V.ref e.h) (E.map fun e => V.ref e.i) (E.map fun e => V.ref e.f) (E.map fun e => e.v) (DNs P w r.na kvs) := ⟨n.obj, e1, e2, e3, e4, g1⟩
    refine ⟨.ref h, rfl, .ref i, rfl, by show 2 ≤ sizeLine; decide, fun kq hkq => ?_⟩
    have s1 := Same.new (o := .tup [.ref h, .ref i]) hkq
    have kq1 : (upd H kq (.tup [.ref h, .ref i])) kq = some (.tup [.ref h, .ref i]) := upd_same
    generalize upd H kq (.tup [.ref h, .ref i]) = H1 at s1 kq1
    have F1 := F0.same s1
    have ok1 := g2.tk (TKp.same s1)
    have kis1 := kis_key (SqT.of kq1) (SqT.same s1 hh) (SqT.same s1 hi)
    refine ⟨.ref kq, rfl, .ref r.p, rfl, r.p, SC, r.dx, _, .ref r.na, rfl, F1.p, TS.cl, TS.nN, rfl, r.na, kq, kvs, kyF S t, rfl, rfl, F1.k, ok1, kis1, kyF_deep _ _, _, rfl, ?_⟩
    rw [if_pos rfl]
    by_cases ht : t ∈ S
    · rw [val_some g4 ht]
      refine iteF ?_
      refine ⟨.ref r.p, rfl, r.p, SC, r.dx, _, .ref r.na, rfl, F1.p, TS.cl, TS.nN, rfl, .ref kq, rfl, r.na, kq, kvs, kyF S t, _, rfl, rfl, F1.k, ok1, kis1, kyF_deep _ _, val_some g4 ht, ?_⟩
      exact k S H1 (.same s1) (.same s1) (n.same s1) ⟨⟨[], by simp⟩, ht, fun u => ⟨.inl, fun z => z.elim id fun e => e ▸ ht⟩, Nat.le_succ _⟩
    · rw [val_none n.cl g4 hk ht]
      refine iteT ?_
      -- self._numbers[key] = len(self.heads)
      refine ⟨.ref r.p, rfl, r.p, SC, r.dx, _, .ref r.ha, rfl, F1.p, TS.cl, TS.nH, rfl, r.ha, _, rfl, .inl (SqL.of F1.a), ?_⟩
      rw [List.length_map, hE]
      refine ⟨.ref r.p, rfl, r.p, SC, r.dx, _, .ref r.na, rfl, F1.p, TS.cl, TS.nN, rfl, .ref kq, rfl, r.na, kq, kvs, kyF S t, rfl, rfl, F1.k, ok1, kis1, kyF_deep _ _, val_none n.cl g4 hk ht, by rw [g3]; exact small _ (by omega), ?_⟩
      have F2 := F1.setK (DNs P w r.na (kvs ++ [(kyF S t, kq, V.int (S.length : Nat))]))
      have K2 := (Kx.same (r := r) s1).put (d := r.na) (o := DNs P w r.na (kvs ++ [(kyF S t, kq, V.int (S.length : Nat))])) (.inr (.inr (.inr (.inr rfl))))
      have T12 := TKp.ext (K := K) (o' := DNs P w r.na (kvs ++ [(kyF S t, kq, V.int (S.length : Nat))])) F1.k
      generalize upd H1 r.na (DNs P w r.na (kvs ++ [(kyF S t, kq, V.int (S.length : Nat))])) = H2 at F2 K2 T12
      -- self.heads.append(head)
      refine ⟨.ref r.p, rfl, r.p, SC, r.dx, _, .ref r.ha, rfl, F2.p, TS.cl, TS.nH, rfl, .inl ⟨rfl, _, SqL.of F2.a⟩, .ref h, rfl, r.ha, _, .ref h, rfl, rfl, F2.a, by rw [List.length_map, hE]; exact small _ (by omega), ?_⟩
      have F3 := F2.setA n.ne (E.map (fun e => V.ref e.h) ++ [V.ref h])
      have K3 := K2.put (d := r.ha) (o := .lst (E.map (fun e => V.ref e.h) ++ [V.ref h])) (.inl rfl)
      have T13 := T12.trans (TKp.lst (o' := .lst (E.map (fun e => V.ref e.h) ++ [V.ref h])) F2.a)
      generalize upd H2 r.ha (.lst (E.map (fun e => V.ref e.h) ++ [V.ref h])) = H3 at F3 K3 T13
      -- self.inner.append(inner)
      refine ⟨.ref r.p, rfl, r.p, SC, r.dx, _, .ref r.ia, rfl, F3.p, TS.cl, TS.nI, rfl, .inl ⟨rfl, _, SqL.of F3.b⟩, .ref i, rfl, r.ia, _, .ref i, rfl, rfl, F3.b, by rw [List.length_map, hE]; exact small _ (by omega), ?_⟩
      have F4 := F3.setB n.ne (E.map (fun e => V.ref e.i) ++ [V.ref i])
      have K4 := K3.put (d := r.ia) (o := .lst (E.map (fun e => V.ref e.i) ++ [V.ref i])) (.inr (.inl rfl))
      have T14 := T13.trans (TKp.lst (o' := .lst (E.map (fun e => V.ref e.i) ++ [V.ref i])) F3.b)
      generalize upd H3 r.ia (.lst (E.map (fun e => V.ref e.i) ++ [V.ref i])) = H4 at F4 K4 T14
      have T4 := (TKp.same s1).trans T14
      -- self.free.append(self._free_in(head, inner))
      refine ⟨.ref r.p, rfl, r.p, SC, r.dx, _, .ref r.fa, rfl, F4.p, TS.cl, TS.nF, rfl, .inl ⟨rfl, _, SqL.of F4.c⟩, .ref r.p, rfl, r.p, r.dx, _, rfl, F4.p, rfl, .ref h, rfl, .ref i, rfl, r, h, i, S, E, t, rfl, F4.p, F4.c, hE,
        fun j u e q1 q2 => (h6 j u e q1 q2).fre.tk T4, T4 _ _ hh, T4 _ _ hi, hk, hsz, fun f H5 s5 fr5 => ?_⟩
      have F5 := F4.same s5
      refine ⟨r.fa, _, .ref f, rfl, rfl, F5.c, by rw [List.length_map, hE]; exact small _ (by omega), ?_⟩
      have F6 := F5.setC n.ne (E.map (fun e => V.ref e.f) ++ [V.ref f])
      have K6 := (K4.trans (.same s5)).put (d := r.fa) (o := .lst (E.map (fun e => V.ref e.f) ++ [V.ref f])) (.inr (.inr (.inl rfl)))
      have T56 := TKp.lst (K := K) (o' := .lst (E.map (fun e => V.ref e.f) ++ [V.ref f])) F5.c
      have T16 := T14.trans ((TKp.same s5).trans T56)
      have fr6 := fr5.tk T56
      generalize upd H5 r.fa (.lst (E.map (fun e => V.ref e.f) ++ [V.ref f])) = H6 at F6 K6 T56 T16 fr6
      clear F1 F2 F3 F4 F5 K2 K3 K4 T12 T13 T14 T4 T56 fr5
      have T6 := (TKp.same s1).trans T16
      -- self.statements.append(head + tuple([..]))
      refine ⟨.ref r.p, rfl, r.p, SC, r.dx, _, .ref r.sa, rfl, F6.p, TS.cl, TS.nS, rfl, .inl ⟨rfl, _, SqL.of F6.d⟩, .ref h, rfl, .ref i, rfl, i, rfl, ⟨_, T6 _ _ hi⟩, fun D hD => ?_⟩
      refine lc_tup (xs := t.kids.map fun u => V.int (ix S u : Nat)) (fun m G => Same H6 G ∧ ∃ ks, G D = some (.lst ks) ∧ AllF K G ks (t.kids.take m)) ⟨Same.new hD, [], upd_same, .nil⟩ (fun m G _ q => SqT.same q.1 (T6 _ _ hi)) ?_ ?_
      · rintro m x G hx ⟨sG, ks, gD, ak⟩
        obtain ⟨u, hu⟩ : ∃ u, t.kids[m]? = some u := by
          rw [List.getElem?_map] at hx
          cases q : t.kids[m]? with
          | none => rw [q] at hx; cases hx
          | some u => exact ⟨u, rfl⟩
        rw [List.getElem?_map, hu] at hx
        obtain rfl := Option.some.inj hx
        have hm := (List.getElem?_eq_some_iff.mp hu).1
        have hSu := ix_get (hk u (List.mem_of_getElem? hu))
        obtain ⟨e, he⟩ : ∃ e, E[ix S u]? = some e := ⟨E[ix S u]'(by rw [hE]; exact ix_lt (hk u (List.mem_of_getElem? hu))), by simp⟩
        have st := (h6 _ u e hSu he).st.map (T6.trans (.same sG))
        have F6' := F6.same sG
        have kl := ak.len
        rw [List.length_take] at kl
        have k2 := F.kids_le t
        have sG2 : Same G (upd G D (.lst (ks ++ [e.v]))) → True := fun _ => trivial
        refine ⟨rfl, .ref r.p, rfl, r.p, SC, r.dx, _, .ref r.sa, rfl, F6'.p, TS.cl, TS.nS, rfl, .int (ix S u : Nat), rfl, r.sa, _, _, e.v, rfl, rfl, SqL.of F6'.d, atI_nat (j := ix S u) (by rw [List.getElem?_map, he]; rfl), ks, gD, small _ (by omega), ?_, ks ++ [e.v], upd_same, ?_⟩
        · exact fun b o q => by rw [upd_ne (ne_of_none q hD)]; exact sG b o q
        · have kp := TKp.lst (K := K) (o' := .lst (ks ++ [e.v])) gD
          rw [List.take_add_one, hu]
          exact AllF.snocS (ak.tk kp) (st.map kp)
      · rintro G ⟨sG, ks, gD, ak⟩
        rw [List.length_map, List.take_length] at ak
        refine ⟨D, ks, rfl, .inl ⟨SqL.of gD, fun q hq => ?_⟩⟩
        have s7 := sG.trans (Same.new (o := .tup ks) hq)
        have ak7 := ak.tk (TKp.same (Same.new (o := .tup ks) hq))
        have sqq : SqT K (upd G q (.tup ks)) q ks := SqT.of upd_same
        generalize upd G q (.tup ks) = H7 at s7 ak7 sqq
        have kl := ak.len
        have k2 := F.kids_le t
        have hl := hv_len t.hd
        refine ⟨h, q, _, _, rfl, rfl, SqT.same s7 (T6 _ _ hh), sqq, Nat.le_of_lt (small _ (by omega)), fun z => ?_, fun _ z => ?_, fun _ _ p hp => ?_⟩
        · rw [z] at hl
          rcases hl with hl | hl <;> cases hl
        · subst z
          obtain ⟨a, ea⟩ : ∃ a, a = h := ⟨_, rfl⟩
          have sq7 : SqT K H7 a (hv t.hd ++ []) := by rw [List.append_nil, ea]; exact SqT.same s7 (T6 _ _ hh)
          have F7 := F6.same s7
          have K7 := K6.trans (.same s7)
          have T17 := T16.trans (TKp.same s7)
          have T7 := (TKp.same s1).trans T17
          have fr7 := fr6.tk (TKp.same s7)
          rw [← ea]
          clear ea sqq kl
          obtain ⟨ks, ek⟩ : ∃ l : List V, l = [] := ⟨_, rfl⟩
          rw [← ek] at sq7 ak7
          clear ek
          -- self.statements.append(..)
          refine ⟨r.sa, _, .ref a, rfl, rfl, F7.d, by rw [List.length_map, hE]; exact small _ (by omega), ?_⟩
          have F8 := F7.setD n.ne (E.map (fun e => e.v) ++ [V.ref a])
          have K8 := K7.put (d := r.sa) (o := .lst (E.map (fun e => e.v) ++ [V.ref a])) (.inr (.inr (.inr (.inl rfl))))
          have T8 := T7.trans (TKp.lst (o' := .lst (E.map (fun e => e.v) ++ [V.ref a])) F7.d)
          have T18 := T17.trans (TKp.lst (o' := .lst (E.map (fun e => e.v) ++ [V.ref a])) F7.d)
          have sq8 := TKp.lst (K := K) (o' := .lst (E.map (fun e => e.v) ++ [V.ref a])) F7.d _ _ sq7
          have ak8 : AllF K (upd H7 r.sa (.lst (E.map (fun e => e.v) ++ [V.ref a]))) ks t.kids := AllF.tk (TKp.lst F7.d) ak7
          have fr8 := fr7.tk (TKp.lst (K := K) (o' := .lst (E.map (fun e => e.v) ++ [V.ref a])) F7.d)
          generalize upd H7 r.sa (.lst (E.map (fun e => e.v) ++ [V.ref a])) = H8 at F8 K8 T8 T18 sq8 ak8 fr8
          have st8 : IsF K H8 (.ref a) t := IsF.close sq8 ak8
          have hh8 := T8 _ _ hh
          have hi8 := T8 _ _ hi
          have kq8 : SqT K H8 kq [.ref h, .ref i] := T18 _ _ (SqT.of kq1)
          have ok8 : KeysOk K H8 (kvs ++ [(kyF S t, kq, V.int (S.length : Nat))]) := fun e he => by
            rcases List.mem_append.mp he with he | he
            · exact (g2.tk T8) e he
            · rw [List.mem_singleton] at he
              subst he
              exact ⟨kis_key kq8 hh8 hi8, kyF_deep _ _⟩
          have vg := val_grow (q := kq) n.nd n.cl g4 hk ht
          have idx : ix (S ++ [t]) t = S.length := ix_new ht
          have ky : kyF S t = kyF (S ++ [t]) t := (kyF_app hk).symm
          refine ⟨.ref r.p, rfl, r.p, SC, r.dx, _, .ref r.na, rfl, F8.p, TS.cl, TS.nN, rfl, .ref kq, rfl, r.na, kq, _, kyF S t, _, rfl, rfl, F8.k, ok8, kis_key kq8 hh8 hi8, kyF_deep _ _, (vg _ _).mpr ⟨S.length, t, by simp, ky, rfl⟩, ?_⟩
          have done := k (S ++ [t]) H8 K8 T8 ⟨F8.p, ?_, ?_, ?_, n.ne, ⟨E ++ [⟨h, i, f, .ref a⟩], ?_, ?_, ?_, ?_, by rw [List.length_append, List.length_append, hE]; rfl, ?_⟩, ⟨_, F8.k, ok8, by rw [List.length_append, List.length_append, g3]; rfl, vg⟩⟩ ⟨⟨[t], rfl⟩, by simp, fun u => by simp, by simp⟩
          · rw [idx] at done
            exact done
          · exact List.nodup_append.mpr ⟨n.nd, by simp, fun x hx y hy => by rw [List.mem_singleton] at hy; subst hy; exact fun e => ht (e ▸ hx)⟩
          · intro u hu x hx
            rcases List.mem_append.mp hu with hu | hu
            · exact List.mem_append_left _ (n.cl u hu x hx)
            · rw [List.mem_singleton] at hu
              subst hu
              exact List.mem_append_left _ (hk x hx)
          · intro u hu x hx
            rcases List.mem_append.mp hu with hu | hu
            · rw [ix_app (n.cl u hu x hx), ix_app hu]
              exact n.ord u hu x hx
            · rw [List.mem_singleton] at hu
              subst hu
              rw [ix_app (hk x hx), idx]
              exact ix_lt (hk x hx)
          · rw [F8.a, List.map_append]; rfl
          · rw [F8.b, List.map_append]; rfl
          · rw [F8.c, List.map_append]; rfl
          · rw [F8.d, List.map_append]; rfl
          · intro j u e e1 e2
            rcases get_snocS e1 with e3 | ⟨rfl, rfl⟩
            · have lt := (List.getElem?_eq_some_iff.mp e3).1
              rw [List.getElem?_append_left (by rw [hE]; exact lt)] at e2
              exact ((h6 j u e e3 e2).tk T8).app (n.cl u (List.mem_of_getElem? e3))
            · rw [List.getElem?_append_right (by rw [hE]; exact Nat.le_refl _), hE, Nat.sub_self] at e2
              cases e2
              refine Ent.app hk ⟨hh8, hi8, fr8, st8⟩
        · have s72 := Same.new (o := .tup (hv t.hd ++ ks)) hp
          have F7 := (F6.same s7).same s72
          have K7 := (K6.trans (.same s7)).trans (.same s72)
          have T17 := (T16.trans (TKp.same s7)).trans (TKp.same s72)
          have T7 := (TKp.same s1).trans T17
          have fr7 := (fr6.tk (TKp.same s7)).tk (TKp.same s72)
          have sq7 : SqT K (upd H7 p (.tup (hv t.hd ++ ks))) p (hv t.hd ++ ks) := SqT.of upd_same
          have ak7' := ak7.tk (TKp.same s72)
          generalize upd H7 p (.tup (hv t.hd ++ ks)) = H7 at F7 K7 T17 T7 fr7 sq7 ak7'
          clear ak7
          have ak7 := ak7'
          clear ak7'
          obtain ⟨a, ea⟩ : ∃ a, a = p := ⟨_, rfl⟩
          rw [← ea] at sq7
          rw [← ea]
          clear ea
          -- self.statements.append(..)
          refine ⟨r.sa, _, .ref a, rfl, rfl, F7.d, by rw [List.length_map, hE]; exact small _ (by omega), ?_⟩
          have F8 := F7.setD n.ne (E.map (fun e => e.v) ++ [V.ref a])
          have K8 := K7.put (d := r.sa) (o := .lst (E.map (fun e => e.v) ++ [V.ref a])) (.inr (.inr (.inr (.inl rfl))))
          have T8 := T7.trans (TKp.lst (o' := .lst (E.map (fun e => e.v) ++ [V.ref a])) F7.d)
          have T18 := T17.trans (TKp.lst (o' := .lst (E.map (fun e => e.v) ++ [V.ref a])) F7.d)
          have sq8 := TKp.lst (K := K) (o' := .lst (E.map (fun e => e.v) ++ [V.ref a])) F7.d _ _ sq7
          have ak8 : AllF K (upd H7 r.sa (.lst (E.map (fun e => e.v) ++ [V.ref a]))) ks t.kids := AllF.tk (TKp.lst F7.d) ak7
          have fr8 := fr7.tk (TKp.lst (K := K) (o' := .lst (E.map (fun e => e.v) ++ [V.ref a])) F7.d)
          generalize upd H7 r.sa (.lst (E.map (fun e => e.v) ++ [V.ref a])) = H8 at F8 K8 T8 T18 sq8 ak8 fr8
          have st8 : IsF K H8 (.ref a) t := IsF.close sq8 ak8
          have hh8 := T8 _ _ hh
          have hi8 := T8 _ _ hi
          have kq8 : SqT K H8 kq [.ref h, .ref i] := T18 _ _ (SqT.of kq1)
          have ok8 : KeysOk K H8 (kvs ++ [(kyF S t, kq, V.int (S.length : Nat))]) := fun e he => by
            rcases List.mem_append.mp he with he | he
            · exact (g2.tk T8) e he
            · rw [List.mem_singleton] at he
              subst he
              exact ⟨kis_key kq8 hh8 hi8, kyF_deep _ _⟩
          have vg := val_grow (q := kq) n.nd n.cl g4 hk ht
          have idx : ix (S ++ [t]) t = S.length := ix_new ht
          have ky : kyF S t = kyF (S ++ [t]) t := (kyF_app hk).symm
          refine ⟨.ref r.p, rfl, r.p, SC, r.dx, _, .ref r.na, rfl, F8.p, TS.cl, TS.nN, rfl, .ref kq, rfl, r.na, kq, _, kyF S t, _, rfl, rfl, F8.k, ok8, kis_key kq8 hh8 hi8, kyF_deep _ _, (vg _ _).mpr ⟨S.length, t, by simp, ky, rfl⟩, ?_⟩
          have done := k (S ++ [t]) H8 K8 T8 ⟨F8.p, ?_, ?_, ?_, n.ne, ⟨E ++ [⟨h, i, f, .ref a⟩], ?_, ?_, ?_, ?_, by rw [List.length_append, List.length_append, hE]; rfl, ?_⟩, ⟨_, F8.k, ok8, by rw [List.length_append, List.length_append, g3]; rfl, vg⟩⟩ ⟨⟨[t], rfl⟩, by simp, fun u => by simp, by simp⟩
          · rw [idx] at done
            exact done
          · exact List.nodup_append.mpr ⟨n.nd, by simp, fun x hx y hy => by rw [List.mem_singleton] at hy; subst hy; exact fun e => ht (e ▸ hx)⟩
          · intro u hu x hx
            rcases List.mem_append.mp hu with hu | hu
            · exact List.mem_append_left _ (n.cl u hu x hx)
            · rw [List.mem_singleton] at hu
              subst hu
              exact List.mem_append_left _ (hk x hx)
          · intro u hu x hx
            rcases List.mem_append.mp hu with hu | hu
            · rw [ix_app (n.cl u hu x hx), ix_app hu]
              exact n.ord u hu x hx
            · rw [List.mem_singleton] at hu
              subst hu
              rw [ix_app (hk x hx), idx]
              exact ix_lt (hk x hx)
          · rw [F8.a, List.map_append]; rfl
          · rw [F8.b, List.map_append]; rfl
          · rw [F8.c, List.map_append]; rfl
          · rw [F8.d, List.map_append]; rfl
          · intro j u e e1 e2
            rcases get_snocS e1 with e3 | ⟨rfl, rfl⟩
            · have lt := (List.getElem?_eq_some_iff.mp e3).1
              rw [List.getElem?_append_left (by rw [hE]; exact lt)] at e2
              exact ((h6 j u e e3 e2).tk T8).app (n.cl u (List.mem_of_getElem? e3))
            · rw [List.getElem?_append_right (by rw [hE]; exact Nat.le_refl _), hE, Nat.sub_self] at e2
              cases e2
              refine Ent.app hk ⟨hh8, hi8, fr8, st8⟩
end
end Fw

set_option maxRecDepth 100000
set_option maxHeartbeats 4000000
namespace Fw
open PySem PySem.Spec PyProof.Rows L2
/-! ### equal as data, equal as trees -/
theorem dF_head (t : F) : ∃ r, dF t = .tuple (.str (hw t.hd) :: r) := by cases t <;> exact ⟨_, rfl⟩
theorem eqv_word {t u : F} (h : PyData.eqv (dF t) (dF u) = true) : wcode t.hd = wcode u.hd := by
  obtain ⟨r, er⟩ := dF_head t
  obtain ⟨q, eq⟩ := dF_head u
  rw [er, eq] at h
  simp only [PyData.eqv, PyData.eqvAll, Bool.and_eq_true, beq_iff_eq] at h
  exact hw_code h.1
theorem eqv_F : ∀ t u : F, PyData.eqv (dF t) (dF u) = true → t = u
  | .nul b, u, h => by
    have c := eqv_word h
    cases u with
    | nul b' => cases b <;> cases b' <;> first | rfl | cases c
    | leaf k n => cases b <;> cases k <;> cases c
    | two b' f g => cases b <;> cases b' <;> cases c
    | one k n f => cases b <;> cases k <;> cases c
  | .leaf k n, u, h => by
    have c := eqv_word h
    cases u with
    | nul b => cases b <;> cases k <;> cases c
    | leaf k' n' =>
      simp only [dF, hv, dV, List.map_cons, List.map_nil, PyData.eqv, PyData.eqvAll, Bool.and_eq_true, beq_iff_eq, and_true] at h
      rw [h.2]
      cases k <;> cases k' <;> first | rfl | cases c
    | two b f g => cases k <;> cases b <;> cases c
    | one k' n' f => cases k <;> cases k' <;> cases c
  | .two b f g, u, h => by
    have c := eqv_word h
    cases u with
    | nul b' => cases b <;> cases b' <;> cases c
    | leaf k n => cases b <;> cases k <;> cases c
    | two b' f' g' =>
      simp only [dF, hv, dV, List.map_cons, List.map_nil, List.cons_append, List.nil_append, PyData.eqv, PyData.eqvAll, Bool.and_eq_true, beq_iff_eq, and_true] at h
      rw [eqv_F f f' h.2.1, eqv_F g g' h.2.2]
      cases b <;> cases b' <;> first | rfl | cases c
    | one k n f' => cases b <;> cases k <;> cases c
  | .one k n f, u, h => by
    have c := eqv_word h
    cases u with
    | nul b => cases b <;> cases k <;> cases c
    | leaf k' n' => cases k <;> cases k' <;> cases c
    | two b f' g => cases k <;> cases b <;> cases c
    | one k' n' f' =>
      simp only [dF, hv, dV, List.map_cons, List.map_nil, List.cons_append, List.nil_append, PyData.eqv, PyData.eqvAll, Bool.and_eq_true, beq_iff_eq, and_true] at h
      rw [eqv_F f f' h.2.2, h.2.1]
      cases k <;> cases k' <;> first | rfl | cases c
theorem eqv_dF (t u : F) : PyData.eqv (dF t) (dF u) = decide (t = u) := by
  by_cases e : t = u
  · rw [e, dF_same, decide_eq_true rfl]
  · rw [decide_eq_false e]
    cases c : PyData.eqv (dF t) (dF u) with
    | false => rfl
    | true => exact absurd (eqv_F t u c) e
def dH (h : Hd) : PyData := .tuple ((hv h).map dV)
theorem dp_hd {K : PySem.W.Frag} {H : Hp} {a : Addr} (h : Hd) (s : SqT K H a (hv h)) : Dp K H (.ref a) (dH h) := by
  cases h with
  | nul b => exact .tup s (.cons (.str _) .nil)
  | leaf k n => exact .tup s (.cons (.str _) (.cons (.int _) .nil))
  | two b => exact .tup s (.cons (.str _) .nil)
  | one k n => exact .tup s (.cons (.str _) (.cons (.int _) .nil))
theorem dH_shaped (h : Hd) : SeqAt.shaped (dH h) = true := by
  have := ok_hw h
  cases h <;> simp only [hw] at this <;> simp [SeqAt.shaped, dH, hv, dV, PyData.canLay0, PyData.canLayAll0, PyData.depth, PyData.depthAll, this]
theorem eqv_var (h : Hd) (n : Int) : PyData.eqv (dH h) (dH (.leaf .var n)) = decide (h = .leaf .var n) := by
  by_cases e : h = .leaf .var n
  · rw [decide_eq_true e, e]
    simp [dH, hv, dV, PyData.eqv, PyData.eqvAll]
  · rw [decide_eq_false e]
    cases c : PyData.eqv (dH h) (dH (.leaf .var n)) with
    | false => rfl
    | true =>
      refine absurd ?_ e
      have z : ∀ h : Hd, ∃ r, dH h = .tuple (.str (hw h) :: r) := fun h => by cases h <;> exact ⟨_, rfl⟩
      have cw : wcode h = wcode (.leaf .var n) := by
        obtain ⟨r, er⟩ := z h
        obtain ⟨q, eq⟩ := z (.leaf .var n)
        rw [er, eq] at c
        simp only [PyData.eqv, PyData.eqvAll, Bool.and_eq_true, beq_iff_eq] at c
        exact hw_code c.1
      refine hd_of cw ?_
      cases h with
      | nul b => cases b <;> cases cw
      | two b => cases b <;> cases cw
      | one k m => cases k <;> cases cw
      | leaf k m =>
        simp only [dH, hv, dV, List.map_cons, List.map_nil, PyData.eqv, PyData.eqvAll, Bool.and_eq_true, beq_iff_eq, and_true] at c
        show some m = some n
        rw [c.2]
theorem Sh.at {P : Program} {w : World} {K : PySem.W.Frag} {SC : Addr} {H : Hp} {r : SR} {S : List F} (n : Sh P w K SC H r S) {t : F} (ht : t ∈ S) : ∃ (E : List Er) (e : Er), H r.ha = some (.lst (E.map fun e => V.ref e.h)) ∧ H r.ia = some (.lst (E.map fun e => V.ref e.i)) ∧
    H r.fa = some (.lst (E.map fun e => V.ref e.f)) ∧ H r.sa = some (.lst (E.map fun e => e.v)) ∧ E[ix S t]? = some e ∧ Ent K H S t e := by
  obtain ⟨E, e1, e2, e3, e4, hE, h6⟩ := n.ents
  obtain ⟨e, he⟩ : ∃ e, E[ix S t]? = some e := ⟨E[ix S t]'(by rw [hE]; exact ix_lt ht), by simp⟩
  exact ⟨E, e, e1, e2, e3, e4, he, h6 _ _ _ (ix_get ht) he⟩
theorem ix_iff {S : List F} {u v : F} (hu : u ∈ S) (hv : v ∈ S) : V.int (ix S u : Nat) = V.int (ix S v : Nat) ↔ u = v :=
  ⟨fun e => ix_inj hu hv (by have := V.int.inj e; omega), fun e => by rw [e]⟩
theorem ix_mem {S : List F} {u : F} (hu : u ∈ S) {l : List F} (hl : ∀ v ∈ l, v ∈ S) : ((ix S u : Nat) : Int) ∈ (l.map fun v => ((ix S v : Nat) : Int)) ↔ u ∈ l := by
  rw [List.mem_map]
  constructor
  · rintro ⟨v, h1, h2⟩
    rw [ix_inj hu (hl v h1) (by omega)]
    exact h1
  · exact fun h => ⟨u, h, rfl⟩
theorem ix_ints (S : List F) (l : List F) : (l.map fun u => V.int (ix S u : Nat)) = (l.map fun v => ((ix S v : Nat) : Int)).map V.int := by rw [List.map_map]; rfl
section
variable {P : Program} {w : World} {K : PySem.W.Frag} {mg : Str → Option Value} {base : Heap} {C J B SC HC STP : Addr}
end
end Fw

set_option maxRecDepth 100000
set_option maxHeartbeats 4000000
namespace Fw
open PySem PySem.Spec PyProof.Rows L2
section
variable {P : Program} {w : World} {K : PySem.W.Frag} {mg : Str → Option Value} {base : Heap} {C J B SC HC STP : Addr}
def spShI (P : Program) (w : World) (K : PySem.W.Frag) (SC : Addr) : Sp := fun vs H Q _ => ∃ (p dx : Addr), vs = [.ref p] ∧ H p = some (.ins SC dx []) ∧ ∀ (r : SR) H', r.p = p → But p H H' → (∀ b, r.Own b → H b = none) → Sh P w K SC H' r [] → Q .non H'
theorem but_same {p : Addr} {H H1 H2 : Hp} (a : But p H H1) (s : Same H1 H2) : But p H H2 := fun b o n e => s b o (a b o n e)
theorem but_put {p : Addr} {H H1 : Hp} (a : But p H H1) (o : HO) : But p H (upd H1 p o) := fun b u n e => by rw [upd_ne n]; exact a b u n e
theorem but_none {p a : Addr} {H H1 : Hp} {o : HO} (bt : But p H H1) (e : H1 p = some o) (h : H1 a = none) : H a = none := by
  cases c : H a with
  | none => rfl
  | some u =>
    have n : a ≠ p := fun z => by rw [z, e] at h; cases h
    rw [bt a u n c] at h
    cases h
theorem ok_Shelf_init {f : Addr} {fd : FuncData} (FF : Fun K "__init__" "Shelf.__init__" s_Shelf_init f fd) (T : Txt K mg C J B) (TS : TxtS K SC) : FnOk P w K mg base CX0 1 f fd a_Shelf_init (spShI P w K SC) := by
  refine FF.ok sc_Shelf_init (fun vs H Q E h => ?_) (fun cdv A outer s H vs Q E hr h => ?_)
  · obtain ⟨p, dx, rfl, _⟩ := h
    rfl
  · obtain ⟨p, dx, rfl, hp, k⟩ := h
    refine ⟨_, (pss_cons (ps_fld (pv 0) (pe_lst pa_nil) rfl)
      (pss_cons (ps_fld (pv 0) (pe_lst pa_nil) rfl)
      (pss_cons (ps_fld (pv 0) (pe_lst pa_nil) rfl)
      (pss_cons (ps_fld (pv 0) (pe_lst pa_nil) rfl)
      (pss_one (ps_fld (pv 0) (@id (PE _ _ (tDNewN P w)) pe_dnewN) rfl)))))), ?_⟩
    have b0 := But.refl p H
    have g0 := hp
    refine ⟨Nat.zero_le _, fun ha hha => ?_⟩
    have s0 := Same.new (o := .lst []) hha
    have eha : (upd H ha (.lst [])) ha = some (.lst []) := upd_same
    have g0' := s0 _ _ g0
    have b0' := but_same b0 s0
    have fha := but_none b0 g0 hha
    generalize upd H ha (.lst []) = G0 at s0 eha g0' b0' 
    refine ⟨.ref p, rfl, p, SC, dx, _, rfl, g0', TS.cl, TS.nH, by show 0 < 1000; decide, ?_⟩
    have b1 := but_put b0' (.ins SC dx [("heads", V.ref ha)])
    have g1 : (upd G0 p (.ins SC dx [("heads", V.ref ha)])) p = some (.ins SC dx [("heads", V.ref ha)]) := upd_same
    have eha : (upd G0 p (.ins SC dx [("heads", V.ref ha)])) ha = some (.lst []) := by rw [upd_ne (ne_of eha g0' (by intro z; cases z))]; exact eha
    change _
    rw [show putF "heads" (V.ref ha) ([] : List (Str × V)) = ([("heads", V.ref ha)] : List (Str × V)) from rfl]
    generalize upd G0 p (.ins SC dx [("heads", V.ref ha)]) = H1 at b1 g1 eha
    refine ⟨Nat.zero_le _, fun ia hia => ?_⟩
    have s1 := Same.new (o := .lst []) hia
    have eia : (upd H1 ia (.lst [])) ia = some (.lst []) := upd_same
    have g1' := s1 _ _ g1
    have nhaia : ha ≠ ia := ne_of_none eha hia
    have eha := s1 _ _ eha
    have b1' := but_same b1 s1
    have fia := but_none b1 g1 hia
    generalize upd H1 ia (.lst []) = G1 at s1 eia g1' b1' eha
    refine ⟨.ref p, rfl, p, SC, dx, _, rfl, g1', TS.cl, TS.nI, by show 1 < 1000; decide, ?_⟩
    have b2 := but_put b1' (.ins SC dx [("heads", V.ref ha), ("inner", V.ref ia)])
    have g2 : (upd G1 p (.ins SC dx [("heads", V.ref ha), ("inner", V.ref ia)])) p = some (.ins SC dx [("heads", V.ref ha), ("inner", V.ref ia)]) := upd_same
    have eha : (upd G1 p (.ins SC dx [("heads", V.ref ha), ("inner", V.ref ia)])) ha = some (.lst []) := by rw [upd_ne (ne_of eha g1' (by intro z; cases z))]; exact eha
    have eia : (upd G1 p (.ins SC dx [("heads", V.ref ha), ("inner", V.ref ia)])) ia = some (.lst []) := by rw [upd_ne (ne_of eia g1' (by intro z; cases z))]; exact eia
    change _
    rw [show putF "inner" (V.ref ia) ([("heads", V.ref ha)] : List (Str × V)) = ([("heads", V.ref ha), ("inner", V.ref ia)] : List (Str × V)) from rfl]
    generalize upd G1 p (.ins SC dx [("heads", V.ref ha), ("inner", V.ref ia)]) = H2 at b2 g2 eha eia
    refine ⟨Nat.zero_le _, fun fa hfa => ?_⟩
    have s2 := Same.new (o := .lst []) hfa
    have efa : (upd H2 fa (.lst [])) fa = some (.lst []) := upd_same
    have g2' := s2 _ _ g2
    have nhafa : ha ≠ fa := ne_of_none eha hfa
    have eha := s2 _ _ eha
    have niafa : ia ≠ fa := ne_of_none eia hfa
    have eia := s2 _ _ eia
    have b2' := but_same b2 s2
    have ffa := but_none b2 g2 hfa
    generalize upd H2 fa (.lst []) = G2 at s2 efa g2' b2' eha eia
    refine ⟨.ref p, rfl, p, SC, dx, _, rfl, g2', TS.cl, TS.nF, by show 2 < 1000; decide, ?_⟩
    have b3 := but_put b2' (.ins SC dx [("heads", V.ref ha), ("inner", V.ref ia), ("free", V.ref fa)])
    have g3 : (upd G2 p (.ins SC dx [("heads", V.ref ha), ("inner", V.ref ia), ("free", V.ref fa)])) p = some (.ins SC dx [("heads", V.ref ha), ("inner", V.ref ia), ("free", V.ref fa)]) := upd_same
    have eha : (upd G2 p (.ins SC dx [("heads", V.ref ha), ("inner", V.ref ia), ("free", V.ref fa)])) ha = some (.lst []) := by rw [upd_ne (ne_of eha g2' (by intro z; cases z))]; exact eha
    have eia : (upd G2 p (.ins SC dx [("heads", V.ref ha), ("inner", V.ref ia), ("free", V.ref fa)])) ia = some (.lst []) := by rw [upd_ne (ne_of eia g2' (by intro z; cases z))]; exact eia
    have efa : (upd G2 p (.ins SC dx [("heads", V.ref ha), ("inner", V.ref ia), ("free", V.ref fa)])) fa = some (.lst []) := by rw [upd_ne (ne_of efa g2' (by intro z; cases z))]; exact efa
    change _
    rw [show putF "free" (V.ref fa) ([("heads", V.ref ha), ("inner", V.ref ia)] : List (Str × V)) = ([("heads", V.ref ha), ("inner", V.ref ia), ("free", V.ref fa)] : List (Str × V)) from rfl]
    generalize upd G2 p (.ins SC dx [("heads", V.ref ha), ("inner", V.ref ia), ("free", V.ref fa)]) = H3 at b3 g3 eha eia efa
    refine ⟨Nat.zero_le _, fun sa hsa => ?_⟩
    have s3 := Same.new (o := .lst []) hsa
    have esa : (upd H3 sa (.lst [])) sa = some (.lst []) := upd_same
    have g3' := s3 _ _ g3
    have nhasa : ha ≠ sa := ne_of_none eha hsa
    have eha := s3 _ _ eha
    have niasa : ia ≠ sa := ne_of_none eia hsa
    have eia := s3 _ _ eia
    have nfasa : fa ≠ sa := ne_of_none efa hsa
    have efa := s3 _ _ efa
    have b3' := but_same b3 s3
    have fsa := but_none b3 g3 hsa
    generalize upd H3 sa (.lst []) = G3 at s3 esa g3' b3' eha eia efa
    refine ⟨.ref p, rfl, p, SC, dx, _, rfl, g3', TS.cl, TS.nS, by show 3 < 1000; decide, ?_⟩
    have b4 := but_put b3' (.ins SC dx [("heads", V.ref ha), ("inner", V.ref ia), ("free", V.ref fa), ("statements", V.ref sa)])
    have g4 : (upd G3 p (.ins SC dx [("heads", V.ref ha), ("inner", V.ref ia), ("free", V.ref fa), ("statements", V.ref sa)])) p = some (.ins SC dx [("heads", V.ref ha), ("inner", V.ref ia), ("free", V.ref fa), ("statements", V.ref sa)]) := upd_same
    have eha : (upd G3 p (.ins SC dx [("heads", V.ref ha), ("inner", V.ref ia), ("free", V.ref fa), ("statements", V.ref sa)])) ha = some (.lst []) := by rw [upd_ne (ne_of eha g3' (by intro z; cases z))]; exact eha
    have eia : (upd G3 p (.ins SC dx [("heads", V.ref ha), ("inner", V.ref ia), ("free", V.ref fa), ("statements", V.ref sa)])) ia = some (.lst []) := by rw [upd_ne (ne_of eia g3' (by intro z; cases z))]; exact eia
    have efa : (upd G3 p (.ins SC dx [("heads", V.ref ha), ("inner", V.ref ia), ("free", V.ref fa), ("statements", V.ref sa)])) fa = some (.lst []) := by rw [upd_ne (ne_of efa g3' (by intro z; cases z))]; exact efa
    have esa : (upd G3 p (.ins SC dx [("heads", V.ref ha), ("inner", V.ref ia), ("free", V.ref fa), ("statements", V.ref sa)])) sa = some (.lst []) := by rw [upd_ne (ne_of esa g3' (by intro z; cases z))]; exact esa
    change _
    rw [show putF "statements" (V.ref sa) ([("heads", V.ref ha), ("inner", V.ref ia), ("free", V.ref fa)] : List (Str × V)) = ([("heads", V.ref ha), ("inner", V.ref ia), ("free", V.ref fa), ("statements", V.ref sa)] : List (Str × V)) from rfl]
    generalize upd G3 p (.ins SC dx [("heads", V.ref ha), ("inner", V.ref ia), ("free", V.ref fa), ("statements", V.ref sa)]) = H4 at b4 g4 eha eia efa esa
    intro na hna
    have s4 := Same.new (o := DNs P w na []) hna
    have ena : (upd H4 na (DNs P w na [])) na = some (DNs P w na []) := upd_same
    have g4' := s4 _ _ g4
    have b4' := but_same b4 s4
    have fna := but_none b4 g4 hna
    have eha := s4 _ _ eha
    have eia := s4 _ _ eia
    have efa := s4 _ _ efa
    have esa := s4 _ _ esa
    refine ⟨.ref p, rfl, p, SC, dx, _, rfl, g4', TS.cl, TS.nN, by show 4 < 1000; decide, ?_⟩
    generalize upd H4 na (DNs P w na []) = G4 at s4 ena g4' b4' eha eia efa esa
    rw [show putF "_numbers" (V.ref na) ([("heads", V.ref ha), ("inner", V.ref ia), ("free", V.ref fa), ("statements", V.ref sa)] : List (Str × V)) = ([("heads", V.ref ha), ("inner", V.ref ia), ("free", V.ref fa), ("statements", V.ref sa), ("_numbers", V.ref na)] : List (Str × V)) from rfl]
    have nn : ∀ (a : Addr) (u : HO), G4 a = some u → (∀ fs, u ≠ .ins SC dx fs) → (upd G4 p (.ins SC dx [("heads", V.ref ha), ("inner", V.ref ia), ("free", V.ref fa), ("statements", V.ref sa), ("_numbers", V.ref na)])) a = some u := fun a u e ne => by
      rw [upd_ne (ne_of e g4' (ne _))]
      exact e
    refine k ⟨p, dx, ha, ia, fa, sa, na⟩ _ rfl (but_put b4' _) (fun b ow => by rcases ow with rfl | rfl | rfl | rfl | rfl <;> assumption) ⟨upd_same, List.nodup_nil, fun t ht => (nomatch ht), fun t ht => (nomatch ht), ⟨nhaia, nhafa, nhasa, niafa, niasa, nfasa⟩, ⟨[], nn _ _ eha (by intro _ z; cases z), nn _ _ eia (by intro _ z; cases z), nn _ _ efa (by intro _ z; cases z), nn _ _ esa (by intro _ z; cases z), rfl, fun i t e h => by cases h⟩,
      ⟨[], nn _ _ ena (by intro _ z; cases z), fun e he => (nomatch he), rfl, fun k v => ⟨fun z => (nomatch z), fun ⟨i, t, z, _⟩ => (nomatch z)⟩⟩⟩
/-! ### Shortener -/
theorem grow_new {S S' : List F} {t : F} (g : Grow S S' t) (h : t ∉ S) : S' = S ++ [t] := by
  obtain ⟨⟨T, rfl⟩, mem, _, len⟩ := g
  rw [List.length_append] at len
  have mt := (List.mem_append.mp mem).resolve_left h
  match T, mt, len with
  | [a], mt, _ => rw [List.mem_singleton.mp mt]
  | a :: b :: T, _, len => simp only [List.length_cons] at len; omega
theorem Sh.own {P : Program} {w : World} {K : PySem.W.Frag} {SC : Addr} {H : Hp} {r : SR} {S : List F} (n : Sh P w K SC H r S) {b : Addr} (h : r.Own b) : (∃ xs, H b = some (.lst xs)) ∨ ∃ kvs, H b = some (DNs P w r.na kvs) := by
  obtain ⟨E, e1, e2, e3, e4, _⟩ := n.ents
  obtain ⟨kvs, g1, _⟩ := n.nums
  rcases h with rfl | rfl | rfl | rfl | rfl
  · exact .inl ⟨_, e1⟩
  · exact .inl ⟨_, e2⟩
  · exact .inl ⟨_, e3⟩
  · exact .inl ⟨_, e4⟩
  · exact .inr ⟨_, g1⟩
theorem Sh.notOwn {P : Program} {w : World} {K : PySem.W.Frag} {SC : Addr} {H : Hp} {r : SR} {S : List F} (n : Sh P w K SC H r S) {b : Addr} {o : HO} (h : H b = some o) (n1 : ∀ xs, o ≠ .lst xs) (n2 : ∀ p, o ≠ .ext p) : ¬ r.Own b := fun z => by
  rcases n.own z with ⟨xs, e⟩ | ⟨kvs, e⟩
  · rw [h] at e; exact n1 _ (Option.some.inj e)
  · rw [h] at e; exact n2 _ (Option.some.inj e)
theorem Sh.notOwn' {P : Program} {w : World} {K : PySem.W.Frag} {SC : Addr} {H : Hp} {r : SR} {S : List F} (n : Sh P w K SC H r S) {b : Addr} (h : H b = none) : ¬ r.Own b := fun z => by
  rcases n.own z with ⟨xs, e⟩ | ⟨kvs, e⟩ <;> (rw [h] at e; cases e)
/-- all but own and p is as it was -/
def KxB (r : SR) (p : Addr) (H H' : Hp) : Prop := ∀ b o, ¬ r.Own b → b ≠ p → H b = some o → H' b = some o
end
end Fw

set_option maxRecDepth 100000
set_option maxHeartbeats 4000000
namespace Fw
open PySem PySem.Spec PyProof.Rows L2
def mapK (g : F → F) : F → F
  | .two b f h => .two b (g f) (g h)
  | .one k n f => .one k n (g f)
  | t => t
theorem mapK_hd (g : F → F) (t : F) : (mapK g t).hd = t.hd := by cases t <;> rfl
theorem mapK_kids (g : F → F) (t : F) : (mapK g t).kids = t.kids.map g := by cases t <;> rfl
theorem mapK_id (t : F) : mapK (fun x => x) t = t := by cases t <;> rfl
theorem mapK_sh (t : F) : repF (mapK shF t) = shF t := by
  have := sh_rep t
  cases t with
  | nul b => rfl
  | leaf k n => rfl
  | two b f g => exact this.symm
  | one k n f => exact this.symm
theorem mapK_size (t : F) : (mapK shF t).size ≤ t.size := by
  cases t with
  | nul b => exact Nat.le_refl _
  | leaf k n => exact Nat.le_refl _
  | two b f g => have := (size_sh f).1; have := (size_sh g).1; simp only [mapK, F.size]; omega
  | one k n f => have := (size_sh f).1; simp only [mapK, F.size]; omega
theorem subs_size : ∀ (t u : F), u ∈ subs t → u.size ≤ t.size
  | .nul _, u, h => by rw [List.mem_singleton.mp h]; exact Nat.le_refl _
  | .leaf _ _, u, h => by rw [List.mem_singleton.mp h]; exact Nat.le_refl _
  | .two b f g, u, h => by
    simp only [subs, List.mem_cons, List.mem_append] at h
    rcases h with h | h | h
    · rw [h]; exact Nat.le_refl _
    · have := subs_size f u h; simp only [F.size]; omega
    · have := subs_size g u h; simp only [F.size]; omega
  | .one k n f, u, h => by
    simp only [subs, List.mem_cons] at h
    rcases h with h | h
    · rw [h]; exact Nat.le_refl _
    · have := subs_size f u h; simp only [F.size]; omega
theorem Parts.keep {K : PySem.W.Frag} {C : Addr} {H H' : Hp} {R : List PRec} {L : List (Hd × Int)} (k : ∀ b o, (∃ pr ∈ R, b = pr.p ∨ b = pr.l) → H b = some o → H' b = some o) (t : TKp K H H') (h : Parts K C H R L) : Parts K C H' R L :=
  ⟨h.1, fun i pr hd a e1 e2 => by
    have z := h.2 i pr hd a e1 e2
    exact ⟨k _ _ ⟨pr, List.mem_of_getElem? e1, .inl rfl⟩ z.ob, t _ _ z.hd, k _ _ ⟨pr, List.mem_of_getElem? e1, .inr rfl⟩ z.inn⟩⟩
theorem Parts.nthL {K : PySem.W.Frag} {C : Addr} {H : Hp} {t : F} {R : List PRec} (PR : Parts K C H R (pre t (-1) 0)) {i : Nat} (hi : i < t.size) :
    ∃ r pr, (infos t)[i]? = some r ∧ R[i]? = some pr ∧ PartIs K C H pr r.sub.hd r.aro (inPlaces r.sub i) := by
  have lenI : (infos t).length = t.size := info_len _ _ _ _
  have lenR : R.length = t.size := by rw [PR.1, pre_len]
  obtain ⟨r, hr⟩ : ∃ r, (infos t)[i]? = some r := ⟨(infos t)[i]'(by omega), by simp⟩
  obtain ⟨pr, hp⟩ : ∃ pr, R[i]? = some pr := ⟨R[i]'(by omega), by simp⟩
  have el : (pre t (-1) 0)[i]? = some (r.sub.hd, r.aro) := by rw [pre, List.getElem?_map, hr]; rfl
  have z := PR.2 i pr _ _ hp el
  have aro : (pre t (-1) 0).map (·.2) = arounds (infos t) := by rw [pre, List.map_map]; rfl
  rw [aro, kids_at hr] at z
  exact ⟨r, pr, hr, hp, z⟩
/-- the loop over the parts, from the last one: i of them are done -/
structure LS (P : Program) (w : World) (K : PySem.W.Frag) (C SC : Addr) (g : F → F) (t : F) (H0 G : Hp) (r : SR) (pa na : Addr) (R : List PRec) (S0 S : List F) (i : Nat) : Prop where
  kx : Kx r H0 G
  tk : TKp K H0 G
  sh : Sh P w K SC G r S
  app : ∃ T, S = S0 ++ T
  len : S.length ≤ S0.length + i
  gpa : G pa = some (.lst (R.map fun (p : PRec) => V.ref p.p))
  prt : Parts K C G R (pre t (-1) 0)
  gna : ∃ ms, G na = some (.lst ms) ∧ ms.length = t.size ∧ ∀ j rr, t.size - i ≤ j → (infos t)[j]? = some rr → g rr.sub ∈ S ∧ ms[j]? = some (.int (ix S (g rr.sub) : Nat))
  out : ¬ r.Own na ∧ ¬ r.Own pa ∧ pa ≠ na ∧ ∀ p ∈ R, ¬ r.Own p.p ∧ ¬ r.Own p.l ∧ p.p ≠ na ∧ p.l ≠ na
  fresh : H0 na = none
theorem LS.next {P : Program} {w : World} {K : PySem.W.Frag} {C SC : Addr} {g : F → F} {t u : F} {H0 G G2 G3 G4 : Hp} {r : SR} {pa na : Addr} {R : List PRec} {S0 S S' : List F} {i j : Nat} {rr : Rec} (L : LS P w K C SC g t H0 G r pa na R S0 S i)
    (s : Same G G2) (kx : Kx r G2 G3) (tk : TKp K G2 G3) (sh : Sh P w K SC G3 r S') (gr : Grow S S' u) (s4 : Same G3 G4) (hi : i < t.size) (hj : j = t.size - 1 - i) (hr : (infos t)[j]? = some rr) (hv : g rr.sub ∈ S') :
    ∃ ms, G4 na = some (.lst ms) ∧ ms.length = t.size ∧ ∀ v, v = V.int (ix S' (g rr.sub) : Nat) → LS P w K C SC g t H0 (upd G4 na (.lst (ms.set j v))) r pa na R S0 S' (i + 1) := by
  obtain ⟨ms, gm, lm, inv⟩ := L.gna
  obtain ⟨o1, o2, o3, o4⟩ := L.out
  obtain ⟨T, eT⟩ := gr.app
  have gm4 : G4 na = some (.lst ms) := s4 _ _ (kx _ _ o1 (s _ _ gm))
  have toG4 : ∀ b o, ¬ r.Own b → G b = some o → G4 b = some o := fun b o n e => s4 _ _ (kx _ _ n (s _ _ e))
  have tkG4 : TKp K G G4 := (TKp.same s).trans (tk.trans (.same s4))
  refine ⟨ms, gm4, lm, fun v hv' => ?_⟩
  have t5 := TKp.lst (K := K) (o' := .lst (ms.set j v)) gm4
  have k5 : ∀ b o, b ≠ na → G4 b = some o → (upd G4 na (.lst (ms.set j v))) b = some o := fun b o n e => by rw [upd_ne n]; exact e
  have at5 : (upd G4 na (.lst (ms.set j v))) na = some (.lst (ms.set j v)) := upd_same
  generalize upd G4 na (.lst (ms.set j v)) = G5 at t5 k5 at5
  have sh4 := sh.same s4
  refine ⟨fun b o n e => ?_, L.tk.trans (tkG4.trans t5), sh4.keep (fun b o c e => k5 b o ?_ e) t5, ?_, ?_, ?_, ?_, ⟨_, at5, by rw [List.length_set]; exact lm, fun j' rr' hj' hr' => ?_⟩, L.out, L.fresh⟩
  · exact k5 b o (fun z => by rw [z, L.fresh] at e; cases e) (toG4 b o n (L.kx b o n e))
  · rcases c with c | c
    · exact fun z => o1 (z ▸ c)
    · rw [c]
      exact ne_of sh4.obj gm4 (by intro z; cases z)
  · obtain ⟨T0, e0⟩ := L.app
    exact ⟨T0 ++ T, by rw [eT, e0, List.append_assoc]⟩
  · have := gr.len
    have := L.len
    omega
  · exact k5 _ _ o3 (toG4 _ _ o2 L.gpa)
  · refine L.prt.keep (fun b o c e => ?_) (tkG4.trans t5)
    obtain ⟨p, hp, c⟩ := c
    obtain ⟨p1, p2, p3, p4⟩ := o4 p hp
    rcases c with rfl | rfl
    · exact k5 _ _ p3 (toG4 _ _ p1 e)
    · exact k5 _ _ p4 (toG4 _ _ p2 e)
  · by_cases e : j' = j
    · subst e
      rw [hr] at hr'
      cases hr'
      have : j' < ms.length := by omega
      exact ⟨hv, by rw [List.getElem?_set_self this, hv']⟩
    · obtain ⟨m1, m2⟩ := inv j' rr' (by omega) hr'
      refine ⟨(gr.all _).mpr (.inl m1), ?_⟩
      rw [List.getElem?_set_ne (fun q => e q.symm), m2, eT, ix_app m1]
section
variable {P : Program} {w : World} {K : PySem.W.Frag} {mg : Str → Option Value} {base : Heap} {C J B SC HC STP : Addr}
def spNumd (P : Program) (w : World) (K : PySem.W.Frag) (SC : Addr) : Sp := fun vs H Q _ => ∃ (r : SR) (v : V) (S : List F) (t : F), vs = [.ref r.p, v] ∧ Sh P w K SC H r S ∧ IsF K H v t ∧ t.size ≤ 1000 ∧ (∃ Vs : List Int, (∀ u ∈ subs t, ∀ x ∈ fv u, x ∈ Vs) ∧ Vs.length ≤ 63) ∧ S.length ≤ 10 ∧
  ∀ S' H', Kx r H H' → TKp K H H' → Sh P w K SC H' r S' → (∃ T, S' = S ++ T) → S'.length ≤ S.length + t.size → (∀ u, u ∈ S' ↔ u ∈ S ∨ u ∈ subs t) → Q (.int (ix S' t : Nat)) H'
theorem ok_numbered {f fv' : Addr} {fd fdv : FuncData} (FF : Fun K "numbered" "Shelf.numbered" s_Shelf_numbered f fd) (T : Txt K mg C J B) (TS : TxtS K SC) (h_parts_of : Has P w K mg base "parts_of" 3 a_parts_of (spPartsN K C))
    (m_Shelf_number : Meth K SC "number" fv') (g_Shelf_number : FnOk P w K mg base CX0 2 fv' fdv a_Shelf_number (spNum P w K SC)) (b_Shelf_number : Binds K fdv a_Shelf_number []) : FnOk P w K mg base CX0 4 f fd a_Shelf_numbered (spNumd P w K SC) := by
  refine FF.ok sc_Shelf_numbered (fun vs H Q E h => ?_) (fun cdv A outer s H vs Q E hr h => ?_)
  · obtain ⟨r, v, S, t, rfl, _⟩ := h
    rfl
  · obtain ⟨r, v, S0, t, rfl, sh0, ht, hsz, ⟨Vs, hV, hVl⟩, hS, k⟩ := h
    refine ⟨_, (pss_cons (ps_set (i := 2) sc_Shelf_numbered.nd rfl (.inl rfl) (pe_callH h_parts_of (hr.mono (by omega)) (pa_cons (pv 1) pa_nil)))
      (pss_cons (ps_set (i := 3) sc_Shelf_numbered.nd rfl (.inr rfl) (pe_op op_rep (pe_lst (pa_cons pe_int pa_nil)) (pe_callB call_len_seq rfl T.z_len (by decide +kernel) (pa_cons (pv 2) pa_nil))))
      (pss_cons (ps_for PassesOwn.never rfl (pi_revR rfl T.z_reversed (prg_1 rfl T.z_range (pe_callB call_len_seq rfl T.z_len (by decide +kernel) (pa_cons (pv 2) pa_nil)))) (pg_name (i := 4) sc_Shelf_numbered.nd rfl (.inl rfl)) (pss_cons (ps_set (i := 5) sc_Shelf_numbered.nd rfl (.inl rfl) (pe_callTy call_tuple_of rfl T.z_tuple (by decide +kernel) (pa_cons (pe_lc (own := [("place", 6)]) (g := gName 6) rfl sc_Shelf_numbered.nd (pi_list (pe_fld (pe_ix ix_list (pv 2) (pv 4) (fun _ _ => rfl)) rfl)) (blkOk_by (own := [("place", 6)]) (N := n_Shelf_numbered) (sc := defScope s_Shelf_numbered) (by decide +kernel)) (fun _ _ _ _ _ => (pg_name (i := 6) sc_Shelf_numbered.nd rfl (.inl rfl))) (fun _ _ _ _ _ => pts_nil) (fun _ _ _ _ _ => (pe_ix (@id (IxR _ (rIxL K)) ix_list) (pv 3) (pv 6) (fun _ _ => rfl)))) pa_nil)))
      (pss_one (ps_asg (pe_meth (pv 0) TS.cl m_Shelf_number g_Shelf_number (hr.mono (by omega)) b_Shelf_number .nil pass0 (pa_cons (pe_fld (pe_ix ix_list (pv 2) (pv 4) (fun _ _ => rfl)) rfl) (pa_cons (pv 5) pa_nil))) (pg_sub (pv 3) (pv 4) set_list)))))
      (pss_one (ps_ret (pe_ix ix_list (pv 3) pe_int (fun _ _ => rfl))))))), ?_⟩
    have lenI : (infos t).length = t.size := info_len _ _ _ _
    refine ⟨v, rfl, v, t, rfl, ht, by omega, fun pa R H1 s1 gpa npa PR nl => ?_⟩
    have lenR : R.length = t.size := by rw [PR.1, pre_len]
    have RLn : (R.map fun (p : PRec) => V.ref p.p).length = t.size := by rw [List.length_map, lenR]
    refine ⟨by show 1 ≤ sizeLine; decide, fun o ho => ?_⟩
    have so := Same.new (o := .lst [V.int 0]) ho
    have go : (upd H1 o (.lst [V.int 0])) o = some (.lst [V.int 0]) := upd_same
    have s2 := s1.trans so
    have gpa2 := so _ _ gpa
    have PR2 := PR.keep (fun b u _ e => so b u e) (TKp.same so)
    generalize upd H1 o (.lst [V.int 0]) = H2 at so go s2 gpa2 PR2
    refine ⟨.ref pa, rfl, pa, _, rfl, .inl (SqL.of gpa2), ?_⟩
    rw [RLn]
    refine ⟨o, (t.size : Nat), _, rfl, rfl, go, by omega, by omega, ?_, fun na hna => ?_⟩
    · rw [List.length_singleton, Nat.one_mul, Int.toNat_natCast]
      exact Nat.le_of_lt (small1000 (by omega))
    generalize hM : (List.replicate ((t.size : Nat) : Int).toNat [V.int 0]).flatten = M
    have lenM : M.length = t.size := by
      rw [← hM, List.length_flatten, List.map_replicate, List.sum_replicate_nat]
      simp
    have sm := Same.new (o := .lst M) hna
    have gna : (upd H2 na (.lst M)) na = some (.lst M) := upd_same
    have sh2 := sh0.same s2
    have L0 : LS P w K C SC (fun x => x) t H2 (upd H2 na (.lst M)) r pa na R S0 S0 0 := by
      refine ⟨Kx.same sm, .same sm, sh2.same sm, ⟨[], by simp⟩, Nat.le_refl _, sm _ _ gpa2, PR2.keep (fun b u _ e => sm b u e) (.same sm), ⟨M, gna, lenM, fun j rr hj hjr => ?_⟩, ⟨sh2.notOwn' hna, sh0.notOwn' npa, ne_of_none gpa2 hna, fun p hp => ?_⟩, hna⟩
      · have := (List.getElem?_eq_some_iff.mp hjr).1
        omega
      · obtain ⟨j, hj⟩ := List.mem_iff_getElem?.mp hp
        have jl := (List.getElem?_eq_some_iff.mp hj).1
        obtain ⟨rr, pr, _, hpr, z⟩ := PR2.nthL (i := j) (by omega)
        rw [hj] at hpr
        cases hpr
        exact ⟨sh2.notOwn z.ob (by intro _ z; cases z) (by intro _ z; cases z), sh0.notOwn' (nl p hp), ne_of_none z.ob hna, ne_of_none z.inn hna⟩
    generalize upd H2 na (.lst M) = H3 at L0
    refine ⟨.ref pa, rfl, pa, _, rfl, .inl (SqL.of L0.gpa), (t.size : Nat), by rw [RLn], by omega, by omega, by omega, by omega, ?_⟩
    refine for_rangeC (fun i σ G => ∃ (S : List F) (y4 y5 : Option V), σ = [some (.ref r.p), some v, some (.ref pa), some (.ref na), y4, y5, none] ∧ LS P w K C SC (fun x => x) t H2 G r pa na R S0 S i ∧ ∀ u, u ∈ S → u ∈ S0 ∨ u ∈ subs t) ⟨S0, none, none, rfl, L0, fun u hu => .inl hu⟩ ?_ ?_
    · rintro i σ G hi ⟨S, y4, y5, rfl, L, only⟩
      have hg : ∃ g : F → F, g = fun x => x := ⟨_, rfl⟩
      obtain ⟨g, eg⟩ := hg
      rw [← eg] at L
      have hi' : i < t.size := by omega
      obtain ⟨j, hj⟩ : ∃ j : Nat, j = t.size - 1 - i := ⟨_, rfl⟩
      have ej : (0 : Int) + (((t.size : Nat) : Int) - 0).toNat - 1 + (i : Nat) * (-1) = (j : Nat) := by omega
      rw [ej]
      have jlt : j < t.size := by omega
      obtain ⟨rr, pr, hrr, hpr, z⟩ := L.prt.nthL jlt
      obtain ⟨kl, kr⟩ := kids_recs hrr
      have RL : (R.map fun (p : PRec) => V.ref p.p)[j]? = some (V.ref pr.p) := by rw [List.getElem?_map, hpr]; rfl
      refine ⟨.ref pa, rfl, .int (j : Nat), rfl, pa, _, _, .ref pr.p, rfl, rfl, SqL.of L.gpa, atI_nat (j := j) RL, pr.p, C, pr.dx, _, .ref pr.l, rfl, z.ob, T.cl, T.nI, rfl, pr.l, rfl, ⟨_, SqL.of z.inn⟩, fun D hD => ?_⟩
      obtain ⟨ms, gm, lm, inv⟩ := L.gna
      refine lc_list (xs := (inPlaces rr.sub j).map fun n => V.int (n : Nat)) (fun m G2 => Same G G2 ∧ G2 D = some (.lst ((rr.sub.kids.take m).map fun u => V.int (ix S (g u) : Nat)))) ⟨Same.new hD, by rw [upd_same]; rfl⟩ (fun m G2 _ q => SqL.of (q.1 _ _ z.inn)) ?_ ?_
      · rintro m x G2 hx ⟨s2, gD⟩
        rw [List.getElem?_map] at hx
        obtain ⟨p, hp, rfl⟩ : ∃ p, (inPlaces rr.sub j)[m]? = some p ∧ x = V.int (p : Nat) := by
          cases e : (inPlaces rr.sub j)[m]? with
          | none => rw [e] at hx; cases hx
          | some p => rw [e] at hx; exact ⟨p, rfl, (Option.some.inj hx).symm⟩
        obtain ⟨r', h1, h2, h3⟩ := kr m p hp
        obtain ⟨m1, m2⟩ := inv p r' (by omega) h1
        refine ⟨rfl, .ref na, rfl, .int (p : Nat), rfl, na, _, _, .int (ix S (g r'.sub) : Nat), rfl, rfl, SqL.of (s2 _ _ gm), atI_nat (j := p) m2, _, gD, ?_, ?_, ?_⟩
        · have := F.kids_le rr.sub
          rw [List.length_map, List.length_take]
          exact small1000 (by omega)
        · exact fun b o e => by rw [upd_ne (ne_of_none e hD)]; exact s2 b o e
        · rw [upd_same, List.take_add_one, h2, List.map_append]
          rfl
      rintro G2 ⟨s2, gD⟩
      rw [List.length_map, kl, List.take_length] at gD
      refine ⟨D, _, rfl, .inl ⟨SqL.of gD, fun tp htp => ?_⟩⟩
      have s23 := s2.trans (Same.new (o := .tup (rr.sub.kids.map fun u => V.int (ix S (g u) : Nat))) htp)
      have tpT : SqT K (upd G2 tp (.tup (rr.sub.kids.map fun u => V.int (ix S (g u) : Nat)))) tp (rr.sub.kids.map fun u => V.int (ix S (g u) : Nat)) := SqT.of upd_same
      generalize upd G2 tp (.tup (rr.sub.kids.map fun u => V.int (ix S (g u) : Nat))) = G2 at s23 tpT
      clear s2 gD htp hD
      have z2 := z.same s23
      have hkids : ∀ u ∈ (mapK g rr.sub).kids, u ∈ S := fun u hu => by
        rw [mapK_kids] at hu
        obtain ⟨v, hv, rfl⟩ := List.mem_map.mp hu
        obtain ⟨m, hm⟩ := List.mem_iff_getElem?.mp hv
        have lm' := (List.getElem?_eq_some_iff.mp hm).1
        rw [← kl] at lm'
        obtain ⟨r', h1, h2, h3⟩ := kr m _ (List.getElem?_eq_getElem lm')
        rw [hm] at h2
        cases h2
        exact (inv _ r' (by omega) h1).1
      have tpK : SqT K G2 tp ((mapK g rr.sub).kids.map fun u => V.int (ix S u : Nat)) := by
        rw [mapK_kids, List.map_map]
        exact tpT
      have hdK' : SqT K G2 pr.h (hv (mapK g rr.sub).hd) := by rw [mapK_hd]; exact z2.hd
      have ixj : ∀ ms' : List V, ms'.length = t.size → ixN ms'.length ((j : Nat) : Int) = some j := fun ms' e => by
        unfold ixN
        rw [if_pos (by omega), if_pos (by omega), Int.toNat_natCast]
      have szr : ∃ Vs : List Int, (∀ x ∈ fv (mapK g rr.sub), x ∈ Vs) ∧ Vs.length ≤ 63 := by
        rw [eg, mapK_id]
        exact ⟨Vs, hV rr.sub (by rw [← subs_info t (-1) 0 []]; exact List.mem_map_of_mem (List.mem_of_getElem? hrr)), hVl⟩
      refine ⟨.ref r.p, rfl, r.p, r.dx, _, rfl, (L.sh.same s23).obj, rfl, .ref pa, rfl, .int (j : Nat), rfl, pa, _, _, .ref pr.p, rfl, rfl, SqL.of (s23 _ _ L.gpa), atI_nat (j := j) RL, pr.p, C, pr.dx, _, .ref pr.h, rfl, z2.ob, T.cl, T.nH, rfl, .ref tp, rfl, r, pr.h, tp, S, mapK g rr.sub, rfl, L.sh.same s23, hdK', tpK, hkids, by have := L.len; omega, szr, fun S' G3 kx tk sh' gr => ?_⟩
      have e1 : mapK g rr.sub = g rr.sub := by rw [eg]; exact mapK_id _
      obtain ⟨ms', g4, l4, nxt⟩ := L.next s23 kx tk sh' gr (Same.refl _) hi' hj hrr (by rw [← e1]; exact gr.mem)
      refine ⟨.ref na, rfl, .int (j : Nat), rfl, na, _, _, j, rfl, rfl, g4, ixj ms' l4, ?_⟩
      refine ⟨S', _, _, rfl, by rw [← eg]; exact nxt _ (by rw [e1]), fun u hu => ?_⟩
      rcases (gr.all u).mp hu with h | h
      · exact only u h
      · refine .inr ?_
        rw [h, e1, eg, ← subs_info t (-1) 0 []]
        exact List.mem_map_of_mem (List.mem_of_getElem? hrr)
    · rintro σ G ⟨S, y4, y5, rfl, L, only⟩
      obtain ⟨ms, gm, lm, inv⟩ := L.gna
      obtain ⟨m1, m2⟩ := inv 0 ⟨t, -1, []⟩ (by omega) (info_head _ _ _ _)
      refine ⟨.ref na, rfl, na, _, 0, _, rfl, rfl, SqL.of gm, atI_nat (j := 0) m2, ?_⟩
      refine k S G ((Kx.same s2).trans L.kx) ((TKp.same s2).trans L.tk) L.sh L.app (by have := L.len; omega) fun u => ⟨only u, fun z => ?_⟩
      rcases z with z | z
      · obtain ⟨T0, e⟩ := L.app
        rw [e]
        exact List.mem_append_left _ z
      · rw [← subs_info t (-1) 0 []] at z
        obtain ⟨rr, h1, h2⟩ := List.mem_map.mp z
        obtain ⟨j, hj⟩ := List.mem_iff_getElem?.mp h1
        rw [← h2]
        exact (inv j rr (by omega) hj).1
end
end Fw

/-! Closures: what follows from a statement is a part of it with its variables put. Pure mathematics. -/
namespace Fw
def putF (x : Int) (u : F) : F → F
  | .nul b => .nul b
  | .leaf .var y => if y = x then u else .leaf .var y
  | .leaf .has n => .leaf .has n
  | .leaf .lacks n => .leaf .lacks n
  | .two b f g => .two b (putF x u f) (putF x u g)
  | .one k y f => if k.bind = true ∧ y = x then .one k y f else .one k y (putF x u f)
/-- what follows -/
def fol : F → List F
  | .two _ f g => [f, g]
  | .one k n f => if k.bind = true then [putF n (.one k n f) f] else [f]
  | _ => []
abbrev Sb := List (Int × F)
def getS (r : Sb) (y : Int) : Option F := (r.find? fun p => decide (p.1 = y)).map (·.2)
def delS (n : Int) (r : Sb) : Sb := r.filter fun p => decide (p.1 ≠ n)
def app (r : Sb) : F → F
  | .nul b => .nul b
  | .leaf .var y => (getS r y).getD (.leaf .var y)
  | .leaf .has n => .leaf .has n
  | .leaf .lacks n => .leaf .lacks n
  | .two b f g => .two b (app r f) (app r g)
  | .one k n f => if k.bind = true then .one k n (app (delS n r) f) else .one k n (app r f)
/-- all parts with their variables put, the outermost first -/
def exl (r : Sb) : F → List F
  | .two b f g => app r (.two b f g) :: (exl r f ++ exl r g)
  | .one k n f => app r (.one k n f) :: (if k.bind = true then exl ((n, app r (.one k n f)) :: r) f else exl r f)
  | t => [app r t]
theorem exl_len : ∀ (t : F) (r : Sb), (exl r t).length = t.size
  | .nul _, _ => rfl
  | .leaf _ _, _ => rfl
  | .two b f g, r => by simp [exl, F.size, exl_len f, exl_len g]
  | .one k n f, r => by
    simp only [exl, List.length_cons, F.size]
    split <;> rw [exl_len f]
theorem exl_head (r : Sb) (t : F) : app r t ∈ exl r t := by cases t <;> simp [exl]
theorem put_none {x : Int} {u : F} : ∀ t : F, x ∉ fv t → putF x u t = t
  | .nul _, _ => rfl
  | .leaf .has _, _ => rfl
  | .leaf .lacks _, _ => rfl
  | .leaf .var y, h => by
    simp only [putF]
    rw [if_neg]
    intro e
    exact h (by rw [e]; exact List.mem_singleton.mpr rfl)
  | .two b f g, h => by
    have h : x ∉ fv f ++ fv g := h
    rw [List.mem_append, not_or] at h
    simp only [putF, put_none f h.1, put_none g h.2]
  | .one k y f, h => by
    simp only [putF]
    split
    · rfl
    · rename_i c
      have : x ∉ fv f := fun z => h (by
        simp only [fv]
        split
        · rename_i hk
          exact List.mem_filter.mpr ⟨z, decide_eq_true fun e => c ⟨hk, e.symm⟩⟩
        · exact z)
      rw [put_none f this]
theorem getS_del_same (n : Int) (r : Sb) : getS (delS n r) n = none := by
  unfold getS delS
  rw [Option.map_eq_none_iff, List.find?_eq_none]
  intro p hp
  have := (List.mem_filter.mp hp).2
  simpa using this
theorem getS_del {n y : Int} (r : Sb) (h : y ≠ n) : getS (delS n r) y = getS r y := by
  unfold getS delS
  congr 1
  induction r with
  | nil => rfl
  | cons p r ih =>
    by_cases e : p.1 = n
    · have q : ¬ p.1 = y := fun z => h (z.symm.trans e)
      rw [List.filter_cons_of_neg (by simp [e]), ih, List.find?_cons_of_neg (by simp [q])]
    · rw [List.filter_cons_of_pos (by simp [e])]
      by_cases q : p.1 = y
      · rw [List.find?_cons_of_pos (by simp [q]), List.find?_cons_of_pos (by simp [q])]
      · rw [List.find?_cons_of_neg (by simp [q]), List.find?_cons_of_neg (by simp [q]), ih]
theorem del_del (n m : Int) (r : Sb) : delS n (delS m r) = delS m (delS n r) := by
  unfold delS
  rw [List.filter_filter, List.filter_filter]
  exact List.filter_congr fun p _ => Bool.and_comm _ _
theorem del_idem (n : Int) (r : Sb) : delS n (delS n r) = delS n r := by
  unfold delS
  rw [List.filter_filter]
  exact List.filter_congr fun p _ => Bool.and_self _
theorem del_cons_same (n : Int) (u : F) (r : Sb) : delS n ((n, u) :: r) = delS n r := by
  unfold delS
  rw [List.filter_cons_of_neg (by simp)]
theorem del_cons {n m : Int} (h : m ≠ n) (u : F) (r : Sb) : delS n ((m, u) :: r) = (m, u) :: delS n r := by
  unfold delS
  rw [List.filter_cons_of_pos (by simp [h])]
theorem getS_mem {r : Sb} {y : Int} {u : F} (h : getS r y = some u) : (y, u) ∈ r := by
  unfold getS at h
  obtain ⟨p, hp, rfl⟩ := Option.map_eq_some_iff.mp h
  have h1 := List.mem_of_find?_eq_some hp
  have h2 : p.1 = y := by
    have := List.find?_some hp
    simpa using this
  rw [← h2]
  exact h1
def ClS (r : Sb) : Prop := ∀ p ∈ r, fv p.2 = []
theorem ClS.del {r : Sb} (h : ClS r) (n : Int) : ClS (delS n r) := fun p hp => h p (List.mem_filter.mp hp).1
theorem ClS.cons {r : Sb} (h : ClS r) {n : Int} {u : F} (hu : fv u = []) : ClS ((n, u) :: r) := fun p hp => by
  rcases List.mem_cons.mp hp with rfl | hp
  · exact hu
  · exact h p hp
theorem put_app : ∀ (f : F) (r : Sb) (n : Int) (u : F), ClS r → putF n u (app (delS n r) f) = app ((n, u) :: r) f
  | .nul _, _, _, _, _ => rfl
  | .leaf .has _, _, _, _, _ => rfl
  | .leaf .lacks _, _, _, _, _ => rfl
  | .leaf .var y, r, n, u, h => by
    simp only [app]
    by_cases e : y = n
    · subst e
      rw [getS_del_same]
      simp [putF, getS]
    · have e' : ¬ n = y := fun z => e z.symm
      rw [getS_del r e, show getS ((n, u) :: r) y = getS r y by unfold getS; rw [List.find?_cons_of_neg (by simp [e'])]]
      cases c : getS r y with
      | none => simp [putF, e]
      | some v =>
        rw [Option.getD_some]
        exact put_none v (by rw [h _ (getS_mem c)]; simp)
  | .two b f g, r, n, u, h => by simp only [app, putF, put_app f r n u h, put_app g r n u h]
  | .one k y f, r, n, u, h => by
    simp only [app]
    by_cases hk : k.bind = true
    · rw [if_pos hk, if_pos hk]
      simp only [putF]
      by_cases e : y = n
      · subst e
        rw [if_pos ⟨hk, rfl⟩, del_cons_same, del_idem]
      · rw [if_neg fun z => e z.2, del_cons (fun z => e z.symm), del_del, put_app f (delS y r) n u (h.del y)]
    · rw [if_neg hk, if_neg hk]
      simp only [putF]
      rw [if_neg fun z => hk z.1, put_app f r n u h]
theorem fv_app : ∀ (t : F) (r : Sb), ClS r → ∀ x, x ∈ fv (app r t) → x ∈ fv t ∧ getS r x = none
  | .nul _, _, _, x, h => nomatch h
  | .leaf .has _, _, _, x, h => nomatch h
  | .leaf .lacks _, _, _, x, h => nomatch h
  | .leaf .var y, r, cl, x, h => by
    simp only [app] at h
    cases c : getS r y with
    | none =>
      rw [c] at h
      rw [show x = y from List.mem_singleton.mp h]
      exact ⟨List.mem_singleton.mpr rfl, c⟩
    | some v =>
      rw [c, Option.getD_some, cl _ (getS_mem c)] at h
      cases h
  | .two b f g, r, cl, x, h => by
    rcases List.mem_append.mp (show x ∈ fv (app r f) ++ fv (app r g) from h) with h | h
    · have := fv_app f r cl x h
      exact ⟨List.mem_append_left _ this.1, this.2⟩
    · have := fv_app g r cl x h
      exact ⟨List.mem_append_right _ this.1, this.2⟩
  | .one k n f, r, cl, x, h => by
    simp only [app] at h
    by_cases hk : k.bind = true
    · rw [if_pos hk] at h
      simp only [fv, if_pos hk] at h ⊢
      obtain ⟨h1, h2⟩ := List.mem_filter.mp h
      have h2 := of_decide_eq_true h2
      have := fv_app f _ (cl.del n) x h1
      rw [getS_del r h2] at this
      exact ⟨List.mem_filter.mpr ⟨this.1, decide_eq_true h2⟩, this.2⟩
    · rw [if_neg hk] at h
      simp only [fv, if_neg hk] at h ⊢
      exact fv_app f r cl x h
theorem app_closed {t : F} {r : Sb} (cl : ClS r) (h : ∀ x ∈ fv t, (getS r x).isSome = true) : fv (app r t) = [] :=
  List.eq_nil_iff_forall_not_mem.mpr fun x hx => by
    have := fv_app t r cl x hx
    have q := h x this.1
    rw [this.2] at q
    cases q
theorem app_nil : ∀ t : F, app [] t = t
  | .nul _ => rfl
  | .leaf .has _ => rfl
  | .leaf .lacks _ => rfl
  | .leaf .var _ => rfl
  | .two b f g => by simp only [app, app_nil f, app_nil g]
  | .one k n f => by
    simp only [app]
    split
    · rw [show delS n [] = [] from rfl, app_nil f]
    · rw [app_nil f]
/-- the parts, put, are closed under what follows -/
theorem exl_fol (S : List F) : ∀ (t : F) (r : Sb), ClS r → (∀ p ∈ r, p.2 ∈ S ∧ ∀ w ∈ fol p.2, w ∈ S) → (∀ x ∈ fv t, (getS r x).isSome = true) → (∀ v ∈ exl r t, v ∈ S) → ∀ v ∈ exl r t, fv v = [] ∧ ∀ w ∈ fol v, w ∈ S
  | .nul b, r, cl, hr, hf, hS, v, hv => by
    rw [show v = .nul b from List.mem_singleton.mp hv]
    exact ⟨rfl, fun w hw => nomatch hw⟩
  | .leaf .has n, r, cl, hr, hf, hS, v, hv => by
    rw [show v = .leaf .has n from List.mem_singleton.mp hv]
    exact ⟨rfl, fun w hw => nomatch hw⟩
  | .leaf .lacks n, r, cl, hr, hf, hS, v, hv => by
    rw [show v = .leaf .lacks n from List.mem_singleton.mp hv]
    exact ⟨rfl, fun w hw => nomatch hw⟩
  | .leaf .var y, r, cl, hr, hf, hS, v, hv => by
    have hy := hf y (List.mem_singleton.mpr rfl)
    obtain ⟨u, hu⟩ := Option.isSome_iff_exists.mp hy
    rw [show v = (getS r y).getD (.leaf .var y) from List.mem_singleton.mp hv, hu, Option.getD_some]
    exact ⟨cl _ (getS_mem hu), (hr _ (getS_mem hu)).2⟩
  | .two b f g, r, cl, hr, hf, hS, v, hv => by
    have hff : ∀ x ∈ fv f, (getS r x).isSome = true := fun x hx => hf x (List.mem_append_left _ hx)
    have hfg : ∀ x ∈ fv g, (getS r x).isSome = true := fun x hx => hf x (List.mem_append_right _ hx)
    have hSf : ∀ v ∈ exl r f, v ∈ S := fun v hv => hS v (by simp only [exl, List.mem_cons, List.mem_append]; exact .inr (.inl hv))
    have hSg : ∀ v ∈ exl r g, v ∈ S := fun v hv => hS v (by simp only [exl, List.mem_cons, List.mem_append]; exact .inr (.inr hv))
    simp only [exl, List.mem_cons, List.mem_append] at hv
    rcases hv with rfl | hv | hv
    · refine ⟨app_closed cl hf, fun w hw => ?_⟩
      simp only [app, fol, List.mem_cons, List.not_mem_nil, or_false] at hw
      rcases hw with rfl | rfl
      · exact hSf _ (exl_head r f)
      · exact hSg _ (exl_head r g)
    · exact exl_fol S f r cl hr hff hSf v hv
    · exact exl_fol S g r cl hr hfg hSg v hv
  | .one k n f, r, cl, hr, hf, hS, v, hv => by
    by_cases hk : k.bind = true
    · have hu := app_closed cl hf
      have eu : app r (.one k n f) = .one k n (app (delS n r) f) := by simp only [app]; rw [if_pos hk]
      have efol : fol (app r (.one k n f)) = [app ((n, app r (.one k n f)) :: r) f] := by
        rw [← put_app f r n _ cl, eu]
        simp only [fol]
        rw [if_pos hk]
      have hSf : ∀ v ∈ exl ((n, app r (.one k n f)) :: r) f, v ∈ S := fun v hv => hS v (by
        simp only [exl, if_pos hk, List.mem_cons]
        exact .inr hv)
      have hSu : app r (.one k n f) ∈ S := hS _ (exl_head r _)
      have folS : ∀ w ∈ fol (app r (.one k n f)), w ∈ S := fun w hw => by
        rw [efol, List.mem_singleton] at hw
        rw [hw]
        exact hSf _ (exl_head _ f)
      simp only [exl, if_pos hk, List.mem_cons] at hv
      rcases hv with rfl | hv
      · exact ⟨hu, folS⟩
      · refine exl_fol S f _ (cl.cons hu) (fun p hp => ?_) (fun x hx => ?_) hSf v hv
        · rcases List.mem_cons.mp hp with rfl | hp
          · exact ⟨hSu, folS⟩
          · exact hr p hp
        · by_cases e : n = x
          · simp [getS, e]
          · have := hf x (by simp only [fv, if_pos hk]; exact List.mem_filter.mpr ⟨hx, decide_eq_true fun z => e z.symm⟩)
            unfold getS at this ⊢
            rw [List.find?_cons_of_neg (by simp [e])]
            exact this
    · have hSf : ∀ v ∈ exl r f, v ∈ S := fun v hv => hS v (by simp only [exl, if_neg hk, List.mem_cons]; exact .inr hv)
      have hff : ∀ x ∈ fv f, (getS r x).isSome = true := fun x hx => hf x (by simp only [fv, if_neg hk]; exact hx)
      simp only [exl, if_neg hk, List.mem_cons] at hv
      rcases hv with rfl | hv
      · refine ⟨app_closed cl hf, fun w hw => ?_⟩
        simp only [app, if_neg hk, fol, List.mem_singleton] at hw
        rw [hw]
        exact hSf _ (exl_head r f)
      · exact exl_fol S f r cl hr hff hSf v hv
theorem exl_all {t : F} (h : fv t = []) : ∀ v ∈ exl [] t, fv v = [] ∧ ∀ w ∈ fol v, w ∈ exl [] t :=
  exl_fol (exl [] t) t [] (fun p hp => nomatch hp) (fun p hp => nomatch hp) (fun x hx => by rw [h] at hx; cases hx) fun v hv => hv
/-! ### the walk -/
def addN (L us : List F) : List F := us.foldl (fun L u => if u ∈ L then L else L ++ [u]) L
def stC (t : F) : Nat → List F
  | 0 => [t]
  | k + 1 => match (stC t k)[k]? with
    | some v => addN (stC t k) (fol v)
    | none => stC t k
theorem addN_ok (S : List F) : ∀ (us L : List F), L.Nodup → (∀ v ∈ L, v ∈ S) → (∀ v ∈ us, v ∈ S) → (addN L us).Nodup ∧ ∀ v ∈ addN L us, v ∈ S
  | [], L, nd, hL, _ => ⟨nd, hL⟩
  | u :: us, L, nd, hL, hu => by
    show (addN (if u ∈ L then L else L ++ [u]) us).Nodup ∧ _
    have hus := fun v hv => hu v (List.mem_cons_of_mem _ hv)
    by_cases c : u ∈ L
    · have := addN_ok S us L nd hL hus
      rw [if_pos c]
      refine ⟨this.1, fun v hv => this.2 v ?_⟩
      have : addN L (u :: us) = addN L us := by show addN (if u ∈ L then L else L ++ [u]) us = _; rw [if_pos c]
      rw [this] at hv
      exact hv
    · have nd' : (L ++ [u]).Nodup := List.nodup_append.mpr ⟨nd, by simp, fun x hx y hy => by rw [List.mem_singleton] at hy; subst hy; exact fun e => c (e ▸ hx)⟩
      have := addN_ok S us (L ++ [u]) nd' (fun v hv => by
        rcases List.mem_append.mp hv with hv | hv
        · exact hL v hv
        · rw [List.mem_singleton.mp hv]; exact hu u List.mem_cons_self) hus
      rw [if_neg c]
      refine ⟨this.1, fun v hv => this.2 v ?_⟩
      have : addN L (u :: us) = addN (L ++ [u]) us := by show addN (if u ∈ L then L else L ++ [u]) us = _; rw [if_neg c]
      rw [this] at hv
      exact hv
theorem nodup_lenF : ∀ {l S : List F}, l.Nodup → (∀ x ∈ l, x ∈ S) → l.length ≤ S.length
  | [], S, _, _ => Nat.zero_le _
  | a :: l, S, nd, h => by
    have nd' := List.nodup_cons.mp nd
    have ha := h a List.mem_cons_self
    have ih := nodup_lenF (S := S.erase a) nd'.2 fun x hx => (List.mem_erase_of_ne (fun e => nd'.1 (by rw [← e]; exact hx))).mpr (h x (List.mem_cons_of_mem _ hx))
    have := List.length_erase_of_mem ha
    have : 0 < S.length := List.length_pos_of_mem ha
    rw [List.length_cons]
    omega
theorem stC_ok {t : F} (h : fv t = []) : ∀ k, (stC t k).Nodup ∧ (∀ v ∈ stC t k, v ∈ exl [] t) ∧ (stC t k).length ≤ t.size
  | 0 => ⟨by simp [stC], fun v hv => by
      rw [show v = t from List.mem_singleton.mp hv]
      have := exl_head [] t
      rw [app_nil] at this
      exact this, F.size_pos t⟩
  | k + 1 => by
    have ih := stC_ok h k
    simp only [stC]
    cases c : (stC t k)[k]? with
    | none => exact ih
    | some v =>
      have hv := (exl_all h v (ih.2.1 v (List.mem_of_getElem? c))).2
      have := addN_ok (exl [] t) (fol v) (stC t k) ih.1 ih.2.1 hv
      refine ⟨this.1, this.2, ?_⟩
      have := nodup_lenF this.1 this.2
      rw [exl_len] at this
      exact this
theorem stC_stop {t : F} {k : Nat} (h : (stC t k)[k]? = none) : ∀ j, stC t (k + j) = stC t k
  | 0 => rfl
  | j + 1 => by
    have ih := stC_stop h j
    have le : (stC t k).length ≤ k := List.getElem?_eq_none_iff.mp h
    show (match (stC t (k + j))[k + j]? with | some v => addN (stC t (k + j)) (fol v) | none => stC t (k + j)) = _
    rw [ih, List.getElem?_eq_none (by omega)]
theorem stC_end {t : F} (h : fv t = []) {k : Nat} (hk : (stC t k)[k]? = none) (h2 : t.size ≤ 199) : stC t 200 = stC t k := by
  by_cases c : k ≤ 200
  · have := stC_stop hk (200 - k)
    rw [show k + (200 - k) = 200 by omega] at this
    exact this
  · have n200 : (stC t 200)[200]? = none := List.getElem?_eq_none (by have := (stC_ok h 200).2.2; omega)
    have := stC_stop n200 (k - 200)
    rw [show 200 + (k - 200) = k by omega] at this
    exact this.symm
/-! ### how large they are -/
def maxD (r : Sb) : Nat := r.foldl (fun m p => max m p.2.depth) 0
theorem app_depth : ∀ (t : F) (r : Sb) (M : Nat), (∀ p ∈ r, p.2.depth ≤ M) → (app r t).depth ≤ t.depth + M
  | .nul _, r, M, h => by simp only [app, F.depth]; omega
  | .leaf .has _, r, M, h => by simp only [app, F.depth]; omega
  | .leaf .lacks _, r, M, h => by simp only [app, F.depth]; omega
  | .leaf .var y, r, M, h => by
    simp only [app, F.depth]
    cases c : getS r y with
    | none => simp only [Option.getD_none, F.depth]; omega
    | some v =>
      have := h _ (getS_mem c)
      simp only [Option.getD_some]
      have : v.depth ≤ M := this
      omega
  | .two b f g, r, M, h => by
    have := app_depth f r M h
    have := app_depth g r M h
    simp only [app, F.depth]
    omega
  | .one k n f, r, M, h => by
    simp only [app]
    split
    · have := app_depth f (delS n r) M fun p hp => h p (List.mem_filter.mp hp).1
      simp only [F.depth]
      omega
    · have := app_depth f r M h
      simp only [F.depth]
      omega
def lvs : F → Nat
  | .two _ f g => lvs f + lvs g
  | .one _ _ f => lvs f
  | _ => 1
theorem lvs_depth : ∀ t : F, 2 * lvs t ≤ 2 ^ t.depth
  | .nul _ => by simp [lvs, F.depth]
  | .leaf _ _ => by simp [lvs, F.depth]
  | .two b f g => by
    have h1 := lvs_depth f
    have h2 := lvs_depth g
    have m1 : 2 ^ f.depth ≤ 2 ^ max f.depth g.depth := Nat.pow_le_pow_right (by decide) (Nat.le_max_left _ _)
    have m2 : 2 ^ g.depth ≤ 2 ^ max f.depth g.depth := Nat.pow_le_pow_right (by decide) (Nat.le_max_right _ _)
    simp only [lvs, F.depth, Nat.pow_succ]
    omega
  | .one k n f => by
    have := lvs_depth f
    simp only [lvs, F.depth, Nat.pow_succ]
    omega
theorem app_size : ∀ (t : F) (r : Sb) (M : Nat), (∀ p ∈ r, p.2.size ≤ M) → (app r t).size ≤ t.size + lvs t * M
  | .nul _, r, M, h => by simp only [app, F.size]; omega
  | .leaf .has _, r, M, h => by simp only [app, F.size]; omega
  | .leaf .lacks _, r, M, h => by simp only [app, F.size]; omega
  | .leaf .var y, r, M, h => by
    simp only [app, F.size, lvs]
    cases c : getS r y with
    | none => simp only [Option.getD_none, F.size]; omega
    | some v =>
      have : v.size ≤ M := h _ (getS_mem c)
      simp only [Option.getD_some]
      omega
  | .two b f g, r, M, h => by
    have := app_size f r M h
    have := app_size g r M h
    simp only [app, F.size, lvs, Nat.add_mul]
    omega
  | .one k n f, r, M, h => by
    simp only [app]
    split
    · have := app_size f (delS n r) M fun p hp => h p (List.mem_filter.mp hp).1
      simp only [F.size, lvs]
      omega
    · have := app_size f r M h
      simp only [F.size, lvs]
      omega
/-- bounds by the depth: of the binders' and of all -/
def bB (d M : Nat) : Nat := 2 ^ d + 2 ^ (d - 2) * M
def bA : Nat → Nat → Nat
  | 0, M => M
  | d + 1, M => max (2 ^ (d + 1) + 2 ^ d * M) (max (bA d (max M (bB (d + 1) M))) (bA d M))
def dA : Nat → Nat → Nat
  | 0, M => M
  | d + 1, M => max (d + 1 + M) (max (dA d (d + 1 + M)) (dA d M))
theorem depth_posE (t : F) : 0 < t.depth := by cases t <;> simp [F.depth]
theorem mono_bA : ∀ (d : Nat) {M N : Nat}, M ≤ N → bA d M ≤ bA d N
  | 0, M, N, h => h
  | d + 1, M, N, h => by
    have h1 : 2 ^ d * M ≤ 2 ^ d * N := Nat.mul_le_mul_left _ h
    have h2 : bB (d + 1) M ≤ bB (d + 1) N := by
      have : 2 ^ (d + 1 - 2) * M ≤ 2 ^ (d + 1 - 2) * N := Nat.mul_le_mul_left _ h
      unfold bB
      omega
    have h3 := mono_bA d (show max M (bB (d + 1) M) ≤ max N (bB (d + 1) N) by omega)
    have h4 := mono_bA d h
    simp only [bA]
    omega
theorem step_bA (d M : Nat) : bA d M ≤ bA (d + 1) M := by
  simp only [bA]
  omega
theorem le_bA : ∀ {d e : Nat} (M : Nat), d ≤ e → bA d M ≤ bA e M := fun {d e} M h => by
  induction e with
  | zero => rw [Nat.le_zero.mp h]; exact Nat.le_refl _
  | succ e ih =>
    by_cases c : d = e + 1
    · rw [c]; exact Nat.le_refl _
    · exact Nat.le_trans (ih (by omega)) (step_bA e M)
theorem exl_size : ∀ (t : F) (d : Nat) (r : Sb) (M : Nat), t.depth ≤ d → (∀ p ∈ r, p.2.size ≤ M) → ∀ v ∈ exl r t, v.size ≤ bA d M := by
  have top : ∀ (t : F) (d : Nat) (r : Sb) (M : Nat), t.depth ≤ d → (∀ p ∈ r, p.2.size ≤ M) → (app r t).size ≤ bA d M := by
    intro t d r M hd hr
    obtain ⟨e, rfl⟩ : ∃ e, d = e + 1 := ⟨d - 1, by have := depth_posE t; omega⟩
    have h1 := app_size t r M hr
    have h2 := F.size_depth t
    have h3 := lvs_depth t
    have h4 : 2 ^ t.depth ≤ 2 ^ (e + 1) := Nat.pow_le_pow_right (by decide) hd
    have h5 : lvs t ≤ 2 ^ e := by rw [Nat.pow_succ] at h4; omega
    have h6 : lvs t * M ≤ 2 ^ e * M := Nat.mul_le_mul_right _ h5
    simp only [bA]
    omega
  intro t
  induction t with
  | nul b => intro d r M hd hr v hv; rw [show v = _ from List.mem_singleton.mp hv]; exact top _ d r M hd hr
  | leaf k n => intro d r M hd hr v hv; rw [show v = app r (.leaf k n) from List.mem_singleton.mp hv]; exact top _ d r M hd hr
  | two b f g ihf ihg =>
    intro d r M hd hr v hv
    simp only [exl, List.mem_cons, List.mem_append] at hv
    have hd' := hd
    simp only [F.depth] at hd'
    rcases hv with rfl | hv | hv
    · exact top _ d r M hd hr
    · exact ihf d r M (by omega) hr v hv
    · exact ihg d r M (by omega) hr v hv
  | one k n f ih =>
    intro d r M hd hr v hv
    have hd' := hd
    simp only [F.depth] at hd'
    simp only [exl, List.mem_cons] at hv
    rcases hv with rfl | hv
    · exact top _ d r M hd hr
    · obtain ⟨e, rfl⟩ : ∃ e, d = e + 1 := ⟨d - 1, by omega⟩
      split at hv
      · have hu : (app r (.one k n f)).size ≤ bB (e + 1) M := by
          have h1 := app_size (.one k n f) r M hr
          have h2 := F.size_depth (.one k n f)
          have h4 : 2 ^ (F.one k n f).depth ≤ 2 ^ (e + 1) := Nat.pow_le_pow_right (by decide) hd
          have h3 := lvs_depth f
          have h5 : 2 ^ f.depth ≤ 2 ^ e := Nat.pow_le_pow_right (by decide) (by omega)
          have fd := depth_posE f
          obtain ⟨e', rfl⟩ : ∃ e', e = e' + 1 := ⟨e - 1, by omega⟩
          have h6 : lvs f ≤ 2 ^ e' := by rw [Nat.pow_succ] at h5; omega
          have h7 : lvs f * M ≤ 2 ^ e' * M := Nat.mul_le_mul_right _ h6
          unfold bB
          rw [show e' + 1 + 1 - 2 = e' by omega]
          simp only [lvs] at h1
          omega
        have := ih e ((n, app r (.one k n f)) :: r) (max M (bB (e + 1) M)) (by omega) (fun p hp => by
          rcases List.mem_cons.mp hp with rfl | hp
          · show (app r (.one k n f)).size ≤ _
            omega
          · have := hr p hp
            omega) v hv
        simp only [bA]
        omega
      · exact Nat.le_trans (ih e r M (by omega) hr v hv) (step_bA e M)
theorem bA5 : bA 5 0 ≤ 1000 := by decide
theorem step_dA (d M : Nat) : dA d M ≤ dA (d + 1) M := by
  simp only [dA]
  omega
theorem exl_depth : ∀ (t : F) (d : Nat) (r : Sb) (M : Nat), t.depth ≤ d → (∀ p ∈ r, p.2.depth ≤ M) → ∀ v ∈ exl r t, v.depth ≤ dA d M := by
  have top : ∀ (t : F) (d : Nat) (r : Sb) (M : Nat), t.depth ≤ d → (∀ p ∈ r, p.2.depth ≤ M) → (app r t).depth ≤ dA d M := by
    intro t d r M hd hr
    obtain ⟨e, rfl⟩ : ∃ e, d = e + 1 := ⟨d - 1, by have := depth_posE t; omega⟩
    have h1 := app_depth t r M hr
    simp only [dA]
    omega
  intro t
  induction t with
  | nul b => intro d r M hd hr v hv; rw [show v = _ from List.mem_singleton.mp hv]; exact top _ d r M hd hr
  | leaf k n => intro d r M hd hr v hv; rw [show v = app r (.leaf k n) from List.mem_singleton.mp hv]; exact top _ d r M hd hr
  | two b f g ihf ihg =>
    intro d r M hd hr v hv
    simp only [exl, List.mem_cons, List.mem_append] at hv
    have hd' := hd
    simp only [F.depth] at hd'
    rcases hv with rfl | hv | hv
    · exact top _ d r M hd hr
    · exact ihf d r M (by omega) hr v hv
    · exact ihg d r M (by omega) hr v hv
  | one k n f ih =>
    intro d r M hd hr v hv
    have hd' := hd
    simp only [F.depth] at hd'
    simp only [exl, List.mem_cons] at hv
    rcases hv with rfl | hv
    · exact top _ d r M hd hr
    · obtain ⟨e, rfl⟩ : ∃ e, d = e + 1 := ⟨d - 1, by omega⟩
      split at hv
      · have hu := app_depth (.one k n f) r M hr
        have := ih e ((n, app r (.one k n f)) :: r) (e + 1 + M) (by omega) (fun p hp => by
          rcases List.mem_cons.mp hp with rfl | hp
          · show (app r (.one k n f)).depth ≤ _
            omega
          · have := hr p hp
            omega) v hv
        simp only [dA]
        omega
      · exact Nat.le_trans (ih e r M (by omega) hr v hv) (step_dA e M)
theorem dA5 : dA 5 0 ≤ 15 := by decide
end Fw

set_option maxRecDepth 100000
set_option maxHeartbeats 4000000
namespace Fw
open PySem PySem.Spec PyProof.Rows L2
theorem subs_self (t : F) : t ∈ subs t := by cases t <;> simp [subs]
theorem subs_kid : ∀ (t u v : F), u ∈ subs t → v ∈ u.kids → v ∈ subs t
  | .nul _, u, v, h, hv => by rw [List.mem_singleton.mp h] at hv; cases hv
  | .leaf _ _, u, v, h, hv => by rw [List.mem_singleton.mp h] at hv; cases hv
  | .two b f g, u, v, h, hv => by
    simp only [subs, List.mem_cons, List.mem_append] at h ⊢
    rcases h with h | h | h
    · rw [h] at hv
      simp only [F.kids, List.mem_cons, List.not_mem_nil, or_false] at hv
      rcases hv with rfl | rfl
      · exact .inr (.inl (subs_self _))
      · exact .inr (.inr (subs_self _))
    · exact .inr (.inl (subs_kid f u v h hv))
    · exact .inr (.inr (subs_kid g u v h hv))
  | .one k n f, u, v, h, hv => by
    simp only [subs, List.mem_cons] at h ⊢
    rcases h with h | h
    · rw [h] at hv
      rw [List.mem_singleton.mp hv]
      exact .inr (subs_self _)
    · exact .inr (subs_kid f u v h hv)
/-- the parts in which x is free, down from the whole -/
def sbx (x : Int) : F → List F
  | .nul _ => []
  | .leaf k n => if x ∈ fv (.leaf k n) then [.leaf k n] else []
  | .two b f g => if x ∈ fv (.two b f g) then .two b f g :: (sbx x f ++ sbx x g) else []
  | .one k n f => if x ∈ fv (.one k n f) then .one k n f :: sbx x f else []
theorem sbx_self {x : Int} {t : F} (h : x ∈ fv t) : t ∈ sbx x t := by
  cases t with
  | nul b => cases h
  | leaf k n => simp only [sbx, if_pos h, List.mem_singleton]
  | two b f g => simp only [sbx, if_pos h, List.mem_cons, true_or]
  | one k n f => simp only [sbx, if_pos h, List.mem_cons, true_or]
theorem sbx_fv {x : Int} : ∀ (t u : F), u ∈ sbx x t → x ∈ fv u
  | .nul _, u, h => nomatch h
  | .leaf k n, u, h => by
    simp only [sbx] at h
    split at h
    · rename_i q
      rw [List.mem_singleton.mp h]
      exact q
    · cases h
  | .two b f g, u, h => by
    simp only [sbx] at h
    split at h
    · rename_i q
      rcases List.mem_cons.mp h with rfl | h
      · exact q
      · rcases List.mem_append.mp h with h | h
        · exact sbx_fv f u h
        · exact sbx_fv g u h
    · cases h
  | .one k n f, u, h => by
    simp only [sbx] at h
    split at h
    · rename_i q
      rcases List.mem_cons.mp h with rfl | h
      · exact q
      · exact sbx_fv f u h
    · cases h
theorem sbx_kid {x : Int} : ∀ (t u v : F), u ∈ sbx x t → v ∈ u.kids → x ∈ fv v → v ∈ sbx x t
  | .nul _, u, v, h, hv, hx => nomatch h
  | .leaf k n, u, v, h, hv, hx => by
    simp only [sbx] at h
    split at h
    · rw [List.mem_singleton.mp h] at hv
      cases hv
    · cases h
  | .two b f g, u, v, h, hv, hx => by
    simp only [sbx] at h ⊢
    split at h
    · rename_i q
      rw [if_pos q]
      rcases List.mem_cons.mp h with rfl | h
      · simp only [F.kids, List.mem_cons, List.not_mem_nil, or_false] at hv
        rcases hv with rfl | rfl
        · exact List.mem_cons_of_mem _ (List.mem_append_left _ (sbx_self hx))
        · exact List.mem_cons_of_mem _ (List.mem_append_right _ (sbx_self hx))
      · rcases List.mem_append.mp h with h | h
        · exact List.mem_cons_of_mem _ (List.mem_append_left _ (sbx_kid f u v h hv hx))
        · exact List.mem_cons_of_mem _ (List.mem_append_right _ (sbx_kid g u v h hv hx))
    · cases h
  | .one k n f, u, v, h, hv, hx => by
    simp only [sbx] at h ⊢
    split at h
    · rename_i q
      rw [if_pos q]
      rcases List.mem_cons.mp h with rfl | h
      · rw [List.mem_singleton.mp hv] at hx ⊢
        exact List.mem_cons_of_mem _ (sbx_self hx)
      · exact List.mem_cons_of_mem _ (sbx_kid f u v h hv hx)
    · cases h
/-- the parts in which x is free: what is found -/
structure Found (S : List F) (f : F) (x : Int) (gs : List F) : Prop where
  nd : gs.Nodup
  inS : ∀ g ∈ gs, g ∈ S ∧ g ∈ sbx x f ∧ x ∈ fv g
theorem kids_fv {g : F} {x : Int} (hx : x ∈ fv g) (hv : ∀ y, g ≠ .leaf .var y) : ∃ u ∈ g.kids, x ∈ fv u := by
  cases g with
  | nul b => cases hx
  | leaf k n =>
    cases k with
    | var => exact absurd rfl (hv n)
    | has => cases hx
    | lacks => cases hx
  | two b f h =>
    rcases List.mem_append.mp (show x ∈ fv f ++ fv h from hx) with q | q
    · exact ⟨f, by simp [F.kids], q⟩
    · exact ⟨h, by simp [F.kids], q⟩
  | one k n f =>
    refine ⟨f, by simp [F.kids], ?_⟩
    simp only [fv] at hx
    split at hx
    · exact (List.mem_filter.mp hx).1
    · exact hx
theorem put_map {x : Int} {u g : F} (hx : x ∈ fv g) (hv : ∀ y, g ≠ .leaf .var y) : putF x u g = mapK (putF x u) g := by
  cases g with
  | nul b => cases hx
  | leaf k n =>
    cases k with
    | var => exact absurd rfl (hv n)
    | has => cases hx
    | lacks => cases hx
  | two b f h => rfl
  | one k n f =>
    simp only [putF, mapK]
    rw [if_neg]
    rintro ⟨hk, rfl⟩
    simp only [fv, if_pos hk] at hx
    have := of_decide_eq_true (List.mem_filter.mp hx).2
    exact this rfl
theorem put_fv {x : Int} {u : F} : ∀ (g : F) (y : Int), y ∈ fv (putF x u g) → y ∈ fv g ∨ y ∈ fv u
  | .nul _, y, h => .inl h
  | .leaf .has _, y, h => .inl h
  | .leaf .lacks _, y, h => .inl h
  | .leaf .var z, y, h => by
    simp only [putF] at h
    split at h
    · exact .inr h
    · exact .inl h
  | .two b f g, y, h => by
    rcases List.mem_append.mp (show y ∈ fv (putF x u f) ++ fv (putF x u g) from h) with h | h
    · exact (put_fv f y h).imp (List.mem_append_left _) id
    · exact (put_fv g y h).imp (List.mem_append_right _) id
  | .one k n f, y, h => by
    simp only [putF] at h
    split at h
    · exact .inl h
    · simp only [fv] at h ⊢
      split at h
      · rename_i hk
        rw [if_pos hk]
        obtain ⟨h1, h2⟩ := List.mem_filter.mp h
        exact (put_fv f y h1).imp (fun z => List.mem_filter.mpr ⟨z, h2⟩) id
      · rename_i hk
        rw [if_neg hk]
        exact put_fv f y h
section
variable {P : Program} {w : World} {K : PySem.W.Frag} {mg : Str → Option Value} {base : Heap} {C J B SC HC STP : Addr}
def spPwf (P : Program) (w : World) (K : PySem.W.Frag) (SC : Addr) : Sp := fun vs H Q _ => ∃ (r : SR) (S : List F) (f : F) (x : Int) (Ws : List F), vs = [.ref r.p, .int (ix S f : Nat), .int x] ∧ Sh P w K SC H r S ∧ f ∈ S ∧ Ws.length ≤ 63 ∧ (∀ g ∈ sbx x f, g ∈ Ws) ∧
  ∀ (a : Addr) (ys : List Int) (gs : List F) H', Same H H' → H a = none → H' a = some (.lst (ys.map V.int)) → ys.Perm (gs.map fun g => ((ix S g : Nat) : Int)) → ys.Pairwise (· ≤ ·) → Found S f x gs → (x ∈ fv f → f ∈ gs) → (∀ g ∈ gs, ∀ u ∈ g.kids, x ∈ fv u → u ∈ gs) → Q (.ref a) H'
abbrev kvG (S : List F) (gs : List F) : List (Key × V) := gs.map fun g => (Sum.inl ((ix S g : Nat) : Int), V.bl true)
theorem valG {S : List F} {g : F} (hg : g ∈ S) : ∀ {gs : List F}, (∀ h ∈ gs, h ∈ S) → valV (kvG S gs) (Sum.inl ((ix S g : Nat) : Int)) = if g ∈ gs then some (.bl true) else none
  | [], _ => rfl
  | h :: gs, hS => by
    have ih := valG hg (gs := gs) fun q hq => hS q (List.mem_cons_of_mem _ hq)
    have hh := hS h List.mem_cons_self
    unfold valV at ih ⊢
    by_cases e : h = g
    · subst e
      simp [kvG, List.find?_cons]
    · have ne : ¬ (Sum.inl ((ix S h : Nat) : Int) : Key) = Sum.inl ((ix S g : Nat) : Int) := fun q => e (ix_inj hh hg (by have := Sum.inl.inj q; omega))
      rw [kvG, List.map_cons, List.find?_cons_of_neg (by simp [ne])]
      rw [kvG] at ih
      rw [ih]
      simp [Ne.symm e, e, fun z : g = h => e z.symm]
theorem putG {S : List F} {gs : List F} {g : F} (hg : g ∈ S) (hS : ∀ h ∈ gs, h ∈ S) (n : g ∉ gs) : putK (kvG S gs) (Sum.inl ((ix S g : Nat) : Int)) (.bl true) = kvG S (gs ++ [g]) := by
  have : valV (kvG S gs) (Sum.inl ((ix S g : Nat) : Int)) = none := by rw [valG hg hS, if_neg n]
  rw [putK_new _ this]
  simp [kvG]
theorem ok_parts_with_free {f : Addr} {fd : FuncData} (FF : Fun K "_parts_with_free" "Shelf._parts_with_free" s_Shelf__parts_with_free f fd) (T : Txt K mg C J B) (TS : TxtS K SC) : FnOk P w K mg base CX0 1 f fd a_Shelf__parts_with_free (spPwf P w K SC) := by
  refine FF.ok sc_Shelf__parts_with_free (fun vs H Q E h => ?_) (fun cdv A outer s H vs Q E hr h => ?_)
  · obtain ⟨r, S, f, x, Ws, rfl, _⟩ := h
    rfl
  · obtain ⟨r, S, f, x, Ws, rfl, n, hf, hW, hWs, k⟩ := h
    have hu := hu_of hr
    refine ⟨_, (pss_cons (ps_set (i := 3) sc_Shelf__parts_with_free.nd rfl (.inl rfl) pe_dnewK)
      (pss_cons (ps_set (i := 4) sc_Shelf__parts_with_free.nd rfl (.inl rfl) (pe_lst (pa_cons (pv 1) pa_nil)))
      (pss_cons (ps_while PassesOwn.never (pt_truth (pv 4) (by intro _; rfl)) (pss_cons (ps_set (i := 5) sc_Shelf__parts_with_free.nd rfl (.inl rfl) (pe_bm0 PySem.F.plainAttrs_list PySem.F.slot_list_pop PySem.F.type_list_pop mt_pop (pv 4)))
      (pss_one (ps_if (PW.pt (pw_and (pt_cmpR op_in_seq (pv 2) (pe_ix ix_list (pe_fld (pv 0) rfl) (pv 5) (fun _ _ => rfl)) (by rfl)) (pw_and1 (pt_cmp (pc_dnotin hu (pv 5) (pv 3)))))) (pss_cons (ps_dput hu (pv 3) (pv 5) pe_bl rfl)
      (pss_one (ps_expr (pe_bm PySem.F.plainAttrs_list PySem.F.slot_list_extend PySem.F.type_list_extend mt_extendT (pv 4) (pa_cons (pe_ix ix_list (pe_fld (pv 0) rfl) (pv 5) (fun _ _ => rfl)) pa_nil))))) pss_nil))))
      (pss_one (ps_ret (pe_callB (call_sortedDI rfl) rfl T.z_sorted (by decide +kernel) (pa_cons (pv 3) pa_nil))))))), ?_⟩
    intro da hda
    have s1 := Same.new (o := .dK []) hda
    refine ⟨.int (ix S f : Nat), rfl, by show 1 ≤ sizeLine; decide, fun wa hwa => ?_⟩
    have s2 := Same.new (o := .lst [.int (ix S f : Nat)]) hwa
    have gd0 : (upd (upd H da (.dK [])) wa (.lst [.int (ix S f : Nat)])) da = some (.dK (kvG S [])) := s2 _ _ upd_same
    have gw0 : (upd (upd H da (.dK [])) wa (.lst [.int (ix S f : Nat)])) wa = some (.lst (([f] : List F).map fun g => V.int (ix S g : Nat))) := upd_same
    have hwa0 : H wa = none := s1.free hwa
    have dw : da ≠ wa := ne_of_none upd_same hwa
    have s12 := s1.trans s2
    generalize upd (upd H da (.dK [])) wa (.lst [.int (ix S f : Nat)]) = H2 at s12 gd0 gw0
    refine ⟨fun m σ G => ∃ (gs ws : List F) (y5 : Option V), σ = [some (.ref r.p), some (.int (ix S f : Nat)), some (.int x), some (.ref da), some (.ref wa), y5] ∧ Same H G ∧ G da = some (.dK (kvG S gs)) ∧ G wa = some (.lst (ws.map fun g => V.int (ix S g : Nat))) ∧
      Found S f x gs ∧ (∀ g ∈ ws, g ∈ S ∧ (x ∈ fv g → g ∈ sbx x f)) ∧ (x ∈ fv f → f ∈ gs ∨ f ∈ ws) ∧ (∀ g ∈ gs, ∀ u ∈ g.kids, x ∈ fv u → u ∈ gs ∨ u ∈ ws) ∧ ws.length ≤ gs.length + 1 ∧ m = 3 * (63 - gs.length) + ws.length, ⟨_, [], [f], none, rfl, s12, gd0, gw0, ⟨List.nodup_nil, fun g hg => nomatch hg⟩, fun g hg => by rw [List.mem_singleton.mp hg]; exact ⟨hf, sbx_self⟩, fun _ => .inr (by simp), fun g hg => (nomatch hg), Nat.le_refl _, rfl⟩, ?_⟩
    rintro m σ G ⟨gs, ws, y5, rfl, sG, gd, gw, fo, hws, c1, c2, lw, rfl⟩
    have gl : gs.length ≤ 63 := by
      have := nodup_lenF fo.nd fun g hg => hWs g (fo.inS g hg).2.1
      omega
    refine ⟨.ref wa, rfl, !(ws.map fun g => V.int (ix S g : Nat)).isEmpty, .inl ⟨_, SqL.of gw, rfl⟩, ?_⟩
    rcases List.eq_nil_or_concat ws with rfl | ⟨ws', g, rfl⟩
    · -- nothing waits
      refine iteF ?_
      refine ⟨.ref da, rfl, da, kvG S gs, gs.map fun g => ((ix S g : Nat) : Int), rfl, .inl gd, ?_, by rw [List.length_map]; omega, fun ys p hp hs hfr => ?_⟩
      · simp [kvG]
      · exact k p ys gs _ (sG.trans (Same.new hfr)) (sG.free hfr) upd_same hp hs fo (fun h => (c1 h).resolve_right fun z => nomatch z) fun g hg u hu' hx => (c2 g hg u hu' hx).resolve_right fun z => nomatch z
    · rw [List.concat_eq_append] at *
      have e1 : (!((ws' ++ [g]).map fun g => V.int (ix S g : Nat)).isEmpty) = true := by simp
      rw [e1]
      refine iteT ?_
      refine ⟨_, fun σ' H' z => z, ?_⟩
      have gw' := gw
      rw [List.map_append] at gw'
      refine ⟨.ref wa, rfl, .inl ⟨rfl, _, SqL.of gw⟩, wa, _, .int (ix S g : Nat), rfl, rfl, gw, by simp, ?_⟩
      rw [List.map_append, show (([g] : List F).map fun g => V.int (ix S g : Nat)) = [V.int (ix S g : Nat)] from rfl, List.dropLast_concat]
      have up : ∀ b o, b ≠ wa → G b = some o → (upd G wa (.lst (ws'.map fun g => V.int (ix S g : Nat)))) b = some o := fun b o nb e => by rw [upd_ne nb]; exact e
      have gw1 : (upd G wa (.lst (ws'.map fun g => V.int (ix S g : Nat)))) wa = some (.lst (ws'.map fun g => V.int (ix S g : Nat))) := upd_same
      have tk1 := TKp.lst (K := K) (o' := .lst (ws'.map fun g => V.int (ix S g : Nat))) gw
      have sG1 : Same H (upd G wa (.lst (ws'.map fun g => V.int (ix S g : Nat)))) := fun b o e => up b o (ne_of_none e hwa0) (sG b o e)
      have gd1 := up _ _ dw gd
      generalize upd G wa (.lst (ws'.map fun g => V.int (ix S g : Nat))) = G1 at up gw1 tk1 sG1 gd1
      obtain ⟨gS, gsub⟩ := hws g (by simp)
      have hws' : ∀ h ∈ ws', h ∈ S ∧ (x ∈ fv h → h ∈ sbx x f) := fun h hh => hws h (List.mem_append_left _ hh)
      have n1 := n.same sG1
      obtain ⟨E, e, l1, l2, l3, l4, he, ent⟩ := n1.at gS
      obtain ⟨L, hL, memL, lenL⟩ := ent.fre
      refine ⟨.int x, rfl, .ref r.p, rfl, r.p, SC, r.dx, _, .ref r.fa, rfl, n1.obj, TS.cl, TS.nF, rfl, .int (ix S g : Nat), rfl, r.fa, _, _, .ref e.f, rfl, rfl, SqL.of l3, atI_nat (j := ix S g) (by rw [List.getElem?_map, he]; rfl), e.f, _, rfl, .inr hL, rfl, flat_ints L, _, rfl, ?_⟩
      rw [if_neg Bool.false_ne_true, in_ints, decide_eq_decide.mpr (memL x)]
      have back : (x ∉ fv g ∨ g ∈ gs) → (∃ m', m' < 3 * (63 - gs.length) + (ws' ++ [g]).length ∧ ∃ (gs2 ws2 : List F) (y5 : Option V), ([some (.ref r.p), some (.int (ix S f : Nat)), some (.int x), some (.ref da), some (.ref wa), some (.int (ix S g : Nat))] : List (Option V)) = [some (.ref r.p), some (.int (ix S f : Nat)), some (.int x), some (.ref da), some (.ref wa), y5] ∧ Same H G1 ∧ G1 da = some (.dK (kvG S gs2)) ∧ G1 wa = some (.lst (ws2.map fun g => V.int (ix S g : Nat))) ∧
          Found S f x gs2 ∧ (∀ g ∈ ws2, g ∈ S ∧ (x ∈ fv g → g ∈ sbx x f)) ∧ (x ∈ fv f → f ∈ gs2 ∨ f ∈ ws2) ∧ (∀ g ∈ gs2, ∀ u ∈ g.kids, x ∈ fv u → u ∈ gs2 ∨ u ∈ ws2) ∧ ws2.length ≤ gs2.length + 1 ∧ m' = 3 * (63 - gs2.length) + ws2.length) := fun hno => by
        refine ⟨_, ?_, gs, ws', _, rfl, sG1, gd1, gw1, fo, hws', fun hx => ?_, fun h hh u hu' hx => ?_, by rw [List.length_append] at lw; omega, rfl⟩
        · rw [List.length_append, List.length_singleton]
          omega
        · rcases c1 hx with z | z
          · exact .inl z
          · rcases List.mem_append.mp z with z | z
            · exact .inr z
            · rw [List.mem_singleton.mp z] at hx
              rw [List.mem_singleton.mp z]
              exact .inl (hno.resolve_left fun q => q hx)
        · rcases c2 h hh u hu' hx with z | z
          · exact .inl z
          · rcases List.mem_append.mp z with z | z
            · exact .inr z
            · rw [List.mem_singleton.mp z] at hx
              rw [List.mem_singleton.mp z]
              exact .inl (hno.resolve_left fun q => q hx)
      by_cases hx : x ∈ fv g
      · rw [decide_eq_true hx]
        refine iteT ?_
        have hget := DGet.k (k := Sum.inl ((ix S g : Nat) : Int)) gd1
        rw [valG gS fun h hh => (fo.inS h hh).1] at hget
        refine ⟨.int (ix S g : Nat), rfl, .ref da, rfl, da, _, rfl, hget, _, rfl, ?_⟩
        by_cases hin : g ∈ gs
        · rw [if_pos hin]
          refine iteF ?_
          exact back (.inr hin)
        · rw [if_neg hin]
          refine iteT ?_
          have gl2 : gs.length < 63 := by
            have := nodup_lenF (l := gs ++ [g]) (S := Ws) (List.nodup_append.mpr ⟨fo.nd, by simp, fun a ha b hb => by rw [List.mem_singleton] at hb; subst hb; exact fun e => hin (e ▸ ha)⟩) (fun h hh => by
              rcases List.mem_append.mp hh with hh | hh
              · exact hWs h (fo.inS h hh).2.1
              · rw [List.mem_singleton.mp hh]; exact hWs g (gsub hx))
            rw [List.length_append, List.length_singleton] at this
            omega
          refine ⟨.ref da, rfl, .int (ix S g : Nat), rfl, da, _, rfl, DPut.k (k := Sum.inl ((ix S g : Nat) : Int)) gd1 (by rw [List.length_map]; exact small1000 (by omega)), ?_⟩
          rw [putG gS (fun h hh => (fo.inS h hh).1) hin]
          have up2 : ∀ b o, b ≠ da → G1 b = some o → (upd G1 da (.dK (kvG S (gs ++ [g])))) b = some o := fun b o nb e => by rw [upd_ne nb]; exact e
          have gd2 : (upd G1 da (.dK (kvG S (gs ++ [g])))) da = some (.dK (kvG S (gs ++ [g]))) := upd_same
          have tk2 := TKp.put (K := K) (o' := .dK (kvG S (gs ++ [g]))) gd1 (fun _ z => by cases z) (fun _ _ z => by cases z)
          have sG2 : Same H (upd G1 da (.dK (kvG S (gs ++ [g])))) := fun b o e => up2 b o (ne_of_none e hda) (sG1 b o e)
          have gw2 := up2 _ _ dw.symm gw1
          generalize upd G1 da (.dK (kvG S (gs ++ [g]))) = G2 at up2 gd2 tk2 sG2 gw2
          have n2 := n.same sG2
          obtain ⟨E', e', m1, m2, m3, m4, he', ent'⟩ := n2.at gS
          have kl := F.kids_le g
          refine ⟨.ref wa, rfl, .inl ⟨rfl, _, SqL.of gw2⟩, .ref r.p, rfl, r.p, SC, r.dx, _, .ref r.ia, rfl, n2.obj, TS.cl, TS.nI, rfl, .int (ix S g : Nat), rfl, r.ia, _, _, .ref e'.i, rfl, rfl, SqL.of m2, atI_nat (j := ix S g) (by rw [List.getElem?_map, he']; rfl), wa, e'.i, _, _, rfl, rfl, gw2, ent'.inn, ?_, ?_⟩
          · rw [List.length_append, List.length_singleton] at lw
            rw [List.length_map, List.length_map]
            exact Nat.le_of_lt (small1000 (by omega))
          · rw [← List.map_append]
            have up3 : ∀ b o, b ≠ wa → G2 b = some o → (upd G2 wa (.lst ((ws' ++ g.kids).map fun g => V.int (ix S g : Nat)))) b = some o := fun b o nb e => by rw [upd_ne nb]; exact e
            refine ⟨3 * (63 - (gs ++ [g]).length) + (ws' ++ g.kids).length, ?_, gs ++ [g], ws' ++ g.kids, _, rfl, fun b o e => up3 b o (ne_of_none e hwa0) (sG2 b o e), up3 _ _ dw gd2, upd_same, ⟨?_, ?_⟩, ?_, ?_, ?_, by simp only [List.length_append, List.length_singleton] at lw ⊢; omega, rfl⟩
            · simp only [List.length_append, List.length_singleton]
              omega
            · exact List.nodup_append.mpr ⟨fo.nd, by simp, fun a ha b hb => by rw [List.mem_singleton] at hb; subst hb; exact fun e => hin (e ▸ ha)⟩
            · intro h hh
              rcases List.mem_append.mp hh with hh | hh
              · exact fo.inS h hh
              · rw [List.mem_singleton.mp hh]; exact ⟨gS, gsub hx, hx⟩
            · intro h hh
              rcases List.mem_append.mp hh with hh | hh
              · exact hws' h hh
              · exact ⟨n.cl g gS h hh, fun q => sbx_kid f g h (gsub hx) hh q⟩
            · intro q
              rcases c1 q with z | z
              · exact .inl (List.mem_append_left _ z)
              · rcases List.mem_append.mp z with z | z
                · exact .inr (List.mem_append_left _ z)
                · exact .inl (List.mem_append_right _ z)
            · intro h hh u hu' q
              rcases List.mem_append.mp hh with hh | hh
              · rcases c2 h hh u hu' q with z | z
                · exact .inl (List.mem_append_left _ z)
                · rcases List.mem_append.mp z with z | z
                  · exact .inr (List.mem_append_left _ z)
                  · exact .inl (List.mem_append_right _ z)
              · rw [List.mem_singleton.mp hh] at hu'
                exact .inr (List.mem_append_right _ hu')
      · rw [decide_eq_false hx]
        refine iteF ?_
        refine iteF ?_
        exact back (.inl hx)
end
end Fw

set_option maxRecDepth 100000
set_option maxHeartbeats 4000000
namespace Fw
open PySem PySem.Spec PyProof.Rows L2
section
variable {P : Program} {w : World} {K : PySem.W.Frag} {mg : Str → Option Value} {base : Heap} {C J B SC HC STP : Addr}
/-- what is asked of a scope f and a statement u that is put for x in it -/
structure PutOk (f u : F) (x : Int) : Prop where
  cl : fv u = []
  few : ∃ Ws : List F, Ws.length ≤ 63 ∧ ∀ g ∈ sbx x f, g ∈ Ws
  vars : ∃ Vs : List Int, (∀ g ∈ sbx x f, ∀ y ∈ fv g, y ∈ Vs) ∧ Vs.length ≤ 63
def spUnf (P : Program) (w : World) (K : PySem.W.Frag) (SC : Addr) : Sp := fun vs H Q _ => ∃ (r : SR) (S : List F) (k : One) (x : Int) (f : F), vs = [.ref r.p, .int (ix S (.one k x f) : Nat)] ∧ Sh P w K SC H r S ∧ F.one k x f ∈ S ∧ PutOk f (.one k x f) x ∧ S.length ≤ 40000 ∧
  ∀ S' H', Kx r H H' → TKp K H H' → Sh P w K SC H' r S' → (∃ T, S' = S ++ T) → S'.length ≤ S.length + 63 → putF x (.one k x f) f ∈ S' → Q (.int (ix S' (putF x (.one k x f) f) : Nat)) H'
/-- the dict of what has changed -/
structure Chg (S S' : List F) (x : Int) (u : F) (gs : List F) (kvs : List (Key × V)) : Prop where
  val : ∀ g ∈ S, valV kvs (Sum.inl ((ix S g : Nat) : Int)) = if g ∈ gs then some (.int (ix S' (putF x u g) : Nat)) else none
  len : kvs.length ≤ gs.length
  inS : ∀ g ∈ gs, putF x u g ∈ S'
theorem putK_len (kvs : List (Key × V)) (k : Key) (v : V) : (putK kvs k v).length ≤ kvs.length + 1 := by
  unfold putK
  split
  · rw [List.length_map]; omega
  · rw [List.length_append]; exact Nat.le_refl _
theorem Chg.put {S S1 S2 : List F} {x : Int} {u g : F} {gs : List F} {kvs : List (Key × V)} (c : Chg S S1 x u gs kvs) (a : ∃ T, S2 = S1 ++ T) (hg : g ∈ S) (hp : putF x u g ∈ S2) :
    Chg S S2 x u (gs ++ [g]) (putK kvs (Sum.inl ((ix S g : Nat) : Int)) (.int (ix S2 (putF x u g) : Nat))) := by
  obtain ⟨T, rfl⟩ := a
  refine ⟨fun h hh => ?_, ?_, fun h hh => ?_⟩
  · rw [valV_put]
    by_cases e : h = g
    · subst e
      rw [if_pos rfl, if_pos (by simp)]
    · have ne : ¬ (Sum.inl ((ix S h : Nat) : Int) : Key) = Sum.inl ((ix S g : Nat) : Int) := fun q => e (ix_inj hh hg (by have := Sum.inl.inj q; omega))
      rw [if_neg ne, c.val h hh]
      by_cases q : h ∈ gs
      · rw [if_pos q, if_pos (List.mem_append_left _ q), ix_app (c.inS h q)]
      · rw [if_neg q, if_neg (by simp [q, e])]
  · have := putK_len kvs (Sum.inl ((ix S g : Nat) : Int)) (.int (ix (S1 ++ T) (putF x u g) : Nat))
    have := c.len
    rw [List.length_append, List.length_singleton]
    omega
  · rcases List.mem_append.mp hh with hh | hh
    · exact List.mem_append_left _ (c.inS h hh)
    · rw [List.mem_singleton.mp hh]; exact hp
theorem ok_unfolding {f fn fp : Addr} {fd fdn fdp : FuncData} (FF : Fun K "unfolding" "Shelf.unfolding" s_Shelf_unfolding f fd) (T : Txt K mg C J B) (TS : TxtS K SC)
    (m_Shelf_number : Meth K SC "number" fn) (g_Shelf_number : FnOk P w K mg base CX0 2 fn fdn a_Shelf_number (spNum P w K SC)) (b_Shelf_number : Binds K fdn a_Shelf_number [])
    (m_Shelf_parts_with_free : Meth K SC "_parts_with_free" fp) (g_Shelf_parts_with_free : FnOk P w K mg base CX0 1 fp fdp a_Shelf__parts_with_free (spPwf P w K SC)) (b_Shelf_parts_with_free : Binds K fdp a_Shelf__parts_with_free []) : FnOk P w K mg base CX0 3 f fd a_Shelf_unfolding (spUnf P w K SC) := by
  refine FF.ok sc_Shelf_unfolding (fun vs H Q E h => ?_) (fun cdv A outer s H vs Q E hr h => ?_)
  · obtain ⟨r, S, k, x, f, rfl, _⟩ := h
    rfl
  · obtain ⟨r, S, kd, x, f, rfl, n, hin, po, hS, k⟩ := h
    have hu := hu_of hr
    obtain ⟨Ws, hW, hWs⟩ := po.few
    obtain ⟨Vs, hV, hVl⟩ := po.vars
    have hfS : f ∈ S := n.cl _ hin f (by simp [F.kids])
    obtain ⟨E, e, l1, l2, l3, l4, he, ent⟩ := n.at hin
    refine ⟨_, (pss_cons (ps_set (i := 2) sc_Shelf_unfolding.nd rfl (.inl rfl) (pe_ix ix_tup (pe_ix ix_list (pe_fld (pv 0) rfl) (pv 1) (fun _ _ => rfl)) pe_int (fun _ _ => rfl)))
      (pss_cons (ps_set (i := 3) sc_Shelf_unfolding.nd rfl (.inl rfl) (pe_ix ix_tup (pe_ix ix_list (pe_fld (pv 0) rfl) (pv 1) (fun _ _ => rfl)) pe_int (fun _ _ => rfl)))
      (pss_cons (ps_set (i := 4) sc_Shelf_unfolding.nd rfl (.inr rfl) pe_dnewK)
      (pss_cons (ps_for PassesOwn.never rfl (pi_list (pe_meth (pv 0) TS.cl m_Shelf_parts_with_free g_Shelf_parts_with_free (hr.mono (by omega)) b_Shelf_parts_with_free .nil pass0 (pa_cons (pv 3) (pa_cons (pv 2) pa_nil)))) (pg_name (i := 5) sc_Shelf_unfolding.nd rfl (.inl rfl)) (pss_one (ps_if (pt_cmpR op_eq (pe_ix ix_tup (pe_ix ix_list (pe_fld (pv 0) rfl) (pv 5) (fun _ _ => rfl)) pe_int (fun _ _ => rfl)) pe_str (nomark _)) (pss_one (ps_dput hu (pv 4) (pv 5) (pv 1) rfl)) (pss_cons (ps_set (i := 6) sc_Shelf_unfolding.nd rfl (.inl rfl) (pe_callTy call_tuple_of rfl T.z_tuple (by decide +kernel) (pa_cons (pe_lc (own := [("part", 7)]) (g := gName 7) rfl sc_Shelf_unfolding.nd (pi_tup (pe_ix ix_list (pe_fld (pv 0) rfl) (pv 5) (fun _ _ => rfl))) (blkOk_by (own := [("part", 7)]) (N := n_Shelf_unfolding) (sc := defScope s_Shelf_unfolding) (by decide +kernel)) (fun _ _ _ _ _ => (pg_name (i := 7) sc_Shelf_unfolding.nd rfl (.inl rfl))) (fun _ _ _ _ _ => pts_nil) (fun _ _ _ _ _ => (pe_dget2 hu (pv 4) (pv 7) (pv 7) ⟨rfl, rfl, rfl, rfl⟩))) pa_nil)))
      (pss_one (ps_dput hu (pv 4) (pv 5) (pe_meth (pv 0) TS.cl m_Shelf_number g_Shelf_number (hr.mono (by omega)) b_Shelf_number .nil pass0 (pa_cons (pe_ix ix_list (pe_fld (pv 0) rfl) (pv 5) (fun _ _ => rfl)) (pa_cons (pv 6) pa_nil))) rfl))))))
      (pss_one (ps_ret (pe_dget2 hu (pv 4) (pv 3) (pv 3) ⟨rfl, rfl, rfl, rfl⟩))))))), ?_⟩
    refine ⟨.ref r.p, rfl, r.p, SC, r.dx, _, .ref r.ha, rfl, n.obj, TS.cl, TS.nH, rfl, .int (ix S (.one kd x f) : Nat), rfl, r.ha, _, _, .ref e.h, rfl, rfl, SqL.of l1, atI_nat (j := ix S (.one kd x f)) (by rw [List.getElem?_map, he]; rfl), e.h, _, 1, .int x, rfl, rfl, ent.hd, rfl, ?_⟩
    refine ⟨.ref r.p, rfl, r.p, SC, r.dx, _, .ref r.ia, rfl, n.obj, TS.cl, TS.nI, rfl, .int (ix S (.one kd x f) : Nat), rfl, r.ia, _, _, .ref e.i, rfl, rfl, SqL.of l2, atI_nat (j := ix S (.one kd x f)) (by rw [List.getElem?_map, he]; rfl), e.i, _, 0, .int (ix S f : Nat), rfl, rfl, ent.inn, rfl, ?_⟩
    intro da hda
    have s1 := Same.new (o := .dK []) hda
    have gd0 : (upd H da (.dK [])) da = some (.dK []) := upd_same
    have nda : ¬ r.Own da := n.notOwn' hda
    generalize upd H da (.dK []) = H1 at s1 gd0
    refine ⟨.ref r.p, rfl, r.p, r.dx, _, rfl, (n.same s1).obj, rfl, .int (ix S f : Nat), rfl, .int x, rfl, r, S, f, x, Ws, rfl, n.same s1, hfS, hW, hWs, fun la ys gs H2 s2 hla gla perm srt fo c1 c2 => ?_⟩
    obtain ⟨u, eu⟩ : ∃ u, u = F.one kd x f := ⟨_, rfl⟩
    rw [← eu] at k po hin
    have gd2 := s2 _ _ gd0
    have s12 := s1.trans s2
    have nla : ¬ r.Own la ∧ la ≠ da := ⟨(n.same s1).notOwn' hla, fun z => by rw [z, gd0] at hla; cases hla⟩
    have hla0 : H la = none := s1.free hla
    have gl : gs.length ≤ 63 := by
      have := nodup_lenF fo.nd fun g hg => hWs g (fo.inS g hg).2.1
      omega
    have yl : ys.length = gs.length := by
      have := perm.length_eq
      rw [List.length_map] at this
      exact this
    -- the i-th of ys
    have nth : ∀ i, i < ys.length → ∃ g ∈ gs, ys[i]? = some ((ix S g : Nat) : Int) := fun i hi => by
      have hm : ys[i] ∈ gs.map fun g => ((ix S g : Nat) : Int) := perm.mem_iff.mp (List.getElem_mem hi)
      obtain ⟨g, hg, e⟩ := List.mem_map.mp hm
      exact ⟨g, hg, by rw [List.getElem?_eq_getElem hi, e]⟩
    refine ⟨la, rfl, ⟨_, SqL.of gla⟩, ?_⟩
    refine for_list (xs := ys.map V.int) (fun i σ G => ∃ (S' : List F) (ds : List F) (kvs : List (Key × V)) (y5 y6 : Option V), σ = [some (.ref r.p), some (.int (ix S u : Nat)), some (.int x), some (.int (ix S f : Nat)), some (.ref da), y5, y6, none] ∧ Kx r H G ∧ TKp K H G ∧ Sh P w K SC G r S' ∧ (∃ T, S' = S ++ T) ∧ S'.length ≤ S.length + i ∧
      G da = some (.dK kvs) ∧ G la = some (.lst (ys.map V.int)) ∧ Chg S S' x u ds kvs ∧ ds.length = i ∧ ∀ g, g ∈ ds ↔ ∃ j, j < i ∧ ys[j]? = some ((ix S g : Nat) : Int) ∧ g ∈ gs)
      ⟨S, [], [], none, none, by rw [eu]; rfl, Kx.same s12, .same s12, n.same s12, ⟨[], by simp⟩, Nat.le_refl _, gd2, gla, ⟨fun g hg => rfl, Nat.le_refl _, fun g hg => nomatch hg⟩, rfl, fun g => ⟨fun z => (nomatch z), fun ⟨j, z, _⟩ => absurd z (Nat.not_lt_zero _)⟩⟩ (fun i σ G _ q => by obtain ⟨_, _, _, _, _, _, _, _, _, _, _, _, h, _⟩ := q; exact SqL.of h) ?_ ?_
    · rintro i y σ G hy ⟨S', ds, kvs, y5, y6, rfl, kx, tk, sh, ⟨T1, eT⟩, lS, gd, gl', ch, dl, dm⟩
      have hi : i < ys.length := by
        have := (List.getElem?_eq_some_iff.mp hy).1
        rw [List.length_map] at this
        exact this
      obtain ⟨g, hg, eg⟩ := nth i hi
      rw [List.getElem?_map, eg] at hy
      obtain rfl : y = .int (ix S g : Nat) := (Option.some.inj hy).symm
      obtain ⟨gS, gsub, gx⟩ := fo.inS g hg
      have gS' : g ∈ S' := by rw [eT]; exact List.mem_append_left _ gS
      have ixg : ix S' g = ix S g := by rw [eT, ix_app gS]
      obtain ⟨E', e', m1, m2, m3, m4, he', ent'⟩ := sh.at gS'
      rw [ixg] at he'
      have dm2 : ∀ h, (h ∈ ds ++ [g]) ↔ ∃ j, j < i + 1 ∧ ys[j]? = some ((ix S h : Nat) : Int) ∧ h ∈ gs := fun h => by
        rw [List.mem_append, dm, List.mem_singleton]
        constructor
        · intro z
          rcases z with ⟨j, z1, z2⟩ | rfl
          · exact ⟨j, by omega, z2⟩
          · exact ⟨i, Nat.lt_succ_self _, eg, hg⟩
        · rintro ⟨j, z1, z2, z3⟩
          by_cases c : j < i
          · exact .inl ⟨j, c, z2, z3⟩
          · have : j = i := by omega
            subst this
            rw [eg] at z2
            exact .inr (ix_inj (fo.inS h z3).1 gS (by have := Option.some.inj z2; omega))
      refine ⟨.ref r.p, rfl, r.p, SC, r.dx, _, .ref r.ha, rfl, sh.obj, TS.cl, TS.nH, rfl, .int (ix S g : Nat), rfl, r.ha, _, _, .ref e'.h, rfl, rfl, SqL.of m1, atI_nat (j := ix S g) (by rw [List.getElem?_map, he']; rfl), e'.h, _, 0, .str (hw g.hd), rfl, rfl, ent'.hd, atI_nat (j := 0) (hv_head _), rfl, _, rfl, ?_⟩
      have ixS : ∀ v ∈ S, ix S' v = ix S v := fun v hv => by rw [eT, ix_app hv]
      have aft : ∀ (S2 : List F) (G3 : Hp) (v : V) (z6 : Option V), v = .int (ix S2 (putF x u g) : Nat) → putF x u g ∈ S2 → (∃ T, S2 = S' ++ T) → S2.length ≤ S'.length + 1 → Kx r H G3 → TKp K H G3 → Sh P w K SC G3 r S2 → G3 da = some (.dK kvs) → G3 la = some (.lst (ys.map V.int)) →
          ∃ (S' : List F) (ds : List F) (kvs' : List (Key × V)) (y5 y6 : Option V), ([some (.ref r.p), some (.int (ix S u : Nat)), some (.int x), some (.int (ix S f : Nat)), some (.ref da), some (.int (ix S g : Nat)), z6, none] : List (Option V)) = [some (.ref r.p), some (.int (ix S u : Nat)), some (.int x), some (.int (ix S f : Nat)), some (.ref da), y5, y6, none] ∧ Kx r H (upd G3 da (.dK (putK kvs (Sum.inl ((ix S g : Nat) : Int)) v))) ∧ TKp K H (upd G3 da (.dK (putK kvs (Sum.inl ((ix S g : Nat) : Int)) v))) ∧ Sh P w K SC (upd G3 da (.dK (putK kvs (Sum.inl ((ix S g : Nat) : Int)) v))) r S' ∧ (∃ T, S' = S ++ T) ∧ S'.length ≤ S.length + (i + 1) ∧
            (upd G3 da (.dK (putK kvs (Sum.inl ((ix S g : Nat) : Int)) v))) da = some (.dK kvs') ∧ (upd G3 da (.dK (putK kvs (Sum.inl ((ix S g : Nat) : Int)) v))) la = some (.lst (ys.map V.int)) ∧ Chg S S' x u ds kvs' ∧ ds.length = i + 1 ∧ ∀ g, g ∈ ds ↔ ∃ j, j < i + 1 ∧ ys[j]? = some ((ix S g : Nat) : Int) ∧ g ∈ gs := by
        intro S2 G3 v z6 hv hp ⟨T2, eT2⟩ ls2 kx3 tk3 sh3 gd3 gl3
        have ch2 := ch.put ⟨T2, eT2⟩ gS hp
        rw [← hv] at ch2
        have kp : ∀ b o, b ≠ da → G3 b = some o → (upd G3 da (.dK (putK kvs (Sum.inl ((ix S g : Nat) : Int)) v))) b = some o := fun b o nb e => by rw [upd_ne nb]; exact e
        have tk4 := TKp.put (K := K) (o' := .dK (putK kvs (Sum.inl ((ix S g : Nat) : Int)) v)) gd3 (fun _ z => by cases z) (fun _ _ z => by cases z)
        refine ⟨S2, ds ++ [g], _, _, _, rfl, fun b o nb e => kp b o (ne_of_none e hda) (kx3 b o nb e), tk3.trans tk4, sh3.keep (fun b o c e => kp b o ?_ e) tk4, ⟨T1 ++ T2, by rw [eT2, eT, List.append_assoc]⟩, by omega, upd_same, kp _ _ nla.2 gl3, ch2, by rw [List.length_append, dl]; rfl, dm2⟩
        · rcases c with c | c
          · exact fun z => nda (z ▸ c)
          · rw [c]
            exact ne_of sh3.obj gd3 (by intro z; cases z)
      have small' : kvs.length < sizeLine := by have := ch.len; exact small1000 (by omega)
      by_cases hvar : ∃ z, g = .leaf .var z
      · obtain ⟨z, rfl⟩ := hvar
        have : x = z := List.mem_singleton.mp gx
        subst this
        refine (if_pos (decide_eq_true rfl)).mpr ?_
        have pu : putF x u (.leaf .var x) = u := by simp only [putF]; rw [if_pos trivial]
        have uS' : u ∈ S' := by rw [eT]; exact List.mem_append_left _ hin
        refine ⟨.int (ix S u : Nat), rfl, .ref da, rfl, .int (ix S (.leaf .var x) : Nat), rfl, da, _, rfl, DPut.k (k := Sum.inl ((ix S (.leaf .var x) : Nat) : Int)) gd small', ?_⟩
        exact aft S' G _ _ (by rw [pu, ixS u hin]) (by rw [pu]; exact uS') ⟨[], by simp⟩ (Nat.le_succ _) kx tk sh gd gl'
      · have nv : ∀ y, g ≠ .leaf .var y := fun y e => hvar ⟨y, e⟩
        refine (if_neg (by rw [decide_eq_false (var_word (hd := g.hd) fun y e => hvar ⟨y, by cases g <;> cases e; rfl⟩)]; exact Bool.false_ne_true)).mpr ?_
        have pm := put_map (u := u) gx nv
        have k2 := F.kids_le g
        refine ⟨.ref r.p, rfl, r.p, SC, r.dx, _, .ref r.ia, rfl, sh.obj, TS.cl, TS.nI, rfl, .int (ix S g : Nat), rfl, r.ia, _, _, .ref e'.i, rfl, rfl, SqL.of m2, atI_nat (j := ix S g) (by rw [List.getElem?_map, he']; rfl), e'.i, rfl, ⟨_, ent'.inn⟩, fun D hD => ?_⟩
        have kidS : ∀ v ∈ g.kids, v ∈ S := n.cl g gS
        have got : ∀ v ∈ g.kids, ((if v ∈ ds then some (V.int (ix S' (putF x u v) : Nat)) else none).getD (.int (ix S v : Nat)) = .int (ix S' (putF x u v) : Nat)) ∧ putF x u v ∈ S' := fun v hv => by
          by_cases q : v ∈ ds
          · rw [if_pos q]
            exact ⟨rfl, ch.inS v q⟩
          · have nx : x ∉ fv v := fun hx => by
              have vg := c2 g hg v hv hx
              have lt := n.ord g gS v hv
              have mem : ((ix S v : Nat) : Int) ∈ ys := perm.mem_iff.mpr (List.mem_map_of_mem vg)
              obtain ⟨j, hj⟩ := List.mem_iff_getElem?.mp mem
              have jl := (List.getElem?_eq_some_iff.mp hj).1
              refine q ((dm v).mpr ⟨j, ?_, hj, vg⟩)
              refine Classical.byContradiction fun hji => ?_
              have e1 : ys[j] = ((ix S v : Nat) : Int) := by
                have := List.getElem?_eq_getElem jl
                rw [hj] at this
                exact (Option.some.inj this).symm
              have e2 : ys[i] = ((ix S g : Nat) : Int) := by
                have := List.getElem?_eq_getElem hi
                rw [eg] at this
                exact (Option.some.inj this).symm
              by_cases ij : i = j
              · subst ij
                rw [e1] at e2
                omega
              · have := List.pairwise_iff_getElem.mp srt i j hi jl (by omega)
                rw [e1, e2] at this
                omega
            rw [if_neg q, put_none v nx]
            refine ⟨?_, by rw [eT]; exact List.mem_append_left _ (kidS v hv)⟩
            rw [ixS v (kidS v hv)]
            rfl
        refine lc_tup (xs := g.kids.map fun v => V.int (ix S' v : Nat)) (fun m G2 => Same G G2 ∧ G2 D = some (.lst ((g.kids.take m).map fun v => V.int (ix S' (putF x u v) : Nat)))) ⟨Same.new hD, by rw [upd_same]; rfl⟩ (fun m G2 _ q => SqT.same q.1 ent'.inn) ?_ ?_
        · rintro m y G2 hy ⟨s3, gD⟩
          obtain ⟨v, hv⟩ : ∃ v, g.kids[m]? = some v := by
            rw [List.getElem?_map] at hy
            cases q : g.kids[m]? with
            | none => rw [q] at hy; cases hy
            | some v => exact ⟨v, rfl⟩
          rw [List.getElem?_map, hv] at hy
          have vm := List.mem_of_getElem? hv
          have ev : V.int (ix S' v : Nat) = V.int (ix S v : Nat) := by rw [ixS v (kidS v vm)]
          obtain rfl : y = V.int (ix S v : Nat) := (Option.some.inj hy).symm.trans ev
          have gd3 := s3 _ _ gd
          have hget := DGet.k (k := Sum.inl ((ix S v : Nat) : Int)) gd3
          rw [ch.val v (kidS v vm)] at hget
          refine ⟨rfl, .ref da, rfl, da, rfl, .inl ⟨_, .inl gd3⟩, .int (ix S v : Nat), rfl, .int (ix S v : Nat), rfl, _, hget, ?_⟩
          rw [(got v vm).1]
          refine ⟨_, gD, small1000 (by rw [List.length_map, List.length_take]; omega), fun b o e => by rw [upd_ne (ne_of_none e hD)]; exact s3 b o e, ?_⟩
          rw [upd_same, List.take_add_one, hv, List.map_append]
          rfl
        · rintro G2 ⟨s3, gD⟩
          rw [List.length_map, List.take_length] at gD
          refine ⟨D, _, rfl, .inl ⟨SqL.of gD, fun tp htp => ?_⟩⟩
          have s34 := s3.trans (Same.new (o := .tup (g.kids.map fun v => V.int (ix S' (putF x u v) : Nat))) htp)
          have tpT : SqT K (upd G2 tp (.tup (g.kids.map fun v => V.int (ix S' (putF x u v) : Nat)))) tp (g.kids.map fun v => V.int (ix S' (putF x u v) : Nat)) := SqT.of upd_same
          generalize upd G2 tp (.tup (g.kids.map fun v => V.int (ix S' (putF x u v) : Nat))) = G2 at s34 tpT
          have sh4 := sh.same s34
          refine ⟨.ref r.p, rfl, r.p, r.dx, _, rfl, sh4.obj, rfl, .ref r.p, rfl, r.p, SC, r.dx, _, .ref r.ha, rfl, sh4.obj, TS.cl, TS.nH, rfl, .int (ix S g : Nat), rfl, r.ha, _, _, .ref e'.h, rfl, rfl, SqL.of (s34 _ _ m1), atI_nat (j := ix S g) (by rw [List.getElem?_map, he']; rfl), .ref tp, rfl, r, e'.h, tp, S', putF x u g, rfl, sh4, by rw [pm, mapK_hd]; exact SqT.same s34 ent'.hd, by rw [pm, mapK_kids, List.map_map]; exact tpT, fun v hv => ?_, by omega, ⟨Vs, fun y hy => ?_, hVl⟩, fun S2 G3 kx3 tk3 sh3 gr => ?_⟩
          · rw [pm, mapK_kids] at hv
            obtain ⟨v0, h0, rfl⟩ := List.mem_map.mp hv
            exact (got v0 h0).2
          · rcases put_fv g y hy with z | z
            · exact hV g gsub y z
            · rw [po.cl] at z
              cases z
          · refine ⟨.ref da, rfl, .int (ix S g : Nat), rfl, da, _, rfl, DPut.k (k := Sum.inl ((ix S g : Nat) : Int)) (kx3 _ _ nda (s34 _ _ gd)) small', ?_⟩
            exact aft S2 G3 _ _ rfl gr.mem gr.app gr.len ((kx.trans (.same s34)).trans kx3) ((tk.trans (.same s34)).trans tk3) sh3 (kx3 _ _ nda (s34 _ _ gd)) (kx3 _ _ nla.1 (s34 _ _ gl'))
    · rintro σ G ⟨S', ds, kvs, y5, y6, rfl, kx, tk, sh, ⟨T1, eT⟩, lS, gd, gl', ch, dl, dm⟩
      rw [List.length_map] at dm
      have hget := DGet.k (k := Sum.inl ((ix S f : Nat) : Int)) gd
      rw [ch.val f hfS] at hget
      refine ⟨.ref da, rfl, da, rfl, .inl ⟨_, .inl gd⟩, .int (ix S f : Nat), rfl, .int (ix S f : Nat), rfl, _, hget, ?_⟩
      have fin : ((if f ∈ ds then some (V.int (ix S' (putF x u f) : Nat)) else none).getD (.int (ix S f : Nat)) = .int (ix S' (putF x u f) : Nat)) ∧ putF x u f ∈ S' := by
        by_cases q : f ∈ ds
        · rw [if_pos q]
          exact ⟨rfl, ch.inS f q⟩
        · have nx : x ∉ fv f := fun hx => by
            have fg := c1 hx
            have mem : ((ix S f : Nat) : Int) ∈ ys := perm.mem_iff.mpr (List.mem_map_of_mem fg)
            obtain ⟨j, hj⟩ := List.mem_iff_getElem?.mp mem
            exact q ((dm f).mpr ⟨j, (List.getElem?_eq_some_iff.mp hj).1, hj, fg⟩)
          rw [if_neg q, put_none f nx]
          refine ⟨?_, by rw [eT]; exact List.mem_append_left _ hfS⟩
          rw [eT, ix_app hfS]
          rfl
      rw [fin.1]
      exact k S' G kx tk sh ⟨T1, eT⟩ (by rw [List.length_map] at lS; omega) fin.2
end
end Fw

set_option maxRecDepth 100000
set_option maxHeartbeats 4000000
namespace Fw
open PySem PySem.Spec PyProof.Rows L2
/-- all variables that stand in it -/
def fv_all : F → List Int
  | .leaf .var x => [x]
  | .two _ f g => fv_all f ++ fv_all g
  | .one _ _ f => fv_all f
  | _ => []
theorem fv_all_len : ∀ t : F, (fv_all t).length ≤ t.size
  | .nul _ => Nat.zero_le _
  | .leaf .has _ => Nat.zero_le _
  | .leaf .lacks _ => Nat.zero_le _
  | .leaf .var _ => Nat.le_refl _
  | .two b f g => by
    have := fv_all_len f
    have := fv_all_len g
    simp only [fv_all, F.size, List.length_append]
    omega
  | .one k n f => by
    have := fv_all_len f
    simp only [fv_all, F.size]
    omega
theorem fv_in_all : ∀ (t : F) (x : Int), x ∈ fv t → x ∈ fv_all t
  | .nul _, x, h => h
  | .leaf .has _, x, h => h
  | .leaf .lacks _, x, h => h
  | .leaf .var _, x, h => h
  | .two b f g, x, h => by
    rcases List.mem_append.mp (show x ∈ fv f ++ fv g from h) with h | h
    · exact List.mem_append_left _ (fv_in_all f x h)
    · exact List.mem_append_right _ (fv_in_all g x h)
  | .one k n f, x, h => by
    simp only [fv] at h
    split at h
    · exact fv_in_all f x (List.mem_filter.mp h).1
    · exact fv_in_all f x h
theorem fv_subs : ∀ (t u : F), u ∈ subs t → ∀ x ∈ fv u, x ∈ fv_all t
  | .nul _, u, h, x, hx => by rw [List.mem_singleton.mp h] at hx; exact hx
  | .leaf k n, u, h, x, hx => by rw [List.mem_singleton.mp h] at hx; exact fv_in_all _ x hx
  | .two b f g, u, h, x, hx => by
    simp only [subs, List.mem_cons, List.mem_append] at h
    rcases h with h | h | h
    · rw [h] at hx; exact fv_in_all _ x hx
    · exact List.mem_append_left _ (fv_subs f u h x hx)
    · exact List.mem_append_right _ (fv_subs g u h x hx)
  | .one k n f, u, h, x, hx => by
    simp only [subs, List.mem_cons] at h
    rcases h with h | h
    · rw [h] at hx; exact fv_in_all _ x hx
    · exact fv_subs f u h x hx
theorem made_same {H H2 : Hp} {x dx : Addr} {C : Addr} (n1 : H x = none) (n2 : H dx = none) (bt : But x (upd (upd H dx (.own x)) x (.ins C dx [])) H2) : Same H H2 := fun b o e =>
  bt b o (ne_of_none e n1) (by rw [upd_ne (ne_of_none e n1), upd_ne (ne_of_none e n2)]; exact e)

theorem app_all : ∀ (t : F) (r : Sb) (y : Int), y ∈ fv_all (app r t) → y ∈ fv_all t ∨ ∃ p ∈ r, y ∈ fv_all p.2
  | .nul _, r, y, h => .inl h
  | .leaf .has _, r, y, h => .inl h
  | .leaf .lacks _, r, y, h => .inl h
  | .leaf .var z, r, y, h => by
    simp only [app] at h
    cases c : getS r z with
    | none => rw [c] at h; exact .inl h
    | some v => rw [c] at h; exact .inr ⟨_, getS_mem c, h⟩
  | .two b f g, r, y, h => by
    rcases List.mem_append.mp (show y ∈ fv_all (app r f) ++ fv_all (app r g) from h) with h | h
    · exact (app_all f r y h).imp (List.mem_append_left _) id
    · exact (app_all g r y h).imp (List.mem_append_right _) id
  | .one k n f, r, y, h => by
    simp only [app] at h
    split at h
    · rcases app_all f _ y h with z | ⟨p, hp, z⟩
      · exact .inl z
      · exact .inr ⟨p, (List.mem_filter.mp hp).1, z⟩
    · exact app_all f r y h
theorem exl_vars : ∀ (t : F) (r : Sb) (v : F), v ∈ exl r t → ∀ y ∈ fv_all v, y ∈ fv_all t ∨ ∃ p ∈ r, y ∈ fv_all p.2
  | .nul b, r, v, hv, y, hy => by rw [List.mem_singleton.mp hv] at hy; exact app_all _ r y hy
  | .leaf k n, r, v, hv, y, hy => by rw [show v = app r (.leaf k n) from List.mem_singleton.mp hv] at hy; exact app_all _ r y hy
  | .two b f g, r, v, hv, y, hy => by
    simp only [exl, List.mem_cons, List.mem_append] at hv
    rcases hv with h | h | h
    · rw [h] at hy; exact app_all _ r y hy
    · exact (exl_vars f r v h y hy).imp (List.mem_append_left _) id
    · exact (exl_vars g r v h y hy).imp (List.mem_append_right _) id
  | .one k n f, r, v, hv, y, hy => by
    simp only [exl, List.mem_cons] at hv
    rcases hv with h | h
    · rw [h] at hy; exact app_all _ r y hy
    · split at h
      · rcases exl_vars f _ v h y hy with z | ⟨p, hp, z⟩
        · exact .inl z
        · rcases List.mem_cons.mp hp with rfl | hp
          · exact app_all (.one k n f) r y z
          · exact .inr ⟨p, hp, z⟩
      · exact exl_vars f r v h y hy
theorem sbx_nil {x : Int} {t : F} (h : x ∉ fv t) : sbx x t = [] := by
  cases t with
  | nul b => rfl
  | leaf k n => simp only [sbx, if_neg h]
  | two b f g => simp only [sbx, if_neg h]
  | one k n f => simp only [sbx, if_neg h]
theorem sbx_app : ∀ (t : F) (r : Sb) (x : Int), ClS r → (sbx x (app r t)).length ≤ t.size
  | .nul _, r, x, h => Nat.zero_le _
  | .leaf .has n, r, x, h => by simp only [app, sbx]; split <;> simp [F.size]
  | .leaf .lacks n, r, x, h => by simp only [app, sbx]; split <;> simp [F.size]
  | .leaf .var z, r, x, h => by
    simp only [app]
    cases c : getS r z with
    | none => simp only [Option.getD_none, sbx]; split <;> simp [F.size]
    | some v =>
      rw [Option.getD_some, sbx_nil (by rw [h _ (getS_mem c)]; simp)]
      exact Nat.zero_le _
  | .two b f g, r, x, h => by
    have := sbx_app f r x h
    have := sbx_app g r x h
    simp only [app, sbx, F.size]
    split
    · simp only [List.length_cons, List.length_append]; omega
    · exact Nat.zero_le _
  | .one k n f, r, x, h => by
    simp only [app]
    split
    · have := sbx_app f (delS n r) x (h.del n)
      simp only [sbx, F.size]
      split
      · simp only [List.length_cons]; omega
      · exact Nat.zero_le _
    · have := sbx_app f r x h
      simp only [sbx, F.size]
      split
      · simp only [List.length_cons]; omega
      · exact Nat.zero_le _
def FewB (M : Nat) (v : F) : Prop := ∀ k n f, v = .one k n f → k.bind = true → (sbx n f).length ≤ M
theorem exl_few (M : Nat) : ∀ (t : F) (r : Sb), ClS r → (∀ p ∈ r, FewB M p.2) → (∀ x ∈ fv t, (getS r x).isSome = true) → t.size ≤ M → ∀ v ∈ exl r t, FewB M v
  | .nul b, r, cl, hr, hf, hM, v, hv => by
    rw [show v = .nul b from List.mem_singleton.mp hv]
    exact fun k n f e => nomatch e
  | .leaf .has n, r, cl, hr, hf, hM, v, hv => by
    rw [show v = .leaf .has n from List.mem_singleton.mp hv]
    exact fun k n f e => nomatch e
  | .leaf .lacks n, r, cl, hr, hf, hM, v, hv => by
    rw [show v = .leaf .lacks n from List.mem_singleton.mp hv]
    exact fun k n f e => nomatch e
  | .leaf .var y, r, cl, hr, hf, hM, v, hv => by
    obtain ⟨u, hu⟩ := Option.isSome_iff_exists.mp (hf y (List.mem_singleton.mpr rfl))
    rw [show v = (getS r y).getD (.leaf .var y) from List.mem_singleton.mp hv, hu, Option.getD_some]
    exact hr _ (getS_mem hu)
  | .two b f g, r, cl, hr, hf, hM, v, hv => by
    simp only [F.size] at hM
    simp only [exl, List.mem_cons, List.mem_append] at hv
    rcases hv with h | h | h
    · rw [h]
      exact fun k n f e => nomatch e
    · exact exl_few M f r cl hr (fun x hx => hf x (List.mem_append_left _ hx)) (by omega) v h
    · exact exl_few M g r cl hr (fun x hx => hf x (List.mem_append_right _ hx)) (by omega) v h
  | .one k n f, r, cl, hr, hf, hM, v, hv => by
    simp only [F.size] at hM
    by_cases hk : k.bind = true
    · have top : FewB M (app r (.one k n f)) := by
        intro k' n' f' e _
        simp only [app, if_pos hk] at e
        injection e with e1 e2 e3
        rw [← e2, ← e3]
        have := sbx_app f (delS n r) n (cl.del n)
        omega
      simp only [exl, if_pos hk, List.mem_cons] at hv
      rcases hv with h | h
      · rw [h]; exact top
      · refine exl_few M f _ (cl.cons (app_closed cl hf)) (fun p hp => ?_) (fun x hx => ?_) (by omega) v h
        · rcases List.mem_cons.mp hp with rfl | hp
          · exact top
          · exact hr p hp
        · by_cases e : n = x
          · simp [getS, e]
          · have := hf x (by simp only [fv, if_pos hk]; exact List.mem_filter.mpr ⟨hx, decide_eq_true fun z => e z.symm⟩)
            unfold getS at this ⊢
            rw [List.find?_cons_of_neg (by simp [e])]
            exact this
    · simp only [exl, if_neg hk, List.mem_cons] at hv
      rcases hv with h | h
      · rw [h]
        intro k' n' f' e hk'
        simp only [app, if_neg hk] at e
        injection e with e1 e2 e3
        rw [e1] at hk
        exact absurd hk' hk
      · exact exl_few M f r cl hr (fun x hx => hf x (by simp only [fv, if_neg hk]; exact hx)) (by omega) v h
theorem sbx_sub : ∀ (t u : F) (x : Int), u ∈ sbx x t → u ∈ subs t
  | .nul _, u, x, h => nomatch h
  | .leaf k n, u, x, h => by
    simp only [sbx] at h
    split at h
    · exact h
    · cases h
  | .two b f g, u, x, h => by
    simp only [sbx] at h
    split at h
    · simp only [subs, List.mem_cons, List.mem_append] at h ⊢
      exact h.imp id (Or.imp (sbx_sub f u x) (sbx_sub g u x))
    · cases h
  | .one k n f, u, x, h => by
    simp only [sbx] at h
    split at h
    · simp only [subs, List.mem_cons] at h ⊢
      exact h.imp id (sbx_sub f u x)
    · cases h
/-- a statement of the closure: what its unfolding asks -/
structure ClOk (v : F) : Prop where
  cl : fv v = []
  siz : v.size ≤ 1000
  dep : v.depth ≤ 15
  put : ∀ k n f, v = .one k n f → k.bind = true → PutOk f v n
  vars : ∃ Vs : List Int, (∀ g ∈ subs v, ∀ x ∈ fv g, x ∈ Vs) ∧ Vs.length ≤ 63
theorem clOk {t : F} (h : fv t = []) (hd : t.depth ≤ 5) : ∀ v ∈ exl [] t, ClOk v := fun v hv => by
  have hs : t.size ≤ 31 := by
    have := F.size_depth t
    have : 2 ^ t.depth ≤ 2 ^ 5 := Nat.pow_le_pow_right (by decide) hd
    omega
  have cl := (exl_all h v hv).1
  have va : ∀ y ∈ fv_all v, y ∈ fv_all t := fun y hy => (exl_vars t [] v hv y hy).resolve_right fun ⟨p, hp, _⟩ => nomatch hp
  have vl : (fv_all t).length ≤ 63 := by have := fv_all_len t; omega
  have few := exl_few 31 t [] (fun p hp => nomatch hp) (fun p hp => nomatch hp) (fun x hx => by rw [h] at hx; cases hx) hs v hv
  refine ⟨cl, Nat.le_trans (exl_size t 5 [] 0 hd (fun p hp => nomatch hp) v hv) bA5, Nat.le_trans (exl_depth t 5 [] 0 hd (fun p hp => nomatch hp) v hv) dA5, fun k n f e hk => ⟨cl, ⟨sbx n f, by have := few k n f e hk; omega, fun g hg => hg⟩, ⟨fv_all t, fun g hg y hy => va y ?_, vl⟩⟩, ⟨fv_all t, fun g hg x hx => va x (fv_subs v g hg x hx), vl⟩⟩
  rw [e]
  exact fv_subs f g (sbx_sub f g n hg) y hy
section
variable {P : Program} {w : World} {K : PySem.W.Frag} {mg : Str → Option Value} {base : Heap} {C J B SC HC STP : Addr}
def spUnfd (K : PySem.W.Frag) : Sp := fun vs H Q _ => ∃ (v : V) (k : One) (n : Int) (f : F), vs = [v] ∧ IsF K H v (.one k n f) ∧ k.bind = true ∧ ClOk (.one k n f) ∧ ∀ v' H', Same H H' → IsF K H' v' (putF n (.one k n f) f) → Q v' H'
theorem ok_unfolded {f fn fu : Addr} {fd fdn fdu : FuncData} (FF : Fun K "unfolded" "unfolded" s_unfolded f fd) (T : Txt K mg C J B) (TS : TxtS K SC) (h_Shelf : HasC P w K mg base "Shelf" SC 1 a_Shelf_init (spShI P w K SC))
    (m_Shelf_numbered : Meth K SC "numbered" fn) (g_Shelf_numbered : FnOk P w K mg base CX0 4 fn fdn a_Shelf_numbered (spNumd P w K SC)) (b_Shelf_numbered : Binds K fdn a_Shelf_numbered [])
    (m_Shelf_unfolding : Meth K SC "unfolding" fu) (g_Shelf_unfolding : FnOk P w K mg base CX0 3 fu fdu a_Shelf_unfolding (spUnf P w K SC)) (b_Shelf_unfolding : Binds K fdu a_Shelf_unfolding []) : FnOk P w K mg base CX0 5 f fd a_unfolded (spUnfd K) := by
  refine FF.ok sc_unfolded (fun vs H Q E h => ?_) (fun cdv A outer s H vs Q E hr h => ?_)
  · obtain ⟨v, k, n, f, rfl, _⟩ := h
    rfl
  · obtain ⟨v, kd, m, f, rfl, ht, hk, co, k⟩ := h
    refine ⟨_, (pss_cons (ps_set (i := 1) sc_unfolded.nd rfl (.inl rfl) (pe_makeH0 h_Shelf (hr.mono (by omega))))
      (pss_one (ps_ret (pe_ix ix_list (pe_fld (pv 1) rfl) (pe_meth (pv 1) TS.cl m_Shelf_unfolding g_Shelf_unfolding (hr.mono (by omega)) b_Shelf_unfolding .nil pass0 (pa_cons (pe_meth (pv 1) TS.cl m_Shelf_numbered g_Shelf_numbered (hr.mono (by omega)) b_Shelf_numbered .nil pass0 (pa_cons (pv 0) pa_nil)) pa_nil)) (fun _ _ => rfl))))), ?_⟩
    intro sp sdx nsp nsdx nesd
    refine ⟨sp, sdx, rfl, upd_same, fun r Hs er bt ow sh0 => ⟨rfl, ?_⟩⟩
    subst er
    have ss := made_same nsp nsdx bt
    have nown : ∀ b o, H b = some o → ¬ r.Own b := fun b o e z => by
      have := ow b z
      rw [upd_ne (ne_of_none e nsp), upd_ne (ne_of_none e nsdx), e] at this
      cases this
    clear bt nsp nsdx nesd ow
    refine ⟨.ref r.p, rfl, r.p, SC, r.dx, _, .ref r.sa, rfl, sh0.obj, TS.cl, TS.nS, rfl, .ref r.p, rfl, r.p, r.dx, _, rfl, sh0.obj, rfl, .ref r.p, rfl, r.p, r.dx, _, rfl, sh0.obj, rfl, v, rfl, r, v, [], .one kd m f, rfl, sh0, ht.same ss, co.siz, co.vars, Nat.zero_le _, fun S1 H1 kx1 tk1 sh1 _ ls1 only1 => ?_⟩
    have uS : F.one kd m f ∈ S1 := (only1 _).mpr (.inr (subs_self _))
    refine ⟨r, S1, kd, m, f, rfl, sh1, uS, co.put _ _ _ rfl hk, by have := co.siz; simp only [List.length_nil] at ls1; omega, fun S2 H2 kx2 tk2 sh2 _ _ inS2 => ?_⟩
    obtain ⟨E, e, l1, l2, l3, l4, he, ent⟩ := sh2.at inS2
    refine ⟨r.sa, _, _, e.v, rfl, rfl, SqL.of l4, atI_nat (j := ix S2 (putF m (.one kd m f) f)) (by rw [List.getElem?_map, he]; rfl), ?_⟩
    exact k e.v H2 (fun b o eb => kx2 b o (nown b o eb) (kx1 b o (nown b o eb) (ss _ _ eb))) ent.st
def spBeh (P : Program) (w : World) (K : PySem.W.Frag) (SC : Addr) : Sp := fun vs H Q _ => ∃ (r : SR) (S : List F) (v : F), vs = [.ref r.p, .int (ix S v : Nat)] ∧ Sh P w K SC H r S ∧ v ∈ S ∧ ClOk v ∧ S.length ≤ 40000 ∧
  ∀ a S' H', Kx r H H' → TKp K H H' → Sh P w K SC H' r S' → (∃ T, S' = S ++ T) → S'.length ≤ S.length + 63 → SqT K H' a ((fol v).map fun g => V.int (ix S' g : Nat)) → (∀ g ∈ fol v, g ∈ S') → Q (.ref a) H'
theorem ok_behind {f fu : Addr} {fd fdu : FuncData} (FF : Fun K "behind" "behind" s_behind f fd) (T : Txt K mg C J B) (TS : TxtS K SC)
    (m_Shelf_unfolding : Meth K SC "unfolding" fu) (g_Shelf_unfolding : FnOk P w K mg base CX0 3 fu fdu a_Shelf_unfolding (spUnf P w K SC)) (b_Shelf_unfolding : Binds K fdu a_Shelf_unfolding []) : FnOk P w K mg base CX0 4 f fd a_behind (spBeh P w K SC) := by
  refine FF.ok sc_behind (fun vs H Q E h => ?_) (fun cdv A outer s H vs Q E hr h => ?_)
  · obtain ⟨r, S, v, rfl, _⟩ := h
    rfl
  · obtain ⟨r, S, v, rfl, n, hv', co, hS, k⟩ := h
    refine ⟨_, (pss_cons (ps_if (pt_cmpR op_in_seq (pe_ix ix_tup (pe_ix ix_list (pe_fld (pv 0) rfl) (pv 1) (fun _ _ => rfl)) pe_int (fun _ _ => rfl)) (pe_glob rfl T.m_BINDERS (show RelV (.ref _) _ from rfl)) (by rfl)) (pss_one (ps_ret (pe_tup (pa_cons (pe_meth (pv 0) TS.cl m_Shelf_unfolding g_Shelf_unfolding (hr.mono (by omega)) b_Shelf_unfolding .nil pass0 (pa_cons (pv 1) pa_nil)) pa_nil)))) pss_nil)
      (pss_one (ps_ret (pe_ix ix_list (pe_fld (pv 0) rfl) (pv 1) (fun _ _ => rfl))))), ?_⟩
    obtain ⟨E, e, l1, l2, l3, l4, he, ent⟩ := n.at hv'
    refine ⟨.ref r.p, rfl, r.p, SC, r.dx, _, .ref r.ha, rfl, n.obj, TS.cl, TS.nH, rfl, .int (ix S v : Nat), rfl, r.ha, _, _, .ref e.h, rfl, rfl, SqL.of l1, atI_nat (j := ix S v) (by rw [List.getElem?_map, he]; rfl), e.h, _, 0, .str (hw v.hd), rfl, rfl, ent.hd, atI_nat (j := 0) (hv_head _), B, _, rfl, .inr (T.c_BINDERS _), rfl, rfl, _, rfl, ?_⟩
    rw [if_neg Bool.false_ne_true, in_binders, isB_hdS]
    cases hb : isB v with
    | true =>
      obtain ⟨kd, m, f, rfl⟩ : ∃ kd x f, v = .one kd x f := by
        cases v with
        | one kd x f => exact ⟨kd, x, f, rfl⟩
        | _ => cases hb
      have hk : kd.bind = true := hb
      refine iteT ?_
      refine ⟨.ref r.p, rfl, r.p, r.dx, _, rfl, n.obj, rfl, .int (ix S (.one kd m f) : Nat), rfl, r, S, kd, m, f, rfl, n, hv', co.put _ _ _ rfl hk, hS, fun S2 H2 kx2 tk2 sh2 app2 ls2 inS2 => ?_⟩
      refine ⟨by show 1 ≤ sizeLine; decide, fun q hq => ?_⟩
      have sq := Same.new (o := .tup [.int (ix S2 (putF m (.one kd m f) f) : Nat)]) hq
      have ef : fol (.one kd m f) = [putF m (.one kd m f) f] := by simp only [fol]; rw [if_pos hk]
      refine k q S2 _ (kx2.trans (.same sq)) (tk2.trans (.same sq)) (sh2.same sq) app2 ls2 ?_ ?_
      · rw [ef]; exact SqT.of upd_same
      · rw [ef]
        intro g hg
        rw [List.mem_singleton.mp hg]
        exact inS2
    | false =>
      refine iteF ?_
      have ef : fol v = v.kids := by
        cases v with
        | nul b => rfl
        | leaf kd m => rfl
        | two b f g => rfl
        | one kd m f =>
          have : ¬ kd.bind = true := fun z => by rw [show isB (.one kd m f) = kd.bind from rfl, z] at hb; cases hb
          simp only [fol, F.kids]
          rw [if_neg this]
      refine ⟨.ref r.p, rfl, r.p, SC, r.dx, _, .ref r.ia, rfl, n.obj, TS.cl, TS.nI, rfl, .int (ix S v : Nat), rfl, r.ia, _, _, .ref e.i, rfl, rfl, SqL.of l2, atI_nat (j := ix S v) (by rw [List.getElem?_map, he]; rfl), ?_⟩
      exact k e.i S H (Kx.refl _ _) (TKp.refl _ _) n ⟨[], by simp⟩ (Nat.le_add_right _ _) (by rw [ef]; exact ent.inn) (by rw [ef]; exact n.cl v hv')
end
end Fw

set_option maxRecDepth 100000
set_option maxHeartbeats 4000000
namespace Fw
open PySem PySem.Spec PyProof.Rows L2
def tdy (t : F) : F := (tidyF t nm0 0).1
theorem tdy_depth (t : F) : (tdy t).depth = t.depth := by rw [← skel_depth, tdy, tidy_skel, skel_depth]
theorem tdy_size (t : F) : (tdy t).size = t.size := by rw [← skel_size, tdy, tidy_skel, skel_size]
theorem tdy_fv {t : F} (h : fv t = []) : fv (tdy t) = [] := closed_fv.mpr (tidy_closed nm0 0 (closed_fv.mp h))
theorem size31 {t : F} (h : t.depth ≤ 5) : t.size ≤ 31 := by
  have := F.size_depth t
  have : 2 ^ t.depth ≤ 2 ^ 5 := Nat.pow_le_pow_right (by decide) h
  omega
theorem addN_snoc (L us : List F) (u : F) : addN L (us ++ [u]) = if u ∈ addN L us then addN L us else addN L us ++ [u] := by
  unfold addN
  rw [List.foldl_append]
  rfl
theorem addN_sub : ∀ (us L : List F) (g : F), g ∈ L → g ∈ addN L us
  | [], L, g, h => h
  | u :: us, L, g, h => by
    show g ∈ addN (if u ∈ L then L else L ++ [u]) us
    refine addN_sub us _ g ?_
    split
    · exact h
    · exact List.mem_append_left _ h
theorem kvG_app {S T L : List F} (h : ∀ g ∈ L, g ∈ S) : kvG (S ++ T) L = kvG S L := List.map_congr_left fun g hg => by rw [ix_app (h g hg)]
section
variable {P : Program} {w : World} {K : PySem.W.Frag} {mg : Str → Option Value} {base : Heap} {C J B NC SC HC STP : Addr}
def spCln (P : Program) (w : World) (K : PySem.W.Frag) (SC : Addr) : Sp := fun vs H Q _ => ∃ (r : SR) (v : V) (t : F), vs = [.ref r.p, v] ∧ Sh P w K SC H r [] ∧ IsF K H v t ∧ fv t = [] ∧ t.depth ≤ 5 ∧
  ∀ a S H', Kx r H H' → TKp K H H' → Sh P w K SC H' r S → H' a = some (.lst ((stC (tdy t) 200).map fun g => V.int (ix S g : Nat))) → (∀ g ∈ stC (tdy t) 200, g ∈ S) → Q (.ref a) H'
theorem ok_closure_numbers {f fn : Addr} {fd fdn : FuncData} (FF : Fun K "closure_numbers" "closure_numbers" s_closure_numbers f fd) (T : Txt K mg C J B) (TS : TxtS K SC) (h_tidy : HasX P w K mg base "tidy" 6 a_tidy (spTidy K NC)) (h_behind : Has P w K mg base "behind" 4 a_behind (spBeh P w K SC))
    (m_Shelf_numbered : Meth K SC "numbered" fn) (g_Shelf_numbered : FnOk P w K mg base CX0 4 fn fdn a_Shelf_numbered (spNumd P w K SC)) (b_Shelf_numbered : Binds K fdn a_Shelf_numbered []) : FnOk P w K mg base CX0 7 f fd a_closure_numbers (spCln P w K SC) := by
  refine FF.ok sc_closure_numbers (fun vs H Q E h => ?_) (fun cdv A outer s H vs Q E hr h => ?_)
  · obtain ⟨r, v, t, rfl, _⟩ := h
    rfl
  · obtain ⟨r, v, t0, rfl, sh0, ht, hcl, hd, k⟩ := h
    have hu := hu_of hr
    refine ⟨_, (pss_cons (ps_set (i := 2) sc_closure_numbers.nd rfl (.inl rfl) (pe_lst (pa_cons (pe_meth (pv 0) TS.cl m_Shelf_numbered g_Shelf_numbered (hr.mono (by omega)) b_Shelf_numbered .nil pass0 (pa_cons (pe_callL h_tidy (hr.mono (by omega)) (pa_cons (pv 1) pa_nil)) pa_nil)) pa_nil)))
      (pss_cons (ps_set (i := 3) sc_closure_numbers.nd rfl (.inl rfl) (pe_disp (pps_cons (pe_ix ix_list (pv 2) pe_int (fun _ _ => rfl)) pe_bl pps_nil) (by rfl) (by rfl) (fun z => by cases z) (by decide)))
      (pss_cons (ps_set (i := 4) sc_closure_numbers.nd rfl (.inl rfl) pe_int)
      (pss_cons (ps_while PassesOwn.never (pt_cmpR op_lt (pv 4) (pe_callB call_len_seq rfl T.z_len (by decide +kernel) (pa_cons (pv 2) pa_nil)) (nomark _)) (pss_cons (ps_for PassesOwn.never rfl (pi_tup (pe_callH h_behind (hr.mono (by omega)) (pa_cons (pv 0) (pa_cons (pe_ix ix_list (pv 2) (pv 4) (fun _ _ => rfl)) pa_nil)))) (pg_name (i := 5) sc_closure_numbers.nd rfl (.inl rfl)) (pss_one (ps_if (pt_cmp (pc_dnotin hu (pv 5) (pv 3))) (pss_cons (ps_dput hu (pv 3) (pv 5) pe_bl rfl)
      (pss_one (ps_expr (pe_bm PySem.F.plainAttrs_list PySem.F.slot_list_append PySem.F.type_list_append mt_append (pv 2) (pa_cons (pv 5) pa_nil))))) pss_nil)))
      (pss_one (ps_aug (i := 4) sc_closure_numbers.nd rfl (.inl rfl) pe_int ip_add))))
      (pss_one (ps_ret (pv 2))))))), ?_⟩
    obtain ⟨t, et⟩ : ∃ t, t = tdy t0 := ⟨_, rfl⟩
    rw [← et] at k
    have tcl : fv t = [] := by rw [et]; exact tdy_fv hcl
    have tdp : t.depth ≤ 5 := by rw [et, tdy_depth]; exact hd
    have tsz := size31 tdp
    have t0sz := size31 hd
    have okv := clOk tcl tdp
    have t_in : t ∈ exl [] t := by
      have := exl_head [] t
      rw [app_nil] at this
      exact this
    have sok := stC_ok (t := t) tcl
    refine ⟨.ref r.p, rfl, r.p, r.dx, _, rfl, sh0.obj, rfl, v, rfl, v, t0, rfl, ht, by omega, Few.closed (closed_fv.mp hcl), fun _ v1 H1 s1 h1 => ?_, fun nc => absurd (closed_fv.mp hcl) nc⟩
    have h1 : IsF K H1 v1 t := by rw [et]; exact h1
    refine ⟨r, v1, [], t, rfl, sh0.same s1, h1, by omega, (okv t t_in).vars, Nat.zero_le _, fun S1 H2 kx2 tk2 sh2 _ ls2 only2 => ?_⟩
    have tS : t ∈ S1 := (only2 _).mpr (.inr (subs_self t))
    have kx02 := (Kx.same (r := r) s1).trans kx2
    have tk02 := (TKp.same s1).trans tk2
    refine ⟨by show 1 ≤ sizeLine; decide, fun fa hfa => ?_⟩
    have s3 := Same.new (o := .lst [.int (ix S1 t : Nat)]) hfa
    have gf3 : (upd H2 fa (.lst [.int (ix S1 t : Nat)])) fa = some (.lst (([t] : List F).map fun g => V.int (ix S1 g : Nat))) := upd_same
    have nfa : ¬ r.Own fa := sh2.notOwn' hfa
    have sh3 := sh2.same s3
    generalize upd H2 fa (.lst [.int (ix S1 t : Nat)]) = H3 at s3 gf3 sh3
    -- known
    intro da hda
    refine ⟨.ref fa, rfl, fa, _, _, .int (ix S1 t : Nat), rfl, rfl, SqL.of (Same.new hda _ _ gf3), rfl, ?_⟩
    refine ⟨upd_same, [(Sum.inl ((ix S1 t : Nat) : Int), .bl true)], rfl, by show 1 ≤ 15; decide, ?_⟩
    have sd : Same H3 (upd (upd H3 da (.dK [])) da (.dK (mergeK [] [(Sum.inl ((ix S1 t : Nat) : Int), .bl true)]))) := fun b o e => by
      rw [upd_ne (ne_of_none e hda), upd_ne (ne_of_none e hda)]
      exact e
    have gd4 : (upd (upd H3 da (.dK [])) da (.dK (mergeK [] [(Sum.inl ((ix S1 t : Nat) : Int), .bl true)]))) da = some (.dK (kvG S1 [t])) := by rw [upd_same]; rfl
    have nda : ¬ r.Own da := sh3.notOwn' hda
    have df : da ≠ fa := (ne_of_none gf3 hda).symm
    have gf4 := sd _ _ gf3
    have sh4 := sh3.same sd
    generalize upd (upd H3 da (.dK [])) da (.dK (mergeK [] [(Sum.inl ((ix S1 t : Nat) : Int), .bl true)])) = H4 at sd gd4 gf4 sh4
    have hda2 : H2 da = none := s3.free hda
    refine ⟨fun m σ G => ∃ (i : Nat) (S : List F) (y5 : Option V), σ = [some (.ref r.p), some v, some (.ref fa), some (.ref da), some (.int (i : Nat)), y5] ∧ Kx r H2 G ∧ TKp K H2 G ∧ Sh P w K SC G r S ∧ (∀ g ∈ stC t i, g ∈ S) ∧ S.length ≤ 1000 + 63 * i ∧ i ≤ (stC t i).length ∧
      G fa = some (.lst ((stC t i).map fun g => V.int (ix S g : Nat))) ∧ G da = some (.dK (kvG S (stC t i))) ∧ m = 32 - i, ⟨_, 0, S1, none, rfl, Kx.same (s3.trans sd), .same (s3.trans sd), sh4, fun g hg => by rw [List.mem_singleton.mp hg]; exact tS, by simp only [List.length_nil] at ls2; omega, Nat.zero_le _, gf4, gd4, rfl⟩, ?_⟩
    rintro m σ G ⟨i, S, y5, rfl, kx, tk, sh, inS, lS, iL, gf, gd, rfl⟩
    have skl := (sok i).2.2
    refine ⟨.int (i : Nat), rfl, .ref fa, rfl, fa, _, rfl, .inl (SqL.of gf), _, _, rfl, rfl, _, rfl, ?_⟩
    rw [List.length_map]
    by_cases lt : i < (stC t i).length
    · have dlt : decide (((i : Nat) : Int) < ((stC t i).length : Nat)) = true := decide_eq_true (by omega)
      refine (if_pos dlt).mpr ?_
      refine ⟨_, fun σ' H' z => z, ?_⟩
      obtain ⟨u, hu'⟩ : ∃ u, (stC t i)[i]? = some u := ⟨(stC t i)[i], by simp [lt]⟩
      have uL := List.mem_of_getElem? hu'
      have uS := inS u uL
      have uok := okv u ((sok i).2.1 u uL)
      have nxt : stC t (i + 1) = addN (stC t i) (fol u) := by simp only [stC, hu']
      refine ⟨.ref r.p, rfl, .ref fa, rfl, .int (i : Nat), rfl, fa, _, _, .int (ix S u : Nat), rfl, rfl, SqL.of gf, atI_nat (j := i) (by rw [List.getElem?_map, hu']; rfl), r, S, u, rfl, sh, uS, uok, by omega, fun ba S' G1 kx1 tk1 sh1 ⟨T1, eT⟩ ls1 sq1 inF => ⟨ba, rfl, ⟨_, sq1⟩, ?_⟩⟩
      have keep : (stC t i).map (fun g => V.int (ix S' g : Nat)) = (stC t i).map fun g => V.int (ix S g : Nat) := List.map_congr_left fun g hg => by rw [eT, ix_app (inS g hg)]
      have gf1 := kx1 _ _ nfa gf
      have gd1 := kx1 _ _ nda gd
      rw [← keep] at gf1
      rw [← kvG_app (T := T1) inS, ← eT] at gd1
      have inS' : ∀ g ∈ stC t i, g ∈ S' := fun g hg => by rw [eT]; exact List.mem_append_left _ (inS g hg)
      have folC : ∀ w ∈ fol u, w ∈ exl [] t := (exl_all tcl u ((sok i).2.1 u uL)).2
      refine for_tup (xs := (fol u).map fun g => V.int (ix S' g : Nat)) (fun j σ G2 => ∃ y5 : Option V, σ = [some (.ref r.p), some v, some (.ref fa), some (.ref da), some (.int (i : Nat)), y5] ∧ (∀ b o, b ≠ fa → b ≠ da → G1 b = some o → G2 b = some o) ∧ TKp K G1 G2 ∧
        G2 fa = some (.lst ((addN (stC t i) ((fol u).take j)).map fun g => V.int (ix S' g : Nat))) ∧ G2 da = some (.dK (kvG S' (addN (stC t i) ((fol u).take j))))) ⟨y5, rfl, fun _ _ _ _ e => e, TKp.refl _ _, gf1, gd1⟩ (fun j σ G2 _ q => by obtain ⟨_, _, _, tk2, _⟩ := q; exact tk2 _ _ sq1) ?_ ?_
      · rintro j y σ G2 hy ⟨y5, rfl, kp, tk2, gf2, gd2⟩
        obtain ⟨w', hw'⟩ : ∃ w, (fol u)[j]? = some w := by
          rw [List.getElem?_map] at hy
          cases q : (fol u)[j]? with
          | none => rw [q] at hy; cases hy
          | some w => exact ⟨w, rfl⟩
        rw [List.getElem?_map, hw'] at hy
        obtain rfl : y = V.int (ix S' w' : Nat) := (Option.some.inj hy).symm
        have wm := List.mem_of_getElem? hw'
        have wS := inF w' wm
        have aok := addN_ok (exl [] t) ((fol u).take j) (stC t i) (sok i).1 (sok i).2.1 (fun g hg => folC g (List.mem_of_mem_take hg))
        have aS : ∀ g ∈ addN (stC t i) ((fol u).take j), g ∈ S' := (addN_ok S' ((fol u).take j) (stC t i) (sok i).1 inS' (fun g hg => inF g (List.mem_of_mem_take hg))).2
        have al : (addN (stC t i) ((fol u).take j)).length ≤ 31 := by
          have := nodup_lenF aok.1 aok.2
          rw [exl_len] at this
          omega
        have snoc : addN (stC t i) ((fol u).take (j + 1)) = if w' ∈ addN (stC t i) ((fol u).take j) then addN (stC t i) ((fol u).take j) else addN (stC t i) ((fol u).take j) ++ [w'] := by
          rw [List.take_add_one, hw']
          exact addN_snoc _ _ _
        have hget := DGet.k (k := Sum.inl ((ix S' w' : Nat) : Int)) gd2
        rw [valG wS aS] at hget
        refine ⟨.int (ix S' w' : Nat), rfl, .ref da, rfl, da, _, rfl, hget, _, rfl, ?_⟩
        by_cases hin : w' ∈ addN (stC t i) ((fol u).take j)
        · rw [if_pos hin]
          refine iteF ?_
          exact ⟨_, rfl, kp, tk2, by rw [snoc, if_pos hin]; exact gf2, by rw [snoc, if_pos hin]; exact gd2⟩
        · rw [if_neg hin]
          refine iteT ?_
          refine ⟨.ref da, rfl, .int (ix S' w' : Nat), rfl, da, _, rfl, DPut.k (k := Sum.inl ((ix S' w' : Nat) : Int)) gd2 (by rw [List.length_map]; exact small1000 (by omega)), ?_⟩
          rw [putG wS aS hin]
          have up2 : ∀ b o, b ≠ da → G2 b = some o → (upd G2 da (.dK (kvG S' (addN (stC t i) ((fol u).take j) ++ [w'])))) b = some o := fun b o nb e => by rw [upd_ne nb]; exact e
          have gd3 : (upd G2 da (.dK (kvG S' (addN (stC t i) ((fol u).take j) ++ [w'])))) da = some (.dK (kvG S' (addN (stC t i) ((fol u).take j) ++ [w']))) := upd_same
          have tk3 := TKp.put (K := K) (o' := .dK (kvG S' (addN (stC t i) ((fol u).take j) ++ [w']))) gd2 (fun _ z => by cases z) (fun _ _ z => by cases z)
          have gf3' := up2 _ _ df.symm gf2
          generalize upd G2 da (.dK (kvG S' (addN (stC t i) ((fol u).take j) ++ [w']))) = G3 at up2 gd3 tk3 gf3'
          refine ⟨.ref fa, rfl, .inl ⟨rfl, _, SqL.of gf3'⟩, .int (ix S' w' : Nat), rfl, fa, _, .int (ix S' w' : Nat), rfl, rfl, gf3', by rw [List.length_map]; exact small1000 (by omega), ?_⟩
          refine ⟨_, rfl, fun b o n1 n2 e => by rw [upd_ne n1]; exact up2 b o n2 (kp b o n1 n2 e), tk2.trans (tk3.trans (TKp.lst gf3')), ?_, ?_⟩
          · rw [upd_same, snoc, if_neg hin, List.map_append]
            rfl
          · rw [upd_ne df, snoc, if_neg hin]
            exact gd3
      · rintro σ G2 ⟨y5, rfl, kp, tk2, gf2, gd2⟩
        rw [List.length_map, List.take_length, ← nxt] at gf2 gd2
        have sN : ∀ g ∈ stC t (i + 1), g ∈ S' := by
          rw [nxt]
          exact (addN_ok S' (fol u) (stC t i) (sok i).1 inS' inF).2
        have grow : (stC t i).length ≤ (stC t (i + 1)).length := by
          rw [nxt]
          exact nodup_lenF (sok i).1 fun g hg => addN_sub _ _ g hg
        refine ⟨_, rfl, _, _, rfl, rfl, ?_⟩
        have nb : ∀ b, (r.Own b ∨ b = r.p) → b ≠ fa ∧ b ≠ da := fun b c => by
          rcases c with c | c
          · exact ⟨fun z => nfa (z ▸ c), fun z => nda (z ▸ c)⟩
          · rw [c]
            exact ⟨ne_of sh1.obj gf1 (by intro z; cases z), ne_of sh1.obj gd1 (by intro z; cases z)⟩
        refine ⟨32 - (i + 1), by omega, i + 1, S', _, rfl, fun b o n e => ?_, tk.trans (tk1.trans tk2), sh1.keep (fun b o c e => kp b o (nb b c).1 (nb b c).2 e) tk2, sN, by omega, by omega, gf2, gd2, rfl⟩
        exact kp b o (ne_of_none e hfa) (ne_of_none e hda2) (kx1 b o n (kx b o n e))
    · have dlt : ¬ decide (((i : Nat) : Int) < ((stC t i).length : Nat)) = true := by
        rw [decide_eq_true_eq]
        omega
      refine (if_neg dlt).mpr ?_
      have ei : (stC t i)[i]? = none := List.getElem?_eq_none (by omega)
      have e200 := stC_end tcl ei (by omega)
      refine ⟨_, rfl, ?_⟩
      rw [← e200] at gf inS
      exact k fa S G (kx02.trans kx) (tk02.trans tk) sh gf inS
end
end Fw

set_option maxRecDepth 100000
set_option maxHeartbeats 4000000
namespace Fw
open PySem PySem.Spec PyProof.Rows L2
theorem dp_allF {K : PySem.W.Frag} {H : Hp} {xs : List V} {L : List F} (h : AllF K H xs L) : DpAll K H xs (L.map dF) := by
  induction h with
  | nil => exact .nil
  | cons a _ ih => exact .cons (dp_F a) ih
theorem dFs_lay : ∀ L : List F, PyData.canLayAll0 (L.map dF) = true
  | [] => rfl
  | a :: L => by simp [PyData.canLayAll0, dF_lay a, dFs_lay L]
theorem dFs_depth : ∀ {L : List F} {M : Nat}, (∀ g ∈ L, g.depth ≤ M) → PyData.depthAll (L.map dF) ≤ M
  | [], M, _ => by simp [PyData.depthAll]
  | a :: L, M, h => by
    have h1 := dF_depth a
    have h2 := h a List.mem_cons_self
    have h3 := dFs_depth (L := L) (M := M) fun g hg => h g (List.mem_cons_of_mem _ hg)
    simp only [List.map_cons, PyData.depthAll]
    omega
theorem dFs_shaped {L : List F} {M : Nat} (h : ∀ g ∈ L, g.depth ≤ M) (hM : M ≤ 60) : SeqAt.shaped (.list (L.map dF)) = true := by
  have := dFs_depth h
  show (PyData.canLay0 (.list (L.map dF)) && decide (PyData.depth (.list (L.map dF)) ≤ 64)) = true
  rw [Bool.and_eq_true]
  exact ⟨by simp only [PyData.canLay0]; exact dFs_lay L, decide_eq_true (by simp only [PyData.depth]; omega)⟩
theorem dFs_same (L : List F) : PyData.eqv (.list (L.map dF)) (.list (L.map dF)) = true := SeqAt.eqv_refl _ (by simp only [PyData.canLay0]; exact dFs_lay L)
theorem hv_partsE (h : Hd) : ∀ x ∈ hv h, (∃ s, x = V.str s) ∨ ∃ n, x = V.int n := by
  cases h <;> simp [hv]
section
variable {P : Program} {w : World} {K : PySem.W.Frag} {mg : Str → Option Value} {base : Heap} {C J B NC SC HC STP : Addr}
def spClo (K : PySem.W.Frag) : Sp := fun vs H Q _ => ∃ (v : V) (t : F), vs = [v] ∧ IsF K H v t ∧ fv t = [] ∧ t.depth ≤ 5 ∧ ∀ (a : Addr) (xs : List V) H', Same H H' → H' a = some (.lst xs) → AllF K H' xs (stC (tdy t) 200) → Q (.ref a) H'
theorem ok_closure {f : Addr} {fd : FuncData} (FF : Fun K "closure" "closure" s_closure f fd) (T : Txt K mg C J B) (TS : TxtS K SC) (h_Shelf : HasC P w K mg base "Shelf" SC 1 a_Shelf_init (spShI P w K SC))
    (h_closure_numbers : Has P w K mg base "closure_numbers" 7 a_closure_numbers (spCln P w K SC)) : FnOk P w K mg base CX0 8 f fd a_closure (spClo K) := by
  refine FF.ok sc_closure (fun vs H Q E h => ?_) (fun cdv A outer s H vs Q E hr h => ?_)
  · obtain ⟨v, t, rfl, _⟩ := h
    rfl
  · obtain ⟨v, t, rfl, ht, hcl, hd, k⟩ := h
    refine ⟨_, (pss_cons (ps_set (i := 1) sc_closure.nd rfl (.inr rfl) (pe_makeH0 h_Shelf (hr.mono (by omega))))
      (pss_one (ps_ret (pe_lc (own := [("number", 2)]) (g := gName 2) rfl sc_closure.nd (pi_list (pe_callH h_closure_numbers (hr.mono (by omega)) (pa_cons (pv 1) (pa_cons (pv 0) pa_nil)))) (blkOk_by (own := [("number", 2)]) (N := n_closure) (sc := defScope s_closure) (by decide +kernel)) (fun _ _ _ _ _ => (pg_name (i := 2) sc_closure.nd rfl (.inl rfl))) (fun _ _ _ _ _ => pts_nil) (fun _ _ _ _ _ => (pe_ix (@id (IxR _ (rIxL K)) ix_list) (show PE _ _ (tFld K _ "statements") from pe_fld (pv 1) rfl) (pv 2) (fun _ _ => rfl))))))), ?_⟩
    intro sp sdx nsp nsdx nesd
    refine ⟨sp, sdx, rfl, upd_same, fun r Hs er bt ow sh0 => ⟨rfl, ?_⟩⟩
    subst er
    have ss := made_same nsp nsdx bt
    have nown : ∀ b o, H b = some o → ¬ r.Own b := fun b o e z => by
      have := ow b z
      rw [upd_ne (ne_of_none e nsp), upd_ne (ne_of_none e nsdx), e] at this
      cases this
    clear bt nsp nsdx nesd ow
    have tsz : (tdy t).size ≤ 31 := by rw [tdy_size]; exact size31 hd
    have lL := (stC_ok (tdy_fv hcl) 200).2.2
    refine ⟨.ref r.p, rfl, v, rfl, r, v, t, rfl, sh0, ht.same ss, hcl, hd, fun la S G kx tk sh gl inS => ?_⟩
    have sG : Same H G := fun b o eb => kx b o (nown b o eb) (ss _ _ eb)
    refine ⟨la, rfl, ⟨_, SqL.of gl⟩, fun D hD => ?_⟩
    refine lc_list (xs := (stC (tdy t) 200).map fun g => V.int (ix S g : Nat)) (fun i G2 => Same G G2 ∧ ∃ zs, G2 D = some (.lst zs) ∧ AllF K G2 zs ((stC (tdy t) 200).take i)) ⟨Same.new hD, [], upd_same, .nil⟩ (fun i G2 _ q => SqL.of (q.1 _ _ gl)) ?_ ?_
    · rintro i y G2 hy ⟨s2, zs, gD, az⟩
      obtain ⟨u, hu'⟩ : ∃ u, (stC (tdy t) 200)[i]? = some u := by
        rw [List.getElem?_map] at hy
        cases q : (stC (tdy t) 200)[i]? with
        | none => rw [q] at hy; cases hy
        | some u => exact ⟨u, rfl⟩
      rw [List.getElem?_map, hu'] at hy
      obtain rfl : y = V.int (ix S u : Nat) := (Option.some.inj hy).symm
      have sh2 := sh.same s2
      have il := (List.getElem?_eq_some_iff.mp hu').1
      obtain ⟨E, e, l1, l2, l3, l4, he, ent⟩ := sh2.at (inS u (List.mem_of_getElem? hu'))
      have zl := az.len
      rw [List.length_take] at zl
      have tk2 := TKp.lst (K := K) (o' := .lst (zs ++ [e.v])) gD
      refine ⟨rfl, .ref r.p, rfl, r.p, SC, r.dx, _, .ref r.sa, rfl, sh2.obj, TS.cl, TS.nS, rfl, .int (ix S u : Nat), rfl, r.sa, _, _, e.v, rfl, rfl, SqL.of l4, atI_nat (j := ix S u) (by rw [List.getElem?_map, he]; rfl), zs, gD, small1000 (by omega), fun b o e => by rw [upd_ne (ne_of_none e hD)]; exact s2 b o e, _, upd_same, ?_⟩
      rw [List.take_add_one, hu']
      exact AllF.snocS (az.tk tk2) (ent.st.map tk2)
    · rintro G2 ⟨s2, zs, gD, az⟩
      rw [List.length_map, List.take_length] at az
      exact k D zs G2 (sG.trans s2) gD az
/-! ### the law's own -/
def spPutL (K : PySem.W.Frag) : Nat → Sp
  | 0 => fun _ _ _ _ => False
  | n + 1 => fun vs H Q _ => ∃ (v vu : V) (t u : F) (x : Int), vs = [v, .int x, vu] ∧ IsF K H v t ∧ IsF K H vu u ∧ t.depth ≤ n + 1 ∧ t.depth ≤ 20 ∧ ∀ v' H', Same H H' → IsF K H' v' (putF x u t) → Q v' H'
theorem ok_law_put {f : Addr} {fd : FuncData} (n : Nat) (FF : Fun K "_law_put" "_law_put" s_law_put f fd) (T : Txt K mg C J B) (h_law_put : Has P w K mg base "_law_put" (n + 1) a_law_put (spPutL K n)) : FnOk P w K mg base CX0 (n + 2) f fd a_law_put (spPutL K (n + 1)) := by
  refine FF.ok sc_law_put (fun vs H Q E h => ?_) (fun cdv A outer s H vs Q E hr h => ?_)
  · obtain ⟨v, vu, t, u, x, rfl, _⟩ := h
    rfl
  · obtain ⟨v, vu, t, u, x, rfl, ht, hvu, hd, hd20, k⟩ := h
    refine ⟨_, (pss_cons (ps_if (pt_cmpR (op_eqD hr.units) (pv 0) (pe_tup (pa_cons pe_str (pa_cons (pv 1) pa_nil))) (nomark _)) (pss_one (ps_ret (pv 2))) pss_nil)
      (pss_cons (ps_if (PW.pt (pw_and (pt_cmpR op_in_seq (pe_ix ix_tup (pv 0) pe_int (fun _ _ => rfl)) (pe_tup (pa_cons pe_str (pa_cons pe_str pa_nil))) (by rfl)) (pw_and1 (pt_cmpR op_eq (pe_ix ix_tup (pv 0) pe_int (fun _ _ => rfl)) (pv 1) (nomark _))))) (pss_one (ps_ret (pv 0))) pss_nil)
      (pss_one (ps_ret (pe_callTy call_tuple_of rfl T.z_tuple (by decide +kernel) (pa_cons (pe_lc (own := [("part", 3)]) (g := gName 3) rfl sc_law_put.nd (pi_tup (pv 0)) (blkOk_by (own := [("part", 3)]) (N := n_law_put) (sc := defScope s_law_put) (by decide +kernel)) (fun _ _ _ _ _ => (pg_name (i := 3) sc_law_put.nd rfl (.inl rfl))) (fun _ _ _ _ _ => pts_nil) (fun _ _ _ _ _ => (pe_ifExp (pt_val (pe_callB (@id (CallR _ _ (rIsi K)) call_isi) rfl T.z_isinstance (by decide +kernel) (pa_cons (pv 3) (pa_cons (pe_bltn (v := .ty "tuple") (u := .type "tuple") rfl T.z_tuple (by decide +kernel) rfl) pa_nil)))) (pe_callH h_law_put (hr.mono (by omega)) (pa_cons (pv 3) (pa_cons (pv 1) (pa_cons (pv 2) pa_nil)))) (pv 3)))) pa_nil)))))), ?_⟩
    refine ⟨v, rfl, .int x, rfl, by show 2 ≤ sizeLine; decide, fun q hq => ?_⟩
    have s1 := Same.new (o := .tup [.str "var", .int x]) hq
    have iq : IsF K (upd H q (.tup [.str "var", .int x])) (.ref q) (.leaf .var x) := .leaf (SqT.of upd_same)
    generalize upd H q (.tup [.str "var", .int x]) = H1 at s1 iq
    have ht1 := ht.same s1
    refine ⟨dF t, dF (.leaf .var x), dp_F ht1, dp_F iq, dF_shaped (by omega), dF_shaped (by show 1 ≤ 64; decide), _, rfl, ?_⟩
    rw [eqv_dF]
    by_cases c : t = .leaf .var x
    · rw [decide_eq_true c]
      refine iteT ?_
      refine ⟨vu, rfl, k vu H1 s1 ?_⟩
      rw [c]
      simp only [putF]
      rw [if_pos trivial]
      exact hvu.same s1
    · rw [decide_eq_false c]
      refine iteF ?_
      obtain ⟨a, ks, rfl, sq, ak⟩ := id ht1.open
      have at0 : atI (hv t.hd ++ ks) 0 = some (.str (hw t.hd)) := atI_nat (j := 0) (by rw [List.getElem?_append_left (by rcases hv_len t.hd with e | e <;> omega)]; exact hv_head _)
      refine ⟨.ref a, rfl, a, _, _, _, rfl, rfl, sq, at0, by show 2 ≤ sizeLine; decide, fun p hp => ⟨p, _, rfl, .inr (SqT.of upd_same), rfl, rfl, _, rfl, ?_⟩⟩
      have s2 := Same.new (o := .tup [.str "least", .str "most"]) hp
      generalize upd H1 p (.tup [.str "least", .str "most"]) = H2 at s2
      rw [if_neg Bool.false_ne_true, in_binders, isB_hdS]
      have s12 := s1.trans s2
      have ht2 := ht1.same s2
      have sq2 := SqT.same s2 sq
      have ak2 := ak.lk (LKp.same s2)
      have hvu2 := hvu.same s12
      clear sq ak s1 s2 hp hq iq
      cases hb : isB t with
      | true =>
        obtain ⟨kd, m, g, rfl⟩ : ∃ kd x f, t = .one kd x f := by
          cases t with
          | one kd x f => exact ⟨kd, x, f, rfl⟩
          | _ => cases hb
        have hk : kd.bind = true := hb
        refine iteT ?_
        have at1 : atI (hv (F.one kd m g).hd ++ ks) 1 = some (.int m) := atI_nat (j := 1) (by rfl)
        refine ⟨.ref a, rfl, a, _, 1, .int m, rfl, rfl, sq2, at1, .int x, rfl, rfl, _, rfl, ?_⟩
        by_cases e : m = x
        · refine (if_pos (decide_eq_true (congrArg V.int e))).mpr ?_
          refine ⟨.ref a, rfl, k (.ref a) H2 s12 ?_⟩
          simp only [putF]
          rw [if_pos ⟨hk, e⟩]
          exact ht2
        · refine (if_neg (by rw [decide_eq_false fun z => e (V.int.inj z)]; exact Bool.false_ne_true)).mpr ?_
          have pm : putF x u (.one kd m g) = mapK (putF x u) (.one kd m g) := by
            simp only [putF, mapK]
            rw [if_neg fun z => e z.2]
          generalize F.one kd m g = t at *
          have hl := hv_len t.hd
          have kl := ak2.len
          have k2 := F.kids_le t
          refine ⟨.ref a, rfl, a, rfl, ⟨_, sq2⟩, fun D hD => ?_⟩
          refine lc_tup (xs := hv t.hd ++ ks) (fun i G => Same H2 G ∧ ∃ zs, G D = some (.lst ((hv t.hd).take i ++ zs)) ∧ AllF K G zs ((t.kids.take (i - (hv t.hd).length)).map (putF x u))) ⟨Same.new hD, [], by rw [upd_same]; simp, by simpa using .nil⟩ (fun i G _ q => SqT.same q.1 sq2) ?_ ?_
          · rintro i y G hy ⟨sG, zs, gD, az⟩
            have il := (List.getElem?_eq_some_iff.mp hy).1
            rw [List.length_append] at il
            have zl := az.len
            rw [List.length_map, List.length_take] at zl
            have sup : ∀ G', Same G G' → ∀ o, Same H2 (upd G' D o) := fun G' s' o b w e => by rw [upd_ne (ne_of_none e hD)]; exact s' _ _ (sG b w e)
            by_cases lt : i < (hv t.hd).length
            · rw [List.getElem?_append_left lt] at hy
              have e0 : i - (hv t.hd).length = 0 := by omega
              have e1 : i + 1 - (hv t.hd).length = 0 := by omega
              rw [e0] at az
              cases az
              have fin : ∃ acc, G D = some (.lst acc) ∧ acc.length < sizeLine ∧ (Same H2 (upd G D (.lst (acc ++ [y]))) ∧ ∃ zs, (upd G D (.lst (acc ++ [y]))) D = some (.lst ((hv t.hd).take (i + 1) ++ zs)) ∧ AllF K (upd G D (.lst (acc ++ [y]))) zs ((t.kids.take (i + 1 - (hv t.hd).length)).map (putF x u))) := by
                refine ⟨_, gD, small1000 (by simp only [List.length_append, List.length_take, List.length_nil]; omega), sup G (Same.refl _) _, [], ?_, by rw [e1]; exact .nil⟩
                rw [upd_same, List.take_add_one, hy]
                simp
              rcases hv_partsE t.hd y (List.mem_of_getElem? hy) with ⟨z, rfl⟩ | ⟨z, rfl⟩
              · exact ⟨rfl, .str z, rfl, .str z, .ty "tuple", .type "str", .type "tuple", false, rfl, .ty "tuple", .base (.str z), kit_ty (by decide +kernel), false, rfl, iteF ⟨_, rfl, fin⟩⟩
              · exact ⟨rfl, .int z, rfl, .int z, .ty "tuple", .type "int", .type "tuple", false, rfl, .ty "tuple", .base (.int z), kit_ty (by decide +kernel), false, rfl, iteF ⟨_, rfl, fin⟩⟩
            · rw [List.getElem?_append_right (by omega)] at hy
              obtain ⟨g0, hg0⟩ : ∃ u, t.kids[i - (hv t.hd).length]? = some u := ⟨t.kids[i - (hv t.hd).length]'(by omega), by simp⟩
              have hxu := (ak2.get hy hg0).same sG
              have ksm := kid_small (List.mem_of_getElem? hg0)
              obtain ⟨m', rfl⟩ : ∃ m', n = m' + 1 := by
                cases n with
                | zero => exact absurd hd (by have := depth_posE g0; omega)
                | succ m' => exact ⟨m', rfl⟩
              refine ⟨rfl, y, rfl, y, .ty "tuple", .type "tuple", .type "tuple", true, rfl, .ty "tuple", hxu.ty, kit_ty (by decide +kernel), true, rfl, iteT ?_⟩
              refine ⟨y, rfl, .int x, rfl, vu, rfl, y, vu, g0, u, x, rfl, hxu, hvu2.same sG, by omega, by omega, fun v' G2 s2 hv' => ?_⟩
              have gD2 := s2 _ _ gD
              have tk := (TKp.same s2).trans (TKp.lst (K := K) (o' := .lst ((hv t.hd).take i ++ zs ++ [v'])) gD2)
              refine ⟨_, gD2, small1000 (by simp only [List.length_append, List.length_take]; omega), sup G2 s2 _, zs ++ [v'], ?_, ?_⟩
              · rw [upd_same, List.take_of_length_le (by omega), List.take_of_length_le (by omega), List.append_assoc]
              · rw [show i + 1 - (hv t.hd).length = (i - (hv t.hd).length) + 1 by omega, List.take_add_one, hg0, List.map_append]
                exact AllF.snocS (az.tk tk) (hv'.map (TKp.lst (K := K) (o' := .lst ((hv t.hd).take i ++ zs ++ [v'])) gD2))
          · rintro G ⟨sG, zs, gD, az⟩
            rw [List.length_append, List.take_of_length_le (by omega)] at gD
            rw [List.length_append, List.take_of_length_le (by omega)] at az
            refine ⟨D, _, rfl, .inl ⟨SqL.of gD, fun q hq => ?_⟩⟩
            have sn := Same.new (o := .tup (hv t.hd ++ zs)) hq
            refine k (.ref q) _ (s12.trans (sG.trans sn)) ?_
            rw [pm]
            exact IsF.close (by rw [mapK_hd]; exact SqT.of upd_same) (by rw [mapK_kids]; exact az.tk (.same sn))
      | false =>
        refine iteF ?_
        refine iteF ?_
        have pm : putF x u t = mapK (putF x u) t := by
          cases t with
          | nul b => rfl
          | leaf kd m =>
            cases kd with
            | has => rfl
            | lacks => rfl
            | var =>
              have : ¬ m = x := fun e => c (by rw [e])
              simp only [putF, mapK]
              rw [if_neg this]
          | two b f g => rfl
          | one kd m g =>
            have : ¬ kd.bind = true := fun z => by rw [show isB (.one kd m g) = kd.bind from rfl, z] at hb; cases hb
            simp only [putF, mapK]
            rw [if_neg fun z => this z.1]
        have hl := hv_len t.hd
        have kl := ak2.len
        have k2 := F.kids_le t
        refine ⟨.ref a, rfl, a, rfl, ⟨_, sq2⟩, fun D hD => ?_⟩
        refine lc_tup (xs := hv t.hd ++ ks) (fun i G => Same H2 G ∧ ∃ zs, G D = some (.lst ((hv t.hd).take i ++ zs)) ∧ AllF K G zs ((t.kids.take (i - (hv t.hd).length)).map (putF x u))) ⟨Same.new hD, [], by rw [upd_same]; simp, by simpa using .nil⟩ (fun i G _ q => SqT.same q.1 sq2) ?_ ?_
        · rintro i y G hy ⟨sG, zs, gD, az⟩
          have il := (List.getElem?_eq_some_iff.mp hy).1
          rw [List.length_append] at il
          have zl := az.len
          rw [List.length_map, List.length_take] at zl
          have sup : ∀ G', Same G G' → ∀ o, Same H2 (upd G' D o) := fun G' s' o b w e => by rw [upd_ne (ne_of_none e hD)]; exact s' _ _ (sG b w e)
          by_cases lt : i < (hv t.hd).length
          · rw [List.getElem?_append_left lt] at hy
            have e0 : i - (hv t.hd).length = 0 := by omega
            have e1 : i + 1 - (hv t.hd).length = 0 := by omega
            rw [e0] at az
            cases az
            have fin : ∃ acc, G D = some (.lst acc) ∧ acc.length < sizeLine ∧ (Same H2 (upd G D (.lst (acc ++ [y]))) ∧ ∃ zs, (upd G D (.lst (acc ++ [y]))) D = some (.lst ((hv t.hd).take (i + 1) ++ zs)) ∧ AllF K (upd G D (.lst (acc ++ [y]))) zs ((t.kids.take (i + 1 - (hv t.hd).length)).map (putF x u))) := by
              refine ⟨_, gD, small1000 (by simp only [List.length_append, List.length_take, List.length_nil]; omega), sup G (Same.refl _) _, [], ?_, by rw [e1]; exact .nil⟩
              rw [upd_same, List.take_add_one, hy]
              simp
            rcases hv_partsE t.hd y (List.mem_of_getElem? hy) with ⟨z, rfl⟩ | ⟨z, rfl⟩
            · exact ⟨rfl, .str z, rfl, .str z, .ty "tuple", .type "str", .type "tuple", false, rfl, .ty "tuple", .base (.str z), kit_ty (by decide +kernel), false, rfl, iteF ⟨_, rfl, fin⟩⟩
            · exact ⟨rfl, .int z, rfl, .int z, .ty "tuple", .type "int", .type "tuple", false, rfl, .ty "tuple", .base (.int z), kit_ty (by decide +kernel), false, rfl, iteF ⟨_, rfl, fin⟩⟩
          · rw [List.getElem?_append_right (by omega)] at hy
            obtain ⟨g0, hg0⟩ : ∃ u, t.kids[i - (hv t.hd).length]? = some u := ⟨t.kids[i - (hv t.hd).length]'(by omega), by simp⟩
            have hxu := (ak2.get hy hg0).same sG
            have ksm := kid_small (List.mem_of_getElem? hg0)
            obtain ⟨m', rfl⟩ : ∃ m', n = m' + 1 := by
              cases n with
              | zero => exact absurd hd (by have := depth_posE g0; omega)
              | succ m' => exact ⟨m', rfl⟩
            refine ⟨rfl, y, rfl, y, .ty "tuple", .type "tuple", .type "tuple", true, rfl, .ty "tuple", hxu.ty, kit_ty (by decide +kernel), true, rfl, iteT ?_⟩
            refine ⟨y, rfl, .int x, rfl, vu, rfl, y, vu, g0, u, x, rfl, hxu, hvu2.same sG, by omega, by omega, fun v' G2 s2 hv' => ?_⟩
            have gD2 := s2 _ _ gD
            have tk := (TKp.same s2).trans (TKp.lst (K := K) (o' := .lst ((hv t.hd).take i ++ zs ++ [v'])) gD2)
            refine ⟨_, gD2, small1000 (by simp only [List.length_append, List.length_take]; omega), sup G2 s2 _, zs ++ [v'], ?_, ?_⟩
            · rw [upd_same, List.take_of_length_le (by omega), List.take_of_length_le (by omega), List.append_assoc]
            · rw [show i + 1 - (hv t.hd).length = (i - (hv t.hd).length) + 1 by omega, List.take_add_one, hg0, List.map_append]
              exact AllF.snocS (az.tk tk) (hv'.map (TKp.lst (K := K) (o' := .lst ((hv t.hd).take i ++ zs ++ [v'])) gD2))
        · rintro G ⟨sG, zs, gD, az⟩
          rw [List.length_append, List.take_of_length_le (by omega)] at gD
          rw [List.length_append, List.take_of_length_le (by omega)] at az
          refine ⟨D, _, rfl, .inl ⟨SqL.of gD, fun q hq => ?_⟩⟩
          have sn := Same.new (o := .tup (hv t.hd ++ zs)) hq
          refine k (.ref q) _ (s12.trans (sG.trans sn)) ?_
          rw [pm]
          exact IsF.close (by rw [mapK_hd]; exact SqT.of upd_same) (by rw [mapK_kids]; exact az.tk (.same sn))
theorem all_put {f : Addr} {fd : FuncData} (FF : Fun K "_law_put" "_law_put" s_law_put f fd) (b : Binds K fd a_law_put []) (m : mg "_law_put" = some (.ref f)) (T : Txt K mg C J B) : ∀ n, Has P w K mg base "_law_put" (n + 1) a_law_put (spPutL K n)
  | 0 => ⟨f, fd, m, FF.kp, b, noneOk⟩
  | n + 1 => ⟨f, fd, m, FF.kp, b, ok_law_put n FF T (all_put FF b m T n)⟩
end
end Fw

set_option maxRecDepth 100000
set_option maxHeartbeats 4000000
namespace Fw
open PySem PySem.Spec PyProof.Rows L2
theorem dF_inE {f : F} {l : List F} : ((l.map dF).any fun z => PyData.eqv z (dF f)) = decide (f ∈ l) := by
  induction l with
  | nil => rfl
  | cons a l ih =>
    rw [List.map_cons, List.any_cons, ih, eqv_dF]
    by_cases e : a = f
    · subst e; simp
    · by_cases q : f ∈ l
      · simp [e, q]
      · simp [e, q, Ne.symm e]
theorem AllF.sm {K : PySem.W.Frag} {H H' : Hp} (s : Same H H') {vs : List V} {ts : List F} (h : AllF K H vs ts) : AllF K H' vs ts := h.tk (.same s)
section
variable {P : Program} {w : World} {K : PySem.W.Frag} {mg : Str → Option Value} {base : Heap} {C J B NC SC HC STP : Addr}
def spInnerN (K : PySem.W.Frag) : Sp := fun vs H Q _ => ∃ (v : V) (t : F), vs = [v] ∧ IsF K H v t ∧ ∀ l ks H', Same H H' → H l = none → H' l = some (.lst ks) → AllF K H' ks t.kids → Q (.ref l) H'
theorem ok_law_innerN {f : Addr} {fd : FuncData} (FF : Fun K "_law_inner" "_law_inner" s_law_inner f fd) (T : Txt K mg C J B) : FnOk P w K mg base CX0 1 f fd a_law_inner (spInnerN K) := by
  refine FF.ok sc_law_inner (fun vs H Q E h => ?_) (fun cdv A outer s H vs Q E hr h => ?_)
  · obtain ⟨v, t, rfl, _⟩ := h
    rfl
  · obtain ⟨v, t, rfl, ht, k⟩ := h
    obtain ⟨a, ks, rfl, sq, ak⟩ := ht.open
    refine ⟨_, (pss_one (ps_ret (pe_lc (own := [("part", 1)]) (g := gName 1) rfl sc_law_inner.nd (pi_tup (pe_slice sl_tupA (pv 0) (po_some pe_int) po_none)) (blkOk_by (own := [("part", 1)]) (N := n_law_inner) (sc := defScope s_law_inner) (by decide +kernel)) (fun _ _ _ _ _ => (pg_name (i := 1) sc_law_inner.nd rfl (.inl rfl))) (fun _ _ _ _ _ => (pts_one (pt_val (pe_callB (@id (CallR _ _ (rIsi K)) call_isi) rfl T.z_isinstance (by decide +kernel) (pa_cons (pv 1) (pa_cons (pe_bltn (v := .ty "tuple") (u := .type "tuple") rfl T.z_tuple (by decide +kernel) rfl) pa_nil)))))) (fun _ _ _ _ _ => (pv 1))))), ?_⟩
    have hl := hv_len t.hd
    refine ⟨.ref a, rfl, 1, rfl, a, _, rfl, sq, fun whole => ?_, fun _ z hz => ?_⟩
    · exfalso
      rw [show HT.sIx (hv t.hd ++ ks).length 0 (some 1) = min 1 (hv t.hd ++ ks).length from HT.sIx_nat _ _ 1, List.length_append] at whole
      omega
    rw [cut_one]
    have s1 := Same.new (o := .tup ((hv t.hd ++ ks).drop 1)) hz
    have zT : SqT K (upd H z (.tup ((hv t.hd ++ ks).drop 1))) z ((hv t.hd ++ ks).drop 1) := SqT.of upd_same
    generalize upd H z (.tup ((hv t.hd ++ ks).drop 1)) = H1 at s1 zT
    have ak1 := ak.lk (LKp.same s1)
    -- the numbers ahead of the statements
    obtain ⟨ns, hns, nsi⟩ : ∃ ns : List V, (hv t.hd ++ ks).drop 1 = ns ++ ks ∧ ∀ x ∈ ns, ∃ n, x = V.int n := by
      cases t with
      | nul b => exact ⟨[], rfl, by simp⟩
      | leaf k n => exact ⟨[.int n], rfl, by simp⟩
      | two b f g => exact ⟨[], rfl, by simp⟩
      | one k n f => exact ⟨[.int n], rfl, by simp⟩
    rw [hns] at zT
    refine ⟨z, rfl, ⟨_, zT⟩, fun D hD => ?_⟩
    refine lc_tup (xs := ns ++ ks) (fun i G => Same H1 G ∧ G D = some (.lst ((ns ++ ks).take i |>.drop ns.length))) ⟨Same.new hD, by rw [upd_same]; simp⟩ (fun i G _ q => SqT.same q.1 zT) ?_ ?_
    · rintro i x G hx ⟨sG, gD⟩
      have nd : ∀ b o, H1 b = some o → b ≠ D := fun b o e => ne_of_none e hD
      have e1 : (ns ++ ks).take (i + 1) = (ns ++ ks).take i ++ [x] := by
        rw [List.take_add_one, hx]
        rfl
      have il := (List.getElem?_eq_some_iff.mp hx).1
      rw [List.length_append] at il
      by_cases lt : i < ns.length
      · obtain ⟨n, rfl⟩ := nsi x (by rw [List.getElem?_append_left lt] at hx; exact List.mem_of_getElem? hx)
        refine ⟨rfl, .int n, rfl, .int n, .ty "tuple", .type "int", .type "tuple", false, rfl, ?_, .base (.int n), kit_ty (by decide +kernel), false, rfl, ?_⟩
        · exact .ty "tuple"
        · refine ⟨sG, ?_⟩
          rw [gD, e1, List.drop_append, List.drop_eq_nil_of_le (by rw [List.length_take]; omega), List.length_take, List.nil_append, List.drop_eq_nil_of_le (by simp; omega)]
      · obtain ⟨f, hf⟩ : ∃ f, t.kids[i - ns.length]? = some f := ⟨t.kids[i - ns.length]'(by rw [← ak.len]; omega), by simp⟩
        have ty := (ak1.get (by rw [List.getElem?_append_right (by omega)] at hx; exact hx) hf).lk (LKp.same sG) |>.ty
        refine ⟨rfl, x, rfl, x, .ty "tuple", .type "tuple", .type "tuple", true, rfl, .ty "tuple", ty, kit_ty (by decide +kernel), true, rfl, ?_⟩
        refine ⟨x, rfl, _, gD, ?_, ?_⟩
        · have := F.kids_le t
          have := ak.len
          rw [List.length_drop, List.length_take, List.length_append]
          exact small1000 (by omega)
        · refine ⟨fun b o e => by rw [upd_ne (nd b o e)]; exact sG b o e, ?_⟩
          rw [upd_same, e1, List.drop_append, List.length_take, List.length_append]
          congr 2
          rw [show ns.length - min i (ns.length + ks.length) = 0 by omega]
          rfl
    · rintro G ⟨sG, gD⟩
      refine k D ks G (s1.trans sG) (s1.free hD) ?_ (ak1.lk (LKp.same sG))
      rw [gD, List.take_of_length_le (Nat.le_refl _), List.drop_left]
def spFolL (K : PySem.W.Frag) : Sp := fun vs H Q _ => ∃ (v : V) (t : F), vs = [v] ∧ IsF K H v t ∧ t.depth ≤ 20 ∧ ∀ (l : Addr) (xs : List V) H', Same H H' → H l = none → H' l = some (.lst xs) → AllF K H' xs (fol t) → Q (.ref l) H'
theorem ok_law_following {f : Addr} {fd : FuncData} (FF : Fun K "_law_following" "_law_following" s_law_following f fd) (T : Txt K mg C J B) (h_law_put : Has P w K mg base "_law_put" 21 a_law_put (spPutL K 20)) (h_law_inner : Has P w K mg base "_law_inner" 1 a_law_inner (spInnerN K)) : FnOk P w K mg base CX0 22 f fd a_law_following (spFolL K) := by
  refine FF.ok sc_law_following (fun vs H Q E h => ?_) (fun cdv A outer s H vs Q E hr h => ?_)
  · obtain ⟨v, t, rfl, _⟩ := h
    rfl
  · obtain ⟨v, t, rfl, ht, hd, k⟩ := h
    refine ⟨_, (pss_cons (ps_if (pt_cmpR op_in_seq (pe_ix ix_tup (pv 0) pe_int (fun _ _ => rfl)) (pe_tup (pa_cons pe_str (pa_cons pe_str pa_nil))) (by rfl)) (pss_one (ps_ret (pe_lst (pa_cons (pe_callH h_law_put (hr.mono (by omega)) (pa_cons (pe_ix ix_tup (pv 0) pe_int (fun _ _ => rfl)) (pa_cons (pe_ix ix_tup (pv 0) pe_int (fun _ _ => rfl)) (pa_cons (pv 0) pa_nil)))) pa_nil)))) pss_nil)
      (pss_one (ps_ret (pe_callH h_law_inner (hr.mono (by omega)) (pa_cons (pv 0) pa_nil))))), ?_⟩
    obtain ⟨a, ks, rfl, sq, ak⟩ := id ht.open
    have at0 : atI (hv t.hd ++ ks) 0 = some (.str (hw t.hd)) := atI_nat (j := 0) (by rw [List.getElem?_append_left (by rcases hv_len t.hd with e | e <;> omega)]; exact hv_head _)
    refine ⟨.ref a, rfl, a, _, _, _, rfl, rfl, sq, at0, by show 2 ≤ sizeLine; decide, fun p hp => ⟨p, _, rfl, .inr (SqT.of upd_same), rfl, rfl, _, rfl, ?_⟩⟩
    have s1 := Same.new (o := .tup [.str "least", .str "most"]) hp
    generalize upd H p (.tup [.str "least", .str "most"]) = H1 at s1
    rw [if_neg Bool.false_ne_true, in_binders, isB_hdS]
    cases hb : isB t with
    | true =>
      obtain ⟨kd, m, g, rfl⟩ : ∃ kd x f, t = .one kd x f := by
        cases t with
        | one kd x f => exact ⟨kd, x, f, rfl⟩
        | _ => cases hb
      have hk : kd.bind = true := hb
      refine iteT ?_
      cases ak with
      | cons hg akr =>
      cases akr
      rename_i vg
      have at1 : atI (hv (F.one kd m g).hd ++ [vg]) 1 = some (.int m) := rfl
      have at2 : atI (hv (F.one kd m g).hd ++ [vg]) 2 = some vg := rfl
      have sq1 := SqT.same s1 sq
      simp only [F.depth] at hd
      refine ⟨.ref a, rfl, a, _, 2, vg, rfl, rfl, sq1, at2, .ref a, rfl, a, _, 1, .int m, rfl, rfl, sq1, at1, .ref a, rfl, vg, .ref a, g, .one kd m g, m, rfl, hg.same s1, ht.same s1, by show g.depth ≤ 20; omega, by omega, fun v' H2 s2 hv' => ?_⟩
      refine ⟨by show 1 ≤ sizeLine; decide, fun l hl => ?_⟩
      have s3 := Same.new (o := .lst [v']) hl
      refine k l [v'] _ (s1.trans (s2.trans s3)) ((s1.trans s2).free hl) upd_same ?_
      simp only [fol]
      rw [if_pos hk]
      exact .cons (hv'.same s3) .nil
    | false =>
      refine iteF ?_
      have ef : fol t = t.kids := by
        cases t with
        | nul b => rfl
        | leaf kd m => rfl
        | two b f g => rfl
        | one kd m f =>
          have : ¬ kd.bind = true := fun z => by rw [show isB (.one kd m f) = kd.bind from rfl, z] at hb; cases hb
          simp only [fol, F.kids]
          rw [if_neg this]
      refine ⟨.ref a, rfl, .ref a, t, rfl, ht.same s1, fun l xs H2 s2 hlf hl hal => ?_⟩
      exact k l xs H2 (s1.trans s2) (s1.free hlf) hl (by rw [ef]; exact hal)
def spLClo (K : PySem.W.Frag) : Sp := fun vs H Q _ => ∃ (v : V) (t : F), vs = [v] ∧ IsF K H v t ∧ fv t = [] ∧ t.depth ≤ 5 ∧ ∀ (a : Addr) (xs : List V) H', Same H H' → H' a = some (.lst xs) → AllF K H' xs (stC (tdy t) 200) → Q (.ref a) H'
theorem ok_law_closure {f : Addr} {fd : FuncData} (FF : Fun K "_law_closure" "_law_closure" s_law_closure f fd) (T : Txt K mg C J B) (h_law_tidy : Has P w K mg base "_law_tidy" 22 a_law_tidy (spLTidy K)) (h_law_following : Has P w K mg base "_law_following" 22 a_law_following (spFolL K)) : FnOk P w K mg base CX0 23 f fd a_law_closure (spLClo K) := by
  refine FF.ok sc_law_closure (fun vs H Q E h => ?_) (fun cdv A outer s H vs Q E hr h => ?_)
  · obtain ⟨v, t, rfl, _⟩ := h
    rfl
  · obtain ⟨v, t0, rfl, ht, hcl, hd, k⟩ := h
    refine ⟨_, (pss_cons (ps_set (i := 1) sc_law_closure.nd rfl (.inl rfl) (pe_lst (pa_cons (pe_callH h_law_tidy (hr.mono (by omega)) (pa_cons (pv 0) pa_nil)) pa_nil)))
      (pss_cons (ps_for PassesOwn.never rfl (pi_range1 rfl T.z_range (pa_cons pe_int pa_nil)) (pg_name (i := 2) sc_law_closure.nd rfl (.inl rfl)) (pss_one (ps_if (pt_cmpR op_lt (pv 2) (pe_callB call_len_seq rfl T.z_len (by decide +kernel) (pa_cons (pv 1) pa_nil)) (nomark _)) (pss_one (ps_for PassesOwn.never rfl (pi_list (pe_callH h_law_following (hr.mono (by omega)) (pa_cons (pe_ix ix_list (pv 1) (pv 2) (fun _ _ => rfl)) pa_nil))) (pg_name (i := 3) sc_law_closure.nd rfl (.inl rfl)) (pss_one (ps_if (pt_cmpR (op_notInL hr.units) (pv 3) (pv 1) (by rfl)) (pss_one (ps_expr (pe_bm PySem.F.plainAttrs_list PySem.F.slot_list_append PySem.F.type_list_append mt_append (pv 1) (pa_cons (pv 3) pa_nil)))) pss_nil)))) pss_nil)))
      (pss_one (ps_ret (pv 1))))), ?_⟩
    obtain ⟨t, et⟩ : ∃ t, t = tdy t0 := ⟨_, rfl⟩
    rw [← et] at k
    have tcl : fv t = [] := by rw [et]; exact tdy_fv hcl
    have tdp : t.depth ≤ 5 := by rw [et, tdy_depth]; exact hd
    have tsz := size31 tdp
    have okv := clOk tcl tdp
    have sok := stC_ok (t := t) tcl
    refine ⟨v, rfl, v, t0, rfl, ht, by omega, closed_fv.mp hcl, fun v1 H1 s1 h1 => ?_⟩
    have h1 : IsF K H1 v1 t := by rw [et]; exact h1
    refine ⟨by show 1 ≤ sizeLine; decide, fun fa hfa => ?_⟩
    have s2 := Same.new (o := .lst [v1]) hfa
    have gf2 : (upd H1 fa (.lst [v1])) fa = some (.lst [v1]) := upd_same
    have h2 := h1.same s2
    have hfa0 : H fa = none := s1.free hfa
    have s12 := s1.trans s2
    generalize upd H1 fa (.lst [v1]) = H2 at s2 gf2 h2 s12
    refine ⟨200, rfl, by decide, by decide, for_range (lo := 0) (n := 200) (fun i σ G => ∃ (xs : List V) (y2 y3 : Option V), σ = [some v, some (.ref fa), y2, y3] ∧ Same H G ∧ G fa = some (.lst xs) ∧ AllF K G xs (stC t i)) ⟨[v1], none, none, rfl, s12, gf2, .cons h2 .nil⟩ ?_ ?_⟩
    · rintro i σ G hi ⟨xs, y2, y3, rfl, sG, gf, al⟩
      rw [Int.zero_add]
      have xl := al.len
      have skl := (sok i).2.2
      refine ⟨.int (i : Nat), rfl, .ref fa, rfl, fa, _, rfl, .inl (SqL.of gf), _, _, rfl, rfl, _, rfl, ?_⟩
      by_cases lt : i < xs.length
      · have dlt : decide (((i : Nat) : Int) < (xs.length : Nat)) = true := decide_eq_true (by omega)
        refine (if_pos dlt).mpr ?_
        obtain ⟨u, hu'⟩ : ∃ u, (stC t i)[i]? = some u := ⟨(stC t i)[i]'(by omega), by simp⟩
        obtain ⟨vu, hvu⟩ : ∃ y, xs[i]? = some y := ⟨xs[i], by simp [lt]⟩
        have uL := List.mem_of_getElem? hu'
        have uok := okv u ((sok i).2.1 u uL)
        have nxt : stC t (i + 1) = addN (stC t i) (fol u) := by simp only [stC, hu']
        refine ⟨.ref fa, rfl, .int (i : Nat), rfl, fa, _, _, vu, rfl, rfl, SqL.of gf, atI_nat (j := i) hvu, vu, u, rfl, al.get hvu hu', by have := uok.dep; omega, fun l zs G1 s3 hlf hl hal => ⟨l, rfl, ⟨_, SqL.of hl⟩, ?_⟩⟩
        have folC : ∀ w ∈ fol u, w ∈ exl [] t := (exl_all tcl u ((sok i).2.1 u uL)).2
        have zl := hal.len
        have nfl : l ≠ fa := fun z => by rw [z, gf] at hlf; cases hlf
        have gf1 := s3 _ _ gf
        have al1 := al.sm s3
        refine for_list (xs := zs) (fun j σ G2 => ∃ (xs' : List V) (y3 : Option V), σ = [some v, some (.ref fa), some (.int (i : Nat)), y3] ∧ (∀ b o, b ≠ fa → G1 b = some o → G2 b = some o) ∧ TKp K G1 G2 ∧ G2 fa = some (.lst xs') ∧ AllF K G2 xs' (addN (stC t i) ((fol u).take j)))
          ⟨xs, y3, rfl, fun _ _ _ e => e, TKp.refl _ _, gf1, al1⟩ (fun j σ G2 _ q => by obtain ⟨_, _, _, kp, _⟩ := q; exact SqL.of (kp _ _ nfl hl)) ?_ ?_
        · rintro j y σ G2 hy ⟨xs', y3, rfl, kp, tk2, gf2, al2⟩
          have jl := (List.getElem?_eq_some_iff.mp hy).1
          obtain ⟨w', hw'⟩ : ∃ w, (fol u)[j]? = some w := ⟨(fol u)[j]'(by omega), by simp⟩
          have hyw := (hal.get hy hw').map tk2
          have wC := folC w' (List.mem_of_getElem? hw')
          have wok := okv w' wC
          have aok := addN_ok (exl [] t) ((fol u).take j) (stC t i) (sok i).1 (sok i).2.1 (fun g hg => folC g (List.mem_of_mem_take hg))
          have ll : (addN (stC t i) ((fol u).take j)).length ≤ 31 := by
            have := nodup_lenF aok.1 aok.2
            rw [exl_len] at this
            omega
          have xl2 := al2.len
          have snoc : addN (stC t i) ((fol u).take (j + 1)) = if w' ∈ addN (stC t i) ((fol u).take j) then addN (stC t i) ((fol u).take j) else addN (stC t i) ((fol u).take j) ++ [w'] := by
            rw [List.take_add_one, hw']
            exact addN_snoc _ _ _
          refine ⟨y, rfl, .ref fa, rfl, dF w', _, dp_F hyw, .lst (SqL.of gf2) (dp_allF al2), dF_shaped (by have := wok.dep; omega), dFs_shaped (M := 15) (fun g hg => (okv g (aok.2 g hg)).dep) (by decide), _, rfl, ?_⟩
          rw [dF_inE]
          by_cases hin : w' ∈ addN (stC t i) ((fol u).take j)
          · rw [decide_eq_true hin]
            refine iteF ?_
            exact ⟨xs', _, rfl, kp, tk2, gf2, by rw [snoc, if_pos hin]; exact al2⟩
          · rw [decide_eq_false hin]
            refine iteT ?_
            refine ⟨.ref fa, rfl, .inl ⟨rfl, _, SqL.of gf2⟩, y, rfl, fa, _, y, rfl, rfl, gf2, small1000 (by omega), ?_⟩
            have tk3 := TKp.lst (K := K) (o' := .lst (xs' ++ [y])) gf2
            refine ⟨xs' ++ [y], _, rfl, fun b o n e => by rw [upd_ne n]; exact kp b o n e, tk2.trans tk3, upd_same, ?_⟩
            rw [snoc, if_neg hin]
            exact AllF.snocS (al2.tk tk3) (hyw.map tk3)
        · rintro σ G2 ⟨xs', y3, rfl, kp, tk2, gf2, al2⟩
          rw [zl, List.take_length, ← nxt] at al2
          exact ⟨xs', _, _, rfl, fun b o e => kp b o (ne_of_none e hfa0) (s3 _ _ (sG b o e)), gf2, al2⟩
      · have dlt : ¬ decide (((i : Nat) : Int) < (xs.length : Nat)) = true := by
          rw [decide_eq_true_eq]
          omega
        refine (if_neg dlt).mpr ?_
        have ei : (stC t i)[i]? = none := List.getElem?_eq_none (by omega)
        have e1 : stC t (i + 1) = stC t i := stC_stop ei 1
        exact ⟨xs, _, _, rfl, sG, gf, by rw [e1]; exact al⟩
    · rintro σ G ⟨xs, y2, y3, rfl, sG, gf, al⟩
      exact ⟨_, rfl, k fa xs G sG gf al⟩
def spIsL (K : PySem.W.Frag) : Sp := fun vs H Q _ => ∃ (a b : Addr) (xs ys : List V) (L : List F), vs = [.ref a, .ref b] ∧ H a = some (.lst xs) ∧ H b = some (.lst ys) ∧ AllF K H xs L ∧ AllF K H ys L ∧ (∀ g ∈ L, g.depth ≤ 15) ∧ Q (.bl true) H
theorem ok_law_is_list {f : Addr} {fd : FuncData} (FF : Fun K "_law_is_list" "_law_is_list" s_law_is_list f fd) (T : Txt K mg C J B) : FnOk P w K mg base CX0 1 f fd a_law_is_list (spIsL K) := by
  refine FF.ok sc_law_is_list (fun vs H Q E h => ?_) (fun cdv A outer s H vs Q E hr h => ?_)
  · obtain ⟨a, b, xs, ys, L, rfl, _⟩ := h
    rfl
  · obtain ⟨a, b, xs, ys, L, rfl, ha, hb, la, lb, hd, k⟩ := h
    refine ⟨_, (pss_one (ps_ret (pe_and (pe_callB call_isi rfl T.z_isinstance (by decide +kernel) (pa_cons (pv 0) (pa_cons (pe_bltn (v := .ty "list") (u := .type "list") rfl T.z_list (by decide +kernel) rfl) pa_nil))) (pe_one (pe_cmpR (op_eqD hr.units) (pv 0) (pv 1) (nomark _)))))), ?_⟩
    refine ⟨.ref a, rfl, .ref a, .ty "list", .type "list", .type "list", true, rfl, .ty "list", .base (.lst ha), kit_ty (by decide +kernel), true, rfl, iteT ?_⟩
    refine ⟨.ref a, rfl, .ref b, rfl, _, _, .lst (SqL.of ha) (dp_allF la), .lst (SqL.of hb) (dp_allF lb), dFs_shaped (M := 15) hd (by decide), dFs_shaped (M := 15) hd (by decide), ?_⟩
    rw [dFs_same]
    exact k
end
end Fw

set_option maxRecDepth 100000
set_option maxHeartbeats 4000000
namespace Fw
open PySem PySem.Spec PyProof.Rows L2
section
variable {P : Program} {w : World} {K : PySem.W.Frag} {mg : Str → Option Value} {base : Heap} {C J B NC SC HC STP : Addr}
def spLaw (K : PySem.W.Frag) : Sp := fun vs H Q _ => ∃ (a : Addr) (ns : List Int), vs = [.ref a] ∧ SqL K H a (ns.map V.int) ∧ ns.length ≤ 63 ∧ ∀ H', Q (.bl true) H'
theorem ok_law {f : Addr} {fd : FuncData} (FF : Fun K "law" "law" s_law f fd) (T : Txt K mg C J B) (h_law_draws : Has P w K mg base "_law_draws" 1 a_law_draws (spDraws K)) (h_law_closed : Has P w K mg base "_law_closed" 8 a_law_closed (spClosed K 4))
    (h_law_size : Has P w K mg base "_law_size" 21 a_law_size (spSz K 20)) (h_law_closure : Has P w K mg base "_law_closure" 23 a_law_closure (spLClo K)) (h_closure : Has P w K mg base "closure" 8 a_closure (spClo K))
    (h_law_is_list : Has P w K mg base "_law_is_list" 1 a_law_is_list (spIsL K)) (h_unfolded : Has P w K mg base "unfolded" 5 a_unfolded (spUnfd K)) (h_law_following : Has P w K mg base "_law_following" 22 a_law_following (spFolL K)) : FnOk P w K mg base CX0 24 f fd a_law (spLaw K) := by
  refine FF.ok sc_law (fun vs H Q E h => ?_) (fun cdv A outer s H vs Q E hr h => ?_)
  · obtain ⟨a, ns, rfl, _⟩ := h
    rfl
  · obtain ⟨a, ns, rfl, hS, hlen, k⟩ := h
    refine ⟨_, (pss_cons (ps_set (i := 1) sc_law.nd rfl (.inl rfl) (pe_callH h_law_draws (hr.mono (by omega)) (pa_cons (pv 0) (pa_cons pe_int pa_nil))))
      (pss_cons (ps_set (i := 2) sc_law.nd rfl (.inl rfl) (pe_callH h_law_closed (hr.mono (by omega)) (pa_cons (pv 1) (pa_cons pe_int pa_nil))))
      (pss_cons (ps_if (pt_cmpR op_gt (pe_callH h_law_size (hr.mono (by omega)) (pa_cons (pv 2) pa_nil)) pe_int (nomark _)) (pss_one (ps_set (i := 2) sc_law.nd rfl (.inl rfl) (pe_tup (pa_cons pe_str (pa_cons pe_int (pa_cons (pe_tup (pa_cons pe_str (pa_cons (pe_tup (pa_cons pe_str (pa_cons pe_int pa_nil))) (pa_cons (pe_tup (pa_cons pe_str (pa_cons pe_int (pa_cons (pe_tup (pa_cons pe_str (pa_cons pe_int pa_nil))) pa_nil)))) pa_nil)))) pa_nil)))))) pss_nil)
      (pss_cons (ps_set (i := 3) sc_law.nd rfl (.inl rfl) (pe_callH h_law_closure (hr.mono (by omega)) (pa_cons (pv 2) pa_nil)))
      (pss_cons (ps_if (pt_not (pt_val (pe_callH h_law_is_list (hr.mono (by omega)) (pa_cons (pe_callH h_closure (hr.mono (by omega)) (pa_cons (pv 2) pa_nil)) (pa_cons (pv 3) pa_nil))))) (pss_one (ps_ret pe_bl)) pss_nil)
      (pss_cons (ps_for PassesOwn.never rfl (pi_list (pv 3)) (pg_name (i := 4) sc_law.nd rfl (.inl rfl)) (pss_one (ps_if (PW.pt (pw_and (pt_cmpR op_in_seq (pe_ix ix_tup (pv 4) pe_int (fun _ _ => rfl)) (pe_tup (pa_cons pe_str (pa_cons pe_str pa_nil))) (by rfl)) (pw_and1 (pt_cmpR (op_neD hr.units) (pe_callH h_unfolded (hr.mono (by omega)) (pa_cons (pv 4) pa_nil)) (pe_ix ix_list (pe_callH h_law_following (hr.mono (by omega)) (pa_cons (pv 4) pa_nil)) pe_int (fun _ _ => rfl)) (nomark _))))) (pss_one (ps_ret pe_bl)) pss_nil)))
      (pss_one (ps_ret pe_bl)))))))), ?_⟩
    refine ⟨.ref a, rfl, a, ns, 300, rfl, hS, hlen, by decide, by decide, fun d H1 s1 hd0 d1 => ?_⟩
    refine ⟨.ref d, rfl, d, rfl, d1, by decide, fun v t H2 b2 d2 ht g => ?_⟩
    have hfv : fv t = [] := List.eq_nil_iff_forall_not_mem.mpr fun x hx => (g.fr x hx).elim (fun z => by cases z) fun z => by cases z
    have dep : t.depth ≤ 5 := g.dep
    have tsz := size31 dep
    have tcl := tdy_fv hfv
    have tdp : (tdy t).depth ≤ 5 := by rw [tdy_depth]; exact dep
    have okv := clOk tcl tdp
    have sok := stC_ok tcl 200
    clear g b2 d2 d1 s1 hd0
    refine ⟨v, rfl, v, t, rfl, ht, Nat.le_trans dep (by decide), fun H3 s3 => ⟨_, _, rfl, rfl, _, rfl, (if_neg (by rw [decide_eq_true_eq]; omega)).mpr ?_⟩⟩
    have ht3 := ht.same s3
    refine ⟨v, rfl, v, t, rfl, ht3, hfv, dep, fun ea xs H4 s4 gea al => ?_⟩
    have ht4 := ht3.same s4
    refine ⟨v, rfl, v, t, rfl, ht4, hfv, dep, fun ca xs2 H5 s5 gca al2 => ⟨.ref ea, rfl, ca, ea, xs2, xs, stC (tdy t) 200, rfl, gca, s5 _ _ gea, al2, al.sm s5, fun g hg => (okv g (sok.2.1 g hg)).dep, _, rfl, ?_⟩⟩
    refine iteF ?_
    have ge5 := s5 _ _ gea
    have al5 := al.sm s5
    clear gca al2 s3 s4 s5 gea al
    refine ⟨.ref ea, rfl, ea, rfl, ⟨_, SqL.of ge5⟩, ?_⟩
    refine for_list (xs := xs) (fun i σ G => ∃ y4 : Option V, σ = [some (.ref a), some (.ref d), some v, some (.ref ea), y4] ∧ Same H5 G) ⟨none, rfl, Same.refl _⟩ (fun i σ G _ q => by obtain ⟨_, _, s⟩ := q; exact SqL.of (s _ _ ge5)) ?_ ?_
    · rintro i y σ G hy ⟨y4, rfl, sG⟩
      have il := (List.getElem?_eq_some_iff.mp hy).1
      have xl := al5.len
      obtain ⟨u, hu'⟩ : ∃ u, (stC (tdy t) 200)[i]? = some u := ⟨(stC (tdy t) 200)[i]'(by omega), by simp⟩
      have uC := sok.2.1 u (List.mem_of_getElem? hu')
      have uok := okv u uC
      have hyu := (al5.get hy hu').same sG
      obtain ⟨b, ks, rfl, sq, ak⟩ := id hyu.open
      have at0 : atI (hv u.hd ++ ks) 0 = some (.str (hw u.hd)) := atI_nat (j := 0) (by rw [List.getElem?_append_left (by rcases hv_len u.hd with e | e <;> omega)]; exact hv_head _)
      refine ⟨.ref b, rfl, b, _, _, _, rfl, rfl, sq, at0, by show 2 ≤ sizeLine; decide, fun p hp => ⟨p, _, rfl, .inr (SqT.of upd_same), rfl, rfl, _, rfl, ?_⟩⟩
      have s6 := Same.new (o := .tup [.str "least", .str "most"]) hp
      generalize upd G p (.tup [.str "least", .str "most"]) = G1 at s6
      rw [if_neg Bool.false_ne_true, in_binders, isB_hdS]
      cases hb : isB u with
      | true =>
        obtain ⟨kd, m, h, rfl⟩ : ∃ kd x f, u = .one kd x f := by
          cases u with
          | one kd x f => exact ⟨kd, x, f, rfl⟩
          | _ => cases hb
        have hk : kd.bind = true := hb
        have ef : fol (.one kd m h) = [putF m (.one kd m h) h] := by simp only [fol]; rw [if_pos hk]
        have pd := (okv _ ((exl_all tcl _ uC).2 (putF m (.one kd m h) h) (by rw [ef]; simp))).dep
        refine iteT ?_
        refine ⟨.ref b, rfl, .ref b, kd, m, h, rfl, hyu.same s6, hk, uok, fun v7 G2 s7 h7 => ?_⟩
        refine ⟨.ref b, rfl, .ref b, .one kd m h, rfl, (hyu.same s6).same s7, by have := uok.dep; omega, fun l zs G3 s8 hlf hl hal => ?_⟩
        rw [ef] at hal
        cases hal with
        | cons hz hn =>
        cases hn
        rename_i v8
        refine ⟨l, _, 0, v8, rfl, rfl, SqL.of hl, rfl, dF (putF m (.one kd m h) h), dF (putF m (.one kd m h) h), dp_F (h7.same s8), dp_F hz, dF_shaped (by omega), dF_shaped (by omega), _, rfl, ?_⟩
        rw [dF_same]
        refine iteF ?_
        exact ⟨_, rfl, sG.trans (s6.trans (s7.trans s8))⟩
      | false =>
        refine iteF ?_
        refine iteF ?_
        exact ⟨_, rfl, sG.trans s6⟩
    · rintro σ G ⟨y4, rfl, sG⟩
      exact k _
end
end Fw

set_option maxRecDepth 100000
set_option maxHeartbeats 4000000
namespace Fw
open PySem PySem.Spec PyProof.Rows L2
theorem exm_own {K : PySem.W.Frag} {S : Addr} (h1 : PySem.W.subIn K (.ref S) (.type "BaseException") = some true) (h2 : PySem.W.hasDictIn K S = true) (h3 : PySem.W.typeIn K (.ref S) = some (.type "type")) (h4 : PySem.W.subIn K (.ref S) (.ref S) = some true) :
    PySem.W.exmOne K (.ref S) (.ref S) = some true := PySem.W.exm_ref h1 h2 h3 h4
theorem pairK {K : PySem.W.Frag} {J : Addr} {d : Option Addr} {n : Nat} {sl : Array (Option Value)} {t1 t2 : Tok} {x y : Str} (l : K.lookup J = some ⟨.type "tuple", d, .seq #[.str x t1, .str y t2] n, sl⟩) (H : Hp) : SqT K H J [.str x, .str y] :=
  .inr ⟨_, #[.str x t1, .str y t2], n, l, rfl, rfl, by show 2 ≤ sizeLine; decide, .cons ⟨t1, rfl⟩ (.cons ⟨t2, rfl⟩ .nil)⟩
theorem pairI {K : PySem.W.Frag} {J : Addr} {d : Option Addr} {n : Nat} {sl : Array (Option Value)} {t1 t2 : Tok} {x : Str} {y : Int} (l : K.lookup J = some ⟨.type "tuple", d, .seq #[.str x t1, .int y t2] n, sl⟩) (H : Hp) : SqT K H J [.str x, .int y] :=
  .inr ⟨_, #[.str x t1, .int y t2], n, l, rfl, rfl, by show 2 ≤ sizeLine; decide, .cons ⟨t1, rfl⟩ (.cons ⟨t2, rfl⟩ .nil)⟩
theorem all_mk {P : Program} {w : World} {K : PySem.W.Frag} {h : Heap} {mg : Str → Option Value} {NC FE : Addr}
    {C_Shelf : Addr}
    {C_Part : Addr}
    {fa f0 f1 f2 f3 f4 f5 f6 f7 f8 f9 f10 f11 f12 f13 f14 f15 f16 f17 f18 f19 f20 f21 f22 f23 f24 f25 f26 f27 f28 f29 f30 f31 f32 : Addr}
    {od0 an0 od1 an1 od2 an2 od3 an3 od4 an4 od5 an5 od6 an6 od7 an7 od8 an8 od9 an9 od10 an10 od11 an11 od12 an12 od13 an13 od14 an14 od15 an15 od16 an16 od17 an17 od18 an18 od19 an19 od20 an20 od21 an21 od22 an22 od23 an23 od24 an24 od25 an25 od26 an26 od27 an27 od28 an28 od29 an29 od30 an30 od31 an31 od32 an32 : Option Addr} {sl0 sl1 sl2 sl3 sl4 sl5 sl6 sl7 sl8 sl9 sl10 sl11 sl12 sl13 sl14 sl15 sl16 sl17 sl18 sl19 sl20 sl21 sl22 sl23 sl24 sl25 sl26 sl27 sl28 sl29 sl30 sl31 sl32 : Array (Option Value)} {oc0 kV0 dc0 pm0 cd0 ct0 oc1 kV1 dc1 pm1 cd1 ct1 oc2 kV2 dc2 pm2 cd2 ct2 oc3 kV3 dc3 pm3 cd3 ct3 oc4 kV4 dc4 pm4 cd4 ct4 oc5 kV5 dc5 pm5 cd5 ct5 oc6 kV6 dc6 pm6 cd6 ct6 oc7 kV7 dc7 pm7 cd7 ct7 oc8 kV8 dc8 pm8 cd8 ct8 oc9 kV9 dc9 pm9 cd9 ct9 oc10 kV10 dc10 pm10 cd10 ct10 oc11 kV11 dc11 pm11 cd11 ct11 oc12 kV12 dc12 pm12 cd12 ct12 oc13 kV13 dc13 pm13 cd13 ct13 oc14 kV14 dc14 pm14 cd14 ct14 oc15 kV15 dc15 pm15 cd15 ct15 oc16 kV16 dc16 pm16 cd16 ct16 oc17 kV17 dc17 pm17 cd17 ct17 oc18 kV18 dc18 pm18 cd18 ct18 oc19 kV19 dc19 pm19 cd19 ct19 oc20 kV20 dc20 pm20 cd20 ct20 oc21 kV21 dc21 pm21 cd21 ct21 oc22 kV22 dc22 pm22 cd22 ct22 oc23 kV23 dc23 pm23 cd23 ct23 oc24 kV24 dc24 pm24 cd24 ct24 oc25 kV25 dc25 pm25 cd25 ct25 oc26 kV26 dc26 pm26 cd26 ct26 oc27 kV27 dc27 pm27 cd27 ct27 oc28 kV28 dc28 pm28 cd28 ct28 oc29 kV29 dc29 pm29 cd29 ct29 oc30 kV30 dc30 pm30 cd30 ct30 oc31 kV31 dc31 pm31 cd31 ct31 oc32 kV32 dc32 pm32 cd32 ct32 : Value}
    {J_BINDERS : Addr} {dJ_BINDERS : Option Addr} {nJ_BINDERS : Nat} {sJ_BINDERS : Array (Option Value)} {t_BINDERS_0 t_BINDERS_1 : Tok}
    {J_JOINS : Addr} {dJ_JOINS : Option Addr} {nJ_JOINS : Nat} {sJ_JOINS : Array (Option Value)} {t_JOINS_0 t_JOINS_1 : Tok}
    (X : K.In h) (G : h.Ns mainGlobals mg) (hfa : mg "law" = some (.ref fa))
    (aC_Part : PySem.W.nsIn K mainGlobals "Part" = some (some (.ref C_Part)))
    (aC_Shelf : PySem.W.nsIn K mainGlobals "Shelf" = some (some (.ref C_Shelf)))
    (a0 : PySem.W.findIn K (.ref C_Part) "__init__" = some (some (.ref f0)))
    (i0 : PySem.W.isFn K (.ref f0) = true)
    (l0 : K.lookup f0 = some ⟨oc0, od0, .func (PySem.W.fnOf "__init__" "Part.__init__" (defArgs s_Part_init) (defBody s_Part_init) (defScope s_Part_init) .none kV0 dc0 pm0 an0 cd0 ct0), sl0⟩)
    (c0 : PySem.W.codeIn K cd0 "Part.__init__" = true)
    (k0 : PySem.W.keepIn K (.ref f0) = true)
    (a1 : PySem.W.nsIn K mainGlobals "head_of" = some (some (.ref f1)))
    (l1 : K.lookup f1 = some ⟨oc1, od1, .func (PySem.W.fnOf "head_of" "head_of" (defArgs s_head_of) (defBody s_head_of) (defScope s_head_of) .none kV1 dc1 pm1 an1 cd1 ct1), sl1⟩)
    (c1 : PySem.W.codeIn K cd1 "head_of" = true)
    (k1 : PySem.W.keepIn K (.ref f1) = true)
    (a2 : PySem.W.nsIn K mainGlobals "parts_of" = some (some (.ref f2)))
    (l2 : K.lookup f2 = some ⟨oc2, od2, .func (PySem.W.fnOf "parts_of" "parts_of" (defArgs s_parts_of) (defBody s_parts_of) (defScope s_parts_of) .none kV2 dc2 pm2 an2 cd2 ct2), sl2⟩)
    (c2 : PySem.W.codeIn K cd2 "parts_of" = true)
    (k2 : PySem.W.keepIn K (.ref f2) = true)
    (a3 : PySem.W.nsIn K mainGlobals "built" = some (some (.ref f3)))
    (l3 : K.lookup f3 = some ⟨oc3, od3, .func (PySem.W.fnOf "built" "built" (defArgs s_built) (defBody s_built) (defScope s_built) .none kV3 dc3 pm3 an3 cd3 ct3), sl3⟩)
    (c3 : PySem.W.codeIn K cd3 "built" = true)
    (k3 : PySem.W.keepIn K (.ref f3) = true)
    (a4 : PySem.W.nsIn K mainGlobals "nearest_around" = some (some (.ref f4)))
    (l4 : K.lookup f4 = some ⟨oc4, od4, .func (PySem.W.fnOf "nearest_around" "nearest_around" (defArgs s_nearest_around) (defBody s_nearest_around) (defScope s_nearest_around) .none kV4 dc4 pm4 an4 cd4 ct4), sl4⟩)
    (c4 : PySem.W.codeIn K cd4 "nearest_around" = true)
    (k4 : PySem.W.keepIn K (.ref f4) = true)
    (a5 : PySem.W.nsIn K mainGlobals "binder_places" = some (some (.ref f5)))
    (l5 : K.lookup f5 = some ⟨oc5, od5, .func (PySem.W.fnOf "binder_places" "binder_places" (defArgs s_binder_places) (defBody s_binder_places) (defScope s_binder_places) .none kV5 dc5 pm5 an5 cd5 ct5), sl5⟩)
    (c5 : PySem.W.codeIn K cd5 "binder_places" = true)
    (k5 : PySem.W.keepIn K (.ref f5) = true)
    (a6 : PySem.W.findIn K (.ref C_Shelf) "__init__" = some (some (.ref f6)))
    (i6 : PySem.W.isFn K (.ref f6) = true)
    (l6 : K.lookup f6 = some ⟨oc6, od6, .func (PySem.W.fnOf "__init__" "Shelf.__init__" (defArgs s_Shelf_init) (defBody s_Shelf_init) (defScope s_Shelf_init) .none kV6 dc6 pm6 an6 cd6 ct6), sl6⟩)
    (c6 : PySem.W.codeIn K cd6 "Shelf.__init__" = true)
    (k6 : PySem.W.keepIn K (.ref f6) = true)
    (a7 : PySem.W.findIn K (.ref C_Shelf) "number" = some (some (.ref f7)))
    (i7 : PySem.W.isFn K (.ref f7) = true)
    (l7 : K.lookup f7 = some ⟨oc7, od7, .func (PySem.W.fnOf "number" "Shelf.number" (defArgs s_Shelf_number) (defBody s_Shelf_number) (defScope s_Shelf_number) .none kV7 dc7 pm7 an7 cd7 ct7), sl7⟩)
    (c7 : PySem.W.codeIn K cd7 "Shelf.number" = true)
    (k7 : PySem.W.keepIn K (.ref f7) = true)
    (a8 : PySem.W.findIn K (.ref C_Shelf) "_free_in" = some (some (.ref f8)))
    (i8 : PySem.W.isFn K (.ref f8) = true)
    (l8 : K.lookup f8 = some ⟨oc8, od8, .func (PySem.W.fnOf "_free_in" "Shelf._free_in" (defArgs s_Shelf__free_in) (defBody s_Shelf__free_in) (defScope s_Shelf__free_in) .none kV8 dc8 pm8 an8 cd8 ct8), sl8⟩)
    (c8 : PySem.W.codeIn K cd8 "Shelf._free_in" = true)
    (k8 : PySem.W.keepIn K (.ref f8) = true)
    (a9 : PySem.W.findIn K (.ref C_Shelf) "numbered" = some (some (.ref f9)))
    (i9 : PySem.W.isFn K (.ref f9) = true)
    (l9 : K.lookup f9 = some ⟨oc9, od9, .func (PySem.W.fnOf "numbered" "Shelf.numbered" (defArgs s_Shelf_numbered) (defBody s_Shelf_numbered) (defScope s_Shelf_numbered) .none kV9 dc9 pm9 an9 cd9 ct9), sl9⟩)
    (c9 : PySem.W.codeIn K cd9 "Shelf.numbered" = true)
    (k9 : PySem.W.keepIn K (.ref f9) = true)
    (a10 : PySem.W.findIn K (.ref C_Shelf) "unfolding" = some (some (.ref f10)))
    (i10 : PySem.W.isFn K (.ref f10) = true)
    (l10 : K.lookup f10 = some ⟨oc10, od10, .func (PySem.W.fnOf "unfolding" "Shelf.unfolding" (defArgs s_Shelf_unfolding) (defBody s_Shelf_unfolding) (defScope s_Shelf_unfolding) .none kV10 dc10 pm10 an10 cd10 ct10), sl10⟩)
    (c10 : PySem.W.codeIn K cd10 "Shelf.unfolding" = true)
    (k10 : PySem.W.keepIn K (.ref f10) = true)
    (a11 : PySem.W.findIn K (.ref C_Shelf) "_parts_with_free" = some (some (.ref f11)))
    (i11 : PySem.W.isFn K (.ref f11) = true)
    (l11 : K.lookup f11 = some ⟨oc11, od11, .func (PySem.W.fnOf "_parts_with_free" "Shelf._parts_with_free" (defArgs s_Shelf__parts_with_free) (defBody s_Shelf__parts_with_free) (defScope s_Shelf__parts_with_free) .none kV11 dc11 pm11 an11 cd11 ct11), sl11⟩)
    (c11 : PySem.W.codeIn K cd11 "Shelf._parts_with_free" = true)
    (k11 : PySem.W.keepIn K (.ref f11) = true)
    (a12 : PySem.W.nsIn K mainGlobals "free_variables" = some (some (.ref f12)))
    (l12 : K.lookup f12 = some ⟨oc12, od12, .func (PySem.W.fnOf "free_variables" "free_variables" (defArgs s_free_variables) (defBody s_free_variables) (defScope s_free_variables) .none kV12 dc12 pm12 an12 cd12 ct12), sl12⟩)
    (c12 : PySem.W.codeIn K cd12 "free_variables" = true)
    (k12 : PySem.W.keepIn K (.ref f12) = true)
    (a13 : PySem.W.nsIn K mainGlobals "ensure_closed" = some (some (.ref f13)))
    (l13 : K.lookup f13 = some ⟨oc13, od13, .func (PySem.W.fnOf "ensure_closed" "ensure_closed" (defArgs s_ensure_closed) (defBody s_ensure_closed) (defScope s_ensure_closed) .none kV13 dc13 pm13 an13 cd13 ct13), sl13⟩)
    (c13 : PySem.W.codeIn K cd13 "ensure_closed" = true)
    (k13 : PySem.W.keepIn K (.ref f13) = true)
    (a14 : PySem.W.nsIn K mainGlobals "tidy" = some (some (.ref f14)))
    (l14 : K.lookup f14 = some ⟨oc14, od14, .func (PySem.W.fnOf "tidy" "tidy" (defArgs s_tidy) (defBody s_tidy) (defScope s_tidy) .none kV14 dc14 pm14 an14 cd14 ct14), sl14⟩)
    (c14 : PySem.W.codeIn K cd14 "tidy" = true)
    (k14 : PySem.W.keepIn K (.ref f14) = true)
    (a15 : PySem.W.nsIn K mainGlobals "unfolded" = some (some (.ref f15)))
    (l15 : K.lookup f15 = some ⟨oc15, od15, .func (PySem.W.fnOf "unfolded" "unfolded" (defArgs s_unfolded) (defBody s_unfolded) (defScope s_unfolded) .none kV15 dc15 pm15 an15 cd15 ct15), sl15⟩)
    (c15 : PySem.W.codeIn K cd15 "unfolded" = true)
    (k15 : PySem.W.keepIn K (.ref f15) = true)
    (a16 : PySem.W.nsIn K mainGlobals "closure" = some (some (.ref f16)))
    (l16 : K.lookup f16 = some ⟨oc16, od16, .func (PySem.W.fnOf "closure" "closure" (defArgs s_closure) (defBody s_closure) (defScope s_closure) .none kV16 dc16 pm16 an16 cd16 ct16), sl16⟩)
    (c16 : PySem.W.codeIn K cd16 "closure" = true)
    (k16 : PySem.W.keepIn K (.ref f16) = true)
    (a17 : PySem.W.nsIn K mainGlobals "closure_numbers" = some (some (.ref f17)))
    (l17 : K.lookup f17 = some ⟨oc17, od17, .func (PySem.W.fnOf "closure_numbers" "closure_numbers" (defArgs s_closure_numbers) (defBody s_closure_numbers) (defScope s_closure_numbers) .none kV17 dc17 pm17 an17 cd17 ct17), sl17⟩)
    (c17 : PySem.W.codeIn K cd17 "closure_numbers" = true)
    (k17 : PySem.W.keepIn K (.ref f17) = true)
    (a18 : PySem.W.nsIn K mainGlobals "behind" = some (some (.ref f18)))
    (l18 : K.lookup f18 = some ⟨oc18, od18, .func (PySem.W.fnOf "behind" "behind" (defArgs s_behind) (defBody s_behind) (defScope s_behind) .none kV18 dc18 pm18 an18 cd18 ct18), sl18⟩)
    (c18 : PySem.W.codeIn K cd18 "behind" = true)
    (k18 : PySem.W.keepIn K (.ref f18) = true)
    (a19 : PySem.W.nsIn K mainGlobals "_law_draws" = some (some (.ref f19)))
    (l19 : K.lookup f19 = some ⟨oc19, od19, .func (PySem.W.fnOf "_law_draws" "_law_draws" (defArgs s_law_draws) (defBody s_law_draws) (defScope s_law_draws) .none kV19 dc19 pm19 an19 cd19 ct19), sl19⟩)
    (c19 : PySem.W.codeIn K cd19 "_law_draws" = true)
    (k19 : PySem.W.keepIn K (.ref f19) = true)
    (a20 : PySem.W.nsIn K mainGlobals "_law_take" = some (some (.ref f20)))
    (l20 : K.lookup f20 = some ⟨oc20, od20, .func (PySem.W.fnOf "_law_take" "_law_take" (defArgs s_law_take) (defBody s_law_take) (defScope s_law_take) .none kV20 dc20 pm20 an20 cd20 ct20), sl20⟩)
    (c20 : PySem.W.codeIn K cd20 "_law_take" = true)
    (k20 : PySem.W.keepIn K (.ref f20) = true)
    (a21 : PySem.W.nsIn K mainGlobals "_law_inner" = some (some (.ref f21)))
    (l21 : K.lookup f21 = some ⟨oc21, od21, .func (PySem.W.fnOf "_law_inner" "_law_inner" (defArgs s_law_inner) (defBody s_law_inner) (defScope s_law_inner) .none kV21 dc21 pm21 an21 cd21 ct21), sl21⟩)
    (c21 : PySem.W.codeIn K cd21 "_law_inner" = true)
    (k21 : PySem.W.keepIn K (.ref f21) = true)
    (a22 : PySem.W.nsIn K mainGlobals "_law_size" = some (some (.ref f22)))
    (l22 : K.lookup f22 = some ⟨oc22, od22, .func (PySem.W.fnOf "_law_size" "_law_size" (defArgs s_law_size) (defBody s_law_size) (defScope s_law_size) .none kV22 dc22 pm22 an22 cd22 ct22), sl22⟩)
    (c22 : PySem.W.codeIn K cd22 "_law_size" = true)
    (k22 : PySem.W.keepIn K (.ref f22) = true)
    (a23 : PySem.W.nsIn K mainGlobals "_law_atom" = some (some (.ref f23)))
    (l23 : K.lookup f23 = some ⟨oc23, od23, .func (PySem.W.fnOf "_law_atom" "_law_atom" (defArgs s_law_atom) (defBody s_law_atom) (defScope s_law_atom) .none kV23 dc23 pm23 an23 cd23 ct23), sl23⟩)
    (c23 : PySem.W.codeIn K cd23 "_law_atom" = true)
    (k23 : PySem.W.keepIn K (.ref f23) = true)
    (a24 : PySem.W.nsIn K mainGlobals "_law_statement" = some (some (.ref f24)))
    (l24 : K.lookup f24 = some ⟨oc24, od24, .func (PySem.W.fnOf "_law_statement" "_law_statement" (defArgs s_law_statement) (defBody s_law_statement) (defScope s_law_statement) .none kV24 dc24 pm24 an24 cd24 ct24), sl24⟩)
    (c24 : PySem.W.codeIn K cd24 "_law_statement" = true)
    (k24 : PySem.W.keepIn K (.ref f24) = true)
    (a25 : PySem.W.nsIn K mainGlobals "_law_closed" = some (some (.ref f25)))
    (l25 : K.lookup f25 = some ⟨oc25, od25, .func (PySem.W.fnOf "_law_closed" "_law_closed" (defArgs s_law_closed) (defBody s_law_closed) (defScope s_law_closed) .none kV25 dc25 pm25 an25 cd25 ct25), sl25⟩)
    (c25 : PySem.W.codeIn K cd25 "_law_closed" = true)
    (k25 : PySem.W.keepIn K (.ref f25) = true)
    (a26 : PySem.W.nsIn K mainGlobals "_law_put" = some (some (.ref f26)))
    (l26 : K.lookup f26 = some ⟨oc26, od26, .func (PySem.W.fnOf "_law_put" "_law_put" (defArgs s_law_put) (defBody s_law_put) (defScope s_law_put) .none kV26 dc26 pm26 an26 cd26 ct26), sl26⟩)
    (c26 : PySem.W.codeIn K cd26 "_law_put" = true)
    (k26 : PySem.W.keepIn K (.ref f26) = true)
    (a27 : PySem.W.nsIn K mainGlobals "_law_tidy_from" = some (some (.ref f27)))
    (l27 : K.lookup f27 = some ⟨oc27, od27, .func (PySem.W.fnOf "_law_tidy_from" "_law_tidy_from" (defArgs s_law_tidy_from) (defBody s_law_tidy_from) (defScope s_law_tidy_from) .none kV27 dc27 pm27 an27 cd27 ct27), sl27⟩)
    (c27 : PySem.W.codeIn K cd27 "_law_tidy_from" = true)
    (k27 : PySem.W.keepIn K (.ref f27) = true)
    (a28 : PySem.W.nsIn K mainGlobals "_law_tidy" = some (some (.ref f28)))
    (l28 : K.lookup f28 = some ⟨oc28, od28, .func (PySem.W.fnOf "_law_tidy" "_law_tidy" (defArgs s_law_tidy) (defBody s_law_tidy) (defScope s_law_tidy) .none kV28 dc28 pm28 an28 cd28 ct28), sl28⟩)
    (c28 : PySem.W.codeIn K cd28 "_law_tidy" = true)
    (k28 : PySem.W.keepIn K (.ref f28) = true)
    (a29 : PySem.W.nsIn K mainGlobals "_law_following" = some (some (.ref f29)))
    (l29 : K.lookup f29 = some ⟨oc29, od29, .func (PySem.W.fnOf "_law_following" "_law_following" (defArgs s_law_following) (defBody s_law_following) (defScope s_law_following) .none kV29 dc29 pm29 an29 cd29 ct29), sl29⟩)
    (c29 : PySem.W.codeIn K cd29 "_law_following" = true)
    (k29 : PySem.W.keepIn K (.ref f29) = true)
    (a30 : PySem.W.nsIn K mainGlobals "_law_closure" = some (some (.ref f30)))
    (l30 : K.lookup f30 = some ⟨oc30, od30, .func (PySem.W.fnOf "_law_closure" "_law_closure" (defArgs s_law_closure) (defBody s_law_closure) (defScope s_law_closure) .none kV30 dc30 pm30 an30 cd30 ct30), sl30⟩)
    (c30 : PySem.W.codeIn K cd30 "_law_closure" = true)
    (k30 : PySem.W.keepIn K (.ref f30) = true)
    (a31 : PySem.W.nsIn K mainGlobals "_law_is_list" = some (some (.ref f31)))
    (l31 : K.lookup f31 = some ⟨oc31, od31, .func (PySem.W.fnOf "_law_is_list" "_law_is_list" (defArgs s_law_is_list) (defBody s_law_is_list) (defScope s_law_is_list) .none kV31 dc31 pm31 an31 cd31 ct31), sl31⟩)
    (c31 : PySem.W.codeIn K cd31 "_law_is_list" = true)
    (k31 : PySem.W.keepIn K (.ref f31) = true)
    (a32 : PySem.W.nsIn K mainGlobals "law" = some (some (.ref f32)))
    (l32 : K.lookup f32 = some ⟨oc32, od32, .func (PySem.W.fnOf "law" "law" (defArgs s_law) (defBody s_law) (defScope s_law) .none kV32 dc32 pm32 an32 cd32 ct32), sl32⟩)
    (c32 : PySem.W.codeIn K cd32 "law" = true)
    (k32 : PySem.W.keepIn K (.ref f32) = true)
    (pg_Part : PySem.W.plainGet K C_Part Str.empty = true)
    (hd_Part : PySem.W.hasDictIn K C_Part = true)
    (po_Part : PySem.W.plainOver K C_Part = true)
    (sa_Part : PySem.W.findIn K (.ref C_Part) "__setattr__" = some (some (.builtin "object.__setattr__")))
    (mk_Part : PySem.W.makesIn K C_Part = true)
    (kc_Part : PySem.W.keepIn K (.ref C_Part) = true)
    (n_Part_head : PySem.W.findIn K (.ref C_Part) "head" = some none)
    (n_Part_around : PySem.W.findIn K (.ref C_Part) "around" = some none)
    (n_Part_inner : PySem.W.findIn K (.ref C_Part) "inner" = some none)
    (pg_Shelf : PySem.W.plainGet K C_Shelf Str.empty = true)
    (hd_Shelf : PySem.W.hasDictIn K C_Shelf = true)
    (po_Shelf : PySem.W.plainOver K C_Shelf = true)
    (sa_Shelf : PySem.W.findIn K (.ref C_Shelf) "__setattr__" = some (some (.builtin "object.__setattr__")))
    (mk_Shelf : PySem.W.makesIn K C_Shelf = true)
    (kc_Shelf : PySem.W.keepIn K (.ref C_Shelf) = true)
    (n_Shelf_heads : PySem.W.findIn K (.ref C_Shelf) "heads" = some none)
    (n_Shelf_inner : PySem.W.findIn K (.ref C_Shelf) "inner" = some none)
    (n_Shelf_free : PySem.W.findIn K (.ref C_Shelf) "free" = some none)
    (n_Shelf_statements : PySem.W.findIn K (.ref C_Shelf) "statements" = some none)
    (n_Shelf__numbers : PySem.W.findIn K (.ref C_Shelf) "_numbers" = some none)
    (z_enumerate : PySem.W.nsIn K mainGlobals "enumerate" = some none)
    (z_int : PySem.W.nsIn K mainGlobals "int" = some none)
    (z_isinstance : PySem.W.nsIn K mainGlobals "isinstance" = some none)
    (z_len : PySem.W.nsIn K mainGlobals "len" = some none)
    (z_list : PySem.W.nsIn K mainGlobals "list" = some none)
    (z_range : PySem.W.nsIn K mainGlobals "range" = some none)
    (z_reversed : PySem.W.nsIn K mainGlobals "reversed" = some none)
    (z_set : PySem.W.nsIn K mainGlobals "set" = some none)
    (z_sorted : PySem.W.nsIn K mainGlobals "sorted" = some none)
    (z_sum : PySem.W.nsIn K mainGlobals "sum" = some none)
    (z_tuple : PySem.W.nsIn K mainGlobals "tuple" = some none)
    (z_zip : PySem.W.nsIn K mainGlobals "zip" = some none)
    (aJ_BINDERS : PySem.W.nsIn K mainGlobals "BINDERS" = some (some (.ref J_BINDERS)))
    (lJ_BINDERS : K.lookup J_BINDERS = some ⟨.type "tuple", dJ_BINDERS, .seq #[.str "least" t_BINDERS_0, .str "most" t_BINDERS_1] nJ_BINDERS, sJ_BINDERS⟩)
    (aJ_JOINS : PySem.W.nsIn K mainGlobals "JOINS" = some (some (.ref J_JOINS)))
    (lJ_JOINS : K.lookup J_JOINS = some ⟨.type "tuple", dJ_JOINS, .seq #[.str "and" t_JOINS_0, .str "or" t_JOINS_1] nJ_JOINS, sJ_JOINS⟩)
    (e_gC : PySem.W.nsIn K mainGlobals "NotClosed" = some (some (.ref NC)))
    (e_gF : PySem.W.nsIn K mainGlobals "FixError" = some (some (.ref FE)))
    (e_xC : PySem.W.excIn K NC [.type "ValueError", .type "Exception", .type "BaseException", .type "object"] "ValueError.__new__" = true)
    (e_kC : PySem.W.keepIn K (.ref NC) = true)
    (e_bC : PySem.W.subIn K (.ref NC) (.type "BaseException") = some true)
    (e_tC : PySem.W.typeIn K (.ref NC) = some (.type "type"))
    (e_iC : PySem.W.isClsIn K NC = true)
    (e_sC : PySem.W.subIn K (.ref NC) (.ref NC) = some true)
    (e_xg : PySem.W.findIn K (.ref NC) "__getattribute__" = some (some (.builtin "BaseException.__getattribute__")))
    (e_xk : PySem.W.findIn K (.ref NC) "__getattr__" = some none)
    (e_xd : PySem.W.hasDictIn K NC = true)
    (e_xa : PySem.W.findIn K (.ref NC) "__class__" = some (some (.builtin "object.__class__")))
    (e_xn : PySem.W.specialIn K (.builtin "object.__class__") "__get__" = some (some (.builtin "getset_descriptor.__get__")))
    (e_xt : PySem.W.takesIn K (.builtin "object.__class__") = some true)
    (e_xm : PySem.W.mroIn K NC (.type "object") = some true)
    (e_kF : PySem.W.kitOne K (.ref NC) (.ref FE) = some true)
    (e_kV : PySem.W.kitOne K (.ref NC) (.type "ValueError") = some true) :
    ∃ fd : FuncData, (∀ (s : Shared) (u : Value), BindsTo s fd ⟨[u], []⟩ [("script", u)]) ∧ ∀ base : Heap, K.In base → base.Ns mainGlobals mg → FnOk P w K mg base CX0 24 fa fd ["script"] (spLaw K) := by
  have e := hfa.symm.trans (PySem.W.mg_of X G a32)
  cases e
  have F_Part_init := fun_mk (st := s_Part_init) l0 c0 k0
  have b_Part_init := F_Part_init.binds (ps := a_Part_init) fun _ _ _ _ _ _ us hl => match us, hl with | [_, _, _], _ => rfl
  have F_head_of := fun_mk (st := s_head_of) l1 c1 k1
  have b_head_of := F_head_of.binds (ps := a_head_of) fun _ _ _ _ _ _ us hl => match us, hl with | [_], _ => rfl
  have m_head_of := PySem.W.mg_of X G a1
  have F_parts_of := fun_mk (st := s_parts_of) l2 c2 k2
  have b_parts_of := F_parts_of.binds (ps := a_parts_of) fun _ _ _ _ _ _ us hl => match us, hl with | [_], _ => rfl
  have m_parts_of := PySem.W.mg_of X G a2
  have F_built := fun_mk (st := s_built) l3 c3 k3
  have b_built := F_built.binds (ps := a_built) fun _ _ _ _ _ _ us hl => match us, hl with | [_, _], _ => rfl
  have m_built := PySem.W.mg_of X G a3
  have F_nearest_around := fun_mk (st := s_nearest_around) l4 c4 k4
  have b_nearest_around := F_nearest_around.binds (ps := a_nearest_around) fun _ _ _ _ _ _ us hl => match us, hl with | [_, _], _ => rfl
  have m_nearest_around := PySem.W.mg_of X G a4
  have F_binder_places := fun_mk (st := s_binder_places) l5 c5 k5
  have b_binder_places := F_binder_places.binds (ps := a_binder_places) fun _ _ _ _ _ _ us hl => match us, hl with | [_], _ => rfl
  have m_binder_places := PySem.W.mg_of X G a5
  have F_Shelf_init := fun_mk (st := s_Shelf_init) l6 c6 k6
  have b_Shelf_init := F_Shelf_init.binds (ps := a_Shelf_init) fun _ _ _ _ _ _ us hl => match us, hl with | [_], _ => rfl
  have F_Shelf_number := fun_mk (st := s_Shelf_number) l7 c7 k7
  have b_Shelf_number := F_Shelf_number.binds (ps := a_Shelf_number) fun _ _ _ _ _ _ us hl => match us, hl with | [_, _, _], _ => rfl
  have F_Shelf__free_in := fun_mk (st := s_Shelf__free_in) l8 c8 k8
  have b_Shelf__free_in := F_Shelf__free_in.binds (ps := a_Shelf__free_in) fun _ _ _ _ _ _ us hl => match us, hl with | [_, _, _], _ => rfl
  have F_Shelf_numbered := fun_mk (st := s_Shelf_numbered) l9 c9 k9
  have b_Shelf_numbered := F_Shelf_numbered.binds (ps := a_Shelf_numbered) fun _ _ _ _ _ _ us hl => match us, hl with | [_, _], _ => rfl
  have F_Shelf_unfolding := fun_mk (st := s_Shelf_unfolding) l10 c10 k10
  have b_Shelf_unfolding := F_Shelf_unfolding.binds (ps := a_Shelf_unfolding) fun _ _ _ _ _ _ us hl => match us, hl with | [_, _], _ => rfl
  have F_Shelf__parts_with_free := fun_mk (st := s_Shelf__parts_with_free) l11 c11 k11
  have b_Shelf__parts_with_free := F_Shelf__parts_with_free.binds (ps := a_Shelf__parts_with_free) fun _ _ _ _ _ _ us hl => match us, hl with | [_, _, _], _ => rfl
  have F_free_variables := fun_mk (st := s_free_variables) l12 c12 k12
  have b_free_variables := F_free_variables.binds (ps := a_free_variables) fun _ _ _ _ _ _ us hl => match us, hl with | [_], _ => rfl
  have m_free_variables := PySem.W.mg_of X G a12
  have F_ensure_closed := fun_mk (st := s_ensure_closed) l13 c13 k13
  have b_ensure_closed := F_ensure_closed.binds (ps := a_ensure_closed) fun _ _ _ _ _ _ us hl => match us, hl with | [_], _ => rfl
  have m_ensure_closed := PySem.W.mg_of X G a13
  have F_tidy := fun_mk (st := s_tidy) l14 c14 k14
  have b_tidy := F_tidy.binds (ps := a_tidy) fun _ _ _ _ _ _ us hl => match us, hl with | [_], _ => rfl
  have m_tidy := PySem.W.mg_of X G a14
  have F_unfolded := fun_mk (st := s_unfolded) l15 c15 k15
  have b_unfolded := F_unfolded.binds (ps := a_unfolded) fun _ _ _ _ _ _ us hl => match us, hl with | [_], _ => rfl
  have m_unfolded := PySem.W.mg_of X G a15
  have F_closure := fun_mk (st := s_closure) l16 c16 k16
  have b_closure := F_closure.binds (ps := a_closure) fun _ _ _ _ _ _ us hl => match us, hl with | [_], _ => rfl
  have m_closure := PySem.W.mg_of X G a16
  have F_closure_numbers := fun_mk (st := s_closure_numbers) l17 c17 k17
  have b_closure_numbers := F_closure_numbers.binds (ps := a_closure_numbers) fun _ _ _ _ _ _ us hl => match us, hl with | [_, _], _ => rfl
  have m_closure_numbers := PySem.W.mg_of X G a17
  have F_behind := fun_mk (st := s_behind) l18 c18 k18
  have b_behind := F_behind.binds (ps := a_behind) fun _ _ _ _ _ _ us hl => match us, hl with | [_, _], _ => rfl
  have m_behind := PySem.W.mg_of X G a18
  have F_law_draws := fun_mk (st := s_law_draws) l19 c19 k19
  have b_law_draws := F_law_draws.binds (ps := a_law_draws) fun _ _ _ _ _ _ us hl => match us, hl with | [_, _], _ => rfl
  have m_law_draws := PySem.W.mg_of X G a19
  have F_law_take := fun_mk (st := s_law_take) l20 c20 k20
  have b_law_take := F_law_take.binds (ps := a_law_take) fun _ _ _ _ _ _ us hl => match us, hl with | [_, _], _ => rfl
  have m_law_take := PySem.W.mg_of X G a20
  have F_law_inner := fun_mk (st := s_law_inner) l21 c21 k21
  have b_law_inner := F_law_inner.binds (ps := a_law_inner) fun _ _ _ _ _ _ us hl => match us, hl with | [_], _ => rfl
  have m_law_inner := PySem.W.mg_of X G a21
  have F_law_size := fun_mk (st := s_law_size) l22 c22 k22
  have b_law_size := F_law_size.binds (ps := a_law_size) fun _ _ _ _ _ _ us hl => match us, hl with | [_], _ => rfl
  have m_law_size := PySem.W.mg_of X G a22
  have F_law_atom := fun_mk (st := s_law_atom) l23 c23 k23
  have b_law_atom := F_law_atom.binds (ps := a_law_atom) fun _ _ _ _ _ _ us hl => match us, hl with | [_, _], _ => rfl
  have m_law_atom := PySem.W.mg_of X G a23
  have F_law_statement := fun_mk (st := s_law_statement) l24 c24 k24
  have b_law_statement := F_law_statement.binds (ps := a_law_statement) fun _ _ _ _ _ _ us hl => match us, hl with | [_, _, _, _, _], _ => rfl
  have m_law_statement := PySem.W.mg_of X G a24
  have F_law_closed := fun_mk (st := s_law_closed) l25 c25 k25
  have b_law_closed := F_law_closed.binds (ps := a_law_closed) fun _ _ _ _ _ _ us hl => match us, hl with | [_, _], _ => rfl
  have m_law_closed := PySem.W.mg_of X G a25
  have F_law_put := fun_mk (st := s_law_put) l26 c26 k26
  have b_law_put := F_law_put.binds (ps := a_law_put) fun _ _ _ _ _ _ us hl => match us, hl with | [_, _, _], _ => rfl
  have m_law_put := PySem.W.mg_of X G a26
  have F_law_tidy_from := fun_mk (st := s_law_tidy_from) l27 c27 k27
  have b_law_tidy_from := F_law_tidy_from.binds (ps := a_law_tidy_from) fun _ _ _ _ _ _ us hl => match us, hl with | [_, _, _], _ => rfl
  have m_law_tidy_from := PySem.W.mg_of X G a27
  have F_law_tidy := fun_mk (st := s_law_tidy) l28 c28 k28
  have b_law_tidy := F_law_tidy.binds (ps := a_law_tidy) fun _ _ _ _ _ _ us hl => match us, hl with | [_], _ => rfl
  have m_law_tidy := PySem.W.mg_of X G a28
  have F_law_following := fun_mk (st := s_law_following) l29 c29 k29
  have b_law_following := F_law_following.binds (ps := a_law_following) fun _ _ _ _ _ _ us hl => match us, hl with | [_], _ => rfl
  have m_law_following := PySem.W.mg_of X G a29
  have F_law_closure := fun_mk (st := s_law_closure) l30 c30 k30
  have b_law_closure := F_law_closure.binds (ps := a_law_closure) fun _ _ _ _ _ _ us hl => match us, hl with | [_], _ => rfl
  have m_law_closure := PySem.W.mg_of X G a30
  have F_law_is_list := fun_mk (st := s_law_is_list) l31 c31 k31
  have b_law_is_list := F_law_is_list.binds (ps := a_law_is_list) fun _ _ _ _ _ _ us hl => match us, hl with | [_, _], _ => rfl
  have m_law_is_list := PySem.W.mg_of X G a31
  have F_law := fun_mk (st := s_law) l32 c32 k32
  have T : Txt K mg C_Part J_JOINS J_BINDERS := ⟨PySem.W.mg_none_of X G z_enumerate, PySem.W.mg_none_of X G z_int, PySem.W.mg_none_of X G z_isinstance, PySem.W.mg_none_of X G z_len, PySem.W.mg_none_of X G z_list, PySem.W.mg_none_of X G z_range, PySem.W.mg_none_of X G z_reversed, PySem.W.mg_none_of X G z_set, PySem.W.mg_none_of X G z_sorted, PySem.W.mg_none_of X G z_sum, PySem.W.mg_none_of X G z_tuple, PySem.W.mg_none_of X G z_zip, PySem.W.mg_of X G aJ_JOINS, pairK lJ_JOINS, PySem.W.mg_of X G aJ_BINDERS, pairK lJ_BINDERS, ⟨pg_Part, hd_Part, po_Part, sa_Part⟩, n_Part_head, n_Part_around, n_Part_inner⟩
  have TE : TxtE K mg NC FE := ⟨PySem.W.mg_of X G e_gC, PySem.W.mg_of X G e_gF, e_xC, e_kC, e_bC, e_tC, exm_own e_bC e_xd e_tC e_sC, ⟨e_xg, e_xk, e_bC, e_xd, e_xa, e_xn, e_xt, e_xm⟩, e_kF, e_kV⟩
  have TS : TxtS K C_Shelf := ⟨⟨pg_Shelf, hd_Shelf, po_Shelf, sa_Shelf⟩, n_Shelf_heads, n_Shelf_inner, n_Shelf_free, n_Shelf_statements, n_Shelf__numbers⟩
  refine ⟨PySem.W.fnOf "law" "law" (defArgs s_law) (defBody s_law) (defScope s_law) .none kV32 dc32 pm32 an32 cd32 ct32, fun s u => .of_eq rfl, fun base _ _ => ?_⟩
  have h_Part : HasC P w K mg base "Part" C_Part 1 a_Part_init (spPart K C_Part) := ⟨_, _, PySem.W.mg_of X G aC_Part, ⟨mk_Part, a0, i0, kc_Part⟩, b_Part_init, ok_Part F_Part_init T⟩
  have h_head_of : Has P w K mg base "head_of" 1 a_head_of (spHead K) := ⟨_, _, m_head_of, F_head_of.kp, b_head_of, ok_head_of F_head_of T⟩
  have h_partsN : Has P w K mg base "parts_of" 3 a_parts_of (spPartsN K C_Part) := ⟨_, _, m_parts_of, F_parts_of.kp, b_parts_of, ok_parts_of F_parts_of T h_head_of h_Part⟩
  have h_parts_of : Has P w K mg base "parts_of" 3 a_parts_of (spParts K C_Part) := ⟨_, _, m_parts_of, F_parts_of.kp, b_parts_of, (ok_parts_of F_parts_of T h_head_of h_Part).imp fun vs H Q E h => by
    obtain ⟨v, t, h1, h2, h3, k⟩ := h
    exact ⟨v, t, h1, h2, h3, fun pa R H' s g _ PR _ => k pa H' s ⟨R, SqL.of g, PR⟩⟩⟩
  have h_built : Has P w K mg base "built" 1 a_built (spBuilt K C_Part) := ⟨_, _, m_built, F_built.kp, b_built, ok_built F_built T⟩
  have h_near : Has P w K mg base "nearest_around" 1 a_nearest_around (spNear K C_Part J_BINDERS) := ⟨_, _, m_nearest_around, F_nearest_around.kp, b_nearest_around, ok_nearest_around F_nearest_around T⟩
  have h_places : Has P w K mg base "binder_places" 2 a_binder_places (spPlaces K C_Part) := ⟨_, _, m_binder_places, F_binder_places.kp, b_binder_places, ok_binder_places F_binder_places T h_near⟩
  have h_free : Has P w K mg base "free_variables" 4 a_free_variables (spFree K) := ⟨_, _, m_free_variables, F_free_variables.kp, b_free_variables, ok_free_variables F_free_variables T h_parts_of h_places⟩
  have h_ens : HasX P w K mg base "ensure_closed" 5 a_ensure_closed (spEnsure K NC) := ⟨_, _, m_ensure_closed, F_ensure_closed.kp, b_ensure_closed, ok_ensure_closed F_ensure_closed T TE h_free⟩
  have h_tidy : HasX P w K mg base "tidy" 6 a_tidy (spTidy K NC) := ⟨_, _, m_tidy, F_tidy.kp, b_tidy, ok_tidy F_tidy T TE h_ens h_parts_of h_places h_built⟩
  have M_fi : Meth K C_Shelf "_free_in" f8 := ⟨a8, i8, k8⟩
  have M_nu : Meth K C_Shelf "number" f7 := ⟨a7, i7, k7⟩
  have M_nd : Meth K C_Shelf "numbered" f9 := ⟨a9, i9, k9⟩
  have M_un : Meth K C_Shelf "unfolding" f10 := ⟨a10, i10, k10⟩
  have M_pw : Meth K C_Shelf "_parts_with_free" f11 := ⟨a11, i11, k11⟩
  have g_nu := ok_number (P := P) (w := w) (mg := mg) (base := base) F_Shelf_number T TS M_fi (ok_free_in F_Shelf__free_in T TS) b_Shelf__free_in
  have h_Shelf : HasC P w K mg base "Shelf" C_Shelf 1 a_Shelf_init (spShI P w K C_Shelf) := ⟨_, _, PySem.W.mg_of X G aC_Shelf, ⟨mk_Shelf, a6, i6, kc_Shelf⟩, b_Shelf_init, ok_Shelf_init F_Shelf_init T TS⟩
  have g_nd := ok_numbered (P := P) (w := w) (mg := mg) (base := base) F_Shelf_numbered T TS h_partsN M_nu g_nu b_Shelf_number
  have g_pw := ok_parts_with_free (P := P) (w := w) (mg := mg) (base := base) F_Shelf__parts_with_free T TS
  have g_un := ok_unfolding (P := P) (w := w) (mg := mg) (base := base) F_Shelf_unfolding T TS M_nu g_nu b_Shelf_number M_pw g_pw b_Shelf__parts_with_free
  have h_unf : Has P w K mg base "unfolded" 5 a_unfolded (spUnfd K) := ⟨_, _, m_unfolded, F_unfolded.kp, b_unfolded, ok_unfolded F_unfolded T TS h_Shelf M_nd g_nd b_Shelf_numbered M_un g_un b_Shelf_unfolding⟩
  have h_beh : Has P w K mg base "behind" 4 a_behind (spBeh P w K C_Shelf) := ⟨_, _, m_behind, F_behind.kp, b_behind, ok_behind F_behind T TS M_un g_un b_Shelf_unfolding⟩
  have h_cln : Has P w K mg base "closure_numbers" 7 a_closure_numbers (spCln P w K C_Shelf) := ⟨_, _, m_closure_numbers, F_closure_numbers.kp, b_closure_numbers, ok_closure_numbers F_closure_numbers T TS h_tidy h_beh M_nd g_nd b_Shelf_numbered⟩
  have h_clo : Has P w K mg base "closure" 8 a_closure (spClo K) := ⟨_, _, m_closure, F_closure.kp, b_closure, ok_closure F_closure T TS h_Shelf h_cln⟩
  have h_draws : Has P w K mg base "_law_draws" 1 a_law_draws (spDraws K) := ⟨_, _, m_law_draws, F_law_draws.kp, b_law_draws, ok_law_draws F_law_draws T⟩
  have h_take : Has P w K mg base "_law_take" 1 a_law_take spTake := ⟨_, _, m_law_take, F_law_take.kp, b_law_take, ok_law_take F_law_take T⟩
  have h_inner : Has P w K mg base "_law_inner" 1 a_law_inner (spInner K) := ⟨_, _, m_law_inner, F_law_inner.kp, b_law_inner, ok_law_inner F_law_inner T⟩
  have h_innerN : Has P w K mg base "_law_inner" 1 a_law_inner (spInnerN K) := ⟨_, _, m_law_inner, F_law_inner.kp, b_law_inner, ok_law_innerN F_law_inner T⟩
  have h_atom : Has P w K mg base "_law_atom" 2 a_law_atom (spAtom K) := ⟨_, _, m_law_atom, F_law_atom.kp, b_law_atom, ok_law_atom F_law_atom T h_take⟩
  have h_closed : Has P w K mg base "_law_closed" 8 a_law_closed (spClosed K 4) := ⟨_, _, m_law_closed, F_law_closed.kp, b_law_closed, ok_law_closed 4 F_law_closed (all_statement F_law_statement b_law_statement m_law_statement T h_take h_atom 5)⟩
  have h_size := all_size (P := P) (w := w) (base := base) F_law_size b_law_size m_law_size T h_inner 20
  have h_ltidy : Has P w K mg base "_law_tidy" 22 a_law_tidy (spLTidy K) := ⟨_, _, m_law_tidy, F_law_tidy.kp, b_law_tidy, ok_law_tidy F_law_tidy (all_tidy_from F_law_tidy_from b_law_tidy_from m_law_tidy_from T 20)⟩
  have h_put := all_put (P := P) (w := w) (base := base) F_law_put b_law_put m_law_put T 20
  have h_fol : Has P w K mg base "_law_following" 22 a_law_following (spFolL K) := ⟨_, _, m_law_following, F_law_following.kp, b_law_following, ok_law_following F_law_following T h_put h_innerN⟩
  have h_lclo : Has P w K mg base "_law_closure" 23 a_law_closure (spLClo K) := ⟨_, _, m_law_closure, F_law_closure.kp, b_law_closure, ok_law_closure F_law_closure T h_ltidy h_fol⟩
  have h_isl : Has P w K mg base "_law_is_list" 1 a_law_is_list (spIsL K) := ⟨_, _, m_law_is_list, F_law_is_list.kp, b_law_is_list, ok_law_is_list F_law_is_list T⟩
  exact ok_law F_law T h_draws h_closed h_size h_lclo h_clo h_isl h_unf h_fol
theorem walk {l : PySem.W.OpenLaw} {q : Program} {loose : List Str} {XP : (Str → Option Value) → Heap → Prop} {YP : World → Heap → Prop} {d : DefRec} {K : Params → PySem.W.Frag} (hn : l.most = some 63) (hdf : d.params.defaults = [])
    (hY : ∀ (w : World) (h : Heap), YP w h → (K w.params).In h)
    (F : ∀ (w : World) (mg : Str → Option Value) (fa : Addr) (h : Heap), (K w.params).In h → h.Ns mainGlobals mg → mg d.name = some (.ref fa) →
      ∃ fd : FuncData, (∀ (s : Shared) (u : Value), BindsTo s fd ⟨[u], []⟩ [("script", u)]) ∧ ∀ base : Heap, (K w.params).In base → base.Ns mainGlobals mg → FnOk l.prog w (K w.params) mg base CX0 24 fa fd ["script"] (spLaw (K w.params))) :
    PySem.W.WalkO q loose XP YP l.row.toRowW d [] (fun f vs => PySem.call f vs) :=
  L2.walk_of (n := 63) (k := 24) (x := "script") (CX := fun _ => CX0) (sp := fun w => spLaw (K w.params)) hn (by decide) hdf ⟨rfl, by decide, by decide⟩ hY F (fun _ _ a ns hl _ hS => ⟨a, ns, rfl, hS, hl, fun _ => rfl⟩) fun _ _ _ _ _ z => z
end Fw

set_option maxRecDepth 100000
open PySem PySem.W PyProof.Rows
set_option maxHeartbeats 0 in
theorem PySem.Challenge.cw_fixworlds_k03_closures_holds : PySem.Challenge.rw_fixworlds_k03_closures.Holds := by
  w_on; o_law; k_head; (case hw => w_witness2)
  k_fill
  refine Fw.walk (l := PySem.Challenge.rw_fixworlds_k03_closures) rfl rfl (fun w h Y => PySem.W.kIn_of Y) ?F
  case F =>
    intro w mg fa h KX G hmg
    refine' Fw.all_mk KX G hmg ?aC_Part ?aC_Shelf ?a0 ?i0 ?l0 ?c0 ?k0 ?a1 ?l1 ?c1 ?k1 ?a2 ?l2 ?c2 ?k2 ?a3 ?l3 ?c3 ?k3 ?a4 ?l4 ?c4 ?k4 ?a5 ?l5 ?c5 ?k5 ?a6 ?i6 ?l6 ?c6 ?k6 ?a7 ?i7 ?l7 ?c7 ?k7 ?a8 ?i8 ?l8 ?c8 ?k8 ?a9 ?i9 ?l9 ?c9 ?k9 ?a10 ?i10 ?l10 ?c10 ?k10 ?a11 ?i11 ?l11 ?c11 ?k11 ?a12 ?l12 ?c12 ?k12 ?a13 ?l13 ?c13 ?k13 ?a14 ?l14 ?c14 ?k14 ?a15 ?l15 ?c15 ?k15 ?a16 ?l16 ?c16 ?k16 ?a17 ?l17 ?c17 ?k17 ?a18 ?l18 ?c18 ?k18 ?a19 ?l19 ?c19 ?k19 ?a20 ?l20 ?c20 ?k20 ?a21 ?l21 ?c21 ?k21 ?a22 ?l22 ?c22 ?k22 ?a23 ?l23 ?c23 ?k23 ?a24 ?l24 ?c24 ?k24 ?a25 ?l25 ?c25 ?k25 ?a26 ?l26 ?c26 ?k26 ?a27 ?l27 ?c27 ?k27 ?a28 ?l28 ?c28 ?k28 ?a29 ?l29 ?c29 ?k29 ?a30 ?l30 ?c30 ?k30 ?a31 ?l31 ?c31 ?k31 ?a32 ?l32 ?c32 ?k32 ?pg_Part ?hd_Part ?po_Part ?sa_Part ?mk_Part ?kc_Part ?n_Part_head ?n_Part_around ?n_Part_inner ?pg_Shelf ?hd_Shelf ?po_Shelf ?sa_Shelf ?mk_Shelf ?kc_Shelf ?n_Shelf_heads ?n_Shelf_inner ?n_Shelf_free ?n_Shelf_statements ?n_Shelf__numbers ?z_enumerate ?z_int ?z_isinstance ?z_len ?z_list ?z_range ?z_reversed ?z_set ?z_sorted ?z_sum ?z_tuple ?z_zip ?aJ_BINDERS ?lJ_BINDERS ?aJ_JOINS ?lJ_JOINS ?e_gC ?e_gF ?e_xC ?e_kC ?e_bC ?e_tC ?e_iC ?e_sC ?e_xg ?e_xk ?e_xd ?e_xa ?e_xn ?e_xt ?e_xm ?e_kF ?e_kV
    (case aC_Part => k_is)
    (case aC_Shelf => k_is)
    (case a0 => k_is)
    (case i0 => k_is)
    (case l0 => k_is)
    (case c0 => k_is)
    (case k0 => k_is)
    (case a1 => k_is)
    (case l1 => k_is)
    (case c1 => k_is)
    (case k1 => k_is)
    (case a2 => k_is)
    (case l2 => k_is)
    (case c2 => k_is)
    (case k2 => k_is)
    (case a3 => k_is)
    (case l3 => k_is)
    (case c3 => k_is)
    (case k3 => k_is)
    (case a4 => k_is)
    (case l4 => k_is)
    (case c4 => k_is)
    (case k4 => k_is)
    (case a5 => k_is)
    (case l5 => k_is)
    (case c5 => k_is)
    (case k5 => k_is)
    (case a6 => k_is)
    (case i6 => k_is)
    (case l6 => k_is)
    (case c6 => k_is)
    (case k6 => k_is)
    (case a7 => k_is)
    (case i7 => k_is)
    (case l7 => k_is)
    (case c7 => k_is)
    (case k7 => k_is)
    (case a8 => k_is)
    (case i8 => k_is)
    (case l8 => k_is)
    (case c8 => k_is)
    (case k8 => k_is)
    (case a9 => k_is)
    (case i9 => k_is)
    (case l9 => k_is)
    (case c9 => k_is)
    (case k9 => k_is)
    (case a10 => k_is)
    (case i10 => k_is)
    (case l10 => k_is)
    (case c10 => k_is)
    (case k10 => k_is)
    (case a11 => k_is)
    (case i11 => k_is)
    (case l11 => k_is)
    (case c11 => k_is)
    (case k11 => k_is)
    (case a12 => k_is)
    (case l12 => k_is)
    (case c12 => k_is)
    (case k12 => k_is)
    (case a13 => k_is)
    (case l13 => k_is)
    (case c13 => k_is)
    (case k13 => k_is)
    (case a14 => k_is)
    (case l14 => k_is)
    (case c14 => k_is)
    (case k14 => k_is)
    (case a15 => k_is)
    (case l15 => k_is)
    (case c15 => k_is)
    (case k15 => k_is)
    (case a16 => k_is)
    (case l16 => k_is)
    (case c16 => k_is)
    (case k16 => k_is)
    (case a17 => k_is)
    (case l17 => k_is)
    (case c17 => k_is)
    (case k17 => k_is)
    (case a18 => k_is)
    (case l18 => k_is)
    (case c18 => k_is)
    (case k18 => k_is)
    (case a19 => k_is)
    (case l19 => k_is)
    (case c19 => k_is)
    (case k19 => k_is)
    (case a20 => k_is)
    (case l20 => k_is)
    (case c20 => k_is)
    (case k20 => k_is)
    (case a21 => k_is)
    (case l21 => k_is)
    (case c21 => k_is)
    (case k21 => k_is)
    (case a22 => k_is)
    (case l22 => k_is)
    (case c22 => k_is)
    (case k22 => k_is)
    (case a23 => k_is)
    (case l23 => k_is)
    (case c23 => k_is)
    (case k23 => k_is)
    (case a24 => k_is)
    (case l24 => k_is)
    (case c24 => k_is)
    (case k24 => k_is)
    (case a25 => k_is)
    (case l25 => k_is)
    (case c25 => k_is)
    (case k25 => k_is)
    (case a26 => k_is)
    (case l26 => k_is)
    (case c26 => k_is)
    (case k26 => k_is)
    (case a27 => k_is)
    (case l27 => k_is)
    (case c27 => k_is)
    (case k27 => k_is)
    (case a28 => k_is)
    (case l28 => k_is)
    (case c28 => k_is)
    (case k28 => k_is)
    (case a29 => k_is)
    (case l29 => k_is)
    (case c29 => k_is)
    (case k29 => k_is)
    (case a30 => k_is)
    (case l30 => k_is)
    (case c30 => k_is)
    (case k30 => k_is)
    (case a31 => k_is)
    (case l31 => k_is)
    (case c31 => k_is)
    (case k31 => k_is)
    (case a32 => k_is)
    (case l32 => k_is)
    (case c32 => k_is)
    (case k32 => k_is)
    (case pg_Part => k_is)
    (case hd_Part => k_is)
    (case po_Part => k_is)
    (case sa_Part => k_is)
    (case mk_Part => k_is)
    (case kc_Part => k_is)
    (case n_Part_head => k_is)
    (case n_Part_around => k_is)
    (case n_Part_inner => k_is)
    (case pg_Shelf => k_is)
    (case hd_Shelf => k_is)
    (case po_Shelf => k_is)
    (case sa_Shelf => k_is)
    (case mk_Shelf => k_is)
    (case kc_Shelf => k_is)
    (case n_Shelf_heads => k_is)
    (case n_Shelf_inner => k_is)
    (case n_Shelf_free => k_is)
    (case n_Shelf_statements => k_is)
    (case n_Shelf__numbers => k_is)
    (case z_enumerate => k_is)
    (case z_int => k_is)
    (case z_isinstance => k_is)
    (case z_len => k_is)
    (case z_list => k_is)
    (case z_range => k_is)
    (case z_reversed => k_is)
    (case z_set => k_is)
    (case z_sorted => k_is)
    (case z_sum => k_is)
    (case z_tuple => k_is)
    (case z_zip => k_is)
    (case aJ_BINDERS => k_is)
    (case lJ_BINDERS => k_is)
    (case aJ_JOINS => k_is)
    (case lJ_JOINS => k_is)
    (case e_gC => k_is)
    (case e_gF => k_is)
    (case e_xC => k_exc)
    (case e_kC => k_is)
    (case e_bC => k_is)
    (case e_tC => k_is)
    (case e_iC => k_is)
    (case e_sC => first | rfl | k_is)
    (case e_xg => k_is)
    (case e_xk => k_is)
    (case e_xd => k_is)
    (case e_xa => k_is)
    (case e_xn => k_is)
    (case e_xt => k_is)
    (case e_xm => k_is)
    (case e_kF => first | rfl | k_is)
    (case e_kV => first | rfl | k_is)

