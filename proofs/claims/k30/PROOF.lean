import PyProof.Rows.All
import Wide.All
import OpenK.AllK
import Wide.FinOn
import PyProof.EqAt
import PyProof.EqKinds
import PyProof.TupleCall
import HandS.ForMost
import HandS.ForExc
import HandS.Strs
import HandS.SetFor
import HandS.SetBool
import HandS.Walk
import HandS.TupAny
import HandS.Rev
import HandS.RevRange
import HandS.IsInst
import HandS.SortInts
import HandS.ExcIs
import HandS.Flow
import HandS.AnyAll
import HandS.Zip
import PyProof.GenCompD
import HandS.SetKeys
import HandS.SortRule
import PyProof.DictMoreH
import KE.KDictKeyed
import PySem.Challenge.RW_fixworlds_k30_shorter
set_option Elab.async false
set_option linter.all false
set_option maxRecDepth 100000
set_option maxHeartbeats 4000000
/-! two rules for sets of ints: made of a list, and by a comprehension -/
namespace Fw
open PySem PySem.Spec PyProof.Rows L2
abbrev freshSet (w : World) : Obj :=
  { cls := .type "set", dict := none, data := .set #[] 0 (.fresh 0 0 (!w.params.followText "set-order")) }
section
variable {P : Program} {w : World} {A : Around} {E : Value → Shared → Prop} {s : Shared}
/-- set(xs), xs a list of ints -/
theorem setOfList {l : Addr} {its : Array Value} (ns : List Int) {Q : Value → Shared → Prop}
    (quiet : A.handled = none) (lst : s.heap.IsList l its) (iv : IntsAre its.toList ns) (few : ns.length + 1 < scanBound)
    (next : ∀ (h' : Heap) (tk c : Nat), SetR w h' s.heap.objs.size (fun j => decide (j ∈ ns)) c → c ≤ ns.length →
      (∀ b o, s.heap.get? b = some o → h'.get? b = some o) → Q (.ref s.heap.objs.size) { s with heap := h', toks := tk }) :
    wpAny (model P w) A (call (.type "set") [.ref l]) Q E s := by
  have many : its.size = ns.length := by
    rw [← Array.length_toList]
    exact IntsAre.length iv
  have f1 := F.called_set.mro
  obtain ⟨c, tl, hmro⟩ := f1
  have f2 := F.called_set.made
  have f3 := F.called_set.sub
  refine wpAny_call (codeAny_of_tree ?_)
  show wpAny _ _ (callAny (.type "set") _) _ _ _
  refine wpAny_pure ⟨Code.quiet_builtin _ (by decide +kernel), codeAny_builtin F.entry_type_call ?_⟩
  rw [Around.under_plain (weight_type_call_type "set" [.ref l] []) rfl]
  have f4 := F.called_set.notType
  have f5 := F.called_set.canCreate
  have f6 := F.typeCall_set_1 (.ref l)
  repeat (any_goals (first | assumption | wp_step))
  generalize hN : s.heap.objs.size = N
  refine codeAny_mono (code_set_led1 (.ref l) (E := E)
    (Q₁ := fun v t => v = .ref N ∧ t = { s with heap := s.heap.push (freshSet w) }) ⟨by rw [hN], rfl⟩) fun r s₁ hr => ?_
  rcases r with e | fl
  · exact hr
  · cases fl
    case ret v =>
      obtain ⟨rfl, rfl⟩ := hr
      have got : (s.heap.push (freshSet w)).get? N = some (freshSet w) := by
        rw [← hN]
        exact Heap.get?_push_size _ rfl
      have ty : Shared.TypeIs { s with heap := s.heap.push (freshSet w) } (.ref N) "set" := ⟨_, got, rfl⟩
      have g1 := F.called_set.init.lookup
      have g2 := F.called_set.init.bind (.ref N)
      repeat (any_goals (first | assumption | wp_step))
      refine codeAny_mono (codeAny_call_builtin (R := wants (fun v t => v = .none ∧ ∃ h' tk c, t = { s with heap := h', toks := tk } ∧
          SetR w h' N (fun j => decide (j ∈ ns)) c ∧ c ≤ ns.length ∧ (∀ b o, s.heap.get? b = some o → h'.get? b = some o)) E)
          F.called_set.init.plain F.entry_set_init (check_set_init_1 ty ?_)) fun r₂ s₂ hr₂ => ?_
      · obtain ⟨ol, hol, hcl, nl, hdl⟩ := lst
        obtain ⟨ocls, odict, odata, oslots⟩ := ol
        simp only at hcl hdl
        subst hcl
        subst hdl
        have hol' : (s.heap.push (freshSet w)).get? l = some { cls := .type "list", dict := odict, data := .seq its nl, slots := oslots } :=
          Heap.get?_push_of_some _ hol
        have k1 := F.sub_list_set
        have k2 := F.sub_list_frozenset
        have k3 : (Value.type "list" == Value.type "dict") = false := by decide
        have lst1 : (s.heap.push (freshSet w)).IsList l its := ⟨_, hol', rfl, nl, rfl⟩
        unfold Builtin.«set.__init__» noKeywords Builtin.Frozenset.updateFrom
        generalize hPI : pyIter = PI
        wp_walk
        subst hPI
        refine wpAny_pyIter_list lst1 (wpAny_bind (wpAny_runValue ?_))
        have lN : l < N := by
          rw [← hN]
          exact Heap.lt_size hol
        have quiet3 : A.in1.in1.in1.handled = none := by simp [quiet]
        have size1 : (s.heap.push (freshSet w)).objs.size = N + 1 := by rw [Heap.size_push, hN]
        have l1 : l ≠ (s.heap.push (freshSet w)).objs.size := by
          rw [size1]
          exact Nat.ne_of_lt (Nat.lt_succ_of_lt lN)
        have n1 : N ∉ [(s.heap.push (freshSet w)).objs.size, l] := by
          rw [size1]
          simp only [List.mem_cons, List.not_mem_nil, or_false, not_or]
          exact ⟨Nat.ne_of_lt (Nat.lt_succ_self _), Nat.ne_of_gt lN⟩
        refine set_update_ints ((Walks.list quiet3 _ l l1 its).toS) N n1 ns many few (fun i v hv => ?_) (its.size - 0) 0 _ (by omega) (Nat.zero_le _)
          ⟨⟨_, Heap.get?_push_size _ rfl, rfl, rfl⟩, lst1.push _⟩ ⟨0, Nat.le_refl 0, setR_new_at (Heap.get?_push_of_some _ got)⟩ fun s' c' hm hc' hS' => ?_
        · have hi : i < ns.length := by
            rw [← many]
            exact (Array.getElem?_eq_some_iff.mp hv).1
          obtain ⟨t, e⟩ := PyProof.Rows.IntsAre.int_at iv i v (by rw [Array.getElem?_toList]; exact hv)
          refine ⟨ns[i], t, List.getElem?_eq_getElem hi, ?_⟩
          rw [e, List.getD_eq_getElem?_getD, List.getElem?_eq_getElem hi]
          rfl
        · obtain ⟨h', g2, d', tk', os'⟩ := s'
          obtain rfl : g2 = s.gens := hm.gens
          obtain rfl : d' = s.drawn := hm.drawn
          obtain rfl : os' = s.os := hm.os
          show wpAny _ _ _ _ _ _
          refine wpAny_pure ?_
          show wpAny _ _ (ret Value.none) _ _ _
          rw [many] at hc'
          refine wpAny_pure ⟨rfl, h', tk', c', rfl, hS', hc', fun b o e => ?_⟩
          have bN : b < N := by
            rw [← hN]
            exact Heap.lt_size e
          refine hm.heap b o ?_ (Heap.get?_push_of_some _ (Heap.get?_push_of_some _ e))
          rw [size1]
          simp only [List.mem_cons, List.not_mem_nil, or_false, not_or]
          exact ⟨Nat.ne_of_lt bN, Nat.ne_of_lt (Nat.lt_succ_of_lt bN)⟩
      · rcases r₂ with e | fl₂
        · exact hr₂
        · cases fl₂
          case ret r =>
            obtain ⟨rfl, h', tk, c', rfl, hS', hc', hk'⟩ := hr₂
            repeat (any_goals (first | assumption | wp_step))
            subst hN
            exact next _ _ _ hS' hc' hk'
          all_goals exact hr₂.elim
    all_goals exact hr.elim
end
end Fw

set_option maxRecDepth 100000
set_option maxHeartbeats 4000000
namespace Fw
open PySem PySem.Spec PyProof.Rows L2
theorem intsOfVals : ∀ {ns : List Int} {us : List Value}, Vals (ns.map V.int) us → IntsAre us ns
  | [], _, .nil => .nil
  | k :: _, _, .cons r t => by
    obtain ⟨tk, rfl⟩ := r
    exact .cons k tk (intsOfVals t)
theorem nodup_le : ∀ {l Vs : List Int}, l.Nodup → (∀ x ∈ l, x ∈ Vs) → l.length ≤ Vs.length
  | [], Vs, _, _ => Nat.zero_le _
  | a :: l, Vs, nd, h => by
    have nd' := List.nodup_cons.mp nd
    have ha := h a List.mem_cons_self
    have ih := nodup_le (Vs := Vs.erase a) nd'.2 fun x hx =>
      (List.mem_erase_of_ne (fun e => nd'.1 (by rw [← e]; exact hx))).mpr (h x (List.mem_cons_of_mem _ hx))
    have := List.length_erase_of_mem ha
    have : 0 < Vs.length := List.length_pos_of_mem ha
    rw [List.length_cons]
    omega
section
variable {X : Cx}
/-- set(xs), xs a list of ints -/
def rSetL (K : PySem.W.Frag) (w : World) : List V → Hp → VK → Prop := fun vs H Q => ∃ (l : Addr) (ns : List Int),
  vs = [V.ref l] ∧ SqL K H l (ns.map V.int) ∧ ns.length ≤ 4000 ∧
  ∀ p c, H p = none → c ≤ ns.length → (∀ Vs : List Int, (∀ x ∈ ns, x ∈ Vs) → c ≤ Vs.length) → Q (.ref p) (upd H p (SetO w p (fun j => decide (j ∈ ns)) c))
theorem call_setL (quiet : X.calm = true) : CallR X (.type "set") (rSetL X.K X.w) := by
  intro pins s σ H vs us Q I r h
  obtain ⟨l, ns, rfl, hl, few, q⟩ := h
  obtain ⟨its, rv, pl, _⟩ := I.list hl
  rw [Vals.ref1 r]
  have iv := intsOfVals rv
  have isl : s.heap.IsList l its.toArray := by
    obtain ⟨o, n, e1, e2, e3, e4⟩ := pl
    exact ⟨o, e1, e2, n, e4⟩
  refine setOfList ns (I.ok.hd quiet) isl (by simpa using iv) (Nat.lt_of_le_of_lt (Nat.succ_le_succ few) (by decide)) fun h' tk c R hc kp => ?_
  have fr : H s.heap.objs.size = none := I.hok.fresh (Nat.le_refl _)
  refine ⟨.ref _, _, I.laid (t' := tk) kp (Nat.le_refl _) (setO_new R), rfl, q _ c fr hc fun Vs hV => ?_⟩
  obtain ⟨o, es, ep, t, _, _, _, _, nd, mem, _, _, size, _⟩ := R
  rw [← size, ← Array.length_toList, ← List.length_map (f := keyOf)]
  exact nodup_le nd fun x hx => hV x (of_decide_eq_true ((mem x).mpr hx))
/-- what a comprehension of ints into a set asks: W tells the turns, D is the new set -/
def tSci (w : World) (wi : TI) (g : TG) (tt : TT) (te : TE) (vs : List Nat) : TE := fun σ H Q => wi σ H fun J H1 => ∀ D, H1 D = none →
  ∃ W : Nat → Nat → Hp → Prop, (∃ m, W 0 m (upd H1 D (SetO w D (fun _ => false) 0))) ∧ ∀ i m H, W i m H →
    (J.stop i H ∧ Q (.ref D) H) ∨ (J.go i H ∧ ∃ Nx : Hp → Prop, (∀ H', Nx H' → ∃ m', m' < m ∧ W (i + 1) m' H') ∧
      ∀ x H', J.yld i H x H' → g x (wipe σ vs) H' fun σ2 H2 => wipe σ2 vs = wipe σ vs ∧ tt σ2 H2 fun b H3 =>
        if b = true then te σ2 H3 fun y H4 => ∃ (k : Int) (S : Int → Bool) (n : Nat), y = .int k ∧ H4 D = some (SetO w D S n) ∧ n + 1 < scanBound ∧
          Nx (upd H4 D (SetO w D (fun j => S j || decide (j = k)) (if S k = true then n else n + 1))) else Nx H3)
theorem addInt {pins : List (Addr × Obj)} {σ : L2.St} {H : Hp} {s : Shared} {E : Value → Shared → Prop} {D : Addr} {S : Int → Bool} {n : Nat} {k : Int} {tk : Tok} {Q : Value → Shared → Prop}
    (I : Inv X pins σ H s) (at_ : H D = some (SetO X.w D S n)) (room : n + 1 < scanBound)
    (next : ∀ s', Inv X pins σ (upd H D (SetO X.w D (fun j => S j || decide (j = k)) (if S k = true then n else n + 1))) s' → Q .none s') :
    wpAny (model X.prog X.w) X.A (call (.builtin "set.add") [.ref D, .int k tk]) Q E s := by
  refine setR_add (setO_get I at_) room fun h' sb R => next _ ?_
  have there : ∃ u, h'.get? D = some u := by
    obtain ⟨o, _, _, _, e, _⟩ := id R
    exact ⟨o, e⟩
  exact I.write (e := D) (t' := s.toks + 1) (by rw [at_]; trivial) (.inl rfl) (fun b u hb hu => (sb.2 b hb).trans hu) there (setO_new R)
abbrev inner (X : Cx) (s : Shared) (scope : Scope) : Env :=
  compEnvC scope (cellsFrom (s.heap.objs.size + 1) scope.names (cloFrom X.env.cells scope.names [])) s.heap.objs.size X.env
theorem setComp {pins : List (Addr × Obj)} {s : Shared} {σ : L2.St} {H : Hp} {Q : VK} {elt tg iter : Expr} {ifs : List Expr} {scope : Scope} {own : List (PySem.Str × Nat)} {pos pos' : Pos} {wi : TI} {g : TG} {tt : TT} {te : TE}
    {use : Option (Value → Sem Unit)} {Qf : Value → Shared → Prop}
    (quiet : X.calm = true) (nd : X.N.Nodup) (I : Inv X pins σ H s) (ii : PI X tg iter wi) (blk : BlkOk X.N X.env.scope scope own)
    (gg : ∀ s H C cl fp, PG (X.blk s H scope (compEnvC scope cl C X.env) fp) tg g)
    (tts : ∀ s H C cl fp, PTs (X.blk s H scope (compEnvC scope cl C X.env) fp) ifs tt)
    (ee : ∀ s H C cl fp, PE (X.blk s H scope (compEnvC scope cl C X.env) fp) elt te)
    (fold : ∀ x, foldedSetIterable iter X.env x = pure x) (h : tSci X.w wi g tt te (own.map (·.2)) σ H Q)
    (fin : ∀ D C s' m H', Inv X pins σ H' s' → Q (.ref D) H' → s'.heap.Ns C m → FpOk X pins H' C →
      compPost (model X.prog X.w) X.A X.xe use Qf (.ref D) C (.ok .next) s') :
    wpAny (model X.prog X.w) X.A (comprehension (.SetComp elt [⟨tg, iter, ifs, 0⟩] scope pos) scope X.env pos' (newSet (.type "set")) false (eval iter X.env) use) Qf X.xe s := by
  have clo : ∀ y ∈ scope.names, y.2 = .free → ∃ c, X.env.cells.lookup y.1 = some c := fun y hy e =>
    (blk.free y hy e).elim (fun k => I.ok.has _ (.inl k)) fun k => I.ok.has _ (.inr k)
  refine wpAny_comprehension_free (use := use) rfl fold (closure_ok clo) blk.kind (fun y hy e => by rw [blk.uniq y hy, e])
    (thn (ii.run pins s σ H _ I h) fun xv s1 hx => thn hx fun itv s2 h2 => ?_)
  obtain ⟨it, fp, tn, J, H2, rfl, I2, T, t0, fp2, q⟩ := h2
  refine PpSet.newSet_ok (newEnv_comp ?_)
  generalize eD : s2.heap.objs.size = D
  obtain ⟨W, ⟨m0, w0⟩, turn⟩ := q D (I2.hok.fresh (Nat.le_of_eq eD))
  generalize e3 : ({ s2 with heap := s2.heap.push (freshSet X.w) } : Shared) = s3
  have heap3 : s3.heap = s2.heap.push (freshSet X.w) := by rw [← e3]
  have up3 : ∀ b o, s2.heap.get? b = some o → s3.heap.get? b = some o := fun b o e => by
    rw [heap3]
    exact Heap.get?_push_of_some _ e
  generalize eH : upd H2 D (SetO X.w D (fun _ => false) 0) = H3 at w0
  have I3 : Inv X pins σ H3 s3 := by
    rw [← eH, ← e3, ← eD]
    exact I2.laid (t' := s2.toks) (fun b o e => Heap.get?_push_of_some _ e) (Nat.le_refl _) (setO_new (setR_fresh X.w))
  have fp3 : ∀ b ∈ fp, FpOk X pins H3 b ∧ b < s3.heap.objs.size := fun b hb => by
    obtain ⟨o, e, _⟩ := T.obj _ _ t0 b hb
    have lt := Heap.lt_size e
    refine ⟨⟨?_, (fp2 b hb).2⟩, ?_⟩
    · rw [← eH, upd_ne (show b ≠ D by rw [← eD]; exact Nat.ne_of_lt lt)]
      exact (fp2 b hb).1
    · rw [heap3, Heap.size_push]
      exact Nat.lt_succ_of_lt lt
  have t3 : tn 0 s3.heap := T.keep _ _ _ t0 fun b _ o e => up3 b o e
  have I4 := block_start I3 blk nd fp3
  have g4 := gg s3 H3 s3.heap.objs.size (cellsFrom (s3.heap.objs.size + 1) scope.names (cloFrom X.env.cells scope.names [])) fp
  have t4 := tts s3 H3 s3.heap.objs.size (cellsFrom (s3.heap.objs.size + 1) scope.names (cloFrom X.env.cells scope.names [])) fp
  have e4 := ee s3 H3 s3.heap.objs.size (cellsFrom (s3.heap.objs.size + 1) scope.names (cloFrom X.env.cells scope.names [])) fp
  show codeAny _ _ (.compStart (.SetComp elt [⟨tg, iter, ifs, 0⟩] scope pos) 0 (.ref it) (.ref D)
      (compEnvC scope (cellsFrom (s3.heap.objs.size + 1) scope.names (cloFrom X.env.cells scope.names [])) s3.heap.objs.size X.env))
    (compPost (model X.prog X.w) X.A X.xe use Qf (.ref D) s3.heap.objs.size) { s3 with heap := pushCells (s3.heap.push { cls := .type "dict", data := .dict #[] }) scope.names }
  generalize eC : compEnvC scope (cellsFrom (s3.heap.objs.size + 1) scope.names (cloFrom X.env.cells scope.names [])) s3.heap.objs.size X.env = ce at I4 g4 t4 e4 ⊢
  have locs : ce.locals = s3.heap.objs.size := by
    subst eC
    rfl
  generalize eS : ({ s3 with heap := pushCells (s3.heap.push { cls := .type "dict", data := .dict #[] }) scope.names } : Shared) = s4 at I4 ⊢
  have ts4 : tn 0 s4.heap := T.keep _ _ _ t3 fun b _ o e => by
    rw [← eS]
    exact pushCells_keeps _ _ _ _ (Heap.get?_push_of_some _ e)
  have held : ∀ {σ' : L2.St} {H' : Hp} {s' : Shared}, Inv (X.blk s3 H3 scope ce fp) [] σ' H' s' → (∀ b ∈ fp, H' b = none) →
      ∀ b ∈ fp, FpOk (X.blk s3 H3 scope ce fp) [] H' b := fun {σ' H' s'} I' hn b hb =>
    have x := I'.ok.exf b hb
    ⟨hn b hb, x.1, I'.ok.exfs b hb, .inl hb, fun y c e => x.2 y c e, fun p hp => by cases hp⟩
  have body : codeAny (model X.prog X.w) X.A (.compLoop (.SetComp elt [⟨tg, iter, ifs, 0⟩] scope pos) 0 (.ref it) (.ref D) ce)
      (compPost (model X.prog X.w) X.A X.xe use Qf (.ref D) s3.heap.objs.size) s4 := by
    refine PpSet.compLoopS_any (fun n t => ∃ i G, Inv (X.blk s3 H3 scope ce fp) [] (wipe σ (own.map (·.2))) G t ∧ tn i t.heap ∧ (∀ b ∈ fp, G b = none) ∧ W i n G)
      ?_ m0 ⟨0, H3, I4, ts4, fun b hb => (fp3 b hb).1.1, w0⟩
    rintro n s5 ⟨i, H5, I5, t5, free5, w5⟩
    rcases turn i n H5 w5 with ⟨stop, qq⟩ | ⟨go, Nx, dec, step⟩
    · refine thnF (T.done (X.blk s3 H3 scope ce fp) rfl rfl rfl quiet i [] s5 _ H5 (fun _ _ => False) I5 (held I5 free5) t5 stop) fun r s6 ⟨hr, I6⟩ => ?_
      subst hr
      have free6 : H5 ce.locals = none := I6.free
      obtain ⟨m, ns6, _⟩ := I6.loc
      have ns6' : s6.heap.Ns ce.locals m := ns6
      rw [locs] at free6 ns6'
      have I7 : Inv X pins σ H5 s6 := I3.call' (ch := fp) I6.os I6.base I6.hok I6.bare fun b hb =>
        have z := (fp3 b hb).1
        ⟨z.2.2.2.1, z.2.1, z.2.2.2.2.1, z.2.2.2.2.2⟩
      exact fin D s3.heap.objs.size s6 m H5 I7 qq ns6' (I3.fpOk (Nat.le_refl _) free6)
    · refine thnF (T.item (X.blk s3 H3 scope ce fp) rfl rfl rfl quiet i [] s5 _ H5 (fun _ _ => False) I5 (held I5 free5) t5 go) fun r s6 ⟨u, hr, h6⟩ => ?_
      subst hr
      refine thnF h6 fun _ s7 ⟨x, H7, I7, rx, y7, t7, free7⟩ => ?_
      refine thnF (g4.run _ s7 _ H7 x u _ (I7.pinned (held I7 free7) (T.obj _ _ t7)) rx (step x H7 y7)) fun _ s8 ⟨σ8, H8, I8, wi8, q8⟩ => ?_
      refine thnF (t4.run _ s8 σ8 H8 _ I8 q8) fun b s9 ⟨H9, I9, q9⟩ => ?_
      have over : ∀ {t : Shared} {G : Hp}, Inv (X.blk s3 H3 scope ce fp) ([] ++ pinsAt fp s7.heap) σ8 G t → Nx G →
          ∃ m, m < n ∧ ∃ i G, Inv (X.blk s3 H3 scope ce fp) [] (wipe σ (own.map (·.2))) G t ∧ tn i t.heap ∧ (∀ b ∈ fp, G b = none) ∧ W i m G := fun {t G} It nx => by
        obtain ⟨m', lt, w'⟩ := dec G nx
        have same : ∀ b ∈ fp, ∀ o, s7.heap.get? b = some o → t.heap.get? b = some o ∧ G b = none := fun b hb o e =>
          have z := It.pin (b, o) (List.mem_append_right _ (List.mem_append_right _ (mem_pinsAt hb e)))
          ⟨z.1, z.2.1⟩
        refine ⟨m', lt, i + 1, G, (It.unpinned (pins := [])).weak (by rw [← wi8, wipe_length]) (fun j v e => ?_), T.keep _ _ _ t7 fun b hb o e => (same b hb o e).1, fun b hb => ?_, w'⟩
        · rw [← wi8] at e
          exact (wipe_some e).1
        · obtain ⟨o, e, _⟩ := T.obj _ _ t7 b hb
          exact (same b hb o e).2
      cases b
      · simp only [Bool.false_eq_true, if_false] at q9 ⊢
        exact over I9 q9
      · simp only [if_true] at q9 ⊢
        refine thnF (e4.run _ s9 σ8 H9 _ I9 q9) fun z s10 ⟨yv, H10, I10, rz, k, S0, n0, ey, hD, room, nx⟩ => ?_
        subst ey
        obtain ⟨tk, rfl⟩ : ∃ tk, z = Value.int k tk := rz
        exact addInt (X := X.blk s3 H3 scope ce fp) I10 hD room fun s11 I11 => over I11 nx
  exact PpSet.codeAny_compStart_set body (T.self X.A 0 _ _ _ ts4 body)
/-- {e for target in iter if test}, e an int -/
theorem pe_sci {elt tg iter : Expr} {ifs : List Expr} {scope : Scope} {own : List (PySem.Str × Nat)} {pos : Pos} {wi : TI} {g : TG} {tt : TT} {te : TE} (quiet : X.calm = true) (nd : X.N.Nodup) (ii : PI X tg iter wi) (blk : BlkOk X.N X.env.scope scope own)
    (gg : ∀ (s : Shared) (H : Hp) (C : Addr) (cl : List (PySem.Str × Addr)) (fp : List Addr), PG (X.blk s H scope (compEnvC scope cl C X.env) fp) tg g)
    (tts : ∀ (s : Shared) (H : Hp) (C : Addr) (cl : List (PySem.Str × Addr)) (fp : List Addr), PTs (X.blk s H scope (compEnvC scope cl C X.env) fp) ifs tt)
    (ee : ∀ (s : Shared) (H : Hp) (C : Addr) (cl : List (PySem.Str × Addr)) (fp : List Addr), PE (X.blk s H scope (compEnvC scope cl C X.env) fp) elt te)
    (fold : ∀ x, foldedSetIterable iter X.env x = pure x := by intro _; rfl) :
    PE X (.SetComp elt [⟨tg, iter, ifs, 0⟩] scope pos) (tSci X.w wi g tt te (own.map (·.2))) := by
  constructor
  intro pins s σ H Q I h
  rw [PpSet.eval_SetComp]
  refine setComp quiet nd I ii blk gg tts ee fold h fun D C s' m H' I' q hn f => ⟨m, hn, fun h'' sb => ⟨.ref D, H', ?_, rfl, q⟩⟩
  exact I'.turned (t' := s'.toks) (fun b o hb e => (sb.2 b hb).trans e) f.1 f.2.1 f.2.2.2.1 f.2.2.2.2.1 f.2.2.2.2.2
end
/-- over any walk: Pv by the turn and the heap -/
theorem sci_it {J : It} {n : Nat} {G : Hp → Prop} {Y : Nat → Hp → V → Hp → Prop} (w : Walk J n G Y) {wd : World} {g : TG} {tt : TT} {te : TE} {vs : List Nat} {σ : L2.St} {H1 : Hp} {D : Addr} {Qd : Hp → Prop} (Pv : Nat → Hp → Prop)
    (h0 : Pv 0 (upd H1 D (SetO wd D (fun _ => false) 0))) (hG : ∀ i H, i ≤ n → Pv i H → G H)
    (hs : ∀ i x H H', i < n → Pv i H → Y i H x H' → g x (wipe σ vs) H' fun σ2 H2 => wipe σ2 vs = wipe σ vs ∧ tt σ2 H2 fun b H3 =>
      if b = true then te σ2 H3 fun y H4 => ∃ (k : Int) (S : Int → Bool) (m : Nat), y = .int k ∧ H4 D = some (SetO wd D S m) ∧ m + 1 < scanBound ∧
        Pv (i + 1) (upd H4 D (SetO wd D (fun j => S j || decide (j = k)) (if S k = true then m else m + 1))) else Pv (i + 1) H3) (hd : ∀ H, Pv n H → Qd H) :
    ∃ W : Nat → Nat → Hp → Prop, (∃ m, W 0 m (upd H1 D (SetO wd D (fun _ => false) 0))) ∧ ∀ i m H, W i m H →
      (J.stop i H ∧ Qd H) ∨ (J.go i H ∧ ∃ Nx : Hp → Prop, (∀ H', Nx H' → ∃ m', m' < m ∧ W (i + 1) m' H') ∧ ∀ x H', J.yld i H x H' → g x (wipe σ vs) H' fun σ2 H2 => wipe σ2 vs = wipe σ vs ∧ tt σ2 H2 fun b H3 =>
        if b = true then te σ2 H3 fun y H4 => ∃ (k : Int) (S : Int → Bool) (m : Nat), y = .int k ∧ H4 D = some (SetO wd D S m) ∧ m + 1 < scanBound ∧
          Nx (upd H4 D (SetO wd D (fun j => S j || decide (j = k)) (if S k = true then m else m + 1))) else Nx H3) := by
  refine ⟨fun i m H => m + i = n ∧ Pv i H, ⟨n, rfl, h0⟩, fun i m H hW => ?_⟩
  obtain ⟨e, p⟩ := hW
  have q := hG i H (by omega) p
  cases m with
  | zero =>
    have e2 : i = n := by omega
    subst e2
    exact .inl ⟨w.stops H q, hd H p⟩
  | succ m =>
    have lt : i < n := by omega
    exact .inr ⟨w.goes i H lt q, Pv (i + 1), fun H' p' => ⟨m, Nat.lt_succ_self m, by omega, p'⟩, fun x H' y => hs i x H H' lt p (w.yields i H x H' lt q y)⟩
end Fw

/-! Statements as trees, and what the passes over their parts find. Plain Lean. -/
namespace Fw
inductive Leaf | has | lacks | var
  deriving DecidableEq
inductive One | some | all | least | most
  deriving DecidableEq
def One.bind : One → Bool
  | .least => true
  | .most => true
  | _ => false
inductive F
  | nul (b : Bool)
  | leaf (k : Leaf) (n : Int)
  | two (b : Bool) (f g : F)
  | one (k : One) (n : Int) (f : F)
  deriving DecidableEq
inductive Hd
  | nul (b : Bool)
  | leaf (k : Leaf) (n : Int)
  | two (b : Bool)
  | one (k : One) (n : Int)
  deriving DecidableEq
def F.hd : F → Hd
  | .nul b => .nul b
  | .leaf k n => .leaf k n
  | .two b _ _ => .two b
  | .one k n _ => .one k n
def F.size : F → Nat
  | .nul _ => 1
  | .leaf _ _ => 1
  | .two _ f g => f.size + g.size + 1
  | .one _ _ f => f.size + 1
def F.depth : F → Nat
  | .nul _ => 1
  | .leaf _ _ => 1
  | .two _ f g => max f.depth g.depth + 1
  | .one _ _ f => f.depth + 1
theorem F.size_pos (t : F) : 0 < t.size := by cases t <;> simp [F.size]
theorem F.size_depth : ∀ t : F, t.size + 1 ≤ 2 ^ t.depth
  | .nul _ => by simp [F.size, F.depth]
  | .leaf _ _ => by simp [F.size, F.depth]
  | .two _ f g => by
    have h1 := F.size_depth f
    have h2 := F.size_depth g
    have m1 : 2 ^ f.depth ≤ 2 ^ max f.depth g.depth := Nat.pow_le_pow_right (by decide) (Nat.le_max_left _ _)
    have m2 : 2 ^ g.depth ≤ 2 ^ max f.depth g.depth := Nat.pow_le_pow_right (by decide) (Nat.le_max_right _ _)
    simp only [F.size, F.depth, Nat.pow_succ]
    omega
  | .one _ _ f => by
    have h1 := F.size_depth f
    have h2 := F.size_pos f
    simp only [F.size, F.depth, Nat.pow_succ]
    omega
abbrev Stk := List (Int × Nat)
structure Rec where
  sub : F
  aro : Int
  stk : Stk
def pushS : F → Nat → Stk → Stk
  | .one k n _, i, st => if k.bind then (n, i) :: st else st
  | _, _, st => st
def info : F → Int → Nat → Stk → List Rec
  | .nul b, a, _, st => [⟨.nul b, a, st⟩]
  | .leaf k n, a, _, st => [⟨.leaf k n, a, st⟩]
  | .two b f g, a, i, st => ⟨.two b f g, a, st⟩ :: (info f i (i + 1) st ++ info g i (i + 1 + f.size) st)
  | .one k n f, a, i, st => ⟨.one k n f, a, st⟩ :: info f i (i + 1) (if k.bind then (n, i) :: st else st)
theorem info_len : ∀ (t : F) (a : Int) (i : Nat) (st : Stk), (info t a i st).length = t.size
  | .nul _, _, _, _ => rfl
  | .leaf _ _, _, _, _ => rfl
  | .two _ f g, a, i, st => by simp [info, F.size, info_len f, info_len g]
  | .one k n f, a, i, st => by simp [info, F.size, info_len f]
theorem info_head : ∀ (t : F) (a : Int) (i : Nat) (st : Stk), (info t a i st)[0]? = some ⟨t, a, st⟩
  | .nul _, _, _, _ => rfl
  | .leaf _ _, _, _, _ => rfl
  | .two _ _ _, _, _, _ => rfl
  | .one _ _ _, _, _, _ => rfl
/-! ### a part's record and the one around it -/
theorem info_up : ∀ (t : F) (a : Int) (i : Nat) (st : Stk) (j : Nat) (r : Rec), (info t a i st)[j]? = some r →
    (j = 0 ∧ r = ⟨t, a, st⟩) ∨ ∃ p r', p < j ∧ (info t a i st)[p]? = some r' ∧ r.aro = ((i + p : Nat) : Int) ∧ r.stk = pushS r'.sub (i + p) r'.stk
  | .nul b, a, i, st, j, r, h => by
    cases j with
    | zero => exact .inl ⟨rfl, (Option.some.inj h).symm⟩
    | succ j => simp [info] at h
  | .leaf k n, a, i, st, j, r, h => by
    cases j with
    | zero => exact .inl ⟨rfl, (Option.some.inj h).symm⟩
    | succ j => simp [info] at h
  | .two b f g, a, i, st, j, r, h => by
    cases j with
    | zero => exact .inl ⟨rfl, (Option.some.inj h).symm⟩
    | succ j =>
      simp only [info, List.getElem?_cons_succ] at h
      by_cases lt : j < f.size
      · rw [List.getElem?_append_left (by rw [info_len]; exact lt)] at h
        rcases info_up f i (i + 1) st j r h with ⟨rfl, rfl⟩ | ⟨p, r', hp, e, e1, e2⟩
        · exact .inr ⟨0, ⟨.two b f g, a, st⟩, Nat.succ_pos _, rfl, by simp, rfl⟩
        · refine .inr ⟨p + 1, r', by omega, ?_, by rw [e1]; congr 1; omega, by rw [e2]; congr 1; omega⟩
          simp only [info, List.getElem?_cons_succ]
          rw [List.getElem?_append_left (by rw [info_len]; omega)]
          exact e
      · rw [List.getElem?_append_right (by rw [info_len]; omega), info_len] at h
        rcases info_up g i (i + 1 + f.size) st (j - f.size) r h with ⟨e0, rfl⟩ | ⟨p, r', hp, e, e1, e2⟩
        · exact .inr ⟨0, ⟨.two b f g, a, st⟩, Nat.succ_pos _, rfl, by simp, rfl⟩
        · refine .inr ⟨p + f.size + 1, r', by omega, ?_, by rw [e1]; congr 1; omega, by rw [e2]; congr 1; omega⟩
          simp only [info, List.getElem?_cons_succ]
          rw [List.getElem?_append_right (by rw [info_len]; omega), info_len, show p + f.size - f.size = p by omega]
          exact e
  | .one k n f, a, i, st, j, r, h => by
    cases j with
    | zero => exact .inl ⟨rfl, (Option.some.inj h).symm⟩
    | succ j =>
      simp only [info, List.getElem?_cons_succ] at h
      rcases info_up f i (i + 1) _ j r h with ⟨rfl, rfl⟩ | ⟨p, r', hp, e, e1, e2⟩
      · exact .inr ⟨0, ⟨.one k n f, a, st⟩, Nat.succ_pos _, rfl, by simp, rfl⟩
      · refine .inr ⟨p + 1, r', by omega, ?_, by rw [e1]; congr 1; omega, by rw [e2]; congr 1; omega⟩
        simp only [info, List.getElem?_cons_succ]
        exact e
/-- the whole, seen from its root -/
abbrev infos (t : F) : List Rec := info t (-1) 0 []
theorem infos_stk {t : F} : ∀ (m j : Nat) (r : Rec) (x : Int) (q : Nat) (rest : Stk), j ≤ m → (infos t)[j]? = some r → r.stk = (x, q) :: rest →
    q < j ∧ ∃ k f a, (infos t)[q]? = some ⟨.one k x f, a, rest⟩ ∧ k.bind = true := by
  intro m
  induction m with
  | zero =>
    intro j r x q rest hj h e
    have : j = 0 := by omega
    subst this
    rw [info_head] at h
    cases h
    cases e
  | succ m ih =>
    intro j r x q rest hj h e
    rcases info_up t (-1) 0 [] j r h with ⟨rfl, rfl⟩ | ⟨p, r', hp, e1, _, e2⟩
    · cases e
    · rw [Nat.zero_add] at e2
      obtain ⟨s, a', st'⟩ := r'
      have old : r.stk = st' → q < j ∧ ∃ k f a, (infos t)[q]? = some ⟨.one k x f, a, rest⟩ ∧ k.bind = true := fun e3 => by
        have z := ih p ⟨s, a', st'⟩ x q rest (by omega) e1 (by rw [← e3]; exact e)
        exact ⟨by omega, z.2⟩
      cases s with
      | nul b => exact old e2
      | leaf k n => exact old e2
      | two b f g => exact old e2
      | one k n f =>
        simp only [pushS] at e2
        by_cases hb : k.bind = true
        · rw [if_pos hb, e] at e2
          injection e2 with e3 e4
          injection e3 with e5 e6
          subst e5
          subst e6
          subst e4
          exact ⟨hp, k, f, a', e1, hb⟩
        · rw [if_neg hb] at e2
          exact old e2
/-! ### the parts directly in a part -/
def kidsFrom : List Int → Nat → Nat → List Nat
  | [], _, _ => []
  | a :: r, j, i => if a = (i : Int) then j :: kidsFrom r (j + 1) i else kidsFrom r (j + 1) i
theorem kids_app : ∀ (A B : List Int) (j i : Nat), kidsFrom (A ++ B) j i = kidsFrom A j i ++ kidsFrom B (j + A.length) i
  | [], _, _, _ => by simp [kidsFrom]
  | a :: A, B, j, i => by
    simp only [List.cons_append, kidsFrom, List.length_cons]
    rw [kids_app A B (j + 1) i, show j + 1 + A.length = j + (A.length + 1) by omega]
    split <;> simp
theorem kids_none : ∀ (A : List Int) (j i : Nat), (∀ a ∈ A, a ≠ (i : Int)) → kidsFrom A j i = []
  | [], _, _, _ => rfl
  | a :: A, j, i, h => by
    simp only [kidsFrom]
    rw [if_neg (h a List.mem_cons_self)]
    exact kids_none A _ _ fun b hb => h b (List.mem_cons_of_mem _ hb)
def arounds (I : List Rec) : List Int := I.map Rec.aro
theorem aro_range : ∀ (t : F) (a : Int) (i : Nat) (st : Stk) (x : Int), x ∈ arounds (info t a i st) → x = a ∨ ((i : Int) ≤ x ∧ x < ((i + t.size : Nat) : Int))
  | .nul _, a, i, st, x, h => by
    simp [arounds, info] at h
    exact .inl h
  | .leaf _ _, a, i, st, x, h => by
    simp [arounds, info] at h
    exact .inl h
  | .two b f g, a, i, st, x, h => by
    simp only [arounds, info, List.map_cons, List.map_append, List.mem_cons, List.mem_append] at h
    rcases h with h | h | h
    · exact .inl h
    · have := aro_range f i (i + 1) st x h
      simp only [F.size]
      omega
    · have := aro_range g i (i + 1 + f.size) st x h
      simp only [F.size]
      omega
  | .one k n f, a, i, st, x, h => by
    simp only [arounds, info, List.map_cons, List.mem_cons] at h
    rcases h with h | h
    · exact .inl h
    · have := aro_range f i (i + 1) _ x h
      simp only [F.size]
      omega
/-- where a part's own parts stand among all -/
def Sits (I : List Rec) (i j : Nat) (r : Rec) : Prop :=
  ∃ A B, I = A ++ info r.sub r.aro (i + j) r.stk ++ B ∧ A.length = j ∧ (∀ x ∈ arounds A, x ≠ ((i + j : Nat) : Int)) ∧ (∀ x ∈ arounds B, x < ((i + j : Nat) : Int) ∨ ((i + j + r.sub.size : Nat) : Int) ≤ x) ∧ r.aro < ((i + j : Nat) : Int) ∧
    (∀ x ∈ arounds A, x < ((i + j : Nat) : Int))
theorem info_sits : ∀ (t : F) (a : Int) (i : Nat) (st : Stk) (j : Nat) (r : Rec), a < (i : Int) → (info t a i st)[j]? = some r → Sits (info t a i st) i j r := by
  have zero : ∀ (t : F) (a : Int) (i : Nat) (st : Stk) (r : Rec), a < (i : Int) → (info t a i st)[0]? = some r → Sits (info t a i st) i 0 r := by
    intro t a i st r ha h
    rw [info_head] at h
    cases h
    exact ⟨[], [], by simp, rfl, by simp [arounds], by simp [arounds], by simpa using ha, by simp [arounds]⟩
  intro t
  induction t with
  | nul b =>
    intro a i st j r ha h
    cases j with
    | zero => exact zero _ _ _ _ _ ha h
    | succ j => simp [info] at h
  | leaf k n =>
    intro a i st j r ha h
    cases j with
    | zero => exact zero _ _ _ _ _ ha h
    | succ j => simp [info] at h
  | two b f g ihf ihg =>
    intro a i st j r ha h
    cases j with
    | zero => exact zero _ _ _ _ _ ha h
    | succ j =>
      simp only [info, List.getElem?_cons_succ] at h
      by_cases lt : j < f.size
      · rw [List.getElem?_append_left (by rw [info_len]; exact lt)] at h
        obtain ⟨A, B, e, eA, hA, hB, hr, hA2⟩ := ihf i (i + 1) st j r (by omega) h
        have ee : i + 1 + j = i + (j + 1) := by omega
        rw [ee] at e hA hB hr hA2
        have szr : r.sub.size + j ≤ f.size := by
          have z := congrArg List.length e
          simp only [info_len, List.length_append, eA] at z
          omega
        refine ⟨⟨.two b f g, a, st⟩ :: A, B ++ info g i (i + 1 + f.size) st, by simp [info, e], by simp [eA], ?_, ?_, hr, ?_⟩
        · intro x hx
          simp only [arounds, List.map_cons, List.mem_cons] at hx
          rcases hx with rfl | hx
          · omega
          · exact hA x hx
        · intro x hx
          simp only [arounds, List.map_append, List.mem_append] at hx
          rcases hx with hx | hx
          · exact hB x hx
          · have := aro_range g i (i + 1 + f.size) st x hx
            omega
        · intro x hx
          simp only [arounds, List.map_cons, List.mem_cons] at hx
          rcases hx with rfl | hx
          · omega
          · exact hA2 x hx
      · rw [List.getElem?_append_right (by rw [info_len]; omega), info_len] at h
        obtain ⟨A, B, e, eA, hA, hB, hr, hA2⟩ := ihg i (i + 1 + f.size) st (j - f.size) r (by omega) h
        have ee : i + 1 + f.size + (j - f.size) = i + (j + 1) := by omega
        rw [ee] at e hA hB hr hA2
        refine ⟨⟨.two b f g, a, st⟩ :: (info f i (i + 1) st ++ A), B, by simp [info, e], by simp [eA, info_len]; omega, ?_, hB, hr, ?_⟩
        · intro x hx
          simp only [arounds, List.map_cons, List.map_append, List.mem_cons, List.mem_append] at hx
          rcases hx with rfl | hx | hx
          · omega
          · have := aro_range f i (i + 1) st x hx
            omega
          · exact hA x hx
        · intro x hx
          simp only [arounds, List.map_cons, List.map_append, List.mem_cons, List.mem_append] at hx
          rcases hx with rfl | hx | hx
          · omega
          · have := aro_range f i (i + 1) st x hx
            omega
          · exact hA2 x hx
  | one k n f ih =>
    intro a i st j r ha h
    cases j with
    | zero => exact zero _ _ _ _ _ ha h
    | succ j =>
      simp only [info, List.getElem?_cons_succ] at h
      obtain ⟨A, B, e, eA, hA, hB, hr, hA2⟩ := ih i (i + 1) _ j r (by omega) h
      have ee : i + 1 + j = i + (j + 1) := by omega
      rw [ee] at e hA hB hr hA2
      refine ⟨⟨.one k n f, a, st⟩ :: A, B, by simp [info, e], by simp [eA], ?_, hB, hr, ?_⟩
      · intro x hx
        simp only [arounds, List.map_cons, List.mem_cons] at hx
        rcases hx with rfl | hx
        · omega
        · exact hA x hx
      · intro x hx
        simp only [arounds, List.map_cons, List.mem_cons] at hx
        rcases hx with rfl | hx
        · omega
        · exact hA2 x hx
/-- the places of the parts directly in one -/
def inPlaces : F → Nat → List Nat
  | .two _ f _, i => [i + 1, i + 1 + f.size]
  | .one _ _ _, i => [i + 1]
  | _, _ => []
theorem kids_own : ∀ (t : F) (a : Int) (i : Nat) (st : Stk), a < (i : Int) → kidsFrom (arounds (info t a i st)) i i = inPlaces t i
  | .nul _, a, i, st, ha => by
    simp only [arounds, info, List.map_cons, List.map_nil, kidsFrom, inPlaces]
    rw [if_neg (by omega)]
  | .leaf _ _, a, i, st, ha => by
    simp only [arounds, info, List.map_cons, List.map_nil, kidsFrom, inPlaces]
    rw [if_neg (by omega)]
  | .two b f g, a, i, st, ha => by
    have rest : ∀ (u : F) (j : Nat) (st : Stk), i < j → kidsFrom (arounds (info u i j st)) j i = [j] := by
      intro u j st hj
      have tail : ∀ (I : List Rec), (∀ x ∈ arounds I, (j : Int) ≤ x) → kidsFrom (arounds I) (j + 1) i = [] := fun I hI =>
        kids_none _ _ _ fun x hx => by have := hI x hx; omega
      cases u with
      | nul b => simp [arounds, info, kidsFrom]
      | leaf k n => simp [arounds, info, kidsFrom]
      | two b f g =>
        simp only [arounds, info, List.map_cons, kidsFrom, if_true]
        have := tail (info f j (j + 1) st ++ info g j (j + 1 + f.size) st) (fun x hx => by
          simp only [arounds, List.map_append, List.mem_append] at hx
          rcases hx with hx | hx
          · have := aro_range f j (j + 1) st x hx
            omega
          · have := aro_range g j (j + 1 + f.size) st x hx
            omega)
        rw [arounds] at this
        rw [this]
      | one k n f =>
        simp only [arounds, info, List.map_cons, kidsFrom, if_true]
        have := tail (info f j (j + 1) (if k.bind then (n, j) :: st else st)) (fun x hx => by
          have := aro_range f j (j + 1) _ x hx
          omega)
        rw [arounds] at this
        rw [this]
    have h1 := rest f (i + 1) st (by omega)
    have h2 := rest g (i + 1 + f.size) st (by omega)
    simp only [arounds] at h1 h2
    simp only [arounds, info, List.map_cons, List.map_append, kidsFrom, inPlaces]
    rw [if_neg (by omega), kids_app, h1, List.length_map, info_len, h2]
    rfl
  | .one k n f, a, i, st, ha => by
    have rest : ∀ (u : F) (j : Nat) (st : Stk), i < j → kidsFrom (arounds (info u i j st)) j i = [j] := by
      intro u j st hj
      have tail : ∀ (I : List Rec), (∀ x ∈ arounds I, (j : Int) ≤ x) → kidsFrom (arounds I) (j + 1) i = [] := fun I hI =>
        kids_none _ _ _ fun x hx => by have := hI x hx; omega
      cases u with
      | nul b => simp [arounds, info, kidsFrom]
      | leaf k n => simp [arounds, info, kidsFrom]
      | two b f g =>
        simp only [arounds, info, List.map_cons, kidsFrom, if_true]
        have := tail (info f j (j + 1) st ++ info g j (j + 1 + f.size) st) (fun x hx => by
          simp only [arounds, List.map_append, List.mem_append] at hx
          rcases hx with hx | hx
          · have := aro_range f j (j + 1) st x hx
            omega
          · have := aro_range g j (j + 1 + f.size) st x hx
            omega)
        rw [arounds] at this
        rw [this]
      | one k n f =>
        simp only [arounds, info, List.map_cons, kidsFrom, if_true]
        have := tail (info f j (j + 1) (if k.bind then (n, j) :: st else st)) (fun x hx => by
          have := aro_range f j (j + 1) _ x hx
          omega)
        rw [arounds] at this
        rw [this]
    have h1 := rest f (i + 1) (if k.bind then (n, i) :: st else st) (by omega)
    simp only [arounds] at h1
    simp only [arounds, info, List.map_cons, kidsFrom, inPlaces]
    rw [if_neg (by omega), h1]
theorem kids_at {t : F} {j : Nat} {r : Rec} (h : (infos t)[j]? = some r) : kidsFrom (arounds (infos t)) 0 j = inPlaces r.sub j := by
  obtain ⟨A, B, e, eA, hA, hB, hr, _⟩ := info_sits t (-1) 0 [] j r (by omega) h
  rw [Nat.zero_add] at e hA hB hr
  have ea : arounds (infos t) = arounds A ++ arounds (info r.sub r.aro j r.stk) ++ arounds B := by
    rw [show infos t = _ from e]
    simp [arounds]
  have lA : (arounds A).length = j := by simp [arounds, eA]
  rw [ea, kids_app, kids_app, kids_none _ _ _ hA, Nat.zero_add, lA, kids_own _ _ _ _ hr, kids_none (arounds B)]
  · simp
  · intro x hx
    have := hB x hx
    have := F.size_pos r.sub
    omega
/-- the parts of a part are among all, at their places -/
theorem sub_at {t : F} {j : Nat} {r : Rec} (h : (infos t)[j]? = some r) : ∀ (k : Nat) (q : Rec), (info r.sub r.aro j r.stk)[k]? = some q → (infos t)[j + k]? = some q := by
  intro k q hq
  obtain ⟨A, B, e, eA, _⟩ := info_sits t (-1) 0 [] j r (by omega) h
  rw [Nat.zero_add] at e
  have lt := (List.getElem?_eq_some_iff.mp hq).1
  rw [show infos t = _ from e, List.append_assoc, List.getElem?_append_right (by omega), eA, show j + k - j = k by omega, List.getElem?_append_left lt]
  exact hq

/-! ### the binder around, and the one of a variable -/
def topPos : Stk → Int
  | [] => -1
  | (_, p) :: _ => (p : Int)
def posOf (x : Int) : Stk → Int
  | [] => -1
  | (y, p) :: r => if y = x then (p : Int) else posOf x r
def isB : F → Bool
  | .one k _ _ => k.bind
  | _ => false
theorem pushS_top (s : F) (p : Nat) (st : Stk) : topPos (pushS s p st) = if isB s = true then (p : Int) else topPos st := by
  cases s with
  | one k n f => cases hk : k.bind <;> simp [pushS, isB, topPos, hk]
  | _ => rfl
theorem top_step {t : F} {j : Nat} {r : Rec} (h : (infos t)[j]? = some r) :
    (r.aro = -1 ∧ topPos r.stk = -1 ∧ j = 0) ∨ ∃ p r', p < j ∧ (infos t)[p]? = some r' ∧ r.aro = (p : Int) ∧ topPos r.stk = if isB r'.sub = true then (p : Int) else topPos r'.stk := by
  rcases info_up t (-1) 0 [] j r h with ⟨rfl, rfl⟩ | ⟨p, r', hp, e, e1, e2⟩
  · exact .inl ⟨rfl, rfl, rfl⟩
  · rw [Nat.zero_add] at e1 e2
    exact .inr ⟨p, r', hp, e, e1, by rw [e2, pushS_top]⟩
theorem posOf_ge (x : Int) : ∀ st : Stk, -1 ≤ posOf x st
  | [] => by simp [posOf]
  | (y, p) :: r => by
    simp only [posOf]
    split
    · omega
    · exact posOf_ge x r
theorem posOf_neg (x : Int) : ∀ st : Stk, posOf x st < 0 ↔ x ∉ st.map (·.1)
  | [] => by simp [posOf]
  | (y, p) :: r => by
    have ih := posOf_neg x r
    simp only [posOf, List.map_cons, List.mem_cons, not_or]
    split
    · rename_i e
      constructor
      · intro z
        omega
      · intro z
        exact absurd e.symm z.1
    · rename_i e
      rw [ih]
      constructor
      · exact fun z => ⟨fun q => e q.symm, z⟩
      · exact fun z => z.2
/-! ### free variables -/
def freeL : F → List Int → List Int
  | .nul _, _ => []
  | .leaf .var x, bound => if x ∈ bound then [] else [x]
  | .leaf _ _, _ => []
  | .two _ f g, bound => freeL f bound ++ freeL g bound
  | .one k x f, bound => if k.bind then freeL f (bound ++ [x]) else freeL f bound
theorem free_iff (x : Int) : ∀ (t : F) (bound : List Int) (a : Int) (i : Nat) (st : Stk), (∀ y, y ∈ bound ↔ y ∈ st.map (·.1)) →
    (x ∈ freeL t bound ↔ ∃ r ∈ info t a i st, r.sub = .leaf .var x ∧ x ∉ r.stk.map (·.1))
  | .nul b, bound, a, i, st, hb => by simp [freeL, info]
  | .leaf .has n, bound, a, i, st, hb => by simp [freeL, info]
  | .leaf .lacks n, bound, a, i, st, hb => by simp [freeL, info]
  | .leaf .var n, bound, a, i, st, hb => by
    simp only [freeL, info, List.mem_singleton]
    constructor
    · intro h
      split at h
      · cases h
      · rename_i hn
        rw [List.mem_singleton] at h
        subst h
        exact ⟨_, rfl, rfl, fun z => hn ((hb _).mpr z)⟩
    · rintro ⟨r, rfl, e, hn⟩
      injection e with _ e
      subst e
      rw [if_neg (fun z => hn ((hb _).mp z))]
      exact List.mem_singleton.mpr rfl
  | .two b f g, bound, a, i, st, hb => by
    simp only [freeL, info, List.mem_append, List.mem_cons]
    rw [free_iff x f bound i (i + 1) st hb, free_iff x g bound i (i + 1 + f.size) st hb]
    constructor
    · rintro (⟨r, h1, h2⟩ | ⟨r, h1, h2⟩)
      · exact ⟨r, .inr (.inl h1), h2⟩
      · exact ⟨r, .inr (.inr h1), h2⟩
    · rintro ⟨r, h1, h2, h3⟩
      rcases h1 with rfl | h1 | h1
      · cases h2
      · exact .inl ⟨r, h1, h2, h3⟩
      · exact .inr ⟨r, h1, h2, h3⟩
  | .one k n f, bound, a, i, st, hb => by
    simp only [freeL, info, List.mem_cons]
    have key : ∀ (bound' : List Int) (st' : Stk), (∀ y, y ∈ bound' ↔ y ∈ st'.map (·.1)) →
        (x ∈ freeL f bound' ↔ ∃ r, (r = ⟨.one k n f, a, st⟩ ∨ r ∈ info f i (i + 1) st') ∧ r.sub = .leaf .var x ∧ x ∉ r.stk.map (·.1)) := by
      intro bound' st' h'
      rw [free_iff x f bound' i (i + 1) st' h']
      constructor
      · rintro ⟨r, h1, h2⟩
        exact ⟨r, .inr h1, h2⟩
      · rintro ⟨r, h1, h2, h3⟩
        rcases h1 with rfl | h1
        · cases h2
        · exact ⟨r, h1, h2, h3⟩
    by_cases hk : k.bind = true
    · rw [if_pos hk, if_pos hk]
      refine key _ _ fun y => ?_
      simp only [List.mem_append, hb y, List.map_cons, List.mem_cons, List.not_mem_nil, or_false]
      exact Or.comm
    · rw [if_neg hk, if_neg hk]
      exact key _ _ hb
def Closed (t : F) : Prop := ∀ r ∈ infos t, ∀ x, r.sub = .leaf .var x → x ∈ r.stk.map (·.1)
theorem closed_iff {t : F} : freeL t [] = [] ↔ Closed t := by
  constructor
  · intro h r hr x e
    refine Classical.byContradiction fun hn => ?_
    have := (free_iff x t [] (-1) 0 [] (by simp)).mpr ⟨r, hr, e, hn⟩
    rw [h] at this
    cases this
  · intro h
    refine List.eq_nil_iff_forall_not_mem.mpr fun x hx => ?_
    obtain ⟨r, hr, e, hn⟩ := (free_iff x t [] (-1) 0 [] (by simp)).mp hx
    exact hn (h r hr x e)
/-! ### the same shape, the same places -/
def skel : F → F
  | .nul _ => .nul true
  | .leaf _ _ => .nul true
  | .two _ f g => .two true (skel f) (skel g)
  | .one _ _ f => .one .some 0 (skel f)
theorem skel_size : ∀ t : F, (skel t).size = t.size
  | .nul _ => rfl
  | .leaf _ _ => rfl
  | .two _ f g => by simp [skel, F.size, skel_size f, skel_size g]
  | .one _ _ f => by simp [skel, F.size, skel_size f]
theorem skel_depth : ∀ t : F, (skel t).depth = t.depth
  | .nul _ => rfl
  | .leaf _ _ => rfl
  | .two _ f g => by simp [skel, F.depth, skel_depth f, skel_depth g]
  | .one _ _ f => by simp [skel, F.depth, skel_depth f]
theorem skel_aro : ∀ (t : F) (a : Int) (i : Nat) (st : Stk), arounds (info t a i st) = arounds (info (skel t) a i [])
  | .nul _, _, _, _ => rfl
  | .leaf _ _, _, _, _ => rfl
  | .two _ f g, a, i, st => by
    have h1 := skel_aro f i (i + 1) st
    have h2 := skel_aro g i (i + 1 + f.size) st
    simp only [arounds] at h1 h2
    simp only [arounds, info, skel, List.map_cons, List.map_append, h1, h2, skel_size]
  | .one k n f, a, i, st => by
    have h1 := skel_aro f i (i + 1) (if k.bind then (n, i) :: st else st)
    simp only [arounds] at h1
    simp only [arounds, info, skel, List.map_cons]
    rw [h1]
    rfl
theorem same_aro {t u : F} (h : skel t = skel u) : arounds (infos t) = arounds (infos u) := by
  rw [skel_aro t, skel_aro u, h]
theorem same_size {t u : F} (h : skel t = skel u) : t.size = u.size := by rw [← skel_size t, h, skel_size]
/-! ### the tidy form -/
def tidyF : F → (Int → Int) → Int → F × Int
  | .nul b, _, n => (.nul b, n)
  | .leaf .var x, nm, n => (.leaf .var (nm x), n)
  | .leaf k x, _, n => (.leaf k x, n)
  | .two b f g, nm, n => (.two b (tidyF f nm n).1 (tidyF g nm (tidyF f nm n).2).1, (tidyF g nm (tidyF f nm n).2).2)
  | .one k x f, nm, n =>
    if k.bind then (.one k n (tidyF f (fun y => if y = x then n else nm y) (n + 1)).1, (tidyF f (fun y => if y = x then n else nm y) (n + 1)).2)
    else (.one k x (tidyF f nm n).1, (tidyF f nm n).2)
theorem tidy_skel : ∀ (t : F) (nm : Int → Int) (n : Int), skel (tidyF t nm n).1 = skel t
  | .nul _, _, _ => rfl
  | .leaf .var _, _, _ => rfl
  | .leaf .has _, _, _ => rfl
  | .leaf .lacks _, _, _ => rfl
  | .two _ f g, nm, n => by simp only [tidyF, skel, tidy_skel f, tidy_skel g]
  | .one k x f, nm, n => by
    simp only [tidyF]
    split <;> simp only [skel, tidy_skel f]
def cntB (I : List Rec) : Nat := (I.filter fun r => isB r.sub).length
theorem cntB_app (A B : List Rec) : cntB (A ++ B) = cntB A + cntB B := by simp [cntB]
theorem cntB_cons (r : Rec) (B : List Rec) : cntB (r :: B) = (if isB r.sub = true then 1 else 0) + cntB B := by
  simp only [cntB, List.filter_cons]
  split <;> simp <;> omega
def newHd (ρ : Nat → Int) (q : Nat) (r : Rec) : Hd :=
  match r.sub with
  | .leaf .var x => .leaf .var (ρ (posOf x r.stk).toNat)
  | .one k x _ => if k.bind then .one k (ρ q) else .one k x
  | s => s.hd
theorem tidy_heads (ρ : Nat → Int) : ∀ (t : F) (a : Int) (i : Nat) (st : Stk) (nm : Int → Int) (n : Int),
    (∀ r ∈ info t a i st, ∀ x, r.sub = .leaf .var x → x ∈ r.stk.map (·.1)) → (∀ x ∈ st.map (·.1), nm x = ρ (posOf x st).toNat) →
    (∀ j r, (info t a i st)[j]? = some r → isB r.sub = true → ρ (i + j) = n + (cntB ((info t a i st).take j) : Nat)) →
    (tidyF t nm n).2 = n + (cntB (info t a i st) : Nat) ∧
    ∀ (st' : Stk) (j : Nat) (r : Rec), (info t a i st)[j]? = some r → ((info (tidyF t nm n).1 a i st')[j]?).map (fun r => r.sub.hd) = some (newHd ρ (i + j) r)
  | .nul b, a, i, st, nm, n, hc, hs, hr => by
    refine ⟨by simp [tidyF, info, cntB, isB], fun st' j r h => ?_⟩
    cases j with
    | zero =>
      cases h
      rfl
    | succ j => simp [info] at h
  | .leaf .has b, a, i, st, nm, n, hc, hs, hr => by
    refine ⟨by simp [tidyF, info, cntB, isB], fun st' j r h => ?_⟩
    cases j with
    | zero =>
      cases h
      rfl
    | succ j => simp [info] at h
  | .leaf .lacks b, a, i, st, nm, n, hc, hs, hr => by
    refine ⟨by simp [tidyF, info, cntB, isB], fun st' j r h => ?_⟩
    cases j with
    | zero =>
      cases h
      rfl
    | succ j => simp [info] at h
  | .leaf .var x, a, i, st, nm, n, hc, hs, hr => by
    refine ⟨by simp [tidyF, info, cntB, isB], fun st' j r h => ?_⟩
    cases j with
    | zero =>
      cases h
      have hx : x ∈ st.map (·.1) := hc ⟨.leaf .var x, a, st⟩ (by simp [info]) x rfl
      simp only [tidyF, info, newHd, List.getElem?_cons_zero, Option.map_some, F.hd]
      rw [hs x hx]
    | succ j => simp [info] at h
  | .two b f g, a, i, st, nm, n, hc, hs, hr => by
    have If : ∀ j r, (info f i (i + 1) st)[j]? = some r → (info (.two b f g) a i st)[j + 1]? = some r := fun j r h => by
      simp only [info, List.getElem?_cons_succ]
      rw [List.getElem?_append_left (List.getElem?_eq_some_iff.mp h).1]
      exact h
    have Ig : ∀ j r, (info g i (i + 1 + f.size) st)[j]? = some r → (info (.two b f g) a i st)[f.size + j + 1]? = some r := fun j r h => by
      simp only [info, List.getElem?_cons_succ]
      rw [List.getElem?_append_right (by rw [info_len]; omega), info_len, show f.size + j - f.size = j by omega]
      exact h
    obtain ⟨f1, f2⟩ := tidy_heads ρ f i (i + 1) st nm n (fun r hr' => hc r (by simp [info, hr'])) hs (fun j r h hb => by
      have := hr (j + 1) r (If j r h) hb
      rw [show i + (j + 1) = i + 1 + j by omega] at this
      rw [this]
      simp only [info, List.take_succ_cons, cntB_cons, isB]
      rw [List.take_append_of_le_length (Nat.le_of_lt (List.getElem?_eq_some_iff.mp h).1)]
      simp)
    obtain ⟨g1, g2⟩ := tidy_heads ρ g i (i + 1 + f.size) st nm (tidyF f nm n).2 (fun r hr' => hc r (by simp [info, hr'])) hs (fun j r h hb => by
      have := hr (f.size + j + 1) r (Ig j r h) hb
      rw [show i + (f.size + j + 1) = i + 1 + f.size + j by omega] at this
      rw [this, f1]
      simp only [info, List.take_succ_cons, cntB_cons, isB]
      rw [List.take_append, info_len, List.take_of_length_le (by rw [info_len]; omega), show f.size + j - f.size = j by omega, cntB_app]
      simp
      omega)
    refine ⟨?_, fun st' j r h => ?_⟩
    · simp only [tidyF, info, cntB_cons, cntB_app, isB]
      rw [g1, f1]
      simp
      omega
    · have sz : (tidyF f nm n).1.size = f.size := same_size (tidy_skel f nm n)
      cases j with
      | zero =>
        cases h
        rfl
      | succ j =>
        simp only [info, List.getElem?_cons_succ] at h
        simp only [tidyF, info, List.getElem?_cons_succ]
        by_cases lt : j < f.size
        · rw [List.getElem?_append_left (by rw [info_len]; exact lt)] at h
          rw [List.getElem?_append_left (by rw [info_len, sz]; exact lt), f2 st' j r h, show i + 1 + j = i + (j + 1) by omega]
        · rw [List.getElem?_append_right (by rw [info_len]; omega), info_len] at h
          rw [List.getElem?_append_right (by rw [info_len, sz]; omega), info_len, sz, g2 st' (j - f.size) r h, show i + 1 + f.size + (j - f.size) = i + (j + 1) by omega]
  | .one k x f, a, i, st, nm, n, hc, hs, hr => by
    by_cases hk : k.bind = true
    · have If : ∀ j r, (info f i (i + 1) ((x, i) :: st))[j]? = some r → (info (.one k x f) a i st)[j + 1]? = some r := fun j r h => by
        simp only [info, List.getElem?_cons_succ, if_pos hk]
        exact h
      have ρi : ρ i = n := by
        have := hr 0 ⟨.one k x f, a, st⟩ rfl hk
        simpa [cntB] using this
      obtain ⟨f1, f2⟩ := tidy_heads ρ f i (i + 1) ((x, i) :: st) (fun y => if y = x then n else nm y) (n + 1) (fun r hr' => hc r (by simp [info, hk, hr'])) (fun y hy => by
        simp only [posOf]
        by_cases e : y = x
        · rw [if_pos e, if_pos e.symm]
          exact ρi.symm
        · rw [if_neg e, if_neg (fun z => e z.symm)]
          rw [List.map_cons, List.mem_cons] at hy
          exact hs y (hy.resolve_left e)) (fun j r h hb => by
        have := hr (j + 1) r (If j r h) hb
        rw [show i + (j + 1) = i + 1 + j by omega] at this
        rw [this]
        simp only [info, List.take_succ_cons, cntB_cons]
        rw [if_pos (show isB (F.one k x f) = true from hk), if_pos hk]
        omega)
      refine ⟨?_, fun st' j r h => ?_⟩
      · simp only [tidyF, info, cntB_cons]
        rw [if_pos (show isB (F.one k x f) = true from hk), if_pos hk, if_pos hk, f1]
        omega
      · cases j with
        | zero =>
          cases h
          simp only [tidyF, if_pos hk, info, newHd, List.getElem?_cons_zero, Option.map_some, F.hd]
          rw [Nat.add_zero, ρi]
        | succ j =>
          simp only [info, List.getElem?_cons_succ, if_pos hk] at h
          simp only [tidyF, if_pos hk, info, List.getElem?_cons_succ]
          rw [f2 _ j r h, show i + 1 + j = i + (j + 1) by omega]
    · have If : ∀ j r, (info f i (i + 1) st)[j]? = some r → (info (.one k x f) a i st)[j + 1]? = some r := fun j r h => by
        simp only [info, List.getElem?_cons_succ, if_neg hk]
        exact h
      obtain ⟨f1, f2⟩ := tidy_heads ρ f i (i + 1) st nm n (fun r hr' => hc r (by simp [info, hk, hr'])) hs (fun j r h hb => by
        have := hr (j + 1) r (If j r h) hb
        rw [show i + (j + 1) = i + 1 + j by omega] at this
        rw [this]
        simp only [info, List.take_succ_cons, cntB_cons]
        rw [if_neg (show ¬ isB (F.one k x f) = true from hk), if_neg hk]
        omega)
      refine ⟨?_, fun st' j r h => ?_⟩
      · simp only [tidyF, info, cntB_cons]
        rw [if_neg (show ¬ isB (F.one k x f) = true from hk), if_neg hk, if_neg hk, f1]
        omega
      · cases j with
        | zero =>
          cases h
          simp only [tidyF, if_neg hk, info, newHd, List.getElem?_cons_zero, Option.map_some, F.hd]
        | succ j =>
          simp only [info, List.getElem?_cons_succ, if_neg hk] at h
          simp only [tidyF, if_neg hk, info, List.getElem?_cons_succ]
          rw [f2 _ j r h, show i + 1 + j = i + (j + 1) by omega]
/-- of a closed one: the head of each part in the tidy form -/
def rankOf (t : F) (q : Nat) : Int := (cntB ((infos t).take q) : Nat)
theorem tidy_whole {t : F} (hc : Closed t) (nm : Int → Int) {j : Nat} {r : Rec} (h : (infos t)[j]? = some r) :
    ((infos (tidyF t nm 0).1)[j]?).map (fun r => r.sub.hd) = some (newHd (rankOf t) j r) := by
  have := (tidy_heads (rankOf t) t (-1) 0 [] nm 0 hc (by simp) (fun j r h hb => by simp [rankOf])).2 [] j r h
  rwa [Nat.zero_add] at this
/-! ### tidy twice -/
theorem tidy_again : ∀ (t : F) (nm nm2 : Int → Int) (n : Int), (∀ y, nm2 (nm y) = nm y) → tidyF (tidyF t nm n).1 nm2 n = tidyF t nm n
  | .nul _, _, _, _, _ => rfl
  | .leaf .has _, _, _, _, _ => rfl
  | .leaf .lacks _, _, _, _, _ => rfl
  | .leaf .var x, nm, nm2, n, h => by simp only [tidyF, h]
  | .two b f g, nm, nm2, n, h => by
    simp only [tidyF]
    rw [tidy_again f nm nm2 n h, tidy_again g nm nm2 _ h]
  | .one k x f, nm, nm2, n, h => by
    by_cases hk : k.bind = true
    · have ih := tidy_again f (fun y => if y = x then n else nm y) (fun y => if y = n then n else nm2 y) (n + 1) (fun y => by
        by_cases e : y = x
        · simp [e]
        · simp only [if_neg e]
          by_cases e2 : nm y = n
          · simp [e2]
          · rw [if_neg e2]
            exact h y)
      simp only [tidyF, if_pos hk, ih]
    · have ih := tidy_again f nm nm2 n h
      simp only [tidyF, if_neg hk, ih]
end Fw
namespace Fw
/-! ### taking a statement apart with a stack -/
def pre (t : F) (a : Int) (i : Nat) : List (Hd × Int) := (info t a i []).map fun r => (r.sub.hd, r.aro)
theorem pre_len (t : F) (a : Int) (i : Nat) : (pre t a i).length = t.size := by simp [pre, info_len]
theorem info_plain : ∀ (t : F) (a : Int) (i : Nat) (st : Stk), ((info t a i st).map fun r => (r.sub.hd, r.aro)) = pre t a i
  | .nul _, _, _, _ => rfl
  | .leaf _ _, _, _, _ => rfl
  | .two _ f g, a, i, st => by
    have h1 := info_plain f i (i + 1)
    have h2 := info_plain g i (i + 1 + f.size)
    simp only [pre, info, List.map_cons, List.map_append] at *
    rw [h1 st, h2 st]
  | .one k n f, a, i, st => by
    have h1 := info_plain f i (i + 1)
    simp only [pre, info, List.map_cons] at *
    rw [h1 (if k.bind then (n, i) :: st else st), h1 (if k.bind then [(n, i)] else [])]
def F.kids : F → List F
  | .two _ f g => [f, g]
  | .one _ _ f => [f]
  | _ => []
def fin (L : List (Hd × Int)) : List (F × Int) → List (Hd × Int)
  | [] => L
  | (t, a) :: r => fin (L ++ pre t a L.length) r
theorem fin_step (L : List (Hd × Int)) (t : F) (a : Int) (r : List (F × Int)) :
    fin L ((t, a) :: r) = fin (L ++ [(t.hd, a)]) (t.kids.map (fun f => (f, (L.length : Int))) ++ r) := by
  cases t with
  | nul b => rfl
  | leaf k n => rfl
  | two b f g =>
    have hf := info_plain f L.length (L.length + 1) []
    have hg := info_plain g L.length (L.length + 1 + f.size) []
    simp only [fin, F.kids, List.map_cons, List.map_nil, List.cons_append, List.nil_append, F.hd, List.length_append, List.length_cons, List.length_nil, pre_len]
    congr 1
    simp only [pre, info, List.map_cons, List.map_append, F.hd]
    simp
  | one k n f =>
    have hf := info_plain f L.length (L.length + 1) (if k.bind then [(n, L.length)] else [])
    simp only [fin, F.kids, List.map_cons, List.map_nil, List.cons_append, List.nil_append, F.hd, List.length_append, List.length_cons, List.length_nil]
    congr 1
    simp only [pre, info, List.map_cons, F.hd] at *
    rw [hf]
    simp
def stSize : List (F × Int) → Nat
  | [] => 0
  | (t, _) :: r => t.size + stSize r
theorem stSize_app : ∀ A B : List (F × Int), stSize (A ++ B) = stSize A + stSize B
  | [], B => by simp [stSize]
  | (t, a) :: A, B => by simp [stSize, stSize_app A B]; omega
theorem stSize_kids (t : F) (i : Int) : stSize (t.kids.map fun f => (f, i)) + 1 = t.size := by
  cases t <;> simp [F.kids, stSize, F.size]
theorem st_len : ∀ A : List (F × Int), A.length ≤ stSize A
  | [] => Nat.le_refl _
  | (t, a) :: A => by
    have := st_len A
    have := F.size_pos t
    simp only [List.length_cons, stSize]
    omega
theorem fin_len : ∀ (S : List (F × Int)) (L : List (Hd × Int)), (fin L S).length = L.length + stSize S
  | [], L => by simp [fin, stSize]
  | (t, a) :: S, L => by
    simp only [fin, stSize]
    rw [fin_len S, List.length_append, pre_len]
    omega
end Fw
namespace Fw
theorem kids_recs {t : F} {j : Nat} {r : Rec} (h : (infos t)[j]? = some r) :
    (inPlaces r.sub j).length = r.sub.kids.length ∧ ∀ (m p : Nat), (inPlaces r.sub j)[m]? = some p → ∃ r', (infos t)[p]? = some r' ∧ r.sub.kids[m]? = some r'.sub ∧ j < p := by
  have sa := sub_at h
  obtain ⟨s, a, st⟩ := r
  cases s with
  | nul b => exact ⟨rfl, fun m p e => by simp [inPlaces] at e⟩
  | leaf k n => exact ⟨rfl, fun m p e => by simp [inPlaces] at e⟩
  | two b f g =>
    refine ⟨rfl, fun m p e => ?_⟩
    match m, e with
    | 0, e =>
      cases e
      refine ⟨⟨f, j, st⟩, sa 1 _ ?_, rfl, by omega⟩
      simp only [info, List.getElem?_cons_succ]
      rw [List.getElem?_append_left (by rw [info_len]; exact F.size_pos f)]
      exact info_head _ _ _ _
    | 1, e =>
      cases e
      have z := sa (1 + f.size) ⟨g, j, st⟩ (by
        rw [Nat.add_comm 1]
        simp only [info, List.getElem?_cons_succ]
        rw [List.getElem?_append_right (by rw [info_len]; omega), info_len, Nat.sub_self]
        exact info_head _ _ _ _)
      rw [← Nat.add_assoc] at z
      exact ⟨_, z, rfl, by omega⟩
    | m + 2, e => simp [inPlaces] at e
  | one k n f =>
    refine ⟨rfl, fun m p e => ?_⟩
    match m, e with
    | 0, e =>
      cases e
      refine ⟨⟨f, j, if k.bind then (n, j) :: st else st⟩, sa 1 _ ?_, rfl, by omega⟩
      simp only [info, List.getElem?_cons_succ]
      exact info_head _ _ _ _
    | m + 1, e => simp [inPlaces] at e
end Fw
namespace Fw
theorem F.kids_le : ∀ t : F, t.kids.length ≤ 2
  | .nul _ => Nat.zero_le 2
  | .leaf _ _ => Nat.zero_le 2
  | .two _ _ _ => Nat.le_refl 2
  | .one _ _ _ => Nat.le_succ 1
end Fw
namespace Fw
theorem infos_pos {t : F} {x : Int} : ∀ (st : Stk) (j : Nat) (r : Rec), (infos t)[j]? = some r → r.stk = st → x ∈ st.map (·.1) →
    ∃ (p : Nat) (r' : Rec), posOf x st = (p : Int) ∧ p < j ∧ (infos t)[p]? = some r' ∧ isB r'.sub = true
  | [], _, _, _, _, h => by cases h
  | (y, q) :: rest, j, r, hr, e, h => by
    obtain ⟨hq, k, f, a, h2, h3⟩ := infos_stk j j r y q rest (Nat.le_refl _) hr e
    simp only [posOf]
    by_cases c : y = x
    · rw [if_pos c]
      exact ⟨q, _, rfl, hq, h2, h3⟩
    · rw [if_neg c]
      have h' : x ∈ rest.map (·.1) := by
        rw [List.map_cons, List.mem_cons] at h
        exact h.resolve_left fun z => c z.symm
      obtain ⟨p, r', e1, e2, e3⟩ := infos_pos rest q _ h2 rfl h'
      exact ⟨p, r', e1, by omega, e3⟩
end Fw
namespace Fw
/-! ### what the law draws -/
def fv : F → List Int
  | .nul _ => []
  | .leaf .var x => [x]
  | .leaf _ _ => []
  | .two _ f g => fv f ++ fv g
  | .one k x f => if k.bind then (fv f).filter (fun y => y ≠ x) else fv f
theorem free_fv (y : Int) : ∀ (t : F) (b : List Int), y ∈ freeL t b ↔ y ∈ fv t ∧ y ∉ b
  | .nul _, b => by simp [freeL, fv]
  | .leaf .has _, b => by simp [freeL, fv]
  | .leaf .lacks _, b => by simp [freeL, fv]
  | .leaf .var x, b => by
    simp only [freeL, fv, List.mem_singleton]
    split
    · rename_i h
      constructor
      · intro z
        cases z
      · rintro ⟨rfl, z⟩
        exact absurd h z
    · rename_i h
      rw [List.mem_singleton]
      constructor
      · rintro rfl
        exact ⟨rfl, h⟩
      · exact fun z => z.1
  | .two _ f g, b => by
    simp only [freeL, fv, List.mem_append, free_fv y f b, free_fv y g b]
    constructor
    · rintro (⟨h1, h2⟩ | ⟨h1, h2⟩)
      · exact ⟨.inl h1, h2⟩
      · exact ⟨.inr h1, h2⟩
    · rintro ⟨h1 | h1, h2⟩
      · exact .inl ⟨h1, h2⟩
      · exact .inr ⟨h1, h2⟩
  | .one k x f, b => by
    simp only [freeL, fv]
    by_cases hk : k.bind = true
    · rw [if_pos hk, if_pos hk, free_fv y f (b ++ [x])]
      simp only [List.mem_append, List.mem_singleton, not_or, List.mem_filter, decide_eq_true_eq]
      constructor
      · rintro ⟨h1, h2, h3⟩
        exact ⟨⟨h1, h3⟩, h2⟩
      · rintro ⟨⟨h1, h3⟩, h2⟩
        exact ⟨h1, h2, h3⟩
    · rw [if_neg hk, if_neg hk, free_fv y f b]
theorem closed_fv {t : F} : fv t = [] ↔ Closed t := by
  rw [← closed_iff]
  constructor
  · intro h
    refine List.eq_nil_iff_forall_not_mem.mpr fun x hx => ?_
    have := ((free_fv x t []).mp hx).1
    rw [h] at this
    cases this
  · intro h
    refine List.eq_nil_iff_forall_not_mem.mpr fun x hx => ?_
    have := (free_fv x t []).mpr ⟨hx, by simp⟩
    rw [h] at this
    cases this
abbrev V4 : List Int := [0, 1, 2, 7]
def Ok : F → Prop
  | .nul _ => True
  | .leaf .var x => x ∈ V4
  | .leaf _ n => 0 ≤ n ∧ n < 2
  | .two _ f g => Ok f ∧ Ok g
  | .one k n f => (if k.bind = true then n ∈ V4 else 0 ≤ n ∧ n < 2) ∧ Ok f
theorem ok_fv : ∀ {t : F}, Ok t → ∀ x ∈ fv t, x ∈ V4
  | .nul _, _, x, h => by cases h
  | .leaf .has _, _, x, h => by cases h
  | .leaf .lacks _, _, x, h => by cases h
  | .leaf .var y, o, x, h => by
    rw [show fv (.leaf .var y) = [y] from rfl, List.mem_singleton] at h
    subst h
    exact o
  | .two _ f g, o, x, h => by
    rcases List.mem_append.mp (show x ∈ fv f ++ fv g from h) with h | h
    · exact ok_fv o.1 x h
    · exact ok_fv o.2 x h
  | .one k n f, o, x, h => by
    refine ok_fv o.2 x ?_
    simp only [fv] at h
    split at h
    · exact (List.mem_filter.mp h).1
    · exact h
structure Gen (n : Nat) (W R : List Int) (t : F) : Prop where
  dep : t.depth ≤ n + 1
  ok : Ok t
  fr : ∀ x ∈ fv t, x ∈ W ∨ x ∈ R
end Fw
namespace Fw
theorem tidy_fv : ∀ (t : F) (nm : Int → Int) (n y : Int), y ∈ fv (tidyF t nm n).1 → ∃ x ∈ fv t, y = nm x
  | .nul _, _, _, _, h => by cases h
  | .leaf .has _, _, _, _, h => by cases h
  | .leaf .lacks _, _, _, _, h => by cases h
  | .leaf .var x, nm, n, y, h => ⟨x, List.mem_singleton.mpr rfl, List.mem_singleton.mp h⟩
  | .two b f g, nm, n, y, h => by
    rcases List.mem_append.mp (show y ∈ fv (tidyF f nm n).1 ++ fv (tidyF g nm (tidyF f nm n).2).1 from h) with h | h
    · obtain ⟨x, h1, h2⟩ := tidy_fv f nm n y h
      exact ⟨x, List.mem_append_left _ h1, h2⟩
    · obtain ⟨x, h1, h2⟩ := tidy_fv g nm _ y h
      exact ⟨x, List.mem_append_right _ h1, h2⟩
  | .one k z f, nm, n, y, h => by
    by_cases hk : k.bind = true
    · simp only [tidyF, if_pos hk, fv, List.mem_filter, decide_eq_true_eq] at h
      obtain ⟨x, h1, h2⟩ := tidy_fv f _ _ y h.1
      by_cases e : x = z
      · rw [if_pos e] at h2
        exact absurd h2 h.2
      · rw [if_neg e] at h2
        refine ⟨x, ?_, h2⟩
        simp only [fv, if_pos hk, List.mem_filter, decide_eq_true_eq]
        exact ⟨h1, e⟩
    · simp only [tidyF, if_neg hk, fv] at h
      obtain ⟨x, h1, h2⟩ := tidy_fv f nm n y h
      refine ⟨x, ?_, h2⟩
      simp only [fv, if_neg hk]
      exact h1
theorem tidy_closed {t : F} (nm : Int → Int) (n : Int) (h : Closed t) : Closed (tidyF t nm n).1 := by
  rw [← closed_fv] at h ⊢
  refine List.eq_nil_iff_forall_not_mem.mpr fun y hy => ?_
  obtain ⟨x, hx, _⟩ := tidy_fv t nm n y hy
  rw [h] at hx
  cases hx
end Fw

namespace Fw
/-! ### opposites -/
def Leaf.opp : Leaf → Leaf
  | .has => .lacks
  | .lacks => .has
  | .var => .var
def One.opp : One → One
  | .some => .all
  | .all => .some
  | .least => .most
  | .most => .least
def opp : F → F
  | .nul b => .nul !b
  | .leaf k n => .leaf k.opp n
  | .two b f g => .two (!b) (opp f) (opp g)
  | .one k n f => .one k.opp n (opp f)
def oppH : Hd → Hd
  | .nul b => .nul !b
  | .leaf k n => .leaf k.opp n
  | .two b => .two !b
  | .one k n => .one k.opp n
theorem opp_hd (t : F) : (opp t).hd = oppH t.hd := by cases t <;> rfl
theorem opp_skel : ∀ t : F, skel (opp t) = skel t
  | .nul _ => rfl
  | .leaf _ _ => rfl
  | .two _ f g => by simp [opp, skel, opp_skel f, opp_skel g]
  | .one _ _ f => by simp [opp, skel, opp_skel f]
theorem opp_size (t : F) : (opp t).size = t.size := same_size (opp_skel t)
theorem opp_depth (t : F) : (opp t).depth = t.depth := by rw [← skel_depth, opp_skel, skel_depth]
theorem opp_opp : ∀ t : F, opp (opp t) = t
  | .nul b => by simp [opp]
  | .leaf k n => by cases k <;> rfl
  | .two b f g => by simp [opp, opp_opp f, opp_opp g]
  | .one k n f => by cases k <;> simp [opp, One.opp, opp_opp f]
theorem bind_opp (k : One) : k.opp.bind = k.bind := by cases k <;> rfl
theorem opp_fv : ∀ t : F, fv (opp t) = fv t
  | .nul _ => rfl
  | .leaf k n => by cases k <;> rfl
  | .two b f g => by simp [opp, fv, opp_fv f, opp_fv g]
  | .one k n f => by simp only [opp, fv, bind_opp, opp_fv f]
theorem opp_closed {t : F} (h : Closed t) : Closed (opp t) := by
  rw [← closed_fv] at h ⊢
  rw [opp_fv, h]
theorem opp_heads : ∀ (t : F) (a : Int) (i : Nat) (st st' : Stk), ((info (opp t) a i st').map fun r => r.sub.hd) = (info t a i st).map fun r => oppH r.sub.hd
  | .nul _, _, _, _, _ => rfl
  | .leaf _ _, _, _, _, _ => rfl
  | .two b f g, a, i, st, st' => by
    simp only [opp, info, List.map_cons, List.map_append, opp_heads f i (i + 1) st st', opp_size, opp_heads g i (i + 1 + f.size) st st']
    rfl
  | .one k n f, a, i, st, st' => by
    simp only [opp, info, List.map_cons, opp_heads f i (i + 1) (if k.bind = true then (n, i) :: st else st)]
    rfl
end Fw

/-! Worlds as the laws draw them, and what is true in them: pure mathematics. -/
namespace Fw
structure Wd where
  facts : List (List Int)
  steps : List (Int × Int × Int)
def Wd.n (W : Wd) : Nat := W.facts.length
def rng (n : Nat) : List Int := (List.range n).map Int.ofNat
theorem rng_get {n i : Nat} (h : i < n) : (rng n)[i]? = some (i : Int) := by
  unfold rng
  rw [List.getElem?_map, List.getElem?_range h]
  rfl
theorem rng_len (n : Nat) : (rng n).length = n := by unfold rng; rw [List.length_map, List.length_range]
theorem rng_mem {n : Nat} {x : Int} : x ∈ rng n ↔ 0 ≤ x ∧ x < n := by
  unfold rng
  rw [List.mem_map]
  constructor
  · rintro ⟨a, h, rfl⟩
    have := List.mem_range.mp h
    exact ⟨Int.natCast_nonneg a, Int.ofNat_lt.mpr this⟩
  · rintro ⟨h1, h2⟩
    exact ⟨x.toNat, List.mem_range.mpr (by omega), Int.toNat_of_nonneg h1⟩
theorem rng_succ (n : Nat) : rng (n + 1) = rng n ++ [(n : Int)] := by
  unfold rng
  rw [List.range_succ, List.map_append]
  rfl
theorem rng_take {n i : Nat} (h : i ≤ n) : (rng n).take i = rng i := by
  unfold rng
  rw [← List.map_take, List.take_range, Nat.min_eq_left h]
/-- the facts of a state -/
def Wd.at (W : Wd) (s : Int) : List Int := (W.facts[s.toNat]?).getD []
def Wd.beh (W : Wd) (s l : Int) : List Int := (W.steps.filter fun p => decide (p.1 = s) && decide (p.2.1 = l)).map fun p => p.2.2
/-- each step leads to a state -/
def Wd.Good (W : Wd) : Prop := ∀ p ∈ W.steps, 0 ≤ p.2.2 ∧ p.2.2 < W.n
def sIn (X : List Int) (s : Int) : Bool := decide (s ∈ X)
def flt (n : Nat) (p : Int → Bool) : List Int := (rng n).filter p
def setE (e : Int → List Int) (x : Int) (X : List Int) : Int → List Int := fun y => if y = x then X else e y
def iter (f : List Int → List Int) : Nat → List Int → List Int
  | 0, X => X
  | k + 1, X => f (iter f k X)
def val (W : Wd) : F → (Int → List Int) → List Int
  | .nul b, _ => if b = true then rng W.n else []
  | .leaf .has n, _ => flt W.n fun s => sIn (W.at s) n
  | .leaf .lacks n, _ => flt W.n fun s => !sIn (W.at s) n
  | .leaf .var x, e => e x
  | .two b f g, e => if b = true then flt W.n (fun s => sIn (val W g e) s && sIn (val W f e) s) else flt W.n (fun s => sIn (val W g e) s || sIn (val W f e) s)
  | .one .some l f, e => flt W.n fun s => decide (0 < (((W.beh s l).filter (sIn (val W f e))).length : Int))
  | .one .all l f, e => flt W.n fun s => decide ((((W.beh s l).filter (fun k => !sIn (val W f e) k)).length : Int) = 0)
  | .one .least x f, e => iter (fun X => val W f (setE e x X)) (W.n + 1) []
  | .one .most x f, e => iter (fun X => val W f (setE e x X)) (W.n + 1) (rng W.n)
/-- the others -/
def co (n : Nat) (X : List Int) : List Int := flt n fun s => !sIn X s
theorem flt_congr {n : Nat} {p q : Int → Bool} (h : ∀ s : Int, 0 ≤ s → s < (n : Int) → p s = q s) : flt n p = flt n q :=
  List.filter_congr fun s hs => h s (rng_mem.mp hs).1 (rng_mem.mp hs).2
theorem sIn_flt {n : Nat} {p : Int → Bool} {s : Int} (h0 : 0 ≤ s) (h1 : s < (n : Int)) : sIn (flt n p) s = p s := by
  unfold sIn flt
  cases e : p s with
  | true => exact decide_eq_true (List.mem_filter.mpr ⟨rng_mem.mpr ⟨h0, h1⟩, e⟩)
  | false => exact decide_eq_false fun h => by rw [(List.mem_filter.mp h).2] at e; cases e
theorem co_flt {n : Nat} {p : Int → Bool} : co n (flt n p) = flt n fun s => !p s := flt_congr fun s h0 h1 => by rw [sIn_flt h0 h1]
theorem sIn_co {n : Nat} {X : List Int} {s : Int} (h0 : 0 ≤ s) (h1 : s < (n : Int)) : sIn (co n X) s = !sIn X s := sIn_flt h0 h1
theorem rng_flt (n : Nat) : rng n = flt n fun _ => true := (List.filter_eq_self.mpr fun _ _ => rfl).symm
theorem co_rng (n : Nat) : co n (rng n) = [] := by
  rw [rng_flt, co_flt]
  exact List.filter_eq_nil_iff.mpr fun _ _ h => by cases h
theorem co_nil (n : Nat) : co n [] = rng n := by
  unfold co
  rw [rng_flt]
  exact flt_congr fun s _ _ => rfl
theorem setE_co {n : Nat} {e : Int → List Int} {x : Int} {X : List Int} : setE (fun y => co n (e y)) x (co n X) = fun y => co n (setE e x X y) := by
  funext y
  unfold setE
  by_cases h : y = x
  · rw [if_pos h, if_pos h]
  · rw [if_neg h, if_neg h]
theorem iter_co {n : Nat} {f g : List Int → List Int} (h : ∀ X, g (co n X) = co n (f X)) : ∀ (k : Nat) (X : List Int), iter g k (co n X) = co n (iter f k X)
  | 0, X => rfl
  | k + 1, X => by
    show g (iter g k (co n X)) = co n (f (iter f k X))
    rw [iter_co h k X, h]
theorem val_opp {W : Wd} (G : W.Good) : ∀ (t : F) (e : Int → List Int), val W (opp t) (fun y => co W.n (e y)) = co W.n (val W t e)
  | .nul b, e => by
    cases b
    · show (if true = true then rng W.n else []) = co W.n (if false = true then rng W.n else [])
      rw [if_pos rfl, if_neg Bool.false_ne_true, co_nil]
    · show (if false = true then rng W.n else []) = co W.n (if true = true then rng W.n else [])
      rw [if_pos rfl, if_neg Bool.false_ne_true, co_rng]
  | .leaf .has n, e => by
    show flt W.n _ = co W.n (flt W.n _)
    rw [co_flt]
  | .leaf .lacks n, e => by
    show flt W.n _ = co W.n (flt W.n _)
    rw [co_flt]
    exact flt_congr fun s _ _ => (Bool.not_not _).symm
  | .leaf .var x, e => rfl
  | .two b f g, e => by
    cases b
    · show (if true = true then _ else _) = co W.n (if false = true then _ else _)
      rw [if_pos rfl, if_neg Bool.false_ne_true, co_flt, val_opp G f e, val_opp G g e]
      exact flt_congr fun s h0 h1 => by rw [sIn_co h0 h1, sIn_co h0 h1, Bool.not_or]
    · show (if false = true then _ else _) = co W.n (if true = true then _ else _)
      rw [if_pos rfl, if_neg Bool.false_ne_true, co_flt, val_opp G f e, val_opp G g e]
      exact flt_congr fun s h0 h1 => by rw [sIn_co h0 h1, sIn_co h0 h1, Bool.not_and]
  | .one .some l f, e => by
    show flt W.n _ = co W.n (flt W.n _)
    rw [co_flt, val_opp G f e]
    refine flt_congr fun s h0 h1 => ?_
    have : (W.beh s l).filter (fun k => !sIn (co W.n (val W f e)) k) = (W.beh s l).filter (sIn (val W f e)) := by
      refine List.filter_congr fun k hk => ?_
      obtain ⟨p, hp, rfl⟩ := List.mem_map.mp hk
      have := G p (List.mem_filter.mp hp).1
      rw [sIn_co this.1 this.2, Bool.not_not]
    rw [this, ← decide_not]
    exact decide_eq_decide.mpr ⟨fun h => by omega, fun h => by omega⟩
  | .one .all l f, e => by
    show flt W.n _ = co W.n (flt W.n _)
    rw [co_flt, val_opp G f e]
    refine flt_congr fun s h0 h1 => ?_
    have : (W.beh s l).filter (sIn (co W.n (val W f e))) = (W.beh s l).filter (fun k => !sIn (val W f e) k) := by
      refine List.filter_congr fun k hk => ?_
      obtain ⟨p, hp, rfl⟩ := List.mem_map.mp hk
      have := G p (List.mem_filter.mp hp).1
      rw [sIn_co this.1 this.2]
    rw [this, ← decide_not]
    exact decide_eq_decide.mpr ⟨fun h => by omega, fun h => by omega⟩
  | .one .least x f, e => by
    show iter (fun X => val W (opp f) (setE (fun y => co W.n (e y)) x X)) (W.n + 1) (rng W.n) = co W.n (iter (fun X => val W f (setE e x X)) (W.n + 1) [])
    rw [← co_nil, iter_co (f := fun X => val W f (setE e x X))]
    exact fun X => by rw [setE_co, val_opp G f]
  | .one .most x f, e => by
    show iter (fun X => val W (opp f) (setE (fun y => co W.n (e y)) x X)) (W.n + 1) [] = co W.n (iter (fun X => val W f (setE e x X)) (W.n + 1) (rng W.n))
    rw [← co_rng W.n, iter_co (f := fun X => val W f (setE e x X))]
    exact fun X => by rw [setE_co, val_opp G f]
/-- all values are ranks of states -/
theorem val_in {W : Wd} : ∀ (t : F) (e : Int → List Int), (∀ x ∈ fv t, (e x).length ≤ W.n) → (val W t e).length ≤ W.n
  | .nul b, e, h => by
    show (if b = true then rng W.n else []).length ≤ _
    split
    · rw [rng_len]; exact Nat.le_refl _
    · exact Nat.zero_le _
  | .leaf .has n, e, h => Nat.le_trans (List.length_filter_le _ _) (by rw [rng_len]; exact Nat.le_refl _)
  | .leaf .lacks n, e, h => Nat.le_trans (List.length_filter_le _ _) (by rw [rng_len]; exact Nat.le_refl _)
  | .leaf .var x, e, h => h x (List.mem_singleton.mpr rfl)
  | .two b f g, e, h => by
    show (if b = true then flt _ _ else flt _ _).length ≤ _
    split <;> exact Nat.le_trans (List.length_filter_le _ _) (by rw [rng_len]; exact Nat.le_refl _)
  | .one .some l f, e, h => Nat.le_trans (List.length_filter_le _ _) (by rw [rng_len]; exact Nat.le_refl _)
  | .one .all l f, e, h => Nat.le_trans (List.length_filter_le _ _) (by rw [rng_len]; exact Nat.le_refl _)
  | .one .least x f, e, h => iter_in (fun X hX => val_in f _ fun y hy => setE_in (fv_one rfl) h hX y hy) _ _ (Nat.zero_le _)
  | .one .most x f, e, h => iter_in (fun X hX => val_in f _ fun y hy => setE_in (fv_one rfl) h hX y hy) _ _ (by rw [rng_len]; exact Nat.le_refl _)
where
  iter_in {n : Nat} {f : List Int → List Int} (hf : ∀ X, X.length ≤ n → (f X).length ≤ n) : ∀ (k : Nat) (X : List Int), X.length ≤ n → (iter f k X).length ≤ n
    | 0, X, h => h
    | k + 1, X, h => hf _ (iter_in hf k X h)
  fv_one {k : One} {x : Int} {f : F} (hk : k.bind = true) : ∀ y ∈ fv f, y ≠ x → y ∈ fv (.one k x f) := fun y hy hn => by
    simp only [fv, if_pos hk, List.mem_filter, decide_eq_true_eq]
    exact ⟨hy, hn⟩
  setE_in {n : Nat} {e : Int → List Int} {x : Int} {X : List Int} {A B : List Int} (hs : ∀ y ∈ A, y ≠ x → y ∈ B) (h : ∀ y ∈ B, (e y).length ≤ n) (hX : X.length ≤ n) : ∀ y ∈ A, (setE e x X y).length ≤ n := fun y hy => by
    unfold setE
    by_cases c : y = x
    · rw [if_pos c]; exact hX
    · rw [if_neg c]; exact h y (hs y hy c)
end Fw

set_option maxRecDepth 100000
set_option maxHeartbeats 4000000
/-! all of a generator expression over zip of two lists or two tuples. -/
namespace Fw
open PySem PySem.Spec PyProof.Rows L2 GxR
theorem walksU_zipL {prog : Program} {w : World} {A : Around} (hh : A.handled = none) {z TI TO i1 i2 l1 l2 : Addr} (D : ZipApart z TI TO i1 i2 l1 l2) (xs ys : Array Value) :
    WalksU prog w A z [z, TI, TO, i1, i2, l1, l2] [z, TO, i1, i2] (min xs.size ys.size)
      (fun i vals => ∃ x y, xs[i]? = some x ∧ ys[i]? = some y ∧ vals = #[x, y])
      (fun i h => IsZip h z TI TO .none ∧ IsPair h TI (.ref i1) (.ref i2) ∧ (∃ a b, IsPair h TO a b) ∧ h.IsListIter i1 l1 i ∧ h.IsListIter i2 l2 i ∧ h.IsList l1 xs ∧ h.IsList l2 ys)
      (fun i T h => IsZip h z TI TO (rawInt T) ∧ IsPair h TI (.ref i1) (.ref i2) ∧ (∃ a b, IsPair h TO a b) ∧ h.IsListIter i1 l1 (i + 1) ∧ h.IsListIter i2 l2 (i + 1) ∧ h.IsList l1 xs ∧ h.IsList l2 ys ∧
        T ≠ z ∧ T ≠ TO ∧ T ≠ i1 ∧ T ≠ i2) := (WalksT.zip2 hh z TI TO i1 i2 l1 l2 D xs ys).toU
theorem isTuple_at {h h' : Heap} {a : Addr} {xs : Array Value} (x : h.IsTuple a xs) (k : ∀ o, h.get? a = some o → h'.get? a = some o) : h'.IsTuple a xs := let ⟨o, e, r⟩ := x; ⟨o, k o e, r⟩
theorem walksU_zipT {prog : Program} {w : World} {A : Around} (hh : A.handled = none) {z TI TO i1 i2 l1 l2 : Addr} (D : ZipApart z TI TO i1 i2 l1 l2) (xs ys : Array Value) :
    WalksU prog w A z [z, TI, TO, i1, i2, l1, l2] [z, TO, i1, i2] (min xs.size ys.size)
      (fun i vals => ∃ x y, xs[i]? = some x ∧ ys[i]? = some y ∧ vals = #[x, y])
      (fun i h => IsZip h z TI TO .none ∧ IsPair h TI (.ref i1) (.ref i2) ∧ (∃ a b, IsPair h TO a b) ∧ h.IsTupleIter i1 l1 i ∧ h.IsTupleIter i2 l2 i ∧ h.IsTuple l1 xs ∧ h.IsTuple l2 ys)
      (fun i T h => IsZip h z TI TO (rawInt T) ∧ IsPair h TI (.ref i1) (.ref i2) ∧ (∃ a b, IsPair h TO a b) ∧ h.IsTupleIter i1 l1 (i + 1) ∧ h.IsTupleIter i2 l2 (i + 1) ∧ h.IsTuple l1 xs ∧ h.IsTuple l2 ys ∧
        T ≠ z ∧ T ≠ TO ∧ T ≠ i1 ∧ T ≠ i2) where
  sub := fun c hc => by simp at hc ⊢; rcases hc with rfl | rfl | rfl | rfl <;> simp
  frame := fun i h h' hst hk => by
    obtain ⟨hz, hTI, ⟨a, b, hTO⟩, h1, h2, hl1, hl2⟩ := hst
    exact ⟨hk z (by simp) _ hz, hk TI (by simp) _ hTI, ⟨a, b, hk TO (by simp) _ hTO⟩, h1.at fun o e => hk i1 (by simp) o e, h2.at fun o e => hk i2 (by simp) o e,
      isTuple_at hl1 fun o e => hk l1 (by simp) o e, isTuple_at hl2 fun o e => hk l2 (by simp) o e⟩
  item := fun i s Q E hi hst hQ => by
    obtain ⟨hz, hTI, ⟨a, b, hTO⟩, h1, h2, hl1, hl2⟩ := hst
    have hix : i < xs.size := Nat.lt_of_lt_of_le hi (Nat.min_le_left ..)
    have hiy : i < ys.size := Nat.lt_of_lt_of_le hi (Nat.min_le_right ..)
    refine RZ.pyNext_zipT_item D hz hTI hTO h1 h2 hl1 hl2 (Array.getElem?_eq_getElem hix) (Array.getElem?_eq_getElem hiy) fun h' a1 a2 a3 a4 a5 a6 hk => ?_
    have lt : ∀ {c o}, s.heap.get? c = some o → s.heap.objs.size ≠ c := fun e => Nat.ne_of_gt (Heap.lt_size e)
    exact hQ s.heap.objs.size #[xs[i], ys[i]] h' s.toks ⟨_, _, Array.getElem?_eq_getElem hix, Array.getElem?_eq_getElem hiy, rfl⟩ ⟨_, a5, rfl, _, rfl⟩
      ⟨a1, hk _ _ D.TIz D.TITO D.TIi1 D.TIi2 hTI, ⟨_, _, a2⟩, a3, a4, isTuple_at hl1 fun o e => hk _ o D.l1z D.l1TO D.l1i1 D.l1i2 e, isTuple_at hl2 fun o e => hk _ o D.l2z D.l2TO D.l2i1 D.l2i2 e,
        lt hz, lt hTO, (by obtain ⟨_, e, _⟩ := h1; exact lt e), (by obtain ⟨_, e, _⟩ := h2; exact lt e)⟩
      fun c o hc e => hk c o (fun x => hc (by simp [x])) (fun x => hc (by simp [x])) (fun x => hc (by simp [x])) (fun x => hc (by simp [x])) e
  go := fun elts k pos i T s Q E hm hQ => by
    obtain ⟨hz, hTI, ⟨a, b, hTO⟩, h1, h2, hl1, hl2, _⟩ := hm
    refine wpAny_letOwnedTupleGo_zip hz fun h' hz' hs' => hQ h' ⟨hz', hs'.extBut _ _ D.TIz hTI, ⟨a, b, hs'.extBut _ _ D.TOz hTO⟩, h1.at fun o e => hs'.extBut _ _ D.i1z e, h2.at fun o e => hs'.extBut _ _ D.i2z e,
      isTuple_at hl1 fun o e => hs'.extBut _ _ D.l1z e, isTuple_at hl2 fun o e => hs'.extBut _ _ D.l2z e⟩ fun c o hc e => hs'.extBut _ _ (fun x => hc (by simp [x])) e
  apart := fun i T h hm hT => by
    obtain ⟨_, _, _, _, _, _, _, t1, t2, t3, t4⟩ := hm
    simp at hT
    rcases hT with rfl | rfl | rfl | rfl
    · exact t1 rfl
    · exact t2 rfl
    · exact t3 rfl
    · exact t4 rfl
  done := fun s Q E hst hQ => by
    obtain ⟨hz, hTI, ⟨a, b, hTO⟩, h1, h2, hl1, hl2⟩ := hst
    have hend : xs[min xs.size ys.size]? = none ∨ ys[min xs.size ys.size]? = none := by
      rcases Nat.le_total xs.size ys.size with h | h
      · exact .inl (by rw [Nat.min_eq_left h]; exact Array.getElem?_eq_none (Nat.le_refl _))
      · exact .inr (by rw [Nat.min_eq_right h]; exact Array.getElem?_eq_none (Nat.le_refl _))
    exact RZ.pyNext_zipT_end hh D hz hTI hTO h1 h2 hl1 hl2 hend fun h' hk => hQ h' s.toks fun c o hc e =>
      hk c o (fun x => hc (by simp [x])) (fun x => hc (by simp [x])) (fun x => hc (by simp [x])) (fun x => hc (by simp [x])) e
  self := fun i s Q E hst hQ => wpAny_pyIter_zip hst.1 hQ
theorem vals_get : ∀ {xs : List V} {us : List Value} {j : Nat} {u : Value}, Vals xs us → us[j]? = some u → ∃ x, xs[j]? = some x ∧ RelV x u
  | _, _, 0, _, .cons r _, e => by
    simp at e
    subst e
    exact ⟨_, rfl, r⟩
  | _, _, j + 1, _, .cons _ rr, e => by
    simp at e
    obtain ⟨x, hx, r⟩ := vals_get rr e
    exact ⟨x, by simpa using hx, r⟩
/-- the generator expression's own scope, two names -/
structure GenS2 (env : Env) (scope : Scope) (xa xb : Str) : Prop where
  kind : scope.kind = .function
  co : scope.isCoroutine = false
  cell : ∀ y ∈ scope.names, y.2 ≠ .cell
  dot : scope.names.lookup (".0" : Str) = some NameKind.local
  la : scope.names.lookup xa = some .local
  lb : scope.names.lookup xb = some .local
  free : ∀ y ∈ scope.names, y.2 = .free → ∃ c, env.cells.lookup y.1 = some c
/-- the element at two values: a test whose outcome is r -/
def EltZ (prog : Program) (w : World) (scope : Scope) (xa xb : Str) (elt : Expr) (U : Nat) (hb : Heap) (P : Addr) (x y : V) (r : Bool) : Prop :=
  ∀ (cenv : Env) (A' : Around) (E' : Value → Shared → Prop) (va vb : Value) (s₂ : Shared) (m₂ : Str → Option Value), cenv.scope = scope → A'.units ≤ U → s₂.heap.Ns cenv.locals m₂ → m₂ xa = some va → m₂ xb = some vb → RelV x va → RelV y vb →
    (∀ b o, b ≠ P → hb.get? b = some o → s₂.heap.get? b = some o) → wpAny (model prog w) A' (eval elt cenv) (fun v s₃ => v = .bool r ∧ Keeps s₂ s₃) E' s₂
def ReadyZ (X : Cx) (pins : List (Addr × Obj)) (σ : L2.St) (H1 : Hp) (P : Addr) (rs : List Bool) (g : Addr) (s5 : Shared) : Prop :=
  ∃ (fp wr : List Addr) (G : Array GenState → Array GenState → Prop) (n : Nat) (F : Nat → Value → Prop) (St : Nat → Shared → Prop),
    n = rs.length ∧ WalksS X.prog X.w X.A.in1 g fp wr G n F St ∧ St 0 s5 ∧
    TruthOf X.prog X.w X.A.in1 F (fun j => (rs[j]?).getD false) ∧
    ∀ s', Moved wr G s5 s' → ∃ H2, Tabbed P H1 H2 ∧ Inv X pins σ H2 s'
section
variable {X : Cx} {pins : List (Addr × Obj)} {σ : L2.St} {H : Hp} {s : Shared}
/-- what the test does at each pair, in any heap like H1 -/
def EltsZ (X : Cx) (scope : Scope) (xa xb : Str) (elt : Expr) (P : Addr) (H1 : Hp) (xs ys : List V) (rs : List Bool) : Prop :=
  rs.length = min xs.length ys.length ∧ ∀ (s : Shared) (pins : List (Addr × Obj)) (σ : L2.St), Inv X pins σ H1 s → ∀ (i : Nat) (x y : V) (r : Bool), xs[i]? = some x → ys[i]? = some y → rs[i]? = some r → EltZ X.prog X.w scope xa xb elt (X.A.units + 8) s.heap P x y r
theorem gen_zip {c P : Addr} {elt e e2 : Expr} {xa xb : Str} {pa pb pt pz cpos gpos : Pos} {kt : Nat} {scope : Scope} {ta : TA} {k : Nat} {Q' : Value → Shared → Prop} {R : List Bool → Hp → Prop}
    (hr : Room k X.A) (TB : TabB X.base X.mg c P) (hcode : X.env.code = .ref c) (S : GenS2 X.env scope xa xb) (hab : xa ≠ xb) (hg : Gl X "zip") (hm : X.mg "zip" = none) (ha : PA X [e, e2] ta)
    (hse : starEach [e, e2] X.env = (false, eval e X.env) :: starEach [e2] X.env) (hpl : (backTo cpos (starEach [e2] X.env)).any (·.1) = false)
    (hs : ∀ v, genFold (.Call (.Name "zip" pz) [e, e2] [] cpos) X.env v = pure v) (I : Inv X pins σ H s)
    (h : ta σ H fun vs H1 => ∃ a b xs ys rs, vs = [.ref a, .ref b] ∧ ((SqL X.K H1 a xs ∧ SqL X.K H1 b ys) ∨ (SqT X.K H1 a xs ∧ SqT X.K H1 b ys)) ∧ TabG H1 P ∧ EltsZ X scope xa xb elt P H1 xs ys rs ∧ R rs H1)
    (hQ : ∀ rs H1 g s5, R rs H1 → ReadyZ X pins σ H1 P rs g s5 → Q' (.ref g) s5) :
    wpAny (model X.prog X.w) X.A (eval (.GeneratorExp elt [⟨.Tuple [.Name xa pa, .Name xb pb] kt pt, .Call (.Name "zip" pz) [e, e2] [] cpos, [], 0⟩] scope gpos) X.env) Q' X.xe s := by
  refine wpAny_GeneratorExp_walksQTD hr.hd S.co (closure_ok S.free) S.cell S.dot S.la S.lb hab S.kind (by have := hr.dp; omega) ?_ hs
  refine Call_ (ld_blt I hg hm PyProof.Rows.boot_zip (PyProof.Rows.callWith_type1 (thn (ha.run cpos pins s σ H _ I h) fun us s1 ⟨vs, H1, I1, r1, q1⟩ => ?_) hse hpl))
  obtain ⟨a, b, xs, ys, rs, ex, hab2, ⟨ps, hP, ht⟩, ⟨hlen, hel⟩, q1⟩ := q1
  subst ex
  cases r1 with
  | cons r rr =>
  cases rr with
  | cons r' rr =>
  cases rr
  cases r
  cases r'
  have hPs : s1.heap.get? P = some { cls := .none, data := .fields ps } := I1.hok P _ hP
  have hPlt : P < s1.heap.objs.size := Heap.lt_size hPs
  -- from the zip object on, over lists or over tuples
  have go : ∀ (h' : Heap) (its its2 : List Value) (St₀ : Nat → Heap → Prop) (Mid : Nat → Addr → Heap → Prop), Vals xs its → Vals ys its2 → (∀ c o, s1.heap.get? c = some o → h'.get? c = some o) → h'.objs.size = s1.heap.objs.size + 5 →
      a < s1.heap.objs.size → b < s1.heap.objs.size → a ≠ P → b ≠ P →
      (∀ A' : Around, A'.handled = none → WalksU X.prog X.w A' (s1.heap.objs.size + 4) [s1.heap.objs.size + 4, s1.heap.objs.size + 2, s1.heap.objs.size + 3, s1.heap.objs.size, s1.heap.objs.size + 1, a, b] [s1.heap.objs.size + 4, s1.heap.objs.size + 3, s1.heap.objs.size, s1.heap.objs.size + 1] (min its.toArray.size its2.toArray.size)
        (fun i vals => ∃ x y, its.toArray[i]? = some x ∧ its2.toArray[i]? = some y ∧ vals = #[x, y]) St₀ Mid) → St₀ 0 h' →
      { s1 with heap := h' }.heap.NoLimit ∧
      wpAny (model X.prog X.w) X.A (genexprCode X.env gpos (X.env.qual ++ "<genexpr>") scope) (fun code s₃ => wpAny (model X.prog X.w) X.A (builtinsFor X.env.globals X.env.builtins) (fun bi s₄ =>
        ∃ Ia fp wr n₀ Pt St₀ Mid pz F, Value.ref (s1.heap.objs.size + 4) = .ref Ia ∧ (∀ A' : Around, A'.handled = none → WalksU X.prog X.w A' Ia fp wr n₀ Pt St₀ Mid) ∧ (∀ i vals, Pt i vals → ∃ va vb, vals = #[va, vb]) ∧ St₀ 0 s₄.heap ∧ (∀ b ∈ fp, b < s₄.heap.objs.size) ∧ s₄.heap.NoLimit ∧ cStatics ∉ wr ∧
          (∀ href : Heap, (∀ b o, s₄.heap.get? b = some o → href.get? b = some o) →
            QuietGenTD X.prog X.w (genEnv scope (cloFrom X.env.cells scope.names []) s₄.heap.objs.size code bi X.env) xa xb [] elt (List.range s₄.heap.objs.size) wr Pt pz F href (X.A.depth + 1) (X.A.units + 8)) ∧
          (∀ a h₅ tk gs, gs.bare = true → s₄.heap.objs.size < a → h₅.objs.size = a + 1 → (∀ b o, s₄.heap.get? b = some o → h₅.get? b = some o) →
            WalksS X.prog X.w X.A.in4 a (a :: s₄.heap.objs.size :: List.range s₄.heap.objs.size) (s₄.heap.objs.size :: wr) (GenOnlyQ s₄.gens.size) (passing pz n₀ 0).length
              (fun j y => ∃ i, (passing pz n₀ 0)[j]? = some i ∧ F i y) (GenAt X.prog X.w X.A.in4 a s₄.gens.size s₄.heap.objs.size (List.range s₄.heap.objs.size) wr pz n₀ F) →
            GenAt X.prog X.w X.A.in4 a s₄.gens.size s₄.heap.objs.size (List.range s₄.heap.objs.size) wr pz n₀ F 0 { s₄ with gens := s₄.gens.push gs, toks := tk, heap := h₅ } →
            Q' (.ref a) { s₄ with gens := s₄.gens.push gs, toks := tk, heap := h₅ })) X.xe s₃) X.xe { s1 with heap := h' } := by
    intro h' its its2 St Mid rv rv2 hk hsz' la lb aP bP W hst
    have l1 := rv.length
    have l2 := rv2.length
    have hP2 : h'.get? P = some { cls := .none, data := .fields ps } := hk _ _ hPs
    have cd : PySem.W.CodeHd h' c P := TB.code.keeps fun b u e => hk _ _ (I1.bk b u e)
    have lim2 : h'.NoLimit := I1.nolimit.keeps hk
    have cont : ∀ (code : Value) (h3 : Heap) (tk : Nat) (ps' : Array Value), Heap.ExtBut P h' h3 → h'.objs.size ≤ h3.objs.size → h3.get? P = some { cls := .none, data := .fields ps' } → (∃ more, ps' = ps ++ more) → TriplesOk ps'.toList →
        wpAny (model X.prog X.w) X.A (builtinsFor X.env.globals X.env.builtins) (fun bi s₄ =>
          ∃ Ia fp wr n₀ Pt St₀ Mid pz F, Value.ref (s1.heap.objs.size + 4) = .ref Ia ∧ (∀ A' : Around, A'.handled = none → WalksU X.prog X.w A' Ia fp wr n₀ Pt St₀ Mid) ∧ (∀ i vals, Pt i vals → ∃ va vb, vals = #[va, vb]) ∧ St₀ 0 s₄.heap ∧ (∀ b ∈ fp, b < s₄.heap.objs.size) ∧ s₄.heap.NoLimit ∧ cStatics ∉ wr ∧
          (∀ href : Heap, (∀ b o, s₄.heap.get? b = some o → href.get? b = some o) →
            QuietGenTD X.prog X.w (genEnv scope (cloFrom X.env.cells scope.names []) s₄.heap.objs.size code bi X.env) xa xb [] elt (List.range s₄.heap.objs.size) wr Pt pz F href (X.A.depth + 1) (X.A.units + 8)) ∧
          (∀ a h₅ tk gs, gs.bare = true → s₄.heap.objs.size < a → h₅.objs.size = a + 1 → (∀ b o, s₄.heap.get? b = some o → h₅.get? b = some o) →
            WalksS X.prog X.w X.A.in4 a (a :: s₄.heap.objs.size :: List.range s₄.heap.objs.size) (s₄.heap.objs.size :: wr) (GenOnlyQ s₄.gens.size) (passing pz n₀ 0).length
              (fun j y => ∃ i, (passing pz n₀ 0)[j]? = some i ∧ F i y) (GenAt X.prog X.w X.A.in4 a s₄.gens.size s₄.heap.objs.size (List.range s₄.heap.objs.size) wr pz n₀ F) →
            GenAt X.prog X.w X.A.in4 a s₄.gens.size s₄.heap.objs.size (List.range s₄.heap.objs.size) wr pz n₀ F 0 { s₄ with gens := s₄.gens.push gs, toks := tk, heap := h₅ } →
            Q' (.ref a) { s₄ with gens := s₄.gens.push gs, toks := tk, heap := h₅ })) X.xe { s1 with heap := h3, toks := tk } := by
      intro code h3 tk ps' hx hsz hP3 hmore ht3
      obtain ⟨bm, ob, e1, e2, e3, e4, e5, e6, e7, e8⟩ := TB.bm
      have hcP : cStatics ≠ P := fun e => by
        obtain ⟨_, hns, _⟩ := I1.nolimit
        obtain ⟨o', es, ep, ho, hd, _⟩ := hns
        rw [e, hPs] at ho
        cases ho
        cases hd
      have hcl : cStatics < s1.heap.objs.size := let ⟨_, hns, _⟩ := I1.nolimit; hns.lt
      have keep3 : ∀ b u, b ≠ P → s1.heap.get? b = some u → h3.get? b = some u := fun b u hb e => hx b u hb (hk _ _ e)
      refine wpAny_builtinsFor (m := X.mg) (by rw [I1.ok.glob]; exact ((I1.mod.glob.keeps I1.bk).keeps hk).extBut hx TB.gP) e1 e2 (keep3 _ _ e4 (I1.bk _ _ e5)) e6 e7 e8 ?_
      refine ⟨s1.heap.objs.size + 4, _, _, _, _, St, Mid, (fun _ => true), (fun i y => ∃ r, rs[i]? = some r ∧ y = .bool r), rfl, W, ?_, ?_, ?_, lim2.extBut hx hcP, ?_, ?_, ?_⟩
      · rintro i vals ⟨x, y, _, _, e⟩
        exact ⟨x, y, e⟩
      · refine (W X.A hr.hd).frame _ _ _ hst fun b' hb u e => hx b' u (fun z => ?_) e
        have : b' = s1.heap.objs.size + 4 ∨ b' = s1.heap.objs.size + 2 ∨ b' = s1.heap.objs.size + 3 ∨ b' = s1.heap.objs.size ∨ b' = s1.heap.objs.size + 1 ∨ b' = a ∨ b' = b := by simpa using hb
        rw [z] at this
        rcases this with q | q | q | q | q | q | q
        · exact absurd hPlt (by rw [q]; exact Nat.not_lt.mpr (Nat.le_add_right _ _))
        · exact absurd hPlt (by rw [q]; exact Nat.not_lt.mpr (Nat.le_add_right _ _))
        · exact absurd hPlt (by rw [q]; exact Nat.not_lt.mpr (Nat.le_add_right _ _))
        · exact absurd hPlt (by rw [q]; exact Nat.lt_irrefl _)
        · exact absurd hPlt (by rw [q]; exact Nat.not_lt.mpr (Nat.le_add_right _ _))
        · exact aP q.symm
        · exact bP q.symm
      · intro b' hb
        show b' < h3.objs.size
        have : b' = s1.heap.objs.size + 4 ∨ b' = s1.heap.objs.size + 2 ∨ b' = s1.heap.objs.size + 3 ∨ b' = s1.heap.objs.size ∨ b' = s1.heap.objs.size + 1 ∨ b' = a ∨ b' = b := by simpa using hb
        refine Nat.lt_of_lt_of_le ?_ (Nat.le_trans (Nat.le_of_eq hsz'.symm) hsz)
        rcases this with q | q | q | q | q | q | q
        · rw [q]; exact Nat.add_lt_add_left (by decide) _
        · rw [q]; exact Nat.add_lt_add_left (by decide) _
        · rw [q]; exact Nat.add_lt_add_left (by decide) _
        · rw [q]; exact Nat.lt_add_of_pos_right (by decide)
        · rw [q]; exact Nat.add_lt_add_left (by decide) _
        · rw [q]; exact Nat.lt_of_lt_of_le la (Nat.le_add_right _ _)
        · rw [q]; exact Nat.lt_of_lt_of_le lb (Nat.le_add_right _ _)
      · intro z
        have : cStatics = s1.heap.objs.size + 4 ∨ cStatics = s1.heap.objs.size + 3 ∨ cStatics = s1.heap.objs.size ∨ cStatics = s1.heap.objs.size + 1 := by simpa using z
        rcases this with q | q | q | q
        · exact absurd hcl (by rw [q]; exact Nat.not_lt.mpr (Nat.le_add_right _ _))
        · exact absurd hcl (by rw [q]; exact Nat.not_lt.mpr (Nat.le_add_right _ _))
        · exact absurd hcl (by rw [q]; exact Nat.lt_irrefl _)
        · exact absurd hcl (by rw [q]; exact Nat.not_lt.mpr (Nat.le_add_right _ _))
      · intro href hhref
        refine ⟨fun A' E' i va vb s₂ m₂ hA _ _ hPv hn hma hmb hkk => ?_, fun A' E' i va vb s₂ m₂ hA _ hu hPv hp hn hma hmb hkk => ?_⟩
        · simp only [List.forIn_nil]
          exact wpAny_pure ⟨rfl, keeps_refl _⟩
        · obtain ⟨x, y, hx', hy', ee⟩ := hPv
          have ea : va = x := by have := congrArg (fun z => z[0]?) ee; simpa using this
          have eb : vb = y := by have := congrArg (fun z => z[1]?) ee; simpa using this
          subst ea eb
          have hx2 : its[i]? = some va := by simpa using hx'
          have hy2 : its2[i]? = some vb := by simpa using hy'
          obtain ⟨x, hxx, rx⟩ := vals_get rv hx2
          obtain ⟨y, hyy, ry⟩ := vals_get rv2 hy2
          have hi : i < rs.length := by
            have h1 := (List.getElem?_eq_some_iff.mp hxx).1
            have h2 := (List.getElem?_eq_some_iff.mp hyy).1
            omega
          have hrr : rs[i]? = some rs[i] := List.getElem?_eq_getElem hi
          refine wpAny_mono (hel s1 pins σ I1 i x y _ hxx hyy hrr _ A' E' va vb s₂ m₂ rfl hu hn hma hmb rx ry fun b' o hb' e => ?_) (fun v s3 r => ⟨⟨_, hrr, r.1⟩, r.2⟩) fun _ _ e => e
          have e3 := keep3 b' o hb' e
          have lt := Heap.lt_size e
          refine hkk b' (List.mem_range.mpr (Nat.lt_of_lt_of_le lt (Nat.le_trans (by rw [hsz']; exact Nat.le_add_right _ _) hsz))) (fun hw => ?_) o (hhref _ _ e3)
          have : b' = s1.heap.objs.size + 4 ∨ b' = s1.heap.objs.size + 3 ∨ b' = s1.heap.objs.size ∨ b' = s1.heap.objs.size + 1 := by simpa using hw
          rcases this with q | q | q | q
          · exact absurd lt (by rw [q]; exact Nat.not_lt.mpr (Nat.le_add_right _ _))
          · exact absurd lt (by rw [q]; exact Nat.not_lt.mpr (Nat.le_add_right _ _))
          · exact absurd lt (by rw [q]; exact Nat.lt_irrefl _)
          · exact absurd lt (by rw [q]; exact Nat.not_lt.mpr (Nat.le_add_right _ _))
      · intro g h5 tk5 gs hgb hag hsz5 hk5 W5 hat
        simp only [GxR.passing_true, List.length_range] at W5
        have en : min its.toArray.size its2.toArray.size = rs.length := by rw [List.size_toArray, List.size_toArray, hlen, ← l1, ← l2]
        refine hQ rs H1 g _ q1 ⟨_, _, _, _, _, _, en, W5.in4_1, hat, ?_, fun s' hm => ?_⟩
        · intro j y sj Qj Ej hy hQj
          obtain ⟨i, hij, r, hrr, rfl⟩ := hy
          obtain ⟨hj, ej⟩ := List.getElem?_eq_some_iff.mp hij
          rw [List.getElem_range] at ej
          subst ej
          have hQ2 : Qj ((rs[j]?).getD false) sj := hQj
          rw [hrr] at hQ2
          exact wpAny_truthy_bool hQ2
        · obtain ⟨more, em⟩ := hmore
          have nwr : ∀ b' u, s1.heap.get? b' = some u → b' ∉ h3.objs.size :: [s1.heap.objs.size + 4, s1.heap.objs.size + 3, s1.heap.objs.size, s1.heap.objs.size + 1] := fun b' u e hb => by
            have hl := Heap.lt_size e
            have : b' = h3.objs.size ∨ b' = s1.heap.objs.size + 4 ∨ b' = s1.heap.objs.size + 3 ∨ b' = s1.heap.objs.size ∨ b' = s1.heap.objs.size + 1 := by simpa using hb
            rcases this with q | q | q | q | q
            · exact absurd hl (by rw [q]; exact Nat.not_lt.mpr (Nat.le_trans (by rw [hsz']; exact Nat.le_add_right _ _) hsz))
            · exact absurd hl (by rw [q]; exact Nat.not_lt.mpr (Nat.le_add_right _ _))
            · exact absurd hl (by rw [q]; exact Nat.not_lt.mpr (Nat.le_add_right _ _))
            · exact absurd hl (by rw [q]; exact Nat.lt_irrefl _)
            · exact absurd hl (by rw [q]; exact Nat.not_lt.mpr (Nat.le_add_right _ _))
          have J := inv_tab (more := more) (h' := s'.heap) (g' := s'.gens) (d' := s'.drawn) (t' := s'.toks) I1 hP (fun b' u hb e => hm.heap b' u (nwr b' u e) (hk5 b' u (keep3 b' u hb e)))
            (by rw [← em]; exact hm.heap P _ (nwr P _ hPs) (hk5 P _ hP3)) (AllBare.movedS (I1.bare.push hgb) hm)
          rw [sh_eta s1 s' hm.os] at J
          exact ⟨upd H1 P (.tbl (ps ++ more)), ⟨⟨ps ++ more, upd_same, by rw [← em]; exact ht3⟩, fun b hb => upd_ne hb⟩, J⟩
    refine ⟨lim2, ?_⟩
    cases hf : codeAmong gpos ps.toList with
    | none =>
      refine wpAny_genexprCodeX hcode (cd.code hP2 ht) (cd.tab hP2) hf fun c' h'' tk hx hge hlt hco' _ htab' _ => ?_
      obtain ⟨o1, vs, f1, tf, fl, tg, inF, tx, tt, op, _, _, _, _, _, _, _, _, _, htr, _⟩ := hco'
      exact cont _ h'' tk _ hx (Nat.le_trans hge (Nat.le_of_lt hlt)) htab'.2 ⟨_, rfl⟩ htr
    | some cv =>
      refine wpAny_genexprCode_hit hcode (cd.code hP2 ht) hf ?_
      exact cont cv h' s1.toks ps (Heap.ExtBut.refl _ _) (Nat.le_refl _) hP2 ⟨#[], by simp⟩ ht
  rcases hab2 with ⟨hqx, hqy⟩ | ⟨hqx, hqy⟩
  · obtain ⟨its, rv, p1, _⟩ := I1.list hqx
    obtain ⟨its2, rv2, p2, _⟩ := I1.list hqy
    refine call_zip_2 p1.isList p2.isList fun h' hz hTI hTO h1 h2 hsz hk => wpAny_pyIter_zip hz ?_
    refine go h' its its2 _ _ rv rv2 hk hsz p1.lt p2.lt ?_ ?_ (fun A' hA => walksU_zipL hA (zipApart_new p1.lt p2.lt) _ _) ⟨hz, hTI, ⟨_, _, hTO⟩, h1, h2, Heap.IsList.at p1.isList (fun o e => hk _ o e), Heap.IsList.at p2.isList (fun o e => hk _ o e)⟩
    · intro e; subst e
      obtain ⟨o, ho, hc, _⟩ := p1.isList
      rw [hPs] at ho; cases ho; cases hc
    · intro e; subst e
      obtain ⟨o, ho, hc, _⟩ := p2.isList
      rw [hPs] at ho; cases ho; cases hc
  · obtain ⟨its, rv, p1, _⟩ := I1.tuple hqx
    obtain ⟨its2, rv2, p2, _⟩ := I1.tuple hqy
    obtain ⟨o1, ho1, hc1, _⟩ := id p1
    obtain ⟨o2, ho2, hc2, _⟩ := id p2
    refine RZ.call_zipT (show s1.heap.IsTuple a its.toArray from p1) (show s1.heap.IsTuple b its2.toArray from p2) fun h' hz hTI hTO h1 h2 hsz hk => wpAny_pyIter_zip hz ?_
    refine go h' its its2 _ _ rv rv2 hk hsz (Heap.lt_size ho1) (Heap.lt_size ho2) ?_ ?_ (fun A' hA => walksU_zipT hA (zipApart_new (Heap.lt_size ho1) (Heap.lt_size ho2)) _ _) ⟨hz, hTI, ⟨_, _, hTO⟩, h1, h2, isTuple_at p1 (fun o e => hk _ o e), isTuple_at p2 (fun o e => hk _ o e)⟩
    · intro e; subst e
      rw [hPs] at ho1; cases ho1; cases hc1
    · intro e; subst e
      rw [hPs] at ho2; cases ho2; cases hc2
theorem all_getD (rs : List Bool) : (List.range rs.length).all (fun j => (rs[j]?).getD false) = rs.all id := by
  rw [Bool.eq_iff_iff, List.all_eq_true, List.all_eq_true]
  constructor
  · intro h b hb
    obtain ⟨j, hj, e⟩ := List.getElem_of_mem hb
    have q := h j (List.mem_range.mpr hj)
    rw [List.getElem?_eq_getElem hj, e] at q
    exact q
  · intro h j hj
    have hj' := List.mem_range.mp hj
    rw [List.getElem?_eq_getElem hj']
    exact h _ (List.getElem_mem hj')
/-- all(test for a, b in zip(x, y)), x and y two lists or two tuples; behind it the def's table may have grown -/
def tAllZ (X : Cx) (scope : Scope) (xa xb : Str) (elt : Expr) (P : Addr) (ta : TA) : TE := fun σ H Q => ta σ H fun vs H1 => ∃ a b xs ys rs, vs = [.ref a, .ref b] ∧ ((SqL X.K H1 a xs ∧ SqL X.K H1 b ys) ∨ (SqT X.K H1 a xs ∧ SqT X.K H1 b ys)) ∧ TabG H1 P ∧
  EltsZ X scope xa xb elt P H1 xs ys rs ∧ ∀ H2, Tabbed P H1 H2 → Q (.bl (rs.all id)) H2
theorem pe_allZ {c P : Addr} {elt e e2 : Expr} {xa xb : Str} {pa pb pt pz p pos cpos gpos : Pos} {kt : Nat} {scope : Scope} {ta : TA} {k : Nat}
    (hr : Room k X.A) (TB : TabB X.base X.mg c P) (hcode : X.env.code = .ref c) (S : GenS2 X.env scope xa xb) (hab : xa ≠ xb) (hg : Gl X "all") (hm : X.mg "all" = none) (hgz : Gl X "zip") (hmz : X.mg "zip" = none) (ha : PA X [e, e2] ta)
    (hb : bootBuiltins "all" = some (.builtin "all") := by decide +kernel)
    (hse : starEach [e, e2] X.env = (false, eval e X.env) :: starEach [e2] X.env := by rfl) (hpl : (backTo cpos (starEach [e2] X.env)).any (·.1) = false := by rfl)
    (hs : ∀ v, genFold (.Call (.Name "zip" pz) [e, e2] [] cpos) X.env v = pure v := by intro _; rfl)
    (he : starEach [.GeneratorExp elt [⟨.Tuple [.Name xa pa, .Name xb pb] kt pt, .Call (.Name "zip" pz) [e, e2] [] cpos, [], 0⟩] scope gpos] X.env = (false, eval (.GeneratorExp elt [⟨.Tuple [.Name xa pa, .Name xb pb] kt pt, .Call (.Name "zip" pz) [e, e2] [] cpos, [], 0⟩] scope gpos) X.env) :: starEach [] X.env := by rfl) :
    PE X (.Call (.Name "all" p) [.GeneratorExp elt [⟨.Tuple [.Name xa pa, .Name xb pb] kt pt, .Call (.Name "zip" pz) [e, e2] [] cpos, [], 0⟩] scope gpos] [] pos) (tAllZ X scope xa xb elt P ta) := by
  refine ⟨fun pins s σ H Q I h => ?_⟩
  refine wpAny_Call_Name_kw (ld_blt I hg hm hb ?_)
  refine PyProof.Rows.callWith_builtin1 ?_ he (by rfl)
  rw [he]
  show wpAny _ _ (spliced ((false, eval (.GeneratorExp elt [⟨.Tuple [.Name xa pa, .Name xb pb] kt pt, .Call (.Name "zip" pz) [e, e2] [] cpos, [], 0⟩] scope gpos) X.env) :: backTo pos (starEach [] X.env))) _ _ s
  refine Calls.spliced_cons (gen_zip (R := fun rs H1 => ∀ H2, Tabbed P H1 H2 → Q (.bl (rs.all id)) H2) hr TB hcode S hab hgz hmz ha hse hpl hs I h fun rs H1 g s5 hR hG => ?_)
  obtain ⟨fp, wr, G, n, F, St, hn, W, hst, htr, hI⟩ := hG
  refine Calls.spliced_nil ?_
  refine call_all_walkS (W.self 0 _ _ _ hst ⟨g, fp, wr, G, _, F, St, _, rfl, W, hst, htr, fun s' hmv => ?_⟩)
  obtain ⟨H2, hT, J⟩ := hI s' hmv
  refine ⟨.bl _, H2, J, rfl, ?_⟩
  rw [hn, all_getD rs]
  exact hR H2 hT
end
end Fw

set_option maxRecDepth 100000
set_option maxHeartbeats 4000000
/-! Sorting of triples of whole numbers, setdefault on tuple keys, tests within a generator. -/
namespace Fw
open PySem PySem.Spec PyProof.Rows L2 GxR
/-! ### triples -/
abbrev T3 := Int × Int × Int
def lex3 (p q : T3) : Bool := if p.1 = q.1 then (if p.2.1 = q.2.1 then decide (p.2.2 < q.2.2) else decide (p.2.1 < q.2.1)) else decide (p.1 < q.1)
def Lt3 (p q : T3) : Prop := p.1 < q.1 ∨ (p.1 = q.1 ∧ (p.2.1 < q.2.1 ∨ (p.2.1 = q.2.1 ∧ p.2.2 < q.2.2)))
theorem lex3_iff {p q : T3} : lex3 p q = true ↔ Lt3 p q := by
  unfold lex3 Lt3
  split
  · split
    · rw [decide_eq_true_eq]; omega
    · rw [decide_eq_true_eq]; omega
  · rw [decide_eq_true_eq]; omega
theorem lex3_no {p q : T3} : lex3 p q = false ↔ ¬ Lt3 p q := by
  rw [← lex3_iff]
  cases lex3 p q <;> simp
theorem swo3 {α : Type} (k : α → T3) : SrtO.Swo fun v u => lex3 (k v) (k u) := by
  refine ⟨fun x y h => ?_, fun x y z h1 h2 => ?_⟩
  · have a := lex3_iff.mp h
    refine lex3_no.mpr ?_
    unfold Lt3 at *
    omega
  · have a := lex3_no.mp h1
    have b := lex3_no.mp h2
    refine lex3_no.mpr ?_
    unfold Lt3 at *
    omega
def IsTrip (h : Heap) (v : Value) (x : T3) : Prop := ∃ a o t u r n, v = .ref a ∧ h.get? a = some o ∧ o.cls = .type "tuple" ∧ o.data = .seq #[.int x.1 t, .int x.2.1 u, .int x.2.2 r] n
theorem IsTrip.keeps {h h' : Heap} {v : Value} {x : T3} (p : IsTrip h v x) (k : ∀ b o, h.get? b = some o → o.cls = .type "tuple" → h'.get? b = some o) : IsTrip h' v x := by
  obtain ⟨a, o, t, u, r, n, e, ho, hc, hd⟩ := p
  exact ⟨a, o, t, u, r, n, e, k a o ho hc, hc, hd⟩
section
variable {prog : Program} {w : World} {A : Around} {E : Value → Shared → Prop} {s : Shared}
theorem trip_cmp {vs : List Value} {k : Value → T3} (hp : ∀ v ∈ vs, IsTrip s.heap v (k v)) : SrtO.Cmp prog w A s (PyProof.Rows.tuples' true) (fun p => p.1 ∈ vs) (SrtO.lt2 fun v u => lex3 (k v) (k u)) := by
  intro p q hm hm'
  have h1 := hp _ hm
  have h2 := hp _ hm'
  show wpAny (model prog w) A (keyLt' (PyProof.Rows.tuples' true) p.1 q.1) (fun r s' => s' = s ∧ r = lex3 (k p.1) (k q.1)) (fun _ _ => False) s
  unfold lex3
  generalize (k p.1) = x at h1 ⊢
  generalize (k q.1) = x' at h2 ⊢
  obtain ⟨x, y, z⟩ := x
  obtain ⟨x', y', z'⟩ := x'
  obtain ⟨a, o, t, u, r, n, e, ho, hc, hd⟩ := h1
  obtain ⟨a', o', t', u', r', n', e', ho', hc', hd'⟩ := h2
  rw [e, e']
  simp only at hd hd' ⊢
  refine PySem.W.kat_lt ho hd ho' hd' ?_
  show PySem.W.KatLex prog w A true (decide (3 < 3)) _ [(.int x t, .int x' t'), (.int y u, .int y' u'), (.int z r, .int z' r')] 0 s
  refine PySem.W.kat_cons (SeqAt.EqAt.int_int x t x' t' prog w _ _ ?_)
  refine PySem.W.kat_go (fun e1 => ?_) (fun e1 => ?_)
  · have ex : x = x' := by simpa using e1
    rw [if_pos ex]
    refine PySem.W.kat_yes (PySem.W.kat_cons (SeqAt.EqAt.int_int y u y' u' prog w _ _ ?_))
    refine PySem.W.kat_go (fun e2 => ?_) (fun e2 => ?_)
    · have ey : y = y' := by simpa using e2
      rw [if_pos ey]
      refine PySem.W.kat_yes (PySem.W.kat_cons (SeqAt.EqAt.int_int z r z' r' prog w _ _ ?_))
      refine PySem.W.kat_go (fun e3 => ?_) (fun e3 => ?_)
      · have ez : z = z' := by simpa using e3
        have e4 : decide (z < z') = false := by rw [ez]; exact decide_eq_false (Int.lt_irrefl _)
        rw [e4]
        exact PySem.W.kat_yes (PySem.W.kat_nil ⟨rfl, rfl⟩)
      · refine PySem.W.kat_no (PySem.W.kat_one _ _ (PyProof.Rows.lt_int ?_))
        exact (show s = s ∧ decide (z < z') = decide (z < z') from ⟨rfl, rfl⟩)
    · have ey : ¬ y = y' := by simpa using e2
      rw [if_neg ey]
      refine PySem.W.kat_no (PySem.W.kat_one _ _ (PyProof.Rows.lt_int ?_))
      exact (show s = s ∧ decide (y < y') = decide (y < y') from ⟨rfl, rfl⟩)
  · have ex : ¬ x = x' := by simpa using e1
    rw [if_neg ex]
    exact PySem.W.kat_no (PyProof.Rows.oneLt_int ⟨rfl, rfl⟩)
theorem firsts3 {h : Heap} {k : Value → T3} : ∀ {vs : List Value}, (∀ v ∈ vs, IsTrip h v (k v)) → ∃ fs : List Value, PySem.W.KatTups h vs fs ∧ fs.length = vs.length ∧ ∀ f ∈ fs, ∃ x t, f = Value.int x t
  | [], _ => ⟨[], PySem.W.KatTups.nil, rfl, fun _ hm => by simp at hm⟩
  | v :: vs, hp => by
    obtain ⟨fs, h1, h2, h3⟩ := firsts3 (vs := vs) fun v' hm => hp v' (List.mem_cons_of_mem _ hm)
    obtain ⟨a, o, t, u, r, n, e, ho, hc, hd⟩ := hp v (List.mem_cons_self ..)
    refine ⟨.int (k v).1 t :: fs, ?_, by rw [List.length_cons, List.length_cons, h2], fun f hm => ?_⟩
    · generalize k v = kv at hd ⊢
      subst e
      exact PySem.W.KatTups.cons ho hc hd rfl h1
    · rcases List.mem_cons.mp hm with rfl | hm
      · exact ⟨_, t, rfl⟩
      · exact h3 f hm
theorem trips_sortableO {a : Addr} {vs : List Value} {k : Value → T3} (h0 : 0 < vs.length) (hp : ∀ v ∈ vs, IsTrip s.heap v (k v)) (ha : ∀ o, s.heap.get? a = some o → o.cls ≠ .type "tuple") : SrtO.SortableO prog w A s a vs fun v u => lex3 (k v) (k u) := by
  intro h' keep
  have hp' : ∀ v ∈ vs, IsTrip h' v (k v) := fun v hm => (hp v hm).keeps fun b o e c => keep b o (fun z => by subst z; exact ha o e c) e
  obtain ⟨fs, h1, h2, h3⟩ := firsts3 hp'
  refine ⟨PyProof.Rows.tuples' true, fun Q E hq => ?_, trip_cmp hp'⟩
  refine PySem.W.kat_kind (T := .type "int") h1 (by omega) (fun f hm => ?_) (by rfl) ?_
  · obtain ⟨x, t, rfl⟩ := h3 f hm
    exact PySem.W.Looks.now
  · have e : (Value.type "int" != Value.type "tuple") = true := by first | decide +kernel | rfl | decide
    rw [e]
    exact hq
theorem sorted_trips {l : Addr} {vs : List Value} {k : Value → T3} {Q : Value → Shared → Prop} (hl : s.heap.IsList l vs.toArray) (hz : vs.length ≤ sizeLine) (hp : ∀ v ∈ vs, IsTrip s.heap v (k v))
    (h : ∀ (h' : Heap) (d : Addr) (out : List Value), SrtO.Srtd (fun v u => lex3 (k v) (k u)) out → SrtO.Stb (fun v u => lex3 (k v) (k u)) out vs → (∀ b o, s.heap.get? b = some o → h'.get? b = some o) → s.heap.objs.size ≤ d → (∃ n, h'.get? d = some (seqObj "list" out.toArray n)) → Q (.ref d) { s with heap := h' }) :
    wpAny (model prog w) A (call (.builtin "sorted") [.ref l]) Q E s := by
  refine SrtO.sorted_ord (swo3 k) hl hz (fun h2 h₁ a ha kk => ?_) fun out hs hb => ?_
  · refine trips_sortableO (s := { s with heap := h₁ }) (by omega) (fun v hm => (hp v hm).keeps fun b o e _ => (kk b o e).2) fun o e => ?_
    have e' : some o = some (seqObj "list" vs.toArray 0) := e.symm.trans ha
    cases e'
    intro c
    exact absurd (Value.type.inj c) (by decide)
  · exact h _ _ out hs hb (fun b o e => sortedAll_old e) (Nat.le_succ _) (sortedAll_at s.heap vs out.toArray)
end
/-- sorted(xs), xs a list of triples of ints (k says which): a new list, sorted, equal ones in their order -/
def rSorted3 (K : PySem.W.Frag) : List V → Hp → VK → Prop := fun vs H Q => ∃ (a : Addr) (xs : List V) (k : V → T3), vs = [V.ref a] ∧ SqL K H a xs ∧ (∀ x ∈ xs, ∃ t, x = V.ref t ∧ H t = some (.tup [.int (k x).1, .int (k x).2.1, .int (k x).2.2])) ∧
  ∀ ys p, SrtO.Srtd (fun x y => lex3 (k x) (k y)) ys → SrtO.Stb (fun x y => lex3 (k x) (k y)) ys xs → H p = none → Q (.ref p) (upd H p (.lst ys))
section
variable {X : Cx}
theorem vals3 {x y z : V} {its : List Value} (r : Vals [x, y, z] its) : ∃ u1 u2 u3, its = [u1, u2, u3] ∧ RelV x u1 ∧ RelV y u2 ∧ RelV z u3 := by
  cases r with
  | cons a r => cases r with
    | cons b r => cases r with
      | cons c r => cases r; exact ⟨_, _, _, rfl, a, b, c⟩
theorem cr_sorted3 : CallR X (.builtin "sorted") (rSorted3 X.K) := by
  intro pins s σ H vs us Q I r h
  obtain ⟨a, xs, k, rfl, hs, hx, q⟩ := h
  obtain ⟨its, rv, hl, hz⟩ := I.list hs
  obtain ⟨u, rfl, ru⟩ := vals1 r
  obtain rfl : u = Value.ref a := ru
  obtain ⟨e1, e2⟩ := refs_back rv fun x m => by
    obtain ⟨t, e, _⟩ := hx x m
    exact ⟨t, e⟩
  refine sorted_trips (k := fun u => k (backV u)) hl.isList (by rw [← rv.length]; exact hz) (fun v hv => ?_) fun h' d out h1 h2 kp hd hn => ?_
  · obtain ⟨t, rfl⟩ := e2 v hv
    have hm : V.ref t ∈ xs := by rw [e1]; exact List.mem_map.mpr ⟨_, hv, rfl⟩
    obtain ⟨t', e, ht⟩ := hx _ hm
    cases e
    obtain ⟨_, its2, r2, o, ho, hc, n, hd⟩ := I.hok _ _ ht
    obtain ⟨u1, u2, u3, rfl, ri, rj, rk⟩ := vals3 r2
    obtain ⟨t1, rfl⟩ := ri
    obtain ⟨t2, rfl⟩ := rj
    obtain ⟨t3, rfl⟩ := rk
    exact ⟨t, o, t1, t2, t3, n, rfl, ho, hc, hd⟩
  · have h3 : ∀ u ∈ out, ∃ a, u = Value.ref a := fun u hu => e2 u (h2.perm.mem_iff.mp hu)
    obtain ⟨n, hn⟩ := hn
    have hb : SrtO.Stb (fun x y => lex3 (k x) (k y)) (out.map backV) xs := by
      rw [e1]
      exact SrtO.Stb.map (swo3 k) backV h2
    refine ⟨.ref d, upd H d (.lst (out.map backV)), I.laid (t' := s.toks) kp hd ⟨?_, out, n, vals_back h3, hn⟩, rfl, q _ d (SrtO.srtd_map h1) hb (I.hok.fresh hd)⟩
    rw [hb.len]
    exact hz
end
/-! ### d.setdefault(k, z), k a tuple -/
section
variable {X : Cx} {pins : List (Addr × Obj)} {σ : L2.St} {H : Hp} {s : Shared} {a b : Addr} {r : Value} {d : V} {k : List Key} {A : Around} {E : Value → Shared → Prop}
theorem d_setdT {kvs : List (List Key × V)} {Q : Value → Shared → Prop} (hu : A.units + 1 < cLine) (I : Inv X pins σ H s) (e : H a = some (.dT kvs)) (eb : H b = some (.tup (k.map kV))) (rd : RelV d r) (hl : kvs.length < sizeLine)
    (h1 : ∀ v, valV kvs k = some v → ∀ (w' : Value) (s' : Shared), Inv X pins σ H s' → RelV v w' → Q w' s') (h2 : valV kvs k = none → ∀ (w' : Value) (s' : Shared), Inv X pins σ (upd H a (.dT (putK kvs k d))) s' → RelV d w' → Q w' s') :
    wpAny (model X.prog X.w) A (call (.builtin "dict.setdefault") [.ref a, .ref b, r]) Q E s := by
  obtain ⟨z, hd, xs, rel, dd⟩ := dt_of I.hok e
  have hz : xs.length ≤ sizeLine := by rw [← Paired.length rel]; exact z
  have hl2 : (putK kvs k d).length ≤ sizeLine := by have := length_putK kvs k d; omega
  refine call_setdefault_heap (hsz := hz) (tupleKind_room_in1 hu) (key_of I.hok eb) hd dd (fun p hp => ?_) fun hn h' dd' hs => ?_
  · have q := rel.val k
    rw [hp] at q
    cases q0 : valV kvs k with
    | none =>
      rw [q0] at q
      exact (show False from q).elim
    | some v0 =>
      rw [q0] at q
      exact h1 v0 q0 _ _ (I.tok _) q
  · have q := rel.val k
    rw [hn] at q
    cases q0 : valV kvs k with
    | some v0 =>
      rw [q0] at q
      exact (show False from q).elim
    | none =>
      obtain ⟨q, es, ep, hq, h2', h3, h4, _, h5⟩ := dd'
      refine h2 q0 _ _ (d_write (t' := s.toks + _) I (by rw [e]; exact True.intro) hs ⟨q, hq⟩ ⟨hl2, hd, _, (rel.put k eb rd).keeps fun c ys ec => ?_, q, es, ep, hq, h2', h3, h4, h5⟩) rd
      rw [upd_ne (ne_of ec e (fun z => nomatch z))]
      exact ec
end
def tDSetdT (td ty tx : TE) : TE := fun σ H Q => td σ H fun x H1 => ∃ a, x = .ref a ∧ IsD H1 a ∧ ty σ H1 fun y H2 => tx σ H2 fun z H3 => ∃ (kvs : List (List Key × V)) (k : List Key) (b : Addr), H3 a = some (.dT kvs) ∧ y = .ref b ∧ H3 b = some (.tup (k.map kV)) ∧ kvs.length < sizeLine ∧
  (∀ v, valV kvs k = some v → Q v H3) ∧ (valV kvs k = none → Q z (upd H3 a (.dT (putK kvs k z))))
section
variable {X : Cx} {o e f : Expr} {td ty tx : TE} {apos cpos : Pos}
theorem pe_dsetdT (hu : X.A.units + 1 < cLine) (ho : PE X o td) (he : PE X e ty) (hf : PE X f tx) (m : M2 X o "setdefault" apos e f cpos) : PE X (.Call (.Attribute o "setdefault" apos) [e, f] [] cpos) (tDSetdT td ty tx) := by
  refine ⟨fun pins s σ H Q I h => ?_⟩
  refine wpAny_Call_method m.base m.few m.line PySem.F.plainAttrs_dict PySem.F.slot_dict_setdefault PySem.F.type_dict_setdefault (thn (ho.run pins s σ H _ I h) fun u s1 ⟨x, H1, I1, rx, a, ex, d, q1⟩ => ?_)
  subst ex
  obtain rfl : u = Value.ref a := rx
  obtain ⟨t1, t2, _⟩ := isD_at I1 d
  refine ⟨t1, t2, ?_⟩
  rw [m.trees]
  refine Calls.callWith_builtin rfl (Calls.evalArgs_plain (Calls.spliced_cons (thn (he.run pins s1 σ H1 _ I1 q1) fun iv s2 ⟨y, H2, I2, ry, q2⟩ =>
    Calls.spliced_cons (thn (hf.run pins s2 σ H2 _ I2 q2) fun fv s3 ⟨z, H3, I3, rz, kvs, k, b, ea, ey, eb, hl, q3, q4⟩ => Calls.spliced_nil ?_))))
  subst ey
  obtain rfl : iv = Value.ref b := ry
  exact d_setdT hu I3 ea eb rz hl (fun v hv w' s4 I4 rw' => ⟨v, _, I4, rw', q3 v hv⟩) fun hn w' s4 I4 rw' => ⟨z, _, I4, rw', q4 hn⟩
end
/-! ### tests within a generator -/
theorem eltZ_lt_int {prog : Program} {w : World} {scope : Scope} {xa xb : Str} {U : Nat} {hb : Heap} {P : Addr} {p1 p2 p3 : Pos} (a b : Int) (hk : scope.kind = .function) (la : scope.names.lookup xa = some .local) (lb : scope.names.lookup xb = some .local)
    (da : (xa == ("__debug__" : Str)) = false := by decide) (db : (xb == ("__debug__" : Str)) = false := by decide) :
    EltZ prog w scope xa xb (.Compare (.Name xa p1) [.Lt] [.Name xb p2] p3) U hb P (.int a) (.int b) (decide (a < b)) := by
  intro cenv A' E' va vb s₂ m₂ hs _ hn hma hmb ra rb _
  obtain ⟨t, rfl⟩ := ra
  obtain ⟨u, rfl⟩ := rb
  refine wpAny_Compare1 ?_
  refine wpAny_Name (wpAny_loadName_local (by rw [hs]; exact hk) (show cenv.scope.names.lookup xa = some .local by rw [hs]; exact la) hn hma ?_) da
  refine wpAny_Name (wpAny_loadName_local (by rw [hs]; exact hk) (show cenv.scope.names.lookup xb = some .local by rw [hs]; exact lb) hn hmb ?_) db
  exact PyProof.Rows.lt_int ⟨rfl, keeps_refl _⟩
theorem lexLt3 (p q : T3) : HT.lexLt [p.1, p.2.1, p.2.2] [q.1, q.2.1, q.2.2] = lex3 p q := by
  unfold lex3
  rw [HT.lexLt_cons, HT.lexLt_cons, HT.lexLt_cons, HT.lexLt_nil_nil]
  by_cases h : p.1 = q.1
  · rw [if_pos h, if_pos h]
    by_cases h2 : p.2.1 = q.2.1
    · rw [if_pos h2, if_pos h2]
      by_cases h3 : p.2.2 = q.2.2
      · rw [if_pos h3, h3]
        exact (decide_eq_false (Int.lt_irrefl _)).symm
      · rw [if_neg h3]
    · rw [if_neg h2, if_neg h2]
  · rw [if_neg h, if_neg h]
theorem eltZ_lt_trip {X : Cx} {pins : List (Addr × Obj)} {σ : L2.St} {H1 : Hp} {s : Shared} {scope : Scope} {xa xb : Str} {U : Nat} {P : Addr} {p1 p2 p3 : Pos} (I : Inv X pins σ H1 s) (hP : TabG H1 P) (hU : U < cLine) {t u : Addr} {p q : T3}
    (ht : H1 t = some (.tup [.int p.1, .int p.2.1, .int p.2.2])) (hu : H1 u = some (.tup [.int q.1, .int q.2.1, .int q.2.2])) (hk : scope.kind = .function) (la : scope.names.lookup xa = some .local) (lb : scope.names.lookup xb = some .local)
    (da : (xa == ("__debug__" : Str)) = false := by decide) (db : (xb == ("__debug__" : Str)) = false := by decide) :
    EltZ X.prog X.w scope xa xb (.Compare (.Name xa p1) [.Lt] [.Name xb p2] p3) U s.heap P (.ref t) (.ref u) (lex3 p q) := by
  intro cenv A' E' va vb s₂ m₂ hs hA hn hma hmb ra rb hkp
  cases ra
  cases rb
  obtain ⟨ps, hP, _⟩ := hP
  have nP : ∀ {b : Addr} {xs : List V}, H1 b = some (.tup xs) → b ≠ P := fun e z => by rw [z, hP] at e; cases e
  have tup : ∀ {b : Addr} {p : T3}, H1 b = some (.tup [.int p.1, .int p.2.1, .int p.2.2]) → ∃ its : Array Value, IsTup s₂.heap b its ∧ IntsAre its.toList [p.1, p.2.1, p.2.2] := fun {b p} e => by
    obtain ⟨_, its2, r2, o, ho, hc, n, hd⟩ := I.hok _ _ e
    obtain ⟨u1, u2, u3, rfl, ri, rj, rk⟩ := vals3 r2
    obtain ⟨t1, rfl⟩ := ri
    obtain ⟨t2, rfl⟩ := rj
    obtain ⟨t3, rfl⟩ := rk
    exact ⟨_, ⟨o, hkp b o (nP e) ho, hc, n, hd⟩, .cons _ _ (.cons _ _ (.cons _ _ .nil))⟩
  obtain ⟨its, T1, i1⟩ := tup ht
  obtain ⟨its2, T2, i2⟩ := tup hu
  refine wpAny_Compare1 ?_
  refine wpAny_Name (wpAny_loadName_local (by rw [hs]; exact hk) (show cenv.scope.names.lookup xa = some .local by rw [hs]; exact la) hn hma ?_) da
  refine wpAny_Name (wpAny_loadName_local (by rw [hs]; exact hk) (show cenv.scope.names.lookup xb = some .local by rw [hs]; exact lb) hn hmb ?_) db
  refine HT.lt_tupInts T1 T2 i1 i2 (Nat.lt_of_le_of_lt hA hU) ?_
  rw [lexLt3]
  exact ⟨rfl, keeps_refl _⟩
end Fw

/-! What a class of worlds asks of numbers, rows and steps: pure mathematics. -/
namespace Fw
def asc {α : Type} (lt : α → α → Bool) : List α → Bool
  | [] => true
  | [_] => true
  | x :: y :: l => lt x y && asc lt (y :: l)
def adj {α : Type} (lt : α → α → Bool) (l : List α) : List Bool := (l.zip l.tail).map fun p => lt p.1 p.2
theorem adj_len {α : Type} (lt : α → α → Bool) (l : List α) : (adj lt l).length = min l.length l.tail.length := by
  unfold adj
  rw [List.length_map, List.length_zip]
theorem adj_get {α : Type} {lt : α → α → Bool} {l : List α} {i : Nat} {r : Bool} (h : (adj lt l)[i]? = some r) : ∃ x y, l[i]? = some x ∧ l.tail[i]? = some y ∧ r = lt x y := by
  unfold adj at h
  rw [List.getElem?_map] at h
  cases e : (l.zip l.tail)[i]? with
  | none => rw [e] at h; cases h
  | some p =>
    rw [e] at h
    have := List.getElem?_zip_eq_some.mp e
    exact ⟨p.1, p.2, this.1, this.2, (Option.some.inj h).symm⟩
theorem adj_asc {α : Type} (lt : α → α → Bool) : ∀ l : List α, (adj lt l).all id = asc lt l
  | [] => rfl
  | [_] => rfl
  | x :: y :: l => by
    have ih := adj_asc lt (y :: l)
    show (id (lt x y) && (adj lt (y :: l)).all id) = (lt x y && asc lt (y :: l))
    rw [ih]
    rfl
theorem asc_pair {α : Type} {lt : α → α → Bool} (tr : ∀ x y z, lt x y = true → lt y z = true → lt x z = true) : ∀ {l : List α}, asc lt l = true ↔ l.Pairwise fun x y => lt x y = true
  | [] => ⟨fun _ => .nil, fun _ => rfl⟩
  | [x] => ⟨fun _ => List.pairwise_singleton _ _, fun _ => rfl⟩
  | x :: y :: l => by
    have ih := asc_pair tr (l := y :: l)
    unfold asc
    rw [Bool.and_eq_true, ih, List.pairwise_cons (a := x)]
    constructor
    · rintro ⟨h1, h2⟩
      refine ⟨fun z hz => ?_, h2⟩
      rcases List.mem_cons.mp hz with rfl | hz
      · exact h1
      · exact tr _ _ _ h1 ((List.pairwise_cons.mp h2).1 z hz)
    · rintro ⟨h1, h2⟩
      exact ⟨h1 y List.mem_cons_self, h2⟩
def ltI (x y : Int) : Bool := decide (x < y)
theorem ltI_tr (x y z : Int) (h1 : ltI x y = true) (h2 : ltI y z = true) : ltI x z = true := by
  unfold ltI at *
  rw [decide_eq_true_eq] at *
  omega
theorem lex3_tr (x y z : T3) (h1 : lex3 x y = true) (h2 : lex3 y z = true) : lex3 x z = true := by
  rw [lex3_iff] at *
  unfold Lt3 at *
  omega
theorem lex3_irr (x : T3) : lex3 x x = false := by
  rw [lex3_no]
  unfold Lt3
  omega
theorem lex3_anti {x y : T3} (h1 : lex3 x y = false) (h2 : lex3 y x = false) : x = y := by
  rw [lex3_no] at *
  unfold Lt3 at *
  obtain ⟨a, b, c⟩ := x
  obtain ⟨a', b', c'⟩ := y
  simp only at *
  have : a = a' ∧ b = b' ∧ c = c' := by omega
  obtain ⟨rfl, rfl, rfl⟩ := this
  rfl
theorem lex3_as {x y : T3} (h : lex3 x y = true) : lex3 y x = false := by
  rw [lex3_no]
  rw [lex3_iff] at h
  unfold Lt3 at *
  omega
/-- one order alone of the same triples, none twice -/
theorem sorted_one : ∀ {a b : List T3}, (a.Pairwise fun x y => lex3 y x = false) → (b.Pairwise fun x y => lex3 x y = true) → a.Perm b → a = b
  | [], b, _, _, h => (List.Perm.nil_eq h)
  | x :: a, [], _, _, h => by have := h.length_eq; cases this
  | x :: a, y :: b, ha, hb, h => by
    have ha' := List.pairwise_cons.mp ha
    have hb' := List.pairwise_cons.mp hb
    have e : x = y := by
      rcases List.mem_cons.mp (h.mem_iff.mp List.mem_cons_self) with q | q
      · exact q
      · rcases List.mem_cons.mp (h.mem_iff.mpr (List.mem_cons_self (a := y) (l := b))) with r | r
        · exact r.symm
        · exact lex3_anti (lex3_as (hb'.1 x q) |> fun z => by
            have z1 := ha'.1 y r
            have z2 := hb'.1 x q
            rw [z1] at z2
            cases z2) (ha'.1 y r)
    subst e
    rw [sorted_one ha'.2 hb'.2 h.cons_inv]
def okNums (l f : Int) : Bool := (decide (1 ≤ l) && decide (l ≤ 3)) && (decide (0 ≤ f) && decide (f ≤ 6))
def okRow (f : Int) (X : List Int) : Bool := X.all (fun x => decide (0 ≤ x) && decide (x ≤ f - 1)) && asc ltI X
def okRows (f : Int) (Xs : List (List Int)) : Bool := (decide (1 ≤ (Xs.length : Int)) && decide ((Xs.length : Int) ≤ 400)) && Xs.all (okRow f)
def okStep (l : Int) (n : Nat) (p : T3) : Bool := (decide (0 ≤ p.2.1) && decide (p.2.1 ≤ l - 1)) && ((decide (0 ≤ p.1) && decide (p.1 ≤ (n : Int) - 1)) && (decide (0 ≤ p.2.2) && decide (p.2.2 ≤ (n : Int) - 1)))
def okSteps (l : Int) (n : Nat) (ss : List T3) : Bool := ss.all (okStep l n) && asc lex3 ss
/-- the ends of the steps from s with l -/
def begS (ss : List T3) (s l : Int) : List Int := (ss.filter fun p => decide (p.1 = s) && decide (p.2.1 = l)).map fun p => p.2.2
theorem begS_snoc (ps : List T3) (p : T3) (s l : Int) : begS (ps ++ [p]) s l = begS ps s l ++ (if (decide (p.1 = s) && decide (p.2.1 = l)) = true then [p.2.2] else []) := by
  unfold begS
  rw [List.filter_append, List.map_append]
  congr 1
  cases c : decide (p.1 = s) && decide (p.2.1 = l)
  · simp [c]
  · simp [c]
theorem beh_begS (W : Wd) (s l : Int) : W.beh s l = begS W.steps s l := rfl
/-- in order they ascend -/
theorem begS_up {ss : List T3} (h : ss.Pairwise fun x y => lex3 x y = true) (s l : Int) : (begS ss s l).Pairwise (· < ·) := by
  unfold begS
  rw [List.pairwise_map]
  have h2 := List.Pairwise.sublist (List.filter_sublist (p := fun p : T3 => decide (p.1 = s) && decide (p.2.1 = l)) (l := ss)) h
  refine h2.imp_of_mem fun {a b} ha hb hab => ?_
  have pa := (List.mem_filter.mp ha).2
  have pb := (List.mem_filter.mp hb).2
  rw [Bool.and_eq_true, decide_eq_true_eq, decide_eq_true_eq] at pa pb
  rw [lex3_iff] at hab
  unfold Lt3 at hab
  omega
end Fw

/-! Parts of worlds: what is true in one that lies in another. Pure mathematics. -/
namespace Fw
def Le (X Y : List Int) : Prop := ∀ s, sIn X s = true → sIn Y s = true
theorem Le.refl (X : List Int) : Le X X := fun _ h => h
/-- in order, of states alone -/
def Norm (n : Nat) (X : List Int) : Prop := X = flt n (sIn X)
theorem filter_sub {α : Type} {p q : α → Bool} (h : ∀ x, p x = true → q x = true) : ∀ l : List α, (l.filter p).Sublist (l.filter q)
  | [] => List.Sublist.slnil
  | x :: l => by
    have ih := filter_sub h l
    cases c : p x with
    | true =>
      rw [List.filter_cons_of_pos c, List.filter_cons_of_pos (h x c)]
      exact ih.cons₂ x
    | false =>
      rw [List.filter_cons_of_neg (by rw [c]; exact Bool.false_ne_true)]
      cases c2 : q x with
      | true => rw [List.filter_cons_of_pos c2]; exact ih.cons x
      | false => rw [List.filter_cons_of_neg (by rw [c2]; exact Bool.false_ne_true)]; exact ih
theorem flt_norm (n : Nat) (p : Int → Bool) : Norm n (flt n p) := by
  unfold Norm
  exact flt_congr fun s h0 h1 => (sIn_flt h0 h1).symm
theorem norm_nil (n : Nat) : Norm n [] := by
  unfold Norm flt
  exact (List.filter_eq_nil_iff.mpr fun _ _ h => by cases h).symm
theorem norm_rng (n : Nat) : Norm n (rng n) := by rw [rng_flt]; exact flt_norm n _
theorem sIn_iff {X : List Int} {s : Int} : sIn X s = true ↔ s ∈ X := decide_eq_true_iff
theorem mem_flt {n : Nat} {p : Int → Bool} {s : Int} : s ∈ flt n p ↔ (0 ≤ s ∧ s < (n : Int)) ∧ p s = true := by
  unfold flt
  rw [List.mem_filter, rng_mem]
theorem Norm.mem {n : Nat} {X : List Int} (h : Norm n X) {s : Int} (hs : s ∈ X) : 0 ≤ s ∧ s < (n : Int) := by
  rw [h] at hs
  exact (mem_flt.mp hs).1
theorem Norm.sub {n : Nat} {X Y : List Int} (hX : Norm n X) (hY : Norm n Y) (h : Le X Y) : X.Sublist Y := by
  rw [hX, hY]
  exact filter_sub h _
theorem Norm.eq {n : Nat} {X Y : List Int} (hX : Norm n X) (hY : Norm n Y) (h : ∀ s, s ∈ X ↔ s ∈ Y) : X = Y := by
  rw [hX, hY]
  exact flt_congr fun s _ _ => by
    cases e : sIn Y s with
    | true => exact sIn_iff.mpr ((h s).mpr (sIn_iff.mp e))
    | false =>
      cases e2 : sIn X s with
      | false => rfl
      | true => rw [sIn_iff.mpr ((h s).mp (sIn_iff.mp e2))] at e; cases e
theorem Norm.len {n : Nat} {X : List Int} (h : Norm n X) : X.length ≤ n := by
  rw [h]
  refine Nat.le_trans (List.length_filter_le _ _) ?_
  rw [rng_len]
  exact Nat.le_refl _
theorem fv_one' {k : One} {x : Int} {f : F} (hk : k.bind = true) {y : Int} (hy : y ∈ fv f) (hn : y ≠ x) : y ∈ fv (.one k x f) := by
  simp only [fv, if_pos hk, List.mem_filter, decide_eq_true_eq]
  exact ⟨hy, hn⟩
theorem setE_same {e : Int → List Int} {x : Int} {X : List Int} : setE e x X x = X := if_pos rfl
theorem setE_ne {e : Int → List Int} {x y : Int} {X : List Int} (h : y ≠ x) : setE e x X y = e y := if_neg h
theorem iter_norm {n : Nat} {f : List Int → List Int} (hf : ∀ X, Norm n X → Norm n (f X)) {X : List Int} (hX : Norm n X) : ∀ k, Norm n (iter f k X)
  | 0 => hX
  | k + 1 => hf _ (iter_norm hf hX k)
theorem val_norm {W : Wd} : ∀ (t : F) (e : Int → List Int), (∀ x ∈ fv t, Norm W.n (e x)) → Norm W.n (val W t e)
  | .nul b, e, h => by
    show Norm W.n (if b = true then rng W.n else [])
    split
    · exact norm_rng _
    · exact norm_nil _
  | .leaf .has n, e, h => flt_norm _ _
  | .leaf .lacks n, e, h => flt_norm _ _
  | .leaf .var x, e, h => h x (List.mem_singleton.mpr rfl)
  | .two b f g, e, h => by
    show Norm W.n (if b = true then flt _ _ else flt _ _)
    split <;> exact flt_norm _ _
  | .one .some l f, e, h => flt_norm _ _
  | .one .all l f, e, h => flt_norm _ _
  | .one .least x f, e, h => iter_norm (fun X hX => val_norm f _ fun y hy => by
      by_cases c : y = x
      · rw [c, setE_same]; exact hX
      · rw [setE_ne c]; exact h y (fv_one' rfl hy c)) (norm_nil _) _
  | .one .most x f, e, h => iter_norm (fun X hX => val_norm f _ fun y hy => by
      by_cases c : y = x
      · rw [c, setE_same]; exact hX
      · rw [setE_ne c]; exact h y (fv_one' rfl hy c)) (norm_rng _) _
theorem Le.flt {n : Nat} {p q : Int → Bool} (h : ∀ s, p s = true → q s = true) : Le (flt n p) (flt n q) := fun s hs => by
  rw [sIn_iff, mem_flt] at hs ⊢
  exact ⟨hs.1, h s hs.2⟩
theorem iter_le {f g : List Int → List Int} (h : ∀ X Y, Le X Y → Le (f X) (g Y)) {X Y : List Int} (hX : Le X Y) : ∀ k, Le (iter f k X) (iter g k Y)
  | 0 => hX
  | k + 1 => h _ _ (iter_le h hX k)
theorem len_filter_le {α : Type} {p q : α → Bool} (h : ∀ x, p x = true → q x = true) (l : List α) : (l.filter p).length ≤ (l.filter q).length :=
  (filter_sub h l).length_le
theorem val_le {W : Wd} : ∀ (t : F) (e e' : Int → List Int), (∀ x ∈ fv t, Le (e x) (e' x)) → Le (val W t e) (val W t e')
  | .nul b, e, e', h => Le.refl _
  | .leaf .has n, e, e', h => Le.refl _
  | .leaf .lacks n, e, e', h => Le.refl _
  | .leaf .var x, e, e', h => h x (List.mem_singleton.mpr rfl)
  | .two b f g, e, e', h => by
    have hf := val_le (W := W) f e e' fun x hx => h x (List.mem_append_left _ hx)
    have hg := val_le (W := W) g e e' fun x hx => h x (List.mem_append_right _ hx)
    show Le (if b = true then Fw.flt _ _ else Fw.flt _ _) (if b = true then Fw.flt _ _ else Fw.flt _ _)
    cases b
    · rw [if_neg Bool.false_ne_true, if_neg Bool.false_ne_true]
      refine Le.flt fun s hs => ?_
      rw [Bool.or_eq_true] at hs ⊢
      exact hs.imp (hg s) (hf s)
    · rw [if_pos rfl, if_pos rfl]
      refine Le.flt fun s hs => ?_
      rw [Bool.and_eq_true] at hs ⊢
      exact ⟨hg s hs.1, hf s hs.2⟩
  | .one .some l f, e, e', h => by
    have hf := val_le (W := W) f e e' h
    refine Le.flt fun s hs => ?_
    rw [decide_eq_true_eq] at hs ⊢
    have := len_filter_le (fun x => hf x) (W.beh s l)
    omega
  | .one .all l f, e, e', h => by
    have hf := val_le (W := W) f e e' h
    refine Le.flt fun s hs => ?_
    rw [decide_eq_true_eq] at hs ⊢
    have := len_filter_le (p := fun k => !sIn (val W f e') k) (q := fun k => !sIn (val W f e) k) (fun x hx => by
      cases c : sIn (val W f e) x with
      | false => rfl
      | true => rw [hf x c] at hx; cases hx) (W.beh s l)
    omega
  | .one .least x f, e, e', h => iter_le (fun X Y hXY => val_le f _ _ fun y hy => by
      by_cases c : y = x
      · rw [c, setE_same, setE_same]; exact hXY
      · rw [setE_ne c, setE_ne c]; exact h y (fv_one' rfl hy c)) (Le.refl _) _
  | .one .most x f, e, e', h => iter_le (fun X Y hXY => val_le f _ _ fun y hy => by
      by_cases c : y = x
      · rw [c, setE_same, setE_same]; exact hXY
      · rw [setE_ne c, setE_ne c]; exact h y (fv_one' rfl hy c)) (Le.refl _) _
/-! ### a chain comes to rest -/
theorem iter_rest {f : List Int → List Int} {X : List Int} {j : Nat} (h : iter f (j + 1) X = iter f j X) : ∀ i, iter f (j + i) X = iter f j X
  | 0 => rfl
  | i + 1 => by
    show f (iter f (j + i) X) = _
    rw [iter_rest h i]
    exact h
theorem rest_of {f : List Int → List Int} {X : List Int} {n : Nat} (h : ∃ j, j ≤ n ∧ iter f (j + 1) X = iter f j X) {k : Nat} (hk : n ≤ k) : iter f k X = iter f n X := by
  obtain ⟨j, hj, e⟩ := h
  have h1 := iter_rest e (k - j)
  have h2 := iter_rest e (n - j)
  rw [show j + (k - j) = k by omega] at h1
  rw [show j + (n - j) = n by omega] at h2
  rw [h1, h2]
theorem rest_up {f : List Int → List Int} {X : List Int} {n : Nat} (hn : ∀ k, Norm n (iter f k X)) (hs : ∀ k, Le (iter f k X) (iter f (k + 1) X)) : ∃ j, j ≤ n ∧ iter f (j + 1) X = iter f j X := by
  apply Classical.byContradiction
  intro no
  have up : ∀ j, j ≤ n + 1 → j ≤ (iter f j X).length := fun j => by
    induction j with
    | zero => intro _; exact Nat.zero_le _
    | succ j ih =>
      intro hj
      have sub := (hn j).sub (hn (j + 1)) (hs j)
      have ne : (iter f j X).length ≠ (iter f (j + 1) X).length := fun e => no ⟨j, by omega, (sub.eq_of_length e).symm⟩
      have := sub.length_le
      have := ih (by omega)
      omega
  have := up (n + 1) (Nat.le_refl _)
  have := (hn (n + 1)).len
  omega
theorem rest_dn {f : List Int → List Int} {X : List Int} {n : Nat} (hn : ∀ k, Norm n (iter f k X)) (hs : ∀ k, Le (iter f (k + 1) X) (iter f k X)) : ∃ j, j ≤ n ∧ iter f (j + 1) X = iter f j X := by
  apply Classical.byContradiction
  intro no
  have dn : ∀ j, j ≤ n + 1 → (iter f j X).length + j ≤ n := fun j => by
    induction j with
    | zero => intro _; exact (hn 0).len
    | succ j ih =>
      intro hj
      have sub := (hn (j + 1)).sub (hn j) (hs j)
      have ne : (iter f (j + 1) X).length ≠ (iter f j X).length := fun e => no ⟨j, by omega, sub.eq_of_length e⟩
      have := sub.length_le
      have := ih (by omega)
      omega
  have := dn (n + 1) (Nat.le_refl _)
  omega
theorem least_rest {W : Wd} {f : F} {x : Int} {e : Int → List Int} (h : ∀ y ∈ fv (.one .least x f), Norm W.n (e y)) {k : Nat} (hk : W.n ≤ k) :
    iter (fun X => val W f (setE e x X)) k [] = iter (fun X => val W f (setE e x X)) (W.n + 1) [] := by
  have N := iter_norm (n := W.n) (f := fun X => val W f (setE e x X)) (fun X hX => val_norm f _ fun y hy => by
      by_cases c : y = x
      · rw [c, setE_same]; exact hX
      · rw [setE_ne c]; exact h y (fv_one' rfl hy c)) (norm_nil _)
  have M : ∀ X Y, Le X Y → Le (val W f (setE e x X)) (val W f (setE e x Y)) := fun X Y hXY => val_le f _ _ fun y hy => by
      by_cases c : y = x
      · rw [c, setE_same, setE_same]; exact hXY
      · rw [setE_ne c, setE_ne c]; exact Le.refl _
  have S : ∀ k, Le (iter (fun X => val W f (setE e x X)) k []) (iter (fun X => val W f (setE e x X)) (k + 1) []) := fun k => by
    induction k with
    | zero => exact fun s hs => by cases hs
    | succ k ih => exact M _ _ ih
  have R := rest_up N S
  rw [rest_of R hk, rest_of R (Nat.le_succ _)]
theorem most_rest {W : Wd} {f : F} {x : Int} {e : Int → List Int} (h : ∀ y ∈ fv (.one .most x f), Norm W.n (e y)) {k : Nat} (hk : W.n ≤ k) :
    iter (fun X => val W f (setE e x X)) k (rng W.n) = iter (fun X => val W f (setE e x X)) (W.n + 1) (rng W.n) := by
  have N := iter_norm (n := W.n) (f := fun X => val W f (setE e x X)) (fun X hX => val_norm f _ fun y hy => by
      by_cases c : y = x
      · rw [c, setE_same]; exact hX
      · rw [setE_ne c]; exact h y (fv_one' rfl hy c)) (norm_rng _)
  have M : ∀ X Y, Le X Y → Le (val W f (setE e x X)) (val W f (setE e x Y)) := fun X Y hXY => val_le f _ _ fun y hy => by
      by_cases c : y = x
      · rw [c, setE_same, setE_same]; exact hXY
      · rw [setE_ne c, setE_ne c]; exact Le.refl _
  have S : ∀ k, Le (iter (fun X => val W f (setE e x X)) (k + 1) (rng W.n)) (iter (fun X => val W f (setE e x X)) k (rng W.n)) := fun k => by
    induction k with
    | zero => exact fun s hs => sIn_iff.mpr (rng_mem.mpr ((N 1).mem (sIn_iff.mp hs)))
    | succ k ih => exact M _ _ ih
  have R := rest_dn N S
  rw [rest_of R hk, rest_of R (Nat.le_succ _)]
/-! ### a world that lies in another -/
def pull (m : Nat) (g : Int → Int) (X : List Int) : List Int := flt m fun k => sIn X (g k)
structure Emb (V W : Wd) (g : Int → Int) : Prop where
  to : ∀ k : Int, 0 ≤ k → k < V.n → 0 ≤ g k ∧ g k < W.n
  fa : ∀ k : Int, 0 ≤ k → k < V.n → ∀ x, sIn (V.at k) x = sIn (W.at (g k)) x
  fo : ∀ k : Int, 0 ≤ k → k < V.n → ∀ l j, j ∈ V.beh k l → 0 ≤ j ∧ j < V.n ∧ g j ∈ W.beh (g k) l
  ba : ∀ k : Int, 0 ≤ k → k < V.n → ∀ l y, y ∈ W.beh (g k) l → ∃ j, j ∈ V.beh k l ∧ g j = y
theorem filter_pos {α : Type} {p : α → Bool} {l : List α} : 0 < ((l.filter p).length : Int) ↔ ∃ x ∈ l, p x = true := by
  constructor
  · intro h
    have : 0 < (l.filter p).length := by omega
    obtain ⟨x, hx⟩ := List.exists_mem_of_length_pos this
    exact ⟨x, (List.mem_filter.mp hx).1, (List.mem_filter.mp hx).2⟩
  · rintro ⟨x, hx, px⟩
    have : x ∈ l.filter p := List.mem_filter.mpr ⟨hx, px⟩
    have := List.length_pos_of_mem this
    omega
theorem filter_zero {α : Type} {p : α → Bool} {l : List α} : ((l.filter p).length : Int) = 0 ↔ ∀ x ∈ l, p x = false := by
  constructor
  · intro h x hx
    have : (l.filter p) = [] := List.length_eq_zero_iff.mp (by omega)
    have := List.filter_eq_nil_iff.mp this x hx
    cases c : p x with
    | false => rfl
    | true => exact absurd c this
  · intro h
    rw [List.filter_eq_nil_iff.mpr fun x hx => by rw [h x hx]; exact Bool.false_ne_true]
    rfl
theorem sIn_pull {m : Nat} {g : Int → Int} {X : List Int} {k : Int} (h0 : 0 ≤ k) (h1 : k < (m : Int)) : sIn (pull m g X) k = sIn X (g k) := sIn_flt h0 h1
theorem val_emb {V W : Wd} {g : Int → Int} (E : Emb V W g) : ∀ (t : F) (d e : Int → List Int), (∀ x ∈ fv t, Norm W.n (e x)) → (∀ x ∈ fv t, d x = pull V.n g (e x)) → val V t d = pull V.n g (val W t e)
  | .nul b, d, e, hn, h => by
    show (if b = true then rng V.n else []) = pull V.n g (if b = true then rng W.n else [])
    cases b
    · rw [if_neg Bool.false_ne_true, if_neg Bool.false_ne_true]
      exact (List.filter_eq_nil_iff.mpr fun _ _ h => by cases h).symm
    · rw [if_pos rfl, if_pos rfl, rng_flt]
      exact flt_congr fun s h0 h1 => (sIn_iff.mpr (rng_mem.mpr (E.to s h0 h1))).symm
  | .leaf .has n, d, e, hn, h => by
    show flt V.n _ = pull V.n g (flt W.n _)
    exact flt_congr fun s h0 h1 => by rw [sIn_flt (E.to s h0 h1).1 (E.to s h0 h1).2, E.fa s h0 h1]
  | .leaf .lacks n, d, e, hn, h => by
    show flt V.n _ = pull V.n g (flt W.n _)
    exact flt_congr fun s h0 h1 => by rw [sIn_flt (E.to s h0 h1).1 (E.to s h0 h1).2, E.fa s h0 h1]
  | .leaf .var x, d, e, hn, h => h x (List.mem_singleton.mpr rfl)
  | .two b f t, d, e, hn, h => by
    have hf := val_emb E f d e (fun x hx => hn x (List.mem_append_left _ hx)) fun x hx => h x (List.mem_append_left _ hx)
    have ht := val_emb E t d e (fun x hx => hn x (List.mem_append_right _ hx)) fun x hx => h x (List.mem_append_right _ hx)
    show (if b = true then flt _ _ else flt _ _) = pull V.n g (if b = true then flt _ _ else flt _ _)
    rw [hf, ht]
    cases b
    · rw [if_neg Bool.false_ne_true, if_neg Bool.false_ne_true]
      exact flt_congr fun s h0 h1 => by rw [sIn_flt (E.to s h0 h1).1 (E.to s h0 h1).2, sIn_pull h0 h1, sIn_pull h0 h1]
    · rw [if_pos rfl, if_pos rfl]
      exact flt_congr fun s h0 h1 => by rw [sIn_flt (E.to s h0 h1).1 (E.to s h0 h1).2, sIn_pull h0 h1, sIn_pull h0 h1]
  | .one .some l f, d, e, hn, h => by
    have hf := val_emb E f d e hn h
    show flt V.n _ = pull V.n g (flt W.n _)
    rw [hf]
    refine flt_congr fun s h0 h1 => ?_
    rw [sIn_flt (E.to s h0 h1).1 (E.to s h0 h1).2]
    refine decide_eq_decide.mpr ?_
    rw [filter_pos, filter_pos]
    constructor
    · rintro ⟨j, hj, pj⟩
      obtain ⟨j0, j1, jg⟩ := E.fo s h0 h1 l j hj
      exact ⟨g j, jg, by rw [sIn_pull j0 j1] at pj; exact pj⟩
    · rintro ⟨y, hy, py⟩
      obtain ⟨j, hj, rfl⟩ := E.ba s h0 h1 l y hy
      obtain ⟨j0, j1, jg⟩ := E.fo s h0 h1 l j hj
      exact ⟨j, hj, by rw [sIn_pull j0 j1]; exact py⟩
  | .one .all l f, d, e, hn, h => by
    have hf := val_emb E f d e hn h
    show flt V.n _ = pull V.n g (flt W.n _)
    rw [hf]
    refine flt_congr fun s h0 h1 => ?_
    rw [sIn_flt (E.to s h0 h1).1 (E.to s h0 h1).2]
    refine decide_eq_decide.mpr ?_
    rw [filter_zero, filter_zero]
    constructor
    · intro q y hy
      obtain ⟨j, hj, rfl⟩ := E.ba s h0 h1 l y hy
      obtain ⟨j0, j1, jg⟩ := E.fo s h0 h1 l j hj
      have := q j hj
      rw [sIn_pull j0 j1] at this
      exact this
    · intro q j hj
      obtain ⟨j0, j1, jg⟩ := E.fo s h0 h1 l j hj
      rw [sIn_pull j0 j1]
      exact q _ jg
  | .one .least x f, d, e, hn, h => by
    have dn : ∀ y ∈ fv (.one .least x f), Norm V.n (d y) := fun y hy => by rw [h y hy]; exact flt_norm _ _
    have N := iter_norm (n := W.n) (f := fun X => val W f (setE e x X)) (fun X hX => val_norm f _ fun y hy => by
      by_cases c : y = x
      · rw [c, setE_same]; exact hX
      · rw [setE_ne c]; exact hn y (fv_one' rfl hy c)) (norm_nil _)
    have key : ∀ k, iter (fun X => val V f (setE d x X)) k [] = pull V.n g (iter (fun X => val W f (setE e x X)) k []) := fun k => by
      induction k with
      | zero => exact (List.filter_eq_nil_iff.mpr fun _ _ h => by cases h).symm
      | succ k ih =>
        show val V f (setE d x _) = pull V.n g (val W f (setE e x _))
        refine val_emb E f _ _ (fun y hy => ?_) fun y hy => ?_
        · by_cases c : y = x
          · rw [c, setE_same]; exact N k
          · rw [setE_ne c]; exact hn y (fv_one' rfl hy c)
        · by_cases c : y = x
          · rw [c, setE_same, setE_same]; exact ih
          · rw [setE_ne c, setE_ne c]; exact h y (fv_one' rfl hy c)
    show iter (fun X => val V f (setE d x X)) (V.n + 1) [] = pull V.n g (iter (fun X => val W f (setE e x X)) (W.n + 1) [])
    rw [← least_rest dn (show V.n ≤ V.n + W.n by omega), ← least_rest hn (show W.n ≤ V.n + W.n by omega)]
    exact key _
  | .one .most x f, d, e, hn, h => by
    have dn : ∀ y ∈ fv (.one .most x f), Norm V.n (d y) := fun y hy => by rw [h y hy]; exact flt_norm _ _
    have N := iter_norm (n := W.n) (f := fun X => val W f (setE e x X)) (fun X hX => val_norm f _ fun y hy => by
      by_cases c : y = x
      · rw [c, setE_same]; exact hX
      · rw [setE_ne c]; exact hn y (fv_one' rfl hy c)) (norm_rng _)
    have key : ∀ k, iter (fun X => val V f (setE d x X)) k (rng V.n) = pull V.n g (iter (fun X => val W f (setE e x X)) k (rng W.n)) := fun k => by
      induction k with
      | zero =>
        show rng V.n = flt V.n _
        rw [rng_flt]
        exact flt_congr fun s h0 h1 => (sIn_iff.mpr (show g s ∈ rng W.n from rng_mem.mpr (E.to s h0 h1))).symm
      | succ k ih =>
        show val V f (setE d x _) = pull V.n g (val W f (setE e x _))
        refine val_emb E f _ _ (fun y hy => ?_) fun y hy => ?_
        · by_cases c : y = x
          · rw [c, setE_same]; exact N k
          · rw [setE_ne c]; exact hn y (fv_one' rfl hy c)
        · by_cases c : y = x
          · rw [c, setE_same, setE_same]; exact ih
          · rw [setE_ne c, setE_ne c]; exact h y (fv_one' rfl hy c)
    show iter (fun X => val V f (setE d x X)) (V.n + 1) (rng V.n) = pull V.n g (iter (fun X => val W f (setE e x X)) (W.n + 1) (rng W.n))
    rw [← most_rest dn (show V.n ≤ V.n + W.n by omega), ← most_rest hn (show W.n ≤ V.n + W.n by omega)]
    exact key _
end Fw

/-! Rows of steps without end, and the fixed points that tell them. Pure mathematics. -/
namespace Fw
inductive RIn (W : Wd) (l : Int) (X : List Int) : Int → Int → Prop
  | here {s : Int} : s ∈ X → RIn W l X s s
  | step {s u t : Int} : s ∈ X → u ∈ W.beh s l → RIn W l X u t → RIn W l X s t
theorem RIn.src {W : Wd} {l : Int} {X : List Int} {s t : Int} (h : RIn W l X s t) : s ∈ X := by cases h <;> assumption
theorem RIn.tgt {W : Wd} {l : Int} {X : List Int} {s t : Int} (h : RIn W l X s t) : t ∈ X := by
  induction h with
  | here h => exact h
  | step _ _ _ ih => exact ih
theorem RIn.trans {W : Wd} {l : Int} {X : List Int} {s t u : Int} (h : RIn W l X s t) (k : RIn W l X t u) : RIn W l X s u := by
  induction h with
  | here _ => exact k
  | step a b _ ih => exact .step a b (ih k)
theorem RIn.snoc {W : Wd} {l : Int} {X : List Int} {s t u : Int} (h : RIn W l X s t) (k : u ∈ W.beh t l) (hu : u ∈ X) : RIn W l X s u := h.trans (.step h.tgt k (.here hu))
theorem RIn.mono {W : Wd} {l : Int} {X Y : List Int} (z : ∀ s ∈ X, s ∈ Y) {s t : Int} (h : RIn W l X s t) : RIn W l Y s t := by
  induction h with
  | here h => exact .here (z _ h)
  | step a b _ ih => exact .step (z _ a) b ih
open Classical in
noncomputable def cyc (W : Wd) (l : Int) (X : List Int) (s : Int) : Bool := decide (∃ u ∈ W.beh s l, RIn W l X u s)
noncomputable def cycL (W : Wd) (l : Int) (X : List Int) : List Int := X.filter (cyc W l X)
open Classical in
noncomputable def lead (W : Wd) (l : Int) (G : List Int) (s : Int) : Bool := decide (∃ t ∈ G, RIn W l (rng W.n) s t)
noncomputable def leadL (W : Wd) (l : Int) (G : List Int) : List Int := flt W.n (lead W l G)
open Classical in
theorem cyc_iff {W : Wd} {l : Int} {X : List Int} {s : Int} : cyc W l X s = true ↔ ∃ u ∈ W.beh s l, RIn W l X u s := by unfold cyc; exact decide_eq_true_iff
open Classical in
theorem lead_iff {W : Wd} {l : Int} {X : List Int} {s : Int} : lead W l X s = true ↔ ∃ t ∈ X, RIn W l (rng W.n) s t := by unfold lead; exact decide_eq_true_iff
theorem mem_leadL {W : Wd} {l : Int} {X : List Int} {s : Int} : s ∈ leadL W l X ↔ ∃ t ∈ X, RIn W l (rng W.n) s t := by
  unfold leadL
  rw [mem_flt, lead_iff]
  constructor
  · exact fun h => h.2
  · rintro ⟨t, h1, h2⟩
    exact ⟨rng_mem.mp h2.src, t, h1, h2⟩
/-! ### least and greatest fixed points of operators on lists -/
structure Op (n : Nat) (f : List Int → List Int) : Prop where
  norm : ∀ X, Norm n X → Norm n (f X)
  mono : ∀ X Y, Le X Y → Le (f X) (f Y)
theorem Le.mem {X Y : List Int} (h : Le X Y) {s : Int} (hs : s ∈ X) : s ∈ Y := sIn_iff.mp (h s (sIn_iff.mpr hs))
theorem Le.of {X Y : List Int} (h : ∀ s ∈ X, s ∈ Y) : Le X Y := fun s hs => sIn_iff.mpr (h s (sIn_iff.mp hs))
theorem lfp_fix {n : Nat} {f : List Int → List Int} (O : Op n f) : f (iter f (n + 1) []) = iter f (n + 1) [] := by
  have N := iter_norm O.norm (norm_nil n)
  have S : ∀ k, Le (iter f k []) (iter f (k + 1) []) := fun k => by
    induction k with
    | zero => exact fun s hs => by cases hs
    | succ k ih => exact O.mono _ _ ih
  have R := rest_up N S
  show iter f (n + 2) [] = _
  rw [rest_of R (show n ≤ n + 2 by omega), rest_of R (Nat.le_succ n)]
theorem lfp_least {n : Nat} {f : List Int → List Int} (O : Op n f) {S : List Int} (h : Le (f S) S) : ∀ k, Le (iter f k []) S
  | 0 => fun s hs => by cases hs
  | k + 1 => fun s hs => h s (O.mono _ _ (lfp_least O h k) s hs)
theorem gfp_fix {n : Nat} {f : List Int → List Int} (O : Op n f) : f (iter f (n + 1) (rng n)) = iter f (n + 1) (rng n) := by
  have N := iter_norm O.norm (norm_rng n)
  have S : ∀ k, Le (iter f (k + 1) (rng n)) (iter f k (rng n)) := fun k => by
    induction k with
    | zero => exact fun s hs => sIn_iff.mpr (rng_mem.mpr ((N 1).mem (sIn_iff.mp hs)))
    | succ k ih => exact O.mono _ _ ih
  have R := rest_dn N S
  show iter f (n + 2) (rng n) = _
  rw [rest_of R (show n ≤ n + 2 by omega), rest_of R (Nat.le_succ n)]
theorem gfp_most {n : Nat} {f : List Int → List Int} (O : Op n f) {S : List Int} (hS : ∀ s ∈ S, 0 ≤ s ∧ s < (n : Int)) (h : Le S (f S)) : ∀ k, Le S (iter f k (rng n))
  | 0 => fun s hs => sIn_iff.mpr (rng_mem.mpr (hS s (sIn_iff.mp hs)))
  | k + 1 => fun s hs => O.mono _ _ (gfp_most O hS h k) s (h s hs)
/-! ### what is read off the parts -/
theorem val_closed {W : Wd} {t : F} (h : fv t = []) (e e' : Int → List Int) : val W t e = val W t e' := by
  have n1 := val_norm (W := W) t e (fun x hx => by rw [h] at hx; cases hx)
  have n2 := val_norm (W := W) t e' (fun x hx => by rw [h] at hx; cases hx)
  have l1 := val_le (W := W) t e e' (fun x hx => by rw [h] at hx; cases hx)
  have l2 := val_le (W := W) t e' e (fun x hx => by rw [h] at hx; cases hx)
  exact n1.eq n2 fun s => ⟨l1.mem, l2.mem⟩
theorem mem_some {W : Wd} {l : Int} {f : F} {e : Int → List Int} {s : Int} : s ∈ val W (.one .some l f) e ↔ (0 ≤ s ∧ s < (W.n : Int)) ∧ ∃ u ∈ W.beh s l, u ∈ val W f e := by
  show s ∈ flt W.n _ ↔ _
  rw [mem_flt, decide_eq_true_eq, filter_pos]
  constructor
  · rintro ⟨h, u, h1, h2⟩
    exact ⟨h, u, h1, sIn_iff.mp h2⟩
  · rintro ⟨h, u, h1, h2⟩
    exact ⟨h, u, h1, sIn_iff.mpr h2⟩
theorem mem_and {W : Wd} {f g : F} {e : Int → List Int} {s : Int} : s ∈ val W (.two true f g) e ↔ (0 ≤ s ∧ s < (W.n : Int)) ∧ s ∈ val W f e ∧ s ∈ val W g e := by
  show s ∈ (if true = true then flt W.n (fun s => sIn (val W g e) s && sIn (val W f e) s) else _) ↔ _
  rw [if_pos rfl, mem_flt, Bool.and_eq_true, sIn_iff, sIn_iff]
  exact ⟨fun h => ⟨h.1, h.2.2, h.2.1⟩, fun h => ⟨h.1, h.2.2, h.2.1⟩⟩
theorem mem_or {W : Wd} {f g : F} {e : Int → List Int} {s : Int} : s ∈ val W (.two false f g) e ↔ (0 ≤ s ∧ s < (W.n : Int)) ∧ (s ∈ val W f e ∨ s ∈ val W g e) := by
  show s ∈ (if false = true then _ else flt W.n (fun s => sIn (val W g e) s || sIn (val W f e) s)) ↔ _
  rw [if_neg Bool.false_ne_true, mem_flt, Bool.or_eq_true, sIn_iff, sIn_iff]
  exact ⟨fun h => ⟨h.1, h.2.symm⟩, fun h => ⟨h.1, h.2.symm⟩⟩
theorem op_val {W : Wd} {f : F} {x : Int} {e : Int → List Int} (h : ∀ y ∈ fv f, y ≠ x → Norm W.n (e y)) : Op W.n (fun X => val W f (setE e x X)) where
  norm X hX := val_norm f _ fun y hy => by
    by_cases c : y = x
    · rw [c, setE_same]; exact hX
    · rw [setE_ne c]; exact h y hy c
  mono X Y hXY := val_le f _ _ fun y hy => by
    by_cases c : y = x
    · rw [c, setE_same, setE_same]; exact hXY
    · rw [setE_ne c, setE_ne c]; exact Le.refl _
theorem beh_in {W : Wd} (G : W.Good) {s l u : Int} (h : u ∈ W.beh s l) : 0 ≤ u ∧ u < (W.n : Int) := by
  obtain ⟨p, hp, rfl⟩ := List.mem_map.mp h
  exact G p (List.mem_filter.mp hp).1
/-! ### a row that comes back -/
open Classical in
theorem comes {W : Wd} {l : Int} {X : List Int} {Z : Int → Prop} {g : Int → Prop} (hX : ∀ s ∈ X, 0 ≤ s ∧ s < (W.n : Int)) (hz : ∀ z, Z z → ∃ c u, RIn W l X z c ∧ g c ∧ u ∈ W.beh c l ∧ u ∈ X ∧ Z u) :
    ∀ z, Z z → ∃ c, RIn W l X z c ∧ g c ∧ ∃ u ∈ W.beh c l, RIn W l X u c := by
  have key : ∀ (m : Nat) (z : Int), ((rng W.n).filter fun t => decide (RIn W l X z t)).length ≤ m → Z z → ∃ c, RIn W l X z c ∧ g c ∧ ∃ u ∈ W.beh c l, RIn W l X u c := by
    intro m
    induction m with
    | zero =>
      intro z hm Zz
      obtain ⟨c, u, h1, _⟩ := hz z Zz
      have : z ∈ (rng W.n).filter fun t => decide (RIn W l X z t) := List.mem_filter.mpr ⟨rng_mem.mpr (hX z h1.src), decide_eq_true (.here h1.src)⟩
      have := List.length_pos_of_mem this
      omega
    | succ m ih =>
      intro z hm Zz
      obtain ⟨c, u, h1, h2, h3, h4, h5⟩ := hz z Zz
      by_cases back : RIn W l X u c
      · exact ⟨c, h1, h2, u, h3, back⟩
      · have zu : RIn W l X z u := h1.snoc h3 h4
        have sub : ((rng W.n).filter fun t => decide (RIn W l X u t)).Sublist ((rng W.n).filter fun t => decide (RIn W l X z t)) :=
          filter_sub (fun t ht => decide_eq_true (zu.trans (of_decide_eq_true ht))) _
        have ne : ((rng W.n).filter fun t => decide (RIn W l X u t)).length ≠ ((rng W.n).filter fun t => decide (RIn W l X z t)).length := fun e => by
          have e2 := sub.eq_of_length e
          have hc : c ∈ (rng W.n).filter fun t => decide (RIn W l X z t) := List.mem_filter.mpr ⟨rng_mem.mpr (hX c h1.tgt), decide_eq_true h1⟩
          rw [← e2] at hc
          exact back (of_decide_eq_true (List.mem_filter.mp hc).2)
        have := sub.length_le
        obtain ⟨c', q1, q2, q3⟩ := ih u (by omega) h5
        exact ⟨c', zu.trans q1, q2, q3⟩
  exact fun z => key _ z (Nat.le_refl _)
/-! ### the four statements -/
def metF (l : Int) (t : F) : F := .two true t (.one .some l (.leaf .var 0))
def agF (l : Int) (t : F) : F := .one .most 0 (.one .least 1 (.two false (metF l t) (.one .some l (.leaf .var 1))))
def onF (l : Int) (t : F) : F := .one .most 1 (.two true t (.one .some l (.leaf .var 1)))
def laF (l : Int) (t : F) : F := .one .least 0 (.two false (onF l t) (.one .some l (.leaf .var 0)))
theorem fv_agF {l : Int} {t : F} (h : fv t = []) : fv (agF l t) = [] := by
  simp [agF, metF, fv, h, One.bind]
theorem fv_laF {l : Int} {t : F} (h : fv t = []) : fv (laF l t) = [] := by
  simp [laF, onF, fv, h, One.bind]
theorem val_ag {W : Wd} (G : W.Good) {l : Int} {t : F} (h : fv t = []) (e : Int → List Int) : val W (agF l t) e = leadL W l ((cycL W l (rng W.n)).filter (sIn (val W t e))) := by
  have Nt : Norm W.n (val W t e) := val_norm t e (fun x hx => by rw [h] at hx; cases hx)
  have inner : ∀ Z Y : List Int, ∀ s, s ∈ val W (.two false (metF l t) (.one .some l (.leaf .var 1))) (setE (setE e 0 Z) 1 Y) ↔
      (0 ≤ s ∧ s < (W.n : Int)) ∧ ((s ∈ val W t e ∧ ∃ u ∈ W.beh s l, u ∈ Z) ∨ ∃ u ∈ W.beh s l, u ∈ Y) := fun Z Y s => by
    rw [mem_or]
    unfold metF
    rw [mem_and, mem_some, mem_some, val_closed h _ e]
    have z0 : val W (.leaf .var 0) (setE (setE e 0 Z) 1 Y) = Z := by show setE (setE e 0 Z) 1 Y 0 = Z; rw [setE_ne (by decide), setE_same]
    have z1 : val W (.leaf .var 1) (setE (setE e 0 Z) 1 Y) = Y := setE_same
    rw [z0, z1]
    constructor
    · rintro ⟨a, (⟨_, b, _, c⟩ | ⟨_, c⟩)⟩
      · exact ⟨a, .inl ⟨b, c⟩⟩
      · exact ⟨a, .inr c⟩
    · rintro ⟨a, (⟨b, c⟩ | c)⟩
      · exact ⟨a, .inl ⟨a, b, a, c⟩⟩
      · exact ⟨a, .inr ⟨a, c⟩⟩
  have vars : ∀ y ∈ fv (F.two false (metF l t) (.one .some l (.leaf .var 1))), y ≠ 1 → y = 0 := fun y hy n1 => by
    simp [metF, fv, h, One.bind] at hy
    exact hy.resolve_right n1
  have Oi : ∀ Z, Norm W.n Z → Op W.n (fun Y => val W (.two false (metF l t) (.one .some l (.leaf .var 1))) (setE (setE e 0 Z) 1 Y)) := fun Z nZ =>
    op_val fun y hy n1 => by
      rw [vars y hy n1, setE_same]
      exact nZ
  have Oo : Op W.n (fun Z => val W (.one .least 1 (.two false (metF l t) (.one .some l (.leaf .var 1)))) (setE e 0 Z)) := op_val fun y hy n0 => by
    exfalso
    rw [fv_bind' rfl] at hy
    have q := List.mem_filter.mp hy
    exact n0 (vars y q.1 (by simpa using q.2))
  have nG : Norm W.n (val W (agF l t) e) := iter_norm Oo.norm (norm_rng _) _
  refine nG.eq (flt_norm _ _) fun s => ?_
  rw [mem_leadL]
  have fixo : val W (.one .least 1 (.two false (metF l t) (.one .some l (.leaf .var 1)))) (setE e 0 (val W (agF l t) e)) = val W (agF l t) e := gfp_fix Oo
  constructor
  · intro hs
    have reach : ∀ z, z ∈ val W (agF l t) e → ∃ c u, RIn W l (rng W.n) z c ∧ c ∈ val W t e ∧ u ∈ W.beh c l ∧ u ∈ rng W.n ∧ u ∈ val W (agF l t) e := by
      open Classical in
      intro z hzz
      rw [← fixo] at hzz
      have least := lfp_least (Oi _ nG) (S := flt W.n fun s => decide (∃ c u, RIn W l (rng W.n) s c ∧ c ∈ val W t e ∧ u ∈ W.beh c l ∧ u ∈ rng W.n ∧ u ∈ val W (agF l t) e)) (Le.of fun s hs => ?_) (W.n + 1)
      · have := least.mem hzz
        exact of_decide_eq_true (mem_flt.mp this).2
      · rw [inner] at hs
        obtain ⟨rs, (⟨h1, u, h2, h3⟩ | ⟨u, h2, h3⟩)⟩ := hs
        · exact mem_flt.mpr ⟨rs, decide_eq_true ⟨s, u, .here (rng_mem.mpr rs), h1, h2, rng_mem.mpr (beh_in G h2), h3⟩⟩
        · obtain ⟨c, v, q1, q2⟩ := of_decide_eq_true (mem_flt.mp h3).2
          exact mem_flt.mpr ⟨rs, decide_eq_true ⟨c, v, .step (rng_mem.mpr rs) h2 q1, q2⟩⟩
    obtain ⟨c, h1, h2, u, h3, h4⟩ := comes (X := rng W.n) (Z := fun z => z ∈ val W (agF l t) e) (g := fun c => c ∈ val W t e) (fun s hs => rng_mem.mp hs) reach s hs
    exact ⟨c, List.mem_filter.mpr ⟨List.mem_filter.mpr ⟨h1.tgt, cyc_iff.mpr ⟨u, h3, h4⟩⟩, sIn_iff.mpr h2⟩, h1⟩
  · intro hs
    have most := gfp_most Oo (S := leadL W l ((cycL W l (rng W.n)).filter (sIn (val W t e)))) (fun s hs => (mem_flt.mp hs).1) (Le.of fun s hs => ?_) (W.n + 1)
    · exact most.mem (mem_leadL.mpr hs)
    · obtain ⟨c, hc, path⟩ := mem_leadL.mp hs
      obtain ⟨h1, h2⟩ := List.mem_filter.mp hc
      obtain ⟨h3, h4⟩ := List.mem_filter.mp h1
      obtain ⟨u, h5, h6⟩ := cyc_iff.mp h4
      have nS : Norm W.n (leadL W l ((cycL W l (rng W.n)).filter (sIn (val W t e)))) := flt_norm _ _
      have fixi := lfp_fix (Oi _ nS)
      show s ∈ val W (.one .least 1 (.two false (metF l t) (.one .some l (.leaf .var 1)))) (setE e 0 (leadL W l ((cycL W l (rng W.n)).filter (sIn (val W t e)))))
      show s ∈ iter (fun Y => val W (.two false (metF l t) (.one .some l (.leaf .var 1))) (setE (setE e 0 (leadL W l ((cycL W l (rng W.n)).filter (sIn (val W t e))))) 1 Y)) (W.n + 1) []
      induction path with
      | here hx =>
        rw [← fixi, inner]
        exact ⟨rng_mem.mp h3, .inl ⟨sIn_iff.mp h2, u, h5, mem_leadL.mpr ⟨_, hc, h6⟩⟩⟩
      | step a b p ih =>
        rw [← fixi, inner]
        exact ⟨rng_mem.mp a, .inr ⟨_, b, ih (mem_leadL.mpr ⟨_, hc, p⟩) hc h1 h2 h3 h4 h5 h6⟩⟩
where
  fv_bind' {k : One} {x : Int} {f : F} (hk : k.bind = true) : fv (.one k x f) = (fv f).filter (fun y => y ≠ x) := by simp only [fv, if_pos hk]
theorem val_la {W : Wd} (G : W.Good) {l : Int} {t : F} (h : fv t = []) (e : Int → List Int) : val W (laF l t) e = leadL W l (cycL W l (val W t e)) := by
  have Nt : Norm W.n (val W t e) := val_norm t e (fun x hx => by rw [h] at hx; cases hx)
  have inner : ∀ (e' : Int → List Int) (Y : List Int), ∀ s, s ∈ val W (.two true t (.one .some l (.leaf .var 1))) (setE e' 1 Y) ↔ (0 ≤ s ∧ s < (W.n : Int)) ∧ s ∈ val W t e ∧ ∃ u ∈ W.beh s l, u ∈ Y := fun e' Y s => by
    rw [mem_and, mem_some, val_closed h _ e]
    have z1 : val W (.leaf .var 1) (setE e' 1 Y) = Y := setE_same
    rw [z1]
    exact ⟨fun q => ⟨q.1, q.2.1, q.2.2.2⟩, fun q => ⟨q.1, q.2.1, q.1, q.2.2⟩⟩
  have Oi : ∀ e' : Int → List Int, Op W.n (fun Y => val W (.two true t (.one .some l (.leaf .var 1))) (setE e' 1 Y)) := fun e' => op_val fun y hy n1 => by
    exfalso
    simp [fv, h, One.bind] at hy
    exact n1 hy
  have cl : fv (onF l t) = [] := by simp [onF, fv, h, One.bind]
  have onE : ∀ e', val W (onF l t) e' = val W (onF l t) e := fun e' => val_closed cl _ _
  have outer : ∀ X, ∀ s, s ∈ val W (.two false (onF l t) (.one .some l (.leaf .var 0))) (setE e 0 X) ↔ (0 ≤ s ∧ s < (W.n : Int)) ∧ (s ∈ val W (onF l t) e ∨ ∃ u ∈ W.beh s l, u ∈ X) := fun X s => by
    rw [mem_or, mem_some, onE]
    have z0 : val W (.leaf .var 0) (setE e 0 X) = X := setE_same
    rw [z0]
    constructor
    · rintro ⟨a, (b | ⟨_, c⟩)⟩
      · exact ⟨a, .inl b⟩
      · exact ⟨a, .inr c⟩
    · rintro ⟨a, (b | c)⟩
      · exact ⟨a, .inl b⟩
      · exact ⟨a, .inr ⟨a, c⟩⟩
  have Oo : Op W.n (fun X => val W (.two false (onF l t) (.one .some l (.leaf .var 0))) (setE e 0 X)) := op_val fun y hy n0 => by
    exfalso
    rw [show fv (F.two false (onF l t) (.one .some l (.leaf .var 0))) = fv (onF l t) ++ [0] from rfl, cl] at hy
    exact n0 (List.mem_singleton.mp hy)
  have non : Norm W.n (val W (onF l t) e) := iter_norm (Oi e).norm (norm_rng _) _
  have fixi : val W (.two true t (.one .some l (.leaf .var 1))) (setE e 1 (val W (onF l t) e)) = val W (onF l t) e := gfp_fix (Oi e)
  have nG : Norm W.n (val W (laF l t) e) := iter_norm Oo.norm (norm_nil _) _
  have fixo : val W (.two false (onF l t) (.one .some l (.leaf .var 0))) (setE e 0 (val W (laF l t) e)) = val W (laF l t) e := lfp_fix Oo
  have gin : ∀ s ∈ val W t e, s ∈ rng W.n := fun s hs => rng_mem.mpr (Nt.mem hs)
  refine nG.eq (flt_norm _ _) fun s => ?_
  constructor
  · intro hs
    have least := lfp_least Oo (S := leadL W l (cycL W l (val W t e))) (Le.of fun s hs => ?_) (W.n + 1)
    · exact least.mem hs
    · rw [outer] at hs
      obtain ⟨rs, (h1 | ⟨u, h2, h3⟩)⟩ := hs
      · obtain ⟨c, q1, q2, u, q3, q4⟩ := comes (W := W) (l := l) (X := val W t e) (Z := fun z => z ∈ val W (onF l t) e) (g := fun _ => True) (fun s hs => Nt.mem hs) (fun z hz => by
          rw [← fixi, inner] at hz
          obtain ⟨_, a, u, b, c⟩ := hz
          have c' := c
          rw [← fixi, inner] at c'
          exact ⟨z, u, .here a, trivial, b, c'.2.1, c⟩) s h1
        exact mem_leadL.mpr ⟨c, List.mem_filter.mpr ⟨q1.tgt, cyc_iff.mpr ⟨u, q3, q4⟩⟩, q1.mono gin⟩
      · obtain ⟨c, q1, q2⟩ := mem_leadL.mp h3
        exact mem_leadL.mpr ⟨c, q1, .step (rng_mem.mpr rs) h2 q2⟩
  · intro hs
    obtain ⟨c, hc, path⟩ := mem_leadL.mp hs
    obtain ⟨h1, h2⟩ := List.mem_filter.mp hc
    obtain ⟨u, h3, h4⟩ := cyc_iff.mp h2
    have conW : c ∈ val W (onF l t) e := by
      open Classical in
      have most := gfp_most (Oi e) (S := flt W.n fun s => decide (RIn W l (val W t e) s c)) (fun s hs => (mem_flt.mp hs).1) (Le.of fun s hs => ?_) (W.n + 1)
      · exact most.mem (mem_flt.mpr ⟨Nt.mem h1, decide_eq_true (.here h1)⟩)
      · obtain ⟨rs, q⟩ := mem_flt.mp hs
        rw [inner]
        have q' := of_decide_eq_true q
        refine ⟨rs, q'.src, ?_⟩
        cases q' with
        | here _ => exact ⟨u, h3, mem_flt.mpr ⟨beh_in G h3, decide_eq_true h4⟩⟩
        | step a b p => exact ⟨_, b, mem_flt.mpr ⟨beh_in G b, decide_eq_true p⟩⟩
    induction path with
    | here hx =>
      rw [← fixo, outer]
      exact ⟨rng_mem.mp hx, .inl conW⟩
    | step a b p ih =>
      rw [← fixo, outer]
      exact ⟨rng_mem.mp a, .inr ⟨_, b, ih (mem_leadL.mpr ⟨_, hc, p⟩) hc h1 h2 h3 h4 conW⟩⟩
/-- of opposites -/
theorem val_oppC {W : Wd} (G : W.Good) {t : F} (h : fv t = []) (e e' : Int → List Int) : val W (opp t) e = co W.n (val W t e') := by
  rw [← val_opp G t e']
  exact val_closed (by rw [opp_fv]; exact h) _ _
end Fw

/-! Shorter statements: pure mathematics. -/
namespace Fw
def One.kept : One → Bool
  | .some => false
  | .all => true
  | .least => false
  | .most => true
/-- x is an operand of y, and y joins with the other word -/
def absB (b : Bool) (x y : F) : Bool :=
  match y with
  | .two c p q => decide (c = !b) && (decide (x = p) || decide (x = q))
  | _ => false
/-- what one order of a pair says -/
def half (b : Bool) (x y : F) : Option F :=
  if x = .nul b ∨ x = y then some y else if x = .nul (!b) then some x else if absB b x y = true then some x else none
def ruledF : F → Option F
  | .two b f g => match half b f g with
    | some r => some r
    | none => half b g f
  | .one k n f => if k.bind = true then (if f = .leaf .var n then some (.nul k.kept) else if n ∉ fv f then some f else none) else if f = .nul k.kept then some f else none
  | _ => none
/-- the program's order -/
def repF : F → F
  | .two b f g => if f = .nul (!b) ∨ g = .nul (!b) then .nul (!b) else if f = .nul b ∨ absB b g f = true then g else if g = .nul b ∨ f = g ∨ absB b f g = true then f else .two b f g
  | .one k n f => if k.bind = true then (if f = .leaf .var n then .nul k.kept else if n ∈ fv f then .one k n f else f) else if f = .nul k.kept then f else .one k n f
  | t => t
def canB : F → Bool
  | .two b f g => (ruledF (.two b f g)).isSome || (canB f || canB g)
  | .one k n f => (ruledF (.one k n f)).isSome || canB f
  | _ => false
def shF : F → F
  | .two b f g => (ruledF (.two b (shF f) (shF g))).getD (.two b (shF f) (shF g))
  | .one k n f => (ruledF (.one k n (shF f))).getD (.one k n (shF f))
  | t => t
theorem absB_size {b : Bool} {x y : F} (h : absB b x y = true) : x.size < y.size := by
  cases y with
  | nul _ => cases h
  | leaf _ _ => cases h
  | one _ _ _ => cases h
  | two c p q =>
    simp only [absB, Bool.and_eq_true, Bool.or_eq_true, decide_eq_true_eq] at h
    have := F.size_pos p
    have := F.size_pos q
    rcases h.2 with rfl | rfl <;> simp only [F.size] <;> omega
theorem half_in {b : Bool} {x y r : F} (h : half b x y = some r) : r = x ∨ r = y := by
  unfold half at h
  split at h
  · exact .inr (Option.some.inj h).symm
  · split at h
    · exact .inl (Option.some.inj h).symm
    · split at h
      · exact .inl (Option.some.inj h).symm
      · cases h
theorem ruled_two {b : Bool} {f g r : F} (h : ruledF (.two b f g) = some r) : r = f ∨ r = g := by
  simp only [ruledF] at h
  cases e : half b f g with
  | some q =>
    rw [e] at h
    obtain rfl : q = r := Option.some.inj h
    exact half_in e
  | none =>
    rw [e] at h
    exact (half_in h).symm
theorem ruled_one {k : One} {n : Int} {f r : F} (h : ruledF (.one k n f) = some r) : r = f ∨ ∃ c, r = .nul c := by
  simp only [ruledF] at h
  split at h
  · split at h
    · exact .inr ⟨_, (Option.some.inj h).symm⟩
    · split at h
      · exact .inl (Option.some.inj h).symm
      · cases h
  · split at h
    · exact .inl (Option.some.inj h).symm
    · cases h
theorem half_none {b : Bool} {x y : F} : half b x y = none ↔ x ≠ .nul b ∧ x ≠ y ∧ x ≠ .nul (!b) ∧ absB b x y = false := by
  unfold half
  constructor
  · intro h
    split at h
    · cases h
    · rename_i h1
      split at h
      · cases h
      · rename_i h2
        split at h
        · cases h
        · rename_i h3
          exact ⟨fun e => h1 (.inl e), fun e => h1 (.inr e), h2, by simpa using h3⟩
  · rintro ⟨h1, h2, h3, h4⟩
    rw [if_neg (by simp [h1, h2]), if_neg h3, if_neg (by simp [h4])]
theorem ruled_none {b : Bool} {f g : F} : ruledF (.two b f g) = none ↔ half b f g = none ∧ half b g f = none := by
  simp only [ruledF]
  cases half b f g <;> simp
/-- no rule is for it: the program leaves it as it is, and else not -/
theorem rep_iff : ∀ t : F, repF t = t ↔ ruledF t = none
  | .nul _ => by simp [repF, ruledF]
  | .leaf _ _ => by simp [repF, ruledF]
  | .two b f g => by
    rw [ruled_none, half_none, half_none]
    have sf := F.size_pos f
    have sg := F.size_pos g
    have ne1 : ∀ c, F.nul c ≠ .two b f g := fun c e => by cases e
    have ne2 : f ≠ .two b f g := fun e => by have := congrArg F.size e; simp only [F.size] at this; omega
    have ne3 : g ≠ .two b f g := fun e => by have := congrArg F.size e; simp only [F.size] at this; omega
    simp only [repF]
    constructor
    · intro h
      split at h
      · exact absurd h (ne1 _)
      · rename_i h1
        split at h
        · exact absurd h ne3
        · rename_i h2
          split at h
          · exact absurd h ne2
          · rename_i h3
            refine ⟨⟨fun e => h2 (.inl e), fun e => h3 (.inr (.inl e)), fun e => h1 (.inl e), ?_⟩, ⟨fun e => h3 (.inl e), fun e => h3 (.inr (.inl e.symm)), fun e => h1 (.inr e), ?_⟩⟩
            · cases c : absB b f g with
              | false => rfl
              | true => exact absurd (.inr (.inr c)) h3
            · cases c : absB b g f with
              | false => rfl
              | true => exact absurd (.inr c) h2
    · rintro ⟨⟨h1, h2, h3, h4⟩, ⟨h5, h6, h7, h8⟩⟩
      rw [if_neg (by simp [h3, h7]), if_neg (by simp [h1, h8]), if_neg (by simp [h5, h2, h4])]
  | .one k n f => by
    have sf := F.size_pos f
    have ne1 : ∀ c, F.nul c ≠ .one k n f := fun c e => by cases e
    have ne2 : f ≠ .one k n f := fun e => by have := congrArg F.size e; simp only [F.size] at this; omega
    simp only [repF, ruledF]
    split
    · split
      · simp
      · by_cases c : n ∈ fv f
        · simp [c]
        · simp [c, ne2]
    · split
      · rename_i e
        simp [ne2]
      · simp
/-- where the parts leave nothing to rule, both orders say the same -/
theorem rep_eq : ∀ t : F, (∀ f ∈ t.kids, ruledF f = none) → repF t = (ruledF t).getD t
  | .nul _, _ => rfl
  | .leaf _ _, _ => rfl
  | .one k n f, _ => by
    simp only [repF, ruledF]
    split
    · split
      · rfl
      · by_cases c : n ∈ fv f
        · simp [c]
        · simp [c]
    · split <;> rfl
  | .two b f g, h => by
    have hf := h f (by simp [F.kids])
    have hg := h g (by simp [F.kids])
    have nb : ∀ c : Bool, F.nul c ≠ F.nul (!c) := fun c e => by cases c <;> cases e
    simp only [repF, ruledF]
    by_cases z1 : f = .nul (!b)
    · have : half b f g = some (.nul (!b)) := by
        unfold half
        by_cases q : f = .nul b ∨ f = g
        · rw [if_pos q]
          rcases q with q | q
          · rw [z1] at q
            exact absurd q.symm (nb b)
          · rw [← q, z1]
        · rw [if_neg q, if_pos z1, z1]
      rw [if_pos (.inl z1), this]
      rfl
    · by_cases u1 : f = .nul b
      · have : half b f g = some g := by unfold half; rw [if_pos (.inl u1)]
        rw [this]
        by_cases z2 : g = .nul (!b)
        · rw [if_pos (.inr z2), z2]
          rfl
        · rw [if_neg (by simp [z1, z2]), if_pos (.inl u1)]
          rfl
      · by_cases e : f = g
        · have : half b f g = some g := by unfold half; rw [if_pos (.inr e)]
          have na : ¬ absB b g f = true := fun q => by have := absB_size q; rw [e] at this; omega
          rw [this, if_neg (by rw [← e]; simp [z1]), if_neg (by simp [u1, na]), if_pos (.inr (.inl e)), e]
          rfl
        · by_cases a1 : absB b f g = true
          · have : half b f g = some f := by unfold half; rw [if_neg (by simp [u1, e]), if_neg z1, if_pos a1]
            have n1 : ¬ absB b g f = true := fun q => by have := absB_size q; have := absB_size a1; omega
            have n2 : g ≠ .nul (!b) := fun q => by rw [q] at a1; cases a1
            rw [this, if_neg (by simp [z1, n2]), if_neg (by simp [u1, n1]), if_pos (.inr (.inr a1))]
            rfl
          · have : half b f g = none := half_none.mpr ⟨u1, e, z1, by simpa using a1⟩
            rw [this]
            show _ = (half b g f).getD _
            by_cases z2 : g = .nul (!b)
            · have : half b g f = some g := by
                unfold half
                rw [if_neg (by rw [z2]; simp [fun q => nb b (Eq.symm q), Ne.symm z1, Ne.symm (nb b)]), if_pos z2]
              rw [this, if_pos (.inr z2), z2]
              rfl
            · rw [if_neg (by simp [z1, z2])]
              by_cases u2 : g = .nul b
              · have : half b g f = some f := by unfold half; rw [if_pos (.inl u2)]
                have na : ¬ absB b g f = true := fun q => by
                  cases f with
                  | nul _ => cases q
                  | leaf _ _ => cases q
                  | one _ _ _ => cases q
                  | two c p q' =>
                    simp only [absB, Bool.and_eq_true, Bool.or_eq_true, decide_eq_true_eq] at q
                    obtain ⟨rfl, q⟩ := q
                    rw [ruled_none, half_none, half_none] at hf
                    rw [Bool.not_not] at hf
                    rcases q with q | q
                    · exact hf.1.2.2.1 (by rw [← q, u2])
                    · exact hf.2.2.2.1 (by rw [← q, u2])
                rw [this, if_neg (by simp [u1, na]), if_pos (.inl u2)]
                rfl
              · by_cases a2 : absB b g f = true
                · have : half b g f = some g := by unfold half; rw [if_neg (by simp [u2, Ne.symm e]), if_neg z2, if_pos a2]
                  rw [this, if_pos (.inr a2)]
                  rfl
                · have : half b g f = none := half_none.mpr ⟨u2, Ne.symm e, z2, by simpa using a2⟩
                  rw [this, if_neg (by simp [u1, a2]), if_neg (by simp [u2, e, a1])]
                  rfl
theorem can_none {t : F} (h : canB t = false) : ruledF t = none := by
  cases t with
  | nul _ => rfl
  | leaf _ _ => rfl
  | two b f g =>
    simp only [canB, Bool.or_eq_false_iff] at h
    cases e : ruledF (.two b f g) with
    | none => rfl
    | some r => rw [e] at h; cases h.1
  | one k n f =>
    simp only [canB, Bool.or_eq_false_iff] at h
    cases e : ruledF (.one k n f) with
    | none => rfl
    | some r => rw [e] at h; cases h.1
theorem sh_plain : ∀ t : F, canB (shF t) = false
  | .nul _ => rfl
  | .leaf _ _ => rfl
  | .two b f g => by
    have hf := sh_plain f
    have hg := sh_plain g
    simp only [shF]
    cases e : ruledF (.two b (shF f) (shF g)) with
    | none => simp only [Option.getD_none, canB, e, hf, hg]; rfl
    | some r =>
      rw [Option.getD_some]
      rcases ruled_two e with rfl | rfl
      · exact hf
      · exact hg
  | .one k n f => by
    have hf := sh_plain f
    simp only [shF]
    cases e : ruledF (.one k n (shF f)) with
    | none => simp only [Option.getD_none, canB, e, hf]; rfl
    | some r =>
      rw [Option.getD_some]
      rcases ruled_one e with rfl | ⟨c, rfl⟩
      · exact hf
      · rfl
theorem sh_rep : ∀ t : F, shF t = match t with
    | .two b f g => repF (.two b (shF f) (shF g))
    | .one k n f => repF (.one k n (shF f))
    | t => t
  | .nul _ => rfl
  | .leaf _ _ => rfl
  | .two b f g => by
    show shF (.two b f g) = repF (.two b (shF f) (shF g))
    rw [rep_eq]
    · rfl
    · intro u hu
      simp only [F.kids, List.mem_cons, List.not_mem_nil, or_false] at hu
      rcases hu with rfl | rfl <;> exact can_none (sh_plain _)
  | .one k n f => by
    show shF (.one k n f) = repF (.one k n (shF f))
    rw [rep_eq]
    · rfl
    · intro u hu
      simp only [F.kids, List.mem_cons, List.not_mem_nil, or_false] at hu
      rcases hu with rfl
      exact can_none (sh_plain _)
theorem plain_sh : ∀ {t : F}, canB t = false → shF t = t
  | .nul _, _ => rfl
  | .leaf _ _, _ => rfl
  | .two b f g, h => by
    have n := can_none h
    simp only [canB, Bool.or_eq_false_iff] at h
    simp only [shF, plain_sh h.2.1, plain_sh h.2.2, n]
    rfl
  | .one k n f, h => by
    have r := can_none h
    simp only [canB, Bool.or_eq_false_iff] at h
    simp only [shF, plain_sh h.2, r]
    rfl
/-- all parts -/
def subs : F → List F
  | .two b f g => .two b f g :: (subs f ++ subs g)
  | .one k n f => .one k n f :: subs f
  | t => [t]
theorem can_iff : ∀ t : F, canB t = false ↔ ∀ u ∈ subs t, ruledF u = none
  | .nul _ => by simp [canB, subs, ruledF]
  | .leaf _ _ => by simp [canB, subs, ruledF]
  | .two b f g => by
    simp only [canB, subs, Bool.or_eq_false_iff, can_iff f, can_iff g, List.mem_cons, List.mem_append]
    constructor
    · rintro ⟨h1, h2, h3⟩ u (rfl | hu | hu)
      · simpa using h1
      · exact h2 u hu
      · exact h3 u hu
    · intro h
      exact ⟨by rw [h _ (.inl rfl)]; rfl, fun u hu => h u (.inr (.inl hu)), fun u hu => h u (.inr (.inr hu))⟩
  | .one k n f => by
    simp only [canB, subs, Bool.or_eq_false_iff, can_iff f, List.mem_cons]
    constructor
    · rintro ⟨h1, h2⟩ u (rfl | hu)
      · simpa using h1
      · exact h2 u hu
    · intro h
      exact ⟨by rw [h _ (.inl rfl)]; rfl, fun u hu => h u (.inr hu)⟩
theorem subs_info : ∀ (t : F) (a : Int) (i : Nat) (st : Stk), (info t a i st).map (·.sub) = subs t
  | .nul _, _, _, _ => rfl
  | .leaf _ _, _, _, _ => rfl
  | .two b f g, a, i, st => by simp only [info, subs, List.map_cons, List.map_append, subs_info f, subs_info g]
  | .one k n f, a, i, st => by simp only [info, subs, List.map_cons, subs_info f]
/-! ### it says the same -/
theorem fv_sh : ∀ (t : F) (x : Int), x ∈ fv (shF t) → x ∈ fv t
  | .nul _, x, h => h
  | .leaf _ _, x, h => h
  | .two b f g, x, h => by
    have hf := fv_sh f x
    have hg := fv_sh g x
    show x ∈ fv f ++ fv g
    rw [List.mem_append]
    simp only [shF] at h
    cases e : ruledF (.two b (shF f) (shF g)) with
    | none =>
      rw [e] at h
      exact (List.mem_append.mp (show x ∈ fv (shF f) ++ fv (shF g) from h)).imp hf hg
    | some r =>
      rw [e, Option.getD_some] at h
      rcases ruled_two e with rfl | rfl
      · exact .inl (hf h)
      · exact .inr (hg h)
  | .one k n f, x, h => by
    have hf := fv_sh f x
    simp only [shF] at h
    simp only [fv]
    cases e : ruledF (.one k n (shF f)) with
    | none =>
      rw [e, Option.getD_none] at h
      simp only [fv] at h
      split
      · rename_i hk
        rw [if_pos hk] at h
        have := List.mem_filter.mp h
        exact List.mem_filter.mpr ⟨hf this.1, this.2⟩
      · rename_i hk
        rw [if_neg hk] at h
        exact hf h
    | some r =>
      rw [e, Option.getD_some] at h
      simp only [ruledF] at e
      split
      · rename_i hk
        rw [if_pos hk] at e
        split at e
        · cases Option.some.inj e
          cases h
        · split at e
          · rename_i hn
            cases Option.some.inj e
            exact List.mem_filter.mpr ⟨hf h, decide_eq_true fun q => hn (q ▸ h)⟩
          · cases e
      · rename_i hk
        rw [if_neg hk] at e
        split at e
        · cases Option.some.inj e
          exact hf h
        · cases e
theorem size_sh : ∀ t : F, (shF t).size ≤ t.size ∧ (shF t).depth ≤ t.depth
  | .nul _ => ⟨Nat.le_refl _, Nat.le_refl _⟩
  | .leaf _ _ => ⟨Nat.le_refl _, Nat.le_refl _⟩
  | .two b f g => by
    have hf := size_sh f
    have hg := size_sh g
    simp only [shF]
    cases e : ruledF (.two b (shF f) (shF g)) with
    | none =>
      rw [Option.getD_none]
      simp only [F.size, F.depth]
      omega
    | some r =>
      rw [Option.getD_some]
      rcases ruled_two e with rfl | rfl <;> simp only [F.size, F.depth] <;> omega
  | .one k n f => by
    have hf := size_sh f
    have := F.size_pos f
    simp only [shF]
    cases e : ruledF (.one k n (shF f)) with
    | none =>
      rw [Option.getD_none]
      simp only [F.size, F.depth]
      omega
    | some r =>
      rw [Option.getD_some]
      rcases ruled_one e with rfl | ⟨c, rfl⟩ <;> simp only [F.size, F.depth] <;> omega
theorem val_ext {W : Wd} {t : F} {e e' : Int → List Int} (n : ∀ x ∈ fv t, Norm W.n (e x)) (h : ∀ x ∈ fv t, e x = e' x) : val W t e = val W t e' := by
  have n1 := val_norm (W := W) t e n
  have n2 := val_norm (W := W) t e' (fun x hx => by rw [← h x hx]; exact n x hx)
  have l1 := val_le (W := W) t e e' (fun x hx => by rw [h x hx]; exact Le.refl _)
  have l2 := val_le (W := W) t e' e (fun x hx => by rw [h x hx]; exact Le.refl _)
  exact n1.eq n2 fun s => ⟨l1.mem, l2.mem⟩
theorem iter_const {Y X : List Int} : ∀ k, iter (fun _ => Y) (k + 1) X = Y := fun _ => rfl
theorem iter_id {X : List Int} : ∀ k, iter (fun X => X) k X = X
  | 0 => rfl
  | k + 1 => iter_id k
theorem iter_congr {n : Nat} {f g : List Int → List Int} (hn : ∀ X, Norm n X → Norm n (f X)) (h : ∀ X, Norm n X → f X = g X) {X : List Int} (hX : Norm n X) : ∀ k, iter f k X = iter g k X
  | 0 => rfl
  | k + 1 => by
    show f (iter f k X) = g (iter g k X)
    rw [← iter_congr hn h hX k]
    exact h _ (iter_norm hn hX k)
theorem norm_setE {n : Nat} {e : Int → List Int} (h : ∀ x, Norm n (e x)) {x : Int} {X : List Int} (hX : Norm n X) : ∀ y, Norm n (setE e x X y) := fun y => by
  by_cases c : y = x
  · rw [c, setE_same]; exact hX
  · rw [setE_ne c]; exact h y
theorem val_half {W : Wd} {b : Bool} {x y r : F} {e : Int → List Int} (he : ∀ z, Norm W.n (e z)) (h : half b x y = some r) : val W r e = val W (.two b x y) e ∧ val W r e = val W (.two b y x) e := by
  have nv : ∀ t, Norm W.n (val W t e) := fun t => val_norm t e fun z _ => he z
  have key : ∀ s, (s ∈ val W r e ↔ s ∈ val W (.two b x y) e) ∧ (s ∈ val W r e ↔ s ∈ val W (.two b y x) e) := by
    intro s
    have inr : ∀ t, s ∈ val W t e → 0 ≤ s ∧ s < (W.n : Int) := fun t h => (nv t).mem h
    have mt : s ∈ val W (.nul true) e ↔ 0 ≤ s ∧ s < (W.n : Int) := rng_mem
    have mf : ¬ s ∈ val W (.nul false) e := fun q => by cases (show s ∈ ([] : List Int) from q)
    unfold half at h
    cases b with
    | true =>
      rw [mem_and, mem_and]
      split at h
      · rename_i c
        cases Option.some.inj h
        rcases c with rfl | rfl
        · exact ⟨⟨fun q => ⟨inr _ q, mt.mpr (inr _ q), q⟩, fun q => q.2.2⟩, ⟨fun q => ⟨inr _ q, q, mt.mpr (inr _ q)⟩, fun q => q.2.1⟩⟩
        · exact ⟨⟨fun q => ⟨inr _ q, q, q⟩, fun q => q.2.2⟩, ⟨fun q => ⟨inr _ q, q, q⟩, fun q => q.2.1⟩⟩
      · split at h
        · rename_i c
          cases Option.some.inj h
          rw [c]
          exact ⟨⟨fun q => absurd q mf, fun q => q.2.1⟩, ⟨fun q => absurd q mf, fun q => q.2.2⟩⟩
        · split at h
          · rename_i c
            cases Option.some.inj h
            cases y with
            | nul _ => cases c
            | leaf _ _ => cases c
            | one _ _ _ => cases c
            | two d p q =>
              simp only [absB, Bool.and_eq_true, Bool.or_eq_true, decide_eq_true_eq] at c
              obtain ⟨rfl, c⟩ := c
              have up : s ∈ val W x e → s ∈ val W (.two false p q) e := fun z => mem_or.mpr ⟨inr _ z, by
                rcases c with rfl | rfl
                · exact .inl z
                · exact .inr z⟩
              exact ⟨⟨fun z => ⟨inr _ z, z, up z⟩, fun z => z.2.1⟩, ⟨fun z => ⟨inr _ z, up z, z⟩, fun z => z.2.2⟩⟩
          · cases h
    | false =>
      rw [mem_or, mem_or]
      split at h
      · rename_i c
        cases Option.some.inj h
        rcases c with rfl | rfl
        · exact ⟨⟨fun q => ⟨inr _ q, .inr q⟩, fun q => q.2.resolve_left mf⟩, ⟨fun q => ⟨inr _ q, .inl q⟩, fun q => q.2.resolve_right mf⟩⟩
        · exact ⟨⟨fun q => ⟨inr _ q, .inr q⟩, fun q => q.2.elim id id⟩, ⟨fun q => ⟨inr _ q, .inl q⟩, fun q => q.2.elim id id⟩⟩
      · split at h
        · rename_i c
          cases Option.some.inj h
          rw [c]
          exact ⟨⟨fun q => ⟨inr _ q, .inl q⟩, fun q => mt.mpr q.1⟩, ⟨fun q => ⟨inr _ q, .inr q⟩, fun q => mt.mpr q.1⟩⟩
        · split at h
          · rename_i c
            cases Option.some.inj h
            cases y with
            | nul _ => cases c
            | leaf _ _ => cases c
            | one _ _ _ => cases c
            | two d p q =>
              simp only [absB, Bool.and_eq_true, Bool.or_eq_true, decide_eq_true_eq] at c
              obtain ⟨rfl, c⟩ := c
              have dn : s ∈ val W (.two true p q) e → s ∈ val W x e := fun z => by
                have := mem_and.mp z
                rcases c with rfl | rfl
                · exact this.2.1
                · exact this.2.2
              exact ⟨⟨fun z => ⟨inr _ z, .inl z⟩, fun z => z.2.elim id dn⟩, ⟨fun z => ⟨inr _ z, .inr z⟩, fun z => z.2.elim dn id⟩⟩
          · cases h
  exact ⟨(nv r).eq (nv _) fun s => (key s).1, (nv r).eq (nv _) fun s => (key s).2⟩
theorem val_ruled {W : Wd} (G : W.Good) : ∀ (t r : F) (e : Int → List Int), (∀ z, Norm W.n (e z)) → ruledF t = some r → val W r e = val W t e
  | .nul _, r, e, he, h => by cases h
  | .leaf _ _, r, e, he, h => by cases h
  | .two b f g, r, e, he, h => by
    simp only [ruledF] at h
    cases c : half b f g with
    | some q =>
      rw [c] at h
      cases Option.some.inj h
      exact (val_half he c).1
    | none =>
      rw [c] at h
      exact (val_half he h).2
  | .one k n f, r, e, he, h => by
    simp only [ruledF] at h
    have nv : ∀ t, Norm W.n (val W t e) := fun t => val_norm t e fun z _ => he z
    cases k with
    | some =>
      rw [if_neg (by decide)] at h
      split at h
      · rename_i c
        cases Option.some.inj h
        rw [c]
        refine (nv _).eq (nv _) fun s => ?_
        rw [mem_some]
        exact ⟨fun q => (nomatch (show s ∈ ([] : List Int) from q)), fun q => by obtain ⟨_, u, _, h2⟩ := q; cases (show u ∈ ([] : List Int) from h2)⟩
      · cases h
    | all =>
      rw [if_neg (by decide)] at h
      split at h
      · rename_i c
        cases Option.some.inj h
        rw [c]
        show rng W.n = flt W.n fun s => decide ((((W.beh s n).filter (fun k => !sIn (val W (.nul true) e) k)).length : Int) = 0)
        rw [rng_flt]
        refine flt_congr fun s _ _ => ?_
        have : (W.beh s n).filter (fun k => !sIn (val W (.nul true) e) k) = [] := List.filter_eq_nil_iff.mpr fun k hk => by
          have : sIn (val W (.nul true) e) k = true := sIn_iff.mpr (rng_mem.mpr (beh_in G hk))
          rw [this]
          exact Bool.false_ne_true
        rw [this]
        rfl
      · cases h
    | least =>
      rw [if_pos (by decide)] at h
      split at h
      · rename_i c
        cases Option.some.inj h
        rw [c]
        show [] = iter (fun X => setE e n X n) (W.n + 1) []
        simp only [setE_same]
        rw [iter_id]
      · split at h
        · rename_i c
          cases Option.some.inj h
          show _ = iter (fun X => val W f (setE e n X)) (W.n + 1) []
          have : (fun X => val W f (setE e n X)) = fun _ => val W f e := by
            funext X
            exact (val_ext (fun x _ => he x) fun x hx => (setE_ne (show x ≠ n from fun q => c (q ▸ hx))).symm).symm
          rw [this]
          rfl
        · cases h
    | most =>
      rw [if_pos (by decide)] at h
      split at h
      · rename_i c
        cases Option.some.inj h
        rw [c]
        show rng W.n = iter (fun X => setE e n X n) (W.n + 1) (rng W.n)
        simp only [setE_same]
        rw [iter_id]
      · split at h
        · rename_i c
          cases Option.some.inj h
          show _ = iter (fun X => val W f (setE e n X)) (W.n + 1) (rng W.n)
          have : (fun X => val W f (setE e n X)) = fun _ => val W f e := by
            funext X
            exact (val_ext (fun x _ => he x) fun x hx => (setE_ne (show x ≠ n from fun q => c (q ▸ hx))).symm).symm
          rw [this]
          rfl
        · cases h
theorem val_sh {W : Wd} (G : W.Good) : ∀ (t : F) (e : Int → List Int), (∀ z, Norm W.n (e z)) → val W (shF t) e = val W t e
  | .nul _, e, he => rfl
  | .leaf _ _, e, he => rfl
  | .two b f g, e, he => by
    have same : val W (.two b (shF f) (shF g)) e = val W (.two b f g) e := by
      simp only [val, val_sh G f e he, val_sh G g e he]
    rw [← same]
    simp only [shF]
    cases c : ruledF (.two b (shF f) (shF g)) with
    | none => rfl
    | some r => exact val_ruled G _ _ e he c
  | .one k n f, e, he => by
    have same : val W (.one k n (shF f)) e = val W (.one k n f) e := by
      have nv : ∀ (t : F) (e : Int → List Int), (∀ z, Norm W.n (e z)) → Norm W.n (val W t e) := fun t e he => val_norm t e fun z _ => he z
      cases k with
      | some => simp only [val, val_sh G f e he]
      | all => simp only [val, val_sh G f e he]
      | least => exact iter_congr (fun X hX => nv _ _ (norm_setE he hX)) (fun X hX => val_sh G f _ (norm_setE he hX)) (norm_nil _) _
      | most => exact iter_congr (fun X hX => nv _ _ (norm_setE he hX)) (fun X hX => val_sh G f _ (norm_setE he hX)) (norm_rng _) _
    rw [← same]
    simp only [shF]
    cases c : ruledF (.one k n (shF f)) with
    | none => rfl
    | some r => exact val_ruled G _ _ e he c
end Fw

set_option maxRecDepth 100000
set_option maxHeartbeats 4000000
/-! dicts whose keys are tuples within tuples -/
namespace Fw
open PySem PySem.Spec PyProof.Rows L2
mutual
/-- v is such a key, in the heap H -/
inductive KIs (K : PySem.W.Frag) (H : Hp) : V → NestedKey → Prop
  | int (i : Int) : KIs K H (.int i) (.num i)
  | str (x : PySem.Str) : KIs K H (.str x) (.text x)
  | tup {a : Addr} {xs : List V} {ks : List NestedKey} : SqT K H a xs → KAll K H xs ks → KIs K H (.ref a) (.tup ks)
inductive KAll (K : PySem.W.Frag) (H : Hp) : List V → List NestedKey → Prop
  | nil : KAll K H [] []
  | cons {x : V} {k : NestedKey} {xs : List V} {ks : List NestedKey} : KIs K H x k → KAll K H xs ks → KAll K H (x :: xs) (k :: ks)
end
mutual
theorem KIs.map {K : PySem.W.Frag} {H H' : Hp} (s : ∀ a xs, SqT K H a xs → SqT K H' a xs) : ∀ {v : V} {k : NestedKey}, KIs K H v k → KIs K H' v k
  | _, _, .int i => .int i
  | _, _, .str x => .str x
  | _, _, .tup h r => .tup (s _ _ h) (KAll.map s r)
theorem KAll.map {K : PySem.W.Frag} {H H' : Hp} (s : ∀ a xs, SqT K H a xs → SqT K H' a xs) : ∀ {vs : List V} {ks : List NestedKey}, KAll K H vs ks → KAll K H' vs ks
  | _, _, .nil => .nil
  | _, _, .cons h r => .cons (KIs.map s h) (KAll.map s r)
end
section
variable {X : Cx} {pins : List (Addr × Obj)} {σ : L2.St} {H : Hp} {s : Shared}
mutual
theorem kis_real (I : Inv X pins σ H s) : ∀ {v : V} {k : NestedKey} {u : Value}, KIs X.K H v k → RelV v u → NestedIs s.heap k u
  | _, _, _, .int i, r => by
    obtain ⟨t, rfl⟩ : ∃ t, _ = Value.int i t := r
    exact .int i t
  | _, _, _, .str x, r => by
    obtain ⟨t, rfl⟩ : ∃ t, _ = Value.str x t := r
    exact .text x t
  | _, _, _, .tup h all, r => by
    obtain rfl : _ = Value.ref _ := r
    obtain ⟨its, rv, ⟨o, e, c, n, d⟩, _⟩ := I.tuple h
    exact .tup e c d (by simpa using kall_real I all rv)
theorem kall_real (I : Inv X pins σ H s) : ∀ {vs : List V} {ks : List NestedKey} {us : List Value}, KAll X.K H vs ks → Vals vs us → NestedAll s.heap ks us
  | _, _, _, .nil, .nil => .nil
  | _, _, _, .cons h r, .cons a b => .cons (kis_real I h a) (kall_real I r b)
end
end
abbrev NK := NestedKey × Addr × V
/-- what stands at a key -/
def valN (kvs : List NK) (k : NestedKey) : Option V := (kvs.find? fun e => decide (e.1 = k)).map fun e => e.2.2
def PairN (p : NK) (q : NestedKey × Addr × Value) : Prop := p.1 = q.1 ∧ p.2.1 = q.2.1 ∧ RelV p.2.2 q.2.2
def DNh (P : Program) (w : World) (a : Addr) (kvs : List NK) (h : Heap) : Prop := (a == sysModules) = false ∧ kvs.length ≤ sizeLine ∧ ∃ xs : List (NestedKey × Addr × Value), Paired PairN kvs xs ∧
  ∃ o es ep, h.get? a = some o ∧ o.ExactDict ∧ o.data = .dict es ep ∧ es.toList = xs.map (entryOfKey (nestedKind P w)) ∧ (xs.map (·.1)).Nodup
/-- a dict with such keys, each with the place of its tuple -/
def DNs (P : Program) (w : World) (a : Addr) (kvs : List NK) : HO := .ext (DNh P w a kvs)
def KeysOk (K : PySem.W.Frag) (H : Hp) (kvs : List NK) : Prop := ∀ e ∈ kvs, KIs K H (.ref e.2.1) e.1 ∧ e.1.depth ≤ 8
theorem DNh.ok {P : Program} {w : World} {H : Hp} {h : Heap} {a : Addr} {kvs : List NK} (x : DNh P w a kvs h) : ObjOk P w H h a (DNs P w a kvs) := by
  obtain ⟨z, y, xs, r, o, es, ep, e, c⟩ := id x
  refine ⟨x, ⟨o, e⟩, fun h1 h2 q k => ?_⟩
  obtain ⟨z, y, xs, r, o, es, ep, e, c⟩ := q
  exact ⟨z, y, xs, r, o, es, ep, k _ e, c⟩
theorem pair_val {kvs : List NK} {xs : List (NestedKey × Addr × Value)} (r : Paired PairN kvs xs) (k : NestedKey) : RelO (valN kvs k) ((atKey xs k).map (·.2)) := by
  induction r with
  | nil => exact trivial
  | @cons p q ps qs h t ih =>
    obtain ⟨h1, h2, h3⟩ := h
    unfold valN atKey at ih ⊢
    by_cases e : p.1 = k
    · have e2 : q.1 = k := h1.symm.trans e
      simp only [List.find?_cons, e, e2, decide_true, Option.map_some]
      exact h3
    · have e2 : ¬ q.1 = k := fun z => e (h1.trans z)
      simp only [List.find?_cons, decide_eq_false e, decide_eq_false e2]
      exact ih
theorem valN_snoc {kvs : List NK} {k : NestedKey} {b : Addr} {v : V} (h : valN kvs k = none) (j : NestedKey) : valN (kvs ++ [(k, b, v)]) j = if j = k then some v else valN kvs j := by
  unfold valN at h ⊢
  rw [List.find?_append]
  by_cases e : j = k
  · subst e
    have : kvs.find? (fun e => decide (e.1 = j)) = none := Option.map_eq_none_iff.mp h
    simp [this, List.find?_cons]
  · rw [if_neg e]
    have : ¬ k = j := fun z => e z.symm
    cases kvs.find? (fun e => decide (e.1 = j)) <;> simp [List.find?_cons, this]
section
variable {X : Cx}
theorem dn_dict {pins : List (Addr × Obj)} {σ : L2.St} {H : Hp} {s : Shared} {a : Addr} {kvs : List NK} (I : Inv X pins σ H s) (e : H a = some (DNs X.prog X.w a kvs)) (ok : KeysOk X.K H kvs) :
    (a == sysModules) = false ∧ kvs.length ≤ sizeLine ∧ ∃ xs, Paired PairN kvs xs ∧ s.heap.DictOfH (nestedKind X.prog X.w) a xs := by
  obtain ⟨z, y, xs, r, o, es, ep, h1, h2, h3, h4, h5⟩ := (I.hok a _ e).1
  refine ⟨z, y, xs, r, o, es, ep, h1, h2, h3, h4, fun x hx => ?_, h5⟩
  have all : ∀ {l : List NK} {m : List (NestedKey × Addr × Value)}, Paired PairN l m → (∀ e ∈ l, KIs X.K H (.ref e.2.1) e.1 ∧ e.1.depth ≤ 8) → ∀ x ∈ m, (nestedKind X.prog X.w).is s.heap x.1 x.2.1 := by
    intro l m q
    induction q with
    | nil => intro _ x hx; exact nomatch hx
    | @cons p q ps qs hq t ih =>
      intro okl x hx
      rcases List.mem_cons.mp hx with e | hx
      · subst e
        obtain ⟨k1, k2⟩ := okl p List.mem_cons_self
        rw [hq.1, hq.2.1] at k1
        exact ⟨kis_real I k1 rfl, by rw [← hq.1]; exact k2⟩
      · exact ih (fun e he => okl e (List.mem_cons_of_mem _ he)) x hx
  exact all r ok x hx
def rInN (P : Program) (w : World) (K : PySem.W.Frag) (neg : Bool) : R2 := fun x y H Q => ∃ (a b : Addr) (kvs : List NK) (k : NestedKey), y = .ref a ∧ x = .ref b ∧ H a = some (DNs P w a kvs) ∧ KeysOk K H kvs ∧ KIs K H (.ref b) k ∧ k.depth ≤ 8 ∧
  Q (.bl (if neg = true then !(valN kvs k).isSome else (valN kvs k).isSome)) H
theorem op_inN (hu : X.A.units + 64 < cLine) : OpR X (compareOp .In) (rInN X.prog X.w X.K false) := by
  intro pins s σ H x y v u Q I rx ry h
  obtain ⟨a, b, kvs, k, rfl, rfl, e, ok, hk, dk, q⟩ := h
  obtain rfl : v = Value.ref b := rx
  obtain rfl : u = Value.ref a := ry
  obtain ⟨z, _, xs, r, dd⟩ := dn_dict I e ok
  refine wpAny_in_heap (knd := nestedKind X.prog X.w) (show X.A.units + 1 + 8 < cLine by omega) ⟨kis_real I hk rfl, dk⟩ z dd ?_
  have q2 := (pair_val r k).isSome_eq
  rw [Option.isSome_map] at q2
  refine ⟨.bl _, H, I.tok _, rfl, ?_⟩
  rw [← q2]
  exact q
theorem op_notInN (hu : X.A.units + 64 < cLine) : OpR X (compareOp .NotIn) (rInN X.prog X.w X.K true) := by
  intro pins s σ H x y v u Q I rx ry h
  obtain ⟨a, b, kvs, k, rfl, rfl, e, ok, hk, dk, q⟩ := h
  obtain rfl : v = Value.ref b := rx
  obtain rfl : u = Value.ref a := ry
  obtain ⟨z, _, xs, r, dd⟩ := dn_dict I e ok
  refine wpAny_notIn_heap (knd := nestedKind X.prog X.w) (show X.A.units + 1 + 8 < cLine by omega) ⟨kis_real I hk rfl, dk⟩ z dd ?_
  have q2 := (pair_val r k).isSome_eq
  rw [Option.isSome_map] at q2
  refine ⟨.bl _, H, I.tok _, rfl, ?_⟩
  rw [← q2]
  exact q
def rIxN (P : Program) (w : World) (K : PySem.W.Frag) : R2 := fun x y H Q => ∃ (a b : Addr) (kvs : List NK) (k : NestedKey) (v : V), x = .ref a ∧ y = .ref b ∧ H a = some (DNs P w a kvs) ∧ KeysOk K H kvs ∧ KIs K H (.ref b) k ∧ k.depth ≤ 8 ∧ valN kvs k = some v ∧ Q v H
theorem ix_nest (hu : X.A.units + 64 < cLine) : IxR X (rIxN X.prog X.w X.K) := by
  intro value slice pins s σ H x y v u Q I rx ry h hs
  obtain ⟨a, b, kvs, k, z0, rfl, rfl, e, ok, hk, dk, hv, q⟩ := h
  obtain rfl : v = Value.ref a := rx
  obtain rfl : u = Value.ref b := ry
  obtain ⟨z, _, xs, r, dd⟩ := dn_dict I e ok
  obtain ⟨w', hw, rw'⟩ := RelO.some_of (v := z0) (o := (atKey xs k).map (·.2)) (by rw [← hv]; exact pair_val r k)
  obtain ⟨p, hp, hp2⟩ := Option.map_eq_some_iff.mp hw
  refine tail_any dd.typeIs PySem.F.slot_dict_getitem.lookup (wpAny_getItem_heap (knd := nestedKind X.prog X.w) (show X.A.units + 1 + 8 < cLine by omega) ⟨kis_real I hk rfl, dk⟩ dd hp ?_) hs
  rw [hp2]
  exact ⟨z0, H, I.tok _, rw', q⟩
/-- d[key] = v, the key not yet there -/
def rSetN (P : Program) (w : World) (K : PySem.W.Frag) : TSet := fun o i v H Q => ∃ (a b : Addr) (kvs : List NK) (k : NestedKey), o = .ref a ∧ i = .ref b ∧ H a = some (DNs P w a kvs) ∧ KeysOk K H kvs ∧ KIs K H (.ref b) k ∧ k.depth ≤ 8 ∧ valN kvs k = none ∧ kvs.length < sizeLine ∧
  Q (upd H a (DNs P w a (kvs ++ [(k, b, v)])))
theorem set_nest (hu : X.A.units + 64 < cLine) : PSet X (rSetN X.prog X.w X.K) := by
  intro pins s σ H o i v ov iv u Q I ro ri rv h
  obtain ⟨a, b, kvs, k, rfl, rfl, e, ok, hk, dk, hn, hl, q⟩ := h
  obtain rfl : ov = Value.ref a := ro
  obtain rfl : iv = Value.ref b := ri
  obtain ⟨z, sz, xs, r, dd⟩ := dn_dict I e ok
  have none' : atKey xs k = none := by
    have q2 := (pair_val r k).isSome_eq
    rw [Option.isSome_map, hn] at q2
    cases h : atKey xs k with
    | none => rfl
    | some p => rw [h] at q2; cases q2
  refine wpAny_setItem_heap (knd := nestedKind X.prog X.w) (hsz := by rw [← Paired.length r]; exact sz) (show X.A.units + 1 + 8 < cLine by omega) ⟨kis_real I hk rfl, dk⟩ dd fun h' dd' hs => ⟨_, ?_, q⟩
  rw [storedH_new none'] at dd'
  obtain ⟨o', es, ep, e1, e2, e3, e4, _, e5⟩ := dd'
  refine d_write I (by rw [e]; trivial) hs ⟨o', e1⟩ (DNh.ok ⟨z, ?_, _, Paired.snoc r ⟨rfl, rfl, rv⟩, o', es, ep, e1, e2, e3, e4, e5⟩)
  rw [List.length_append, List.length_singleton]
  exact hl
/-- {} -/
def tDNewN (P : Program) (w : World) : TE := fun _ H Q => ∀ p, H p = none → Q (.ref p) (upd H p (DNs P w p []))
theorem pe_dnewN {pos : Pos} : PE X (.Dict [] [] pos) (tDNewN X.prog X.w) :=
  ⟨fun pins s σ H Q I h => wpAny_Dict_empty ⟨.ref s.heap.objs.size, _, I.laid (a := s.heap.objs.size) (t' := s.toks) (fun _ _ q => Heap.get?_push_of_some _ q) (Nat.le_refl _) (DNh.ok (by
    obtain ⟨z, y, xs, r, o, es, ep, e, c⟩ := dt_empty (P := X.prog) (w := X.w) (H := H) s.heap I.big
    cases r
    exact ⟨y, Nat.zero_le _, [], .nil, o, es, ep, e, c.1, c.2.1, c.2.2.1, List.nodup_nil⟩)), rfl, h _ (I.hok.fresh (Nat.le_refl _))⟩⟩
end
end Fw

set_option maxRecDepth 100000
set_option maxHeartbeats 2000000
/-! Two clauses of a comprehension over any walks; x in a tuple, deep; what is kept of tuples. -/
namespace Fw
open PySem PySem.Spec PyProof.Rows L2
section
variable {X : Cx}
def rInT (K : PySem.W.Frag) : R2 := fun x y H Q => ∃ d ds, Dp K H x d ∧ Dp K H y (.tuple ds) ∧ SeqAt.shaped d = true ∧ SeqAt.shaped (.tuple ds) = true ∧ Q (.bl (ds.any fun z => PyData.eqv z d)) H
theorem op_inT (hu : X.A.units + 64 < cLine) : OpR X (compareOp .In) (rInT X.K) := by
  intro pins s σ H x y v u Q I rx ry h
  obtain ⟨d, ds, hd, he, sd, se, q⟩ := h
  obtain ⟨as, r1⟩ := Dp.reads I d x v hd rx
  obtain ⟨bs, r2⟩ := Dp.reads I (.tuple ds) y u he ry
  have hz := SeqAt.shaped
  have : X.A.units + 1 + min (PyData.depthAll ds) d.depth < cLine := by
    have e : (PyData.canLay0 (.tuple ds) && decide (PyData.depth (.tuple ds) ≤ 64)) = true := se
    have := of_decide_eq_true (Bool.and_eq_true_iff.mp e).2
    simp only [PyData.depth] at this
    omega
  exact SeqAt.in_tuple_reads r2 r1 (SeqAt.canLay_of_shaped se) (SeqAt.canLay_of_shaped sd) this ⟨.bl _, H, I, rfl, q⟩
end
theorem in2_it {J : It} {n : Nat} {G : Hp → Prop} {Y : Nat → Hp → V → Hp → Prop} (w : Walk J n G Y) {g : TG} {tt : TT} {te : TE} {vs : List Nat} {σ : L2.St} {H1 : Hp} {D : Addr} {Nx : Hp → Prop} (Pv : Nat → Hp → Prop) (h0 : Pv 0 H1) (hG : ∀ i H, i ≤ n → Pv i H → G H)
    (hs : ∀ i x H H', i < n → Pv i H → Y i H x H' → g x (wipe σ vs) H' fun σ2 H2 => wipe σ2 vs = wipe σ vs ∧ tt σ2 H2 fun b H3 =>
      if b = true then te σ2 H3 fun y H4 => ∃ acc, H4 D = some (.lst acc) ∧ acc.length < sizeLine ∧ Pv (i + 1) (upd H4 D (.lst (acc ++ [y]))) else Pv (i + 1) H3) (hd : ∀ H, Pv n H → Nx H) :
    ∃ W : Nat → Nat → Hp → Prop, (∃ m, W 0 m H1) ∧ ∀ i m H, W i m H →
      (J.stop i H ∧ Nx H) ∨ (J.go i H ∧ ∃ Nx1 : Hp → Prop, (∀ H', Nx1 H' → ∃ m', m' < m ∧ W (i + 1) m' H') ∧ ∀ x H', J.yld i H x H' → g x (wipe σ vs) H' fun σ2 H2 => wipe σ2 vs = wipe σ vs ∧ tt σ2 H2 fun b H3 =>
        if b = true then te σ2 H3 fun y H4 => ∃ acc, H4 D = some (.lst acc) ∧ acc.length < sizeLine ∧ Nx1 (upd H4 D (.lst (acc ++ [y]))) else Nx1 H3) := by
  refine ⟨fun i m H => m = n - i ∧ i ≤ n ∧ Pv i H, ⟨n, by simp, Nat.zero_le _, h0⟩, ?_⟩
  rintro i m H ⟨rfl, hi, p⟩
  have q := hG i H hi p
  by_cases hlt : i < n
  · refine .inr ⟨w.goes i H hlt q, Pv (i + 1), fun H' p' => ⟨n - (i + 1), by omega, rfl, hlt, p'⟩, fun x H' y => hs i x H H' hlt p (w.yields i H x H' hlt q y)⟩
  · have e : i = n := by omega
    subst e
    exact .inl ⟨w.stops H q, hd H p⟩
theorem lc2_it {J : It} {n : Nat} {G : Hp → Prop} {Y : Nat → Hp → V → Hp → Prop} (w : Walk J n G Y) {wi1 : TI} {g g1 : TG} {tt tt1 : TT} {te : TE} {vs vs1 : List Nat} {σ : L2.St} {H1 : Hp} {D : Addr} {Qd : Hp → Prop} (Pv : Nat → Hp → Prop) (h0 : Pv 0 (upd H1 D (.lst []))) (hG : ∀ i H, i ≤ n → Pv i H → G H)
    (hs : ∀ i x H H', i < n → Pv i H → Y i H x H' → g x (wipe σ vs) H' fun σ2 H2 => wipe σ2 vs = wipe σ vs ∧ tt σ2 H2 fun b H3 =>
      if b = true then wi1 σ2 H3 fun J1 H4 => ∃ W1 : Nat → Nat → Hp → Prop, (∃ m, W1 0 m H4) ∧ ∀ j k H, W1 j k H →
        (J1.stop j H ∧ Pv (i + 1) H) ∨ (J1.go j H ∧ ∃ Nx1 : Hp → Prop, (∀ H', Nx1 H' → ∃ k', k' < k ∧ W1 (j + 1) k' H') ∧ ∀ x H', J1.yld j H x H' → g1 x (wipe σ2 vs1) H' fun σ3 H5 => wipe σ3 vs1 = wipe σ2 vs1 ∧ tt1 σ3 H5 fun b H6 =>
          if b = true then te σ3 H6 fun y H7 => ∃ acc, H7 D = some (.lst acc) ∧ acc.length < sizeLine ∧ Nx1 (upd H7 D (.lst (acc ++ [y]))) else Nx1 H6)
      else Pv (i + 1) H3) (hd : ∀ H, Pv n H → Qd H) :
    ∃ W : Nat → Nat → Hp → Prop, (∃ m, W 0 m (upd H1 D (.lst []))) ∧ ∀ i m H, W i m H →
      (J.stop i H ∧ Qd H) ∨ (J.go i H ∧ ∃ Nx : Hp → Prop, (∀ H', Nx H' → ∃ m', m' < m ∧ W (i + 1) m' H') ∧ ∀ x H', J.yld i H x H' → g x (wipe σ vs) H' fun σ2 H2 => wipe σ2 vs = wipe σ vs ∧ tt σ2 H2 fun b H3 =>
        if b = true then wi1 σ2 H3 fun J1 H4 => ∃ W1 : Nat → Nat → Hp → Prop, (∃ m, W1 0 m H4) ∧ ∀ j k H, W1 j k H →
          (J1.stop j H ∧ Nx H) ∨ (J1.go j H ∧ ∃ Nx1 : Hp → Prop, (∀ H', Nx1 H' → ∃ k', k' < k ∧ W1 (j + 1) k' H') ∧ ∀ x H', J1.yld j H x H' → g1 x (wipe σ2 vs1) H' fun σ3 H5 => wipe σ3 vs1 = wipe σ2 vs1 ∧ tt1 σ3 H5 fun b H6 =>
            if b = true then te σ3 H6 fun y H7 => ∃ acc, H7 D = some (.lst acc) ∧ acc.length < sizeLine ∧ Nx1 (upd H7 D (.lst (acc ++ [y]))) else Nx1 H6)
        else Nx H3) := by
  refine ⟨fun i m H => m = n - i ∧ i ≤ n ∧ Pv i H, ⟨n, by simp, Nat.zero_le _, h0⟩, ?_⟩
  rintro i m H ⟨rfl, hi, p⟩
  have q := hG i H hi p
  by_cases hlt : i < n
  · refine .inr ⟨w.goes i H hlt q, Pv (i + 1), fun H' p' => ⟨n - (i + 1), by omega, rfl, hlt, p'⟩, fun x H' y => hs i x H H' hlt p (w.yields i H x H' hlt q y)⟩
  · have e : i = n := by omega
    subst e
    exact .inl ⟨w.stops H q, hd H p⟩
/-- tuples are as they were -/
def TKp (K : PySem.W.Frag) (H H' : Hp) : Prop := ∀ a xs, SqT K H a xs → SqT K H' a xs
theorem TKp.refl (K : PySem.W.Frag) (H : Hp) : TKp K H H := fun _ _ h => h
theorem TKp.trans {K : PySem.W.Frag} {H H1 H2 : Hp} (a : TKp K H H1) (b : TKp K H1 H2) : TKp K H H2 := fun c xs h => b c xs (a c xs h)
theorem TKp.put {K : PySem.W.Frag} {H : Hp} {d : Addr} {o o' : HO} (e : H d = some o) (n1 : ∀ xs, o ≠ .tup xs) (n2 : ∀ u xs, o ≠ .frz u (.tup xs)) : TKp K H (upd H d o') := by
  intro a xs h
  rcases h with h | h
  · rcases h with h | ⟨u, h⟩
    · exact .inl (.inl (by rw [upd_ne (ne_of h e (n1 _).symm)]; exact h))
    · exact .inl (.inr ⟨u, by rw [upd_ne (ne_of h e (n2 _ _).symm)]; exact h⟩)
  · exact .inr h
theorem TKp.lst {K : PySem.W.Frag} {H : Hp} {d : Addr} {ys : List V} {o' : HO} (e : H d = some (.lst ys)) : TKp K H (upd H d o') := TKp.put e (fun _ z => by cases z) (fun _ _ z => by cases z)
theorem TKp.ext {K : PySem.W.Frag} {H : Hp} {d : Addr} {p : Heap → Prop} {o' : HO} (e : H d = some (.ext p)) : TKp K H (upd H d o') := TKp.put e (fun _ z => by cases z) (fun _ _ z => by cases z)
theorem TKp.ins {K : PySem.W.Frag} {H : Hp} {d C dx : Addr} {fs : List (Str × V)} {o' : HO} (e : H d = some (.ins C dx fs)) : TKp K H (upd H d o') := TKp.put e (fun _ z => by cases z) (fun _ _ z => by cases z)
end Fw

set_option maxRecDepth 100000
set_option maxHeartbeats 2000000
namespace Fw
open PySem PySem.Spec PyProof.Rows L2
/-! ### the text by places -/
def top (i : Nat) : Stmt := PySem.Challenge.pw_fixworlds_k30_shorter.main.body.getD i (.Pass ⟨0, 0, 0, 0⟩)
abbrev s_wall : Stmt := top 0
abbrev s_Part_init : Stmt := inClass (top 5) 0
abbrev s_head_of : Stmt := top 6
abbrev s_parts_of : Stmt := top 7
abbrev s_Shelf_init : Stmt := inClass (top 9) 0
abbrev s_Shelf_number : Stmt := inClass (top 9) 1
abbrev s_Shelf__free_in : Stmt := inClass (top 9) 2
abbrev s_Shelf_numbered : Stmt := inClass (top 9) 3
abbrev s_Shelf_unfolding : Stmt := inClass (top 9) 4
abbrev s_Shelf__parts_with_free : Stmt := inClass (top 9) 5
abbrev s_Shortener_init : Stmt := inClass (top 11) 0
abbrev s_Shortener_replaced : Stmt := inClass (top 11) 1
abbrev s_Shortener__joined : Stmt := inClass (top 11) 2
abbrev s_Shortener__absorbs : Stmt := inClass (top 11) 3
abbrev s_is_plain : Stmt := top 12
abbrev s_shortened : Stmt := top 13
abbrev s_law_draws : Stmt := top 15
abbrev s_law_take : Stmt := top 16
abbrev s_law_inner : Stmt := top 17
abbrev s_law_atom : Stmt := top 18
abbrev s_law_statement : Stmt := top 19
abbrev s_law_closed : Stmt := top 20
abbrev s_law_free : Stmt := top 21
abbrev s_law_world : Stmt := top 22
abbrev s_law_behind : Stmt := top 23
abbrev s_law_value : Stmt := top 24
abbrev s_law_truth : Stmt := top 25
abbrev s_law_ruled : Stmt := top 26
abbrev s_law_short : Stmt := top 27
abbrev s_law_can_be_ruled : Stmt := top 28
abbrev s_law_doubled : Stmt := top 29
abbrev s_law : Stmt := top 30
abbrev n_wall : List Str := ["k"]
abbrev a_wall : List Str := ["k"]
theorem sc_wall : FnScope n_wall a_wall (defScope s_wall) := ⟨rfl, rfl, rfl, by decide +kernel, rfl, by decide +kernel, by decide +kernel⟩
abbrev n_Part_init : List Str := ["self", "head", "around"]
abbrev a_Part_init : List Str := ["self", "head", "around"]
theorem sc_Part_init : FnScope n_Part_init a_Part_init (defScope s_Part_init) := ⟨rfl, rfl, rfl, by decide +kernel, rfl, by decide +kernel, by decide +kernel⟩
abbrev n_head_of : List Str := ["statement"]
abbrev a_head_of : List Str := ["statement"]
theorem sc_head_of : FnScope n_head_of a_head_of (defScope s_head_of) := ⟨rfl, rfl, rfl, by decide +kernel, rfl, by decide +kernel, by decide +kernel⟩
abbrev n_parts_of : List Str := ["statement", "parts", "waiting", "told", "around", "head", "at", "within"]
abbrev a_parts_of : List Str := ["statement"]
theorem sc_parts_of : FnScope n_parts_of a_parts_of (defScope s_parts_of) := ⟨rfl, rfl, rfl, by decide +kernel, rfl, by decide +kernel, by decide +kernel⟩
abbrev n_Shelf_init : List Str := ["self"]
abbrev a_Shelf_init : List Str := ["self"]
theorem sc_Shelf_init : FnScope n_Shelf_init a_Shelf_init (defScope s_Shelf_init) := ⟨rfl, rfl, rfl, by decide +kernel, rfl, by decide +kernel, by decide +kernel⟩
abbrev n_Shelf_number : List Str := ["self", "head", "inner", "key", "at"]
abbrev a_Shelf_number : List Str := ["self", "head", "inner"]
theorem sc_Shelf_number : FnScope n_Shelf_number a_Shelf_number (defScope s_Shelf_number) := ⟨rfl, rfl, rfl, by decide +kernel, rfl, by decide +kernel, by decide +kernel⟩
abbrev n_Shelf__free_in : List Str := ["self", "head", "inner", "found", "at", "variable"]
abbrev a_Shelf__free_in : List Str := ["self", "head", "inner"]
theorem sc_Shelf__free_in : FnScope n_Shelf__free_in a_Shelf__free_in (defScope s_Shelf__free_in) := ⟨rfl, rfl, rfl, by decide +kernel, rfl, by decide +kernel, by decide +kernel⟩
abbrev n_Shelf_numbered : List Str := ["self", "statement", "parts", "numbers", "at", "inner", "place"]
abbrev a_Shelf_numbered : List Str := ["self", "statement"]
theorem sc_Shelf_numbered : FnScope n_Shelf_numbered a_Shelf_numbered (defScope s_Shelf_numbered) := ⟨rfl, rfl, rfl, by decide +kernel, rfl, by decide +kernel, by decide +kernel⟩
abbrev n_Shelf_unfolding : List Str := ["self", "number"]
abbrev a_Shelf_unfolding : List Str := ["self", "number"]
theorem sc_Shelf_unfolding : FnScope n_Shelf_unfolding a_Shelf_unfolding (defScope s_Shelf_unfolding) := ⟨rfl, rfl, rfl, by decide +kernel, rfl, by decide +kernel, by decide +kernel⟩
abbrev n_Shelf__parts_with_free : List Str := ["self", "number", "variable"]
abbrev a_Shelf__parts_with_free : List Str := ["self", "number", "variable"]
theorem sc_Shelf__parts_with_free : FnScope n_Shelf__parts_with_free a_Shelf__parts_with_free (defScope s_Shelf__parts_with_free) := ⟨rfl, rfl, rfl, by decide +kernel, rfl, by decide +kernel, by decide +kernel⟩
abbrev n_Shortener_init : List Str := ["self", "true", "false"]
abbrev a_Shortener_init : List Str := ["self"]
theorem sc_Shortener_init : FnScope n_Shortener_init a_Shortener_init (defScope s_Shortener_init) := ⟨rfl, rfl, rfl, by decide +kernel, rfl, by decide +kernel, by decide +kernel⟩
abbrev n_Shortener_replaced : List Str := ["self", "number", "head", "inner"]
abbrev a_Shortener_replaced : List Str := ["self", "number"]
theorem sc_Shortener_replaced : FnScope n_Shortener_replaced a_Shortener_replaced (defScope s_Shortener_replaced) := ⟨rfl, rfl, rfl, by decide +kernel, rfl, by decide +kernel, by decide +kernel⟩
abbrev n_Shortener__joined : List Str := ["self", "number", "word", "left", "right"]
abbrev a_Shortener__joined : List Str := ["self", "number"]
theorem sc_Shortener__joined : FnScope n_Shortener__joined a_Shortener__joined (defScope s_Shortener__joined) := ⟨rfl, rfl, rfl, by decide +kernel, rfl, by decide +kernel, by decide +kernel⟩
abbrev n_Shortener__absorbs : List Str := ["self", "number", "other", "word", "other_word"]
abbrev a_Shortener__absorbs : List Str := ["self", "number", "other", "word"]
theorem sc_Shortener__absorbs : FnScope n_Shortener__absorbs a_Shortener__absorbs (defScope s_Shortener__absorbs) := ⟨rfl, rfl, rfl, by decide +kernel, rfl, by decide +kernel, by decide +kernel⟩
abbrev n_is_plain : List Str := ["statement", "shortener", "at"]
abbrev a_is_plain : List Str := ["statement"]
theorem sc_is_plain : FnScope n_is_plain a_is_plain (defScope s_is_plain) := ⟨rfl, rfl, rfl, by decide +kernel, rfl, by decide +kernel, by decide +kernel⟩
abbrev n_shortened : List Str := ["statement", "shortener", "parts", "numbers", "at", "inner", "place"]
abbrev a_shortened : List Str := ["statement"]
theorem sc_shortened : FnScope n_shortened a_shortened (defScope s_shortened) := ⟨rfl, rfl, rfl, by decide +kernel, rfl, by decide +kernel, by decide +kernel⟩
abbrev n_law_draws : List Str := ["script", "count", "cells", "found", "mixed", "k", "j", "cell", "again"]
abbrev a_law_draws : List Str := ["script", "count"]
theorem sc_law_draws : FnScope n_law_draws a_law_draws (defScope s_law_draws) := ⟨rfl, rfl, rfl, by decide +kernel, rfl, by decide +kernel, by decide +kernel⟩
abbrev n_law_take : List Str := ["draws", "limit"]
abbrev a_law_take : List Str := ["draws", "limit"]
theorem sc_law_take : FnScope n_law_take a_law_take (defScope s_law_take) := ⟨rfl, rfl, rfl, by decide +kernel, rfl, by decide +kernel, by decide +kernel⟩
abbrev n_law_inner : List Str := ["statement", "part"]
abbrev a_law_inner : List Str := ["statement"]
theorem sc_law_inner : FnScope n_law_inner a_law_inner (defScope s_law_inner) := ⟨rfl, rfl, rfl, by decide +kernel, rfl, by decide +kernel, by decide +kernel⟩
abbrev n_law_atom : List Str := ["draws", "ready", "kind"]
abbrev a_law_atom : List Str := ["draws", "ready"]
theorem sc_law_atom : FnScope n_law_atom a_law_atom (defScope s_law_atom) := ⟨rfl, rfl, rfl, by decide +kernel, rfl, by decide +kernel, by decide +kernel⟩
abbrev n_law_statement : List Str := ["draws", "depth", "waiting", "ready", "loose", "kind", "first", "label", "variable", "later", "usable", "other"]
abbrev a_law_statement : List Str := ["draws", "depth", "waiting", "ready", "loose"]
theorem sc_law_statement : FnScope n_law_statement a_law_statement (defScope s_law_statement) := ⟨rfl, rfl, rfl, by decide +kernel, rfl, by decide +kernel, by decide +kernel⟩
abbrev n_law_closed : List Str := ["draws", "depth"]
abbrev a_law_closed : List Str := ["draws", "depth"]
theorem sc_law_closed : FnScope n_law_closed a_law_closed (defScope s_law_closed) := ⟨rfl, rfl, rfl, by decide +kernel, rfl, by decide +kernel, by decide +kernel⟩
abbrev n_law_free : List Str := ["statement", "bound", "found", "part"]
abbrev a_law_free : List Str := ["statement", "bound"]
theorem sc_law_free : FnScope n_law_free a_law_free (defScope s_law_free) := ⟨rfl, rfl, rfl, by decide +kernel, rfl, by decide +kernel, by decide +kernel⟩
abbrev n_law_world : List Str := ["draws", "most", "facts", "size", "state", "states", "steps", "label", "other", "fact"]
abbrev a_law_world : List Str := ["draws", "most", "facts"]
theorem sc_law_world : FnScope n_law_world a_law_world (defScope s_law_world) := ⟨rfl, rfl, rfl, by decide +kernel, rfl, by decide +kernel, by decide +kernel⟩
abbrev n_law_behind : List Str := ["world", "state", "label", "step"]
abbrev a_law_behind : List Str := ["world", "state", "label"]
theorem sc_law_behind : FnScope n_law_behind a_law_behind (defScope s_law_behind) := ⟨rfl, rfl, rfl, by decide +kernel, rfl, by decide +kernel, by decide +kernel⟩
abbrev n_law_value : List Str := ["world", "statement", "sets", "states", "kind", "now", "turn", "inner", "name", "first", "second", "state", "k"]
abbrev a_law_value : List Str := ["world", "statement", "sets"]
theorem sc_law_value : FnScope n_law_value a_law_value (defScope s_law_value) := ⟨rfl, rfl, rfl, by decide +kernel, rfl, by decide +kernel, by decide +kernel⟩
abbrev n_law_truth : List Str := ["world", "statement"]
abbrev a_law_truth : List Str := ["world", "statement"]
theorem sc_law_truth : FnScope n_law_truth a_law_truth (defScope s_law_truth) := ⟨rfl, rfl, rfl, by decide +kernel, rfl, by decide +kernel, by decide +kernel⟩
abbrev n_law_ruled : List Str := ["statement", "kind", "unit", "zero", "partner", "pair"]
abbrev a_law_ruled : List Str := ["statement"]
theorem sc_law_ruled : FnScope n_law_ruled a_law_ruled (defScope s_law_ruled) := ⟨rfl, rfl, rfl, by decide +kernel, rfl, by decide +kernel, by decide +kernel⟩
abbrev n_law_short : List Str := ["statement", "parts", "found", "part"]
abbrev a_law_short : List Str := ["statement"]
theorem sc_law_short : FnScope n_law_short a_law_short (defScope s_law_short) := ⟨rfl, rfl, rfl, by decide +kernel, rfl, by decide +kernel, by decide +kernel⟩
abbrev n_law_can_be_ruled : List Str := ["statement", "part"]
abbrev a_law_can_be_ruled : List Str := ["statement"]
theorem sc_law_can_be_ruled : FnScope n_law_can_be_ruled a_law_can_be_ruled (defScope s_law_can_be_ruled) := ⟨rfl, rfl, rfl, by decide +kernel, rfl, by decide +kernel, by decide +kernel⟩
abbrev n_law_doubled : List Str := ["draws", "statement", "depth", "kind", "other", "pair"]
abbrev a_law_doubled : List Str := ["draws", "statement", "depth"]
theorem sc_law_doubled : FnScope n_law_doubled a_law_doubled (defScope s_law_doubled) := ⟨rfl, rfl, rfl, by decide +kernel, rfl, by decide +kernel, by decide +kernel⟩
abbrev n_law : List Str := ["script", "draws", "statement", "world", "due", "said"]
abbrev a_law : List Str := ["script"]
theorem sc_law : FnScope n_law a_law (defScope s_law) := ⟨rfl, rfl, rfl, by decide +kernel, rfl, by decide +kernel, by decide +kernel⟩
/-! ### calls -/
def Has (P : Program) (w : World) (K : PySem.W.Frag) (mg : Str → Option Value) (base : Heap) (x : Str) (k : Nat) (ps : List Str) (sp : Sp) : Prop :=
  ∃ f fd, mg x = some (.ref f) ∧ PySem.W.keepIn K (.ref f) = true ∧ Binds K fd ps [] ∧ FnOk P w K mg base CX0 k f fd ps sp
theorem pe_callH {X : Cx} {x : Str} {k : Nat} {ps : List Str} {sp : Sp} {e : Expr} {es : List Expr} {t : TA} {p pos : Pos} (h : Has X.prog X.w X.K X.mg X.base x k ps sp) (hr : Room k X.A) (ha : PA X (e :: es) t) (hg : Gl X x := by rfl)
    (hdb : (x == ("__debug__" : Str)) = false := by decide) (he : starEach (e :: es) X.env = (false, eval e X.env) :: starEach es X.env := by rfl) (hpl : (backTo pos (starEach es X.env)).any (·.1) = false := by rfl) :
    PE X (.Call (.Name x p) (e :: es) [] pos) (tCall sp [] E0 t) := by
  obtain ⟨f, fd, m, kp, b, G⟩ := h
  exact pe_call G hr hg m kp b .nil pass0 ha hdb he hpl
/-- .. of a def that may raise -/
def HasX (P : Program) (w : World) (K : PySem.W.Frag) (mg : Str → Option Value) (base : Heap) (x : Str) (k : Nat) (ps : List Str) (sp : Sp) : Prop :=
  ∃ f fd, mg x = some (.ref f) ∧ PySem.W.keepIn K (.ref f) = true ∧ Binds K fd ps [] ∧ FnOk P w K mg base (L2.CX P w) k f fd ps sp
theorem pe_callX {X : Cx} {W : WX} {x : Str} {k : Nat} {ps : List Str} {sp : Sp} {e : Expr} {es : List Expr} {t : TA} {p pos : Pos} (h : HasX X.prog X.w X.K X.mg X.base x k ps sp) (hr : Room k X.A) (tk : Takes X W) (ha : PA X (e :: es) t) (hg : Gl X x := by rfl)
    (hdb : (x == ("__debug__" : Str)) = false := by decide) (he : starEach (e :: es) X.env = (false, eval e X.env) :: starEach es X.env := by rfl) (hpl : (backTo pos (starEach es X.env)).any (·.1) = false := by rfl) :
    PE X (.Call (.Name x p) (e :: es) [] pos) (tCallS sp (WE W) t) := by
  obtain ⟨f, fd, m, kp, b, G⟩ := h
  exact pe_callS G hr hg m kp b (fun σ => passAt tk σ) ha hdb he hpl
theorem pe_callL {X : Cx} {x : Str} {k : Nat} {ps : List Str} {sp : Sp} {e : Expr} {es : List Expr} {t : TA} {p pos : Pos} (h : HasX X.prog X.w X.K X.mg X.base x k ps sp) (hr : Room k X.A) (ha : PA X (e :: es) t) (hg : Gl X x := by rfl)
    (hdb : (x == ("__debug__" : Str)) = false := by decide) (he : starEach (e :: es) X.env = (false, eval e X.env) :: starEach es X.env := by rfl) (hpl : (backTo pos (starEach es X.env)).any (·.1) = false := by rfl) :
    PE X (.Call (.Name x p) (e :: es) [] pos) (tCall sp [] E0 t) := by
  obtain ⟨f, fd, m, kp, b, G⟩ := h
  exact pe_call G hr hg m kp b .nil passL ha hdb he hpl
theorem pss_when {X : Cx} {sts : List Stmt} {t : TS} {p : Prop} (h : p → PSs X sts t) : PSs X sts (fun D σ H => p ∧ t D σ H) :=
  ⟨fun pins s σ H D I q => (h q.1).run pins s σ H D I q.2⟩
def HasC (P : Program) (w : World) (K : PySem.W.Frag) (mg : Str → Option Value) (base : Heap) (x : Str) (C : Addr) (k : Nat) (ps : List Str) (sp : Sp) : Prop :=
  ∃ f fd, mg x = some (.ref C) ∧ Mk K C f ∧ Binds K fd ps [] ∧ FnOk P w K mg base CX0 k f fd ps sp
theorem pe_makeH {X : Cx} {x : Str} {C : Addr} {k : Nat} {ps : List Str} {sp : Sp} {e : Expr} {es : List Expr} {t : TA} {p pos : Pos} (h : HasC X.prog X.w X.K X.mg X.base x C k ps sp) (hr : Room (k + 1) X.A) (ha : PA X (e :: es) t) (hg : Gl X x := by rfl)
    (hdb : (x == ("__debug__" : Str)) = false := by decide) (he : starEach (e :: es) X.env = (false, eval e X.env) :: starEach es X.env := by rfl) (hpl : (backTo pos (starEach es X.env)).any (·.1) = false := by rfl) :
    PE X (.Call (.Name x p) (e :: es) [] pos) (tMake C sp [] E0 t) := by
  obtain ⟨f, fd, m, M, b, G⟩ := h
  exact pe_make M G hr hg m b .nil pass0 ha hdb he hpl
/-! ### statements in memory -/
def wN (b : Bool) : Str := if b then "true" else "false"
def wT (b : Bool) : Str := if b then "and" else "or"
def wL : Leaf → Str
  | .has => "has"
  | .lacks => "lacks"
  | .var => "var"
def wO : One → Str
  | .some => "some"
  | .all => "all"
  | .least => "least"
  | .most => "most"
def hv : Hd → List V
  | .nul b => [.str (wN b)]
  | .leaf k n => [.str (wL k), .int n]
  | .two b => [.str (wT b)]
  | .one k n => [.str (wO k), .int n]
def hw : Hd → Str
  | .nul b => wN b
  | .leaf k _ => wL k
  | .two b => wT b
  | .one k _ => wO k
inductive IsF (K : PySem.W.Frag) (H : Hp) : V → F → Prop
  | nul {a : Addr} {b : Bool} : SqT K H a (hv (.nul b)) → IsF K H (.ref a) (.nul b)
  | leaf {a : Addr} {k : Leaf} {n : Int} : SqT K H a (hv (.leaf k n)) → IsF K H (.ref a) (.leaf k n)
  | two {a : Addr} {b : Bool} {x y : V} {f g : F} : SqT K H a (hv (.two b) ++ [x, y]) → IsF K H x f → IsF K H y g → IsF K H (.ref a) (.two b f g)
  | one {a : Addr} {k : One} {n : Int} {x : V} {f : F} : SqT K H a (hv (.one k n) ++ [x]) → IsF K H x f → IsF K H (.ref a) (.one k n f)
/-- all but what stands at d is as it was -/
def But (d : Addr) (H H' : Hp) : Prop := ∀ b o, b ≠ d → H b = some o → H' b = some o
theorem Same.but {d : Addr} {H H' : Hp} (s : Same H H') : But d H H' := fun b o _ e => s b o e
theorem But.refl (d : Addr) (H : Hp) : But d H H := fun _ _ _ e => e
theorem But.trans {d : Addr} {H H1 H2 : Hp} (a : But d H H1) (b : But d H1 H2) : But d H H2 := fun c o n e => b c o n (a c o n e)
theorem But.upd {d : Addr} {H : Hp} {o : HO} : But d H (upd H d o) := fun b u n e => by rw [upd_ne n]; exact e
theorem Same.new {H : Hp} {p : Addr} {o : HO} (h : H p = none) : Same H (upd H p o) := fun b u e => by rw [upd_ne (ne_of_none e h)]; exact e
theorem SqT.keepAt {K : PySem.W.Frag} {H H' : Hp} {a : Addr} {xs : List V} (k : ∀ o, H a = some o → H' a = some o) (h : SqT K H a xs) : SqT K H' a xs := by
  rcases h with h | h
  · rcases h with h | ⟨u, h⟩
    · exact .inl (.inl (k _ h))
    · exact .inl (.inr ⟨u, k _ h⟩)
  · exact .inr h
theorem SqL.keepAt {K : PySem.W.Frag} {H H' : Hp} {a : Addr} {xs : List V} (k : ∀ o, H a = some o → H' a = some o) (h : SqL K H a xs) : SqL K H' a xs := by
  rcases h with h | h
  · rcases h with h | ⟨u, h⟩
    · exact .inl (.inl (k _ h))
    · exact .inl (.inr ⟨u, k _ h⟩)
  · exact .inr h
theorem SqT.same {K : PySem.W.Frag} {H H' : Hp} {a : Addr} {xs : List V} (s : Same H H') (h : SqT K H a xs) : SqT K H' a xs := SqT.keepAt (fun o e => s a o e) h
/-- what stands at d is a list: tuples are elsewhere -/
def IsLst (H : Hp) (d : Addr) : Prop := ∃ xs, H d = some (.lst xs)
theorem SqT.but {K : PySem.W.Frag} {H H' : Hp} {a d : Addr} {xs : List V} (hd : IsLst H d) (s : But d H H') (h : SqT K H a xs) : SqT K H' a xs := by
  rcases h with h | h
  · obtain ⟨ys, e⟩ := hd
    rcases h with h | ⟨u, h⟩
    · exact .inl (.inl (s _ _ (ne_of h e (by intro z; cases z)) h))
    · exact .inl (.inr ⟨u, s _ _ (ne_of h e (by intro z; cases z)) h⟩)
  · exact .inr h
theorem IsF.map {K : PySem.W.Frag} {H H' : Hp} (s : ∀ a xs, SqT K H a xs → SqT K H' a xs) {v : V} {t : F} (h : IsF K H v t) : IsF K H' v t := by
  induction h with
  | nul h => exact .nul (s _ _ h)
  | leaf h => exact .leaf (s _ _ h)
  | two h _ _ f g => exact .two (s _ _ h) f g
  | one h _ f => exact .one (s _ _ h) f
theorem IsF.same {K : PySem.W.Frag} {H H' : Hp} (s : Same H H') {v : V} {t : F} (h : IsF K H v t) : IsF K H' v t := h.map fun _ _ => SqT.same s
theorem IsF.but {K : PySem.W.Frag} {H H' : Hp} {d : Addr} (hd : IsLst H d) (s : But d H H') {v : V} {t : F} (h : IsF K H v t) : IsF K H' v t := h.map fun _ _ => SqT.but hd s
inductive AllF (K : PySem.W.Frag) (H : Hp) : List V → List F → Prop
  | nil : AllF K H [] []
  | cons {x : V} {f : F} {xs : List V} {fs : List F} : IsF K H x f → AllF K H xs fs → AllF K H (x :: xs) (f :: fs)
theorem IsF.open {K : PySem.W.Frag} {H : Hp} {v : V} {t : F} (h : IsF K H v t) : ∃ a ks, v = .ref a ∧ SqT K H a (hv t.hd ++ ks) ∧ AllF K H ks t.kids := by
  cases h with
  | nul h => exact ⟨_, [], rfl, by simpa [F.hd] using h, .nil⟩
  | leaf h => exact ⟨_, [], rfl, by simpa [F.hd] using h, .nil⟩
  | two h f g => exact ⟨_, _, rfl, h, .cons f (.cons g .nil)⟩
  | one h f => exact ⟨_, _, rfl, h, .cons f .nil⟩
theorem IsF.close {K : PySem.W.Frag} {H : Hp} {a : Addr} {t : F} {ks : List V} (h : SqT K H a (hv t.hd ++ ks)) (hk : AllF K H ks t.kids) : IsF K H (.ref a) t := by
  cases t with
  | nul b =>
    cases hk
    exact .nul (by simpa [F.hd] using h)
  | leaf k n =>
    cases hk
    exact .leaf (by simpa [F.hd] using h)
  | two b f g =>
    cases hk with
    | cons x hk =>
      cases hk with
      | cons y hk =>
        cases hk
        exact .two h x y
  | one k n f =>
    cases hk with
    | cons x hk =>
      cases hk
      exact .one h x
theorem hv_len (h : Hd) : (hv h).length = 1 ∨ (hv h).length = 2 := by cases h <;> simp [hv]
theorem hv_head (h : Hd) : (hv h)[0]? = some (.str (hw h)) := by cases h <;> rfl
def isTwo : Hd → Bool
  | .two _ => true
  | _ => false
theorem in_joins (h : Hd) : inV (.str (hw h)) [.str "and", .str "or"] = isTwo h := by
  cases h with
  | nul b => cases b <;> rfl
  | leaf k n => cases k <;> rfl
  | two b => cases b <;> rfl
  | one k n => cases k <;> rfl
def isBH : Hd → Bool
  | .one k _ => k.bind
  | _ => false
theorem in_binders (h : Hd) : inV (.str (hw h)) [.str "least", .str "most"] = isBH h := by
  cases h with
  | nul b => cases b <;> rfl
  | leaf k n => cases k <;> rfl
  | two b => cases b <;> rfl
  | one k n => cases k <;> rfl
/-! ### what the top has written -/
structure Txt (K : PySem.W.Frag) (mg : Str → Option Value) (C J B : Addr) : Prop where
  z_all : mg "all" = none
  z_bool : mg "bool" = none
  z_int : mg "int" = none
  z_isinstance : mg "isinstance" = none
  z_len : mg "len" = none
  z_list : mg "list" = none
  z_range : mg "range" = none
  z_reversed : mg "reversed" = none
  z_set : mg "set" = none
  z_sorted : mg "sorted" = none
  z_tuple : mg "tuple" = none
  m_JOINS : mg "JOINS" = some (.ref J)
  c_JOINS : ∀ H, SqT K H J [.str "and", .str "or"]
  m_BINDERS : mg "BINDERS" = some (.ref B)
  c_BINDERS : ∀ H, SqT K H B [.str "least", .str "most"]
  cl : Cls K C
  nH : NoAttr K C "head"
  nA : NoAttr K C "around"
  nI : NoAttr K C "inner"
/-- what it has written of the errors -/
structure TxtE (K : PySem.W.Frag) (mg : Str → Option Value) (NC FE : Addr) : Prop where
  gC : mg "NotClosed" = some (.ref NC)
  gF : mg "FixError" = some (.ref FE)
  xC : PySem.W.excIn K NC [.type "ValueError", .type "Exception", .type "BaseException", .type "object"] "ValueError.__new__" = true
  kC : PySem.W.keepIn K (.ref NC) = true
  bC : PySem.W.subIn K (.ref NC) (.type "BaseException") = some true
  tC : PySem.W.typeIn K (.ref NC) = some (.type "type")
  eC : PySem.W.exmOne K (.ref NC) (.ref NC) = some true
  is : ExcC K NC
  kF : PySem.W.kitOne K (.ref NC) (.ref FE) = some true
  kV : PySem.W.kitOne K (.ref NC) (.type "ValueError") = some true
def pf (h : V) (a : Int) (l : Addr) : List (Str × V) := [("head", h), ("around", .int a), ("inner", .ref l)]
theorem pf_make (h : V) (a : Int) (l : Addr) : putF "inner" (.ref l) (putF "around" (.int a) (putF "head" h [])) = pf h a l := by rfl
theorem join {c : Bool} {A : Prop} {C : Hp → Prop} {G : Hp} (Fa : Hp → Prop) (hr : ∀ G5, Fa G5 → C G5) (h1 : c = true → (∀ G5, Fa G5 → C G5) → A) (h2 : c = false → Fa G) : if c = true then A else C G := by
  cases c with
  | true => exact h1 rfl hr
  | false => exact hr _ (h2 rfl)
section
variable {P : Program} {w : World} {K : PySem.W.Frag} {mg : Str → Option Value} {base : Heap} {C J B : Addr}
/-! ### Part -/
def spPart (K : PySem.W.Frag) (C : Addr) : Sp := fun vs H Q _ => ∃ (p dx : Addr) (h : V) (a : Int), vs = [.ref p, h, .int a] ∧ H p = some (.ins C dx []) ∧
  ∀ l H', H l = none → H' p = some (.ins C dx (pf h a l)) → H' l = some (.lst []) → But p H H' → Q .non H'
theorem ok_Part {f : Addr} {fd : FuncData} (FF : Fun K "__init__" "Part.__init__" s_Part_init f fd) (T : Txt K mg C J B) : FnOk P w K mg base CX0 1 f fd a_Part_init (spPart K C) := by
  refine FF.ok sc_Part_init (fun vs H Q E h => ?_) (fun cdv A outer s H vs Q E hr h => ?_)
  · obtain ⟨p, dx, h, a, rfl, _⟩ := h
    rfl
  · obtain ⟨p, dx, h, a, rfl, hp, k⟩ := h
    refine ⟨_, (pss_cons (ps_fld (pv 0) (pv 1) rfl)
      (pss_cons (ps_fld (pv 0) (pv 2) rfl)
      (pss_one (ps_fld (pv 0) (pe_lst pa_nil) rfl)))), ?_⟩
    refine ⟨_, rfl, _, rfl, p, C, dx, [], rfl, hp, T.cl, T.nH, by show 0 < 1000; decide, ?_⟩
    refine ⟨_, rfl, _, rfl, p, C, dx, _, rfl, upd_same, T.cl, T.nA, by show 1 < 1000; decide, ?_⟩
    refine ⟨Nat.zero_le _, fun l hl => ?_⟩
    have pl : p ≠ l := fun e => by
      rw [e, upd_same] at hl
      cases hl
    refine ⟨_, rfl, p, C, dx, _, rfl, by rw [upd_ne pl, upd_same], T.cl, T.nI, by show 2 < 1000; decide, ?_⟩
    rw [upd_ne pl.symm, upd_ne pl.symm] at hl
    refine k l _ hl (by rw [upd_same, pf_make]) (by rw [upd_ne pl.symm, upd_same]) fun b o nb e => ?_
    rw [upd_ne nb, upd_ne (ne_of_none e hl), upd_ne nb, upd_ne nb]
    exact e
/-! ### head_of -/
def spHead (K : PySem.W.Frag) : Sp := fun vs H Q _ => ∃ (v : V) (t : F), vs = [v] ∧ IsF K H v t ∧ ∀ h H', Same H H' → SqT K H' h (hv t.hd) → Q (.ref h) H'
theorem ok_head_of {f : Addr} {fd : FuncData} (FF : Fun K "head_of" "head_of" s_head_of f fd) (T : Txt K mg C J B) : FnOk P w K mg base CX0 1 f fd a_head_of (spHead K) := by
  refine FF.ok sc_head_of (fun vs H Q E h => ?_) (fun cdv A outer s H vs Q E hr h => ?_)
  · obtain ⟨v, t, rfl, _⟩ := h
    rfl
  · obtain ⟨v, t, rfl, ht, k⟩ := h
    obtain ⟨a, ks, rfl, sq, ak⟩ := ht.open
    refine ⟨_, (pss_cons (ps_if (pt_cmpR op_in_seq (pe_ix ix_tup (pv 0) pe_int (fun _ _ => rfl)) (pe_glob rfl T.m_JOINS (show RelV (.ref _) _ from rfl)) (by rfl)) (pss_one (ps_ret (pe_slice sl_tupA (pv 0) po_none (po_some pe_int)))) pss_nil)
      (pss_one (ps_ret (pe_slice sl_tupA (pv 0) po_none (po_some pe_int))))), ?_⟩
    have at0 : atI (hv t.hd ++ ks) 0 = some (.str (hw t.hd)) := atI_nat (j := 0) (by rw [List.getElem?_append_left (by rcases hv_len t.hd with e | e <;> omega)]; exact hv_head _)
    refine ⟨_, rfl, a, _, _, _, rfl, rfl, sq, at0, J, _, rfl, .inr (T.c_JOINS H), rfl, rfl, _, rfl, ?_⟩
    rw [if_neg Bool.false_ne_true, in_joins]
    have both : ∀ n : Nat, cutV (hv t.hd ++ ks) none (some (n : Int)) = (hv t.hd ++ ks).take n := fun n => by
      unfold cutV
      rw [HT.sIx_none, HT.sIx_nat, List.drop_zero, Nat.sub_zero]
      rcases Nat.le_total n (hv t.hd ++ ks).length with h | h
      · rw [Nat.min_eq_left h]
      · rw [Nat.min_eq_right h, List.take_of_length_le (Nat.le_refl _), List.take_of_length_le h]
    have fin : ∀ n : Nat, (hv t.hd ++ ks).take n = hv t.hd → rSlA K (.ref a) none (some (n : Int)) H Q := fun n e => by
      refine ⟨a, _, rfl, sq, fun whole => ?_, fun _ p hp => ?_⟩
      · refine k a H (Same.refl H) ?_
        rw [← e]
        rw [HT.sIx_none, HT.sIx_nat] at whole
        rw [List.take_of_length_le (by omega)]
        exact sq
      · refine k p _ (Same.new hp) (SqT.of ?_)
        rw [upd_same, both, e]
    cases h2 : isTwo t.hd
    · refine iteF ?_
      refine ⟨_, rfl, 2, rfl, fin 2 ?_⟩
      cases t with
      | two b f g => cases h2
      | nul b =>
        cases ak
        rfl
      | leaf kd n => rfl
      | one kd n f => rfl
    · refine iteT ?_
      refine ⟨_, rfl, 1, rfl, fin 1 ?_⟩
      cases t with
      | two b f g => rfl
      | nul b => cases h2
      | leaf kd n => cases h2
      | one kd n f => cases h2
end
end Fw

set_option maxRecDepth 100000
set_option maxHeartbeats 2000000
namespace Fw
open PySem PySem.Spec PyProof.Rows L2
/-! ### parts in memory -/
/-- all but what stands at the addresses of X is as it was -/
def Kp (X : List Addr) (H H' : Hp) : Prop := ∀ b o, b ∉ X → H b = some o → H' b = some o
/-- all but lists is as it was -/
def LKp (H H' : Hp) : Prop := ∀ b o, (∀ xs, o ≠ .lst xs) → H b = some o → H' b = some o
theorem LKp.refl (H : Hp) : LKp H H := fun _ _ _ e => e
theorem LKp.trans {H H1 H2 : Hp} (a : LKp H H1) (b : LKp H1 H2) : LKp H H2 := fun c o n e => b c o n (a c o n e)
theorem LKp.same {H H' : Hp} (s : Same H H') : LKp H H' := fun b o _ e => s b o e
theorem LKp.upd {H : Hp} {d : Addr} {xs : List V} {o : HO} (h : H d = some (.lst xs)) : LKp H (upd H d o) := fun b u n e => by
  rw [upd_ne (ne_of e h (n xs))]
  exact e
theorem SqT.lk {K : PySem.W.Frag} {H H' : Hp} {a : Addr} {xs : List V} (s : LKp H H') (h : SqT K H a xs) : SqT K H' a xs := by
  rcases h with h | h
  · rcases h with h | ⟨u, h⟩
    · exact .inl (.inl (s _ _ (by intro xs z; cases z) h))
    · exact .inl (.inr ⟨u, s _ _ (by intro xs z; cases z) h⟩)
  · exact .inr h
theorem IsF.lk {K : PySem.W.Frag} {H H' : Hp} (s : LKp H H') {v : V} {t : F} (h : IsF K H v t) : IsF K H' v t := h.map fun _ _ => SqT.lk s
theorem AllF.lk {K : PySem.W.Frag} {H H' : Hp} (s : LKp H H') {vs : List V} {ts : List F} (h : AllF K H vs ts) : AllF K H' vs ts := by
  induction h with
  | nil => exact .nil
  | cons a _ ih => exact .cons (a.lk s) ih
theorem AllF.len {K : PySem.W.Frag} {H : Hp} {vs : List V} {ts : List F} (h : AllF K H vs ts) : vs.length = ts.length := by
  induction h with
  | nil => rfl
  | cons _ _ ih => simp [ih]
theorem AllF.get {K : PySem.W.Frag} {H : Hp} {vs : List V} {ts : List F} (h : AllF K H vs ts) : ∀ {m : Nat} {y : V} {f : F}, vs[m]? = some y → ts[m]? = some f → IsF K H y f := by
  induction h with
  | nil => intro m y f e _; cases e
  | cons a _ ih =>
    intro m y f e1 e2
    cases m with
    | zero =>
      cases e1
      cases e2
      exact a
    | succ m => exact ih e1 e2
structure PRec where
  p : Addr
  l : Addr
  dx : Addr
  h : Addr
structure PartIs (K : PySem.W.Frag) (C : Addr) (H : Hp) (pr : PRec) (hd : Hd) (a : Int) (ks : List Nat) : Prop where
  ob : H pr.p = some (.ins C pr.dx (pf (.ref pr.h) a pr.l))
  hd : SqT K H pr.h (hv hd)
  inn : H pr.l = some (.lst (ks.map fun n => V.int (n : Nat)))
def Parts (K : PySem.W.Frag) (C : Addr) (H : Hp) (R : List PRec) (L : List (Hd × Int)) : Prop :=
  R.length = L.length ∧ ∀ i pr hd a, R[i]? = some pr → L[i]? = some (hd, a) → PartIs K C H pr hd a (kidsFrom (L.map (·.2)) 0 i)
def PartsAt (K : PySem.W.Frag) (C : Addr) (H : Hp) (pa : Addr) (L : List (Hd × Int)) : Prop :=
  ∃ R : List PRec, SqL K H pa (R.map fun r => V.ref r.p) ∧ Parts K C H R L
theorem PartIs.same {K : PySem.W.Frag} {C : Addr} {H H' : Hp} {pr : PRec} {hd : Hd} {a : Int} {ks : List Nat} (s : Same H H') (h : PartIs K C H pr hd a ks) : PartIs K C H' pr hd a ks :=
  ⟨s _ _ h.ob, SqT.same s h.hd, s _ _ h.inn⟩
theorem PartsAt.same {K : PySem.W.Frag} {C : Addr} {H H' : Hp} {pa : Addr} {L : List (Hd × Int)} (s : Same H H') (h : PartsAt K C H pa L) : PartsAt K C H' pa L := by
  obtain ⟨R, h1, h2, h3⟩ := h
  exact ⟨R, s.seq h1, h2, fun i pr hd a e1 e2 => (h3 i pr hd a e1 e2).same s⟩
/-- what waits: bottom first in memory, top first in the list -/
inductive SA (K : PySem.W.Frag) (H : Hp) : List V → List (F × Int) → Prop
  | nil : SA K H [] []
  | snoc {ws : List V} {st : List (F × Int)} {q : Addr} {x : V} {t : F} {a : Int} : SA K H ws st → SqT K H q [x, .int a] → IsF K H x t → SA K H (ws ++ [.ref q]) ((t, a) :: st)
theorem SA.lk {K : PySem.W.Frag} {H H' : Hp} (s : LKp H H') {ws : List V} {st : List (F × Int)} (h : SA K H ws st) : SA K H' ws st := by
  induction h with
  | nil => exact .nil
  | snoc _ b c ih => exact .snoc ih (SqT.lk s b) (c.lk s)
theorem SA.len {K : PySem.W.Frag} {H : Hp} {ws : List V} {st : List (F × Int)} (h : SA K H ws st) : ws.length = st.length := by
  induction h with
  | nil => rfl
  | snoc _ _ _ ih => simp [ih]
theorem kids_snoc (L : List (Hd × Int)) (h : Hd) (a : Int) (i : Nat) :
    kidsFrom ((L ++ [(h, a)]).map (·.2)) 0 i = kidsFrom (L.map (·.2)) 0 i ++ if a = (i : Int) then [L.length] else [] := by
  rw [List.map_append, kids_app]
  simp only [List.map_cons, List.map_nil, kidsFrom, Nat.zero_add, List.length_map]
theorem kids_out : ∀ (A : List Int) (j i : Nat), (∀ a ∈ A, a < (i : Int)) → kidsFrom A j i = [] := fun A j i h => kids_none A j i fun a ha => by have := h a ha; omega
theorem Parts.more {K : PySem.W.Frag} {C : Addr} {G G5 : Hp} {R : List PRec} {L : List (Hd × Int)} {n : PRec} {hd : Hd} {a : Int} (PR : Parts K C G R L) (lk : LKp G G5)
    (hin : ∀ i pr, R[i]? = some pr → G5 pr.l = some (.lst ((kidsFrom (L.map (·.2)) 0 i ++ if a = (i : Int) then [L.length] else []).map fun n => V.int (n : Nat))))
    (Lb : ∀ x ∈ L, x.2 < (L.length : Int)) (ha : a < (L.length : Int)) (new : PartIs K C G5 n hd a []) : Parts K C G5 (R ++ [n]) (L ++ [(hd, a)]) := by
  obtain ⟨len, h⟩ := PR
  refine ⟨by simp [len], fun i pr hd' a' e1 e2 => ?_⟩
  rw [kids_snoc]
  by_cases lt : i < R.length
  · rw [List.getElem?_append_left lt] at e1
    rw [List.getElem?_append_left (by omega)] at e2
    have z := h i pr hd' a' e1 e2
    exact ⟨lk _ _ (by intro xs q; cases q) z.ob, SqT.lk lk z.hd, hin i pr e1⟩
  · have ei : i = R.length := by
      have q := (List.getElem?_eq_some_iff.mp e1).1
      rw [List.length_append, List.length_singleton] at q
      omega
    subst ei
    rw [List.getElem?_append_right (Nat.le_refl _), Nat.sub_self] at e1
    rw [List.getElem?_append_right (by omega), len, Nat.sub_self] at e2
    cases e1
    cases e2
    have none : kidsFrom (L.map (·.2)) 0 R.length = [] := by
      refine kids_out _ _ _ fun b hb => ?_
      obtain ⟨x, hx, rfl⟩ := List.mem_map.mp hb
      rw [len]
      exact Lb x hx
    rw [none, if_neg (by rw [len]; omega)]
    exact new
section
variable {P : Program} {w : World} {K : PySem.W.Frag} {mg : Str → Option Value} {base : Heap} {C J B : Addr}
def spParts (K : PySem.W.Frag) (C : Addr) : Sp := fun vs H Q _ => ∃ (v : V) (t : F), vs = [v] ∧ IsF K H v t ∧ t.size ≤ 1000 ∧
  ∀ pa R H', Same H H' → H' pa = some (.lst (R.map fun (r : PRec) => V.ref r.p)) → H pa = none → Parts K C H' R (pre t (-1) 0) → (∀ r ∈ R, H r.l = none) → Q (.ref pa) H'
theorem ok_parts_of {f : Addr} {fd : FuncData} (FF : Fun K "parts_of" "parts_of" s_parts_of f fd) (T : Txt K mg C J B)
    (h_head_of : Has P w K mg base "head_of" 1 a_head_of (spHead K)) (h_Part : HasC P w K mg base "Part" C 1 a_Part_init (spPart K C)) : FnOk P w K mg base CX0 3 f fd a_parts_of (spParts K C) := by
  refine FF.ok sc_parts_of (fun vs H Q E h => ?_) (fun cdv A outer s H vs Q E hr h => ?_)
  · obtain ⟨v, t, rfl, _⟩ := h
    rfl
  · obtain ⟨v, t, rfl, ht, hsz, k⟩ := h
    refine ⟨_, (pss_cons (ps_set (i := 1) sc_parts_of.nd rfl (.inl rfl) (pe_lst pa_nil))
      (pss_cons (ps_set (i := 2) sc_parts_of.nd rfl (.inl rfl) (pe_lst (pa_cons (pe_tup (pa_cons (pv 0) (pa_cons (pe_un un_neg pe_int) pa_nil))) pa_nil)))
      (pss_cons (ps_while PassesOwn.never (pt_truth (pv 2) (by intro _; rfl)) (pss_cons (ps_asg (pe_bm0 PySem.F.plainAttrs_list PySem.F.slot_list_pop PySem.F.type_list_pop mt_pop (pv 2)) (pg_tup rfl (pgs_cons (pg_name (i := 3) sc_parts_of.nd rfl (.inl rfl)) (pgs_cons (pg_name (i := 4) sc_parts_of.nd rfl (.inl rfl)) pgs_nil))))
      (pss_cons (ps_set (i := 5) sc_parts_of.nd rfl (.inl rfl) (pe_callH h_head_of (hr.mono (by omega)) (pa_cons (pv 3) pa_nil)))
      (pss_cons (ps_set (i := 6) sc_parts_of.nd rfl (.inl rfl) (pe_callB call_len_seq rfl T.z_len (by decide +kernel) (pa_cons (pv 1) pa_nil)))
      (pss_cons (ps_expr (pe_bm PySem.F.plainAttrs_list PySem.F.slot_list_append PySem.F.type_list_append mt_append (pv 1) (pa_cons (pe_makeH h_Part (hr.mono (by omega)) (pa_cons (pv 5) (pa_cons (pv 4) pa_nil))) pa_nil)))
      (pss_cons (ps_if (pt_cmpR op_ge (pv 4) pe_int (nomark _)) (pss_one (ps_expr (pe_bm PySem.F.plainAttrs_list PySem.F.slot_list_append PySem.F.type_list_append mt_append (pe_fld (pe_ix ix_list (pv 1) (pv 4) (fun _ _ => rfl)) rfl) (pa_cons (pv 6) pa_nil)))) pss_nil)
      (pss_one (ps_for PassesOwn.never rfl (RT.pi_revA rfl T.z_reversed (pe_slice sl_tupA (pv 3) (po_some (pe_callB call_len_seq rfl T.z_len (by decide +kernel) (pa_cons (pv 5) pa_nil))) po_none)) (pg_name (i := 7) sc_parts_of.nd rfl (.inl rfl)) (pss_one (ps_expr (pe_bm PySem.F.plainAttrs_list PySem.F.slot_list_append PySem.F.type_list_append mt_append (pv 2) (pa_cons (pe_tup (pa_cons (pv 7) (pa_cons (pv 6) pa_nil))) pa_nil))))))))))))
      (pss_one (ps_ret (pv 1)))))), ?_⟩
    refine ⟨Nat.zero_le _, fun pa hpa => ?_⟩
    refine ⟨v, rfl, _, rfl, by show 2 ≤ sizeLine; decide, fun q0 hq0 => ?_⟩
    refine ⟨by show 1 ≤ sizeLine; decide, fun wa hwa => ?_⟩
    have paq : pa ≠ q0 := fun e => by rw [e, upd_same] at hq0; cases hq0
    have hq0' : H q0 = none := by rw [upd_ne paq.symm] at hq0; exact hq0
    have wq : wa ≠ q0 := fun e => by rw [e, upd_same] at hwa; cases hwa
    have wpa : wa ≠ pa := fun e => by rw [e, upd_ne paq, upd_same] at hwa; cases hwa
    have hwa' : H wa = none := by rw [upd_ne wq, upd_ne wpa] at hwa; exact hwa
    have s1 : Same H (upd H pa (.lst [])) := Same.new hpa
    have s2 : Same (upd H pa (.lst [])) (upd (upd H pa (.lst [])) q0 (.tup [v, .int (-1)])) := Same.new hq0
    have s3 : Same (upd (upd H pa (.lst [])) q0 (.tup [v, .int (-1)])) (upd (upd (upd H pa (.lst [])) q0 (.tup [v, .int (-1)])) wa (.lst [.ref q0])) := Same.new hwa
    have s123 := s1.trans (s2.trans s3)
    generalize hH0 : upd (upd (upd H pa (.lst [])) q0 (.tup [v, .int (-1)])) wa (.lst [.ref q0]) = H0 at s3 s123
    have w0 : H0 wa = some (.lst [.ref q0]) := by rw [← hH0, upd_same]
    have p0 : H0 pa = some (.lst []) := by rw [← hH0, upd_ne wpa.symm, upd_ne paq, upd_same]
    have t0 : SqT K H0 q0 [v, .int (-1)] := SqT.of (by rw [← hH0, upd_ne wq.symm, upd_same])
    clear hH0 hq0
    refine ⟨fun m σ G => ∃ (R : List PRec) (L : List (Hd × Int)) (ws : List V) (st : List (F × Int)) (y3 y4 y5 y6 y7 : Option V),
      σ = [some v, some (.ref pa), some (.ref wa), y3, y4, y5, y6, y7] ∧ Same H G ∧ G pa = some (.lst (R.map fun r => V.ref r.p)) ∧ G wa = some (.lst ws) ∧ SA K G ws st ∧
      Parts K C G R L ∧ (R.map PRec.l).Nodup ∧ (∀ r ∈ R, H r.l = none ∧ r.l ≠ pa ∧ r.l ≠ wa) ∧ (∀ x ∈ st, x.2 < (L.length : Int) ∧ -1 ≤ x.2) ∧ (∀ x ∈ L, x.2 < (L.length : Int)) ∧
      m = stSize st ∧ L.length + m = t.size ∧ fin L st = pre t (-1) 0,
      ⟨t.size, [], [], [.ref q0], [(t, -1)], none, none, none, none, none, rfl, s123, p0, w0, .snoc .nil t0 (ht.same s123), ⟨rfl, by simp⟩, by simp, by simp, by simp, by simp, by simp [stSize], by simp, by simp [fin, pre]⟩, ?_⟩
    rintro m σ G ⟨R, L, ws, st, y3, y4, y5, y6, y7, rfl, sG, gpa, gwa, sa, PR, nd, lfr, stb, Lb, rfl, cnt, hfin⟩
    refine ⟨.ref wa, rfl, !ws.isEmpty, .inl ⟨ws, SqL.of gwa, rfl⟩, ?_⟩
    cases sa with
    | nil =>
      -- nothing waits
      refine iteF ?_
      refine ⟨_, rfl, ?_⟩
      refine k pa R G sG gpa hpa ?_ (fun r hr => (lfr r hr).1)
      rw [← hfin]
      exact PR
    | @snoc ws' st' q x u a sa' hq hx =>
      have e1 : (!(ws' ++ [V.ref q]).isEmpty) = true := by simp
      rw [e1]
      refine iteT ?_
      refine ⟨_, fun σ' H' z => z, ?_⟩
      have szu : 0 < u.size := F.size_pos u
      have lst' : st'.length ≤ stSize st' := st_len st'
      have cnt' : L.length + (u.size + stSize st') = t.size := cnt
      have hwl := sa'.len
      have small : ∀ n : Nat, n ≤ 1000 → n < sizeLine := fun n hn => small1000 hn
      -- told, around = waiting.pop()
      refine ⟨.ref wa, rfl, .inl ⟨rfl, _, SqL.of gwa⟩, wa, _, .ref q, rfl, rfl, gwa, by simp, ?_⟩
      rw [List.dropLast_concat]
      generalize hG1 : upd G wa (.lst ws') = G1
      have l1 : LKp G G1 := by rw [← hG1]; exact LKp.upd gwa
      have w1 : G1 wa = some (.lst ws') := by rw [← hG1, upd_same]
      have k1 : ∀ b o, b ≠ wa → G b = some o → G1 b = some o := fun b o nb e => by rw [← hG1, upd_ne nb]; exact e
      clear hG1
      refine ⟨q, _, rfl, SqT.lk l1 hq, rfl, x, _, rfl, .int a, _, rfl, rfl, ?_⟩
      -- head = head_of(told)
      refine ⟨x, rfl, x, u, rfl, hx.lk l1, fun h G2 s2 hh => ?_⟩
      have w2 := s2 _ _ w1
      have pw : pa ≠ wa := wpa.symm
      have p2 := s2 _ _ (k1 _ _ pw gpa)
      -- at = len(parts)
      refine ⟨.ref pa, rfl, pa, _, rfl, .inl (SqL.of p2), ?_⟩
      rw [List.length_map, PR.1]
      -- parts.append(Part(head, around))
      refine ⟨.ref pa, rfl, .inl ⟨rfl, _, SqL.of p2⟩, .ref h, rfl, .int a, rfl, fun x1 dx nx ndx nex => ⟨x1, dx, .ref h, a, rfl, upd_same, fun l G3 hl hx1 hl3 b3 => ⟨rfl, ?_⟩⟩⟩
      have nx1 : l ≠ x1 := fun e => by rw [e, upd_same] at hl; cases hl
      have hl2 : G2 l = none := by
        rw [upd_ne nx1] at hl
        by_cases e : l = dx
        · rw [e, upd_same] at hl
          cases hl
        · rw [upd_ne e] at hl
          exact hl
      have s3' : Same G2 G3 := fun b o e => by
        refine b3 b o (ne_of_none e nx) ?_
        rw [upd_ne (ne_of_none e nx), upd_ne (ne_of_none e ndx)]
        exact e
      have p3 := s3' _ _ p2
      have w3 := s3' _ _ w2
      have lpa : l ≠ pa := (ne_of_none p2 hl2).symm
      have lwa : l ≠ wa := (ne_of_none w2 hl2).symm
      refine ⟨pa, _, .ref x1, rfl, rfl, p3, by rw [List.length_map, PR.1]; exact small _ (by omega), ?_⟩
      generalize hG4 : upd G3 pa (.lst (R.map (fun r => V.ref r.p) ++ [V.ref x1])) = G4
      have l4 : LKp G3 G4 := by rw [← hG4]; exact LKp.upd p3
      have k4 : ∀ b o, b ≠ pa → G3 b = some o → G4 b = some o := fun b o nb e => by rw [← hG4, upd_ne nb]; exact e
      have p4 : G4 pa = some (.lst (R.map (fun r => V.ref r.p) ++ [V.ref x1])) := by rw [← hG4, upd_same]
      clear hG4
      have w4 := k4 _ _ wpa w3
      have L14 : LKp G G4 := l1.trans ((LKp.same s2).trans ((LKp.same s3').trans l4))
      have K14 : ∀ b o, b ≠ wa → b ≠ pa → G b = some o → G4 b = some o := fun b o n1 n2 e => k4 _ _ n2 (s3' _ _ (s2 _ _ (k1 _ _ n1 e)))
      have ob4 : G4 x1 = some (.ins C dx (pf (.ref h) a l)) := l4 _ _ (by intro xs z; cases z) hx1
      have hd4 : SqT K G4 h (hv u.hd) := SqT.lk l4 (SqT.same s3' hh)
      have ln4 : G4 l = some (.lst []) := k4 _ _ lpa hl3
      have nfresh : H l = none := sG.free (by
        cases e : G l with
        | none => rfl
        | some o =>
          have := s2 _ _ (k1 _ _ lwa e)
          rw [hl2] at this
          cases this)
      have lnew : ∀ pr ∈ R, pr.l ≠ l := fun pr hpr e => by
        obtain ⟨i, hi⟩ := List.mem_iff_getElem?.mp hpr
        obtain ⟨⟨hd', a'⟩, hi2⟩ : ∃ y, L[i]? = some y := ⟨L[i]'(by have := (List.getElem?_eq_some_iff.mp hi).1; rw [PR.1] at this; exact this), by simp⟩
        have z := (PR.2 i pr hd' a' hi hi2).inn
        have z2 := s2 _ _ (k1 _ _ (lfr pr hpr).2.2 z)
        rw [e, hl2] at z2
        cases z2
      have sb := stb (u, a) List.mem_cons_self
      refine ⟨.int a, rfl, _, _, rfl, rfl, _, rfl, ?_⟩
      refine join (G := G4) (fun G5 => LKp G G5 ∧ (∀ b o, b ≠ wa → b ≠ pa → (∀ r ∈ R, b ≠ r.l) → G b = some o → G5 b = some o) ∧ G5 wa = some (.lst ws') ∧
        G5 pa = some (.lst (R.map (fun r => V.ref r.p) ++ [V.ref x1])) ∧ SqT K G5 h (hv u.hd) ∧ Parts K C G5 (R ++ [⟨x1, l, dx, h⟩]) (L ++ [(u.hd, a)])) ?_ ?_ ?_
      · rintro G5 ⟨l5, k5, w5, p5, hd5, PR5⟩
        obtain ⟨ua, ks, rfl, squ, ak⟩ := (hx.lk l5).open
        -- reversed(told[len(head):])
        have hn : ∃ n : Nat, (hv u.hd).length = n ∧ 1 ≤ n := ⟨_, rfl, by rcases hv_len u.hd with e | e <;> omega⟩
        obtain ⟨n, hvn, n1⟩ := hn
        refine ⟨.ref ua, rfl, .ref h, rfl, h, _, rfl, .inr hd5, _, rfl, ua, _, rfl, squ, fun whole => ?_, fun _ z hz => ?_⟩
        · exfalso
          rw [HT.sIx_nat, List.length_append] at whole
          omega
        have cut : cutV (hv u.hd ++ ks) (some ((hv u.hd).length : Nat)) none = ks := by
          unfold cutV
          rw [HT.sIx_nat, HT.sIx_none, Nat.min_eq_left (by rw [List.length_append]; omega), List.drop_left, List.take_of_length_le]
          rw [List.length_append]
          omega
        rw [cut]
        generalize hG6 : upd G5 z (.tup ks) = G6
        have s6 : Same G5 G6 := by rw [← hG6]; exact Same.new hz
        have sq6 : SqT K G6 z ks := SqT.of (by rw [← hG6, upd_same])
        clear hG6 hz
        have hn : ks.length = u.kids.length := ak.len
        refine ⟨z, ks, rfl, .inr ⟨sq6, ?_⟩⟩
        have sG6 : Same H G6 := fun b o e => s6 _ _ (k5 b o (fun q => by rw [q, hwa'] at e; cases e) (fun q => by rw [q, hpa] at e; cases e) (fun r hr' q => by rw [q, (lfr r hr').1] at e; cases e) (sG b o e))
        have szk := stSize_kids u (L.length : Int)
        have lk := st_len (u.kids.map fun f => (f, (L.length : Int)))
        refine RT.for_ItvT (fun i σ G7 => ∃ (ws7 : List V) (y : Option V), σ = [some v, some (.ref pa), some (.ref wa), some (.ref ua), some (.int a), some (.ref h), some (.int (L.length : Nat)), y] ∧
            LKp G6 G7 ∧ (∀ b o, b ≠ wa → G6 b = some o → G7 b = some o) ∧ G7 wa = some (.lst ws7) ∧ SA K G7 ws7 ((u.kids.drop (ks.length - i)).map (fun f => (f, (L.length : Int))) ++ st')) ?_ ?_ ?_ ?_
        · refine ⟨ws', y7, rfl, LKp.refl _, fun _ _ _ e => e, s6 _ _ w5, ?_⟩
          rw [Nat.sub_zero, hn, List.drop_length]
          exact sa'.lk (l5.trans (LKp.same s6))
        · rintro i σ G7 ⟨ws7, y, rfl, l7, _, _, _⟩
          exact SqT.lk l7 sq6
        · rintro i y σ G7 hi hy ⟨ws7, y', rfl, l7, k7, w7, sa7⟩
          obtain ⟨kf, hkf⟩ : ∃ kf, u.kids[ks.length - 1 - i]? = some kf := ⟨u.kids[ks.length - 1 - i]'(by omega), by simp⟩
          have isk : IsF K G7 y kf := ((ak.lk (LKp.same s6)).lk l7).get hy hkf
          refine ⟨.ref wa, rfl, .inl ⟨rfl, _, SqL.of w7⟩, y, rfl, .int (L.length : Nat), rfl, by show 2 ≤ sizeLine; decide, fun p hp => ?_⟩
          have s8 : Same G7 (upd G7 p (.tup [y, .int (L.length : Nat)])) := Same.new hp
          have lw7 := sa7.len
          rw [List.length_append, List.length_map, List.length_drop] at lw7
          rw [List.length_map] at lk
          refine ⟨wa, _, .ref p, rfl, rfl, s8 _ _ w7, small _ (by omega), ?_⟩
          have l9 : LKp (upd G7 p (.tup [y, .int (L.length : Nat)])) (upd (upd G7 p (.tup [y, .int (L.length : Nat)])) wa (.lst (ws7 ++ [.ref p]))) := LKp.upd (s8 _ _ w7)
          refine ⟨_, some y, rfl, l7.trans ((LKp.same s8).trans l9), fun b o nb e => ?_, upd_same, ?_⟩
          · rw [upd_ne nb]
            exact s8 _ _ (k7 b o nb e)
          · have e2 : u.kids.drop (ks.length - (i + 1)) = kf :: u.kids.drop (ks.length - i) := by
              have lt : ks.length - 1 - i < u.kids.length := by omega
              rw [show ks.length - (i + 1) = ks.length - 1 - i by omega, List.drop_eq_getElem_cons lt, show ks.length - 1 - i + 1 = ks.length - i by omega]
              congr 1
              exact Option.some.inj ((List.getElem?_eq_getElem lt).symm.trans hkf)
            rw [e2]
            exact .snoc (sa7.lk ((LKp.same s8).trans l9)) (SqT.lk l9 (SqT.of upd_same)) (isk.lk ((LKp.same s8).trans l9))
        · rintro σ G7 ⟨ws7, y, rfl, l7, k7, w7, sa7⟩
          rw [Nat.sub_self, List.drop_zero] at sa7
          have zst : stSize (u.kids.map (fun f => (f, (L.length : Int))) ++ st') + 1 = u.size + stSize st' := by
            rw [stSize_app]
            omega
          have PR7 : Parts K C G7 (R ++ [⟨x1, l, dx, h⟩]) (L ++ [(u.hd, a)]) := by
            refine ⟨PR5.1, fun i pr hd' a' e1 e2 => ?_⟩
            have z := (PR5.2 i pr hd' a' e1 e2).same s6
            have nw : pr.l ≠ wa := by
              rcases List.mem_append.mp (List.mem_of_getElem? e1) with m | m
              · exact (lfr pr m).2.2
              · rw [List.mem_singleton.mp m]
                exact lwa
            exact ⟨l7 _ _ (by intro xs q; cases q) z.ob, SqT.lk l7 z.hd, k7 _ _ nw z.inn⟩
          refine ⟨stSize (u.kids.map (fun f => (f, (L.length : Int))) ++ st'), by show _ < u.size + stSize st'; omega, R ++ [⟨x1, l, dx, h⟩], L ++ [(u.hd, a)], ws7, _, _, _, _, _, _, rfl, fun b o e => ?_, ?_, w7, sa7, PR7, ?_, ?_, ?_, ?_, rfl, ?_, ?_⟩
          · exact k7 b o (fun q => by rw [q, hwa'] at e; cases e) (sG6 b o e)
          · rw [List.map_append]
            exact k7 _ _ wpa.symm (s6 _ _ p5)
          · rw [List.map_append, List.nodup_append]
            refine ⟨nd, by simp, fun a' ha b hb => ?_⟩
            obtain ⟨r, hr', rfl⟩ := List.mem_map.mp ha
            rw [List.map_cons, List.map_nil, List.mem_singleton] at hb
            subst hb
            exact lnew r hr'
          · intro r hr'
            rcases List.mem_append.mp hr' with m | m
            · exact lfr r m
            · rw [List.mem_singleton.mp m]
              exact ⟨nfresh, lpa, lwa⟩
          · intro y hy
            rw [List.length_append, List.length_singleton]
            rcases List.mem_append.mp hy with m | m
            · obtain ⟨f', _, rfl⟩ := List.mem_map.mp m
              show (L.length : Int) < ((L.length + 1 : Nat) : Int) ∧ -1 ≤ (L.length : Int)
              omega
            · have := stb y (List.mem_cons_of_mem _ m)
              omega
          · intro y hy
            rw [List.length_append, List.length_singleton]
            rcases List.mem_append.mp hy with m | m
            · have := Lb y m
              omega
            · rw [List.mem_singleton.mp m]
              show a < _
              have := sb.1
              have e : (((u, a) : F × Int).2) = a := rfl
              omega
          · rw [List.length_append, List.length_singleton]
            omega
          · rw [← hfin, fin_step]
      · intro c rest
        have ha : 0 ≤ a := of_decide_eq_true c
        have hal : a < (L.length : Int) := sb.1
        obtain ⟨m, rfl⟩ : ∃ m : Nat, a = (m : Int) := ⟨a.toNat, by omega⟩
        have hm : m < R.length := by rw [PR.1]; omega
        obtain ⟨pr, hpr⟩ : ∃ pr, R[m]? = some pr := ⟨R[m], by simp [hm]⟩
        obtain ⟨⟨hd', a'⟩, hlr⟩ : ∃ y, L[m]? = some y := ⟨L[m]'(by omega), by simp⟩
        have z := PR.2 m pr hd' a' hpr hlr
        have prm := List.mem_of_getElem? hpr
        have ob := L14 _ _ (by intro xs q; cases q) z.ob
        have inn := K14 _ _ (lfr pr prm).2.2 (lfr pr prm).2.1 z.inn
        -- parts[around].inner.append(at)
        refine ⟨.ref pa, rfl, .int (m : Nat), rfl, pa, _, _, .ref pr.p, rfl, rfl, SqL.of p4, atI_nat (j := m) ?_, pr.p, C, pr.dx, _, .ref pr.l, rfl, ob, T.cl, T.nI, rfl, .inl ⟨rfl, _, SqL.of inn⟩, .int (L.length : Nat), rfl, pr.l, _, _, rfl, rfl, inn, ?_, ?_⟩
        · rw [List.getElem?_append_left (by rw [List.length_map]; exact hm), List.getElem?_map, hpr]
          rfl
        · rw [List.length_map]
          refine small _ ?_
          have : ∀ (A : List Int) (j i : Nat), (kidsFrom A j i).length ≤ A.length := by
            intro A
            induction A with
            | nil => intro j i; exact Nat.le_refl _
            | cons b A ih =>
              intro j i
              have := ih (j + 1) i
              simp only [kidsFrom]
              split <;> simp only [List.length_cons] <;> omega
          have := this (L.map (·.2)) 0 m
          rw [List.length_map] at this
          omega
        · have l5 : LKp G4 (upd G4 pr.l (.lst ((kidsFrom (L.map (·.2)) 0 m).map (fun n => V.int (n : Nat)) ++ [.int (L.length : Nat)]))) := LKp.upd inn
          refine rest _ ⟨L14.trans l5, fun b o n1 n2 n3 e => ?_, ?_, ?_, SqT.lk l5 hd4, ?_⟩
          · rw [upd_ne (n3 pr prm)]
            exact K14 b o n1 n2 e
          · rw [upd_ne (lfr pr prm).2.2.symm]
            exact w4
          · rw [upd_ne (lfr pr prm).2.1.symm]
            exact p4
          · refine Parts.more PR (L14.trans l5) (fun i pr' hi => ?_) Lb sb.1 ⟨l5 _ _ (by intro xs q; cases q) ob4, SqT.lk l5 hd4, ?_⟩
            · obtain ⟨⟨hd2, a2⟩, hl2'⟩ : ∃ y, L[i]? = some y := ⟨L[i]'(by have := (List.getElem?_eq_some_iff.mp hi).1; rw [PR.1] at this; exact this), by simp⟩
              by_cases e : i = m
              · subst e
                rw [hpr] at hi
                cases hi
                rw [upd_same, if_pos rfl, List.map_append]
                rfl
              · have nl : pr'.l ≠ pr.l := fun q => e (nd_ix nd (x := pr.l) (by rw [List.getElem?_map, hi, Option.map_some, q]) (by rw [List.getElem?_map, hpr]; rfl))
                rw [upd_ne nl, if_neg (by omega), List.append_nil]
                have pm' := List.mem_of_getElem? hi
                exact K14 _ _ (lfr pr' pm').2.2 (lfr pr' pm').2.1 (PR.2 i pr' hd2 a2 hi hl2').inn
            · rw [upd_ne (lnew pr prm).symm]
              exact ln4
      · intro c
        have ha : ¬ 0 ≤ a := of_decide_eq_false c
        refine ⟨L14, fun b o n1 n2 _ e => K14 b o n1 n2 e, w4, p4, hd4, ?_⟩
        refine Parts.more PR L14 (fun i pr' hi => ?_) Lb sb.1 ⟨ob4, hd4, ln4⟩
        obtain ⟨⟨hd2, a2⟩, hl2'⟩ : ∃ y, L[i]? = some y := ⟨L[i]'(by have := (List.getElem?_eq_some_iff.mp hi).1; rw [PR.1] at this; exact this), by simp⟩
        rw [if_neg (by omega), List.append_nil]
        have pm' := List.mem_of_getElem? hi
        exact K14 _ _ (lfr pr' pm').2.2 (lfr pr' pm').2.1 (PR.2 i pr' hd2 a2 hi hl2').inn
end
end Fw

set_option maxRecDepth 100000
set_option maxHeartbeats 2000000
namespace Fw
open PySem PySem.Spec PyProof.Rows L2
def Draws (H : Hp) (d : Addr) : Prop := ∃ ds : List Int, H d = some (.lst (ds.map V.int))
theorem Draws.lst {H : Hp} {d : Addr} (h : Draws H d) : IsLst H d := by
  obtain ⟨ds, e⟩ := h
  exact ⟨_, e⟩
theorem fmod_in {a b : Int} (h : 0 < b) : 0 ≤ a.fmod b ∧ a.fmod b < b := by
  rw [Int.fmod_eq_emod_of_nonneg a (Int.le_of_lt h)]
  exact ⟨Int.emod_nonneg a (by omega), Int.emod_lt_of_pos a h⟩
theorem nz1 : (1000 : Int) ≠ 0 := by decide
theorem nz2 : (2147483647 : Int) ≠ 0 := by decide
theorem nz3 : (1000003 : Int) ≠ 0 := by decide
theorem sq_small {m : Int} (h0 : 0 ≤ m) (h1 : m < 2147483647) : -(2 ^ 64) < m ∧ m < 2 ^ 64 := ⟨by omega, by omega⟩
theorem isTup {K : PySem.W.Frag} {H : Hp} {a : Addr} {xs : List V} (h : SqT K H a xs) : TyX K H (.ref a) (.type "tuple") := by
  rcases h with h | ⟨o, _, _, e, c, _⟩
  · rcases h with h | ⟨u, h⟩
    · exact .base (.tup h)
    · exact .fTuple h
  · exact .kTuple e c
theorem IsF.ty {K : PySem.W.Frag} {H : Hp} {v : V} {t : F} (h : IsF K H v t) : TyX K H v (.type "tuple") := by
  obtain ⟨a, ks, rfl, sq, _⟩ := h.open
  exact isTup sq
section
variable {P : Program} {w : World} {K : PySem.W.Frag} {mg : Str → Option Value} {base : Heap} {C J B NC FE : Addr}
/-! ### the law's draws -/
def spDraws (K : PySem.W.Frag) : Sp := fun vs H Q _ => ∃ (a : Addr) (ns : List Int) (c : Int), vs = [.ref a, .int c] ∧ SqL K H a (ns.map V.int) ∧ ns.length ≤ 63 ∧ 0 ≤ c ∧ c ≤ 1000 ∧
  ∀ d H', Same H H' → H d = none → Draws H' d → Q (.ref d) H'
theorem ok_law_draws {f : Addr} {fd : FuncData} (FF : Fun K "_law_draws" "_law_draws" s_law_draws f fd) (T : Txt K mg C J B) : FnOk P w K mg base CX0 1 f fd a_law_draws (spDraws K) := by
  refine FF.ok sc_law_draws (fun vs H Q E h => ?_) (fun cdv A outer s H vs Q E hr h => ?_)
  · obtain ⟨a, ns, c, rfl, _⟩ := h
    rfl
  · obtain ⟨a, ns, c, rfl, hS, hlen, c0, c1, k⟩ := h
    refine ⟨_, (pss_cons (ps_set (i := 2) sc_law_draws.nd rfl (.inl rfl) (pe_callTy call_list_of rfl T.z_list (by decide +kernel) (pa_cons (pv 0) pa_nil)))
      (pss_cons (ps_if (pt_cmpR op_eq (pe_callB call_len_seq rfl T.z_len (by decide +kernel) (pa_cons (pv 2) pa_nil)) pe_int (nomark _)) (pss_one (ps_set (i := 2) sc_law_draws.nd rfl (.inl rfl) (pe_lst (pa_cons pe_int pa_nil)))) pss_nil)
      (pss_cons (ps_set (i := 3) sc_law_draws.nd rfl (.inl rfl) (pe_lst pa_nil))
      (pss_cons (ps_set (i := 4) sc_law_draws.nd rfl (.inl rfl) pe_int)
      (pss_cons (ps_for PassesOwn.never rfl (pi_range1 rfl T.z_range (pa_cons (pv 1) pa_nil)) (pg_name (i := 5) sc_law_draws.nd rfl (.inl rfl)) (pss_cons (ps_set (i := 6) sc_law_draws.nd rfl (.inl rfl) (pe_op op_modN (pv 5) (pe_callB call_len_seq rfl T.z_len (by decide +kernel) (pa_cons (pv 2) pa_nil))))
      (pss_cons (ps_set (i := 7) sc_law_draws.nd rfl (.inl rfl) (pe_ix ix_list (pv 2) (pv 6) (fun _ _ => rfl)))
      (pss_cons (ps_set (i := 4) sc_law_draws.nd rfl (.inl rfl) (pe_op op_modN (pe_callTy call_int1 rfl T.z_int (by decide +kernel) (pa_cons (pe_op op_add (pe_op op_add (pe_op op_add (pe_op op_mul (pv 4) pe_int) (pe_op op_mul (pe_op op_modN (pe_callTy call_int1 rfl T.z_int (by decide +kernel) (pa_cons (pv 7) pa_nil)) pe_int) pe_int)) (pe_op op_mul (pv 5) pe_int)) pe_int) pa_nil)) pe_int))
      (pss_cons (ps_set (i := 8) sc_law_draws.nd rfl (.inl rfl) (pe_op op_modN (pe_callTy call_int1 rfl T.z_int (by decide +kernel) (pa_cons (pe_op op_add (pe_op op_add (pe_op op_mul (pv 4) (pv 4)) (pe_op op_mul pe_int (pv 4))) (pv 5)) pa_nil)) pe_int))
      (pss_one (ps_if (pt_cmpR op_ge (pv 7) (pe_op op_pow pe_int pe_int) (nomark _)) (pss_cons (ps_expr (pe_bm PySem.F.plainAttrs_list PySem.F.slot_list_append PySem.F.type_list_append mt_append (pv 3) (pa_cons (pe_op op_modN (pe_callTy call_int1 rfl T.z_int (by decide +kernel) (pa_cons (pv 7) pa_nil)) pe_int) pa_nil)))
      (pss_one (ps_asg (pe_op op_fdivN (pv 7) pe_int) (pg_sub (pv 2) (pv 6) set_list)))) (pss_one (ps_expr (pe_bm PySem.F.plainAttrs_list PySem.F.slot_list_append PySem.F.type_list_append mt_append (pv 3) (pa_cons (pe_op op_modN (pe_callTy call_int1 rfl T.z_int (by decide +kernel) (pa_cons (pv 8) pa_nil)) pe_int) pa_nil)))))))))))
      (pss_cons (ps_expr (pe_bm0 PySem.F.plainAttrs_list PySem.F.slot_list_reverse PySem.F.type_list_reverse mt_reverse (pv 3)))
      (pss_one (ps_ret (pv 3))))))))), ?_⟩
    refine ⟨.ref a, rfl, a, _, rfl, .inl hS, fun ca hca => ?_⟩
    have s1 := Same.new (o := .lst (ns.map V.int)) hca
    refine ⟨.ref ca, rfl, ca, _, rfl, .inl (SqL.of upd_same), rfl, _, rfl, ?_⟩
    have fresh : H ca = none := hca
    have goal : ∀ (cb : Addr) (cs : List Int) (G0 : Hp), Same H G0 → H cb = none → G0 cb = some (.lst (cs.map V.int)) → cs ≠ [] → cs.length ≤ 63 → True := fun _ _ _ _ _ _ _ _ => trivial
    refine ite2 (fun c => ?_) (fun c => ?_)
    · refine ⟨by show 1 ≤ sizeLine; decide, fun cb hcb => ?_⟩
      have s2 := Same.new (o := .lst [V.int 7]) hcb
      have sG0 := s1.trans s2
      have hcb0 := s1.free hcb
      have gcb : (upd (upd H ca (.lst (ns.map V.int))) cb (.lst [V.int 7])) cb = some (.lst (([7] : List Int).map V.int)) := upd_same
      generalize upd (upd H ca (.lst (ns.map V.int))) cb (.lst [V.int 7]) = G0 at sG0 gcb
      have hne : ([7] : List Int) ≠ [] := by simp
      have hl63 : ([7] : List Int).length ≤ 63 := by decide
      generalize ([7] : List Int) = cs at gcb hne hl63
      clear s2 s1 hca fresh hcb c goal hlen hS
      refine ⟨Nat.zero_le _, fun fa hfa => ?_⟩
      have s3 := Same.new (o := .lst []) hfa
      have hfa0 := sG0.free hfa
      have fcb : fa ≠ cb := fun e => by rw [e, gcb] at hfa; cases hfa
      refine ⟨.int c, rfl, c, rfl, by omega, by omega, ?_⟩
      refine for_range (lo := 0) (n := c.toNat) (fun i σ G => ∃ (cs' ds : List Int) (m : Int) (y5 y6 y7 y8 : Option V), σ = [some (.ref a), some (.int c), some (.ref cb), some (.ref fa), some (.int m), y5, y6, y7, y8] ∧ Same H G ∧
          G cb = some (.lst (cs'.map V.int)) ∧ cs'.length = cs.length ∧ G fa = some (.lst (ds.map V.int)) ∧ ds.length = i ∧ 0 ≤ m ∧ m < 2147483647)
        ⟨cs, [], 12345, none, none, none, none, rfl, sG0.trans s3, s3 _ _ gcb, rfl, upd_same, rfl, by decide, by decide⟩ ?_ ?_
      · rintro i σ G hi ⟨cs', ds, m, y5, y6, y7, y8, rfl, sG, gc, lc, gf, ld, m0, m1⟩
        have hic : (i : Int) < c := by omega
        rw [Int.zero_add]
        have lpos : 0 < cs'.length := by rw [lc]; exact List.length_pos_iff.mpr hne
        have lmap : ((cs'.map V.int).length : Int) = (cs'.length : Int) := by rw [List.length_map]
        -- j = k % len(cells)
        refine ⟨.int (i : Nat), rfl, .ref cb, rfl, cb, _, rfl, .inl (SqL.of gc), _, _, rfl, rfl, by rw [lmap]; omega, ?_⟩
        rw [lmap]
        have hj := fmod_in (a := (i : Int)) (b := (cs'.length : Int)) (by omega)
        obtain ⟨j, hJ⟩ : ∃ j : Nat, (i : Int).fmod (cs'.length : Int) = (j : Int) := ⟨((i : Int).fmod (cs'.length : Int)).toNat, by omega⟩
        rw [hJ] at hj
        have hjl : j < cs'.length := by omega
        obtain ⟨x, hx⟩ : ∃ x, cs'[j]? = some x := ⟨cs'[j], by simp [hjl]⟩
        -- cell = cells[j]
        refine ⟨.ref cb, rfl, _, rfl, cb, _, _, .int x, rfl, rfl, SqL.of gc, by rw [hJ]; exact atI_nat (j := j) (by rw [List.getElem?_map, hx]; rfl), ?_⟩
        -- mixed
        have x3 := fmod_in (a := x) (b := 1000003) (by decide)
        refine ⟨.int m, rfl, m, 48271, rfl, rfl, .inl (sq_small m0 m1), .int x, rfl, .inl ⟨x, rfl, x, 1000003, rfl, rfl, nz3, x.fmod 1000003, 69621, rfl, rfl, .inl ⟨by omega, by omega⟩, _, _, rfl, rfl, .int (i : Nat), rfl, (i : Int), 7919, rfl, rfl, .inl ⟨by omega, by omega⟩, _, _, rfl, rfl, _, 11, rfl, rfl, .inl ⟨_, rfl, _, 2147483647, rfl, rfl, nz2, ?_⟩⟩⟩
        have mm := fmod_in (a := m * 48271 + x.fmod 1000003 * 69621 + (i : Int) * 7919 + 11) (b := 2147483647) (by decide)
        -- again
        refine ⟨_, rfl, _, rfl, _, _, rfl, rfl, .inl (sq_small mm.1 mm.2), _, rfl, 31, _, rfl, rfl, .inl ⟨by decide, by decide⟩, _, _, rfl, rfl, _, rfl, _, _, rfl, rfl, .inl ⟨_, rfl, _, 1000003, rfl, rfl, nz3, ?_⟩⟩
        -- if cell >= 10 ** 18
        refine ⟨.int x, rfl, 10, 18, rfl, rfl, ⟨by decide, by decide, by decide⟩, _, _, rfl, rfl, _, rfl, ite2 (fun _ => ?_) (fun _ => ?_)⟩
        · refine ⟨.ref fa, rfl, .inl ⟨rfl, _, SqL.of gf⟩, .int x, rfl, .inl ⟨x, rfl, x, 1000, rfl, rfl, nz1, fa, _, _, rfl, rfl, gf, by rw [List.length_map]; exact small1000 (by omega), ?_⟩⟩
          have gc2 : (upd G fa (.lst (ds.map V.int ++ [V.int (x.fmod 1000)]))) cb = some (.lst (cs'.map V.int)) := by rw [upd_ne fcb.symm]; exact gc
          refine ⟨.int x, rfl, x, 1000, rfl, rfl, ⟨by decide, by decide⟩, .ref cb, rfl, _, rfl, cb, _, _, j, rfl, rfl, gc2, by rw [hJ]; unfold ixN; rw [if_pos (by omega), if_pos (by rw [List.length_map]; omega), Int.toNat_natCast], ?_⟩
          refine ⟨cs'.set j (x.fdiv 1000), ds ++ [x.fmod 1000], _, _, _, _, _, rfl, fun b o e => ?_, ?_, by rw [List.length_set]; exact lc, ?_, by rw [List.length_append, ld]; rfl, mm.1, mm.2⟩
          · rw [upd_ne (ne_of_none e hcb0), upd_ne (ne_of_none e hfa0)]
            exact sG b o e
          · rw [upd_same, List.map_set]
          · rw [upd_ne fcb, upd_same, List.map_append]
            rfl
        · refine ⟨.ref fa, rfl, .inl ⟨rfl, _, SqL.of gf⟩, _, rfl, .inl ⟨_, rfl, _, 1000, rfl, rfl, nz1, fa, _, _, rfl, rfl, gf, by rw [List.length_map]; exact small1000 (by omega), ?_⟩⟩
          obtain ⟨ag, hag⟩ : ∃ ag : Int, ag = (((m * 48271 + x.fmod 1000003 * 69621 + (i : Int) * 7919 + 11).fmod 2147483647 * (m * 48271 + x.fmod 1000003 * 69621 + (i : Int) * 7919 + 11).fmod 2147483647 + 31 * (m * 48271 + x.fmod 1000003 * 69621 + (i : Int) * 7919 + 11).fmod 2147483647 + (i : Int)).fmod 1000003).fmod 1000 := ⟨_, rfl⟩
          refine ⟨cs', ds ++ [ag], _, _, _, _, _, rfl, fun b o e => ?_, ?_, lc, ?_, by rw [List.length_append, ld]; rfl, mm.1, mm.2⟩
          · rw [upd_ne (ne_of_none e hfa0)]
            exact sG b o e
          · rw [upd_ne fcb.symm]
            exact gc
          · rw [upd_same, List.map_append, hag]
            rfl
      · rintro σ G ⟨cs', ds, m, y5, y6, y7, y8, rfl, sG, gc, lc, gf, ld, m0, m1⟩
        refine ⟨.ref fa, rfl, .inl ⟨rfl, _, SqL.of gf⟩, fa, _, rfl, rfl, gf, .ref fa, rfl, ?_⟩
        refine k fa _ (fun b o e => ?_) hfa0 ⟨ds.reverse, by rw [upd_same, List.map_reverse]⟩
        rw [upd_ne (ne_of_none e hfa0)]
        exact sG b o e
    · have hne : ns ≠ [] := fun e => c (decide_eq_true (by rw [e]; rfl))
      have sG0 := s1
      have hcb0 := fresh
      have gcb : (upd H ca (.lst (ns.map V.int))) ca = some (.lst (ns.map V.int)) := upd_same
      generalize upd H ca (.lst (ns.map V.int)) = G0 at sG0 gcb
      have hl63 := hlen
      clear s1 hca fresh c goal hlen hS
      obtain ⟨cb, ecb⟩ : ∃ cb : Addr, cb = ca := ⟨_, rfl⟩
      obtain ⟨cs, ecs⟩ : ∃ cs : List Int, cs = ns := ⟨_, rfl⟩
      subst ecb
      subst ecs
      refine ⟨Nat.zero_le _, fun fa hfa => ?_⟩
      have s3 := Same.new (o := .lst []) hfa
      have hfa0 := sG0.free hfa
      have fcb : fa ≠ cb := fun e => by rw [e, gcb] at hfa; cases hfa
      refine ⟨.int c, rfl, c, rfl, by omega, by omega, ?_⟩
      refine for_range (lo := 0) (n := c.toNat) (fun i σ G => ∃ (cs' ds : List Int) (m : Int) (y5 y6 y7 y8 : Option V), σ = [some (.ref a), some (.int c), some (.ref cb), some (.ref fa), some (.int m), y5, y6, y7, y8] ∧ Same H G ∧
          G cb = some (.lst (cs'.map V.int)) ∧ cs'.length = cs.length ∧ G fa = some (.lst (ds.map V.int)) ∧ ds.length = i ∧ 0 ≤ m ∧ m < 2147483647)
        ⟨cs, [], 12345, none, none, none, none, rfl, sG0.trans s3, s3 _ _ gcb, rfl, upd_same, rfl, by decide, by decide⟩ ?_ ?_
      · rintro i σ G hi ⟨cs', ds, m, y5, y6, y7, y8, rfl, sG, gc, lc, gf, ld, m0, m1⟩
        have hic : (i : Int) < c := by omega
        rw [Int.zero_add]
        have lpos : 0 < cs'.length := by rw [lc]; exact List.length_pos_iff.mpr hne
        have lmap : ((cs'.map V.int).length : Int) = (cs'.length : Int) := by rw [List.length_map]
        -- j = k % len(cells)
        refine ⟨.int (i : Nat), rfl, .ref cb, rfl, cb, _, rfl, .inl (SqL.of gc), _, _, rfl, rfl, by rw [lmap]; omega, ?_⟩
        rw [lmap]
        have hj := fmod_in (a := (i : Int)) (b := (cs'.length : Int)) (by omega)
        obtain ⟨j, hJ⟩ : ∃ j : Nat, (i : Int).fmod (cs'.length : Int) = (j : Int) := ⟨((i : Int).fmod (cs'.length : Int)).toNat, by omega⟩
        rw [hJ] at hj
        have hjl : j < cs'.length := by omega
        obtain ⟨x, hx⟩ : ∃ x, cs'[j]? = some x := ⟨cs'[j], by simp [hjl]⟩
        -- cell = cells[j]
        refine ⟨.ref cb, rfl, _, rfl, cb, _, _, .int x, rfl, rfl, SqL.of gc, by rw [hJ]; exact atI_nat (j := j) (by rw [List.getElem?_map, hx]; rfl), ?_⟩
        -- mixed
        have x3 := fmod_in (a := x) (b := 1000003) (by decide)
        refine ⟨.int m, rfl, m, 48271, rfl, rfl, .inl (sq_small m0 m1), .int x, rfl, .inl ⟨x, rfl, x, 1000003, rfl, rfl, nz3, x.fmod 1000003, 69621, rfl, rfl, .inl ⟨by omega, by omega⟩, _, _, rfl, rfl, .int (i : Nat), rfl, (i : Int), 7919, rfl, rfl, .inl ⟨by omega, by omega⟩, _, _, rfl, rfl, _, 11, rfl, rfl, .inl ⟨_, rfl, _, 2147483647, rfl, rfl, nz2, ?_⟩⟩⟩
        have mm := fmod_in (a := m * 48271 + x.fmod 1000003 * 69621 + (i : Int) * 7919 + 11) (b := 2147483647) (by decide)
        -- again
        refine ⟨_, rfl, _, rfl, _, _, rfl, rfl, .inl (sq_small mm.1 mm.2), _, rfl, 31, _, rfl, rfl, .inl ⟨by decide, by decide⟩, _, _, rfl, rfl, _, rfl, _, _, rfl, rfl, .inl ⟨_, rfl, _, 1000003, rfl, rfl, nz3, ?_⟩⟩
        -- if cell >= 10 ** 18
        refine ⟨.int x, rfl, 10, 18, rfl, rfl, ⟨by decide, by decide, by decide⟩, _, _, rfl, rfl, _, rfl, ite2 (fun _ => ?_) (fun _ => ?_)⟩
        · refine ⟨.ref fa, rfl, .inl ⟨rfl, _, SqL.of gf⟩, .int x, rfl, .inl ⟨x, rfl, x, 1000, rfl, rfl, nz1, fa, _, _, rfl, rfl, gf, by rw [List.length_map]; exact small1000 (by omega), ?_⟩⟩
          have gc2 : (upd G fa (.lst (ds.map V.int ++ [V.int (x.fmod 1000)]))) cb = some (.lst (cs'.map V.int)) := by rw [upd_ne fcb.symm]; exact gc
          refine ⟨.int x, rfl, x, 1000, rfl, rfl, ⟨by decide, by decide⟩, .ref cb, rfl, _, rfl, cb, _, _, j, rfl, rfl, gc2, by rw [hJ]; unfold ixN; rw [if_pos (by omega), if_pos (by rw [List.length_map]; omega), Int.toNat_natCast], ?_⟩
          refine ⟨cs'.set j (x.fdiv 1000), ds ++ [x.fmod 1000], _, _, _, _, _, rfl, fun b o e => ?_, ?_, by rw [List.length_set]; exact lc, ?_, by rw [List.length_append, ld]; rfl, mm.1, mm.2⟩
          · rw [upd_ne (ne_of_none e hcb0), upd_ne (ne_of_none e hfa0)]
            exact sG b o e
          · rw [upd_same, List.map_set]
          · rw [upd_ne fcb, upd_same, List.map_append]
            rfl
        · refine ⟨.ref fa, rfl, .inl ⟨rfl, _, SqL.of gf⟩, _, rfl, .inl ⟨_, rfl, _, 1000, rfl, rfl, nz1, fa, _, _, rfl, rfl, gf, by rw [List.length_map]; exact small1000 (by omega), ?_⟩⟩
          obtain ⟨ag, hag⟩ : ∃ ag : Int, ag = (((m * 48271 + x.fmod 1000003 * 69621 + (i : Int) * 7919 + 11).fmod 2147483647 * (m * 48271 + x.fmod 1000003 * 69621 + (i : Int) * 7919 + 11).fmod 2147483647 + 31 * (m * 48271 + x.fmod 1000003 * 69621 + (i : Int) * 7919 + 11).fmod 2147483647 + (i : Int)).fmod 1000003).fmod 1000 := ⟨_, rfl⟩
          refine ⟨cs', ds ++ [ag], _, _, _, _, _, rfl, fun b o e => ?_, ?_, lc, ?_, by rw [List.length_append, ld]; rfl, mm.1, mm.2⟩
          · rw [upd_ne (ne_of_none e hfa0)]
            exact sG b o e
          · rw [upd_ne fcb.symm]
            exact gc
          · rw [upd_same, List.map_append, hag]
            rfl
      · rintro σ G ⟨cs', ds, m, y5, y6, y7, y8, rfl, sG, gc, lc, gf, ld, m0, m1⟩
        refine ⟨.ref fa, rfl, .inl ⟨rfl, _, SqL.of gf⟩, fa, _, rfl, rfl, gf, .ref fa, rfl, ?_⟩
        refine k fa _ (fun b o e => ?_) hfa0 ⟨ds.reverse, by rw [upd_same, List.map_reverse]⟩
        rw [upd_ne (ne_of_none e hfa0)]
        exact sG b o e
/-! ### one draw -/
def spTake : Sp := fun vs H Q _ => ∃ (d : Addr) (lim : Int), vs = [.ref d, .int lim] ∧ Draws H d ∧ 0 < lim ∧ ∀ v H', 0 ≤ v → v < lim → But d H H' → Draws H' d → Q (.int v) H'
theorem ok_law_take {f : Addr} {fd : FuncData} (FF : Fun K "_law_take" "_law_take" s_law_take f fd) (T : Txt K mg C J B) : FnOk P w K mg base CX0 1 f fd a_law_take spTake := by
  refine FF.ok sc_law_take (fun vs H Q E h => ?_) (fun cdv A outer s H vs Q E hr h => ?_)
  · obtain ⟨d, lim, rfl, _⟩ := h
    rfl
  · obtain ⟨d, lim, rfl, ⟨ds, hd⟩, hl, k⟩ := h
    refine ⟨_, (pss_cons (ps_if (pt_cmpR op_eq (pe_callB call_len_seq rfl T.z_len (by decide +kernel) (pa_cons (pv 0) pa_nil)) pe_int (nomark _)) (pss_one (ps_ret pe_int)) pss_nil)
      (pss_one (ps_ret (pe_op op_modN (pe_callTy call_int1 rfl T.z_int (by decide +kernel) (pa_cons (pe_bm0 PySem.F.plainAttrs_list PySem.F.slot_list_pop PySem.F.type_list_pop mt_pop (pv 0)) pa_nil)) (pv 1))))), ?_⟩
    refine ⟨.ref d, rfl, d, _, rfl, .inl (SqL.of hd), rfl, _, rfl, ite2 (fun c => ?_) (fun c => ?_)⟩
    · exact k 0 H (Int.le_refl 0) hl (But.refl _ _) ⟨ds, hd⟩
    · have ne : ds ≠ [] := fun e => c (decide_eq_true (by rw [e]; rfl))
      obtain ⟨l, x, rfl⟩ : ∃ l x, ds = l ++ [x] := ⟨ds.dropLast, ds.getLast ne, (List.dropLast_concat_getLast ne).symm⟩
      refine ⟨.ref d, rfl, .inl ⟨rfl, _, SqL.of hd⟩, d, _, .int x, rfl, rfl, hd, by simp, .inl ⟨x, rfl, ?_⟩⟩
      have := fmod_in (a := x) hl
      refine ⟨.int lim, rfl, x, lim, rfl, rfl, by omega, ?_⟩
      refine k _ _ this.1 this.2 (fun b o nb e => by rw [upd_ne nb]; exact e) ⟨l, ?_⟩
      rw [upd_same]
      simp
/-! ### the statements in one -/
def spInner (K : PySem.W.Frag) : Sp := fun vs H Q _ => ∃ (v : V) (t : F), vs = [v] ∧ IsF K H v t ∧ ∀ l ks H', Same H H' → H' l = some (.lst ks) → AllF K H' ks t.kids → Q (.ref l) H'
theorem cut_one (xs : List V) : cutV xs (some 1) none = xs.drop 1 := by
  unfold cutV
  rw [show HT.sIx xs.length 0 (some 1) = min 1 xs.length from HT.sIx_nat _ _ 1, HT.sIx_none]
  rcases Nat.le_total 1 xs.length with h | h
  · rw [Nat.min_eq_left h, List.take_of_length_le (by rw [List.length_drop]; exact Nat.le_refl _)]
  · rw [Nat.min_eq_right h, List.drop_length, List.drop_eq_nil_of_le h]
    simp
theorem ok_law_inner {f : Addr} {fd : FuncData} (FF : Fun K "_law_inner" "_law_inner" s_law_inner f fd) (T : Txt K mg C J B) : FnOk P w K mg base CX0 1 f fd a_law_inner (spInner K) := by
  refine FF.ok sc_law_inner (fun vs H Q E h => ?_) (fun cdv A outer s H vs Q E hr h => ?_)
  · obtain ⟨v, t, rfl, _⟩ := h
    rfl
  · obtain ⟨v, t, rfl, ht, k⟩ := h
    obtain ⟨a, ks, rfl, sq, ak⟩ := ht.open
    refine ⟨_, (pss_one (ps_ret (pe_lc (own := [("part", 1)]) (g := gName 1) rfl sc_law_inner.nd (pi_tup (pe_slice sl_tupA (pv 0) (po_some pe_int) po_none)) (blkOk_by (own := [("part", 1)]) (N := n_law_inner) (sc := defScope s_law_inner) (by decide +kernel)) (fun _ _ _ _ _ => (pg_name (i := 1) sc_law_inner.nd rfl (.inl rfl))) (fun _ _ _ _ _ => (pts_one (pt_val (pe_callB (@id (CallR _ _ (rIsi K)) call_isi) rfl T.z_isinstance (by decide +kernel) (pa_cons (pv 1) (pa_cons (pe_bltn (v := .ty "tuple") (u := .type "tuple") rfl T.z_tuple (by decide +kernel) rfl) pa_nil)))))) (fun _ _ _ _ _ => (pv 1))))), ?_⟩
    have hl := hv_len t.hd
    refine ⟨.ref a, rfl, 1, rfl, a, _, rfl, sq, fun whole => ?_, fun _ z hz => ?_⟩
    · exfalso
      rw [show HT.sIx (hv t.hd ++ ks).length 0 (some 1) = min 1 (hv t.hd ++ ks).length from HT.sIx_nat _ _ 1, List.length_append] at whole
      omega
    rw [cut_one]
    have s1 := Same.new (o := .tup ((hv t.hd ++ ks).drop 1)) hz
    have zT : SqT K (upd H z (.tup ((hv t.hd ++ ks).drop 1))) z ((hv t.hd ++ ks).drop 1) := SqT.of upd_same
    generalize upd H z (.tup ((hv t.hd ++ ks).drop 1)) = H1 at s1 zT
    have ak1 := ak.lk (LKp.same s1)
    -- the numbers ahead of the statements
    obtain ⟨ns, hns, nsi⟩ : ∃ ns : List V, (hv t.hd ++ ks).drop 1 = ns ++ ks ∧ ∀ x ∈ ns, ∃ n, x = V.int n := by
      cases t with
      | nul b => exact ⟨[], rfl, by simp⟩
      | leaf k n => exact ⟨[.int n], rfl, by simp⟩
      | two b f g => exact ⟨[], rfl, by simp⟩
      | one k n f => exact ⟨[.int n], rfl, by simp⟩
    rw [hns] at zT
    refine ⟨z, rfl, ⟨_, zT⟩, fun D hD => ?_⟩
    refine lc_tup (xs := ns ++ ks) (fun i G => Same H1 G ∧ G D = some (.lst ((ns ++ ks).take i |>.drop ns.length))) ⟨Same.new hD, by rw [upd_same]; simp⟩ (fun i G _ q => SqT.same q.1 zT) ?_ ?_
    · rintro i x G hx ⟨sG, gD⟩
      have nd : ∀ b o, H1 b = some o → b ≠ D := fun b o e => ne_of_none e hD
      have e1 : (ns ++ ks).take (i + 1) = (ns ++ ks).take i ++ [x] := by
        rw [List.take_add_one, hx]
        rfl
      have il := (List.getElem?_eq_some_iff.mp hx).1
      rw [List.length_append] at il
      by_cases lt : i < ns.length
      · obtain ⟨n, rfl⟩ := nsi x (by rw [List.getElem?_append_left lt] at hx; exact List.mem_of_getElem? hx)
        refine ⟨rfl, .int n, rfl, .int n, .ty "tuple", .type "int", .type "tuple", false, rfl, ?_, .base (.int n), kit_ty (by decide +kernel), false, rfl, ?_⟩
        · exact .ty "tuple"
        · refine ⟨sG, ?_⟩
          rw [gD, e1, List.drop_append, List.drop_eq_nil_of_le (by rw [List.length_take]; omega), List.length_take, List.nil_append, List.drop_eq_nil_of_le (by simp; omega)]
      · obtain ⟨f, hf⟩ : ∃ f, t.kids[i - ns.length]? = some f := ⟨t.kids[i - ns.length]'(by rw [← ak.len]; omega), by simp⟩
        have ty := (ak1.get (by rw [List.getElem?_append_right (by omega)] at hx; exact hx) hf).lk (LKp.same sG) |>.ty
        refine ⟨rfl, x, rfl, x, .ty "tuple", .type "tuple", .type "tuple", true, rfl, .ty "tuple", ty, kit_ty (by decide +kernel), true, rfl, ?_⟩
        refine ⟨x, rfl, _, gD, ?_, ?_⟩
        · have := F.kids_le t
          have := ak.len
          rw [List.length_drop, List.length_take, List.length_append]
          exact small1000 (by omega)
        · refine ⟨fun b o e => by rw [upd_ne (nd b o e)]; exact sG b o e, ?_⟩
          rw [upd_same, e1, List.drop_append, List.length_take, List.length_append]
          congr 2
          rw [show ns.length - min i (ns.length + ks.length) = 0 by omega]
          rfl
    · rintro G ⟨sG, gD⟩
      refine k D ks G (s1.trans sG) ?_ (ak1.lk (LKp.same sG))
      rw [gD, List.take_of_length_le (Nat.le_refl _), List.drop_left]
end
end Fw

set_option maxRecDepth 100000
set_option maxHeartbeats 2000000
namespace Fw
open PySem PySem.Spec PyProof.Rows L2
theorem iteF_out {A B : Prop} (h : if false = true then A else B) : B := by
  rw [if_neg Bool.false_ne_true] at h
  exact h
theorem iteT_out {A B : Prop} (h : if true = true then A else B) : A := by
  rw [if_pos rfl] at h
  exact h
theorem Draws.but {d : Addr} {H H' : Hp} (s : ∀ o, H d = some o → H' d = some o) (h : Draws H d) : Draws H' d := by
  obtain ⟨ds, e⟩ := h
  exact ⟨ds, s _ e⟩
theorem Draws.same {d : Addr} {H H' : Hp} (s : Same H H') (h : Draws H d) : Draws H' d := h.but fun o e => s d o e
theorem SqL.but {K : PySem.W.Frag} {H H' : Hp} {a d : Addr} {xs : List V} (n : a ≠ d) (s : But d H H') (h : SqL K H a xs) : SqL K H' a xs := SqL.keepAt (fun o e => s a o n e) h
theorem two_at {α : Type} {x y : α} {v : Int} (h0 : 0 ≤ v) (h2 : v < 2) : ∃ b : Bool, atI [x, y] v = some (if b = true then x else y) := by
  have : v = 0 ∨ v = 1 := by omega
  rcases this with rfl | rfl
  · exact ⟨true, rfl⟩
  · exact ⟨false, rfl⟩
section
variable {P : Program} {w : World} {K : PySem.W.Frag} {mg : Str → Option Value} {base : Heap} {C J B NC FE : Addr}
def spAtom (K : PySem.W.Frag) : Sp := fun vs H Q _ => ∃ (d ra : Addr) (R : List Int), vs = [.ref d, .ref ra] ∧ Draws H d ∧ SqL K H ra (R.map V.int) ∧ ra ≠ d ∧ R.length ≤ 100 ∧ (∀ x ∈ R, x ∈ V4) ∧
  ∀ v t H', But d H H' → Draws H' d → IsF K H' v t → Gen 0 [] R t → Q v H'
theorem ok_law_atom {f : Addr} {fd : FuncData} (FF : Fun K "_law_atom" "_law_atom" s_law_atom f fd) (T : Txt K mg C J B) (h_law_take : Has P w K mg base "_law_take" 1 a_law_take spTake) : FnOk P w K mg base CX0 2 f fd a_law_atom (spAtom K) := by
  refine FF.ok sc_law_atom (fun vs H Q E h => ?_) (fun cdv A outer s H vs Q E hr h => ?_)
  · obtain ⟨d, ra, R, rfl, _⟩ := h
    rfl
  · obtain ⟨d, ra, R, rfl, hd, hR, nrd, hlen, hV, k⟩ := h
    refine ⟨_, (pss_cons (ps_set (i := 2) sc_law_atom.nd rfl (.inl rfl) (pe_callH h_law_take (hr.mono (by omega)) (pa_cons (pv 0) (pa_cons pe_int pa_nil))))
      (pss_cons (ps_if (PW.pt (pw_and (pt_cmpR op_gt (pe_callB call_len_seq rfl T.z_len (by decide +kernel) (pa_cons (pv 1) pa_nil)) pe_int (nomark _)) (pw_and1 (pt_cmpR op_lt (pv 2) pe_int (nomark _))))) (pss_one (ps_ret (pe_tup (pa_cons pe_str (pa_cons (pe_ix ix_list (pv 1) (pe_callH h_law_take (hr.mono (by omega)) (pa_cons (pv 0) (pa_cons (pe_callB call_len_seq rfl T.z_len (by decide +kernel) (pa_cons (pv 1) pa_nil)) pa_nil))) (fun _ _ => rfl)) pa_nil))))) pss_nil)
      (pss_cons (ps_if (pt_cmpR op_eq (pv 2) pe_int (nomark _)) (pss_one (ps_ret (pe_ix ix_list (pe_lst (pa_cons (pe_tup (pa_cons pe_str pa_nil)) (pa_cons (pe_tup (pa_cons pe_str pa_nil)) pa_nil))) (pe_callH h_law_take (hr.mono (by omega)) (pa_cons (pv 0) (pa_cons pe_int pa_nil))) (fun _ _ => rfl)))) pss_nil)
      (pss_one (ps_ret (pe_tup (pa_cons (pe_ix ix_list (pe_lst (pa_cons pe_str (pa_cons pe_str pa_nil))) (pe_callH h_law_take (hr.mono (by omega)) (pa_cons (pv 0) (pa_cons pe_int pa_nil))) (fun _ _ => rfl)) (pa_cons (pe_callH h_law_take (hr.mono (by omega)) (pa_cons (pv 0) (pa_cons pe_int pa_nil))) pa_nil)))))))), ?_⟩
    refine ⟨.ref d, rfl, d, 8, rfl, hd, by decide, fun v1 H1 v10 v18 b1 d1 => ?_⟩
    have hR1 := SqL.but nrd b1 hR
    refine ⟨.ref ra, rfl, ra, _, rfl, .inl hR1, _, _, rfl, rfl, _, rfl, ?_⟩
    rw [List.length_map]
    have nR : ∀ b o, H1 b = some o → ∀ q, H1 q = none → b ≠ q := fun b o e q hq => ne_of_none e hq
    refine ite2 (fun c => ?_) (fun c => ?_)
    · refine ⟨.int v1, rfl, _, _, rfl, rfl, _, rfl, ite2 (fun c2 => ?_) (fun c2 => ?_)⟩
      · -- a variable
        have pos : 0 < (R.length : Int) := of_decide_eq_true c
        refine ⟨.ref ra, rfl, .ref d, rfl, .ref ra, rfl, ra, _, rfl, .inl hR1, d, (R.length : Nat), by rw [List.length_map]; rfl, d1, pos, fun v2 H2 v20 v2r b2 d2 => ?_⟩
        have hR2 := SqL.but nrd b2 hR1
        obtain ⟨m, rfl⟩ : ∃ m : Nat, v2 = (m : Int) := ⟨v2.toNat, by omega⟩
        obtain ⟨x, hx⟩ : ∃ x, R[m]? = some x := ⟨R[m]'(by omega), by simp⟩
        refine ⟨ra, _, _, .int x, rfl, rfl, hR2, atI_nat (j := m) (by rw [List.getElem?_map, hx]; rfl), by show 2 ≤ sizeLine; decide, fun p hp => ?_⟩
        have s3 := Same.new (o := .tup [.str "var", .int x]) hp
        have xm := List.mem_of_getElem? hx
        exact k _ (.leaf .var x) _ ((b1.trans b2).trans (Same.but s3)) (d2.same s3) (.leaf (SqT.of upd_same)) ⟨Nat.le_refl 1, hV x xm, fun y hy => .inr (by rw [List.mem_singleton.mp hy]; exact xm)⟩
      · skip
        refine ⟨.int v1, rfl, rfl, _, rfl, ite2 (fun c3 => ?_) (fun c3 => ?_)⟩
        · refine ⟨by show 1 ≤ sizeLine; decide, fun p hp => ⟨by show 1 ≤ sizeLine; decide, fun q hq => ⟨by show 2 ≤ sizeLine; decide, fun l hl => ?_⟩⟩⟩
          have s2 := Same.new (o := .tup [.str "true"]) hp
          have s3 := Same.new (o := .tup [.str "false"]) hq
          have s4 := Same.new (o := .lst [.ref p, .ref q]) hl
          have p4 := s4 _ _ (s3 _ _ (upd_same (H := H1) (a := p) (o := .tup [.str "true"])))
          have q4 := s4 _ _ (upd_same (H := upd H1 p (.tup [.str "true"])) (a := q) (o := .tup [.str "false"]))
          have l4 := upd_same (H := upd (upd H1 p (.tup [.str "true"])) q (.tup [.str "false"])) (a := l) (o := .lst [.ref p, .ref q])
          have s14 := s2.trans (s3.trans s4)
          have ld : l ≠ d := fun e => by
            obtain ⟨ds, e2⟩ := d1
            have := (s2.trans s3) _ _ e2
            rw [← e, hl] at this
            cases this
          refine ⟨.ref d, rfl, d, 2, rfl, d1.same s14, by decide, fun v2 H2 v20 v22 b2 d2 => ?_⟩
          obtain ⟨b, hb⟩ := two_at (x := V.ref p) (y := V.ref q) v20 v22
          have l5 := b2 _ _ ld l4
          have keepT : ∀ (a : Addr) (xs : List V), SqT K _ a xs → SqT K H2 a xs := fun a xs h => SqT.but (d1.same s14).lst b2 h
          refine ⟨l, _, _, _, rfl, rfl, SqL.of l5, hb, ?_⟩
          have B2 := (b1.trans (Same.but s14)).trans b2
          cases b with
          | true => exact k _ (.nul true) _ B2 d2 (.nul (keepT _ _ (SqT.of p4))) ⟨Nat.le_refl 1, trivial, fun y hy => by cases hy⟩
          | false => exact k _ (.nul false) _ B2 d2 (.nul (keepT _ _ (SqT.of q4))) ⟨Nat.le_refl 1, trivial, fun y hy => by cases hy⟩
        · refine ⟨by show 2 ≤ sizeLine; decide, fun l hl => ?_⟩
          have s2 := Same.new (o := .lst [.str "has", .str "lacks"]) hl
          have l2 := upd_same (H := H1) (a := l) (o := .lst [.str "has", .str "lacks"])
          have ld : l ≠ d := fun e => by
            obtain ⟨ds, e2⟩ := d1
            rw [← e, hl] at e2
            cases e2
          refine ⟨.ref d, rfl, d, 2, rfl, d1.same s2, by decide, fun v2 H2 v20 v22 b2 d2 => ?_⟩
          obtain ⟨b, hb⟩ := two_at (x := V.str "has") (y := V.str "lacks") v20 v22
          refine ⟨l, _, _, _, rfl, rfl, SqL.of (b2 _ _ ld l2), hb, ?_⟩
          refine ⟨.ref d, rfl, d, 2, rfl, d2, by decide, fun v3 H3 v30 v32 b3 d3 => ?_⟩
          refine ⟨by show 2 ≤ sizeLine; decide, fun p hp => ?_⟩
          have B3 := ((b1.trans (Same.but s2)).trans b2).trans b3
          cases b with
          | true =>
            have s4 := Same.new (o := .tup [.str "has", .int v3]) hp
            exact k _ (.leaf .has v3) _ (B3.trans (Same.but s4)) (d3.same s4) (.leaf (SqT.of upd_same)) ⟨Nat.le_refl 1, ⟨v30, v32⟩, fun y hy => by cases hy⟩
          | false =>
            have s4 := Same.new (o := .tup [.str "lacks", .int v3]) hp
            exact k _ (.leaf .lacks v3) _ (B3.trans (Same.but s4)) (d3.same s4) (.leaf (SqT.of upd_same)) ⟨Nat.le_refl 1, ⟨v30, v32⟩, fun y hy => by cases hy⟩
    · refine iteF ?_
      refine ⟨.int v1, rfl, rfl, _, rfl, ite2 (fun c3 => ?_) (fun c3 => ?_)⟩
      · refine ⟨by show 1 ≤ sizeLine; decide, fun p hp => ⟨by show 1 ≤ sizeLine; decide, fun q hq => ⟨by show 2 ≤ sizeLine; decide, fun l hl => ?_⟩⟩⟩
        have s2 := Same.new (o := .tup [.str "true"]) hp
        have s3 := Same.new (o := .tup [.str "false"]) hq
        have s4 := Same.new (o := .lst [.ref p, .ref q]) hl
        have p4 := s4 _ _ (s3 _ _ (upd_same (H := H1) (a := p) (o := .tup [.str "true"])))
        have q4 := s4 _ _ (upd_same (H := upd H1 p (.tup [.str "true"])) (a := q) (o := .tup [.str "false"]))
        have l4 := upd_same (H := upd (upd H1 p (.tup [.str "true"])) q (.tup [.str "false"])) (a := l) (o := .lst [.ref p, .ref q])
        have s14 := s2.trans (s3.trans s4)
        have ld : l ≠ d := fun e => by
          obtain ⟨ds, e2⟩ := d1
          have := (s2.trans s3) _ _ e2
          rw [← e, hl] at this
          cases this
        refine ⟨.ref d, rfl, d, 2, rfl, d1.same s14, by decide, fun v2 H2 v20 v22 b2 d2 => ?_⟩
        obtain ⟨b, hb⟩ := two_at (x := V.ref p) (y := V.ref q) v20 v22
        have l5 := b2 _ _ ld l4
        have keepT : ∀ (a : Addr) (xs : List V), SqT K _ a xs → SqT K H2 a xs := fun a xs h => SqT.but (d1.same s14).lst b2 h
        refine ⟨l, _, _, _, rfl, rfl, SqL.of l5, hb, ?_⟩
        have B2 := (b1.trans (Same.but s14)).trans b2
        cases b with
        | true => exact k _ (.nul true) _ B2 d2 (.nul (keepT _ _ (SqT.of p4))) ⟨Nat.le_refl 1, trivial, fun y hy => by cases hy⟩
        | false => exact k _ (.nul false) _ B2 d2 (.nul (keepT _ _ (SqT.of q4))) ⟨Nat.le_refl 1, trivial, fun y hy => by cases hy⟩
      · refine ⟨by show 2 ≤ sizeLine; decide, fun l hl => ?_⟩
        have s2 := Same.new (o := .lst [.str "has", .str "lacks"]) hl
        have l2 := upd_same (H := H1) (a := l) (o := .lst [.str "has", .str "lacks"])
        have ld : l ≠ d := fun e => by
          obtain ⟨ds, e2⟩ := d1
          rw [← e, hl] at e2
          cases e2
        refine ⟨.ref d, rfl, d, 2, rfl, d1.same s2, by decide, fun v2 H2 v20 v22 b2 d2 => ?_⟩
        obtain ⟨b, hb⟩ := two_at (x := V.str "has") (y := V.str "lacks") v20 v22
        refine ⟨l, _, _, _, rfl, rfl, SqL.of (b2 _ _ ld l2), hb, ?_⟩
        refine ⟨.ref d, rfl, d, 2, rfl, d2, by decide, fun v3 H3 v30 v32 b3 d3 => ?_⟩
        refine ⟨by show 2 ≤ sizeLine; decide, fun p hp => ?_⟩
        have B3 := ((b1.trans (Same.but s2)).trans b2).trans b3
        cases b with
        | true =>
          have s4 := Same.new (o := .tup [.str "has", .int v3]) hp
          exact k _ (.leaf .has v3) _ (B3.trans (Same.but s4)) (d3.same s4) (.leaf (SqT.of upd_same)) ⟨Nat.le_refl 1, ⟨v30, v32⟩, fun y hy => by cases hy⟩
        | false =>
          have s4 := Same.new (o := .tup [.str "lacks", .int v3]) hp
          exact k _ (.leaf .lacks v3) _ (B3.trans (Same.but s4)) (d3.same s4) (.leaf (SqT.of upd_same)) ⟨Nat.le_refl 1, ⟨v30, v32⟩, fun y hy => by cases hy⟩
end
end Fw

set_option maxRecDepth 100000
set_option maxHeartbeats 4000000
namespace Fw
open PySem PySem.Spec PyProof.Rows L2
theorem Draws.ne {H : Hp} {d q : Addr} (h : Draws H d) (hq : H q = none) : q ≠ d := fun e => by
  obtain ⟨ds, z⟩ := h
  rw [← e, hq] at z
  cases z
theorem four_at {v : Int} (h0 : 0 ≤ v) (h4 : v < 4) : ∃ x ∈ V4, atI [V.int 0, V.int 1, V.int 2, V.int 7] v = some (.int x) := by
  have : v = 0 ∨ v = 1 ∨ v = 2 ∨ v = 3 := by omega
  rcases this with rfl | rfl | rfl | rfl
  · exact ⟨0, by decide, rfl⟩
  · exact ⟨1, by decide, rfl⟩
  · exact ⟨2, by decide, rfl⟩
  · exact ⟨7, by decide, rfl⟩
theorem V4_nonneg {x : Int} (h : x ∈ V4) : 0 ≤ x ∧ x < 8 := by
  simp only [List.mem_cons, List.not_mem_nil, or_false] at h
  omega
def ofB (b : Bool) : Int := if b = true then 1 else 0
abbrev IL (H : Hp) (a : Addr) (xs : List Int) : Prop := H a = some (.lst (xs.map V.int))
def spS (K : PySem.W.Frag) : Nat → Sp
  | 0 => fun _ _ _ _ => False
  | n + 1 => fun vs H Q _ => ∃ (d wa ra : Addr) (W R : List Int), vs = [.ref d, .int (n : Nat), .ref wa, .ref ra, .bl true] ∧ Draws H d ∧ IL H wa W ∧ IL H ra R ∧ wa ≠ d ∧ ra ≠ d ∧ W.length + R.length + n ≤ 20 ∧ (∀ x ∈ W, x ∈ V4) ∧ (∀ x ∈ R, x ∈ V4) ∧
    ∀ v t H', But d H H' → Draws H' d → IsF K H' v t → Gen n W R t → Q v H'
section
variable {P : Program} {w : World} {K : PySem.W.Frag} {mg : Str → Option Value} {base : Heap} {C J B NC FE : Addr}
theorem ok_law_statement {f : Addr} {fd : FuncData} (n : Nat) (FF : Fun K "_law_statement" "_law_statement" s_law_statement f fd) (T : Txt K mg C J B) (h_law_take : Has P w K mg base "_law_take" 1 a_law_take spTake)
    (h_law_atom : Has P w K mg base "_law_atom" 2 a_law_atom (spAtom K)) (h_law_statement : Has P w K mg base "_law_statement" (n + 2) a_law_statement (spS K n)) : FnOk P w K mg base CX0 (n + 3) f fd a_law_statement (spS K (n + 1)) := by
  refine FF.ok sc_law_statement (fun vs H Q E h => ?_) (fun cdv A outer s H vs Q E hr h => ?_)
  · obtain ⟨d, wa, ra, W, R, rfl, _⟩ := h
    rfl
  · obtain ⟨d, wa, ra, W, R, rfl, hd, hW, hR, nwd, nrd, hsz, hVW, hVR, k⟩ := h
    refine ⟨_, (pss_cons (ps_set (i := 5) sc_law_statement.nd rfl (.inl rfl) (pe_callH h_law_take (hr.mono (by omega)) (pa_cons (pv 0) (pa_cons pe_int pa_nil))))
      (pss_cons (ps_if (PW.pt (pw_or (pt_cmpR op_eq (pv 1) pe_int (nomark _)) (pw_or1 (pt_cmpR op_eq (pv 5) pe_int (nomark _))))) (pss_one (ps_ret (pe_callH h_law_atom (hr.mono (by omega)) (pa_cons (pv 0) (pa_cons (pv 3) pa_nil))))) pss_nil)
      (pss_cons (ps_if (pt_cmpR op_lt (pv 5) pe_int (nomark _)) (pss_cons (ps_set (i := 6) sc_law_statement.nd rfl (.inl rfl) (pe_callH h_law_statement (hr.mono (by omega)) (pa_cons (pv 0) (pa_cons (pe_op op_sub (pv 1) pe_int) (pa_cons (pv 2) (pa_cons (pv 3) (pa_cons (pv 4) pa_nil)))))))
      (pss_one (ps_ret (pe_tup (pa_cons (pe_ix ix_list (pe_lst (pa_cons pe_str (pa_cons pe_str pa_nil))) (pe_callTy call_int1 rfl T.z_int (by decide +kernel) (pa_cons (pe_cmpR op_gt (pv 5) pe_int (nomark _)) pa_nil)) (fun _ _ => rfl)) (pa_cons (pv 6) (pa_cons (pe_callH h_law_statement (hr.mono (by omega)) (pa_cons (pv 0) (pa_cons (pe_op op_sub (pv 1) pe_int) (pa_cons (pv 2) (pa_cons (pv 3) (pa_cons (pv 4) pa_nil)))))) pa_nil))))))) pss_nil)
      (pss_cons (ps_if (pt_cmpR op_lt (pv 5) pe_int (nomark _)) (pss_cons (ps_set (i := 7) sc_law_statement.nd rfl (.inl rfl) (pe_op op_fdivN (pe_callH h_law_take (hr.mono (by omega)) (pa_cons (pv 0) (pa_cons pe_int pa_nil))) pe_int))
      (pss_one (ps_ret (pe_tup (pa_cons (pe_ix ix_list (pe_lst (pa_cons pe_str (pa_cons pe_str pa_nil))) (pe_callH h_law_take (hr.mono (by omega)) (pa_cons (pv 0) (pa_cons pe_int pa_nil))) (fun _ _ => rfl)) (pa_cons (pv 7) (pa_cons (pe_callH h_law_statement (hr.mono (by omega)) (pa_cons (pv 0) (pa_cons (pe_op op_sub (pv 1) pe_int) (pa_cons (pe_lst pa_nil) (pa_cons (pe_op op_cat (pv 3) (pv 2)) (pa_cons (pv 4) pa_nil)))))) pa_nil))))))) pss_nil)
      (pss_cons (ps_set (i := 8) sc_law_statement.nd rfl (.inr rfl) (pe_ix ix_list (pe_lst (pa_cons pe_int (pa_cons pe_int (pa_cons pe_int (pa_cons pe_int pa_nil))))) (pe_callH h_law_take (hr.mono (by omega)) (pa_cons (pv 0) (pa_cons pe_int pa_nil))) (fun _ _ => rfl)))
      (pss_cons (ps_setLc (i := 9) (own := [("other", 11)]) (g := gName 11) rfl sc_law_statement.nd rfl rfl (sw_true rfl rfl rfl (by decide +kernel)) (pi_list (pv 2)) (blkOk_by (own := [("other", 11)]) (N := n_law_statement) (sc := defScope s_law_statement) (by decide +kernel)) (fun _ _ _ _ _ => (pg_name (i := 11) sc_law_statement.nd rfl (.inl rfl))) (fun _ _ _ _ _ => (pts_one (pt_cmpR op_ne (pv 11) (pv 8) (nomark _)))) (fun _ _ _ _ _ => (pv 11)))
      (pss_cons (ps_setLc (i := 10) (own := [("other", 11)]) (g := gName 11) rfl sc_law_statement.nd rfl rfl (sw_true rfl rfl rfl (by decide +kernel)) (pi_list (pv 3)) (blkOk_by (own := [("other", 11)]) (N := n_law_statement) (sc := defScope s_law_statement) (by decide +kernel)) (fun _ _ _ _ _ => (pg_name (i := 11) sc_law_statement.nd rfl (.inl rfl))) (fun _ _ _ _ _ => (pts_one (pt_cmpR op_ne (pv 11) (pv 8) (nomark _)))) (fun _ _ _ _ _ => (pv 11)))
      (pss_cons (ps_if (PW.pt (pw_and (pt_val (pv 4)) (pw_and1 (pt_cmpR op_eq (pe_callH h_law_take (hr.mono (by omega)) (pa_cons (pv 0) (pa_cons pe_int pa_nil))) pe_int (nomark _))))) (pss_one (ps_set (i := 10) sc_law_statement.nd rfl (.inl rfl) (pe_op op_cat (pv 10) (pe_lst (pa_cons (pv 8) pa_nil))))) (pss_one (ps_set (i := 9) sc_law_statement.nd rfl (.inl rfl) (pe_op op_cat (pv 9) (pe_lst (pa_cons (pv 8) pa_nil))))))
      (pss_one (ps_ret (pe_tup (pa_cons (pe_ix ix_list (pe_lst (pa_cons pe_str (pa_cons pe_str pa_nil))) (pe_callH h_law_take (hr.mono (by omega)) (pa_cons (pv 0) (pa_cons pe_int pa_nil))) (fun _ _ => rfl)) (pa_cons (pv 8) (pa_cons (pe_callH h_law_statement (hr.mono (by omega)) (pa_cons (pv 0) (pa_cons (pe_op op_sub (pv 1) pe_int) (pa_cons (pv 9) (pa_cons (pv 10) (pa_cons (pv 4) pa_nil)))))) pa_nil)))))))))))))), ?_⟩
    refine ⟨.ref d, rfl, d, 12, rfl, hd, by decide, fun v1 H1 v10 v112 b1 d1 => ?_⟩
    refine ⟨.int (n : Nat), rfl, rfl, _, rfl, ite2 (fun c => ?_) (fun c => ?_)⟩
    · refine iteT ?_
      refine ⟨.ref d, rfl, .ref ra, rfl, d, ra, R, rfl, d1, SqL.of (b1 _ _ nrd hR), nrd, by omega, hVR, fun v t H2 b2 d2 ht g => ?_⟩
      exact k v t H2 (b1.trans b2) d2 ht ⟨Nat.le_trans g.dep (by omega), g.ok, fun x hx => (g.fr x hx).elim (fun z => by cases z) .inr⟩
    refine ⟨.int v1, rfl, rfl, _, rfl, ite2 (fun c1 => ?_) (fun c1 => ?_)⟩
    · skip
      refine ⟨.ref d, rfl, .ref ra, rfl, d, ra, R, rfl, d1, SqL.of (b1 _ _ nrd hR), nrd, by omega, hVR, fun v t H2 b2 d2 ht g => ?_⟩
      exact k v t H2 (b1.trans b2) d2 ht ⟨Nat.le_trans g.dep (by omega), g.ok, fun x hx => (g.fr x hx).elim (fun z => by cases z) .inr⟩
    obtain ⟨m, rfl⟩ : ∃ m, n = m + 1 := by
      cases n with
      | zero => exact absurd (decide_eq_true rfl) c
      | succ m => exact ⟨m, rfl⟩
    have hW1 := b1 _ _ nwd hW
    have hR1 := b1 _ _ nrd hR
    have em : V.int (((m + 1 : Nat) : Int) - 1) = V.int (m : Nat) := by congr 1; omega
    refine ⟨.int v1, rfl, _, _, rfl, rfl, _, rfl, ite2 (fun c2 => ?_) (fun c2 => ?_)⟩
    · -- and, or
      refine ⟨.ref d, rfl, .int ((m + 1 : Nat) : Int), rfl, _, 1, rfl, rfl, .ref wa, rfl, .ref ra, rfl, .bl true, rfl, d, wa, ra, W, R, by show [V.ref d, V.int (((m + 1 : Nat) : Int) - 1), _, _, _] ++ [] = _; rw [em]; rfl, d1, hW1, hR1, nwd, nrd, by omega, hVW, hVR, fun vf tf H2 b2 d2 hf gf => ?_⟩
      refine ⟨by show 2 ≤ sizeLine; decide, fun l hl => ?_⟩
      have s3 := Same.new (o := .lst [.str "and", .str "or"]) hl
      have l3 := upd_same (H := H2) (a := l) (o := .lst [.str "and", .str "or"])
      have hW3 := s3 _ _ (b2 _ _ nwd hW1)
      have hR3 := s3 _ _ (b2 _ _ nrd hR1)
      have b3 := b1.trans (b2.trans (Same.but s3))
      have d3 := d2.same s3
      have hf3 := hf.same s3
      have word : ∃ b : Bool, atI [V.str "and", V.str "or"] (if decide (2 < v1) = true then 1 else 0) = some (.str (wT b)) := by
        by_cases q : 2 < v1
        · exact ⟨false, by rw [if_pos (decide_eq_true q)]; rfl⟩
        · exact ⟨true, by rw [if_neg (by rw [decide_eq_false q]; exact Bool.false_ne_true)]; rfl⟩
      obtain ⟨b, hb⟩ := word
      refine ⟨.int v1, rfl, _, _, rfl, rfl, .inr ⟨_, rfl, l, _, _, _, rfl, rfl, SqL.of l3, hb, ?_⟩⟩
      refine ⟨vf, rfl, ?_⟩
      refine ⟨.ref d, rfl, .int ((m + 1 : Nat) : Int), rfl, _, 1, rfl, rfl, .ref wa, rfl, .ref ra, rfl, .bl true, rfl, d, wa, ra, W, R, by show [V.ref d, V.int (((m + 1 : Nat) : Int) - 1), _, _, _] ++ [] = _; rw [em]; rfl, d3, hW3, hR3, nwd, nrd, by omega, hVW, hVR, fun vg tg H4 b4 d4 hg gg => ?_⟩
      refine ⟨by show 3 ≤ sizeLine; decide, fun p hp => ?_⟩
      have s5 := Same.new (o := .tup [.str (wT b), vf, vg]) hp
      refine k _ (.two b tf tg) _ ((b3.trans b4).trans (Same.but s5)) (d4.same s5) (.two (SqT.of upd_same) ((hf3.but d3.lst b4).same s5) (hg.same s5)) ⟨by show max tf.depth tg.depth + 1 ≤ _; have := gf.dep; have := gg.dep; omega, ⟨gf.ok, gg.ok⟩, fun y hy => ?_⟩
      rcases List.mem_append.mp (show y ∈ fv tf ++ fv tg from hy) with z | z
      · exact gf.fr y z
      · exact gg.fr y z
    refine ⟨.int v1, rfl, _, _, rfl, rfl, _, rfl, ite2 (fun c3 => ?_) (fun c3 => ?_)⟩
    · -- some, all
      refine ⟨.ref d, rfl, d, 3, rfl, d1, by decide, fun v2 H2 v20 v23 b2 d2 => ⟨v2, 2, rfl, rfl, ⟨by decide, by decide⟩, ?_⟩⟩
      have lab : 0 ≤ v2.fdiv 2 ∧ v2.fdiv 2 < 2 := by
        have : v2 = 0 ∨ v2 = 1 ∨ v2 = 2 := by omega
        rcases this with rfl | rfl | rfl <;> decide
      refine ⟨by show 2 ≤ sizeLine; decide, fun l hl => ?_⟩
      have s3 := Same.new (o := .lst [.str "some", .str "all"]) hl
      have l3 := upd_same (H := H2) (a := l) (o := .lst [.str "some", .str "all"])
      have ld := d2.ne hl
      refine ⟨.ref d, rfl, d, 2, rfl, d2.same s3, by decide, fun v4 H4 v40 v42 b4 d4 => ?_⟩
      obtain ⟨b, hb⟩ := two_at (x := V.str "some") (y := V.str "all") v40 v42
      refine ⟨l, _, _, _, rfl, rfl, SqL.of (b4 _ _ ld l3), hb, _, rfl, ?_⟩
      have hW4 := b4 _ _ nwd (s3 _ _ (b2 _ _ nwd hW1))
      have hR4 := b4 _ _ nrd (s3 _ _ (b2 _ _ nrd hR1))
      refine ⟨.ref d, rfl, .int ((m + 1 : Nat) : Int), rfl, _, 1, rfl, rfl, Nat.zero_le _, fun e he => ?_⟩
      have s5 := Same.new (o := .lst []) he
      refine ⟨.ref ra, rfl, .ref wa, rfl, ra, wa, _, _, rfl, rfl, s5 _ _ hR4, s5 _ _ hW4, by rw [List.length_map, List.length_map]; exact Nat.le_of_lt (small1000 (by omega)), fun q hq => ?_⟩
      have s6 := Same.new (o := .lst (R.map V.int ++ W.map V.int)) hq
      have ed := d4.ne he
      have qd := (d4.same s5).ne hq
      refine ⟨.bl true, rfl, d, e, q, [], R ++ W, by show [V.ref d, V.int (((m + 1 : Nat) : Int) - 1), _, _, _] ++ [] = _; rw [em]; rfl, (d4.same s5).same s6, s6 _ _ upd_same, by show _ = _; rw [upd_same, List.map_append], ed, qd, by simp; omega, by simp, fun x hx => (List.mem_append.mp hx).elim (hVR x) (hVW x), fun v f H7 b7 d7 hf g => ?_⟩
      refine ⟨by show 3 ≤ sizeLine; decide, fun p hp => ?_⟩
      have BB := (((b1.trans (b2.trans ((Same.but s3).trans b4))).trans (Same.but s5)).trans (Same.but s6)).trans b7
      have fr' : ∀ y ∈ fv f, y ∈ W ∨ y ∈ R := fun y hy => (g.fr y hy).elim (fun z => by cases z) fun z => (List.mem_append.mp z).symm
      cases b with
      | true =>
        have s9 := Same.new (o := .tup [.str "some", .int (v2.fdiv 2), v]) hp
        exact k _ (.one .some (v2.fdiv 2) f) _ (BB.trans (Same.but s9)) (d7.same s9) (.one (SqT.of upd_same) (hf.same s9)) ⟨by show f.depth + 1 ≤ _; have := g.dep; omega, ⟨by rw [if_neg (by decide)]; exact lab, g.ok⟩, fr'⟩
      | false =>
        have s9 := Same.new (o := .tup [.str "all", .int (v2.fdiv 2), v]) hp
        exact k _ (.one .all (v2.fdiv 2) f) _ (BB.trans (Same.but s9)) (d7.same s9) (.one (SqT.of upd_same) (hf.same s9)) ⟨by show f.depth + 1 ≤ _; have := g.dep; omega, ⟨by rw [if_neg (by decide)]; exact lab, g.ok⟩, fr'⟩
    -- least, most
    refine ⟨by show 4 ≤ sizeLine; decide, fun l hl => ?_⟩
    have s2 := Same.new (o := .lst [V.int 0, V.int 1, V.int 2, V.int 7]) hl
    have l2 := upd_same (H := H1) (a := l) (o := .lst [V.int 0, V.int 1, V.int 2, V.int 7])
    have ld := d1.ne hl
    refine ⟨.ref d, rfl, d, 4, rfl, d1.same s2, by decide, fun v3 H3 v30 v34 b3 d3 => ?_⟩
    obtain ⟨x, hx4, hx⟩ := four_at v30 v34
    refine ⟨l, _, _, _, rfl, rfl, SqL.of (b3 _ _ ld l2), hx, ?_⟩
    have hW3 := b3 _ _ nwd (s2 _ _ hW1)
    have hR3 := b3 _ _ nrd (s2 _ _ hR1)
    have B3 := b1.trans ((Same.but s2).trans b3)
    -- later, usable
    refine ⟨.ref wa, rfl, wa, rfl, ⟨_, SqL.of hW3⟩, fun la hla => ?_⟩
    refine lc_list (xs := W.map V.int) (fun i G => Same H3 G ∧ G la = some (.lst (((W.take i).filter (fun y => y ≠ x)).map V.int))) ⟨Same.new hla, upd_same⟩ (fun i G _ q => SqL.of (q.1 _ _ hW3)) ?_ ?_
    · rintro i y G hy ⟨sG, gl⟩
      obtain ⟨z, hz, rfl⟩ : ∃ z, W[i]? = some z ∧ y = V.int z := by
        rw [List.getElem?_map] at hy
        cases e : W[i]? with
        | none => rw [e] at hy; cases hy
        | some z => rw [e] at hy; exact ⟨z, rfl, (Option.some.inj hy).symm⟩
      refine ⟨rfl, .int z, rfl, .int x, rfl, rfl, _, rfl, ?_⟩
      have e1 : W.take (i + 1) = W.take i ++ [z] := by rw [List.take_add_one, hz]; rfl
      by_cases e : z = x
      · rw [show (!decide (V.int z = V.int x)) = false by rw [e, decide_eq_true rfl]; rfl]
        refine iteF ⟨sG, ?_⟩
        rw [gl, e1, List.filter_append, e]
        simp
      · rw [show (!decide (V.int z = V.int x)) = true by rw [decide_eq_false (fun q => e (V.int.inj q))]; rfl]
        refine iteT ⟨.int z, rfl, _, gl, ?_, fun b o e2 => by rw [upd_ne (ne_of_none e2 hla)]; exact sG b o e2, ?_⟩
        · rw [List.length_map]
          have := List.length_filter_le (fun y => decide (y ≠ x)) (W.take i)
          rw [List.length_take] at this
          exact small1000 (by omega)
        · rw [upd_same, e1, List.filter_append, List.map_append]
          simp [e]
    rintro G4 ⟨s4, gla⟩
    rw [List.length_map, List.take_length] at gla
    have hR4 := s4 _ _ hR3
    have d4 := d3.same s4
    have lad := d3.ne hla
    refine ⟨.ref ra, rfl, ra, rfl, ⟨_, SqL.of hR4⟩, fun ua hua => ?_⟩
    refine lc_list (xs := R.map V.int) (fun i G => Same G4 G ∧ G ua = some (.lst (((R.take i).filter (fun y => y ≠ x)).map V.int))) ⟨Same.new hua, upd_same⟩ (fun i G _ q => SqL.of (q.1 _ _ hR4)) ?_ ?_
    · rintro i y G hy ⟨sG, gl⟩
      obtain ⟨z, hz, rfl⟩ : ∃ z, R[i]? = some z ∧ y = V.int z := by
        rw [List.getElem?_map] at hy
        cases e : R[i]? with
        | none => rw [e] at hy; cases hy
        | some z => rw [e] at hy; exact ⟨z, rfl, (Option.some.inj hy).symm⟩
      refine ⟨rfl, .int z, rfl, .int x, rfl, rfl, _, rfl, ?_⟩
      have e1 : R.take (i + 1) = R.take i ++ [z] := by rw [List.take_add_one, hz]; rfl
      by_cases e : z = x
      · rw [show (!decide (V.int z = V.int x)) = false by rw [e, decide_eq_true rfl]; rfl]
        refine iteF ⟨sG, ?_⟩
        rw [gl, e1, List.filter_append, e]
        simp
      · rw [show (!decide (V.int z = V.int x)) = true by rw [decide_eq_false (fun q => e (V.int.inj q))]; rfl]
        refine iteT ⟨.int z, rfl, _, gl, ?_, fun b o e2 => by rw [upd_ne (ne_of_none e2 hua)]; exact sG b o e2, ?_⟩
        · rw [List.length_map]
          have := List.length_filter_le (fun y => decide (y ≠ x)) (R.take i)
          rw [List.length_take] at this
          exact small1000 (by omega)
        · rw [upd_same, e1, List.filter_append, List.map_append]
          simp [e]
    rintro G5 ⟨s5, gua⟩
    rw [List.length_map, List.take_length] at gua
    have gla5 := s5 _ _ gla
    have d5 := d4.same s5
    have uad := d4.ne hua
    have B5 := B3.trans ((Same.but s4).trans (Same.but s5))
    have hWl := List.length_filter_le (fun y => decide (y ≠ x)) W
    have hRl := List.length_filter_le (fun y => decide (y ≠ x)) R
    have hWm : ∀ y ∈ W.filter (fun y => y ≠ x), y ∈ W := fun y hy => (List.mem_filter.mp hy).1
    have hRm : ∀ y ∈ R.filter (fun y => y ≠ x), y ∈ R := fun y hy => (List.mem_filter.mp hy).1
    generalize W.filter (fun y => decide (y ≠ x)) = W2 at gla5 gla hWl hWm
    generalize R.filter (fun y => decide (y ≠ x)) = R2 at gua hRl hRm
    -- if loose and a draw is 0
    refine ⟨.bl true, rfl, true, rfl, iteT ?_⟩
    refine ⟨.ref d, rfl, d, 3, rfl, d5, by decide, fun v6 H6 v60 v63 b6 d6 => ⟨rfl, _, rfl, ite2 (fun c4 => ?_) (fun c4 => ?_)⟩⟩
    · have gla6 := b6 _ _ lad gla5
      have gua6 := b6 _ _ uad gua
      refine ⟨.ref ua, rfl, .int x, rfl, by show 1 ≤ sizeLine; decide, fun p hp => ?_⟩
      have s7 := Same.new (o := .lst [V.int x]) hp
      refine ⟨ua, p, _, _, rfl, rfl, s7 _ _ gua6, upd_same, by rw [List.length_map]; exact Nat.le_of_lt (small1000 (by show _ + 1 ≤ 1000; omega)), fun ua' hua' => ?_⟩
      have s8' := Same.new (o := .lst (R2.map V.int ++ [V.int x])) hua'
      have hl' := s8' _ _ (s7 _ _ gla6)
      have hu' : IL (upd (upd H6 p (.lst [V.int x])) ua' (.lst (R2.map V.int ++ [V.int x]))) ua' (R2 ++ [x]) := by show _ = _; rw [upd_same, List.map_append]; rfl
      have gd := (d6.same s7).same s8'
      have nu' := (d6.same s7).ne hua'
      have B : But d H (upd (upd H6 p (.lst [V.int x])) ua' (.lst (R2.map V.int ++ [V.int x]))) := (B5.trans b6).trans ((Same.but s7).trans (Same.but s8'))
      generalize upd (upd H6 p (.lst [V.int x])) ua' (.lst (R2.map V.int ++ [V.int x])) = G at hl' hu' gd B
      have nl' := lad
      have hsz' : W2.length + (R2 ++ [x]).length + m ≤ 20 := by rw [List.length_append, List.length_singleton]; omega
      have hVW' : ∀ y ∈ W2, y ∈ V4 := fun y hy => hVW y (hWm y hy)
      have hVR' : ∀ y ∈ R2 ++ [x], y ∈ V4 := fun y hy => (List.mem_append.mp hy).elim (fun z => hVR y (hRm y z)) fun z => by rw [List.mem_singleton.mp z]; exact hx4
      have hsub : ∀ y, (y ∈ W2 ∨ y ∈ R2 ++ [x]) → y ≠ x → y ∈ W ∨ y ∈ R := fun y hy ne => hy.elim (fun z => .inl (hWm y z)) fun z => (List.mem_append.mp z).elim (fun q => .inr (hRm y q)) fun q => absurd (List.mem_singleton.mp q) ne
      obtain ⟨la', ela⟩ : ∃ la' : Addr, la' = la := ⟨_, rfl⟩
      subst ela
      obtain ⟨W', eW⟩ : ∃ W' : List Int, W' = W2 := ⟨_, rfl⟩
      subst eW
      obtain ⟨R', eR⟩ : ∃ R' : List Int, R' = R2 ++ [x] := ⟨_, rfl⟩
      rw [← eR] at hu' hsz' hVR' hsub
      -- the binder: lists W' at la', R' at ua', in G
      refine ⟨by show 2 ≤ sizeLine; decide, fun l hl => ?_⟩
      have s8 := Same.new (o := .lst [.str "least", .str "most"]) hl
      have ld := gd.ne hl
      have l8 := upd_same (H := G) (a := l) (o := .lst [.str "least", .str "most"])
      refine ⟨.ref d, rfl, d, 2, rfl, gd.same s8, by decide, fun v8 H8 v80 v82 b8 d8 => ?_⟩
      obtain ⟨bb, hbb⟩ := two_at (x := V.str "least") (y := V.str "most") v80 v82
      refine ⟨l, _, _, _, rfl, rfl, SqL.of (b8 _ _ ld l8), hbb, .int x, rfl, ?_⟩
      refine ⟨.ref d, rfl, .int ((m + 1 : Nat) : Int), rfl, _, 1, rfl, rfl, .ref la', rfl, .ref ua', rfl, .bl true, rfl, d, la', ua', W', R', by rw [Int.natCast_add]; show [V.ref d, V.int ((m : Int) + 1 - 1), _, _, _] ++ [] = _; rw [Int.add_sub_cancel]; rfl, d8, b8 _ _ nl' (s8 _ _ hl'), b8 _ _ nu' (s8 _ _ hu'), nl', nu', hsz', hVW', hVR', fun v f H9 b9 d9 hf g => ?_⟩
      refine ⟨by show 3 ≤ sizeLine; decide, fun p hp => ?_⟩
      have BB := ((B.trans (Same.but s8)).trans b8).trans b9
      have fr' : ∀ y ∈ fv f, y ≠ x → y ∈ W ∨ y ∈ R := fun y hy ne => (g.fr y hy).elim (fun z => hsub y (.inl z) ne) fun z => hsub y (.inr z) ne
      cases bb with
      | true =>
        have s9 := Same.new (o := .tup [.str "least", .int x, v]) hp
        refine k _ (.one .least x f) _ (BB.trans (Same.but s9)) (d9.same s9) (.one (SqT.of upd_same) (hf.same s9)) ⟨by show f.depth + 1 ≤ _; have := g.dep; omega, ⟨(if_pos (show One.least.bind = true from rfl)).mpr hx4, g.ok⟩, fun y hy => ?_⟩
        have z := List.mem_filter.mp (show y ∈ (fv f).filter (fun y => y ≠ x) from hy)
        exact fr' y z.1 (by simpa using z.2)
      | false =>
        have s9 := Same.new (o := .tup [.str "most", .int x, v]) hp
        refine k _ (.one .most x f) _ (BB.trans (Same.but s9)) (d9.same s9) (.one (SqT.of upd_same) (hf.same s9)) ⟨by show f.depth + 1 ≤ _; have := g.dep; omega, ⟨(if_pos (show One.most.bind = true from rfl)).mpr hx4, g.ok⟩, fun y hy => ?_⟩
        have z := List.mem_filter.mp (show y ∈ (fv f).filter (fun y => y ≠ x) from hy)
        exact fr' y z.1 (by simpa using z.2)
    · have gla6 := b6 _ _ lad gla5
      have gua6 := b6 _ _ uad gua
      refine ⟨.ref la, rfl, .int x, rfl, by show 1 ≤ sizeLine; decide, fun p hp => ?_⟩
      have s7 := Same.new (o := .lst [V.int x]) hp
      refine ⟨la, p, _, _, rfl, rfl, s7 _ _ gla6, upd_same, by rw [List.length_map]; exact Nat.le_of_lt (small1000 (by show _ + 1 ≤ 1000; omega)), fun la' hla' => ?_⟩
      have s8' := Same.new (o := .lst (W2.map V.int ++ [V.int x])) hla'
      have hu' := s8' _ _ (s7 _ _ gua6)
      have hl' : IL (upd (upd H6 p (.lst [V.int x])) la' (.lst (W2.map V.int ++ [V.int x]))) la' (W2 ++ [x]) := by show _ = _; rw [upd_same, List.map_append]; rfl
      have gd := (d6.same s7).same s8'
      have nl' := (d6.same s7).ne hla'
      have B : But d H (upd (upd H6 p (.lst [V.int x])) la' (.lst (W2.map V.int ++ [V.int x]))) := (B5.trans b6).trans ((Same.but s7).trans (Same.but s8'))
      generalize upd (upd H6 p (.lst [V.int x])) la' (.lst (W2.map V.int ++ [V.int x])) = G at hl' hu' gd B
      have nu' := uad
      have hsz' : (W2 ++ [x]).length + R2.length + m ≤ 20 := by rw [List.length_append, List.length_singleton]; omega
      have hVR' : ∀ y ∈ R2, y ∈ V4 := fun y hy => hVR y (hRm y hy)
      have hVW' : ∀ y ∈ W2 ++ [x], y ∈ V4 := fun y hy => (List.mem_append.mp hy).elim (fun z => hVW y (hWm y z)) fun z => by rw [List.mem_singleton.mp z]; exact hx4
      have hsub : ∀ y, (y ∈ W2 ++ [x] ∨ y ∈ R2) → y ≠ x → y ∈ W ∨ y ∈ R := fun y hy ne => hy.elim (fun z => (List.mem_append.mp z).elim (fun q => .inl (hWm y q)) fun q => absurd (List.mem_singleton.mp q) ne) fun z => .inr (hRm y z)
      obtain ⟨ua', eua⟩ : ∃ ua' : Addr, ua' = ua := ⟨_, rfl⟩
      subst eua
      obtain ⟨R', eR⟩ : ∃ R' : List Int, R' = R2 := ⟨_, rfl⟩
      subst eR
      obtain ⟨W', eW⟩ : ∃ W' : List Int, W' = W2 ++ [x] := ⟨_, rfl⟩
      rw [← eW] at hl' hsz' hVW' hsub
      -- the binder: lists W' at la', R' at ua', in G
      refine ⟨by show 2 ≤ sizeLine; decide, fun l hl => ?_⟩
      have s8 := Same.new (o := .lst [.str "least", .str "most"]) hl
      have ld := gd.ne hl
      have l8 := upd_same (H := G) (a := l) (o := .lst [.str "least", .str "most"])
      refine ⟨.ref d, rfl, d, 2, rfl, gd.same s8, by decide, fun v8 H8 v80 v82 b8 d8 => ?_⟩
      obtain ⟨bb, hbb⟩ := two_at (x := V.str "least") (y := V.str "most") v80 v82
      refine ⟨l, _, _, _, rfl, rfl, SqL.of (b8 _ _ ld l8), hbb, .int x, rfl, ?_⟩
      refine ⟨.ref d, rfl, .int ((m + 1 : Nat) : Int), rfl, _, 1, rfl, rfl, .ref la', rfl, .ref ua', rfl, .bl true, rfl, d, la', ua', W', R', by rw [Int.natCast_add]; show [V.ref d, V.int ((m : Int) + 1 - 1), _, _, _] ++ [] = _; rw [Int.add_sub_cancel]; rfl, d8, b8 _ _ nl' (s8 _ _ hl'), b8 _ _ nu' (s8 _ _ hu'), nl', nu', hsz', hVW', hVR', fun v f H9 b9 d9 hf g => ?_⟩
      refine ⟨by show 3 ≤ sizeLine; decide, fun p hp => ?_⟩
      have BB := ((B.trans (Same.but s8)).trans b8).trans b9
      have fr' : ∀ y ∈ fv f, y ≠ x → y ∈ W ∨ y ∈ R := fun y hy ne => (g.fr y hy).elim (fun z => hsub y (.inl z) ne) fun z => hsub y (.inr z) ne
      cases bb with
      | true =>
        have s9 := Same.new (o := .tup [.str "least", .int x, v]) hp
        refine k _ (.one .least x f) _ (BB.trans (Same.but s9)) (d9.same s9) (.one (SqT.of upd_same) (hf.same s9)) ⟨by show f.depth + 1 ≤ _; have := g.dep; omega, ⟨(if_pos (show One.least.bind = true from rfl)).mpr hx4, g.ok⟩, fun y hy => ?_⟩
        have z := List.mem_filter.mp (show y ∈ (fv f).filter (fun y => y ≠ x) from hy)
        exact fr' y z.1 (by simpa using z.2)
      | false =>
        have s9 := Same.new (o := .tup [.str "most", .int x, v]) hp
        refine k _ (.one .most x f) _ (BB.trans (Same.but s9)) (d9.same s9) (.one (SqT.of upd_same) (hf.same s9)) ⟨by show f.depth + 1 ≤ _; have := g.dep; omega, ⟨(if_pos (show One.most.bind = true from rfl)).mpr hx4, g.ok⟩, fun y hy => ?_⟩
        have z := List.mem_filter.mp (show y ∈ (fv f).filter (fun y => y ≠ x) from hy)
        exact fr' y z.1 (by simpa using z.2)
end
end Fw

set_option maxRecDepth 100000
set_option maxHeartbeats 4000000
namespace Fw
open PySem PySem.Spec PyProof.Rows L2
theorem isB_hdJ (s : F) : isBH s.hd = isB s := by cases s <;> rfl
theorem nv_N : ∀ b : Bool, V.str (wN b) ≠ V.str "var"
  | true => by decide +kernel
  | false => by decide +kernel
theorem nv_T : ∀ b : Bool, V.str (wT b) ≠ V.str "var"
  | true => by decide +kernel
  | false => by decide +kernel
theorem nv_O : ∀ k : One, V.str (wO k) ≠ V.str "var"
  | .some => by decide +kernel
  | .all => by decide +kernel
  | .least => by decide +kernel
  | .most => by decide +kernel
theorem nv_has : V.str (wL .has) ≠ V.str "var" := by decide +kernel
theorem nv_lacks : V.str (wL .lacks) ≠ V.str "var" := by decide +kernel
theorem in_ints (x : Int) : ∀ bs : List Int, inV (.int x) (bs.map V.int) = decide (x ∈ bs)
  | [] => by simp [inV]
  | b :: bs => by
    have ih := in_ints x bs
    unfold inV at ih ⊢
    rw [List.map_cons, List.any_cons, ih]
    have e : eqV (V.int b) (V.int x) = decide (x = b) := by
      show _ = _
      by_cases c : x = b
      · subst c
        simp [eqV]
      · simp [eqV, c]
        exact fun q => c q.symm
    rw [e]
    simp
theorem flat_ints (bs : List Int) : (bs.map V.int).all flatV = true := by
  induction bs with
  | nil => rfl
  | cons b bs ih => simpa [flatV] using ih
def spClosed (K : PySem.W.Frag) (n : Nat) : Sp := fun vs H Q _ => ∃ (d : Addr), vs = [.ref d, .int (n : Nat)] ∧ Draws H d ∧ n ≤ 10 ∧ ∀ v t H', But d H H' → Draws H' d → IsF K H' v t → Gen n [] [] t → Q v H'
def spFr (K : PySem.W.Frag) : Nat → Sp
  | 0 => fun _ _ _ _ => False
  | n + 1 => fun vs H Q _ => ∃ (v : V) (t : F) (ba : Addr) (bs : List Int), vs = [v, .ref ba] ∧ IsF K H v t ∧ t.depth ≤ n + 1 ∧ t.size ≤ 1000 ∧ IL H ba bs ∧ bs.length + n ≤ 100 ∧ ∀ l H', Same H H' → IL H' l (freeL t bs) → Q (.ref l) H'
theorem free_len : ∀ (t : F) (b : List Int), (freeL t b).length ≤ t.size
  | .nul _, _ => Nat.zero_le _
  | .leaf .has _, _ => Nat.zero_le _
  | .leaf .lacks _, _ => Nat.zero_le _
  | .leaf .var x, b => by
    simp only [freeL, F.size]
    split <;> simp
  | .two _ f g, b => by
    have := free_len f b
    have := free_len g b
    simp only [freeL, F.size, List.length_append]
    omega
  | .one k x f, b => by
    have h1 := free_len f (b ++ [x])
    have h2 := free_len f b
    simp only [freeL, F.size]
    split <;> omega
/-- the kids' free variables, one behind the other -/
def freeK (bs : List Int) : List F → List Int
  | [] => []
  | f :: fs => freeL f bs ++ freeK bs fs
theorem freeK_snoc (bs : List Int) : ∀ (fs : List F) (f : F), freeK bs (fs ++ [f]) = freeK bs fs ++ freeL f bs
  | [], f => by simp [freeK]
  | g :: fs, f => by simp [freeK, freeK_snoc bs fs f]
theorem freeK_kids {t : F} {bs : List Int} (nv : ∀ x, t ≠ .leaf .var x) (nb : isB t = false) : freeK bs t.kids = freeL t bs := by
  cases t with
  | nul b => rfl
  | leaf k n =>
    cases k with
    | var => exact absurd rfl (nv n)
    | has => rfl
    | lacks => rfl
  | two b f g => simp [F.kids, freeK, freeL]
  | one k n f =>
    have hk : ¬ k.bind = true := by rw [show k.bind = false from nb]; exact Bool.false_ne_true
    simp only [F.kids, freeK, freeL, if_neg hk, List.append_nil]
theorem var_word {hd : Hd} (nv : ∀ x, hd ≠ .leaf .var x) : V.str (hw hd) ≠ V.str "var" := by
  cases hd with
  | nul b => exact nv_N b
  | two b => exact nv_T b
  | one k _ => exact nv_O k
  | leaf k x =>
    cases k with
    | var => exact absurd rfl (nv x)
    | has => exact nv_has
    | lacks => exact nv_lacks
theorem kid_small {t f : F} (h : f ∈ t.kids) : f.depth + 1 ≤ t.depth ∧ f.size + 1 ≤ t.size := by
  cases t with
  | nul b => cases h
  | leaf k n => cases h
  | two b x y =>
    simp only [F.kids, List.mem_cons, List.not_mem_nil, or_false] at h
    simp only [F.depth, F.size]
    rcases h with rfl | rfl <;> omega
  | one k n x =>
    simp only [F.kids, List.mem_cons, List.not_mem_nil, or_false] at h
    subst h
    simp [F.depth, F.size]
section
variable {P : Program} {w : World} {K : PySem.W.Frag} {mg : Str → Option Value} {base : Heap} {C J B NC FE : Addr}
theorem noneOk {f : Addr} {fd : FuncData} {k : Nat} {ps : List Str} : FnOk P w K mg base CX0 k f fd ps (fun _ _ _ _ => False) :=
  ⟨fun _ _ _ _ h => h.elim, fun _ _ _ _ _ _ _ _ _ _ _ _ _ h => h.elim⟩
theorem all_statement {f : Addr} {fd : FuncData} (FF : Fun K "_law_statement" "_law_statement" s_law_statement f fd) (b : Binds K fd a_law_statement []) (m : mg "_law_statement" = some (.ref f)) (T : Txt K mg C J B)
    (h_law_take : Has P w K mg base "_law_take" 1 a_law_take spTake) (h_law_atom : Has P w K mg base "_law_atom" 2 a_law_atom (spAtom K)) : ∀ n, Has P w K mg base "_law_statement" (n + 2) a_law_statement (spS K n)
  | 0 => ⟨f, fd, m, FF.kp, b, noneOk⟩
  | n + 1 => ⟨f, fd, m, FF.kp, b, ok_law_statement n FF T h_law_take h_law_atom (all_statement FF b m T h_law_take h_law_atom n)⟩
theorem ok_law_closed {f : Addr} {fd : FuncData} (n : Nat) (FF : Fun K "_law_closed" "_law_closed" s_law_closed f fd) (h_law_statement : Has P w K mg base "_law_statement" (n + 3) a_law_statement (spS K (n + 1))) : FnOk P w K mg base CX0 (n + 4) f fd a_law_closed (spClosed K n) := by
  refine FF.ok sc_law_closed (fun vs H Q E h => ?_) (fun cdv A outer s H vs Q E hr h => ?_)
  · obtain ⟨d, rfl, _⟩ := h
    rfl
  · obtain ⟨d, rfl, hd, hn, k⟩ := h
    refine ⟨_, (pss_one (ps_ret (pe_callH h_law_statement (hr.mono (by omega)) (pa_cons (pv 0) (pa_cons (pv 1) (pa_cons (pe_lst pa_nil) (pa_cons (pe_lst pa_nil) (pa_cons pe_bl pa_nil)))))))), ?_⟩
    refine ⟨.ref d, rfl, .int (n : Nat), rfl, Nat.zero_le _, fun wa hwa => ⟨Nat.zero_le _, fun ra hra => ?_⟩⟩
    have s1 := Same.new (o := .lst []) hwa
    have s2 := Same.new (o := .lst []) hra
    have d1 := hd.same s1
    exact ⟨d, wa, ra, [], [], rfl, d1.same s2, s2 _ _ upd_same, upd_same, hd.ne hwa, d1.ne hra, by simp; omega, by simp, by simp, fun v t H' b dd ht g => k v t H' (((Same.but s1).trans (Same.but s2)).trans b) dd ht g⟩
theorem ok_law_free {f : Addr} {fd : FuncData} (n : Nat) (FF : Fun K "_law_free" "_law_free" s_law_free f fd) (T : Txt K mg C J B) (h_law_inner : Has P w K mg base "_law_inner" 1 a_law_inner (spInner K))
    (h_law_free : Has P w K mg base "_law_free" (n + 1) a_law_free (spFr K n)) : FnOk P w K mg base CX0 (n + 2) f fd a_law_free (spFr K (n + 1)) := by
  refine FF.ok sc_law_free (fun vs H Q E h => ?_) (fun cdv A outer s H vs Q E hr h => ?_)
  · obtain ⟨v, t, ba, bs, rfl, _⟩ := h
    rfl
  · obtain ⟨v, t, ba, bs, rfl, ht, hdep, hsz, hB, hbl, k⟩ := h
    refine ⟨_, (pss_cons (ps_if (pt_cmpR op_eq (pe_ix ix_tup (pv 0) pe_int (fun _ _ => rfl)) pe_str (nomark _)) (pss_one (ps_ret (pe_ifExp (pt_cmpR op_notIn_seq (pe_ix ix_tup (pv 0) pe_int (fun _ _ => rfl)) (pv 1) (by rfl)) (pe_lst (pa_cons (pe_ix ix_tup (pv 0) pe_int (fun _ _ => rfl)) pa_nil)) (pe_lst pa_nil)))) pss_nil)
      (pss_cons (ps_if (pt_cmpR op_in_seq (pe_ix ix_tup (pv 0) pe_int (fun _ _ => rfl)) (pe_tup (pa_cons pe_str (pa_cons pe_str pa_nil))) (by rfl)) (pss_one (ps_ret (pe_callH h_law_free (hr.mono (by omega)) (pa_cons (pe_ix ix_tup (pv 0) pe_int (fun _ _ => rfl)) (pa_cons (pe_op op_cat (pv 1) (pe_lst (pa_cons (pe_ix ix_tup (pv 0) pe_int (fun _ _ => rfl)) pa_nil))) pa_nil))))) pss_nil)
      (pss_cons (ps_set (i := 2) sc_law_free.nd rfl (.inl rfl) (pe_lst pa_nil))
      (pss_cons (ps_for PassesOwn.never rfl (pi_list (pe_callH h_law_inner (hr.mono (by omega)) (pa_cons (pv 0) pa_nil))) (pg_name (i := 3) sc_law_free.nd rfl (.inl rfl)) (pss_one (ps_set (i := 2) sc_law_free.nd rfl (.inl rfl) (pe_op op_cat (pv 2) (pe_callH h_law_free (hr.mono (by omega)) (pa_cons (pv 3) (pa_cons (pv 1) pa_nil)))))))
      (pss_one (ps_ret (pv 2))))))), ?_⟩
    obtain ⟨a, ks, rfl, sq, ak⟩ := ht.open
    have at0 : atI (hv t.hd ++ ks) 0 = some (.str (hw t.hd)) := atI_nat (j := 0) (by rw [List.getElem?_append_left (by rcases hv_len t.hd with e | e <;> omega)]; exact hv_head _)
    refine ⟨.ref a, rfl, a, _, _, _, rfl, rfl, sq, at0, rfl, _, rfl, ?_⟩
    by_cases hvar : ∃ x, t = .leaf .var x
    · obtain ⟨x, rfl⟩ := hvar
      cases ak
      have at1 : atI (hv (F.leaf .var x).hd ++ []) 1 = some (.int x) := rfl
      refine (if_pos (decide_eq_true rfl)).mpr ?_
      refine ⟨.ref a, rfl, a, _, 1, .int x, rfl, rfl, sq, at1, .ref ba, rfl, ba, _, rfl, .inl (SqL.of hB), rfl, flat_ints bs, _, rfl, ?_⟩
      rw [if_pos rfl, in_ints]
      by_cases c : x ∈ bs
      · rw [decide_eq_true c]
        refine iteF ⟨Nat.zero_le _, fun p hp => ?_⟩
        refine k p _ (Same.new hp) ?_
        show _ = _
        rw [upd_same, freeL, if_pos c]
        rfl
      · rw [decide_eq_false c]
        refine iteT ⟨.ref a, rfl, a, _, 1, .int x, rfl, rfl, sq, at1, by show 1 ≤ sizeLine; decide, fun p hp => ?_⟩
        refine k p _ (Same.new hp) ?_
        show _ = _
        rw [upd_same, freeL, if_neg c]
        rfl
    · refine (if_neg (by rw [decide_eq_false (var_word (hd := t.hd) fun x e => hvar ⟨x, by cases t <;> cases e; rfl⟩)]; exact Bool.false_ne_true)).mpr ?_
      refine ⟨.ref a, rfl, a, _, _, _, rfl, rfl, sq, at0, by show 2 ≤ sizeLine; decide, fun p hp => ⟨p, _, rfl, .inr (SqT.of upd_same), rfl, rfl, _, rfl, ?_⟩⟩
      rw [if_neg Bool.false_ne_true, in_binders, isB_hdJ]
      have s1 := Same.new (o := .tup [.str "least", .str "most"]) hp
      generalize upd H p (.tup [.str "least", .str "most"]) = H1 at s1
      have sq1 := SqT.same s1 sq
      have ak1 := ak.lk (LKp.same s1)
      have hB1 := s1 _ _ hB
      cases hb : isB t with
      | true =>
        refine iteT ?_
        obtain ⟨kd, x, f, rfl⟩ : ∃ kd x f, t = .one kd x f := by
          cases t with
          | one kd x f => exact ⟨kd, x, f, rfl⟩
          | _ => cases hb
        have hk : kd.bind = true := hb
        cases ak1 with
        | cons hf hn =>
          rename_i vf _
          cases hn
          have fd := F.size_pos f
          obtain ⟨m, rfl⟩ : ∃ m, n = m + 1 := by
            cases n with
            | zero => exact absurd hdep (by have : 0 < f.depth := (by cases f <;> simp [F.depth]); simp only [F.depth]; omega)
            | succ m => exact ⟨m, rfl⟩
          have at1 : atI (hv (F.one kd x f).hd ++ [vf]) 1 = some (.int x) := rfl
          have at2 : atI (hv (F.one kd x f).hd ++ [vf]) 2 = some vf := rfl
          refine ⟨.ref a, rfl, a, _, 2, vf, rfl, rfl, sq1, at2, .ref ba, rfl, .ref a, rfl, a, _, 1, .int x, rfl, rfl, sq1, at1, by show 1 ≤ sizeLine; decide, fun q hq => ?_⟩
          have s2 := Same.new (o := .lst [V.int x]) hq
          refine ⟨ba, q, _, _, rfl, rfl, s2 _ _ hB1, upd_same, by rw [List.length_map]; exact Nat.le_of_lt (small1000 (by show _ + 1 ≤ 1000; omega)), fun r hr => ?_⟩
          have s3 := Same.new (o := .lst (bs.map V.int ++ [V.int x])) hr
          refine ⟨vf, f, r, bs ++ [x], rfl, (hf.same s2).same s3, ?_, ?_, ?_, ?_, fun l H' s4 hl => ?_⟩
          · simp only [F.depth] at hdep
            omega
          · simp only [F.size] at hsz
            omega
          · show _ = _
            rw [upd_same, List.map_append]
            rfl
          · rw [List.length_append, List.length_singleton]
            omega
          · refine k l H' (s1.trans (s2.trans (s3.trans s4))) ?_
            rw [show freeL (.one kd x f) bs = freeL f (bs ++ [x]) by simp only [freeL, if_pos hk]]
            exact hl
      | false =>
        refine iteF ?_
        have hfk := freeK_kids (t := t) (bs := bs) (fun x e => hvar ⟨x, e⟩) hb
        refine ⟨Nat.zero_le _, fun fo hfo => ?_⟩
        have s2 := Same.new (o := .lst []) hfo
        refine ⟨.ref a, rfl, .ref a, t, rfl, (ht.same s1).same s2, fun l ks' H3 s3 hl ak3 => ⟨l, rfl, ⟨_, SqL.of hl⟩, ?_⟩⟩
        have s123 := s1.trans (s2.trans s3)
        have lk3 := ak3.len
        refine for_list (xs := ks') (fun i σ G => ∃ (fo' : Addr) (y3 : Option V), σ = [some (.ref a), some (.ref ba), some (.ref fo'), y3] ∧ Same H3 G ∧ IL G fo' (freeK bs (t.kids.take i)))
          ⟨fo, none, rfl, Same.refl _, s3 _ _ (by rw [upd_same]; rfl)⟩ (fun i σ G _ ⟨_, _, _, sG, _⟩ => SqL.of (sG _ _ hl)) ?_ ?_
        · rintro i x σ G hx ⟨fo', y3, rfl, sG, gf⟩
          have il := (List.getElem?_eq_some_iff.mp hx).1
          obtain ⟨f, hf⟩ : ∃ f, t.kids[i]? = some f := ⟨t.kids[i]'(by omega), by simp⟩
          have fm := kid_small (List.mem_of_getElem? hf)
          obtain ⟨m, rfl⟩ : ∃ m, n = m + 1 := by
            cases n with
            | zero => exact absurd hdep (by have : 0 < f.depth := (by cases f <;> simp [F.depth]); omega)
            | succ m => exact ⟨m, rfl⟩
          have isf := (ak3.get hx hf).same sG
          have fkl : (freeK bs (t.kids.take i)).length + (freeL f bs).length ≤ t.size + t.size := by
            have h1 : ∀ fs : List F, (freeK bs fs).length ≤ (fs.map F.size).sum := by
              intro fs
              induction fs with
              | nil => exact Nat.le_refl _
              | cons g fs ih =>
                have := free_len g bs
                simp only [freeK, List.length_append, List.map_cons, List.sum_cons]
                omega
            have h2 : ((t.kids.take i).map F.size).sum ≤ t.size := by
              cases t with
              | nul b => simp [F.kids]
              | leaf k n => simp [F.kids]
              | two b f g =>
                match i with
                | 0 => simp [F.kids]
                | 1 => simp only [F.kids, F.size, List.take_succ_cons, List.take_zero, List.map_cons, List.map_nil, List.sum_cons, List.sum_nil]; omega
                | i + 2 => simp only [F.kids, F.size, List.take_succ_cons, List.take_nil, List.map_cons, List.map_nil, List.sum_cons, List.sum_nil]; omega
              | one k n f =>
                match i with
                | 0 => simp [F.kids]
                | i + 1 => simp [F.kids, F.size]
            have := h1 (t.kids.take i)
            have := free_len f bs
            omega
          refine ⟨.ref fo', rfl, x, rfl, .ref ba, rfl, x, f, ba, bs, rfl, isf, by omega, by omega, sG _ _ (s3 _ _ (s2 _ _ hB1)), by omega, fun l2 H5 s5 hl2 => ?_⟩
          refine ⟨fo', l2, _, _, rfl, rfl, s5 _ _ gf, hl2, ?_, fun q hq => ?_⟩
          · rw [List.length_map, List.length_map]
            exact Nat.le_of_lt (Nat.lt_of_le_of_lt (show _ ≤ 2000 by omega) (by decide))
          · refine ⟨q, _, rfl, sG.trans (s5.trans (Same.new hq)), ?_⟩
            show _ = _
            rw [upd_same, List.take_add_one, hf, Option.toList_some, freeK_snoc, List.map_append]
        · rintro σ G ⟨fo', y3, rfl, sG, gf⟩
          refine ⟨_, rfl, k fo' G (s123.trans sG) ?_⟩
          rw [← hfk, show t.kids = t.kids.take ks'.length by rw [List.take_of_length_le (by omega)]]
          exact gf
end
end Fw

set_option maxRecDepth 100000
set_option maxHeartbeats 4000000
namespace Fw
open PySem PySem.Spec PyProof.Rows L2
/-! ### statements as data -/
def dV : V → PyData
  | .str z => .str z
  | .int i => .int i
  | _ => .none
def dF : F → PyData
  | .nul b => .tuple ((hv (.nul b)).map dV)
  | .leaf k n => .tuple ((hv (.leaf k n)).map dV)
  | .two b f g => .tuple ((hv (.two b)).map dV ++ [dF f, dF g])
  | .one k n f => .tuple ((hv (.one k n)).map dV ++ [dF f])
theorem dp_F {K : PySem.W.Frag} {H : Hp} {v : V} {t : F} (h : IsF K H v t) : Dp K H v (dF t) := by
  induction h with
  | nul h => exact .tup h (.cons (.str _) .nil)
  | leaf h => exact .tup h (.cons (.str _) (.cons (.int _) .nil))
  | two h _ _ f g => exact .tup h (.cons (.str _) (.cons f (.cons g .nil)))
  | one h _ f => exact .tup h (.cons (.str _) (.cons (.int _) (.cons f .nil)))
theorem ok_hw (h : Hd) : PyData.strOk (hw h) = true := by
  cases h with
  | nul b => cases b <;> decide +kernel
  | leaf k n =>
    show PyData.strOk (wL k) = true
    cases k <;> decide +kernel
  | two b => cases b <;> decide +kernel
  | one k n =>
    show PyData.strOk (wO k) = true
    cases k <;> decide +kernel
theorem dF_lay : ∀ t : F, (dF t).canLay0 = true
  | .nul b => by
    have := ok_hw (.nul b)
    simp only [hw] at this
    simp [dF, hv, dV, PyData.canLay0, PyData.canLayAll0, this]
  | .leaf k n => by
    have := ok_hw (.leaf k n)
    simp only [hw] at this
    simp [dF, hv, dV, PyData.canLay0, PyData.canLayAll0, this]
  | .two b f g => by
    have := ok_hw (.two b)
    simp only [hw] at this
    simp [dF, hv, dV, PyData.canLay0, PyData.canLayAll0, this, dF_lay f, dF_lay g]
  | .one k n f => by
    have := ok_hw (.one k n)
    simp only [hw] at this
    simp [dF, hv, dV, PyData.canLay0, PyData.canLayAll0, this, dF_lay f]
theorem dF_depth : ∀ t : F, (dF t).depth ≤ t.depth
  | .nul b => by simp [dF, hv, dV, PyData.depth, PyData.depthAll, F.depth]
  | .leaf k n => by simp [dF, hv, dV, PyData.depth, PyData.depthAll, F.depth]
  | .two b f g => by
    have := dF_depth f
    have := dF_depth g
    simp [dF, hv, dV, PyData.depth, PyData.depthAll, F.depth]
    omega
  | .one k n f => by
    have := dF_depth f
    simp [dF, hv, dV, PyData.depth, PyData.depthAll, F.depth]
    omega
theorem dF_shaped {t : F} (h : t.depth ≤ 64) : SeqAt.shaped (dF t) = true := by
  unfold SeqAt.shaped
  rw [dF_lay, decide_eq_true (Nat.le_trans (dF_depth t) h)]
  rfl
theorem dF_same (t : F) : PyData.eqv (dF t) (dF t) = true := SeqAt.eqv_refl _ (dF_lay t)
theorem dp_ints {K : PySem.W.Frag} {H : Hp} : ∀ ns : List Int, DpAll K H (ns.map V.int) (ns.map PyData.int)
  | [] => .nil
  | n :: ns => .cons (.int n) (dp_ints ns)
theorem ints_lay : ∀ ns : List Int, PyData.canLayAll0 (ns.map PyData.int) = true
  | [] => by simp [PyData.canLayAll0]
  | n :: ns => by simp [PyData.canLayAll0, PyData.canLay0, ints_lay ns]
theorem ints_depth : ∀ ns : List Int, PyData.depthAll (ns.map PyData.int) = 0
  | [] => by simp [PyData.depthAll]
  | n :: ns => by simp [PyData.depthAll, PyData.depth, ints_depth ns]
theorem ints_shaped (ns : List Int) : SeqAt.shaped (.list (ns.map PyData.int)) = true := by
  unfold SeqAt.shaped
  simp [PyData.canLay0, PyData.depth, ints_lay, ints_depth]
theorem ints_same (ns : List Int) : PyData.eqv (.list (ns.map PyData.int)) (.list (ns.map PyData.int)) = true := SeqAt.eqv_refl _ (by simp [PyData.canLay0, ints_lay])
/-- two rising lists of the same members are one -/
theorem rising_one : ∀ {a b : List Int}, a.Pairwise (· < ·) → b.Pairwise (· < ·) → (∀ x, x ∈ a ↔ x ∈ b) → a = b
  | [], [], _, _, _ => rfl
  | [], y :: b, _, _, h => by have := (h y).mpr List.mem_cons_self; cases this
  | x :: a, [], _, _, h => by have := (h x).mp List.mem_cons_self; cases this
  | x :: a, y :: b, ha, hb, h => by
    have ha' := List.pairwise_cons.mp ha
    have hb' := List.pairwise_cons.mp hb
    have e : x = y := by
      rcases List.mem_cons.mp ((h x).mp List.mem_cons_self) with q | q
      · exact q
      · rcases List.mem_cons.mp ((h y).mpr List.mem_cons_self) with r | r
        · exact r.symm
        · have := ha'.1 y r
          have := hb'.1 x q
          omega
    subst e
    congr 1
    refine rising_one ha'.2 hb'.2 fun z => ?_
    constructor
    · intro hz
      rcases List.mem_cons.mp ((h z).mp (List.mem_cons_of_mem _ hz)) with q | q
      · have := ha'.1 z hz
        omega
      · exact q
    · intro hz
      rcases List.mem_cons.mp ((h z).mpr (List.mem_cons_of_mem _ hz)) with q | q
      · have := hb'.1 z hz
        omega
      · exact q
def isOneH : Hd → Bool
  | .one _ _ => true
  | _ => false
theorem in_four (h : Hd) : inV (.str (hw h)) [.str "least", .str "most", .str "some", .str "all"] = isOneH h := by
  cases h with
  | nul b => cases b <;> rfl
  | leaf k n => cases k <;> rfl
  | two b => cases b <;> rfl
  | one k n => cases k <;> rfl
section
variable {P : Program} {w : World} {K : PySem.W.Frag} {mg : Str → Option Value} {base : Heap} {C J B NC FE : Addr}
theorem all_free {f : Addr} {fd : FuncData} (FF : Fun K "_law_free" "_law_free" s_law_free f fd) (b : Binds K fd a_law_free []) (m : mg "_law_free" = some (.ref f)) (T : Txt K mg C J B)
    (h_law_inner : Has P w K mg base "_law_inner" 1 a_law_inner (spInner K)) : ∀ n, Has P w K mg base "_law_free" (n + 1) a_law_free (spFr K n)
  | 0 => ⟨f, fd, m, FF.kp, b, noneOk⟩
  | n + 1 => ⟨f, fd, m, FF.kp, b, ok_law_free n FF T h_law_inner (all_free FF b m T h_law_inner n)⟩
end
end Fw

set_option maxRecDepth 100000
set_option maxHeartbeats 4000000
namespace Fw
open PySem PySem.Spec PyProof.Rows L2
abbrev rLenS (K : PySem.W.Frag) : List V → Hp → VK → Prop := fun xs H Q => ∃ p ys, xs = [.ref p] ∧ (SqL K H p ys ∨ SqT K H p ys) ∧ Q (.int ys.length) H
section
variable {P : Program} {w : World} {K : PySem.W.Frag} {mg : Str → Option Value} {base : Heap} {C J B NC FE OD : Addr}
def spIsInt : Sp := fun vs H Q _ => ∃ n : Int, vs = [.int n] ∧ Q (.bl true) H
def spSz (K : PySem.W.Frag) : Nat → Sp
  | 0 => fun _ _ _ _ => False
  | n + 1 => fun vs H Q _ => ∃ (v : V) (t : F), vs = [v] ∧ IsF K H v t ∧ t.depth ≤ n + 1 ∧ ∀ H', Same H H' → Q (.int (t.size : Nat)) H'
theorem kids_size (t : F) : (t.kids.map F.size).sum + 1 = t.size := by cases t <;> simp [F.kids, F.size]
theorem sum_cast : ∀ l : List Nat, (l.map fun (n : Nat) => (n : Int)).sum = (l.sum : Nat)
  | [] => rfl
  | a :: l => by simp [sum_cast l]
/-! ### is it a statement -/
def NN : F → Prop
  | .nul _ => True
  | .leaf _ n => 0 ≤ n
  | .two _ f g => NN f ∧ NN g
  | .one _ n f => 0 ≤ n ∧ NN f
theorem NN.kid {t f : F} (h : NN t) (hf : f ∈ t.kids) : NN f := by
  cases t with
  | nul b => cases hf
  | leaf k n => cases hf
  | two b x y =>
    simp only [F.kids, List.mem_cons, List.not_mem_nil, or_false] at hf
    rcases hf with rfl | rfl
    · exact h.1
    · exact h.2
  | one k n x =>
    simp only [F.kids, List.mem_cons, List.not_mem_nil, or_false] at hf
    subst hf
    exact h.2
def arity : Hd → Int
  | .nul _ => 1
  | .leaf _ _ => 2
  | .two _ => 3
  | .one _ _ => 3
def isNum : Hd → Bool
  | .leaf _ _ => true
  | .one _ _ => true
  | _ => false
theorem in_seven (h : Hd) : inV (.str (hw h)) [.str "has", .str "lacks", .str "var", .str "some", .str "all", .str "least", .str "most"] = isNum h := by
  cases h with
  | nul b => cases b <;> rfl
  | leaf k n => cases k <;> rfl
  | two b => cases b <;> rfl
  | one k n => cases k <;> rfl
abbrev sizesK : List (Key × V) := mergeK [] [(Sum.inr "true", V.int 1), (Sum.inr "false", V.int 1), (Sum.inr "has", V.int 2), (Sum.inr "lacks", V.int 2), (Sum.inr "var", V.int 2), (Sum.inr "and", V.int 3), (Sum.inr "or", V.int 3), (Sum.inr "some", V.int 3), (Sum.inr "all", V.int 3), (Sum.inr "least", V.int 3), (Sum.inr "most", V.int 3)]
theorem sizes_at (h : Hd) : valV sizesK (Sum.inr (hw h)) = some (.int (arity h)) := by
  cases h with
  | nul b => cases b <;> rfl
  | leaf k n => cases k <;> rfl
  | two b => cases b <;> rfl
  | one k n => cases k <;> rfl
def spIs (K : PySem.W.Frag) : Nat → Sp
  | 0 => fun _ _ _ _ => False
  | n + 1 => fun vs H Q _ => ∃ (v : V) (t : F) (d : Int), vs = [v, .int d] ∧ IsF K H v t ∧ t.depth ≤ n + 1 ∧ (t.depth : Int) ≤ d ∧ NN t ∧ ∀ H', Same H H' → Q (.bl true) H'
end
end Fw

set_option maxRecDepth 100000
set_option maxHeartbeats 4000000
namespace Fw
open PySem PySem.Spec PyProof.Rows L2
def FAt (H : Hp) (as : List Addr) (Xs : List (List Int)) : Prop := as.length = Xs.length ∧ ∀ (i : Nat) (a : Addr) (X : List Int), as[i]? = some a → Xs[i]? = some X → IL H a X
def PAt (H : Hp) (as : List Addr) (ps : List (Int × Int × Int)) : Prop := as.length = ps.length ∧ ∀ (i : Nat) (a : Addr) (p : Int × Int × Int), as[i]? = some a → ps[i]? = some p → H a = some (.tup [.int p.1, .int p.2.1, .int p.2.2])
structure WAx (H : Hp) (wa sa pa : Addr) (fas pas : List Addr) (W : Wd) : Prop where
  w : H wa = some (.tup [.ref sa, .ref pa])
  s : H sa = some (.lst (fas.map V.ref))
  p : H pa = some (.lst (pas.map V.ref))
  f : FAt H fas W.facts
  t : PAt H pas W.steps
def WAt (H : Hp) (v : V) (W : Wd) : Prop := ∃ (wa sa pa : Addr) (fas pas : List Addr), v = .ref wa ∧ WAx H wa sa pa fas pas W
theorem WAx.same {H H' : Hp} {wa sa pa : Addr} {fas pas : List Addr} {W : Wd} (z : Same H H') (h : WAx H wa sa pa fas pas W) : WAx H' wa sa pa fas pas W :=
  ⟨z _ _ h.w, z _ _ h.s, z _ _ h.p, ⟨h.f.1, fun i a X e1 e2 => z _ _ (h.f.2 i a X e1 e2)⟩, ⟨h.t.1, fun i a X e1 e2 => z _ _ (h.t.2 i a X e1 e2)⟩⟩
theorem WAt.same {H H' : Hp} {v : V} {W : Wd} (z : Same H H') (h : WAt H v W) : WAt H' v W := by
  obtain ⟨wa, sa, pa, fas, pas, e, x⟩ := h
  exact ⟨wa, sa, pa, fas, pas, e, x.same z⟩
/-- the world's size fits -/
structure Wd.Fit (W : Wd) : Prop where
  good : W.Good
  one : 1 ≤ W.n
  n8 : W.n ≤ 8
  st : W.steps.length ≤ 200
  fc : ∀ X ∈ W.facts, X.length ≤ 8
theorem FAt.nil (H : Hp) : FAt H [] [] := ⟨rfl, fun i a X e _ => by cases e⟩
theorem PAt.nil (H : Hp) : PAt H [] [] := ⟨rfl, fun i a X e _ => by cases e⟩
theorem FAt.map {H H' : Hp} {as : List Addr} {Xs : List (List Int)} (h : FAt H as Xs) (z : ∀ a o, a ∈ as → H a = some o → H' a = some o) : FAt H' as Xs :=
  ⟨h.1, fun i a X e1 e2 => z _ _ (List.mem_of_getElem? e1) (h.2 i a X e1 e2)⟩
theorem PAt.map {H H' : Hp} {as : List Addr} {Xs : List (Int × Int × Int)} (h : PAt H as Xs) (z : ∀ a o, a ∈ as → H a = some o → H' a = some o) : PAt H' as Xs :=
  ⟨h.1, fun i a X e1 e2 => z _ _ (List.mem_of_getElem? e1) (h.2 i a X e1 e2)⟩
theorem get_snoc {α : Type} {l : List α} {x : α} {i : Nat} {y : α} (h : (l ++ [x])[i]? = some y) : l[i]? = some y ∨ (i = l.length ∧ x = y) := by
  by_cases lt : i < l.length
  · rw [List.getElem?_append_left lt] at h
    exact .inl h
  · have e : i = l.length := by
      have := (List.getElem?_eq_some_iff.mp h).1
      rw [List.length_append, List.length_singleton] at this
      omega
    subst e
    rw [List.getElem?_append_right (Nat.le_refl _), Nat.sub_self] at h
    exact .inr ⟨rfl, Option.some.inj h⟩
theorem get_len {α : Type} {l : List α} {i : Nat} {y : α} (h : l[i]? = some y) : i < l.length := (List.getElem?_eq_some_iff.mp h).1
theorem FAt.snoc {H : Hp} {as : List Addr} {Xs : List (List Int)} {a : Addr} {X : List Int} (h : FAt H as Xs) (z : IL H a X) : FAt H (as ++ [a]) (Xs ++ [X]) :=
  ⟨by rw [List.length_append, List.length_append, h.1]; rfl, fun i b Y e1 e2 => by
    rcases get_snoc e1 with e1' | ⟨q, rfl⟩
    · rcases get_snoc e2 with e2' | ⟨q, rfl⟩
      · exact h.2 i b Y e1' e2'
      · have := get_len e1'; rw [h.1] at this; omega
    · rcases get_snoc e2 with e2' | ⟨q2, rfl⟩
      · have := get_len e2'; rw [← h.1] at this; omega
      · exact z⟩
theorem PAt.snoc {H : Hp} {as : List Addr} {Xs : List (Int × Int × Int)} {a : Addr} {p : Int × Int × Int} (h : PAt H as Xs) (z : H a = some (.tup [.int p.1, .int p.2.1, .int p.2.2])) : PAt H (as ++ [a]) (Xs ++ [p]) :=
  ⟨by rw [List.length_append, List.length_append, h.1]; rfl, fun i b Y e1 e2 => by
    rcases get_snoc e1 with e1' | ⟨q, rfl⟩
    · rcases get_snoc e2 with e2' | ⟨q, rfl⟩
      · exact h.2 i b Y e1' e2'
      · have := get_len e1'; rw [h.1] at this; omega
    · rcases get_snoc e2 with e2' | ⟨q2, rfl⟩
      · have := get_len e2'; rw [← h.1] at this; omega
      · exact z⟩
section
variable {P : Program} {w : World} {K : PySem.W.Frag} {mg : Str → Option Value} {base : Heap} {C J B NC FE OD : Addr}
def spWorld : Sp := fun vs H Q _ => ∃ (d : Addr) (mo fc : Int), vs = [.ref d, .int mo, .int fc] ∧ Draws H d ∧ 1 ≤ mo ∧ mo ≤ 8 ∧ 0 ≤ fc ∧ fc ≤ 8 ∧
  ∀ v W H', But d H H' → Draws H' d → WAt H' v W → W.Fit → Q v H'
theorem ok_law_world {f : Addr} {fd : FuncData} (FF : Fun K "_law_world" "_law_world" s_law_world f fd) (T : Txt K mg C J B) (h_law_take : Has P w K mg base "_law_take" 1 a_law_take spTake) : FnOk P w K mg base CX0 2 f fd a_law_world spWorld := by
  refine FF.ok sc_law_world (fun vs H Q E h => ?_) (fun cdv A outer s H vs Q E hr h => ?_)
  · obtain ⟨d, mo, fc, rfl, _⟩ := h
    rfl
  · obtain ⟨d, mo, fc, rfl, hd, m1, m8, f0, f8, k⟩ := h
    refine ⟨_, (pss_cons (ps_set (i := 3) sc_law_world.nd rfl (.inl rfl) (pe_op op_add pe_int (pe_callH h_law_take (hr.mono (by omega)) (pa_cons (pv 0) (pa_cons (pv 1) pa_nil)))))
      (pss_cons (ps_setLc (i := 5) (own := [("state", 4)]) (g := gName 4) rfl sc_law_world.nd rfl rfl (sw_true rfl rfl rfl (by decide +kernel)) (pi_range1 rfl T.z_range (pa_cons (pv 3) pa_nil)) (blkOk_by (own := [("state", 4)]) (N := n_law_world) (sc := defScope s_law_world) (by decide +kernel)) (fun _ _ _ _ _ => (pg_name (i := 4) sc_law_world.nd rfl (.inl rfl))) (fun _ _ _ _ _ => pts_nil) (fun _ _ _ _ _ => (pe_lc (own := [("fact", 9)]) (g := gName 9) rfl sc_law_world.nd (pi_range1 rfl T.z_range (pa_cons (pv 2) pa_nil)) (blkOk_by (own := [("fact", 9)]) (N := n_law_world) (sc := { kind := PySem.ScopeKind.function, names := [ (PySem.Str.ofString ".0", PySem.NameKind.local), (PySem.Str.ofString "state", PySem.NameKind.local), (PySem.Str.ofString "range", PySem.NameKind.globalImplicit), (PySem.Str.ofString "draws", PySem.NameKind.cell), (PySem.Str.ofString "facts", PySem.NameKind.cell)], isGenerator := false, isCoroutine := false, more := [] : PySem.Scope }) (by decide +kernel)) (fun _ _ _ _ _ => (pg_name (i := 9) sc_law_world.nd rfl (.inl rfl))) (fun _ _ _ _ _ => (pts_one (pt_cmpR op_eq (pe_callH h_law_take (hr.mono (by omega)) (pa_cons (pv 0) (pa_cons pe_int pa_nil))) pe_int (nomark _)))) (fun _ _ _ _ _ => (pv 9)))))
      (pss_cons (ps_set (i := 6) sc_law_world.nd rfl (.inl rfl) (pe_lst pa_nil))
      (pss_cons (ps_for PassesOwn.never rfl (pi_range1 rfl T.z_range (pa_cons (pv 3) pa_nil)) (pg_name (i := 4) sc_law_world.nd rfl (.inl rfl)) (pss_one (ps_for PassesOwn.never rfl (pi_range1 rfl T.z_range (pa_cons pe_int pa_nil)) (pg_name (i := 7) sc_law_world.nd rfl (.inl rfl)) (pss_one (ps_for PassesOwn.never rfl (pi_range1 rfl T.z_range (pa_cons (pv 3) pa_nil)) (pg_name (i := 8) sc_law_world.nd rfl (.inl rfl)) (pss_one (ps_if (pt_cmpR op_lt (pe_callH h_law_take (hr.mono (by omega)) (pa_cons (pv 0) (pa_cons (pe_op op_add pe_int (pv 3)) pa_nil))) pe_int (nomark _)) (pss_one (ps_expr (pe_bm PySem.F.plainAttrs_list PySem.F.slot_list_append PySem.F.type_list_append mt_append (pv 6) (pa_cons (pe_tup (pa_cons (pv 4) (pa_cons (pv 7) (pa_cons (pv 8) pa_nil)))) pa_nil)))) pss_nil)))))))
      (pss_one (ps_ret (pe_tup (pa_cons (pv 5) (pa_cons (pv 6) pa_nil))))))))), ?_⟩
    refine ⟨.ref d, rfl, .int mo, rfl, d, mo, rfl, hd, by omega, fun v1 H1 v10 v1m b1 d1 => ⟨1, v1, rfl, rfl, ?_⟩⟩
    obtain ⟨n, hn⟩ : ∃ n : Nat, 1 + v1 = (n : Int) := ⟨(1 + v1).toNat, by omega⟩
    show gName 3 (V.int (1 + v1)) _ _ _
    rw [hn]
    have n1 : 1 ≤ n := by omega
    have n8 : n ≤ 8 := by omega
    refine ⟨.int (n : Nat), rfl, (n : Nat), rfl, by omega, by omega, fun D hD => ?_⟩
    have dD : D ≠ d := d1.ne hD
    refine lc_range (lo := 0) (n := ((n : Int)).toNat) (fun i G => But d H1 G ∧ Draws G d ∧ ∃ (fas : List Addr) (Xs : List (List Int)), G D = some (.lst (fas.map V.ref)) ∧ fas.length = i ∧ FAt G fas Xs ∧ (∀ a ∈ fas, a ≠ d ∧ a ≠ D) ∧ ∀ X ∈ Xs, X.length ≤ 8)
      ⟨Same.but (Same.new hD), d1.same (Same.new hD), [], [], upd_same, rfl, FAt.nil _, fun a h => (by cases h), fun X h => (by cases h)⟩ ?_ ?_
    · rintro i G hi ⟨bG, dG, fas, Xs, gD, li, fa, ne, x8⟩
      rw [Int.toNat_natCast] at hi
      refine ⟨rfl, ?_⟩
      refine ⟨.int fc, rfl, fc, rfl, by omega, by omega, fun D2 hD2 => ?_⟩
      have dD2 : D2 ≠ d := dG.ne hD2
      have dDD : D2 ≠ D := fun e => by rw [e, gD] at hD2; cases hD2
      refine lc_range (lo := 0) (n := fc.toNat) (fun j G2 => But d G G2 ∧ Draws G2 d ∧ ∃ X : List Int, IL G2 D2 X ∧ X.length ≤ j)
        ⟨Same.but (Same.new hD2), dG.same (Same.new hD2), [], upd_same, Nat.le_refl 0⟩ ?_ ?_
      · rintro j G2 hj ⟨bG2, dG2, X, gD2, lX⟩
        refine ⟨rfl, ?_⟩
        refine ⟨.ref d, rfl, d, 2, rfl, dG2, by decide, fun v2 H2 v20 v22 b2 d2 => ⟨rfl, _, rfl, ?_⟩⟩
        have gD2' := b2 _ _ dD2 gD2
        refine ite2 (fun c => ?_) (fun c => ?_)
        · refine ⟨_, rfl, _, gD2', by rw [List.length_map]; exact small1000 (by omega), fun b o nb e => ?_, ?_, X ++ [0 + (j : Int)], ?_, by rw [List.length_append]; exact Nat.succ_le_succ lX⟩
          · rw [upd_ne (ne_of_none e hD2)]
            exact b2 _ _ nb (bG2 _ _ nb e)
          · obtain ⟨ds, e⟩ := d2
            exact ⟨ds, by rw [upd_ne dD2.symm]; exact e⟩
          · show _ = _
            rw [upd_same, List.map_append]
            rfl
        · exact ⟨bG2.trans b2, d2, X, gD2', Nat.le_succ_of_le lX⟩
      · rintro G2 ⟨bG2, dG2, X, gD2, lX⟩
        have gD' := bG2 _ _ dD gD
        refine ⟨_, gD', by rw [List.length_map]; exact small1000 (by omega), fun b o nb e => ?_, ?_, fas ++ [D2], Xs ++ [X], by rw [upd_same, List.map_append]; rfl, by rw [List.length_append, li]; rfl, FAt.snoc (fa.map fun a o ha e => ?_) ?_, fun a ha => ?_, fun Y hY => ?_⟩
        · rw [upd_ne (ne_of_none e hD)]
          exact bG2 _ _ nb (bG _ _ nb e)
        · obtain ⟨ds, e⟩ := dG2
          exact ⟨ds, by rw [upd_ne dD.symm]; exact e⟩
        · rw [upd_ne (ne a ha).2]
          exact bG2 _ _ (ne a ha).1 e
        · show _ = _
          rw [upd_ne dDD]
          exact gD2
        · rcases List.mem_append.mp ha with ha | ha
          · exact ne a ha
          · rw [List.mem_singleton.mp ha]
            exact ⟨dD2, dDD⟩
        · rcases List.mem_append.mp hY with hY | hY
          · exact x8 Y hY
          · rw [List.mem_singleton.mp hY]
            omega
    · rintro G0 ⟨bG0, dG0, fas, Xs, gD, li, fa, ne, x8⟩
      rw [Int.toNat_natCast] at li
      refine ⟨Nat.zero_le _, fun L hL => ?_⟩
      have s2 := Same.new (o := .lst []) hL
      have dL : L ≠ d := dG0.ne hL
      have bH := bG0.trans (Same.but s2)
      refine ⟨.int (n : Nat), rfl, (n : Nat), rfl, by omega, by omega, ?_⟩
      refine for_range (lo := 0) (n := ((n : Int)).toNat) (fun i σ G => ∃ (y4 y7 y8 y9 : Option V) (pas : List Addr) (ps : List (Int × Int × Int)), σ = [some (.ref d), some (.int mo), some (.int fc), some (.int (n : Nat)), y4, some (.ref D), some (.ref L), y7, y8, y9] ∧
          But d G0 G ∧ Draws G d ∧ G L = some (.lst (pas.map V.ref)) ∧ PAt G pas ps ∧ (∀ a ∈ pas, a ≠ d ∧ a ≠ L) ∧ ps.length ≤ i * 16 ∧ ∀ p ∈ ps, 0 ≤ p.2.2 ∧ p.2.2 < (n : Int))
        ⟨_, _, _, _, [], [], rfl, Same.but s2, dG0.same s2, upd_same, PAt.nil _, fun a h => (by cases h), Nat.zero_le _, fun p h => (by cases h)⟩ ?_ ?_
      · rintro i σ G hi ⟨y4, y7, y8, y9, pas, ps, rfl, bG, dG, gL, pAt, ne2, pl, pg⟩
        rw [Int.toNat_natCast] at hi
        refine ⟨2, rfl, by omega, by omega, ?_⟩
        refine for_range (lo := 0) (n := 2) (fun j σ G => ∃ (y7 y8 y9 : Option V) (pas : List Addr) (ps : List (Int × Int × Int)), σ = [some (.ref d), some (.int mo), some (.int fc), some (.int (n : Nat)), some (.int (0 + (i : Int))), some (.ref D), some (.ref L), y7, y8, y9] ∧
            But d G0 G ∧ Draws G d ∧ G L = some (.lst (pas.map V.ref)) ∧ PAt G pas ps ∧ (∀ a ∈ pas, a ≠ d ∧ a ≠ L) ∧ ps.length ≤ i * 16 + j * 8 ∧ ∀ p ∈ ps, 0 ≤ p.2.2 ∧ p.2.2 < (n : Int))
          ⟨_, _, _, pas, ps, rfl, bG, dG, gL, pAt, ne2, pl, pg⟩ ?_ ?_
        · clear bG dG gL pAt ne2 pl pg
          rintro j σ G hj ⟨y7, y8, y9, pas, ps, rfl, bG, dG, gL, pAt, ne2, pl, pg⟩
          refine ⟨.int (n : Nat), rfl, (n : Nat), rfl, by omega, by omega, ?_⟩
          refine for_range (lo := 0) (n := ((n : Int)).toNat) (fun o σ G => ∃ (y8 y9 : Option V) (pas : List Addr) (ps : List (Int × Int × Int)), σ = [some (.ref d), some (.int mo), some (.int fc), some (.int (n : Nat)), some (.int (0 + (i : Int))), some (.ref D), some (.ref L), some (.int (0 + (j : Int))), y8, y9] ∧
              But d G0 G ∧ Draws G d ∧ G L = some (.lst (pas.map V.ref)) ∧ PAt G pas ps ∧ (∀ a ∈ pas, a ≠ d ∧ a ≠ L) ∧ ps.length ≤ i * 16 + j * 8 + o ∧ ∀ p ∈ ps, 0 ≤ p.2.2 ∧ p.2.2 < (n : Int))
            ⟨_, _, pas, ps, rfl, bG, dG, gL, pAt, ne2, pl, pg⟩ ?_ ?_
          · clear bG dG gL pAt ne2 pl pg
            rintro o σ G ho ⟨y8, y9, pas, ps, rfl, bG, dG, gL, pAt, ne2, pl, pg⟩
            rw [Int.toNat_natCast] at ho
            refine ⟨.ref d, rfl, .int (n : Nat), rfl, 2, _, rfl, rfl, d, _, rfl, dG, by omega, fun v3 H3 v30 v3m b3 d3 => ⟨_, _, rfl, rfl, _, rfl, ?_⟩⟩
            have gL3 := b3 _ _ dL gL
            refine ite2 (fun c => ?_) (fun c => ?_)
            · refine ⟨.ref L, rfl, .inl ⟨rfl, _, SqL.of gL3⟩, _, rfl, _, rfl, _, rfl, by show 3 ≤ sizeLine; decide, fun p hp => ?_⟩
              have s4 := Same.new (o := .tup [.int (0 + (i : Int)), .int (0 + (j : Int)), .int (0 + (o : Int))]) hp
              have gL4 := s4 _ _ gL3
              have pd : p ≠ d := d3.ne hp
              have pL : p ≠ L := fun e => by rw [e, gL3] at hp; cases hp
              refine ⟨L, _, _, rfl, rfl, gL4, by rw [List.length_map, pAt.1]; exact small1000 (by omega), ?_⟩
              refine ⟨_, _, pas ++ [p], ps ++ [(0 + (i : Int), 0 + (j : Int), 0 + (o : Int))], rfl, fun b u nb e => ?_, ?_, by rw [upd_same, List.map_append]; rfl, PAt.snoc (pAt.map fun a u ha e => ?_) ?_, fun a ha => ?_, by rw [List.length_append, List.length_singleton]; omega, fun q hq => ?_⟩
              · rw [upd_ne (ne_of_none e hL)]
                exact s4 _ _ (b3 _ _ nb (bG _ _ nb e))
              · obtain ⟨ds, e⟩ := d3.same s4
                exact ⟨ds, by rw [upd_ne dL.symm]; exact e⟩
              · rw [upd_ne (ne2 a ha).2]
                exact s4 _ _ (b3 _ _ (ne2 a ha).1 e)
              · rw [upd_ne pL]
                exact upd_same
              · rcases List.mem_append.mp ha with ha | ha
                · exact ne2 a ha
                · rw [List.mem_singleton.mp ha]
                  exact ⟨pd, pL⟩
              · rcases List.mem_append.mp hq with hq | hq
                · exact pg q hq
                · rw [List.mem_singleton.mp hq]
                  exact ⟨by show 0 ≤ 0 + (o : Int); omega, by show 0 + (o : Int) < n; omega⟩
            · exact ⟨_, _, pas, ps, rfl, bG.trans b3, d3, gL3, pAt.map fun a u ha e => b3 _ _ (ne2 a ha).1 e, ne2, by omega, pg⟩
          · rintro σ G ⟨y8, y9, pas, ps, rfl, bG, dG, gL, pAt, ne2, pl, pg⟩
            rw [Int.toNat_natCast] at pl
            exact ⟨_, _, _, pas, ps, rfl, bG, dG, gL, pAt, ne2, by omega, pg⟩
        · rintro σ G ⟨y7, y8, y9, pas, ps, rfl, bG, dG, gL, pAt, ne2, pl, pg⟩
          exact ⟨_, _, _, _, pas, ps, rfl, bG, dG, gL, pAt, ne2, by omega, pg⟩
      · rintro σ G ⟨y4, y7, y8, y9, pas, ps, rfl, bG, dG, gL, pAt, ne2, pl, pg⟩
        rw [Int.toNat_natCast] at pl
        refine ⟨_, rfl, _, rfl, by show 2 ≤ sizeLine; decide, fun p hp => ?_⟩
        have s5 := Same.new (o := .tup [.ref D, .ref L]) hp
        have eL : Xs.length = n := by rw [← fa.1]; exact li
        refine k (.ref p) ⟨Xs, ps⟩ _ (b1.trans ((bG0.trans bG).trans (Same.but s5))) (dG.same s5) ⟨p, D, L, fas, pas, rfl, upd_same, s5 _ _ (bG _ _ dD gD), s5 _ _ gL, fa.map fun a u ha e => s5 _ _ (bG _ _ (ne a ha).1 e), pAt.map fun a u _ e => s5 _ _ e⟩ ⟨?_, ?_, ?_, ?_, x8⟩
        · intro q hq
          show 0 ≤ q.2.2 ∧ q.2.2 < ((Xs.length : Nat) : Int)
          rw [eL]
          exact pg q hq
        · show 1 ≤ Xs.length
          omega
        · show Xs.length ≤ 8
          omega
        · show ps.length ≤ 200
          omega
/-! ### where the steps lead -/
def spBehind (K : PySem.W.Frag) : Sp := fun vs H Q _ => ∃ (v : V) (W : Wd) (s l : Int), vs = [v, .int s, .int l] ∧ WAt H v W ∧ W.steps.length ≤ 200 ∧
  ∀ (b : Addr) H', Same H H' → H b = none → IL H' b (W.beh s l) → Q (.ref b) H'
theorem beh_snoc (ps : List (Int × Int × Int)) (p : Int × Int × Int) (s l : Int) :
    ((ps ++ [p]).filter fun p => decide (p.1 = s) && decide (p.2.1 = l)).map (fun p => p.2.2) = (ps.filter fun p => decide (p.1 = s) && decide (p.2.1 = l)).map (fun p => p.2.2) ++ (if (decide (p.1 = s) && decide (p.2.1 = l)) = true then [p.2.2] else []) := by
  rw [List.filter_append, List.map_append]
  congr 1
  cases c : decide (p.1 = s) && decide (p.2.1 = l)
  · simp [c]
  · simp [c]
theorem ok_law_behind {f : Addr} {fd : FuncData} (FF : Fun K "_law_behind" "_law_behind" s_law_behind f fd) (T : Txt K mg C J B) : FnOk P w K mg base CX0 1 f fd a_law_behind (spBehind K) := by
  refine FF.ok sc_law_behind (fun vs H Q E h => ?_) (fun cdv A outer s H vs Q E hr h => ?_)
  · obtain ⟨v, W, s, l, rfl, _⟩ := h
    rfl
  · obtain ⟨v, W, x, l, rfl, hW, hs, k⟩ := h
    refine ⟨_, (pss_one (ps_ret (pe_lc (own := [("step", 3)]) (g := gName 3) rfl sc_law_behind.nd (pi_list (pe_ix ix_tup (pv 0) pe_int (fun _ _ => rfl))) (blkOk_by (own := [("step", 3)]) (N := n_law_behind) (sc := defScope s_law_behind) (by decide +kernel)) (fun _ _ _ _ _ => (pg_name (i := 3) sc_law_behind.nd rfl (.inl rfl))) (fun _ _ _ _ _ => (pts_one (PW.pt (pw_and (pt_cmpR op_eq (pe_ix (@id (IxR _ (rIxT K)) ix_tup) (pv 3) pe_int (fun _ _ => rfl)) (pv 1) (nomark _)) (pw_and1 (pt_cmpR op_eq (pe_ix (@id (IxR _ (rIxT K)) ix_tup) (pv 3) pe_int (fun _ _ => rfl)) (pv 2) (nomark _))))))) (fun _ _ _ _ _ => (pe_ix (@id (IxR _ (rIxT K)) ix_tup) (pv 3) pe_int (fun _ _ => rfl)))))), ?_⟩
    obtain ⟨wa, sa, pa, fas, pas, rfl, X⟩ := hW
    refine ⟨.ref wa, rfl, wa, _, _, .ref pa, rfl, rfl, SqT.of X.w, rfl, pa, rfl, ⟨_, SqL.of X.p⟩, fun D hD => ?_⟩
    refine lc_list (xs := pas.map V.ref) (fun i G => Same H G ∧ IL G D (((W.steps.take i).filter fun p => decide (p.1 = x) && decide (p.2.1 = l)).map fun p => p.2.2)) ⟨Same.new hD, upd_same⟩ (fun i G _ q => SqL.of (q.1 _ _ X.p)) ?_ ?_
    · rintro i y G hy ⟨sG, gD⟩
      have XG := X.same sG
      obtain ⟨a, ha, rfl⟩ : ∃ a, pas[i]? = some a ∧ V.ref a = y := by
        rw [List.getElem?_map] at hy
        cases e : pas[i]? with
        | none => rw [e] at hy; cases hy
        | some a => rw [e] at hy; exact ⟨a, rfl, Option.some.inj hy⟩
      have il : i < W.steps.length := by rw [← X.t.1]; exact get_len ha
      obtain ⟨p, hp⟩ : ∃ p, W.steps[i]? = some p := ⟨W.steps[i], by simp [il]⟩
      have at_ := XG.t.2 i a p ha hp
      have nx : (W.steps.take (i + 1)) = W.steps.take i ++ [p] := by rw [List.take_add_one, hp]; rfl
      have sz : (((W.steps.take i).filter fun p => decide (p.1 = x) && decide (p.2.1 = l)).map fun p => p.2.2).length ≤ 200 := by
        rw [List.length_map]
        refine Nat.le_trans (List.length_filter_le _ _) ?_
        rw [List.length_take]
        omega
      rw [nx, beh_snoc]
      refine ⟨rfl, ?_⟩
      refine ⟨.ref a, rfl, a, _, _, _, rfl, rfl, SqT.of at_, rfl, .int x, rfl, rfl, _, rfl, ?_⟩
      by_cases c1 : p.1 = x
      · refine (if_pos (decide_eq_true (congrArg V.int c1))).mpr ?_
        refine ⟨.ref a, rfl, a, _, _, _, rfl, rfl, SqT.of at_, rfl, .int l, rfl, rfl, _, rfl, ?_⟩
        by_cases c2 : p.2.1 = l
        · refine (if_pos (decide_eq_true (congrArg V.int c2))).mpr ?_
          refine ⟨.ref a, rfl, a, _, _, _, rfl, rfl, SqT.of at_, rfl, _, gD, by rw [List.length_map]; exact small1000 (by omega), fun b o e => by rw [upd_ne (ne_of_none e hD)]; exact sG b o e, ?_⟩
          show _ = _
          rw [upd_same, decide_eq_true c1, decide_eq_true c2, List.map_append]
          rfl
        · refine (if_neg (by rw [decide_eq_false (fun e : V.int p.2.1 = V.int l => c2 (by injection e))]; exact Bool.false_ne_true)).mpr ?_
          refine ⟨sG, ?_⟩
          rw [decide_eq_false c2, Bool.and_false, if_neg Bool.false_ne_true, List.append_nil]
          exact gD
      · refine (if_neg (by rw [decide_eq_false (fun e : V.int p.1 = V.int x => c1 (by injection e))]; exact Bool.false_ne_true)).mpr ?_
        refine ⟨sG, ?_⟩
        rw [decide_eq_false c1, Bool.false_and, if_neg Bool.false_ne_true, List.append_nil]
        exact gD
    · rintro G ⟨sG, gD⟩
      rw [List.length_map, X.t.1, List.take_length] at gD
      exact k D G sG hD gD
end
end Fw

set_option maxRecDepth 100000
set_option maxHeartbeats 8000000
namespace Fw
open PySem PySem.Spec PyProof.Rows L2
theorem nd_putW {kvs : List (Key × V)} {k : Key} {v : V} (h : (kvs.map (·.1)).Nodup) : ((putK kvs k v).map (·.1)).Nodup := by
  cases e : valV kvs k with
  | none => exact nd_putK v h e
  | some u =>
    have : (putK kvs k v).map (·.1) = kvs.map (·.1) := by
      unfold putK
      rw [valV_any, e]
      simp only [Option.isSome_some, if_true, List.map_map]
      refine List.map_congr_left fun x _ => ?_
      simp only [Function.comp]
      split <;> rfl
    rw [this]
    exact h
theorem valV_atW : ∀ {kvs : List (Key × V)} {i : Nat} {k : Key} {v : V}, (kvs.map (·.1)).Nodup → kvs[i]? = some (k, v) → valV kvs k = some v ∧ valV (kvs.take i) k = none
  | [], i, k, v, _, h => by simp at h
  | p :: r, 0, k, v, _, h => by
    cases h
    exact ⟨valV_pos rfl, rfl⟩
  | p :: r, i + 1, k, v, nd, h => by
    have nd' := List.nodup_cons.mp (show (p.1 :: r.map (·.1)).Nodup from nd)
    have ih := valV_atW nd'.2 (show r[i]? = some (k, v) from h)
    have ne : ¬ p.1 = k := fun e => nd'.1 (by rw [e]; exact List.mem_map.mpr ⟨(k, v), List.mem_of_getElem? (show r[i]? = some (k, v) from h), rfl⟩)
    exact ⟨by rw [valV_neg ne]; exact ih.1, by rw [List.take_succ_cons, valV_neg ne]; exact ih.2⟩
theorem rgV_rng (n : Nat) : rgV 0 (n : Int) = (rng n).map V.int := by
  unfold rgV rng
  rw [Int.sub_zero, Int.toNat_natCast, List.map_map]
  refine List.map_congr_left fun i _ => ?_
  show V.int (0 + (i : Int)) = V.int (i : Int)
  rw [Int.zero_add]
theorem kF {a b : Str} {A B : Prop} (n : a ≠ b) (h : B) : if decide (V.str a = V.str b) = true then A else B :=
  (if_neg (by rw [decide_eq_false (fun e : V.str a = V.str b => n (by injection e))]; exact Bool.false_ne_true)).mpr h
theorem kT {a : Str} {A B : Prop} (h : A) : if decide (V.str a = V.str a) = true then A else B := (if_pos (decide_eq_true rfl)).mpr h
/-- a list of those items of a list of numbers that a test takes -/
theorem lc_fil {K : PySem.W.Frag} {la : Addr} {X : List Int} {g : TG} {tt : TT} {te : TE} {vs : List Nat} {σ : L2.St} {H0 : Hp} {D : Addr} {Qd : Hp → Prop} (p : Int → Bool)
    (hl : IL H0 la X) (hD : H0 D = none) (hX : X.length ≤ 200)
    (hs : ∀ x ∈ X, ∀ (G : Hp) (Y : VK) (N : Hp → Prop), Same H0 G → (p x = true → ∀ G', Same G G' → Y (.int x) G') → (p x = false → ∀ G', Same G G' → N G') →
      g (.int x) (wipe σ vs) G fun σ2 H2 => wipe σ2 vs = wipe σ vs ∧ tt σ2 H2 fun b H3 => if b = true then te σ2 H3 Y else N H3)
    (hd : ∀ G, Same H0 G → IL G D (X.filter p) → Qd G) :
    ∃ Wm : Nat → Nat → Hp → Prop, (∃ k, Wm 0 k (upd H0 D (.lst []))) ∧ ∀ i k G, Wm i k G →
      ((Itl K la).stop i G ∧ Qd G) ∨
      ((Itl K la).go i G ∧ ∃ Nn : Hp → Prop, (∀ G', Nn G' → ∃ k', k' < k ∧ Wm (i + 1) k' G') ∧ ∀ x G', (Itl K la).yld i G x G' →
        g x (wipe σ vs) G' fun σ2 G2 => wipe σ2 vs = wipe σ vs ∧ tt σ2 G2 fun b G3 =>
          if b = true then te σ2 G3 fun y G4 => ∃ ys, G4 D = some (.lst ys) ∧ ys.length < sizeLine ∧ Nn (upd G4 D (.lst (ys ++ [y])))
          else Nn G3) := by
  refine lc_list (xs := X.map V.int) (fun i G => Same H0 G ∧ IL G D ((X.take i).filter p)) ⟨Same.new hD, upd_same⟩ (fun i G _ q => SqL.of (q.1 _ _ hl)) ?_ ?_
  · rintro i y G hy ⟨sG, gD⟩
    obtain ⟨x, hx, rfl⟩ : ∃ x, X[i]? = some x ∧ V.int x = y := by
      rw [List.getElem?_map] at hy
      cases e : X[i]? with
      | none => rw [e] at hy; cases hy
      | some x => rw [e] at hy; exact ⟨x, rfl, Option.some.inj hy⟩
    have nx : X.take (i + 1) = X.take i ++ [x] := by rw [List.take_add_one, hx]; rfl
    have sz : ((X.take i).filter p).length ≤ 200 := by
      refine Nat.le_trans (List.length_filter_le _ _) ?_
      rw [List.length_take]
      omega
    refine hs x (List.mem_of_getElem? hx) G _ _ sG (fun c G' s' => ⟨_, s' _ _ gD, by rw [List.length_map]; exact small1000 (by omega), fun b o e => by rw [upd_ne (ne_of_none e hD)]; exact s' _ _ (sG b o e), ?_⟩) (fun c G' s' => ⟨sG.trans s', ?_⟩)
    · show _ = _
      rw [upd_same, nx, List.filter_append, List.map_append, List.filter_cons_of_pos c]
      rfl
    · rw [nx, List.filter_append, List.filter_cons_of_neg (by rw [c]; exact Bool.false_ne_true)]
      rw [show List.filter p [] = [] from rfl, List.append_nil]
      exact s' _ _ gD
  · rintro G ⟨sG, gD⟩
    rw [List.length_map, List.take_length] at gD
    exact hd G sG gD
def spVal (K : PySem.W.Frag) : Nat → Sp
  | 0 => fun _ _ _ _ => False
  | n + 1 => fun vs H Q _ => ∃ (v sv : V) (W : Wd) (t : F) (na : Addr) (kvs : List (Key × V)) (e : Int → List Int), vs = [v, sv, .ref na] ∧ WAt H v W ∧ W.Fit ∧ IsF K H sv t ∧ t.depth ≤ n + 1 ∧ H na = some (.dK kvs) ∧ kvs.length + n ≤ 100 ∧ (kvs.map (·.1)).Nodup ∧
      (∀ x ∈ fv t, ∃ a, valV kvs (Sum.inl x) = some (.ref a) ∧ IL H a (e x)) ∧
      ∀ (a : Addr) H', Same H H' → IL H' a (val W t e) → Q (.ref a) H'
section
variable {P : Program} {w : World} {K : PySem.W.Frag} {mg : Str → Option Value} {base : Heap} {C J B NC FE OD : Addr}
theorem ok_law_value {f : Addr} {fd : FuncData} (n : Nat) (FF : Fun K "_law_value" "_law_value" s_law_value f fd) (T : Txt K mg C J B) (h_law_behind : Has P w K mg base "_law_behind" 1 a_law_behind (spBehind K))
    (h_law_value : Has P w K mg base "_law_value" (n + 2) a_law_value (spVal K n)) : FnOk P w K mg base CX0 (n + 3) f fd a_law_value (spVal K (n + 1)) := by
  refine FF.ok sc_law_value (fun vs H Q E h => ?_) (fun cdv A outer s H vs Q E hr h => ?_)
  · obtain ⟨v, sv, W, t, na, kvs, e, rfl, _⟩ := h
    rfl
  · obtain ⟨v, sv, W, t, na, kvs, e, rfl, hW, fit, ht, hdep, hN, hkl, hnd, henv, k⟩ := h
    have hu := hu_of hr
    refine ⟨_, (pss_cons (ps_set (i := 3) sc_law_value.nd rfl (.inl rfl) (pe_listRg rfl rfl T.z_list (prg_1 rfl T.z_range (pe_callB call_len_seq rfl T.z_len (by decide +kernel) (pa_cons (pe_ix ix_tup (pv 0) pe_int (fun _ _ => rfl)) pa_nil)))))
      (pss_cons (ps_set (i := 4) sc_law_value.nd rfl (.inl rfl) (pe_ix ix_tup (pv 1) pe_int (fun _ _ => rfl)))
      (pss_cons (ps_if (pt_cmpR op_eq (pv 4) pe_str (nomark _)) (pss_one (ps_ret (pv 3))) pss_nil)
      (pss_cons (ps_if (pt_cmpR op_eq (pv 4) pe_str (nomark _)) (pss_one (ps_ret (pe_lst pa_nil))) pss_nil)
      (pss_cons (ps_if (pt_cmpR op_eq (pv 4) pe_str (nomark _)) (pss_one (ps_ret (pe_lc (own := [("state", 11)]) (g := gName 11) rfl sc_law_value.nd (pi_list (pv 3)) (blkOk_by (own := [("state", 11)]) (N := n_law_value) (sc := defScope s_law_value) (by decide +kernel)) (fun _ _ _ _ _ => (pg_name (i := 11) sc_law_value.nd rfl (.inl rfl))) (fun _ _ _ _ _ => (pts_one (pt_cmpR (@id (OpR _ _ (rIn K false)) op_in_seq) (pe_ix (@id (IxR _ (rIxT K)) ix_tup) (pv 1) pe_int (fun _ _ => rfl)) (pe_ix (@id (IxR _ (rIxL K)) ix_list) (pe_ix (@id (IxR _ (rIxT K)) ix_tup) (pv 0) pe_int (fun _ _ => rfl)) (pv 11) (fun _ _ => rfl)) (by rfl)))) (fun _ _ _ _ _ => (pv 11))))) pss_nil)
      (pss_cons (ps_if (pt_cmpR op_eq (pv 4) pe_str (nomark _)) (pss_one (ps_ret (pe_lc (own := [("state", 11)]) (g := gName 11) rfl sc_law_value.nd (pi_list (pv 3)) (blkOk_by (own := [("state", 11)]) (N := n_law_value) (sc := defScope s_law_value) (by decide +kernel)) (fun _ _ _ _ _ => (pg_name (i := 11) sc_law_value.nd rfl (.inl rfl))) (fun _ _ _ _ _ => (pts_one (pt_cmpR (@id (OpR _ _ (rIn K true)) op_notIn_seq) (pe_ix (@id (IxR _ (rIxT K)) ix_tup) (pv 1) pe_int (fun _ _ => rfl)) (pe_ix (@id (IxR _ (rIxL K)) ix_list) (pe_ix (@id (IxR _ (rIxT K)) ix_tup) (pv 0) pe_int (fun _ _ => rfl)) (pv 11) (fun _ _ => rfl)) (by rfl)))) (fun _ _ _ _ _ => (pv 11))))) pss_nil)
      (pss_cons (ps_if (pt_cmpR op_eq (pv 4) pe_str (nomark _)) (pss_one (ps_ret (pe_dget hu (pv 2) (pe_ix ix_tup (pv 1) pe_int (fun _ _ => rfl)) (fun _ _ => rfl)))) pss_nil)
      (pss_cons (ps_if (pt_cmpR op_in_seq (pv 4) (pe_tup (pa_cons pe_str (pa_cons pe_str pa_nil))) (by rfl)) (pss_cons (ps_set (i := 5) sc_law_value.nd rfl (.inl rfl) (pe_lst pa_nil))
      (pss_cons (ps_if (pt_cmpR op_eq (pv 4) pe_str (nomark _)) (pss_one (ps_set (i := 5) sc_law_value.nd rfl (.inl rfl) (pe_callTy call_list_of rfl T.z_list (by decide +kernel) (pa_cons (pv 3) pa_nil)))) pss_nil)
      (pss_cons (ps_for PassesOwn.never rfl (pi_range1 rfl T.z_range (pa_cons (pe_op op_add (pe_callB call_len_seq rfl T.z_len (by decide +kernel) (pa_cons (pe_ix ix_tup (pv 0) pe_int (fun _ _ => rfl)) pa_nil)) pe_int) pa_nil)) (pg_name (i := 6) sc_law_value.nd rfl (.inl rfl)) (pss_cons (ps_set (i := 7) sc_law_value.nd rfl (.inl rfl) pe_dnewK)
      (pss_cons (ps_lock (ps_for PassesOwn.never rfl (pi_keys (pv 2)) (pg_name (i := 8) sc_law_value.nd rfl (.inl rfl)) (pss_one (ps_dput hu (pv 7) (pv 8) (pe_dget hu (pv 2) (pv 8) (fun _ _ => rfl)) rfl))))
      (pss_cons (ps_dput hu (pv 7) (pe_ix ix_tup (pv 1) pe_int (fun _ _ => rfl)) (pv 5) rfl)
      (pss_one (ps_set (i := 5) sc_law_value.nd rfl (.inl rfl) (pe_callH h_law_value (hr.mono (by omega)) (pa_cons (pv 0) (pa_cons (pe_ix ix_tup (pv 1) pe_int (fun _ _ => rfl)) (pa_cons (pv 7) pa_nil))))))))))
      (pss_one (ps_ret (pv 5)))))) pss_nil)
      (pss_cons (ps_set (i := 9) sc_law_value.nd rfl (.inr rfl) (pe_callH h_law_value (hr.mono (by omega)) (pa_cons (pv 0) (pa_cons (pe_ix ix_tup (pv 1) (pe_op op_sub (pe_callB call_len_seq rfl T.z_len (by decide +kernel) (pa_cons (pv 1) pa_nil)) pe_int) (fun _ _ => rfl)) (pa_cons (pv 2) pa_nil)))))
      (pss_cons (ps_if (pt_cmpR op_eq (pv 4) pe_str (nomark _)) (pss_one (ps_ret (pe_lc (own := [("state", 11)]) (g := gName 11) rfl sc_law_value.nd (pi_list (pv 3)) (blkOk_by (own := [("state", 11)]) (N := n_law_value) (sc := defScope s_law_value) (by decide +kernel)) (fun _ _ _ _ _ => (pg_name (i := 11) sc_law_value.nd rfl (.inl rfl))) (fun _ _ _ _ _ => (pts_one (pt_cmpR op_gt (pe_callB (@id (CallR _ _ (rLenS K)) call_len_seq) rfl T.z_len (by decide +kernel) (pa_cons (pe_lc (own := [("k", 12)]) (g := gName 12) rfl sc_law_value.nd (@id (PI _ _ _ (iList K _)) (pi_list (pe_callH h_law_behind (hr.mono (by omega)) (pa_cons (pv 0) (pa_cons (pv 11) (pa_cons (pe_ix (@id (IxR _ (rIxT K)) ix_tup) (pv 1) pe_int (fun _ _ => rfl)) pa_nil)))))) (blkOk_by (own := [("k", 12)]) (N := n_law_value) (sc := { kind := PySem.ScopeKind.function, names := [ (PySem.Str.ofString ".0", PySem.NameKind.local), (PySem.Str.ofString "state", PySem.NameKind.local), (PySem.Str.ofString "len", PySem.NameKind.globalImplicit), (PySem.Str.ofString "_law_behind", PySem.NameKind.globalImplicit), (PySem.Str.ofString "first", PySem.NameKind.cell), (PySem.Str.ofString "statement", PySem.NameKind.cell), (PySem.Str.ofString "world", PySem.NameKind.cell)], isGenerator := false, isCoroutine := false, more := [] : PySem.Scope }) (by decide +kernel)) (fun _ _ _ _ _ => (pg_name (i := 12) sc_law_value.nd rfl (.inl rfl))) (fun _ _ _ _ _ => (pts_one (pt_cmpR (@id (OpR _ _ (rIn K false)) op_in_seq) (pv 12) (pv 9) (by rfl)))) (fun _ _ _ _ _ => (pv 12))) pa_nil)) pe_int (nomark _)))) (fun _ _ _ _ _ => (pv 11))))) pss_nil)
      (pss_cons (ps_if (pt_cmpR op_eq (pv 4) pe_str (nomark _)) (pss_one (ps_ret (pe_lc (own := [("state", 11)]) (g := gName 11) rfl sc_law_value.nd (pi_list (pv 3)) (blkOk_by (own := [("state", 11)]) (N := n_law_value) (sc := defScope s_law_value) (by decide +kernel)) (fun _ _ _ _ _ => (pg_name (i := 11) sc_law_value.nd rfl (.inl rfl))) (fun _ _ _ _ _ => (pts_one (pt_cmpR op_eq (pe_callB (@id (CallR _ _ (rLenS K)) call_len_seq) rfl T.z_len (by decide +kernel) (pa_cons (pe_lc (own := [("k", 12)]) (g := gName 12) rfl sc_law_value.nd (@id (PI _ _ _ (iList K _)) (pi_list (pe_callH h_law_behind (hr.mono (by omega)) (pa_cons (pv 0) (pa_cons (pv 11) (pa_cons (pe_ix (@id (IxR _ (rIxT K)) ix_tup) (pv 1) pe_int (fun _ _ => rfl)) pa_nil)))))) (blkOk_by (own := [("k", 12)]) (N := n_law_value) (sc := { kind := PySem.ScopeKind.function, names := [ (PySem.Str.ofString ".0", PySem.NameKind.local), (PySem.Str.ofString "state", PySem.NameKind.local), (PySem.Str.ofString "len", PySem.NameKind.globalImplicit), (PySem.Str.ofString "_law_behind", PySem.NameKind.globalImplicit), (PySem.Str.ofString "first", PySem.NameKind.cell), (PySem.Str.ofString "statement", PySem.NameKind.cell), (PySem.Str.ofString "world", PySem.NameKind.cell)], isGenerator := false, isCoroutine := false, more := [] : PySem.Scope }) (by decide +kernel)) (fun _ _ _ _ _ => (pg_name (i := 12) sc_law_value.nd rfl (.inl rfl))) (fun _ _ _ _ _ => (pts_one (pt_cmpR (@id (OpR _ _ (rIn K true)) op_notIn_seq) (pv 12) (pv 9) (by rfl)))) (fun _ _ _ _ _ => (pv 12))) pa_nil)) pe_int (nomark _)))) (fun _ _ _ _ _ => (pv 11))))) pss_nil)
      (pss_cons (ps_set (i := 10) sc_law_value.nd rfl (.inr rfl) (pe_callH h_law_value (hr.mono (by omega)) (pa_cons (pv 0) (pa_cons (pe_ix ix_tup (pv 1) pe_int (fun _ _ => rfl)) (pa_cons (pv 2) pa_nil)))))
      (pss_cons (ps_if (pt_cmpR op_eq (pv 4) pe_str (nomark _)) (pss_one (ps_ret (pe_lc (own := [("state", 11)]) (g := gName 11) rfl sc_law_value.nd (pi_list (pv 3)) (blkOk_by (own := [("state", 11)]) (N := n_law_value) (sc := defScope s_law_value) (by decide +kernel)) (fun _ _ _ _ _ => (pg_name (i := 11) sc_law_value.nd rfl (.inl rfl))) (fun _ _ _ _ _ => (pts_one (PW.pt (pw_and (pt_cmpR (@id (OpR _ _ (rIn K false)) op_in_seq) (pv 11) (pv 9) (by rfl)) (pw_and1 (pt_cmpR (@id (OpR _ _ (rIn K false)) op_in_seq) (pv 11) (pv 10) (by rfl))))))) (fun _ _ _ _ _ => (pv 11))))) pss_nil)
      (pss_one (ps_ret (pe_lc (own := [("state", 11)]) (g := gName 11) rfl sc_law_value.nd (pi_list (pv 3)) (blkOk_by (own := [("state", 11)]) (N := n_law_value) (sc := defScope s_law_value) (by decide +kernel)) (fun _ _ _ _ _ => (pg_name (i := 11) sc_law_value.nd rfl (.inl rfl))) (fun _ _ _ _ _ => (pts_one (PW.pt (pw_or (pt_cmpR (@id (OpR _ _ (rIn K false)) op_in_seq) (pv 11) (pv 9) (by rfl)) (pw_or1 (pt_cmpR (@id (OpR _ _ (rIn K false)) op_in_seq) (pv 11) (pv 10) (by rfl))))))) (fun _ _ _ _ _ => (pv 11)))))))))))))))))), ?_⟩
    obtain ⟨a, ks, rfl, sq, ak⟩ := ht.open
    have at0 : atI (hv t.hd ++ ks) 0 = some (.str (hw t.hd)) := atI_nat (j := 0) (by rw [List.getElem?_append_left (by rcases hv_len t.hd with e | e <;> omega)]; exact hv_head _)
    obtain ⟨wa, sa, pa, fas, pas, rfl, X⟩ := hW
    have nW : ((fas.map V.ref).length : Int) = (W.n : Int) := by rw [List.length_map, X.f.1]; rfl
    refine ⟨.ref wa, rfl, wa, _, _, .ref sa, rfl, rfl, SqT.of X.w, rfl, sa, _, rfl, .inl (SqL.of X.s), _, rfl, ?_⟩
    rw [nW]
    refine ⟨.of_le (Int.le_refl 0) (by have := fit.n8; omega) (by omega) (by omega), fun la hla => ?_⟩
    rw [rgV_rng]
    have s1 := Same.new (o := .lst ((rng W.n).map V.int)) hla
    have gl1 : IL (upd H la (.lst ((rng W.n).map V.int))) la (rng W.n) := upd_same
    generalize upd H la (.lst ((rng W.n).map V.int)) = H1 at s1 gl1
    have X1 := X.same s1
    have sq1 := SqT.same s1 sq
    have ak1 := ak.lk (LKp.same s1)
    have hN1 := s1 _ _ hN
    have henv1 : ∀ x ∈ fv t, ∃ a, valV kvs (Sum.inl x) = some (.ref a) ∧ IL H1 a (e x) := fun x hx => by
      obtain ⟨b, b1, b2⟩ := henv x hx
      exact ⟨b, b1, s1 _ _ b2⟩
    have k1 : ∀ (a : Addr) H', Same H1 H' → IL H' a (val W t e) → Q (.ref a) H' := fun b H' s' g => k b H' (s1.trans s') g
    clear k henv hN sq X s1 hla ht ak
    refine ⟨.ref a, rfl, a, _, _, _, rfl, rfl, sq1, at0, ?_⟩
    cases t with
    | nul b =>
      cases b with
      | true =>
        refine ⟨.str "true", rfl, rfl, _, rfl, kT ?_⟩
        exact ⟨.ref la, rfl, k1 la _ (Same.refl _) gl1⟩
      | false =>
        refine ⟨.str "false", rfl, rfl, _, rfl, kF (by decide) ?_⟩
        refine ⟨.str "false", rfl, rfl, _, rfl, kT ?_⟩
        exact ⟨Nat.zero_le _, fun p hp => k1 p _ (Same.new hp) upd_same⟩
    | leaf kd x =>
      cases ak1
      have at1 : atI (hv (F.leaf kd x).hd ++ []) 1 = some (.int x) := atI_nat (j := 1) rfl
      cases kd with
      | has =>
        refine ⟨.str "has", rfl, rfl, _, rfl, kF (by decide) ?_⟩
        refine ⟨.str "has", rfl, rfl, _, rfl, kF (by decide) ?_⟩
        refine ⟨.str "has", rfl, rfl, _, rfl, kT ?_⟩
        refine ⟨.ref la, rfl, la, rfl, ⟨_, SqL.of gl1⟩, fun D hD => ?_⟩
        refine lc_fil (fun s => sIn (W.at s) x) gl1 hD (by rw [rng_len]; have := fit.n8; omega) (fun s hs G Y N sG hY hN' => ?_) (fun G sG g => k1 D G sG g)
        obtain ⟨j, hj, rfl⟩ : ∃ j : Nat, j < W.n ∧ s = (j : Int) := by
          have := rng_mem.mp hs
          exact ⟨s.toNat, by omega, by omega⟩
        obtain ⟨fa, hfa, hfx⟩ : ∃ fa, fas[j]? = some fa ∧ IL H1 fa (W.at (j : Int)) := by
          have jl : j < fas.length := by rw [X1.f.1]; exact hj
          refine ⟨fas[j], by simp [jl], ?_⟩
          refine X1.f.2 j _ _ (by simp [jl]) ?_
          unfold Wd.at
          rw [Int.toNat_natCast, List.getElem?_eq_getElem (by exact hj)]
          rfl
        refine ⟨rfl, .ref a, rfl, a, _, _, .int x, rfl, rfl, SqT.same sG sq1, at1, .ref wa, rfl, wa, _, _, .ref sa, rfl, rfl, SqT.of (sG _ _ X1.w), rfl, .int (j : Nat), rfl, sa, _, _, .ref fa, rfl, rfl, SqL.of (sG _ _ X1.s), atI_nat (j := j) (by rw [List.getElem?_map, hfa]; rfl), fa, _, rfl, .inl (SqL.of (sG _ _ hfx)), rfl, flat_ints _, _, rfl, ?_⟩
        rw [if_neg Bool.false_ne_true, in_ints]
        cases c : sIn (W.at (j : Int)) x with
        | true =>
          refine (if_pos c).mpr ?_
          exact ⟨_, rfl, hY c _ (Same.refl _)⟩
        | false =>
          refine (if_neg (by rw [show decide (x ∈ W.at (j : Int)) = false from c]; exact Bool.false_ne_true)).mpr ?_
          exact hN' c _ (Same.refl _)
      | lacks =>
        refine ⟨.str "lacks", rfl, rfl, _, rfl, kF (by decide) ?_⟩
        refine ⟨.str "lacks", rfl, rfl, _, rfl, kF (by decide) ?_⟩
        refine ⟨.str "lacks", rfl, rfl, _, rfl, kF (by decide) ?_⟩
        refine ⟨.str "lacks", rfl, rfl, _, rfl, kT ?_⟩
        refine ⟨.ref la, rfl, la, rfl, ⟨_, SqL.of gl1⟩, fun D hD => ?_⟩
        refine lc_fil (fun s => !sIn (W.at s) x) gl1 hD (by rw [rng_len]; have := fit.n8; omega) (fun s hs G Y N sG hY hN' => ?_) (fun G sG g => k1 D G sG g)
        obtain ⟨j, hj, rfl⟩ : ∃ j : Nat, j < W.n ∧ s = (j : Int) := by
          have := rng_mem.mp hs
          exact ⟨s.toNat, by omega, by omega⟩
        obtain ⟨fa, hfa, hfx⟩ : ∃ fa, fas[j]? = some fa ∧ IL H1 fa (W.at (j : Int)) := by
          have jl : j < fas.length := by rw [X1.f.1]; exact hj
          refine ⟨fas[j], by simp [jl], ?_⟩
          refine X1.f.2 j _ _ (by simp [jl]) ?_
          unfold Wd.at
          rw [Int.toNat_natCast, List.getElem?_eq_getElem (by exact hj)]
          rfl
        refine ⟨rfl, .ref a, rfl, a, _, _, .int x, rfl, rfl, SqT.same sG sq1, at1, .ref wa, rfl, wa, _, _, .ref sa, rfl, rfl, SqT.of (sG _ _ X1.w), rfl, .int (j : Nat), rfl, sa, _, _, .ref fa, rfl, rfl, SqL.of (sG _ _ X1.s), atI_nat (j := j) (by rw [List.getElem?_map, hfa]; rfl), fa, _, rfl, .inl (SqL.of (sG _ _ hfx)), rfl, flat_ints _, _, rfl, ?_⟩
        rw [if_pos rfl, in_ints]
        show if (!sIn (W.at (j : Int)) x) = true then _ else _
        cases c : !sIn (W.at (j : Int)) x with
        | true => exact iteT ⟨_, rfl, hY c _ (Same.refl _)⟩
        | false => exact iteF (hN' c _ (Same.refl _))
      | var =>
        refine ⟨.str "var", rfl, rfl, _, rfl, kF (by decide) ?_⟩
        refine ⟨.str "var", rfl, rfl, _, rfl, kF (by decide) ?_⟩
        refine ⟨.str "var", rfl, rfl, _, rfl, kF (by decide) ?_⟩
        refine ⟨.str "var", rfl, rfl, _, rfl, kF (by decide) ?_⟩
        refine ⟨.str "var", rfl, rfl, _, rfl, kT ?_⟩
        obtain ⟨b, hb, hx⟩ := henv1 x (List.mem_singleton.mpr rfl)
        have hget := DGet.k (k := Sum.inl x) hN1
        rw [hb] at hget
        exact ⟨.ref na, rfl, .ref a, rfl, a, _, 1, .int x, rfl, rfl, sq1, at1, na, _, rfl, hget, k1 b _ (Same.refl _) hx⟩
    | two b f g =>
      cases ak1 with
      | cons hf hn =>
      cases hn with
      | cons hg hn =>
      cases hn
      rename_i vf vg
      obtain ⟨m, rfl⟩ : ∃ m, n = m + 1 := by
        cases n with
        | zero => exact absurd hdep (by have : 0 < f.depth := (by cases f <;> simp [F.depth]); simp only [F.depth]; omega)
        | succ m => exact ⟨m, rfl⟩
      simp only [F.depth] at hdep
      cases b with
      | true =>
        refine ⟨.str "and", rfl, rfl, _, rfl, kF (by decide) ?_⟩
        refine ⟨.str "and", rfl, rfl, _, rfl, kF (by decide) ?_⟩
        refine ⟨.str "and", rfl, rfl, _, rfl, kF (by decide) ?_⟩
        refine ⟨.str "and", rfl, rfl, _, rfl, kF (by decide) ?_⟩
        refine ⟨.str "and", rfl, rfl, _, rfl, kF (by decide) ?_⟩
        refine ⟨.str "and", rfl, by show 2 ≤ sizeLine; decide, fun p hp => ⟨p, _, rfl, .inr (SqT.of upd_same), rfl, rfl, _, rfl, ?_⟩⟩
        have s2 := Same.new (o := .tup [.str "least", .str "most"]) hp
        generalize upd H1 p (.tup [.str "least", .str "most"]) = H2 at s2
        have X2 := X1.same s2
        have sq2 := SqT.same s2 sq1
        have hN2 := s2 _ _ hN1
        refine iteF ?_
        have at1 : atI (hv (F.two true f g).hd ++ [vf, vg]) 1 = some vf := atI_nat (j := 1) rfl
        have at2 : atI (hv (F.two true f g).hd ++ [vf, vg]) ((((hv (F.two true f g).hd ++ [vf, vg]).length : Nat) : Int) - 1) = some vg := atI_nat (j := 2) rfl
        refine ⟨.ref wa, rfl, .ref a, rfl, .ref a, rfl, a, _, rfl, .inr sq2, _, 1, rfl, rfl, a, _, _, vg, rfl, rfl, sq2, at2, .ref na, rfl, .ref wa, vg, W, g, na, kvs, e, rfl, ⟨wa, sa, pa, fas, pas, rfl, X2⟩, fit, hg.same s2, by omega, hN2, by omega, hnd, fun x hx => ?_, fun ra H3 s3 hra => ?_⟩
        · obtain ⟨b, b1, b2⟩ := henv1 x (List.mem_append_right _ hx)
          exact ⟨b, b1, s2 _ _ b2⟩
        refine ⟨.str "and", rfl, rfl, _, rfl, kF (by decide) ?_⟩
        refine ⟨.str "and", rfl, rfl, _, rfl, kF (by decide) ?_⟩
        have X3 := X2.same s3
        have sq3 := SqT.same s3 sq2
        have hN3 := s3 _ _ hN2
        refine ⟨.ref wa, rfl, .ref a, rfl, a, _, 1, vf, rfl, rfl, sq3, at1, .ref na, rfl, .ref wa, vf, W, f, na, kvs, e, rfl, ⟨wa, sa, pa, fas, pas, rfl, X3⟩, fit, (hf.same s2).same s3, by omega, hN3, by omega, hnd, fun x hx => ?_, fun rb H4 s4 hrb4 => ?_⟩
        · obtain ⟨b, b1, b2⟩ := henv1 x (List.mem_append_left _ hx)
          exact ⟨b, b1, s3 _ _ (s2 _ _ b2)⟩
        have hra4 := s4 _ _ hra
        have gl5 : IL H4 la (rng W.n) := s4 _ _ (s3 _ _ (s2 _ _ gl1))
        refine ⟨.str "and", rfl, rfl, _, rfl, kT ?_⟩
        refine ⟨.ref la, rfl, la, rfl, ⟨_, SqL.of gl5⟩, fun D hD => ?_⟩
        refine lc_fil (fun s => sIn (val W g e) s && sIn (val W f e) s) gl5 hD (by rw [rng_len]; have := fit.n8; omega) (fun s hs G Y N sG hY hN' => ?_) (fun G sG gg => k1 D G ((s2.trans (s3.trans s4)).trans sG) gg)
        refine ⟨rfl, .int s, rfl, .ref ra, rfl, ra, _, rfl, .inl (SqL.of (sG _ _ hra4)), rfl, flat_ints _, _, rfl, ?_⟩
        rw [if_neg Bool.false_ne_true, in_ints]
        show if sIn (val W g e) s = true then _ else _
        cases c1 : sIn (val W g e) s with
        | false => exact iteF (hN' (by rw [c1]; rfl) _ (Same.refl _))
        | true =>
          refine iteT ⟨.int s, rfl, .ref rb, rfl, rb, _, rfl, .inl (SqL.of (sG _ _ hrb4)), rfl, flat_ints _, _, rfl, ?_⟩
          rw [if_neg Bool.false_ne_true, in_ints]
          show if sIn (val W f e) s = true then _ else _
          cases c2 : sIn (val W f e) s with
          | false => exact iteF (hN' (by rw [c1, c2]; rfl) _ (Same.refl _))
          | true => exact iteT ⟨_, rfl, hY (by rw [c1, c2]; rfl) _ (Same.refl _)⟩
      | false =>
        refine ⟨.str "or", rfl, rfl, _, rfl, kF (by decide) ?_⟩
        refine ⟨.str "or", rfl, rfl, _, rfl, kF (by decide) ?_⟩
        refine ⟨.str "or", rfl, rfl, _, rfl, kF (by decide) ?_⟩
        refine ⟨.str "or", rfl, rfl, _, rfl, kF (by decide) ?_⟩
        refine ⟨.str "or", rfl, rfl, _, rfl, kF (by decide) ?_⟩
        refine ⟨.str "or", rfl, by show 2 ≤ sizeLine; decide, fun p hp => ⟨p, _, rfl, .inr (SqT.of upd_same), rfl, rfl, _, rfl, ?_⟩⟩
        have s2 := Same.new (o := .tup [.str "least", .str "most"]) hp
        generalize upd H1 p (.tup [.str "least", .str "most"]) = H2 at s2
        have X2 := X1.same s2
        have sq2 := SqT.same s2 sq1
        have hN2 := s2 _ _ hN1
        refine iteF ?_
        have at1 : atI (hv (F.two false f g).hd ++ [vf, vg]) 1 = some vf := atI_nat (j := 1) rfl
        have at2 : atI (hv (F.two false f g).hd ++ [vf, vg]) ((((hv (F.two false f g).hd ++ [vf, vg]).length : Nat) : Int) - 1) = some vg := atI_nat (j := 2) rfl
        refine ⟨.ref wa, rfl, .ref a, rfl, .ref a, rfl, a, _, rfl, .inr sq2, _, 1, rfl, rfl, a, _, _, vg, rfl, rfl, sq2, at2, .ref na, rfl, .ref wa, vg, W, g, na, kvs, e, rfl, ⟨wa, sa, pa, fas, pas, rfl, X2⟩, fit, hg.same s2, by omega, hN2, by omega, hnd, fun x hx => ?_, fun ra H3 s3 hra => ?_⟩
        · obtain ⟨b, b1, b2⟩ := henv1 x (List.mem_append_right _ hx)
          exact ⟨b, b1, s2 _ _ b2⟩
        refine ⟨.str "or", rfl, rfl, _, rfl, kF (by decide) ?_⟩
        refine ⟨.str "or", rfl, rfl, _, rfl, kF (by decide) ?_⟩
        have X3 := X2.same s3
        have sq3 := SqT.same s3 sq2
        have hN3 := s3 _ _ hN2
        refine ⟨.ref wa, rfl, .ref a, rfl, a, _, 1, vf, rfl, rfl, sq3, at1, .ref na, rfl, .ref wa, vf, W, f, na, kvs, e, rfl, ⟨wa, sa, pa, fas, pas, rfl, X3⟩, fit, (hf.same s2).same s3, by omega, hN3, by omega, hnd, fun x hx => ?_, fun rb H4 s4 hrb4 => ?_⟩
        · obtain ⟨b, b1, b2⟩ := henv1 x (List.mem_append_left _ hx)
          exact ⟨b, b1, s3 _ _ (s2 _ _ b2)⟩
        have hra4 := s4 _ _ hra
        have gl5 : IL H4 la (rng W.n) := s4 _ _ (s3 _ _ (s2 _ _ gl1))
        refine ⟨.str "or", rfl, rfl, _, rfl, kF (by decide) ?_⟩
        refine ⟨.ref la, rfl, la, rfl, ⟨_, SqL.of gl5⟩, fun D hD => ?_⟩
        refine lc_fil (fun s => sIn (val W g e) s || sIn (val W f e) s) gl5 hD (by rw [rng_len]; have := fit.n8; omega) (fun s hs G Y N sG hY hN' => ?_) (fun G sG gg => k1 D G ((s2.trans (s3.trans s4)).trans sG) gg)
        refine ⟨rfl, .int s, rfl, .ref ra, rfl, ra, _, rfl, .inl (SqL.of (sG _ _ hra4)), rfl, flat_ints _, _, rfl, ?_⟩
        rw [if_neg Bool.false_ne_true, in_ints]
        show if sIn (val W g e) s = true then _ else _
        cases c1 : sIn (val W g e) s with
        | true => exact iteT ⟨_, rfl, hY (by rw [c1]; rfl) _ (Same.refl _)⟩
        | false =>
          refine iteF ⟨.int s, rfl, .ref rb, rfl, rb, _, rfl, .inl (SqL.of (sG _ _ hrb4)), rfl, flat_ints _, _, rfl, ?_⟩
          rw [if_neg Bool.false_ne_true, in_ints]
          show if sIn (val W f e) s = true then _ else _
          cases c2 : sIn (val W f e) s with
          | false => exact iteF (hN' (by rw [c1, c2]; rfl) _ (Same.refl _))
          | true => exact iteT ⟨_, rfl, hY (by rw [c1, c2]; rfl) _ (Same.refl _)⟩
    | one kd x f =>
      cases ak1 with
      | cons hf hn =>
      cases hn
      rename_i vf
      obtain ⟨m, rfl⟩ : ∃ m, n = m + 1 := by
        cases n with
        | zero => exact absurd hdep (by have : 0 < f.depth := (by cases f <;> simp [F.depth]); simp only [F.depth]; omega)
        | succ m => exact ⟨m, rfl⟩
      simp only [F.depth] at hdep
      cases kd with
      | some =>
        refine ⟨.str "some", rfl, rfl, _, rfl, kF (by decide) ?_⟩
        refine ⟨.str "some", rfl, rfl, _, rfl, kF (by decide) ?_⟩
        refine ⟨.str "some", rfl, rfl, _, rfl, kF (by decide) ?_⟩
        refine ⟨.str "some", rfl, rfl, _, rfl, kF (by decide) ?_⟩
        refine ⟨.str "some", rfl, rfl, _, rfl, kF (by decide) ?_⟩
        refine ⟨.str "some", rfl, by show 2 ≤ sizeLine; decide, fun p hp => ⟨p, _, rfl, .inr (SqT.of upd_same), rfl, rfl, _, rfl, ?_⟩⟩
        have s2 := Same.new (o := .tup [.str "least", .str "most"]) hp
        generalize upd H1 p (.tup [.str "least", .str "most"]) = H2 at s2
        have X2 := X1.same s2
        have sq2 := SqT.same s2 sq1
        have hN2 := s2 _ _ hN1
        have at1 : atI (hv (F.one .some x f).hd ++ [vf]) 1 = some (.int x) := atI_nat (j := 1) rfl
        have at2 : atI (hv (F.one .some x f).hd ++ [vf]) 2 = some vf := atI_nat (j := 2) rfl
        refine iteF ?_
        have at3 : atI (hv (F.one .some x f).hd ++ [vf]) ((((hv (F.one .some x f).hd ++ [vf]).length : Nat) : Int) - 1) = some vf := atI_nat (j := 2) rfl
        refine ⟨.ref wa, rfl, .ref a, rfl, .ref a, rfl, a, _, rfl, .inr sq2, _, 1, rfl, rfl, a, _, _, vf, rfl, rfl, sq2, at3, .ref na, rfl, .ref wa, vf, W, f, na, kvs, e, rfl, ⟨wa, sa, pa, fas, pas, rfl, X2⟩, fit, hf.same s2, by omega, hN2, by omega, hnd, fun y hy => ?_, fun ra H3 s3 hra => ?_⟩
        · obtain ⟨b, b1, b2⟩ := henv1 y hy
          exact ⟨b, b1, s2 _ _ b2⟩
        have X3 := X2.same s3
        have sq3 := SqT.same s3 sq2
        have gl3 : IL H3 la (rng W.n) := s3 _ _ (s2 _ _ gl1)
        refine ⟨.str "some", rfl, rfl, _, rfl, kT ?_⟩
        refine ⟨.ref la, rfl, la, rfl, ⟨_, SqL.of gl3⟩, fun D hD => ?_⟩
        refine lc_fil (fun s => decide (0 < (((W.beh s x).filter (sIn (val W f e))).length : Int))) gl3 hD (by rw [rng_len]; have := fit.n8; omega) (fun s hs G Y N sG hY hN' => ?_) (fun G sG gg => k1 D G ((s2.trans s3).trans sG) gg)
        refine ⟨rfl, .ref wa, rfl, .int s, rfl, .ref a, rfl, a, _, _, .int x, rfl, rfl, SqT.same sG sq3, at1, .ref wa, W, s, x, rfl, ⟨wa, sa, pa, fas, pas, rfl, X3.same sG⟩, fit.st, fun b G2 sb nb hb => ?_⟩
        refine ⟨b, rfl, ⟨_, SqL.of hb⟩, fun D2 hD2 => ?_⟩
        have hra2 := sb _ _ (sG _ _ hra)
        refine lc_fil (sIn (val W f e)) hb hD2 (by unfold Wd.beh; rw [List.length_map]; exact Nat.le_trans (List.length_filter_le _ _) fit.st) (fun j hj G3 Y3 N3 s3' hY3 hN3 => ?_) (fun G3 s3' g3 => ?_)
        · refine ⟨rfl, .int j, rfl, .ref ra, rfl, ra, _, rfl, .inl (SqL.of (s3' _ _ hra2)), rfl, flat_ints _, _, rfl, ?_⟩
          rw [if_neg Bool.false_ne_true, in_ints]
          show if sIn (val W f e) j = true then _ else _
          cases c : sIn (val W f e) j with
          | true => exact iteT ⟨_, rfl, hY3 c _ (Same.refl _)⟩
          | false => exact iteF (hN3 c _ (Same.refl _))
        · refine ⟨D2, _, rfl, .inl (SqL.of g3), _, _, rfl, rfl, _, rfl, ite2 (fun c => ?_) (fun c => ?_)⟩
          · exact ⟨_, rfl, hY (by rw [List.length_map] at c; exact c) _ (sb.trans s3')⟩
          · exact hN' (by rw [List.length_map] at c; exact Bool.eq_false_iff.mpr c) _ (sb.trans s3')
      | all =>
        refine ⟨.str "all", rfl, rfl, _, rfl, kF (by decide) ?_⟩
        refine ⟨.str "all", rfl, rfl, _, rfl, kF (by decide) ?_⟩
        refine ⟨.str "all", rfl, rfl, _, rfl, kF (by decide) ?_⟩
        refine ⟨.str "all", rfl, rfl, _, rfl, kF (by decide) ?_⟩
        refine ⟨.str "all", rfl, rfl, _, rfl, kF (by decide) ?_⟩
        refine ⟨.str "all", rfl, by show 2 ≤ sizeLine; decide, fun p hp => ⟨p, _, rfl, .inr (SqT.of upd_same), rfl, rfl, _, rfl, ?_⟩⟩
        have s2 := Same.new (o := .tup [.str "least", .str "most"]) hp
        generalize upd H1 p (.tup [.str "least", .str "most"]) = H2 at s2
        have X2 := X1.same s2
        have sq2 := SqT.same s2 sq1
        have hN2 := s2 _ _ hN1
        have at1 : atI (hv (F.one .all x f).hd ++ [vf]) 1 = some (.int x) := atI_nat (j := 1) rfl
        have at2 : atI (hv (F.one .all x f).hd ++ [vf]) 2 = some vf := atI_nat (j := 2) rfl
        refine iteF ?_
        have at3 : atI (hv (F.one .all x f).hd ++ [vf]) ((((hv (F.one .all x f).hd ++ [vf]).length : Nat) : Int) - 1) = some vf := atI_nat (j := 2) rfl
        refine ⟨.ref wa, rfl, .ref a, rfl, .ref a, rfl, a, _, rfl, .inr sq2, _, 1, rfl, rfl, a, _, _, vf, rfl, rfl, sq2, at3, .ref na, rfl, .ref wa, vf, W, f, na, kvs, e, rfl, ⟨wa, sa, pa, fas, pas, rfl, X2⟩, fit, hf.same s2, by omega, hN2, by omega, hnd, fun y hy => ?_, fun ra H3 s3 hra => ?_⟩
        · obtain ⟨b, b1, b2⟩ := henv1 y hy
          exact ⟨b, b1, s2 _ _ b2⟩
        have X3 := X2.same s3
        have sq3 := SqT.same s3 sq2
        have gl3 : IL H3 la (rng W.n) := s3 _ _ (s2 _ _ gl1)
        refine ⟨.str "all", rfl, rfl, _, rfl, kF (by decide) ?_⟩
        refine ⟨.str "all", rfl, rfl, _, rfl, kT ?_⟩
        refine ⟨.ref la, rfl, la, rfl, ⟨_, SqL.of gl3⟩, fun D hD => ?_⟩
        refine lc_fil (fun s => decide ((((W.beh s x).filter (fun k => !sIn (val W f e) k)).length : Int) = 0)) gl3 hD (by rw [rng_len]; have := fit.n8; omega) (fun s hs G Y N sG hY hN' => ?_) (fun G sG gg => k1 D G ((s2.trans s3).trans sG) gg)
        refine ⟨rfl, .ref wa, rfl, .int s, rfl, .ref a, rfl, a, _, _, .int x, rfl, rfl, SqT.same sG sq3, at1, .ref wa, W, s, x, rfl, ⟨wa, sa, pa, fas, pas, rfl, X3.same sG⟩, fit.st, fun b G2 sb nb hb => ?_⟩
        refine ⟨b, rfl, ⟨_, SqL.of hb⟩, fun D2 hD2 => ?_⟩
        have hra2 := sb _ _ (sG _ _ hra)
        refine lc_fil (fun k => !sIn (val W f e) k) hb hD2 (by unfold Wd.beh; rw [List.length_map]; exact Nat.le_trans (List.length_filter_le _ _) fit.st) (fun j hj G3 Y3 N3 s3' hY3 hN3 => ?_) (fun G3 s3' g3 => ?_)
        · refine ⟨rfl, .int j, rfl, .ref ra, rfl, ra, _, rfl, .inl (SqL.of (s3' _ _ hra2)), rfl, flat_ints _, _, rfl, ?_⟩
          rw [if_pos rfl, in_ints]
          show if (!sIn (val W f e) j) = true then _ else _
          cases c : (!sIn (val W f e) j) with
          | true => exact iteT ⟨_, rfl, hY3 c _ (Same.refl _)⟩
          | false => exact iteF (hN3 c _ (Same.refl _))
        · refine ⟨D2, _, rfl, .inl (SqL.of g3), rfl, _, rfl, ite2 (fun c => ?_) (fun c => ?_)⟩
          · exact ⟨_, rfl, hY (by rw [List.length_map] at c; exact decide_eq_true (by have := of_decide_eq_true c; injection this)) _ (sb.trans s3')⟩
          · exact hN' (by rw [List.length_map] at c; exact decide_eq_false (fun z => c (decide_eq_true (congrArg V.int z)))) _ (sb.trans s3')
      | least =>
        refine ⟨.str "least", rfl, rfl, _, rfl, kF (by decide) ?_⟩
        refine ⟨.str "least", rfl, rfl, _, rfl, kF (by decide) ?_⟩
        refine ⟨.str "least", rfl, rfl, _, rfl, kF (by decide) ?_⟩
        refine ⟨.str "least", rfl, rfl, _, rfl, kF (by decide) ?_⟩
        refine ⟨.str "least", rfl, rfl, _, rfl, kF (by decide) ?_⟩
        refine ⟨.str "least", rfl, by show 2 ≤ sizeLine; decide, fun p hp => ⟨p, _, rfl, .inr (SqT.of upd_same), rfl, rfl, _, rfl, ?_⟩⟩
        have s2 := Same.new (o := .tup [.str "least", .str "most"]) hp
        generalize upd H1 p (.tup [.str "least", .str "most"]) = H2 at s2
        have X2 := X1.same s2
        have sq2 := SqT.same s2 sq1
        have hN2 := s2 _ _ hN1
        have at1 : atI (hv (F.one .least x f).hd ++ [vf]) 1 = some (.int x) := atI_nat (j := 1) rfl
        have at2 : atI (hv (F.one .least x f).hd ++ [vf]) 2 = some vf := atI_nat (j := 2) rfl
        refine iteT ?_
        refine ⟨Nat.zero_le _, fun q0 hq0 => ?_⟩
        have s3 := Same.new (o := .lst []) hq0
        have gq0 : IL (upd H2 q0 (.lst [])) q0 [] := upd_same
        generalize upd H2 q0 (.lst []) = H3 at s3 gq0
        refine ⟨.str "least", rfl, rfl, _, rfl, kF (by decide) ?_⟩
        have s23 := s2.trans s3
        have X3 := X1.same s23
        refine ⟨.ref wa, rfl, wa, _, _, .ref sa, rfl, rfl, SqT.of X3.w, rfl, sa, _, rfl, .inl (SqL.of X3.s), _, 1, rfl, rfl, _, rfl, ?_⟩
        rw [nW]
        refine ⟨by have := fit.n8; omega, by have := fit.n8; omega, ?_⟩
        refine for_range (lo := 0) (n := (((W.n : Nat) : Int) + 1).toNat) (fun i σ G => ∃ (y6 y7 y8 : Option V) (q : Addr), σ = [some (.ref wa), some (.ref a), some (.ref na), some (.ref la), some (.str "least"), some (.ref q), y6, y7, y8, none, none, none, none] ∧ Same H1 G ∧ IL G q (iter (fun X => val W f (setE e x X)) i []))
          ⟨_, _, _, _, rfl, s23, gq0⟩ ?_ ?_
        · clear X3 s23 gq0 s3 s2 sq2 hN2 X2
          rintro i σ G hi ⟨y6, y7, y8, q, rfl, sG, gq⟩
          have X3 := X1.same sG
          have sq3 := SqT.same sG sq1
          have hN3 := sG _ _ hN1
          intro na2 hna2
          have s2 := Same.new (o := .dK []) hna2
          have nn : na ≠ na2 := ne_of_none hN3 hna2
          refine ⟨na, _, s2 _ _ hN3, trivial, fun od => ?_⟩
          refine ⟨.ref na, rfl, na, od, rfl, .inl ⟨kvs, upd_same, ?_⟩⟩
          refine for_it (walk_keys (d := na) (o := od) (kvs := kvs)) (fun j σ G' => ∃ (y8 : Option V), σ = [some (.ref wa), some (.ref a), some (.ref na), some (.ref la), some (.str "least"), some (.ref q), some (.int (0 + (i : Int))), some (.ref na2), y8, none, none, none, none] ∧ G' na = some (.frz od (.dK kvs)) ∧ G' na2 = some (.dK (kvs.take j)) ∧
              ∀ b o, b ≠ na → b ≠ na2 → G b = some o → G' b = some o)
            ⟨_, rfl, upd_same, by rw [upd_ne nn.symm, upd_same]; rfl, fun b o n1 n2 e => by rw [upd_ne n1, upd_ne n2]; exact e⟩ (fun i σ G _ ⟨_, _, g, _⟩ => g) ?_ ?_
          · rintro j x0 σ G1 G2 hj ⟨y8, rfl, gN, gI, gK⟩ ⟨rfl, kk, vv, hkv, rfl⟩
            obtain ⟨v1, v2⟩ := valV_atW hnd hkv
            refine ⟨.ref na, rfl, kV kk, rfl, na, vv, rfl, .inl ⟨kvs, kk, .inr ⟨od, gN⟩, rfl, v1.symm⟩, .ref na2, rfl, kV kk, rfl, na2, _, rfl, DPut.k (k := kk) gI (by rw [List.length_take]; exact small1000 (by omega)), ?_⟩
            refine ⟨_, rfl, by rw [upd_ne nn]; exact gN, ?_, fun b o n1 n2 e => by rw [upd_ne n2]; exact gK b o n1 n2 e⟩
            rw [upd_same, putK_new _ v2, List.take_add_one, hkv]
            rfl
          · rintro σ G1 ⟨y8, rfl, gN, gI, gK⟩
            rw [List.take_length] at gI
            refine ⟨gN, ?_⟩
            have s3 : Same G (upd G1 na (.dK kvs)) := fun b o e => by
              by_cases e1 : b = na
              · subst e1
                rw [hN3] at e
                cases e
                exact upd_same
              · rw [upd_ne e1]
                exact gK b o e1 (ne_of_none e hna2) e
            have gI3 : (upd G1 na (.dK kvs)) na2 = some (.dK kvs) := by rw [upd_ne nn.symm]; exact gI
            generalize upd G1 na (.dK kvs) = G3 at s3 gI3
            refine ⟨.ref q, rfl, .ref na2, rfl, .ref a, rfl, a, _, 1, .int x, rfl, rfl, SqT.same s3 sq3, at1, na2, _, rfl, DPut.k (k := Sum.inl x) gI3 (small1000 (by omega)), ?_⟩
            have s4 : Same G (upd G3 na2 (.dK (putK kvs (Sum.inl x) (.ref q)))) := fun b o e => by
              rw [upd_ne (ne_of_none e hna2)]
              exact s3 b o e
            have gI4 : (upd G3 na2 (.dK (putK kvs (Sum.inl x) (.ref q)))) na2 = some (.dK (putK kvs (Sum.inl x) (.ref q))) := upd_same
            generalize upd G3 na2 (.dK (putK kvs (Sum.inl x) (.ref q))) = G4 at s4 gI4
            have lp := length_putK kvs (Sum.inl x) (V.ref q)
            have sG4 := sG.trans s4
            refine ⟨.ref wa, rfl, .ref a, rfl, a, _, 2, vf, rfl, rfl, SqT.same s4 sq3, at2, .ref na2, rfl, .ref wa, vf, W, f, na2, putK kvs (Sum.inl x) (.ref q), setE e x (iter (fun X => val W f (setE e x X)) i []), rfl, ⟨wa, sa, pa, fas, pas, rfl, X3.same s4⟩, fit, hf.same sG4, by omega, gI4, by omega, nd_putW hnd, fun y hy => ?_, fun ra H5 s5 hra => ⟨_, _, _, ra, rfl, sG4.trans s5, hra⟩⟩
            rw [valV_put]
            unfold setE
            by_cases c : y = x
            · rw [if_pos (by rw [c]), if_pos c]
              exact ⟨q, rfl, s4 _ _ gq⟩
            · rw [if_neg (fun z => c (by injection z)), if_neg c]
              obtain ⟨b, b1, b2⟩ := henv1 y (by simp only [fv, if_pos (show One.least.bind = true from rfl), List.mem_filter, decide_eq_true_eq]; exact ⟨hy, c⟩)
              exact ⟨b, b1, sG4 _ _ b2⟩
        · rintro σ G ⟨y6, y7, y8, q, rfl, sG, gq⟩
          refine ⟨.ref q, rfl, k1 q _ sG ?_⟩
          have : (((W.n : Nat) : Int) + 1).toNat = W.n + 1 := by omega
          rw [this] at gq
          exact gq
      | most =>
        refine ⟨.str "most", rfl, rfl, _, rfl, kF (by decide) ?_⟩
        refine ⟨.str "most", rfl, rfl, _, rfl, kF (by decide) ?_⟩
        refine ⟨.str "most", rfl, rfl, _, rfl, kF (by decide) ?_⟩
        refine ⟨.str "most", rfl, rfl, _, rfl, kF (by decide) ?_⟩
        refine ⟨.str "most", rfl, rfl, _, rfl, kF (by decide) ?_⟩
        refine ⟨.str "most", rfl, by show 2 ≤ sizeLine; decide, fun p hp => ⟨p, _, rfl, .inr (SqT.of upd_same), rfl, rfl, _, rfl, ?_⟩⟩
        have s2 := Same.new (o := .tup [.str "least", .str "most"]) hp
        generalize upd H1 p (.tup [.str "least", .str "most"]) = H2 at s2
        have X2 := X1.same s2
        have sq2 := SqT.same s2 sq1
        have hN2 := s2 _ _ hN1
        have at1 : atI (hv (F.one .most x f).hd ++ [vf]) 1 = some (.int x) := atI_nat (j := 1) rfl
        have at2 : atI (hv (F.one .most x f).hd ++ [vf]) 2 = some vf := atI_nat (j := 2) rfl
        refine iteT ?_
        refine ⟨Nat.zero_le _, fun q0 hq0 => ?_⟩
        have s3 := Same.new (o := .lst []) hq0
        have gq0 : IL (upd H2 q0 (.lst [])) q0 [] := upd_same
        generalize upd H2 q0 (.lst []) = H3 at s3 gq0
        refine ⟨.str "most", rfl, rfl, _, rfl, kT ?_⟩
        have gl3 : IL H3 la (rng W.n) := s3 _ _ (s2 _ _ gl1)
        refine ⟨.ref la, rfl, la, _, rfl, .inl (SqL.of gl3), fun q1 hq1 => ?_⟩
        have s3b := Same.new (o := .lst ((rng W.n).map V.int)) hq1
        replace s3 := s3.trans s3b
        replace gq0 : IL (upd H3 q1 (.lst ((rng W.n).map V.int))) q1 (rng W.n) := upd_same
        generalize upd H3 q1 (.lst ((rng W.n).map V.int)) = H4 at s3 gq0
        have s23 := s2.trans s3
        have X3 := X1.same s23
        refine ⟨.ref wa, rfl, wa, _, _, .ref sa, rfl, rfl, SqT.of X3.w, rfl, sa, _, rfl, .inl (SqL.of X3.s), _, 1, rfl, rfl, _, rfl, ?_⟩
        rw [nW]
        refine ⟨by have := fit.n8; omega, by have := fit.n8; omega, ?_⟩
        refine for_range (lo := 0) (n := (((W.n : Nat) : Int) + 1).toNat) (fun i σ G => ∃ (y6 y7 y8 : Option V) (q : Addr), σ = [some (.ref wa), some (.ref a), some (.ref na), some (.ref la), some (.str "most"), some (.ref q), y6, y7, y8, none, none, none, none] ∧ Same H1 G ∧ IL G q (iter (fun X => val W f (setE e x X)) i (rng W.n)))
          ⟨_, _, _, _, rfl, s23, gq0⟩ ?_ ?_
        · clear X3 s23 gq0 s3 s2 sq2 hN2 X2
          rintro i σ G hi ⟨y6, y7, y8, q, rfl, sG, gq⟩
          have X3 := X1.same sG
          have sq3 := SqT.same sG sq1
          have hN3 := sG _ _ hN1
          intro na2 hna2
          have s2 := Same.new (o := .dK []) hna2
          have nn : na ≠ na2 := ne_of_none hN3 hna2
          refine ⟨na, _, s2 _ _ hN3, trivial, fun od => ?_⟩
          refine ⟨.ref na, rfl, na, od, rfl, .inl ⟨kvs, upd_same, ?_⟩⟩
          refine for_it (walk_keys (d := na) (o := od) (kvs := kvs)) (fun j σ G' => ∃ (y8 : Option V), σ = [some (.ref wa), some (.ref a), some (.ref na), some (.ref la), some (.str "most"), some (.ref q), some (.int (0 + (i : Int))), some (.ref na2), y8, none, none, none, none] ∧ G' na = some (.frz od (.dK kvs)) ∧ G' na2 = some (.dK (kvs.take j)) ∧
              ∀ b o, b ≠ na → b ≠ na2 → G b = some o → G' b = some o)
            ⟨_, rfl, upd_same, by rw [upd_ne nn.symm, upd_same]; rfl, fun b o n1 n2 e => by rw [upd_ne n1, upd_ne n2]; exact e⟩ (fun i σ G _ ⟨_, _, g, _⟩ => g) ?_ ?_
          · rintro j x0 σ G1 G2 hj ⟨y8, rfl, gN, gI, gK⟩ ⟨rfl, kk, vv, hkv, rfl⟩
            obtain ⟨v1, v2⟩ := valV_atW hnd hkv
            refine ⟨.ref na, rfl, kV kk, rfl, na, vv, rfl, .inl ⟨kvs, kk, .inr ⟨od, gN⟩, rfl, v1.symm⟩, .ref na2, rfl, kV kk, rfl, na2, _, rfl, DPut.k (k := kk) gI (by rw [List.length_take]; exact small1000 (by omega)), ?_⟩
            refine ⟨_, rfl, by rw [upd_ne nn]; exact gN, ?_, fun b o n1 n2 e => by rw [upd_ne n2]; exact gK b o n1 n2 e⟩
            rw [upd_same, putK_new _ v2, List.take_add_one, hkv]
            rfl
          · rintro σ G1 ⟨y8, rfl, gN, gI, gK⟩
            rw [List.take_length] at gI
            refine ⟨gN, ?_⟩
            have s3 : Same G (upd G1 na (.dK kvs)) := fun b o e => by
              by_cases e1 : b = na
              · subst e1
                rw [hN3] at e
                cases e
                exact upd_same
              · rw [upd_ne e1]
                exact gK b o e1 (ne_of_none e hna2) e
            have gI3 : (upd G1 na (.dK kvs)) na2 = some (.dK kvs) := by rw [upd_ne nn.symm]; exact gI
            generalize upd G1 na (.dK kvs) = G3 at s3 gI3
            refine ⟨.ref q, rfl, .ref na2, rfl, .ref a, rfl, a, _, 1, .int x, rfl, rfl, SqT.same s3 sq3, at1, na2, _, rfl, DPut.k (k := Sum.inl x) gI3 (small1000 (by omega)), ?_⟩
            have s4 : Same G (upd G3 na2 (.dK (putK kvs (Sum.inl x) (.ref q)))) := fun b o e => by
              rw [upd_ne (ne_of_none e hna2)]
              exact s3 b o e
            have gI4 : (upd G3 na2 (.dK (putK kvs (Sum.inl x) (.ref q)))) na2 = some (.dK (putK kvs (Sum.inl x) (.ref q))) := upd_same
            generalize upd G3 na2 (.dK (putK kvs (Sum.inl x) (.ref q))) = G4 at s4 gI4
            have lp := length_putK kvs (Sum.inl x) (V.ref q)
            have sG4 := sG.trans s4
            refine ⟨.ref wa, rfl, .ref a, rfl, a, _, 2, vf, rfl, rfl, SqT.same s4 sq3, at2, .ref na2, rfl, .ref wa, vf, W, f, na2, putK kvs (Sum.inl x) (.ref q), setE e x (iter (fun X => val W f (setE e x X)) i (rng W.n)), rfl, ⟨wa, sa, pa, fas, pas, rfl, X3.same s4⟩, fit, hf.same sG4, by omega, gI4, by omega, nd_putW hnd, fun y hy => ?_, fun ra H5 s5 hra => ⟨_, _, _, ra, rfl, sG4.trans s5, hra⟩⟩
            rw [valV_put]
            unfold setE
            by_cases c : y = x
            · rw [if_pos (by rw [c]), if_pos c]
              exact ⟨q, rfl, s4 _ _ gq⟩
            · rw [if_neg (fun z => c (by injection z)), if_neg c]
              obtain ⟨b, b1, b2⟩ := henv1 y (by simp only [fv, if_pos (show One.most.bind = true from rfl), List.mem_filter, decide_eq_true_eq]; exact ⟨hy, c⟩)
              exact ⟨b, b1, sG4 _ _ b2⟩
        · rintro σ G ⟨y6, y7, y8, q, rfl, sG, gq⟩
          refine ⟨.ref q, rfl, k1 q _ sG ?_⟩
          have : (((W.n : Nat) : Int) + 1).toNat = W.n + 1 := by omega
          rw [this] at gq
          exact gq
end
end Fw

set_option maxRecDepth 100000
set_option maxHeartbeats 4000000
namespace Fw
open PySem PySem.Spec PyProof.Rows L2
theorem ok_nn : ∀ {t : F}, Ok t → NN t
  | .nul _, _ => trivial
  | .leaf .has _, h => h.1
  | .leaf .lacks _, h => h.1
  | .leaf .var _, h => (V4_nonneg h).1
  | .two _ f g, h => ⟨ok_nn h.1, ok_nn h.2⟩
  | .one k n f, h => ⟨by
      have := h.1
      split at this
      · exact (V4_nonneg this).1
      · exact this.1, ok_nn h.2⟩
theorem nn_opp : ∀ {t : F}, NN t → NN (opp t)
  | .nul _, _ => trivial
  | .leaf _ _, h => h
  | .two _ f g, h => ⟨nn_opp h.1, nn_opp h.2⟩
  | .one _ _ f, h => ⟨h.1, nn_opp h.2⟩
section
variable {P : Program} {w : World} {K : PySem.W.Frag} {mg : Str → Option Value} {base : Heap} {C J B NC FE OD : Addr}
theorem all_value {f : Addr} {fd : FuncData} (FF : Fun K "_law_value" "_law_value" s_law_value f fd) (b : Binds K fd a_law_value []) (m : mg "_law_value" = some (.ref f)) (T : Txt K mg C J B)
    (h_law_behind : Has P w K mg base "_law_behind" 1 a_law_behind (spBehind K)) : ∀ n, Has P w K mg base "_law_value" (n + 2) a_law_value (spVal K n)
  | 0 => ⟨f, fd, m, FF.kp, b, noneOk⟩
  | n + 1 => ⟨f, fd, m, FF.kp, b, ok_law_value n FF T h_law_behind (all_value FF b m T h_law_behind n)⟩
def spTruth (K : PySem.W.Frag) : Sp := fun vs H Q _ => ∃ (v sv : V) (W : Wd) (t : F) (e : Int → List Int), vs = [v, sv] ∧ WAt H v W ∧ W.Fit ∧ IsF K H sv t ∧ t.depth ≤ 20 ∧ fv t = [] ∧
  ∀ (a : Addr) H', Same H H' → IL H' a (val W t e) → Q (.ref a) H'
theorem ok_law_truth {f : Addr} {fd : FuncData} (FF : Fun K "_law_truth" "_law_truth" s_law_truth f fd) (T : Txt K mg C J B) (h_law_value : Has P w K mg base "_law_value" 22 a_law_value (spVal K 20)) : FnOk P w K mg base CX0 23 f fd a_law_truth (spTruth K) := by
  refine FF.ok sc_law_truth (fun vs H Q E h => ?_) (fun cdv A outer s H vs Q E hr h => ?_)
  · obtain ⟨v, sv, W, t, e, rfl, _⟩ := h
    rfl
  · obtain ⟨v, sv, W, t, e, rfl, hW, fit, ht, hdep, hc, k⟩ := h
    refine ⟨_, (pss_one (ps_ret (pe_callH h_law_value (hr.mono (by omega)) (pa_cons (pv 0) (pa_cons (pv 1) (pa_cons pe_dnewK pa_nil)))))), ?_⟩
    refine ⟨v, rfl, sv, rfl, fun na hna => ⟨v, sv, W, t, na, [], e, rfl, hW.same (Same.new hna), fit, ht.same (Same.new hna), hdep, upd_same, by simp, List.nodup_nil, fun x hx => ?_, fun a H' s' ha => ?_⟩⟩
    · rw [hc] at hx
      cases hx
    · exact k a H' ((Same.new hna).trans s') ha
end
end Fw

set_option maxRecDepth 100000
set_option maxHeartbeats 4000000
namespace Fw
open PySem PySem.Spec PyProof.Rows L2
theorem pe_makeH0 {X : Cx} {x : Str} {C : Addr} {k : Nat} {ps : List Str} {sp : Sp} {p pos : Pos} (h : HasC X.prog X.w X.K X.mg X.base x C k ps sp) (hr : Room (k + 1) X.A) (hg : Gl X x := by rfl)
    (hdb : (x == ("__debug__" : Str)) = false := by decide) :
    PE X (.Call (.Name x p) [] [] pos) (tMake C sp [] E0 tNil) := by
  obtain ⟨f, fd, m, M, b, G⟩ := h
  exact pe_make0 M G hr hg m b .nil pass0 hdb
/-! ### words -/
abbrev words : List Str := ["true", "false", "has", "lacks", "var", "and", "or", "some", "all", "least", "most"]
def wcode : Hd → Nat
  | .nul true => 0
  | .nul false => 1
  | .leaf .has _ => 2
  | .leaf .lacks _ => 3
  | .leaf .var _ => 4
  | .two true => 5
  | .two false => 6
  | .one .some _ => 7
  | .one .all _ => 8
  | .one .least _ => 9
  | .one .most _ => 10
theorem words_at (h : Hd) : words[wcode h]? = some (hw h) := by
  cases h with
  | nul b => cases b <;> rfl
  | leaf k n => cases k <;> rfl
  | two b => cases b <;> rfl
  | one k n => cases k <;> rfl
theorem words_nodup : words.Nodup := by decide +kernel
theorem wcode_lt (h : Hd) : wcode h < 11 := (List.getElem?_eq_some_iff.mp (words_at h)).1
theorem hw_code {a b : Hd} (e : hw a = hw b) : wcode a = wcode b :=
  (List.getElem?_inj (wcode_lt a) words_nodup).mp (by rw [words_at, words_at, e])
def hnum : Hd → Option Int
  | .leaf _ n => some n
  | .one _ n => some n
  | _ => none
theorem hd_of {a b : Hd} (e : wcode a = wcode b) (n : hnum a = hnum b) : a = b := by
  cases a with
  | nul x => cases b with
    | nul y => cases x <;> cases y <;> first | rfl | cases e
    | leaf k m => cases x <;> cases k <;> cases e
    | two y => cases x <;> cases y <;> cases e
    | one k m => cases x <;> cases k <;> cases e
  | leaf k m => cases b with
    | nul y => cases k <;> cases y <;> cases e
    | leaf k' m' =>
      obtain rfl : m = m' := Option.some.inj n
      cases k <;> cases k' <;> first | rfl | cases e
    | two y => cases k <;> cases y <;> cases e
    | one k' m' => cases k <;> cases k' <;> cases e
  | two x => cases b with
    | nul y => cases x <;> cases y <;> cases e
    | leaf k m => cases x <;> cases k <;> cases e
    | two y => cases x <;> cases y <;> first | rfl | cases e
    | one k m => cases x <;> cases k <;> cases e
  | one k m => cases b with
    | nul y => cases k <;> cases y <;> cases e
    | leaf k' m' => cases k <;> cases k' <;> cases e
    | two y => cases k <;> cases y <;> cases e
    | one k' m' =>
      obtain rfl : m = m' := Option.some.inj n
      cases k <;> cases k' <;> first | rfl | cases e
def hdK : Hd → List NestedKey
  | .nul b => [.text (wN b)]
  | .leaf k n => [.text (wL k), .num n]
  | .two b => [.text (wT b)]
  | .one k n => [.text (wO k), .num n]
theorem hdK_inj {a b : Hd} (e : hdK a = hdK b) : a = b := by
  have e0 : hw a = hw b := by
    have z : ∀ h : Hd, (hdK h)[0]? = some (.text (hw h)) := fun h => by cases h <;> rfl
    have := z a
    rw [e, z b] at this
    exact (NestedKey.text.inj (Option.some.inj this)).symm
  have e1 : hnum a = hnum b := by
    have z : ∀ h : Hd, (hdK h)[1]? = (hnum h).map NestedKey.num := fun h => by cases h <;> rfl
    have := z a
    rw [e, z b] at this
    cases ha : hnum a with
    | none => cases hb : hnum b with
      | none => rfl
      | some m => rw [ha, hb] at this; cases this
    | some n => cases hb : hnum b with
      | none => rw [ha, hb] at this; cases this
      | some m =>
        rw [ha, hb] at this
        rw [NestedKey.num.inj (Option.some.inj this)]
  exact hd_of (hw_code e0) e1
/-! ### places -/
def ix : List F → F → Nat
  | [], _ => 0
  | a :: l, u => if a = u then 0 else ix l u + 1
theorem ix_get : ∀ {S : List F} {u : F}, u ∈ S → S[ix S u]? = some u
  | a :: l, u, h => by
    simp only [ix]
    split
    · rename_i e
      rw [e]
      rfl
    · rename_i e
      rw [List.getElem?_cons_succ]
      exact ix_get ((List.mem_cons.mp h).resolve_left fun z => e z.symm)
theorem ix_lt {S : List F} {u : F} (h : u ∈ S) : ix S u < S.length := (List.getElem?_eq_some_iff.mp (ix_get h)).1
theorem ix_inj {S : List F} {u v : F} (hu : u ∈ S) (hv : v ∈ S) (e : ix S u = ix S v) : u = v := by
  have := ix_get hu
  rw [e, ix_get hv] at this
  exact (Option.some.inj this).symm
theorem ix_of {S : List F} {i : Nat} {u : F} (nd : S.Nodup) (h : S[i]? = some u) : ix S u = i :=
  (List.getElem?_inj (ix_lt (List.mem_of_getElem? h)) nd).mp (by rw [ix_get (List.mem_of_getElem? h), h])
theorem ix_app {T : List F} : ∀ {S : List F} {u : F}, u ∈ S → ix (S ++ T) u = ix S u
  | a :: l, u, h => by
    simp only [List.cons_append, ix]
    split
    · rfl
    · rename_i e
      rw [ix_app ((List.mem_cons.mp h).resolve_left fun z => e z.symm)]
theorem ix_new : ∀ {S : List F} {t : F}, t ∉ S → ix (S ++ [t]) t = S.length
  | [], t, _ => by simp [ix]
  | a :: l, t, h => by
    simp only [List.cons_append, ix, List.length_cons]
    rw [if_neg fun e => h (by rw [e]; exact List.mem_cons_self), ix_new fun z => h (List.mem_cons_of_mem _ z)]
def kyF (S : List F) (t : F) : NestedKey := .tup [.tup (hdK t.hd), .tup (t.kids.map fun u => .num (ix S u : Nat))]
theorem kyF_app {S T : List F} {t : F} (h : ∀ u ∈ t.kids, u ∈ S) : kyF (S ++ T) t = kyF S t := by
  unfold kyF
  have : (t.kids.map fun u => NestedKey.num (ix (S ++ T) u : Nat)) = t.kids.map fun u => NestedKey.num (ix S u : Nat) := List.map_congr_left fun u hu => by rw [ix_app (h u hu)]
  rw [this]
theorem f_of {t u : F} (h : t.hd = u.hd) (k : t.kids = u.kids) : t = u := by
  cases t <;> cases u <;> simp only [F.hd, F.kids, Hd.nul.injEq, Hd.leaf.injEq, Hd.two.injEq, Hd.one.injEq, List.cons.injEq, and_true, reduceCtorEq] at h k <;> simp_all
theorem kyF_inj {S : List F} {t u : F} (ht : ∀ x ∈ t.kids, x ∈ S) (hu : ∀ x ∈ u.kids, x ∈ S) (e : kyF S t = kyF S u) : t = u := by
  unfold kyF at e
  injection e with e
  injection e with e1 e
  injection e with e2 _
  injection e1 with e1
  injection e2 with e2
  refine f_of (hdK_inj e1) ?_
  have : ∀ (l m : List F), (∀ x ∈ l, x ∈ S) → (∀ x ∈ m, x ∈ S) → (l.map fun u => NestedKey.num (ix S u : Nat)) = (m.map fun u => NestedKey.num (ix S u : Nat)) → l = m := by
    intro l
    induction l with
    | nil => intro m _ _ q; cases m with
      | nil => rfl
      | cons _ _ => cases q
    | cons a l ih => intro m hl hm q; cases m with
      | nil => cases q
      | cons b m =>
        rw [List.map_cons, List.map_cons] at q
        injection q with q1 q2
        injection q1 with q1
        rw [ix_inj (hl a List.mem_cons_self) (hm b List.mem_cons_self) (by omega), ih m (fun x hx => hl x (List.mem_cons_of_mem _ hx)) (fun x hx => hm x (List.mem_cons_of_mem _ hx)) q2]
  exact this _ _ ht hu e2
theorem nums_deep : ∀ l : List F, ∀ S, NestedKey.depthAll (l.map fun u => NestedKey.num (ix S u : Nat)) = 0
  | [], _ => by simp [NestedKey.depthAll]
  | a :: l, S => by simp [NestedKey.depthAll, NestedKey.depth, nums_deep l S]
theorem hdK_deep (h : Hd) : NestedKey.depthAll (hdK h) = 0 := by cases h <;> simp [hdK, NestedKey.depthAll, NestedKey.depth]
theorem kyF_deep (S : List F) (t : F) : (kyF S t).depth ≤ 8 := by
  simp only [kyF, NestedKey.depth, NestedKey.depthAll, nums_deep, hdK_deep]
  decide
theorem kis_hd {K : PySem.W.Frag} {H : Hp} {a : Addr} (h : Hd) (s : SqT K H a (hv h)) : KIs K H (.ref a) (.tup (hdK h)) := by
  cases h with
  | nul b => exact .tup s (.cons (.str _) .nil)
  | leaf k n => exact .tup s (.cons (.str _) (.cons (.int _) .nil))
  | two b => exact .tup s (.cons (.str _) .nil)
  | one k n => exact .tup s (.cons (.str _) (.cons (.int _) .nil))
theorem kall_ints {K : PySem.W.Frag} {H : Hp} (S : List F) : ∀ l : List F, KAll K H (l.map fun u => V.int (ix S u : Nat)) (l.map fun u => NestedKey.num (ix S u : Nat))
  | [] => .nil
  | a :: l => .cons (.int _) (kall_ints S l)
theorem kis_key {K : PySem.W.Frag} {H : Hp} {q h i : Addr} {S : List F} {t : F} (sq : SqT K H q [.ref h, .ref i]) (sh : SqT K H h (hv t.hd)) (si : SqT K H i (t.kids.map fun u => V.int (ix S u : Nat))) : KIs K H (.ref q) (kyF S t) :=
  .tup sq (.cons (kis_hd _ sh) (.cons (.tup si (kall_ints S _)) .nil))
/-! ### the shelf -/
structure TxtS (K : PySem.W.Frag) (SC : Addr) : Prop where
  cl : Cls K SC
  nH : NoAttr K SC "heads"
  nI : NoAttr K SC "inner"
  nF : NoAttr K SC "free"
  nS : NoAttr K SC "statements"
  nN : NoAttr K SC "_numbers"
structure SR where
  (p dx ha ia fa sa na : Addr)
def sf (r : SR) : List (Str × V) := [("heads", .ref r.ha), ("inner", .ref r.ia), ("free", .ref r.fa), ("statements", .ref r.sa), ("_numbers", .ref r.na)]
def SR.Own (r : SR) (b : Addr) : Prop := b = r.ha ∨ b = r.ia ∨ b = r.fa ∨ b = r.sa ∨ b = r.na
structure Er where
  (h i f : Addr)
  v : V
def FreAt (K : PySem.W.Frag) (H : Hp) (f : Addr) (t : F) : Prop := ∃ L : List Int, SqT K H f (L.map V.int) ∧ (∀ x, x ∈ L ↔ x ∈ fv t) ∧ L.length ≤ t.size
structure Ent (K : PySem.W.Frag) (H : Hp) (S : List F) (t : F) (e : Er) : Prop where
  hd : SqT K H e.h (hv t.hd)
  inn : SqT K H e.i (t.kids.map fun u => V.int (ix S u : Nat))
  fre : FreAt K H e.f t
  st : IsF K H e.v t
structure Sh (P : Program) (w : World) (K : PySem.W.Frag) (SC : Addr) (H : Hp) (r : SR) (S : List F) : Prop where
  obj : H r.p = some (.ins SC r.dx (sf r))
  nd : S.Nodup
  cl : ∀ t ∈ S, ∀ u ∈ t.kids, u ∈ S
  ne : r.ha ≠ r.ia ∧ r.ha ≠ r.fa ∧ r.ha ≠ r.sa ∧ r.ia ≠ r.fa ∧ r.ia ≠ r.sa ∧ r.fa ≠ r.sa
  ents : ∃ E : List Er, H r.ha = some (.lst (E.map fun e => V.ref e.h)) ∧ H r.ia = some (.lst (E.map fun e => V.ref e.i)) ∧ H r.fa = some (.lst (E.map fun e => V.ref e.f)) ∧ H r.sa = some (.lst (E.map fun e => e.v)) ∧
    E.length = S.length ∧ ∀ (i : Nat) (t : F) (e : Er), S[i]? = some t → E[i]? = some e → Ent K H S t e
  nums : ∃ kvs, H r.na = some (DNs P w r.na kvs) ∧ KeysOk K H kvs ∧ kvs.length = S.length ∧ ∀ k v, valN kvs k = some v ↔ ∃ (i : Nat) (t : F), S[i]? = some t ∧ k = kyF S t ∧ v = .int (i : Nat)
def Kx (r : SR) (H H' : Hp) : Prop := ∀ b o, ¬ r.Own b → H b = some o → H' b = some o
theorem Kx.refl (r : SR) (H : Hp) : Kx r H H := fun _ _ _ h => h
theorem Kx.trans {r : SR} {H H1 H2 : Hp} (a : Kx r H H1) (b : Kx r H1 H2) : Kx r H H2 := fun c o n h => b c o n (a c o n h)
theorem Kx.same {r : SR} {H H' : Hp} (s : Same H H') : Kx r H H' := fun b o _ h => s b o h
theorem Kx.put {r : SR} {H H' : Hp} {d : Addr} {o : HO} (k : Kx r H H') (h : r.Own d) : Kx r H (upd H' d o) := fun b u n e => by
  have nb : b ≠ d := fun z => n (by rw [z]; exact h)
  rw [upd_ne nb]
  exact k b u n e
theorem KeysOk.tk {K : PySem.W.Frag} {H H' : Hp} {kvs : List NK} (k : TKp K H H') (h : KeysOk K H kvs) : KeysOk K H' kvs := fun e he => ⟨(h e he).1.map k, (h e he).2⟩
theorem FreAt.tk {K : PySem.W.Frag} {H H' : Hp} {f : Addr} {t : F} (k : TKp K H H') (h : FreAt K H f t) : FreAt K H' f t := by
  obtain ⟨L, h1, h2⟩ := h
  exact ⟨L, k _ _ h1, h2⟩
theorem Ent.tk {K : PySem.W.Frag} {H H' : Hp} {S : List F} {t : F} {e : Er} (k : TKp K H H') (h : Ent K H S t e) : Ent K H' S t e := ⟨k _ _ h.hd, k _ _ h.inn, h.fre.tk k, h.st.map k⟩
theorem Ent.app {K : PySem.W.Frag} {H : Hp} {S T : List F} {t : F} {e : Er} (c : ∀ u ∈ t.kids, u ∈ S) (h : Ent K H S t e) : Ent K H (S ++ T) t e := ⟨h.hd, by
  have : (t.kids.map fun u => V.int (ix (S ++ T) u : Nat)) = t.kids.map fun u => V.int (ix S u : Nat) := List.map_congr_left fun u hu => by rw [ix_app (c u hu)]
  rw [this]
  exact h.inn, h.fre, h.st⟩
theorem Sh.keep {P : Program} {w : World} {K : PySem.W.Frag} {SC : Addr} {H H' : Hp} {r : SR} {S : List F} (k : ∀ b o, (r.Own b ∨ b = r.p) → H b = some o → H' b = some o) (t : TKp K H H') (h : Sh P w K SC H r S) : Sh P w K SC H' r S := by
  obtain ⟨obj, nd, cl, ne, ⟨E, h1, h2, h3, h4, h5, h6⟩, ⟨kvs, g1, g2, g3, g4⟩⟩ := h
  exact ⟨k _ _ (.inr rfl) obj, nd, cl, ne, ⟨E, k _ _ (.inl (.inl rfl)) h1, k _ _ (.inl (.inr (.inl rfl))) h2, k _ _ (.inl (.inr (.inr (.inl rfl)))) h3, k _ _ (.inl (.inr (.inr (.inr (.inl rfl))))) h4, h5, fun i t' e e1 e2 => (h6 i t' e e1 e2).tk t⟩,
    ⟨kvs, k _ _ (.inl (.inr (.inr (.inr (.inr rfl))))) g1, g2.tk t, g3, g4⟩⟩
theorem TKp.same {K : PySem.W.Frag} {H H' : Hp} (s : Same H H') : TKp K H H' := fun _ _ h => SqT.same s h
theorem Sh.same {P : Program} {w : World} {K : PySem.W.Frag} {SC : Addr} {H H' : Hp} {r : SR} {S : List F} (s : Same H H') (h : Sh P w K SC H r S) : Sh P w K SC H' r S := h.keep (fun b o _ e => s b o e) (.same s)
section
variable {P : Program} {w : World} {K : PySem.W.Frag} {mg : Str → Option Value} {base : Heap} {C J B SC HC STP : Addr}
/-! ### _free_in -/
def spFree (K : PySem.W.Frag) (SC : Addr) : Sp := fun vs H Q _ => ∃ (r : SR) (h i : Addr) (S : List F) (E : List Er) (t : F), vs = [.ref r.p, .ref h, .ref i] ∧ H r.p = some (.ins SC r.dx (sf r)) ∧ H r.fa = some (.lst (E.map fun e => V.ref e.f)) ∧ E.length = S.length ∧
  (∀ (j : Nat) (u : F) (e : Er), S[j]? = some u → E[j]? = some e → FreAt K H e.f u) ∧ SqT K H h (hv t.hd) ∧ SqT K H i (t.kids.map fun u => V.int (ix S u : Nat)) ∧ (∀ u ∈ t.kids, u ∈ S) ∧ t.size ≤ 63 ∧
  ∀ f H', Same H H' → FreAt K H' f t → Q (.ref f) H'
theorem sum_take {l : List F} {i : Nat} {u : F} (h : l[i]? = some u) : ((l.take (i + 1)).map F.size).sum = ((l.take i).map F.size).sum + u.size := by
  rw [List.take_add_one, h]
  simp
theorem ok_free_in {f : Addr} {fd : FuncData} (FF : Fun K "_free_in" "Shelf._free_in" s_Shelf__free_in f fd) (T : Txt K mg C J B) (TS : TxtS K SC) : FnOk P w K mg base CX0 1 f fd a_Shelf__free_in (spFree K SC) := by
  refine FF.ok sc_Shelf__free_in (fun vs H Q E h => ?_) (fun cdv A outer s H vs Q E hr h => ?_)
  · obtain ⟨r, h, i, S, E, t, rfl, _⟩ := h
    rfl
  · obtain ⟨r, h, i, S, E, t, rfl, hp, hfa, hE, hfre, hh, hi, hk, hsz, k⟩ := h
    refine ⟨_, (pss_cons (ps_setLc2 (i := 3) (own := [("at", 4), ("variable", 5)]) (vs1 := [5]) rfl sc_Shelf__free_in.nd rfl rfl (sw_true rfl rfl rfl (by decide +kernel)) (pi_tup (pv 2)) (blkOk_by (own := [("at", 4), ("variable", 5)]) (N := n_Shelf__free_in) (sc := defScope s_Shelf__free_in) (by decide +kernel)) (by decide) (fun _ _ _ _ _ => (pg_name (i := 4) sc_Shelf__free_in.nd rfl (.inl rfl))) (fun _ _ _ _ _ => pts_nil) (fun _ _ _ _ _ => (@id (PI _ _ _ (iTup K _)) (pi_tup (pe_ix (@id (IxR _ (rIxL K)) ix_list) (show PE _ _ (tFld K _ "free") from pe_fld (pv 0) rfl) (pv 4) (fun _ _ => rfl))))) (fun _ _ _ _ _ => (pg_name (i := 5) sc_Shelf__free_in.nd rfl (.inl rfl))) (fun _ _ _ _ _ => pts_nil) (fun _ _ _ _ _ => (pv 5)))
      (pss_cons (ps_if (pt_cmpR op_eq (pe_ix ix_tup (pv 1) pe_int (fun _ _ => rfl)) pe_str (nomark _)) (pss_one (ps_expr (pe_bm PySem.F.plainAttrs_list PySem.F.slot_list_append PySem.F.type_list_append mt_append (pv 3) (pa_cons (pe_ix ix_tup (pv 1) pe_int (fun _ _ => rfl)) pa_nil)))) pss_nil)
      (pss_cons (ps_if (pt_cmpR op_in_seq (pe_ix ix_tup (pv 1) pe_int (fun _ _ => rfl)) (pe_glob rfl T.m_BINDERS (show RelV (.ref _) _ from rfl)) (by rfl)) (pss_one (ps_setLc (i := 3) (own := [("variable", 5)]) (g := gName 5) rfl sc_Shelf__free_in.nd rfl rfl (sw_true rfl rfl rfl (by decide +kernel)) (pi_list (pv 3)) (blkOk_by (own := [("variable", 5)]) (N := n_Shelf__free_in) (sc := defScope s_Shelf__free_in) (by decide +kernel)) (fun _ _ _ _ _ => (pg_name (i := 5) sc_Shelf__free_in.nd rfl (.inl rfl))) (fun _ _ _ _ _ => (pts_one (pt_cmpR op_ne (pv 5) (pe_ix (@id (IxR _ (rIxT K)) ix_tup) (pv 1) pe_int (fun _ _ => rfl)) (nomark _)))) (fun _ _ _ _ _ => (pv 5)))) pss_nil)
      (pss_one (ps_ret (pe_callTy call_tuple_of rfl T.z_tuple (by decide +kernel) (pa_cons (pe_callB (cr_sortedSet rfl) rfl T.z_sorted (by decide +kernel) (pa_cons (pe_callTy (show CallR _ _ (rSetL K w) from call_setL rfl) rfl T.z_set (by decide +kernel) (pa_cons (pv 3) pa_nil)) pa_nil)) pa_nil))))))), ?_⟩
    have small : ∀ n : Nat, n ≤ 1000 → n < sizeLine := fun n hn => small1000 hn
    have ksz := kids_size t
    refine ⟨.ref i, rfl, i, rfl, ⟨_, hi⟩, fun D hD => ?_⟩
    refine lc2_it walk_tup (fun m G => Same H G ∧ ∃ acc : List Int, G D = some (.lst (acc.map V.int)) ∧ (∀ x, x ∈ acc ↔ ∃ u ∈ t.kids.take m, x ∈ fv u) ∧ acc.length ≤ ((t.kids.take m).map F.size).sum) ⟨Same.new hD, [], upd_same, by simp, by simp⟩ (fun m G _ q => SqT.same q.1 hi) ?_ ?_
    · rintro m x G G' hm ⟨sG, acc, gD, hacc, hlen⟩ ⟨rfl, hx⟩
      rw [List.length_map] at hm
      obtain ⟨u, hu⟩ : ∃ u, t.kids[m]? = some u := ⟨t.kids[m], by simp [hm]⟩
      rw [List.getElem?_map, hu] at hx
      obtain rfl := Option.some.inj hx
      have hS := ix_get (hk u (List.mem_of_getElem? hu))
      obtain ⟨e, he⟩ : ∃ e, E[ix S u]? = some e := ⟨E[ix S u]'(by rw [hE]; exact ix_lt (hk u (List.mem_of_getElem? hu))), by simp⟩
      obtain ⟨L, hL, memL, lenL⟩ := hfre _ u e hS he
      have st := sum_take hu
      have tot : ((t.kids.take (m + 1)).map F.size).sum ≤ (t.kids.map F.size).sum := by
        have := congrArg (fun l => (l.map F.size).sum) (List.take_append_drop (m + 1) t.kids)
        simp only [List.map_append, List.sum_append] at this
        omega
      refine ⟨rfl, .ref r.p, rfl, r.p, SC, r.dx, _, .ref r.fa, rfl, sG _ _ hp, TS.cl, TS.nF, rfl, .int (ix S u : Nat), rfl, r.fa, _, _, .ref e.f, rfl, rfl, SqL.of (sG _ _ hfa), atI_nat (j := ix S u) (by rw [List.getElem?_map, he]; rfl), e.f, rfl, ⟨_, SqT.same sG hL⟩, ?_⟩
      refine in2_it walk_tup (fun j G' => Same H G' ∧ G' D = some (.lst ((acc ++ L.take j).map V.int))) ⟨sG, by simpa using gD⟩ (fun j G' _ q => SqT.same q.1 hL) ?_ ?_
      · rintro j x G1 G2 hj ⟨sG1, gD1⟩ ⟨rfl, hx⟩
        rw [List.length_map] at hj
        have hx' : L[j]? = some L[j] := by simp [hj]
        rw [List.getElem?_map, hx'] at hx
        obtain rfl := Option.some.inj hx
        refine ⟨rfl, _, rfl, _, gD1, small _ (by simp only [List.length_map, List.length_append, List.length_take]; omega), ?_, ?_⟩
        · exact fun b o e => by rw [upd_ne (ne_of_none e hD)]; exact sG1 b o e
        · have e1 : (acc ++ L.take (j + 1)).map V.int = (acc ++ L.take j).map V.int ++ [V.int L[j]] := by
            rw [List.take_add_one, hx', ← List.append_assoc, List.map_append]
            rfl
          rw [upd_same, e1]
      · rintro G1 ⟨sG1, gD1⟩
        rw [List.length_map, List.take_length] at gD1
        refine ⟨sG1, _, gD1, fun x => ?_, ?_⟩
        · rw [List.mem_append, hacc, memL, List.take_add_one, hu]
          simp only [Option.toList, List.mem_append, List.mem_singleton]
          constructor
          · intro z
            rcases z with ⟨v, z1, z2⟩ | z
            · exact ⟨v, .inl z1, z2⟩
            · exact ⟨u, .inr rfl, z⟩
          · intro z
            obtain ⟨v, z1 | z1, z2⟩ := z
            · exact .inl ⟨v, z1, z2⟩
            · rw [z1] at z2
              exact .inr z2
        · rw [List.length_append, st]
          omega
    · rintro G ⟨sG, acc, gD, hacc, hlen⟩
      rw [List.length_map, List.take_length] at hacc hlen
      have at0 : ∀ G, Same H G → SqT K G h (hv t.hd) := fun G s => SqT.same s hh
      have hd0 : atI (hv t.hd) 0 = some (.str (hw t.hd)) := atI_nat (j := 0) (hv_head _)
      by_cases hvar : ∃ n, t = .leaf .var n
      · obtain ⟨n, rfl⟩ := hvar
        have e0 : acc = [] := by
          cases acc with
          | nil => rfl
          | cons y _ => exact absurd ((hacc y).mp List.mem_cons_self) (by simp [F.kids])
        subst e0
        refine ⟨.ref h, rfl, h, _, _, _, rfl, rfl, at0 _ sG, hd0, rfl, _, rfl, (if_pos (decide_eq_true rfl)).mpr ?_⟩
        refine ⟨.ref D, rfl, .inl ⟨rfl, _, SqL.of gD⟩, .ref h, rfl, h, _, 1, .int n, rfl, rfl, at0 _ sG, rfl, D, _, .int n, rfl, rfl, gD, small _ (by simp), ?_⟩
        have sG' : Same H (upd G D (.lst (([] : List Int).map V.int ++ [V.int n]))) := fun b o e => by rw [upd_ne (ne_of_none e hD)]; exact sG b o e
        have hl : (upd G D (.lst (([] : List Int).map V.int ++ [V.int n]))) D = some (.lst (([n] : List Int).map V.int)) := upd_same
        generalize upd G D (.lst (([] : List Int).map V.int ++ [V.int n])) = G2 at sG' hl
        refine ⟨.ref h, rfl, h, _, _, _, rfl, rfl, at0 _ sG', hd0, B, _, rfl, .inr (T.c_BINDERS _), rfl, rfl, _, rfl, ?_⟩
        rw [if_neg Bool.false_ne_true, in_binders]
        refine iteF ?_
        clear sG gD hacc hlen
        have hacc : ∀ x, x ∈ [n] ↔ x ∈ fv (.leaf .var n) := fun x => Iff.rfl
        have hal : [n].length ≤ (F.leaf .var n).size := Nat.le_refl _
        have sG := sG'
        obtain ⟨acc, eacc⟩ : ∃ a, a = [n] := ⟨_, rfl⟩
        rw [← eacc] at hl hacc hal
        obtain ⟨l, el⟩ : ∃ l, l = D := ⟨_, rfl⟩
        rw [← el] at hl
        rw [← el]
        clear el
        refine ⟨.ref l, rfl, l, acc, rfl, SqL.of hl, by omega, fun sp c hsp hc hmin => ?_⟩
        have s1 := Same.new (o := SetO w sp (fun j => decide (j ∈ acc)) c) hsp
        refine ⟨sp, _, c, rfl, upd_same, by omega, fun ns p _ hmem hlen hp => ?_⟩
        have s2 := Same.new (o := .lst (ns.map V.int)) hp
        refine ⟨p, _, rfl, .inl ⟨SqL.of upd_same, fun q hq => ?_⟩⟩
        refine k q _ (sG.trans (s1.trans (s2.trans (Same.new hq)))) ⟨ns, SqT.of upd_same, fun x => ?_, by omega⟩
        rw [hmem, decide_eq_true_eq]
        exact hacc x
      · refine ⟨.ref h, rfl, h, _, _, _, rfl, rfl, at0 _ sG, hd0, rfl, _, rfl, (if_neg (by rw [decide_eq_false (var_word (hd := t.hd) fun x e => hvar ⟨x, by cases t <;> cases e; rfl⟩)]; exact Bool.false_ne_true)).mpr ?_⟩
        refine ⟨.ref h, rfl, h, _, _, _, rfl, rfl, at0 _ sG, hd0, B, _, rfl, .inr (T.c_BINDERS _), rfl, rfl, _, rfl, ?_⟩
        rw [if_neg Bool.false_ne_true, in_binders, isB_hdJ]
        cases hb : isB t with
        | true =>
          refine iteT ?_
          obtain ⟨kd, n, g, rfl⟩ : ∃ kd x f, t = .one kd x f := by
            cases t with
            | one kd x f => exact ⟨kd, x, f, rfl⟩
            | _ => cases hb
          have hkb : kd.bind = true := hb
          have gl0 : IL G D acc := gD
          refine ⟨.ref D, rfl, D, rfl, ⟨_, SqL.of gD⟩, fun D2 hD2 => ?_⟩
          refine lc_fil (fun x => !decide (V.int x = V.int n)) gl0 hD2 (by simp only [F.size] at hsz ksz; simp only [F.kids, List.map_cons, List.map_nil, List.sum_cons, List.sum_nil] at hlen ksz; omega) (fun x hx G2 Y N sG2 hY hN' => ?_) (fun G2 sG2 gD2 => ?_)
          · refine ⟨rfl, .int x, rfl, .ref h, rfl, h, _, 1, .int n, rfl, rfl, SqT.same sG2 (at0 _ sG), rfl, rfl, _, rfl, ?_⟩
            cases c : (!decide (V.int x = V.int n)) with
            | true => exact iteT ⟨_, rfl, hY c _ (Same.refl _)⟩
            | false => exact iteF (hN' c _ (Same.refl _))
          · have sG := sG.trans sG2
            have hal : (acc.filter fun x => !decide (V.int x = V.int n)).length ≤ (F.one kd n g).size := by
              have := List.length_filter_le (fun x => !decide (V.int x = V.int n)) acc
              omega
            have hacc : ∀ x, x ∈ (acc.filter fun x => !decide (V.int x = V.int n)) ↔ x ∈ fv (.one kd n g) := fun x => by
              rw [List.mem_filter, hacc]
              simp only [fv, if_pos hkb, List.mem_filter, F.kids, List.mem_singleton, exists_eq_left, Bool.not_eq_true', decide_eq_false_iff_not, decide_eq_true_eq, V.int.injEq, ne_eq]
            have hl := gD2
            generalize (acc.filter fun x => !decide (V.int x = V.int n)) = acc at hl hacc hal
            obtain ⟨l, el⟩ : ∃ l, l = D2 := ⟨_, rfl⟩
            rw [← el] at hl
            rw [← el]
            clear el
            refine ⟨.ref l, rfl, l, acc, rfl, SqL.of hl, by omega, fun sp c hsp hc hmin => ?_⟩
            have s1 := Same.new (o := SetO w sp (fun j => decide (j ∈ acc)) c) hsp
            refine ⟨sp, _, c, rfl, upd_same, by omega, fun ns p _ hmem hlen hp => ?_⟩
            have s2 := Same.new (o := .lst (ns.map V.int)) hp
            refine ⟨p, _, rfl, .inl ⟨SqL.of upd_same, fun q hq => ?_⟩⟩
            refine k q _ (sG.trans (s1.trans (s2.trans (Same.new hq)))) ⟨ns, SqT.of upd_same, fun x => ?_, by omega⟩
            rw [hmem, decide_eq_true_eq]
            exact hacc x
        | false =>
          refine iteF ?_
          have hl := gD
          have hal : acc.length ≤ t.size := by omega
          have hacc : ∀ x, x ∈ acc ↔ x ∈ fv t := fun x => by
            rw [hacc]
            cases t with
            | nul b => simp [F.kids, fv]
            | leaf kd n =>
              cases kd with
              | var => exact absurd ⟨n, rfl⟩ hvar
              | has => simp [F.kids, fv]
              | lacks => simp [F.kids, fv]
            | two b f g => simp [F.kids, fv]
            | one kd n g =>
              have : ¬ kd.bind = true := fun z => by rw [show isB (.one kd n g) = kd.bind from rfl, z] at hb; cases hb
              simp [F.kids, fv, this]
          obtain ⟨l, el⟩ : ∃ l, l = D := ⟨_, rfl⟩
          rw [← el] at hl
          rw [← el]
          clear el
          refine ⟨.ref l, rfl, l, acc, rfl, SqL.of hl, by omega, fun sp c hsp hc hmin => ?_⟩
          have s1 := Same.new (o := SetO w sp (fun j => decide (j ∈ acc)) c) hsp
          refine ⟨sp, _, c, rfl, upd_same, by omega, fun ns p _ hmem hlen hp => ?_⟩
          have s2 := Same.new (o := .lst (ns.map V.int)) hp
          refine ⟨p, _, rfl, .inl ⟨SqL.of upd_same, fun q hq => ?_⟩⟩
          refine k q _ (sG.trans (s1.trans (s2.trans (Same.new hq)))) ⟨ns, SqT.of upd_same, fun x => ?_, by omega⟩
          rw [hmem, decide_eq_true_eq]
          exact hacc x
end
end Fw

set_option maxRecDepth 100000
set_option maxHeartbeats 4000000
namespace Fw
open PySem PySem.Spec PyProof.Rows L2
/-- the shelf's own things -/
structure Fv (SC : Addr) (H : Hp) (r : SR) (a b c d : List V) (k : HO) : Prop where
  p : H r.p = some (.ins SC r.dx (sf r))
  a : H r.ha = some (.lst a)
  b : H r.ia = some (.lst b)
  c : H r.fa = some (.lst c)
  d : H r.sa = some (.lst d)
  k : H r.na = some k
abbrev SR.Ne (r : SR) : Prop := r.ha ≠ r.ia ∧ r.ha ≠ r.fa ∧ r.ha ≠ r.sa ∧ r.ia ≠ r.fa ∧ r.ia ≠ r.sa ∧ r.fa ≠ r.sa
theorem Fv.same {SC : Addr} {H H' : Hp} {r : SR} {a b c d : List V} {k : HO} (s : Same H H') (h : Fv SC H r a b c d k) : Fv SC H' r a b c d k := ⟨s _ _ h.p, s _ _ h.a, s _ _ h.b, s _ _ h.c, s _ _ h.d, s _ _ h.k⟩
section
variable {SC : Addr} {H : Hp} {r : SR} {a b c d : List V} {p : Heap → Prop}
theorem Fv.setA (n : r.Ne) (h : Fv SC H r a b c d (.ext p)) (x : List V) : Fv SC (upd H r.ha (.lst x)) r x b c d (.ext p) :=
  ⟨by rw [upd_ne (ne_of h.p h.a (by intro z; cases z))]; exact h.p, upd_same, by rw [upd_ne n.1.symm]; exact h.b, by rw [upd_ne n.2.1.symm]; exact h.c, by rw [upd_ne n.2.2.1.symm]; exact h.d, by rw [upd_ne (ne_of h.k h.a (by intro z; cases z))]; exact h.k⟩
theorem Fv.setB (n : r.Ne) (h : Fv SC H r a b c d (.ext p)) (x : List V) : Fv SC (upd H r.ia (.lst x)) r a x c d (.ext p) :=
  ⟨by rw [upd_ne (ne_of h.p h.b (by intro z; cases z))]; exact h.p, by rw [upd_ne n.1]; exact h.a, upd_same, by rw [upd_ne n.2.2.2.1.symm]; exact h.c, by rw [upd_ne n.2.2.2.2.1.symm]; exact h.d, by rw [upd_ne (ne_of h.k h.b (by intro z; cases z))]; exact h.k⟩
theorem Fv.setC (n : r.Ne) (h : Fv SC H r a b c d (.ext p)) (x : List V) : Fv SC (upd H r.fa (.lst x)) r a b x d (.ext p) :=
  ⟨by rw [upd_ne (ne_of h.p h.c (by intro z; cases z))]; exact h.p, by rw [upd_ne n.2.1]; exact h.a, by rw [upd_ne n.2.2.2.1]; exact h.b, upd_same, by rw [upd_ne n.2.2.2.2.2.symm]; exact h.d, by rw [upd_ne (ne_of h.k h.c (by intro z; cases z))]; exact h.k⟩
theorem Fv.setD (n : r.Ne) (h : Fv SC H r a b c d (.ext p)) (x : List V) : Fv SC (upd H r.sa (.lst x)) r a b c x (.ext p) :=
  ⟨by rw [upd_ne (ne_of h.p h.d (by intro z; cases z))]; exact h.p, by rw [upd_ne n.2.2.1]; exact h.a, by rw [upd_ne n.2.2.2.2.1]; exact h.b, by rw [upd_ne n.2.2.2.2.2]; exact h.c, upd_same, by rw [upd_ne (ne_of h.k h.d (by intro z; cases z))]; exact h.k⟩
theorem Fv.setK (h : Fv SC H r a b c d (.ext p)) (x : HO) : Fv SC (upd H r.na x) r a b c d x :=
  ⟨by rw [upd_ne (ne_of h.p h.k (by intro z; cases z))]; exact h.p, by rw [upd_ne (ne_of h.a h.k (by intro z; cases z))]; exact h.a, by rw [upd_ne (ne_of h.b h.k (by intro z; cases z))]; exact h.b,
   by rw [upd_ne (ne_of h.c h.k (by intro z; cases z))]; exact h.c, by rw [upd_ne (ne_of h.d h.k (by intro z; cases z))]; exact h.d, upd_same⟩
end
structure Grow (S S' : List F) (t : F) : Prop where
  app : ∃ T, S' = S ++ T
  mem : t ∈ S'
  all : ∀ u, u ∈ S' ↔ u ∈ S ∨ u = t
  len : S'.length ≤ S.length + 1
section
variable {P : Program} {w : World} {K : PySem.W.Frag} {mg : Str → Option Value} {base : Heap} {C J B SC HC STP : Addr}
def spNum (P : Program) (w : World) (K : PySem.W.Frag) (SC : Addr) : Sp := fun vs H Q _ => ∃ (r : SR) (h i : Addr) (S : List F) (t : F), vs = [.ref r.p, .ref h, .ref i] ∧ Sh P w K SC H r S ∧ SqT K H h (hv t.hd) ∧ SqT K H i (t.kids.map fun u => V.int (ix S u : Nat)) ∧
  (∀ u ∈ t.kids, u ∈ S) ∧ S.length ≤ 900 ∧ t.size ≤ 63 ∧ ∀ S' H', Kx r H H' → TKp K H H' → Sh P w K SC H' r S' → Grow S S' t → Q (.int (ix S' t : Nat)) H'
theorem val_some {S : List F} {kvs : List NK} (g : ∀ k v, valN kvs k = some v ↔ ∃ (i : Nat) (t : F), S[i]? = some t ∧ k = kyF S t ∧ v = .int (i : Nat)) {t : F} (h : t ∈ S) : valN kvs (kyF S t) = some (.int (ix S t : Nat)) :=
  (g _ _).mpr ⟨_, t, ix_get h, rfl, rfl⟩
theorem val_none {S : List F} {kvs : List NK} (cl : ∀ t ∈ S, ∀ u ∈ t.kids, u ∈ S) (g : ∀ k v, valN kvs k = some v ↔ ∃ (i : Nat) (t : F), S[i]? = some t ∧ k = kyF S t ∧ v = .int (i : Nat)) {t : F} (hk : ∀ u ∈ t.kids, u ∈ S) (h : t ∉ S) : valN kvs (kyF S t) = none := by
  cases e : valN kvs (kyF S t) with
  | none => rfl
  | some v =>
    obtain ⟨i, u, h1, h2, _⟩ := (g _ _).mp e
    have hu := List.mem_of_getElem? h1
    rw [kyF_inj hk (cl u hu) h2] at h
    exact absurd hu h
theorem val_grow {S : List F} {kvs : List NK} {t : F} {q : Addr} (nd : S.Nodup) (cl : ∀ t ∈ S, ∀ u ∈ t.kids, u ∈ S) (g : ∀ k v, valN kvs k = some v ↔ ∃ (i : Nat) (t : F), S[i]? = some t ∧ k = kyF S t ∧ v = .int (i : Nat)) (hk : ∀ u ∈ t.kids, u ∈ S) (h : t ∉ S) :
    ∀ k v, valN (kvs ++ [(kyF S t, q, V.int (S.length : Nat))]) k = some v ↔ ∃ (i : Nat) (u : F), (S ++ [t])[i]? = some u ∧ k = kyF (S ++ [t]) u ∧ v = .int (i : Nat) := by
  intro k v
  rw [valN_snoc (val_none cl g hk h)]
  constructor
  · intro z
    split at z
    · rename_i e
      refine ⟨S.length, t, by simp, ?_, (Option.some.inj z).symm⟩
      rw [kyF_app hk, e]
    · obtain ⟨i, u, h1, h2, h3⟩ := (g _ _).mp z
      refine ⟨i, u, by rw [List.getElem?_append_left (List.getElem?_eq_some_iff.mp h1).1]; exact h1, ?_, h3⟩
      rw [kyF_app (cl u (List.mem_of_getElem? h1)), h2]
  · rintro ⟨i, u, h1, h2, h3⟩
    rcases get_snoc h1 with h4 | ⟨rfl, rfl⟩
    · have hu := List.mem_of_getElem? h4
      rw [kyF_app (cl u hu)] at h2
      rw [if_neg fun e => h (by rw [kyF_inj hk (cl u hu) (e.symm.trans h2)]; exact hu)]
      exact (g _ _).mpr ⟨i, u, h4, h2, h3⟩
    · rw [kyF_app hk] at h2
      rw [if_pos h2, h3]
theorem AllF.tk {K : PySem.W.Frag} {H H' : Hp} (s : TKp K H H') {vs : List V} {ts : List F} (h : AllF K H vs ts) : AllF K H' vs ts := by
  induction h with
  | nil => exact .nil
  | cons a _ ih => exact .cons (a.map s) ih
theorem AllF.snoc {K : PySem.W.Frag} {H : Hp} {vs : List V} {ts : List F} {v : V} {t : F} (h : AllF K H vs ts) (x : IsF K H v t) : AllF K H (vs ++ [v]) (ts ++ [t]) := by
  induction h with
  | nil => exact .cons x .nil
  | cons a _ ih => exact .cons a ih
theorem ok_number {f fv' : Addr} {fd fdv : FuncData} (FF : Fun K "number" "Shelf.number" s_Shelf_number f fd) (T : Txt K mg C J B) (TS : TxtS K SC)
    (m_Shelf_free_in : Meth K SC "_free_in" fv') (g_Shelf_free_in : FnOk P w K mg base CX0 1 fv' fdv a_Shelf__free_in (spFree K SC)) (b_Shelf_free_in : Binds K fdv a_Shelf__free_in []) : FnOk P w K mg base CX0 2 f fd a_Shelf_number (spNum P w K SC) := by
  refine FF.ok sc_Shelf_number (fun vs H Q E h => ?_) (fun cdv A outer s H vs Q E hr h => ?_)
  · obtain ⟨r, h, i, S, t, rfl, _⟩ := h
    rfl
  · obtain ⟨r, h, i, S, t, rfl, n, hh, hi, hk, hS, hsz, k⟩ := h
    refine ⟨_, (pss_cons (ps_set (i := 3) sc_Shelf_number.nd rfl (.inl rfl) (pe_tup (pa_cons (pv 1) (pa_cons (pv 2) pa_nil))))
      (pss_cons (ps_if (pt_cmpR (@id (OpR _ _ (rInN P w K true)) (op_notInN hr.units)) (pv 3) (pe_fld (pv 0) rfl) (by rfl)) (pss_cons (ps_asg (pe_callB call_len_seq rfl T.z_len (by decide +kernel) (pa_cons (pe_fld (pv 0) rfl) pa_nil)) (pg_sub (pe_fld (pv 0) rfl) (pv 3) (@id (PSet _ (rSetN P w K)) (set_nest hr.units))))
      (pss_cons (ps_expr (pe_bm PySem.F.plainAttrs_list PySem.F.slot_list_append PySem.F.type_list_append mt_append (pe_fld (pv 0) rfl) (pa_cons (pv 1) pa_nil)))
      (pss_cons (ps_expr (pe_bm PySem.F.plainAttrs_list PySem.F.slot_list_append PySem.F.type_list_append mt_append (pe_fld (pv 0) rfl) (pa_cons (pv 2) pa_nil)))
      (pss_cons (ps_expr (pe_bm PySem.F.plainAttrs_list PySem.F.slot_list_append PySem.F.type_list_append mt_append (pe_fld (pv 0) rfl) (pa_cons (pe_meth (pv 0) TS.cl m_Shelf_free_in g_Shelf_free_in (hr.mono (by omega)) b_Shelf_free_in .nil pass0 (pa_cons (pv 1) (pa_cons (pv 2) pa_nil))) pa_nil)))
      (pss_one (ps_expr (pe_bm PySem.F.plainAttrs_list PySem.F.slot_list_append PySem.F.type_list_append mt_append (pe_fld (pv 0) rfl) (pa_cons (pe_op op_catA (pv 1) (pe_callTy call_tuple_of rfl T.z_tuple (by decide +kernel) (pa_cons (pe_lc (own := [("at", 4)]) (g := gName 4) rfl sc_Shelf_number.nd (pi_tup (pv 2)) (blkOk_by (own := [("at", 4)]) (N := n_Shelf_number) (sc := defScope s_Shelf_number) (by decide +kernel)) (fun _ _ _ _ _ => (pg_name (i := 4) sc_Shelf_number.nd rfl (.inl rfl))) (fun _ _ _ _ _ => pts_nil) (fun _ _ _ _ _ => (pe_ix (@id (IxR _ (rIxL K)) ix_list) (show PE _ _ (tFld K _ "statements") from pe_fld (pv 0) rfl) (pv 4) (fun _ _ => rfl)))) pa_nil))) pa_nil)))))))) pss_nil)
      (pss_one (ps_ret (pe_ix (@id (IxR _ (rIxN P w K)) (ix_nest hr.units)) (pe_fld (pv 0) rfl) (pv 3) (fun _ _ => rfl)))))), ?_⟩
    have small : ∀ n : Nat, n ≤ 1000 → n < sizeLine := fun n hn => small1000 hn
    obtain ⟨E, e1, e2, e3, e4, hE, h6⟩ := n.ents
    obtain ⟨kvs, g1, g2, g3, g4⟩ := n.nums
    have F0 : Fv SC H r (E.map fun e => V.ref e.h) (E.map fun e => V.ref e.i) (E.map fun e => V.ref e.f) (E.map fun e => e.v) (DNs P w r.na kvs) := ⟨n.obj, e1, e2, e3, e4, g1⟩
    refine ⟨.ref h, rfl, .ref i, rfl, by show 2 ≤ sizeLine; decide, fun kq hkq => ?_⟩
    have s1 := Same.new (o := .tup [.ref h, .ref i]) hkq
    have kq1 : (upd H kq (.tup [.ref h, .ref i])) kq = some (.tup [.ref h, .ref i]) := upd_same
    generalize upd H kq (.tup [.ref h, .ref i]) = H1 at s1 kq1
    have F1 := F0.same s1
    have ok1 := g2.tk (TKp.same s1)
    have kis1 := kis_key (SqT.of kq1) (SqT.same s1 hh) (SqT.same s1 hi)
    refine ⟨.ref kq, rfl, .ref r.p, rfl, r.p, SC, r.dx, _, .ref r.na, rfl, F1.p, TS.cl, TS.nN, rfl, r.na, kq, kvs, kyF S t, rfl, rfl, F1.k, ok1, kis1, kyF_deep _ _, _, rfl, ?_⟩
    rw [if_pos rfl]
    by_cases ht : t ∈ S
    · rw [val_some g4 ht]
      refine iteF ?_
      refine ⟨.ref r.p, rfl, r.p, SC, r.dx, _, .ref r.na, rfl, F1.p, TS.cl, TS.nN, rfl, .ref kq, rfl, r.na, kq, kvs, kyF S t, _, rfl, rfl, F1.k, ok1, kis1, kyF_deep _ _, val_some g4 ht, ?_⟩
      exact k S H1 (.same s1) (.same s1) (n.same s1) ⟨⟨[], by simp⟩, ht, fun u => ⟨.inl, fun z => z.elim id fun e => e ▸ ht⟩, Nat.le_succ _⟩
    · rw [val_none n.cl g4 hk ht]
      refine iteT ?_
      -- self._numbers[key] = len(self.heads)
      refine ⟨.ref r.p, rfl, r.p, SC, r.dx, _, .ref r.ha, rfl, F1.p, TS.cl, TS.nH, rfl, r.ha, _, rfl, .inl (SqL.of F1.a), ?_⟩
      rw [List.length_map, hE]
      refine ⟨.ref r.p, rfl, r.p, SC, r.dx, _, .ref r.na, rfl, F1.p, TS.cl, TS.nN, rfl, .ref kq, rfl, r.na, kq, kvs, kyF S t, rfl, rfl, F1.k, ok1, kis1, kyF_deep _ _, val_none n.cl g4 hk ht, by rw [g3]; exact small _ (by omega), ?_⟩
      have F2 := F1.setK (DNs P w r.na (kvs ++ [(kyF S t, kq, V.int (S.length : Nat))]))
      have K2 := (Kx.same (r := r) s1).put (d := r.na) (o := DNs P w r.na (kvs ++ [(kyF S t, kq, V.int (S.length : Nat))])) (.inr (.inr (.inr (.inr rfl))))
      have T12 := TKp.ext (K := K) (o' := DNs P w r.na (kvs ++ [(kyF S t, kq, V.int (S.length : Nat))])) F1.k
      generalize upd H1 r.na (DNs P w r.na (kvs ++ [(kyF S t, kq, V.int (S.length : Nat))])) = H2 at F2 K2 T12
      -- self.heads.append(head)
      refine ⟨.ref r.p, rfl, r.p, SC, r.dx, _, .ref r.ha, rfl, F2.p, TS.cl, TS.nH, rfl, .inl ⟨rfl, _, SqL.of F2.a⟩, .ref h, rfl, r.ha, _, .ref h, rfl, rfl, F2.a, by rw [List.length_map, hE]; exact small _ (by omega), ?_⟩
      have F3 := F2.setA n.ne (E.map (fun e => V.ref e.h) ++ [V.ref h])
      have K3 := K2.put (d := r.ha) (o := .lst (E.map (fun e => V.ref e.h) ++ [V.ref h])) (.inl rfl)
      have T13 := T12.trans (TKp.lst (o' := .lst (E.map (fun e => V.ref e.h) ++ [V.ref h])) F2.a)
      generalize upd H2 r.ha (.lst (E.map (fun e => V.ref e.h) ++ [V.ref h])) = H3 at F3 K3 T13
      -- self.inner.append(inner)
      refine ⟨.ref r.p, rfl, r.p, SC, r.dx, _, .ref r.ia, rfl, F3.p, TS.cl, TS.nI, rfl, .inl ⟨rfl, _, SqL.of F3.b⟩, .ref i, rfl, r.ia, _, .ref i, rfl, rfl, F3.b, by rw [List.length_map, hE]; exact small _ (by omega), ?_⟩
      have F4 := F3.setB n.ne (E.map (fun e => V.ref e.i) ++ [V.ref i])
      have K4 := K3.put (d := r.ia) (o := .lst (E.map (fun e => V.ref e.i) ++ [V.ref i])) (.inr (.inl rfl))
      have T14 := T13.trans (TKp.lst (o' := .lst (E.map (fun e => V.ref e.i) ++ [V.ref i])) F3.b)
      generalize upd H3 r.ia (.lst (E.map (fun e => V.ref e.i) ++ [V.ref i])) = H4 at F4 K4 T14
      have T4 := (TKp.same s1).trans T14
      -- self.free.append(self._free_in(head, inner))
      refine ⟨.ref r.p, rfl, r.p, SC, r.dx, _, .ref r.fa, rfl, F4.p, TS.cl, TS.nF, rfl, .inl ⟨rfl, _, SqL.of F4.c⟩, .ref r.p, rfl, r.p, r.dx, _, rfl, F4.p, rfl, .ref h, rfl, .ref i, rfl, r, h, i, S, E, t, rfl, F4.p, F4.c, hE,
        fun j u e q1 q2 => (h6 j u e q1 q2).fre.tk T4, T4 _ _ hh, T4 _ _ hi, hk, hsz, fun f H5 s5 fr5 => ?_⟩
      have F5 := F4.same s5
      refine ⟨r.fa, _, .ref f, rfl, rfl, F5.c, by rw [List.length_map, hE]; exact small _ (by omega), ?_⟩
      have F6 := F5.setC n.ne (E.map (fun e => V.ref e.f) ++ [V.ref f])
      have K6 := (K4.trans (.same s5)).put (d := r.fa) (o := .lst (E.map (fun e => V.ref e.f) ++ [V.ref f])) (.inr (.inr (.inl rfl)))
      have T56 := TKp.lst (K := K) (o' := .lst (E.map (fun e => V.ref e.f) ++ [V.ref f])) F5.c
      have T16 := T14.trans ((TKp.same s5).trans T56)
      have fr6 := fr5.tk T56
      generalize upd H5 r.fa (.lst (E.map (fun e => V.ref e.f) ++ [V.ref f])) = H6 at F6 K6 T56 T16 fr6
      clear F1 F2 F3 F4 F5 K2 K3 K4 T12 T13 T14 T4 T56 fr5
      have T6 := (TKp.same s1).trans T16
      -- self.statements.append(head + tuple([..]))
      refine ⟨.ref r.p, rfl, r.p, SC, r.dx, _, .ref r.sa, rfl, F6.p, TS.cl, TS.nS, rfl, .inl ⟨rfl, _, SqL.of F6.d⟩, .ref h, rfl, .ref i, rfl, i, rfl, ⟨_, T6 _ _ hi⟩, fun D hD => ?_⟩
      refine lc_tup (xs := t.kids.map fun u => V.int (ix S u : Nat)) (fun m G => Same H6 G ∧ ∃ ks, G D = some (.lst ks) ∧ AllF K G ks (t.kids.take m)) ⟨Same.new hD, [], upd_same, .nil⟩ (fun m G _ q => SqT.same q.1 (T6 _ _ hi)) ?_ ?_
      · rintro m x G hx ⟨sG, ks, gD, ak⟩
        obtain ⟨u, hu⟩ : ∃ u, t.kids[m]? = some u := by
          rw [List.getElem?_map] at hx
          cases q : t.kids[m]? with
          | none => rw [q] at hx; cases hx
          | some u => exact ⟨u, rfl⟩
        rw [List.getElem?_map, hu] at hx
        obtain rfl := Option.some.inj hx
        have hm := (List.getElem?_eq_some_iff.mp hu).1
        have hSu := ix_get (hk u (List.mem_of_getElem? hu))
        obtain ⟨e, he⟩ : ∃ e, E[ix S u]? = some e := ⟨E[ix S u]'(by rw [hE]; exact ix_lt (hk u (List.mem_of_getElem? hu))), by simp⟩
        have st := (h6 _ u e hSu he).st.map (T6.trans (.same sG))
        have F6' := F6.same sG
        have kl := ak.len
        rw [List.length_take] at kl
        have k2 := F.kids_le t
        have sG2 : Same G (upd G D (.lst (ks ++ [e.v]))) → True := fun _ => trivial
        refine ⟨rfl, .ref r.p, rfl, r.p, SC, r.dx, _, .ref r.sa, rfl, F6'.p, TS.cl, TS.nS, rfl, .int (ix S u : Nat), rfl, r.sa, _, _, e.v, rfl, rfl, SqL.of F6'.d, atI_nat (j := ix S u) (by rw [List.getElem?_map, he]; rfl), ks, gD, small _ (by omega), ?_, ks ++ [e.v], upd_same, ?_⟩
        · exact fun b o q => by rw [upd_ne (ne_of_none q hD)]; exact sG b o q
        · have kp := TKp.lst (K := K) (o' := .lst (ks ++ [e.v])) gD
          rw [List.take_add_one, hu]
          exact AllF.snoc (ak.tk kp) (st.map kp)
      · rintro G ⟨sG, ks, gD, ak⟩
        rw [List.length_map, List.take_length] at ak
        refine ⟨D, ks, rfl, .inl ⟨SqL.of gD, fun q hq => ?_⟩⟩
        have s7 := sG.trans (Same.new (o := .tup ks) hq)
        have ak7 := ak.tk (TKp.same (Same.new (o := .tup ks) hq))
        have sqq : SqT K (upd G q (.tup ks)) q ks := SqT.of upd_same
        generalize upd G q (.tup ks) = H7 at s7 ak7 sqq
        have kl := ak.len
        have k2 := F.kids_le t
        have hl := hv_len t.hd
        refine ⟨h, q, _, _, rfl, rfl, SqT.same s7 (T6 _ _ hh), sqq, Nat.le_of_lt (small _ (by omega)), fun z => ?_, fun _ z => ?_, fun _ _ p hp => ?_⟩
        · rw [z] at hl
          rcases hl with hl | hl <;> cases hl
        · subst z
          obtain ⟨a, ea⟩ : ∃ a, a = h := ⟨_, rfl⟩
          have sq7 : SqT K H7 a (hv t.hd ++ []) := by rw [List.append_nil, ea]; exact SqT.same s7 (T6 _ _ hh)
          have F7 := F6.same s7
          have K7 := K6.trans (.same s7)
          have T17 := T16.trans (TKp.same s7)
          have T7 := (TKp.same s1).trans T17
          have fr7 := fr6.tk (TKp.same s7)
          rw [← ea]
          clear ea sqq kl
          obtain ⟨ks, ek⟩ : ∃ l : List V, l = [] := ⟨_, rfl⟩
          rw [← ek] at sq7 ak7
          clear ek
          -- self.statements.append(..)
          refine ⟨r.sa, _, .ref a, rfl, rfl, F7.d, by rw [List.length_map, hE]; exact small _ (by omega), ?_⟩
          have F8 := F7.setD n.ne (E.map (fun e => e.v) ++ [V.ref a])
          have K8 := K7.put (d := r.sa) (o := .lst (E.map (fun e => e.v) ++ [V.ref a])) (.inr (.inr (.inr (.inl rfl))))
          have T8 := T7.trans (TKp.lst (o' := .lst (E.map (fun e => e.v) ++ [V.ref a])) F7.d)
          have T18 := T17.trans (TKp.lst (o' := .lst (E.map (fun e => e.v) ++ [V.ref a])) F7.d)
          have sq8 := TKp.lst (K := K) (o' := .lst (E.map (fun e => e.v) ++ [V.ref a])) F7.d _ _ sq7
          have ak8 : AllF K (upd H7 r.sa (.lst (E.map (fun e => e.v) ++ [V.ref a]))) ks t.kids := AllF.tk (TKp.lst F7.d) ak7
          have fr8 := fr7.tk (TKp.lst (K := K) (o' := .lst (E.map (fun e => e.v) ++ [V.ref a])) F7.d)
          generalize upd H7 r.sa (.lst (E.map (fun e => e.v) ++ [V.ref a])) = H8 at F8 K8 T8 T18 sq8 ak8 fr8
          have st8 : IsF K H8 (.ref a) t := IsF.close sq8 ak8
          have hh8 := T8 _ _ hh
          have hi8 := T8 _ _ hi
          have kq8 : SqT K H8 kq [.ref h, .ref i] := T18 _ _ (SqT.of kq1)
          have ok8 : KeysOk K H8 (kvs ++ [(kyF S t, kq, V.int (S.length : Nat))]) := fun e he => by
            rcases List.mem_append.mp he with he | he
            · exact (g2.tk T8) e he
            · rw [List.mem_singleton] at he
              subst he
              exact ⟨kis_key kq8 hh8 hi8, kyF_deep _ _⟩
          have vg := val_grow (q := kq) n.nd n.cl g4 hk ht
          have idx : ix (S ++ [t]) t = S.length := ix_new ht
          have ky : kyF S t = kyF (S ++ [t]) t := (kyF_app hk).symm
          refine ⟨.ref r.p, rfl, r.p, SC, r.dx, _, .ref r.na, rfl, F8.p, TS.cl, TS.nN, rfl, .ref kq, rfl, r.na, kq, _, kyF S t, _, rfl, rfl, F8.k, ok8, kis_key kq8 hh8 hi8, kyF_deep _ _, (vg _ _).mpr ⟨S.length, t, by simp, ky, rfl⟩, ?_⟩
          have done := k (S ++ [t]) H8 K8 T8 ⟨F8.p, ?_, ?_, n.ne, ⟨E ++ [⟨h, i, f, .ref a⟩], ?_, ?_, ?_, ?_, by rw [List.length_append, List.length_append, hE]; rfl, ?_⟩, ⟨_, F8.k, ok8, by rw [List.length_append, List.length_append, g3]; rfl, vg⟩⟩ ⟨⟨[t], rfl⟩, by simp, fun u => by simp, by simp⟩
          · rw [idx] at done
            exact done
          · exact List.nodup_append.mpr ⟨n.nd, by simp, fun x hx y hy => by rw [List.mem_singleton] at hy; subst hy; exact fun e => ht (e ▸ hx)⟩
          · intro u hu x hx
            rcases List.mem_append.mp hu with hu | hu
            · exact List.mem_append_left _ (n.cl u hu x hx)
            · rw [List.mem_singleton] at hu
              subst hu
              exact List.mem_append_left _ (hk x hx)
          · rw [F8.a, List.map_append]; rfl
          · rw [F8.b, List.map_append]; rfl
          · rw [F8.c, List.map_append]; rfl
          · rw [F8.d, List.map_append]; rfl
          · intro j u e e1 e2
            rcases get_snoc e1 with e3 | ⟨rfl, rfl⟩
            · have lt := (List.getElem?_eq_some_iff.mp e3).1
              rw [List.getElem?_append_left (by rw [hE]; exact lt)] at e2
              exact ((h6 j u e e3 e2).tk T8).app (n.cl u (List.mem_of_getElem? e3))
            · rw [List.getElem?_append_right (by rw [hE]; exact Nat.le_refl _), hE, Nat.sub_self] at e2
              cases e2
              refine Ent.app hk ⟨hh8, hi8, fr8, st8⟩
        · have s72 := Same.new (o := .tup (hv t.hd ++ ks)) hp
          have F7 := (F6.same s7).same s72
          have K7 := (K6.trans (.same s7)).trans (.same s72)
          have T17 := (T16.trans (TKp.same s7)).trans (TKp.same s72)
          have T7 := (TKp.same s1).trans T17
          have fr7 := (fr6.tk (TKp.same s7)).tk (TKp.same s72)
          have sq7 : SqT K (upd H7 p (.tup (hv t.hd ++ ks))) p (hv t.hd ++ ks) := SqT.of upd_same
          have ak7' := ak7.tk (TKp.same s72)
          generalize upd H7 p (.tup (hv t.hd ++ ks)) = H7 at F7 K7 T17 T7 fr7 sq7 ak7'
          clear ak7
          have ak7 := ak7'
          clear ak7'
          obtain ⟨a, ea⟩ : ∃ a, a = p := ⟨_, rfl⟩
          rw [← ea] at sq7
          rw [← ea]
          clear ea
          -- self.statements.append(..)
          refine ⟨r.sa, _, .ref a, rfl, rfl, F7.d, by rw [List.length_map, hE]; exact small _ (by omega), ?_⟩
          have F8 := F7.setD n.ne (E.map (fun e => e.v) ++ [V.ref a])
          have K8 := K7.put (d := r.sa) (o := .lst (E.map (fun e => e.v) ++ [V.ref a])) (.inr (.inr (.inr (.inl rfl))))
          have T8 := T7.trans (TKp.lst (o' := .lst (E.map (fun e => e.v) ++ [V.ref a])) F7.d)
          have T18 := T17.trans (TKp.lst (o' := .lst (E.map (fun e => e.v) ++ [V.ref a])) F7.d)
          have sq8 := TKp.lst (K := K) (o' := .lst (E.map (fun e => e.v) ++ [V.ref a])) F7.d _ _ sq7
          have ak8 : AllF K (upd H7 r.sa (.lst (E.map (fun e => e.v) ++ [V.ref a]))) ks t.kids := AllF.tk (TKp.lst F7.d) ak7
          have fr8 := fr7.tk (TKp.lst (K := K) (o' := .lst (E.map (fun e => e.v) ++ [V.ref a])) F7.d)
          generalize upd H7 r.sa (.lst (E.map (fun e => e.v) ++ [V.ref a])) = H8 at F8 K8 T8 T18 sq8 ak8 fr8
          have st8 : IsF K H8 (.ref a) t := IsF.close sq8 ak8
          have hh8 := T8 _ _ hh
          have hi8 := T8 _ _ hi
          have kq8 : SqT K H8 kq [.ref h, .ref i] := T18 _ _ (SqT.of kq1)
          have ok8 : KeysOk K H8 (kvs ++ [(kyF S t, kq, V.int (S.length : Nat))]) := fun e he => by
            rcases List.mem_append.mp he with he | he
            · exact (g2.tk T8) e he
            · rw [List.mem_singleton] at he
              subst he
              exact ⟨kis_key kq8 hh8 hi8, kyF_deep _ _⟩
          have vg := val_grow (q := kq) n.nd n.cl g4 hk ht
          have idx : ix (S ++ [t]) t = S.length := ix_new ht
          have ky : kyF S t = kyF (S ++ [t]) t := (kyF_app hk).symm
          refine ⟨.ref r.p, rfl, r.p, SC, r.dx, _, .ref r.na, rfl, F8.p, TS.cl, TS.nN, rfl, .ref kq, rfl, r.na, kq, _, kyF S t, _, rfl, rfl, F8.k, ok8, kis_key kq8 hh8 hi8, kyF_deep _ _, (vg _ _).mpr ⟨S.length, t, by simp, ky, rfl⟩, ?_⟩
          have done := k (S ++ [t]) H8 K8 T8 ⟨F8.p, ?_, ?_, n.ne, ⟨E ++ [⟨h, i, f, .ref a⟩], ?_, ?_, ?_, ?_, by rw [List.length_append, List.length_append, hE]; rfl, ?_⟩, ⟨_, F8.k, ok8, by rw [List.length_append, List.length_append, g3]; rfl, vg⟩⟩ ⟨⟨[t], rfl⟩, by simp, fun u => by simp, by simp⟩
          · rw [idx] at done
            exact done
          · exact List.nodup_append.mpr ⟨n.nd, by simp, fun x hx y hy => by rw [List.mem_singleton] at hy; subst hy; exact fun e => ht (e ▸ hx)⟩
          · intro u hu x hx
            rcases List.mem_append.mp hu with hu | hu
            · exact List.mem_append_left _ (n.cl u hu x hx)
            · rw [List.mem_singleton] at hu
              subst hu
              exact List.mem_append_left _ (hk x hx)
          · rw [F8.a, List.map_append]; rfl
          · rw [F8.b, List.map_append]; rfl
          · rw [F8.c, List.map_append]; rfl
          · rw [F8.d, List.map_append]; rfl
          · intro j u e e1 e2
            rcases get_snoc e1 with e3 | ⟨rfl, rfl⟩
            · have lt := (List.getElem?_eq_some_iff.mp e3).1
              rw [List.getElem?_append_left (by rw [hE]; exact lt)] at e2
              exact ((h6 j u e e3 e2).tk T8).app (n.cl u (List.mem_of_getElem? e3))
            · rw [List.getElem?_append_right (by rw [hE]; exact Nat.le_refl _), hE, Nat.sub_self] at e2
              cases e2
              refine Ent.app hk ⟨hh8, hi8, fr8, st8⟩
end
end Fw

set_option maxRecDepth 100000
set_option maxHeartbeats 4000000
namespace Fw
open PySem PySem.Spec PyProof.Rows L2
/-! ### equal as data, equal as trees -/
theorem dF_head (t : F) : ∃ r, dF t = .tuple (.str (hw t.hd) :: r) := by cases t <;> exact ⟨_, rfl⟩
theorem eqv_word {t u : F} (h : PyData.eqv (dF t) (dF u) = true) : wcode t.hd = wcode u.hd := by
  obtain ⟨r, er⟩ := dF_head t
  obtain ⟨q, eq⟩ := dF_head u
  rw [er, eq] at h
  simp only [PyData.eqv, PyData.eqvAll, Bool.and_eq_true, beq_iff_eq] at h
  exact hw_code h.1
theorem eqv_F : ∀ t u : F, PyData.eqv (dF t) (dF u) = true → t = u
  | .nul b, u, h => by
    have c := eqv_word h
    cases u with
    | nul b' => cases b <;> cases b' <;> first | rfl | cases c
    | leaf k n => cases b <;> cases k <;> cases c
    | two b' f g => cases b <;> cases b' <;> cases c
    | one k n f => cases b <;> cases k <;> cases c
  | .leaf k n, u, h => by
    have c := eqv_word h
    cases u with
    | nul b => cases b <;> cases k <;> cases c
    | leaf k' n' =>
      simp only [dF, hv, dV, List.map_cons, List.map_nil, PyData.eqv, PyData.eqvAll, Bool.and_eq_true, beq_iff_eq, and_true] at h
      rw [h.2]
      cases k <;> cases k' <;> first | rfl | cases c
    | two b f g => cases k <;> cases b <;> cases c
    | one k' n' f => cases k <;> cases k' <;> cases c
  | .two b f g, u, h => by
    have c := eqv_word h
    cases u with
    | nul b' => cases b <;> cases b' <;> cases c
    | leaf k n => cases b <;> cases k <;> cases c
    | two b' f' g' =>
      simp only [dF, hv, dV, List.map_cons, List.map_nil, List.cons_append, List.nil_append, PyData.eqv, PyData.eqvAll, Bool.and_eq_true, beq_iff_eq, and_true] at h
      rw [eqv_F f f' h.2.1, eqv_F g g' h.2.2]
      cases b <;> cases b' <;> first | rfl | cases c
    | one k n f' => cases b <;> cases k <;> cases c
  | .one k n f, u, h => by
    have c := eqv_word h
    cases u with
    | nul b => cases b <;> cases k <;> cases c
    | leaf k' n' => cases k <;> cases k' <;> cases c
    | two b f' g => cases k <;> cases b <;> cases c
    | one k' n' f' =>
      simp only [dF, hv, dV, List.map_cons, List.map_nil, List.cons_append, List.nil_append, PyData.eqv, PyData.eqvAll, Bool.and_eq_true, beq_iff_eq, and_true] at h
      rw [eqv_F f f' h.2.2, h.2.1]
      cases k <;> cases k' <;> first | rfl | cases c
theorem eqv_dF (t u : F) : PyData.eqv (dF t) (dF u) = decide (t = u) := by
  by_cases e : t = u
  · rw [e, dF_same, decide_eq_true rfl]
  · rw [decide_eq_false e]
    cases c : PyData.eqv (dF t) (dF u) with
    | false => rfl
    | true => exact absurd (eqv_F t u c) e
def dH (h : Hd) : PyData := .tuple ((hv h).map dV)
theorem dp_hd {K : PySem.W.Frag} {H : Hp} {a : Addr} (h : Hd) (s : SqT K H a (hv h)) : Dp K H (.ref a) (dH h) := by
  cases h with
  | nul b => exact .tup s (.cons (.str _) .nil)
  | leaf k n => exact .tup s (.cons (.str _) (.cons (.int _) .nil))
  | two b => exact .tup s (.cons (.str _) .nil)
  | one k n => exact .tup s (.cons (.str _) (.cons (.int _) .nil))
theorem dH_shaped (h : Hd) : SeqAt.shaped (dH h) = true := by
  have := ok_hw h
  cases h <;> simp only [hw] at this <;> simp [SeqAt.shaped, dH, hv, dV, PyData.canLay0, PyData.canLayAll0, PyData.depth, PyData.depthAll, this]
theorem eqv_var (h : Hd) (n : Int) : PyData.eqv (dH h) (dH (.leaf .var n)) = decide (h = .leaf .var n) := by
  by_cases e : h = .leaf .var n
  · rw [decide_eq_true e, e]
    simp [dH, hv, dV, PyData.eqv, PyData.eqvAll]
  · rw [decide_eq_false e]
    cases c : PyData.eqv (dH h) (dH (.leaf .var n)) with
    | false => rfl
    | true =>
      refine absurd ?_ e
      have z : ∀ h : Hd, ∃ r, dH h = .tuple (.str (hw h) :: r) := fun h => by cases h <;> exact ⟨_, rfl⟩
      have cw : wcode h = wcode (.leaf .var n) := by
        obtain ⟨r, er⟩ := z h
        obtain ⟨q, eq⟩ := z (.leaf .var n)
        rw [er, eq] at c
        simp only [PyData.eqv, PyData.eqvAll, Bool.and_eq_true, beq_iff_eq] at c
        exact hw_code c.1
      refine hd_of cw ?_
      cases h with
      | nul b => cases b <;> cases cw
      | two b => cases b <;> cases cw
      | one k m => cases k <;> cases cw
      | leaf k m =>
        simp only [dH, hv, dV, List.map_cons, List.map_nil, PyData.eqv, PyData.eqvAll, Bool.and_eq_true, beq_iff_eq, and_true] at c
        show some m = some n
        rw [c.2]
def isStep : Hd → Bool
  | .one .some _ => true
  | .one .all _ => true
  | _ => false
theorem in_steppers (h : Hd) : inV (.str (hw h)) [.str "some", .str "all"] = isStep h := by
  cases h with
  | nul b => cases b <;> rfl
  | leaf k n => cases k <;> rfl
  | two b => cases b <;> rfl
  | one k n => cases k <;> rfl
/-! ### the shortener -/
structure TxtH (K : PySem.W.Frag) (HC : Addr) : Prop where
  cl : Cls K HC
  nS : NoAttr K HC "shelf"
  nN : NoAttr K HC "_neutral"
  nD : NoAttr K HC "_deciding"
  nK : NoAttr K HC "_kept"
structure TxtP (K : PySem.W.Frag) (mg : Str → Option Value) (STP : Addr) : Prop where
  m_STEPPERS : mg "STEPPERS" = some (.ref STP)
  c_STEPPERS : ∀ H, SqT K H STP [.str "some", .str "all"]
structure HR where
  (p dx ne de ke : Addr)
  r : SR
def hf (x : HR) : List (Str × V) := [("shelf", .ref x.r.p), ("_neutral", .ref x.ne), ("_deciding", .ref x.de), ("_kept", .ref x.ke)]
abbrev neK : List (Key × V) := mergeK [] [(Sum.inr "and", V.int 0), (Sum.inr "or", V.int 1)]
abbrev deK : List (Key × V) := mergeK [] [(Sum.inr "and", V.int 1), (Sum.inr "or", V.int 0)]
abbrev keK : List (Key × V) := mergeK [] [(Sum.inr "some", V.int 1), (Sum.inr "all", V.int 0), (Sum.inr "least", V.int 1), (Sum.inr "most", V.int 0)]
def nix (b : Bool) : Nat := if b = true then 0 else 1
theorem ne_at (b : Bool) : valV neK (Sum.inr (wT b)) = some (.int (nix b : Nat)) := by cases b <;> rfl
theorem de_at (b : Bool) : valV deK (Sum.inr (wT b)) = some (.int (nix (!b) : Nat)) := by cases b <;> rfl
theorem ke_at (k : One) : valV keK (Sum.inr (wO k)) = some (.int (nix k.kept : Nat)) := by cases k <;> rfl
structure Sr (P : Program) (w : World) (K : PySem.W.Frag) (SC HC : Addr) (H : Hp) (x : HR) (S : List F) : Prop where
  obj : H x.p = some (.ins HC x.dx (hf x))
  sh : Sh P w K SC H x.r S
  pre : ∃ T, S = .nul true :: .nul false :: T
  ne : H x.ne = some (.dK neK)
  de : H x.de = some (.dK deK)
  ke : H x.ke = some (.dK keK)
theorem Sr.nul {P : Program} {w : World} {K : PySem.W.Frag} {SC HC : Addr} {H : Hp} {x : HR} {S : List F} (h : Sr P w K SC HC H x S) (b : Bool) : F.nul b ∈ S ∧ ix S (.nul b) = nix b := by
  obtain ⟨T, rfl⟩ := h.pre
  cases b
  · exact ⟨by simp, rfl⟩
  · exact ⟨by simp, rfl⟩
theorem Sr.same {P : Program} {w : World} {K : PySem.W.Frag} {SC HC : Addr} {H H' : Hp} {x : HR} {S : List F} (s : Same H H') (h : Sr P w K SC HC H x S) : Sr P w K SC HC H' x S := ⟨s _ _ h.obj, h.sh.same s, h.pre, s _ _ h.ne, s _ _ h.de, s _ _ h.ke⟩
theorem Sh.at {P : Program} {w : World} {K : PySem.W.Frag} {SC : Addr} {H : Hp} {r : SR} {S : List F} (n : Sh P w K SC H r S) {t : F} (ht : t ∈ S) : ∃ (E : List Er) (e : Er), H r.ha = some (.lst (E.map fun e => V.ref e.h)) ∧ H r.ia = some (.lst (E.map fun e => V.ref e.i)) ∧
    H r.fa = some (.lst (E.map fun e => V.ref e.f)) ∧ H r.sa = some (.lst (E.map fun e => e.v)) ∧ E[ix S t]? = some e ∧ Ent K H S t e := by
  obtain ⟨E, e1, e2, e3, e4, hE, h6⟩ := n.ents
  obtain ⟨e, he⟩ : ∃ e, E[ix S t]? = some e := ⟨E[ix S t]'(by rw [hE]; exact ix_lt ht), by simp⟩
  exact ⟨E, e, e1, e2, e3, e4, he, h6 _ _ _ (ix_get ht) he⟩
theorem ix_iff {S : List F} {u v : F} (hu : u ∈ S) (hv : v ∈ S) : V.int (ix S u : Nat) = V.int (ix S v : Nat) ↔ u = v :=
  ⟨fun e => ix_inj hu hv (by have := V.int.inj e; omega), fun e => by rw [e]⟩
theorem ix_mem {S : List F} {u : F} (hu : u ∈ S) {l : List F} (hl : ∀ v ∈ l, v ∈ S) : ((ix S u : Nat) : Int) ∈ (l.map fun v => ((ix S v : Nat) : Int)) ↔ u ∈ l := by
  rw [List.mem_map]
  constructor
  · rintro ⟨v, h1, h2⟩
    rw [ix_inj hu (hl v h1) (by omega)]
    exact h1
  · exact fun h => ⟨u, h, rfl⟩
theorem ix_ints (S : List F) (l : List F) : (l.map fun u => V.int (ix S u : Nat)) = (l.map fun v => ((ix S v : Nat) : Int)).map V.int := by rw [List.map_map]; rfl
section
variable {P : Program} {w : World} {K : PySem.W.Frag} {mg : Str → Option Value} {base : Heap} {C J B SC HC STP : Addr}
def spAbs (P : Program) (w : World) (K : PySem.W.Frag) (SC HC : Addr) : Sp := fun vs H Q _ => ∃ (x : HR) (S : List F) (u y : F) (b : Bool), vs = [.ref x.p, .int (ix S u : Nat), .int (ix S y : Nat), .str (wT b)] ∧ Sr P w K SC HC H x S ∧ u ∈ S ∧ y ∈ S ∧ Q (.bl (absB b u y)) H
theorem ok_absorbs {f : Addr} {fd : FuncData} (FF : Fun K "_absorbs" "Shortener._absorbs" s_Shortener__absorbs f fd) (T : Txt K mg C J B) (TS : TxtS K SC) (TH : TxtH K HC) : FnOk P w K mg base CX0 1 f fd a_Shortener__absorbs (spAbs P w K SC HC) := by
  refine FF.ok sc_Shortener__absorbs (fun vs H Q E h => ?_) (fun cdv A outer s H vs Q E hr h => ?_)
  · obtain ⟨x, S, u, y, b, rfl, _⟩ := h
    rfl
  · obtain ⟨x, S, u, y, b, rfl, n, hu', hy, k⟩ := h
    obtain ⟨E, e, l1, l2, l3, l4, he, ent⟩ := n.sh.at hy
    refine ⟨_, (pss_cons (ps_set (i := 4) sc_Shortener__absorbs.nd rfl (.inl rfl) (pe_ix ix_tup (pe_ix ix_list (pe_fld (pe_fld (pv 0) rfl) rfl) (pv 2) (fun _ _ => rfl)) pe_int (fun _ _ => rfl)))
      (pss_one (ps_ret (pe_and (pe_cmpR op_in_seq (pv 4) (pe_glob rfl T.m_JOINS (show RelV (.ref _) _ from rfl)) (by rfl)) (pe_and (pe_cmpR op_ne (pv 4) (pv 3) (nomark _)) (pe_one (pe_cmpR op_in_seq (pv 1) (pe_ix ix_list (pe_fld (pe_fld (pv 0) rfl) rfl) (pv 2) (fun _ _ => rfl)) (by rfl)))))))), ?_⟩
    have hd0 : atI (hv y.hd) 0 = some (.str (hw y.hd)) := atI_nat (j := 0) (hv_head _)
    refine ⟨.ref x.p, rfl, x.p, HC, x.dx, _, .ref x.r.p, rfl, n.obj, TH.cl, TH.nS, rfl, x.r.p, SC, x.r.dx, _, .ref x.r.ha, rfl, n.sh.obj, TS.cl, TS.nH, rfl, .int (ix S y : Nat), rfl, x.r.ha, _, _, .ref e.h, rfl, rfl, SqL.of l1, atI_nat (j := ix S y) (by rw [List.getElem?_map, he]; rfl), e.h, _, _, _, rfl, rfl, ent.hd, hd0, ?_⟩
    refine ⟨_, rfl, J, _, rfl, .inr (T.c_JOINS H), rfl, rfl, _, rfl, ?_⟩
    rw [if_neg Bool.false_ne_true, in_joins]
    cases y with
    | nul c => exact iteF k
    | leaf c m => exact iteF k
    | one c m g => exact iteF k
    | two c p q =>
      refine iteT ?_
      refine ⟨_, rfl, .str (wT b), rfl, rfl, _, rfl, ?_⟩
      have ne : (!decide (V.str (hw (F.two c p q).hd) = V.str (wT b))) = decide (c = !b) := by cases c <;> cases b <;> rfl
      rw [ne]
      have hk : ∀ v ∈ [p, q], v ∈ S := n.sh.cl _ hy
      cases cb : decide (c = !b) with
      | false =>
        refine iteF ?_
        simp only [absB, cb, Bool.false_and] at k
        exact k
      | true =>
        refine iteT ?_
        refine ⟨.int (ix S u : Nat), rfl, .ref x.p, rfl, x.p, HC, x.dx, _, .ref x.r.p, rfl, n.obj, TH.cl, TH.nS, rfl, x.r.p, SC, x.r.dx, _, .ref x.r.ia, rfl, n.sh.obj, TS.cl, TS.nI, rfl, .int (ix S (F.two c p q) : Nat), rfl, x.r.ia, _, _, .ref e.i, rfl, rfl, SqL.of l2, atI_nat (j := ix S (F.two c p q)) (by rw [List.getElem?_map, he]; rfl), e.i, _, rfl, .inr ent.inn, rfl, ?_, ?_⟩
        · rw [ix_ints]
          exact flat_ints _
        · rw [ix_ints, if_neg Bool.false_ne_true, in_ints]
          have : decide (((ix S u : Nat) : Int) ∈ (F.two c p q).kids.map fun v => ((ix S v : Nat) : Int)) = absB b u (.two c p q) := by
            simp only [absB, cb, Bool.true_and]
            rw [show (decide (u = p) || decide (u = q)) = decide (u ∈ [p, q]) by simp]
            exact decide_eq_decide.mpr (ix_mem hu' hk)
          rw [this]
          exact k
end
end Fw

set_option maxRecDepth 100000
set_option maxHeartbeats 4000000
namespace Fw
open PySem PySem.Spec PyProof.Rows L2
section
variable {P : Program} {w : World} {K : PySem.W.Frag} {mg : Str → Option Value} {base : Heap} {C J B SC HC STP : Addr}
def spJn (P : Program) (w : World) (K : PySem.W.Frag) (SC HC : Addr) : Sp := fun vs H Q _ => ∃ (x : HR) (S : List F) (b : Bool) (f g : F), vs = [.ref x.p, .int (ix S (.two b f g) : Nat)] ∧ Sr P w K SC HC H x S ∧ F.two b f g ∈ S ∧ ∀ H', Same H H' → Q (.int (ix S (repF (.two b f g)) : Nat)) H'
theorem ok_joined {f fv' : Addr} {fd fdv : FuncData} (FF : Fun K "_joined" "Shortener._joined" s_Shortener__joined f fd) (T : Txt K mg C J B) (TS : TxtS K SC) (TH : TxtH K HC)
    (m_Shortener_absorbs : Meth K HC "_absorbs" fv') (g_Shortener_absorbs : FnOk P w K mg base CX0 1 fv' fdv a_Shortener__absorbs (spAbs P w K SC HC)) (b_Shortener_absorbs : Binds K fdv a_Shortener__absorbs []) : FnOk P w K mg base CX0 2 f fd a_Shortener__joined (spJn P w K SC HC) := by
  refine FF.ok sc_Shortener__joined (fun vs H Q E h => ?_) (fun cdv A outer s H vs Q E hr h => ?_)
  · obtain ⟨x, S, b, f, g, rfl, _⟩ := h
    rfl
  · obtain ⟨x, S, b, f, g, rfl, n, ht, k⟩ := h
    have hu := hu_of hr
    obtain ⟨E, e, l1, l2, l3, l4, he, ent⟩ := n.sh.at ht
    have hk : ∀ v ∈ [f, g], v ∈ S := n.sh.cl _ ht
    have hf := hk f (by simp)
    have hg := hk g (by simp)
    obtain ⟨n0, i0⟩ := n.nul b
    obtain ⟨n1, i1⟩ := n.nul (!b)
    have hne := DGet.k (k := Sum.inr (wT b)) n.ne
    rw [ne_at, ← i0] at hne
    have hde := DGet.k (k := Sum.inr (wT b)) n.de
    rw [de_at, ← i1] at hde
    refine ⟨_, (pss_cons (ps_set (i := 2) sc_Shortener__joined.nd rfl (.inl rfl) (pe_ix ix_tup (pe_ix ix_list (pe_fld (pe_fld (pv 0) rfl) rfl) (pv 1) (fun _ _ => rfl)) pe_int (fun _ _ => rfl)))
      (pss_cons (ps_asg (pe_ix ix_list (pe_fld (pe_fld (pv 0) rfl) rfl) (pv 1) (fun _ _ => rfl)) (pg_tup rfl (pgs_cons (pg_name (i := 3) sc_Shortener__joined.nd rfl (.inl rfl)) (pgs_cons (pg_name (i := 4) sc_Shortener__joined.nd rfl (.inl rfl)) pgs_nil))))
      (pss_cons (ps_if (pt_cmpR op_in_seq (pe_dget hu (pe_fld (pv 0) rfl) (pv 2) (fun _ _ => rfl)) (pe_tup (pa_cons (pv 3) (pa_cons (pv 4) pa_nil))) (by rfl)) (pss_one (ps_ret (pe_dget hu (pe_fld (pv 0) rfl) (pv 2) (fun _ _ => rfl)))) pss_nil)
      (pss_cons (ps_if (PW.pt (pw_or (pt_cmpR op_eq (pv 3) (pe_dget hu (pe_fld (pv 0) rfl) (pv 2) (fun _ _ => rfl)) (nomark _)) (pw_or1 (pt_val (pe_meth (pv 0) TH.cl m_Shortener_absorbs g_Shortener_absorbs (hr.mono (by omega)) b_Shortener_absorbs .nil pass0 (pa_cons (pv 4) (pa_cons (pv 3) (pa_cons (pv 2) pa_nil)))))))) (pss_one (ps_ret (pv 4))) pss_nil)
      (pss_cons (ps_if (PW.pt (pw_or (pt_cmpR op_eq (pv 4) (pe_dget hu (pe_fld (pv 0) rfl) (pv 2) (fun _ _ => rfl)) (nomark _)) (pw_or (pt_cmpR op_eq (pv 3) (pv 4) (nomark _)) (pw_or1 (pt_val (pe_meth (pv 0) TH.cl m_Shortener_absorbs g_Shortener_absorbs (hr.mono (by omega)) b_Shortener_absorbs .nil pass0 (pa_cons (pv 3) (pa_cons (pv 4) (pa_cons (pv 2) pa_nil))))))))) (pss_one (ps_ret (pv 3))) pss_nil)
      (pss_one (ps_ret (pv 1)))))))), ?_⟩
    refine ⟨.ref x.p, rfl, x.p, HC, x.dx, _, .ref x.r.p, rfl, n.obj, TH.cl, TH.nS, rfl, x.r.p, SC, x.r.dx, _, .ref x.r.ha, rfl, n.sh.obj, TS.cl, TS.nH, rfl, .int (ix S (F.two b f g) : Nat), rfl, x.r.ha, _, _, .ref e.h, rfl, rfl, SqL.of l1, atI_nat (j := ix S (F.two b f g)) (by rw [List.getElem?_map, he]; rfl), e.h, _, _, .str (wT b), rfl, rfl, ent.hd, rfl, ?_⟩
    refine ⟨.ref x.p, rfl, x.p, HC, x.dx, _, .ref x.r.p, rfl, n.obj, TH.cl, TH.nS, rfl, x.r.p, SC, x.r.dx, _, .ref x.r.ia, rfl, n.sh.obj, TS.cl, TS.nI, rfl, .int (ix S (F.two b f g) : Nat), rfl, x.r.ia, _, _, .ref e.i, rfl, rfl, SqL.of l2, atI_nat (j := ix S (F.two b f g)) (by rw [List.getElem?_map, he]; rfl), ?_⟩
    refine ⟨e.i, _, rfl, ent.inn, rfl, .int (ix S f : Nat), _, rfl, .int (ix S g : Nat), _, rfl, rfl, ?_⟩
    -- deciding
    refine ⟨.ref x.p, rfl, x.p, HC, x.dx, _, .ref x.de, rfl, n.obj, TH.cl, TH.nD, rfl, .str (wT b), rfl, x.de, _, rfl, hde, _, rfl, _, rfl, by show 2 ≤ sizeLine; decide, fun tp htp => ⟨tp, _, rfl, .inr (SqT.of upd_same), rfl, rfl, _, rfl, ?_⟩⟩
    have s1 := Same.new (o := .tup [.int (ix S f : Nat), .int (ix S g : Nat)]) htp
    generalize upd H tp (.tup [.int (ix S f : Nat), .int (ix S g : Nat)]) = H1 at s1
    have N1 := n.same s1
    have hne1 := DGet.k (k := Sum.inr (wT b)) N1.ne
    rw [ne_at, ← i0] at hne1
    have hde1 := DGet.k (k := Sum.inr (wT b)) N1.de
    rw [de_at, ← i1] at hde1
    rw [if_neg Bool.false_ne_true]
    have in1 : inV (.int (ix S (.nul (!b)) : Nat)) [.int (ix S f : Nat), .int (ix S g : Nat)] = decide (f = .nul (!b) ∨ g = .nul (!b)) := by
      rw [show [V.int (ix S f : Nat), V.int (ix S g : Nat)] = ([f, g].map fun v => ((ix S v : Nat) : Int)).map V.int from rfl, in_ints]
      refine decide_eq_decide.mpr ((ix_mem n1 hk).trans ?_)
      simp only [List.mem_cons, List.not_mem_nil, or_false]
      exact ⟨fun z => z.imp Eq.symm Eq.symm, fun z => z.imp Eq.symm Eq.symm⟩
    rw [in1]
    simp only [repF] at k
    by_cases c1 : f = .nul (!b) ∨ g = .nul (!b)
    · rw [decide_eq_true c1]
      rw [if_pos c1] at k
      refine iteT ?_
      exact ⟨.ref x.p, rfl, x.p, HC, x.dx, _, .ref x.de, rfl, N1.obj, TH.cl, TH.nD, rfl, .str (wT b), rfl, x.de, _, rfl, hde1, k _ s1⟩
    · rw [decide_eq_false c1]
      rw [if_neg c1] at k
      refine iteF ?_
      refine ⟨.int (ix S f : Nat), rfl, .ref x.p, rfl, x.p, HC, x.dx, _, .ref x.ne, rfl, N1.obj, TH.cl, TH.nN, rfl, .str (wT b), rfl, x.ne, _, rfl, hne1, rfl, _, rfl, ?_⟩
      rw [decide_eq_decide.mpr (ix_iff hf n0)]
      by_cases c2 : f = .nul b
      · rw [decide_eq_true c2]
        rw [if_pos (.inl c2)] at k
        refine iteT ?_
        refine iteT ?_
        exact ⟨_, rfl, k _ s1⟩
      · rw [decide_eq_false c2]
        refine iteF ?_
        refine ⟨.ref x.p, rfl, x.p, x.dx, _, rfl, N1.obj, rfl, .int (ix S g : Nat), rfl, .int (ix S f : Nat), rfl, .str (wT b), rfl, x, S, g, f, b, rfl, N1, hg, hf, _, rfl, ?_⟩
        cases c3 : absB b g f with
        | true =>
          rw [if_pos (.inr c3)] at k
          refine iteT ?_
          exact ⟨_, rfl, k _ s1⟩
        | false =>
          rw [if_neg (by simp [c2, c3])] at k
          refine iteF ?_
          refine ⟨.int (ix S g : Nat), rfl, .ref x.p, rfl, x.p, HC, x.dx, _, .ref x.ne, rfl, N1.obj, TH.cl, TH.nN, rfl, .str (wT b), rfl, x.ne, _, rfl, hne1, rfl, _, rfl, ?_⟩
          rw [decide_eq_decide.mpr (ix_iff hg n0)]
          by_cases c4 : g = .nul b
          · rw [decide_eq_true c4]
            rw [if_pos (.inl c4)] at k
            refine iteT ?_
            refine iteT ?_
            exact ⟨_, rfl, k _ s1⟩
          · rw [decide_eq_false c4]
            refine iteF ?_
            refine ⟨.int (ix S f : Nat), rfl, .int (ix S g : Nat), rfl, rfl, _, rfl, ?_⟩
            rw [decide_eq_decide.mpr (ix_iff hf hg)]
            by_cases c5 : f = g
            · rw [decide_eq_true c5]
              rw [if_pos (.inr (.inl c5))] at k
              refine iteT ?_
              refine iteT ?_
              exact ⟨_, rfl, k _ s1⟩
            · rw [decide_eq_false c5]
              refine iteF ?_
              refine ⟨.ref x.p, rfl, x.p, x.dx, _, rfl, N1.obj, rfl, .int (ix S f : Nat), rfl, .int (ix S g : Nat), rfl, .str (wT b), rfl, x, S, f, g, b, rfl, N1, hf, hg, _, rfl, ?_⟩
              cases c6 : absB b f g with
              | true =>
                rw [if_pos (.inr (.inr c6))] at k
                refine iteT ?_
                exact ⟨_, rfl, k _ s1⟩
              | false =>
                rw [if_neg (by simp [c4, c5, c6])] at k
                refine iteF ?_
                exact ⟨_, rfl, k _ s1⟩
def spRep (P : Program) (w : World) (K : PySem.W.Frag) (SC HC : Addr) : Sp := fun vs H Q _ => ∃ (x : HR) (S : List F) (t : F), vs = [.ref x.p, .int (ix S t : Nat)] ∧ Sr P w K SC HC H x S ∧ t ∈ S ∧ ∀ H', Same H H' → Q (.int (ix S (repF t) : Nat)) H'
theorem ok_replaced {f fv' : Addr} {fd fdv : FuncData} (FF : Fun K "replaced" "Shortener.replaced" s_Shortener_replaced f fd) (T : Txt K mg C J B) (TS : TxtS K SC) (TH : TxtH K HC) (TP : TxtP K mg STP)
    (m_Shortener_joined : Meth K HC "_joined" fv') (g_Shortener_joined : FnOk P w K mg base CX0 2 fv' fdv a_Shortener__joined (spJn P w K SC HC)) (b_Shortener_joined : Binds K fdv a_Shortener__joined []) : FnOk P w K mg base CX0 3 f fd a_Shortener_replaced (spRep P w K SC HC) := by
  refine FF.ok sc_Shortener_replaced (fun vs H Q E h => ?_) (fun cdv A outer s H vs Q E hr h => ?_)
  · obtain ⟨x, S, t, rfl, _⟩ := h
    rfl
  · obtain ⟨x, S, t, rfl, n, ht, k⟩ := h
    have hu := hu_of hr
    obtain ⟨E, e, l1, l2, l3, l4, he, ent⟩ := n.sh.at ht
    have hk : ∀ v ∈ t.kids, v ∈ S := n.sh.cl _ ht
    refine ⟨_, (pss_cons (ps_set (i := 2) sc_Shortener_replaced.nd rfl (.inl rfl) (pe_ix ix_list (pe_fld (pe_fld (pv 0) rfl) rfl) (pv 1) (fun _ _ => rfl)))
      (pss_cons (ps_set (i := 3) sc_Shortener_replaced.nd rfl (.inl rfl) (pe_ix ix_list (pe_fld (pe_fld (pv 0) rfl) rfl) (pv 1) (fun _ _ => rfl)))
      (pss_cons (ps_if (pt_cmpR op_in_seq (pe_ix ix_tup (pv 2) pe_int (fun _ _ => rfl)) (pe_glob rfl T.m_JOINS (show RelV (.ref _) _ from rfl)) (by rfl)) (pss_one (ps_ret (pe_meth (pv 0) TH.cl m_Shortener_joined g_Shortener_joined (hr.mono (by omega)) b_Shortener_joined .nil pass0 (pa_cons (pv 1) pa_nil)))) pss_nil)
      (pss_cons (ps_if (pt_cmpR op_in_seq (pe_ix ix_tup (pv 2) pe_int (fun _ _ => rfl)) (pe_glob rfl TP.m_STEPPERS (show RelV (.ref _) _ from rfl)) (by rfl)) (pss_one (ps_ret (pe_ifExp (pt_cmpR op_eq (pe_ix ix_tup (pv 3) pe_int (fun _ _ => rfl)) (pe_dget hu (pe_fld (pv 0) rfl) (pe_ix ix_tup (pv 2) pe_int (fun _ _ => rfl)) (fun _ _ => rfl)) (nomark _)) (pe_ix ix_tup (pv 3) pe_int (fun _ _ => rfl)) (pv 1)))) pss_nil)
      (pss_cons (ps_if (pt_not (pt_truth (pv 3) (by intro _; rfl))) (pss_one (ps_ret (pv 1))) pss_nil)
      (pss_cons (ps_if (pt_cmpR (op_eqD hr.units) (pe_ix ix_list (pe_fld (pe_fld (pv 0) rfl) rfl) (pe_ix ix_tup (pv 3) pe_int (fun _ _ => rfl)) (fun _ _ => rfl)) (pe_tup (pa_cons pe_str (pa_cons (pe_ix ix_tup (pv 2) pe_int (fun _ _ => rfl)) pa_nil))) (nomark _)) (pss_one (ps_ret (pe_dget hu (pe_fld (pv 0) rfl) (pe_ix ix_tup (pv 2) pe_int (fun _ _ => rfl)) (fun _ _ => rfl)))) pss_nil)
      (pss_one (ps_ret (pe_ifExp (pt_cmpR op_in_seq (pe_ix ix_tup (pv 2) pe_int (fun _ _ => rfl)) (pe_ix ix_list (pe_fld (pe_fld (pv 0) rfl) rfl) (pe_ix ix_tup (pv 3) pe_int (fun _ _ => rfl)) (fun _ _ => rfl)) (by rfl)) (pv 1) (pe_ix ix_tup (pv 3) pe_int (fun _ _ => rfl))))))))))), ?_⟩
    have hd0 : atI (hv t.hd) 0 = some (.str (hw t.hd)) := atI_nat (j := 0) (hv_head _)
    refine ⟨.ref x.p, rfl, x.p, HC, x.dx, _, .ref x.r.p, rfl, n.obj, TH.cl, TH.nS, rfl, x.r.p, SC, x.r.dx, _, .ref x.r.ha, rfl, n.sh.obj, TS.cl, TS.nH, rfl, .int (ix S t : Nat), rfl, x.r.ha, _, _, .ref e.h, rfl, rfl, SqL.of l1, atI_nat (j := ix S t) (by rw [List.getElem?_map, he]; rfl), ?_⟩
    refine ⟨.ref x.p, rfl, x.p, HC, x.dx, _, .ref x.r.p, rfl, n.obj, TH.cl, TH.nS, rfl, x.r.p, SC, x.r.dx, _, .ref x.r.ia, rfl, n.sh.obj, TS.cl, TS.nI, rfl, .int (ix S t : Nat), rfl, x.r.ia, _, _, .ref e.i, rfl, rfl, SqL.of l2, atI_nat (j := ix S t) (by rw [List.getElem?_map, he]; rfl), ?_⟩
    refine ⟨.ref e.h, rfl, e.h, _, _, _, rfl, rfl, ent.hd, hd0, J, _, rfl, .inr (T.c_JOINS H), rfl, rfl, _, rfl, ?_⟩
    rw [if_neg Bool.false_ne_true, in_joins]
    cases t with
    | two b f g =>
      refine iteT ?_
      exact ⟨.ref x.p, rfl, x.p, x.dx, _, rfl, n.obj, rfl, .int (ix S (.two b f g) : Nat), rfl, x, S, b, f, g, rfl, n, ht, k⟩
    | nul b =>
      refine iteF ?_
      refine ⟨.ref e.h, rfl, e.h, _, _, _, rfl, rfl, ent.hd, hd0, STP, _, rfl, .inr (TP.c_STEPPERS H), rfl, rfl, _, rfl, ?_⟩
      rw [if_neg Bool.false_ne_true, in_steppers]
      refine iteF ?_
      exact ⟨.ref e.i, rfl, false, .inr (.inl ⟨_, ent.inn, rfl⟩), iteT ⟨_, rfl, k _ (Same.refl _)⟩⟩
    | leaf c m =>
      refine iteF ?_
      refine ⟨.ref e.h, rfl, e.h, _, _, _, rfl, rfl, ent.hd, hd0, STP, _, rfl, .inr (TP.c_STEPPERS H), rfl, rfl, _, rfl, ?_⟩
      rw [if_neg Bool.false_ne_true, in_steppers]
      refine iteF ?_
      exact ⟨.ref e.i, rfl, false, .inr (.inl ⟨_, ent.inn, rfl⟩), iteT ⟨_, rfl, k _ (Same.refl _)⟩⟩
    | one c m g =>
      refine iteF ?_
      refine ⟨.ref e.h, rfl, e.h, _, _, _, rfl, rfl, ent.hd, hd0, STP, _, rfl, .inr (TP.c_STEPPERS H), rfl, rfl, _, rfl, ?_⟩
      rw [if_neg Bool.false_ne_true, in_steppers]
      have hg := hk g (by simp [F.kids])
      obtain ⟨n0, i0⟩ := n.nul c.kept
      have hke := DGet.k (k := Sum.inr (wO c)) n.ke
      rw [ke_at, ← i0] at hke
      have in0 : atI [V.int (ix S g : Nat)] 0 = some (.int (ix S g : Nat)) := rfl
      have hst : isStep (F.one c m g).hd = !c.bind := by cases c <;> rfl
      rw [hst]
      simp only [repF] at k
      cases hb : c.bind with
      | false =>
        rw [hb, if_neg Bool.false_ne_true] at k
        refine iteT ?_
        refine ⟨.ref e.i, rfl, e.i, _, _, .int (ix S g : Nat), rfl, rfl, ent.inn, in0, .ref x.p, rfl, x.p, HC, x.dx, _, .ref x.ke, rfl, n.obj, TH.cl, TH.nK, rfl, .ref e.h, rfl, e.h, _, _, .str (wO c), rfl, rfl, ent.hd, rfl, x.ke, _, rfl, hke, rfl, _, rfl, ?_⟩
        rw [decide_eq_decide.mpr (ix_iff hg n0)]
        by_cases c1 : g = .nul c.kept
        · rw [decide_eq_true c1]
          rw [if_pos c1] at k
          exact iteT ⟨.ref e.i, rfl, e.i, _, _, .int (ix S g : Nat), rfl, rfl, ent.inn, in0, k _ (Same.refl _)⟩
        · rw [decide_eq_false c1]
          rw [if_neg c1] at k
          exact iteF ⟨_, rfl, k _ (Same.refl _)⟩
      | true =>
        rw [hb, if_pos rfl] at k
        refine iteF ?_
        refine ⟨.ref e.i, rfl, true, .inr (.inl ⟨_, ent.inn, rfl⟩), iteF ?_⟩
        obtain ⟨E2, e2, q1, q2, q3, q4, he2, ent2⟩ := n.sh.at hg
        refine ⟨.ref x.p, rfl, x.p, HC, x.dx, _, .ref x.r.p, rfl, n.obj, TH.cl, TH.nS, rfl, x.r.p, SC, x.r.dx, _, .ref x.r.ha, rfl, n.sh.obj, TS.cl, TS.nH, rfl, .ref e.i, rfl, e.i, _, _, .int (ix S g : Nat), rfl, rfl, ent.inn, in0, x.r.ha, _, _, .ref e2.h, rfl, rfl, SqL.of q1, atI_nat (j := ix S g) (by rw [List.getElem?_map, he2]; rfl), ?_⟩
        refine ⟨.ref e.h, rfl, e.h, _, 1, .int m, rfl, rfl, ent.hd, rfl, by show 2 ≤ sizeLine; decide, fun tp htp => ?_⟩
        have s1 := Same.new (o := .tup [.str "var", .int m]) htp
        have tp1 : SqT K (upd H tp (.tup [.str "var", .int m])) tp (hv (.leaf .var m)) := SqT.of upd_same
        generalize upd H tp (.tup [.str "var", .int m]) = H1 at s1 tp1
        have N1 := n.same s1
        have hke1 := DGet.k (k := Sum.inr (wO c)) N1.ke
        rw [ke_at, ← i0] at hke1
        refine ⟨dH g.hd, dH (.leaf .var m), dp_hd _ (SqT.same s1 ent2.hd), dp_hd _ tp1, dH_shaped _, dH_shaped _, _, rfl, ?_⟩
        rw [eqv_var]
        have ev : (g.hd = .leaf .var m) ↔ g = .leaf .var m := ⟨fun z => by cases g <;> cases z; rfl, fun z => by rw [z]; rfl⟩
        rw [decide_eq_decide.mpr ev]
        by_cases c1 : g = .leaf .var m
        · rw [decide_eq_true c1]
          rw [if_pos c1] at k
          refine iteT ?_
          exact ⟨.ref x.p, rfl, x.p, HC, x.dx, _, .ref x.ke, rfl, N1.obj, TH.cl, TH.nK, rfl, .ref e.h, rfl, e.h, _, _, .str (wO c), rfl, rfl, SqT.same s1 ent.hd, rfl, x.ke, _, rfl, hke1, k _ s1⟩
        · rw [decide_eq_false c1]
          rw [if_neg c1] at k
          refine iteF ?_
          obtain ⟨L, hL, memL, lenL⟩ := ent2.fre
          refine ⟨.ref e.h, rfl, e.h, _, 1, .int m, rfl, rfl, SqT.same s1 ent.hd, rfl, .ref x.p, rfl, x.p, HC, x.dx, _, .ref x.r.p, rfl, N1.obj, TH.cl, TH.nS, rfl, x.r.p, SC, x.r.dx, _, .ref x.r.fa, rfl, N1.sh.obj, TS.cl, TS.nF, rfl, .ref e.i, rfl, e.i, _, _, .int (ix S g : Nat), rfl, rfl, SqT.same s1 ent.inn, in0, x.r.fa, _, _, .ref e2.f, rfl, rfl, SqL.of (s1 _ _ q3), atI_nat (j := ix S g) (by rw [List.getElem?_map, he2]; rfl), e2.f, _, rfl, .inr (SqT.same s1 hL), rfl, flat_ints L, _, rfl, ?_⟩
          rw [if_neg Bool.false_ne_true, in_ints, decide_eq_decide.mpr (memL m)]
          by_cases c2 : m ∈ fv g
          · rw [decide_eq_true c2]
            rw [if_pos c2] at k
            exact iteT ⟨_, rfl, k _ s1⟩
          · rw [decide_eq_false c2]
            rw [if_neg c2] at k
            exact iteF ⟨.ref e.i, rfl, e.i, _, _, .int (ix S g : Nat), rfl, rfl, SqT.same s1 ent.inn, in0, k _ s1⟩
end
end Fw

set_option maxRecDepth 100000
set_option maxHeartbeats 4000000
namespace Fw
open PySem PySem.Spec PyProof.Rows L2
section
variable {P : Program} {w : World} {K : PySem.W.Frag} {mg : Str → Option Value} {base : Heap} {C J B SC HC STP : Addr}
def spShI (P : Program) (w : World) (K : PySem.W.Frag) (SC : Addr) : Sp := fun vs H Q _ => ∃ (p dx : Addr), vs = [.ref p] ∧ H p = some (.ins SC dx []) ∧ ∀ (r : SR) H', r.p = p → But p H H' → (∀ b, r.Own b → H b = none) → Sh P w K SC H' r [] → Q .non H'
theorem but_same {p : Addr} {H H1 H2 : Hp} (a : But p H H1) (s : Same H1 H2) : But p H H2 := fun b o n e => s b o (a b o n e)
theorem but_put {p : Addr} {H H1 : Hp} (a : But p H H1) (o : HO) : But p H (upd H1 p o) := fun b u n e => by rw [upd_ne n]; exact a b u n e
theorem but_none {p a : Addr} {H H1 : Hp} {o : HO} (bt : But p H H1) (e : H1 p = some o) (h : H1 a = none) : H a = none := by
  cases c : H a with
  | none => rfl
  | some u =>
    have n : a ≠ p := fun z => by rw [z, e] at h; cases h
    rw [bt a u n c] at h
    cases h
theorem ok_Shelf_init {f : Addr} {fd : FuncData} (FF : Fun K "__init__" "Shelf.__init__" s_Shelf_init f fd) (T : Txt K mg C J B) (TS : TxtS K SC) : FnOk P w K mg base CX0 1 f fd a_Shelf_init (spShI P w K SC) := by
  refine FF.ok sc_Shelf_init (fun vs H Q E h => ?_) (fun cdv A outer s H vs Q E hr h => ?_)
  · obtain ⟨p, dx, rfl, _⟩ := h
    rfl
  · obtain ⟨p, dx, rfl, hp, k⟩ := h
    refine ⟨_, (pss_cons (ps_fld (pv 0) (pe_lst pa_nil) rfl)
      (pss_cons (ps_fld (pv 0) (pe_lst pa_nil) rfl)
      (pss_cons (ps_fld (pv 0) (pe_lst pa_nil) rfl)
      (pss_cons (ps_fld (pv 0) (pe_lst pa_nil) rfl)
      (pss_one (ps_fld (pv 0) (@id (PE _ _ (tDNewN P w)) pe_dnewN) rfl)))))), ?_⟩
    have b0 := But.refl p H
    have g0 := hp
    refine ⟨Nat.zero_le _, fun ha hha => ?_⟩
    have s0 := Same.new (o := .lst []) hha
    have eha : (upd H ha (.lst [])) ha = some (.lst []) := upd_same
    have g0' := s0 _ _ g0
    have b0' := but_same b0 s0
    have fha := but_none b0 g0 hha
    generalize upd H ha (.lst []) = G0 at s0 eha g0' b0' 
    refine ⟨.ref p, rfl, p, SC, dx, _, rfl, g0', TS.cl, TS.nH, by show 0 < 1000; decide, ?_⟩
    have b1 := but_put b0' (.ins SC dx [("heads", V.ref ha)])
    have g1 : (upd G0 p (.ins SC dx [("heads", V.ref ha)])) p = some (.ins SC dx [("heads", V.ref ha)]) := upd_same
    have eha : (upd G0 p (.ins SC dx [("heads", V.ref ha)])) ha = some (.lst []) := by rw [upd_ne (ne_of eha g0' (by intro z; cases z))]; exact eha
    change _
    rw [show putF "heads" (V.ref ha) ([] : List (Str × V)) = ([("heads", V.ref ha)] : List (Str × V)) from rfl]
    generalize upd G0 p (.ins SC dx [("heads", V.ref ha)]) = H1 at b1 g1 eha
    refine ⟨Nat.zero_le _, fun ia hia => ?_⟩
    have s1 := Same.new (o := .lst []) hia
    have eia : (upd H1 ia (.lst [])) ia = some (.lst []) := upd_same
    have g1' := s1 _ _ g1
    have nhaia : ha ≠ ia := ne_of_none eha hia
    have eha := s1 _ _ eha
    have b1' := but_same b1 s1
    have fia := but_none b1 g1 hia
    generalize upd H1 ia (.lst []) = G1 at s1 eia g1' b1' eha
    refine ⟨.ref p, rfl, p, SC, dx, _, rfl, g1', TS.cl, TS.nI, by show 1 < 1000; decide, ?_⟩
    have b2 := but_put b1' (.ins SC dx [("heads", V.ref ha), ("inner", V.ref ia)])
    have g2 : (upd G1 p (.ins SC dx [("heads", V.ref ha), ("inner", V.ref ia)])) p = some (.ins SC dx [("heads", V.ref ha), ("inner", V.ref ia)]) := upd_same
    have eha : (upd G1 p (.ins SC dx [("heads", V.ref ha), ("inner", V.ref ia)])) ha = some (.lst []) := by rw [upd_ne (ne_of eha g1' (by intro z; cases z))]; exact eha
    have eia : (upd G1 p (.ins SC dx [("heads", V.ref ha), ("inner", V.ref ia)])) ia = some (.lst []) := by rw [upd_ne (ne_of eia g1' (by intro z; cases z))]; exact eia
    change _
    rw [show putF "inner" (V.ref ia) ([("heads", V.ref ha)] : List (Str × V)) = ([("heads", V.ref ha), ("inner", V.ref ia)] : List (Str × V)) from rfl]
    generalize upd G1 p (.ins SC dx [("heads", V.ref ha), ("inner", V.ref ia)]) = H2 at b2 g2 eha eia
    refine ⟨Nat.zero_le _, fun fa hfa => ?_⟩
    have s2 := Same.new (o := .lst []) hfa
    have efa : (upd H2 fa (.lst [])) fa = some (.lst []) := upd_same
    have g2' := s2 _ _ g2
    have nhafa : ha ≠ fa := ne_of_none eha hfa
    have eha := s2 _ _ eha
    have niafa : ia ≠ fa := ne_of_none eia hfa
    have eia := s2 _ _ eia
    have b2' := but_same b2 s2
    have ffa := but_none b2 g2 hfa
    generalize upd H2 fa (.lst []) = G2 at s2 efa g2' b2' eha eia
    refine ⟨.ref p, rfl, p, SC, dx, _, rfl, g2', TS.cl, TS.nF, by show 2 < 1000; decide, ?_⟩
    have b3 := but_put b2' (.ins SC dx [("heads", V.ref ha), ("inner", V.ref ia), ("free", V.ref fa)])
    have g3 : (upd G2 p (.ins SC dx [("heads", V.ref ha), ("inner", V.ref ia), ("free", V.ref fa)])) p = some (.ins SC dx [("heads", V.ref ha), ("inner", V.ref ia), ("free", V.ref fa)]) := upd_same
    have eha : (upd G2 p (.ins SC dx [("heads", V.ref ha), ("inner", V.ref ia), ("free", V.ref fa)])) ha = some (.lst []) := by rw [upd_ne (ne_of eha g2' (by intro z; cases z))]; exact eha
    have eia : (upd G2 p (.ins SC dx [("heads", V.ref ha), ("inner", V.ref ia), ("free", V.ref fa)])) ia = some (.lst []) := by rw [upd_ne (ne_of eia g2' (by intro z; cases z))]; exact eia
    have efa : (upd G2 p (.ins SC dx [("heads", V.ref ha), ("inner", V.ref ia), ("free", V.ref fa)])) fa = some (.lst []) := by rw [upd_ne (ne_of efa g2' (by intro z; cases z))]; exact efa
    change _
    rw [show putF "free" (V.ref fa) ([("heads", V.ref ha), ("inner", V.ref ia)] : List (Str × V)) = ([("heads", V.ref ha), ("inner", V.ref ia), ("free", V.ref fa)] : List (Str × V)) from rfl]
    generalize upd G2 p (.ins SC dx [("heads", V.ref ha), ("inner", V.ref ia), ("free", V.ref fa)]) = H3 at b3 g3 eha eia efa
    refine ⟨Nat.zero_le _, fun sa hsa => ?_⟩
    have s3 := Same.new (o := .lst []) hsa
    have esa : (upd H3 sa (.lst [])) sa = some (.lst []) := upd_same
    have g3' := s3 _ _ g3
    have nhasa : ha ≠ sa := ne_of_none eha hsa
    have eha := s3 _ _ eha
    have niasa : ia ≠ sa := ne_of_none eia hsa
    have eia := s3 _ _ eia
    have nfasa : fa ≠ sa := ne_of_none efa hsa
    have efa := s3 _ _ efa
    have b3' := but_same b3 s3
    have fsa := but_none b3 g3 hsa
    generalize upd H3 sa (.lst []) = G3 at s3 esa g3' b3' eha eia efa
    refine ⟨.ref p, rfl, p, SC, dx, _, rfl, g3', TS.cl, TS.nS, by show 3 < 1000; decide, ?_⟩
    have b4 := but_put b3' (.ins SC dx [("heads", V.ref ha), ("inner", V.ref ia), ("free", V.ref fa), ("statements", V.ref sa)])
    have g4 : (upd G3 p (.ins SC dx [("heads", V.ref ha), ("inner", V.ref ia), ("free", V.ref fa), ("statements", V.ref sa)])) p = some (.ins SC dx [("heads", V.ref ha), ("inner", V.ref ia), ("free", V.ref fa), ("statements", V.ref sa)]) := upd_same
    have eha : (upd G3 p (.ins SC dx [("heads", V.ref ha), ("inner", V.ref ia), ("free", V.ref fa), ("statements", V.ref sa)])) ha = some (.lst []) := by rw [upd_ne (ne_of eha g3' (by intro z; cases z))]; exact eha
    have eia : (upd G3 p (.ins SC dx [("heads", V.ref ha), ("inner", V.ref ia), ("free", V.ref fa), ("statements", V.ref sa)])) ia = some (.lst []) := by rw [upd_ne (ne_of eia g3' (by intro z; cases z))]; exact eia
    have efa : (upd G3 p (.ins SC dx [("heads", V.ref ha), ("inner", V.ref ia), ("free", V.ref fa), ("statements", V.ref sa)])) fa = some (.lst []) := by rw [upd_ne (ne_of efa g3' (by intro z; cases z))]; exact efa
    have esa : (upd G3 p (.ins SC dx [("heads", V.ref ha), ("inner", V.ref ia), ("free", V.ref fa), ("statements", V.ref sa)])) sa = some (.lst []) := by rw [upd_ne (ne_of esa g3' (by intro z; cases z))]; exact esa
    change _
    rw [show putF "statements" (V.ref sa) ([("heads", V.ref ha), ("inner", V.ref ia), ("free", V.ref fa)] : List (Str × V)) = ([("heads", V.ref ha), ("inner", V.ref ia), ("free", V.ref fa), ("statements", V.ref sa)] : List (Str × V)) from rfl]
    generalize upd G3 p (.ins SC dx [("heads", V.ref ha), ("inner", V.ref ia), ("free", V.ref fa), ("statements", V.ref sa)]) = H4 at b4 g4 eha eia efa esa
    intro na hna
    have s4 := Same.new (o := DNs P w na []) hna
    have ena : (upd H4 na (DNs P w na [])) na = some (DNs P w na []) := upd_same
    have g4' := s4 _ _ g4
    have b4' := but_same b4 s4
    have fna := but_none b4 g4 hna
    have eha := s4 _ _ eha
    have eia := s4 _ _ eia
    have efa := s4 _ _ efa
    have esa := s4 _ _ esa
    refine ⟨.ref p, rfl, p, SC, dx, _, rfl, g4', TS.cl, TS.nN, by show 4 < 1000; decide, ?_⟩
    generalize upd H4 na (DNs P w na []) = G4 at s4 ena g4' b4' eha eia efa esa
    rw [show putF "_numbers" (V.ref na) ([("heads", V.ref ha), ("inner", V.ref ia), ("free", V.ref fa), ("statements", V.ref sa)] : List (Str × V)) = ([("heads", V.ref ha), ("inner", V.ref ia), ("free", V.ref fa), ("statements", V.ref sa), ("_numbers", V.ref na)] : List (Str × V)) from rfl]
    have nn : ∀ (a : Addr) (u : HO), G4 a = some u → (∀ fs, u ≠ .ins SC dx fs) → (upd G4 p (.ins SC dx [("heads", V.ref ha), ("inner", V.ref ia), ("free", V.ref fa), ("statements", V.ref sa), ("_numbers", V.ref na)])) a = some u := fun a u e ne => by
      rw [upd_ne (ne_of e g4' (ne _))]
      exact e
    refine k ⟨p, dx, ha, ia, fa, sa, na⟩ _ rfl (but_put b4' _) (fun b ow => by rcases ow with rfl | rfl | rfl | rfl | rfl <;> assumption) ⟨upd_same, List.nodup_nil, fun t ht => (nomatch ht), ⟨nhaia, nhafa, nhasa, niafa, niasa, nfasa⟩, ⟨[], nn _ _ eha (by intro _ z; cases z), nn _ _ eia (by intro _ z; cases z), nn _ _ efa (by intro _ z; cases z), nn _ _ esa (by intro _ z; cases z), rfl, fun i t e h => by cases h⟩,
      ⟨[], nn _ _ ena (by intro _ z; cases z), fun e he => (nomatch he), rfl, fun k v => ⟨fun z => (nomatch z), fun ⟨i, t, z, _⟩ => (nomatch z)⟩⟩⟩
/-! ### Shortener -/
theorem grow_new {S S' : List F} {t : F} (g : Grow S S' t) (h : t ∉ S) : S' = S ++ [t] := by
  obtain ⟨⟨T, rfl⟩, mem, _, len⟩ := g
  rw [List.length_append] at len
  have mt := (List.mem_append.mp mem).resolve_left h
  match T, mt, len with
  | [a], mt, _ => rw [List.mem_singleton.mp mt]
  | a :: b :: T, _, len => simp only [List.length_cons] at len; omega
def spHI (P : Program) (w : World) (K : PySem.W.Frag) (SC HC : Addr) : Sp := fun vs H Q _ => ∃ (p dx : Addr), vs = [.ref p] ∧ H p = some (.ins HC dx []) ∧ ∀ (x : HR) H', x.p = p → But p H H' → (∀ b, x.r.Own b → H b = none) → Sr P w K SC HC H' x [.nul true, .nul false] → Q .non H'
theorem Sh.own {P : Program} {w : World} {K : PySem.W.Frag} {SC : Addr} {H : Hp} {r : SR} {S : List F} (n : Sh P w K SC H r S) {b : Addr} (h : r.Own b) : (∃ xs, H b = some (.lst xs)) ∨ ∃ kvs, H b = some (DNs P w r.na kvs) := by
  obtain ⟨E, e1, e2, e3, e4, _⟩ := n.ents
  obtain ⟨kvs, g1, _⟩ := n.nums
  rcases h with rfl | rfl | rfl | rfl | rfl
  · exact .inl ⟨_, e1⟩
  · exact .inl ⟨_, e2⟩
  · exact .inl ⟨_, e3⟩
  · exact .inl ⟨_, e4⟩
  · exact .inr ⟨_, g1⟩
theorem Sh.notOwn {P : Program} {w : World} {K : PySem.W.Frag} {SC : Addr} {H : Hp} {r : SR} {S : List F} (n : Sh P w K SC H r S) {b : Addr} {o : HO} (h : H b = some o) (n1 : ∀ xs, o ≠ .lst xs) (n2 : ∀ p, o ≠ .ext p) : ¬ r.Own b := fun z => by
  rcases n.own z with ⟨xs, e⟩ | ⟨kvs, e⟩
  · rw [h] at e; exact n1 _ (Option.some.inj e)
  · rw [h] at e; exact n2 _ (Option.some.inj e)
theorem Sh.notOwn' {P : Program} {w : World} {K : PySem.W.Frag} {SC : Addr} {H : Hp} {r : SR} {S : List F} (n : Sh P w K SC H r S) {b : Addr} (h : H b = none) : ¬ r.Own b := fun z => by
  rcases n.own z with ⟨xs, e⟩ | ⟨kvs, e⟩ <;> (rw [h] at e; cases e)
/-- all but own and p is as it was -/
def KxB (r : SR) (p : Addr) (H H' : Hp) : Prop := ∀ b o, ¬ r.Own b → b ≠ p → H b = some o → H' b = some o
theorem ok_Shortener_init {f fv' : Addr} {fd fdv : FuncData} (FF : Fun K "__init__" "Shortener.__init__" s_Shortener_init f fd) (T : Txt K mg C J B) (TS : TxtS K SC) (TH : TxtH K HC) (h_Shelf : HasC P w K mg base "Shelf" SC 1 a_Shelf_init (spShI P w K SC))
    (m_Shelf_number : Meth K SC "number" fv') (g_Shelf_number : FnOk P w K mg base CX0 2 fv' fdv a_Shelf_number (spNum P w K SC)) (b_Shelf_number : Binds K fdv a_Shelf_number []) : FnOk P w K mg base CX0 3 f fd a_Shortener_init (spHI P w K SC HC) := by
  refine FF.ok sc_Shortener_init (fun vs H Q E h => ?_) (fun cdv A outer s H vs Q E hr h => ?_)
  · obtain ⟨p, dx, rfl, _⟩ := h
    rfl
  · obtain ⟨p, dx, rfl, hp, k⟩ := h
    refine ⟨_, (pss_cons (ps_fld (pv 0) (pe_makeH0 h_Shelf (hr.mono (by omega))) rfl)
      (pss_cons (ps_set (i := 1) sc_Shortener_init.nd rfl (.inl rfl) (pe_meth (pe_fld (pv 0) rfl) TS.cl m_Shelf_number g_Shelf_number (hr.mono (by omega)) b_Shelf_number .nil pass0 (pa_cons (pe_tup (pa_cons pe_str pa_nil)) (pa_cons (pe_tup pa_nil) pa_nil))))
      (pss_cons (ps_set (i := 2) sc_Shortener_init.nd rfl (.inl rfl) (pe_meth (pe_fld (pv 0) rfl) TS.cl m_Shelf_number g_Shelf_number (hr.mono (by omega)) b_Shelf_number .nil pass0 (pa_cons (pe_tup (pa_cons pe_str pa_nil)) (pa_cons (pe_tup pa_nil) pa_nil))))
      (pss_cons (ps_fld (pv 0) (pe_disp (pps_cons pe_str (pv 1) (pps_cons pe_str (pv 2) pps_nil)) (by rfl) (by rfl) (fun z => by cases z) (by decide)) rfl)
      (pss_cons (ps_fld (pv 0) (pe_disp (pps_cons pe_str (pv 2) (pps_cons pe_str (pv 1) pps_nil)) (by rfl) (by rfl) (fun z => by cases z) (by decide)) rfl)
      (pss_one (ps_fld (pv 0) (pe_disp (pps_cons pe_str (pv 2) (pps_cons pe_str (pv 1) (pps_cons pe_str (pv 2) (pps_cons pe_str (pv 1) pps_nil)))) (by rfl) (by rfl) (fun z => by cases z) (by decide)) rfl))))))), ?_⟩
    intro sa sdx nsa nsdx nesd
    refine ⟨sa, sdx, rfl, upd_same, fun r H2 er bt1 ow1 sh1 => ⟨rfl, ?_⟩⟩
    subst er
    have psa : p ≠ r.p := ne_of_none hp nsa
    have psdx : p ≠ sdx := ne_of_none hp nsdx
    have old : ∀ b o, H b = some o → (upd (upd H sdx (.own r.p)) r.p (.ins SC sdx [])) b = some o := fun b o e => by rw [upd_ne (ne_of_none e nsa), upd_ne (ne_of_none e nsdx)]; exact e
    have s2 : Same H H2 := fun b o e => bt1 b o (ne_of_none e nsa) (old b o e)
    have nown : ∀ b, r.Own b → H b = none := fun b ow => by
      have := ow1 b ow
      cases c : H b with
      | none => rfl
      | some o => rw [old b o c] at this; cases this
    have gp2 := s2 _ _ hp
    clear old bt1 nsdx nesd ow1
    have nrp : r.p ≠ p := psa.symm
    clear psa psdx
    refine ⟨.ref p, rfl, p, HC, dx, [], rfl, gp2, TH.cl, TH.nS, by show 0 < 1000; decide, ?_⟩
    rw [show putF "shelf" (V.ref r.p) ([] : List (Str × V)) = ([("shelf", V.ref r.p)] : List (Str × V)) from rfl]
    have gp : (upd H2 p (.ins HC dx [("shelf", V.ref r.p)])) p = some (.ins HC dx [("shelf", V.ref r.p)]) := upd_same
    have bt := but_put (fun b o _ e => s2 b o e : But p H H2) (.ins HC dx [("shelf", V.ref r.p)])
    have sh : Sh P w K SC (upd H2 p (.ins HC dx [("shelf", V.ref r.p)])) r [] := sh1.keep (fun b o c e => by
      have : b ≠ p := by
        rcases c with c | c
        · intro z
          rw [z] at c
          exact sh1.notOwn gp2 (by intro _ z; cases z) (by intro _ z; cases z) c
        · rw [c]; exact nrp
      rw [upd_ne this]
      exact e) (TKp.ins gp2)
    generalize upd H2 p (.ins HC dx [("shelf", V.ref r.p)]) = G at gp bt sh
    clear sh1 gp2 s2
    refine ⟨.ref p, rfl, p, HC, dx, _, .ref r.p, rfl, gp, TH.cl, TH.nS, rfl, r.p, r.dx, _, rfl, sh.obj, rfl, by show 1 ≤ sizeLine; decide, fun h hh => ⟨by show 0 ≤ sizeLine; decide, fun i hi => ?_⟩⟩
    have s1 := Same.new (o := .tup [.str (wN true)]) hh
    have s2 := Same.new (o := .tup []) hi
    have hh2 : SqT K (upd (upd G h (.tup [.str (wN true)])) i (.tup [])) h (hv (F.nul true).hd) := SqT.of (s2 _ _ upd_same)
    have hi2 : SqT K (upd (upd G h (.tup [.str (wN true)])) i (.tup [])) i ((F.nul true).kids.map fun u => V.int (ix [] u : Nat)) := SqT.of upd_same
    have nin : F.nul true ∉ ([] : List F) := by decide
    refine ⟨r, h, i, [], .nul true, rfl, sh.same (s1.trans s2), hh2, hi2, fun u hu => (nomatch hu), by decide, by decide, fun S' G2 kx tk sh' g => ?_⟩
    have eS := grow_new g nin
    subst eS
    rw [ix_new nin]
    have gp' := kx _ _ (sh.notOwn gp (by intro _ z; cases z) (by intro _ z; cases z)) (s2 _ _ (s1 _ _ gp))
    have bt' : But p H G2 := fun b o n e => kx b o (fun ow => by rw [nown b ow] at e; cases e) (s2 _ _ (s1 _ _ (bt b o n e)))
    clear bt s1 s2 hh hi hh2 hi2 kx tk gp sh g h i
    have gp := gp'
    have bt := bt'
    have sh : Sh P w K SC G2 r [.nul true] := sh'
    clear gp' bt' sh'
    obtain ⟨G, eG⟩ : ∃ x, x = G2 := ⟨_, rfl⟩
    subst eG
    refine ⟨.ref p, rfl, p, HC, dx, _, .ref r.p, rfl, gp, TH.cl, TH.nS, rfl, r.p, r.dx, _, rfl, sh.obj, rfl, by show 1 ≤ sizeLine; decide, fun h hh => ⟨by show 0 ≤ sizeLine; decide, fun i hi => ?_⟩⟩
    have s1 := Same.new (o := .tup [.str (wN false)]) hh
    have s2 := Same.new (o := .tup []) hi
    have hh2 : SqT K (upd (upd G h (.tup [.str (wN false)])) i (.tup [])) h (hv (F.nul false).hd) := SqT.of (s2 _ _ upd_same)
    have hi2 : SqT K (upd (upd G h (.tup [.str (wN false)])) i (.tup [])) i ((F.nul false).kids.map fun u => V.int (ix [.nul true] u : Nat)) := SqT.of upd_same
    have nin : F.nul false ∉ ([.nul true] : List F) := by decide
    refine ⟨r, h, i, [.nul true], .nul false, rfl, sh.same (s1.trans s2), hh2, hi2, fun u hu => (nomatch hu), by decide, by decide, fun S' G2 kx tk sh' g => ?_⟩
    have eS := grow_new g nin
    subst eS
    rw [ix_new nin]
    have gp' := kx _ _ (sh.notOwn gp (by intro _ z; cases z) (by intro _ z; cases z)) (s2 _ _ (s1 _ _ gp))
    have bt' : But p H G2 := fun b o n e => kx b o (fun ow => by rw [nown b ow] at e; cases e) (s2 _ _ (s1 _ _ (bt b o n e)))
    clear bt s1 s2 hh hi hh2 hi2 kx tk gp sh g h i
    have gp := gp'
    have bt := bt'
    have sh : Sh P w K SC G2 r [.nul true, .nul false] := sh'
    clear gp' bt' sh'
    obtain ⟨G, eG⟩ : ∃ x, x = G2 := ⟨_, rfl⟩
    subst eG
    intro ne hne
    refine ⟨.int 0, rfl, .int 1, rfl, upd_same, [(Sum.inr "and", V.int 0), (Sum.inr "or", V.int 1)], rfl, by decide, ?_⟩
    have sd : Same G (upd (upd G ne (.dK [])) ne (.dK neK)) := fun b o e => by
      rw [upd_ne (ne_of_none e hne), upd_ne (ne_of_none e hne)]
      exact e
    have fne := but_none bt gp hne
    have ene : (upd (upd G ne (.dK [])) ne (.dK neK)) ne = some (.dK neK) := upd_same
    have gp := sd _ _ gp
    have bt := but_same bt sd
    have sh := sh.same sd
    generalize upd (upd G ne (.dK [])) ne (.dK neK) = G2 at sd ene gp bt sh 
    refine ⟨.ref p, rfl, p, HC, dx, _, rfl, gp, TH.cl, TH.nN, by show 1 < 1000; decide, ?_⟩
    rw [show putF "_neutral" (V.ref ne) ([("shelf", V.ref r.p)] : List (Str × V)) = ([("shelf", V.ref r.p), ("_neutral", V.ref ne)] : List (Str × V)) from rfl]
    have sh' : Sh P w K SC (upd G2 p (.ins HC dx [("shelf", V.ref r.p), ("_neutral", V.ref ne)])) r [.nul true, .nul false] := sh.keep (fun b o c e => by
      have : b ≠ p := by
        rcases c with c | c
        · intro z
          rw [z] at c
          exact sh.notOwn gp (by intro _ z; cases z) (by intro _ z; cases z) c
        · rw [c]; exact nrp
      rw [upd_ne this]
      exact e) (TKp.ins gp)
    have bt' := but_put bt (.ins HC dx [("shelf", V.ref r.p), ("_neutral", V.ref ne)])
    have ene' : (upd G2 p (.ins HC dx [("shelf", V.ref r.p), ("_neutral", V.ref ne)])) ne = some (.dK neK) := by rw [upd_ne (ne_of ene gp (by intro z; cases z))]; exact ene
    have gp' : (upd G2 p (.ins HC dx [("shelf", V.ref r.p), ("_neutral", V.ref ne)])) p = some (.ins HC dx [("shelf", V.ref r.p), ("_neutral", V.ref ne)]) := upd_same
    generalize upd G2 p (.ins HC dx [("shelf", V.ref r.p), ("_neutral", V.ref ne)]) = G3 at gp' bt' sh' ene'
    clear gp bt sh sd hne ene
    have gp := gp'
    have bt := bt'
    have sh := sh'
    clear gp' bt' sh'
    have ene := ene'
    clear ene'
    obtain ⟨G, eG⟩ : ∃ x, x = G3 := ⟨_, rfl⟩
    subst eG
    intro de hde
    refine ⟨.int 1, rfl, .int 0, rfl, upd_same, [(Sum.inr "and", V.int 1), (Sum.inr "or", V.int 0)], rfl, by decide, ?_⟩
    have sd : Same G (upd (upd G de (.dK [])) de (.dK deK)) := fun b o e => by
      rw [upd_ne (ne_of_none e hde), upd_ne (ne_of_none e hde)]
      exact e
    have fde := but_none bt gp hde
    have ede : (upd (upd G de (.dK [])) de (.dK deK)) de = some (.dK deK) := upd_same
    have gp := sd _ _ gp
    have bt := but_same bt sd
    have sh := sh.same sd
    have ene := sd _ _ ene
    generalize upd (upd G de (.dK [])) de (.dK deK) = G2 at sd ede gp bt sh ene
    refine ⟨.ref p, rfl, p, HC, dx, _, rfl, gp, TH.cl, TH.nD, by show 2 < 1000; decide, ?_⟩
    rw [show putF "_deciding" (V.ref de) ([("shelf", V.ref r.p), ("_neutral", V.ref ne)] : List (Str × V)) = ([("shelf", V.ref r.p), ("_neutral", V.ref ne), ("_deciding", V.ref de)] : List (Str × V)) from rfl]
    have sh' : Sh P w K SC (upd G2 p (.ins HC dx [("shelf", V.ref r.p), ("_neutral", V.ref ne), ("_deciding", V.ref de)])) r [.nul true, .nul false] := sh.keep (fun b o c e => by
      have : b ≠ p := by
        rcases c with c | c
        · intro z
          rw [z] at c
          exact sh.notOwn gp (by intro _ z; cases z) (by intro _ z; cases z) c
        · rw [c]; exact nrp
      rw [upd_ne this]
      exact e) (TKp.ins gp)
    have bt' := but_put bt (.ins HC dx [("shelf", V.ref r.p), ("_neutral", V.ref ne), ("_deciding", V.ref de)])
    have ede' : (upd G2 p (.ins HC dx [("shelf", V.ref r.p), ("_neutral", V.ref ne), ("_deciding", V.ref de)])) de = some (.dK deK) := by rw [upd_ne (ne_of ede gp (by intro z; cases z))]; exact ede
    have ene' : (upd G2 p (.ins HC dx [("shelf", V.ref r.p), ("_neutral", V.ref ne), ("_deciding", V.ref de)])) ne = some (.dK neK) := by rw [upd_ne (ne_of ene gp (by intro z; cases z))]; exact ene
    have gp' : (upd G2 p (.ins HC dx [("shelf", V.ref r.p), ("_neutral", V.ref ne), ("_deciding", V.ref de)])) p = some (.ins HC dx [("shelf", V.ref r.p), ("_neutral", V.ref ne), ("_deciding", V.ref de)]) := upd_same
    generalize upd G2 p (.ins HC dx [("shelf", V.ref r.p), ("_neutral", V.ref ne), ("_deciding", V.ref de)]) = G3 at gp' bt' sh' ene' ede'
    clear gp bt sh sd hde ene ede
    have gp := gp'
    have bt := bt'
    have sh := sh'
    clear gp' bt' sh'
    have ene := ene'
    clear ene'
    have ede := ede'
    clear ede'
    obtain ⟨G, eG⟩ : ∃ x, x = G3 := ⟨_, rfl⟩
    subst eG
    intro ke hke
    refine ⟨.int 1, rfl, .int 0, rfl, .int 1, rfl, .int 0, rfl, upd_same, [(Sum.inr "some", V.int 1), (Sum.inr "all", V.int 0), (Sum.inr "least", V.int 1), (Sum.inr "most", V.int 0)], rfl, by decide, ?_⟩
    have sd : Same G (upd (upd G ke (.dK [])) ke (.dK keK)) := fun b o e => by
      rw [upd_ne (ne_of_none e hke), upd_ne (ne_of_none e hke)]
      exact e
    have fke := but_none bt gp hke
    have eke : (upd (upd G ke (.dK [])) ke (.dK keK)) ke = some (.dK keK) := upd_same
    have gp := sd _ _ gp
    have bt := but_same bt sd
    have sh := sh.same sd
    have ene := sd _ _ ene
    have ede := sd _ _ ede
    generalize upd (upd G ke (.dK [])) ke (.dK keK) = G2 at sd eke gp bt sh ene ede
    refine ⟨.ref p, rfl, p, HC, dx, _, rfl, gp, TH.cl, TH.nK, by show 3 < 1000; decide, ?_⟩
    rw [show putF "_kept" (V.ref ke) ([("shelf", V.ref r.p), ("_neutral", V.ref ne), ("_deciding", V.ref de)] : List (Str × V)) = ([("shelf", V.ref r.p), ("_neutral", V.ref ne), ("_deciding", V.ref de), ("_kept", V.ref ke)] : List (Str × V)) from rfl]
    have sh' : Sh P w K SC (upd G2 p (.ins HC dx [("shelf", V.ref r.p), ("_neutral", V.ref ne), ("_deciding", V.ref de), ("_kept", V.ref ke)])) r [.nul true, .nul false] := sh.keep (fun b o c e => by
      have : b ≠ p := by
        rcases c with c | c
        · intro z
          rw [z] at c
          exact sh.notOwn gp (by intro _ z; cases z) (by intro _ z; cases z) c
        · rw [c]; exact nrp
      rw [upd_ne this]
      exact e) (TKp.ins gp)
    have bt' := but_put bt (.ins HC dx [("shelf", V.ref r.p), ("_neutral", V.ref ne), ("_deciding", V.ref de), ("_kept", V.ref ke)])
    have eke' : (upd G2 p (.ins HC dx [("shelf", V.ref r.p), ("_neutral", V.ref ne), ("_deciding", V.ref de), ("_kept", V.ref ke)])) ke = some (.dK keK) := by rw [upd_ne (ne_of eke gp (by intro z; cases z))]; exact eke
    have ene' : (upd G2 p (.ins HC dx [("shelf", V.ref r.p), ("_neutral", V.ref ne), ("_deciding", V.ref de), ("_kept", V.ref ke)])) ne = some (.dK neK) := by rw [upd_ne (ne_of ene gp (by intro z; cases z))]; exact ene
    have ede' : (upd G2 p (.ins HC dx [("shelf", V.ref r.p), ("_neutral", V.ref ne), ("_deciding", V.ref de), ("_kept", V.ref ke)])) de = some (.dK deK) := by rw [upd_ne (ne_of ede gp (by intro z; cases z))]; exact ede
    have gp' : (upd G2 p (.ins HC dx [("shelf", V.ref r.p), ("_neutral", V.ref ne), ("_deciding", V.ref de), ("_kept", V.ref ke)])) p = some (.ins HC dx [("shelf", V.ref r.p), ("_neutral", V.ref ne), ("_deciding", V.ref de), ("_kept", V.ref ke)]) := upd_same
    generalize upd G2 p (.ins HC dx [("shelf", V.ref r.p), ("_neutral", V.ref ne), ("_deciding", V.ref de), ("_kept", V.ref ke)]) = G3 at gp' bt' sh' ene' ede' eke'
    clear gp bt sh sd hke ene ede eke
    have gp := gp'
    have bt := bt'
    have sh := sh'
    clear gp' bt' sh'
    have ene := ene'
    clear ene'
    have ede := ede'
    clear ede'
    have eke := eke'
    clear eke'
    obtain ⟨G, eG⟩ : ∃ x, x = G3 := ⟨_, rfl⟩
    subst eG
    exact k ⟨p, dx, ne, de, ke, r⟩ G rfl bt nown ⟨gp, sh, ⟨[], rfl⟩, ene, ede, eke⟩
end
end Fw

set_option maxRecDepth 100000
set_option maxHeartbeats 4000000
namespace Fw
open PySem PySem.Spec PyProof.Rows L2
def mapK (g : F → F) : F → F
  | .two b f h => .two b (g f) (g h)
  | .one k n f => .one k n (g f)
  | t => t
theorem mapK_hd (g : F → F) (t : F) : (mapK g t).hd = t.hd := by cases t <;> rfl
theorem mapK_kids (g : F → F) (t : F) : (mapK g t).kids = t.kids.map g := by cases t <;> rfl
theorem mapK_id (t : F) : mapK (fun x => x) t = t := by cases t <;> rfl
theorem mapK_sh (t : F) : repF (mapK shF t) = shF t := by
  have := sh_rep t
  cases t with
  | nul b => rfl
  | leaf k n => rfl
  | two b f g => exact this.symm
  | one k n f => exact this.symm
theorem mapK_size (t : F) : (mapK shF t).size ≤ t.size := by
  cases t with
  | nul b => exact Nat.le_refl _
  | leaf k n => exact Nat.le_refl _
  | two b f g => have := (size_sh f).1; have := (size_sh g).1; simp only [mapK, F.size]; omega
  | one k n f => have := (size_sh f).1; simp only [mapK, F.size]; omega
theorem subs_size : ∀ (t u : F), u ∈ subs t → u.size ≤ t.size
  | .nul _, u, h => by rw [List.mem_singleton.mp h]; exact Nat.le_refl _
  | .leaf _ _, u, h => by rw [List.mem_singleton.mp h]; exact Nat.le_refl _
  | .two b f g, u, h => by
    simp only [subs, List.mem_cons, List.mem_append] at h
    rcases h with h | h | h
    · rw [h]; exact Nat.le_refl _
    · have := subs_size f u h; simp only [F.size]; omega
    · have := subs_size g u h; simp only [F.size]; omega
  | .one k n f, u, h => by
    simp only [subs, List.mem_cons] at h
    rcases h with h | h
    · rw [h]; exact Nat.le_refl _
    · have := subs_size f u h; simp only [F.size]; omega
theorem Parts.keep {K : PySem.W.Frag} {C : Addr} {H H' : Hp} {R : List PRec} {L : List (Hd × Int)} (k : ∀ b o, (∃ pr ∈ R, b = pr.p ∨ b = pr.l) → H b = some o → H' b = some o) (t : TKp K H H') (h : Parts K C H R L) : Parts K C H' R L :=
  ⟨h.1, fun i pr hd a e1 e2 => by
    have z := h.2 i pr hd a e1 e2
    exact ⟨k _ _ ⟨pr, List.mem_of_getElem? e1, .inl rfl⟩ z.ob, t _ _ z.hd, k _ _ ⟨pr, List.mem_of_getElem? e1, .inr rfl⟩ z.inn⟩⟩
theorem Parts.nthL {K : PySem.W.Frag} {C : Addr} {H : Hp} {t : F} {R : List PRec} (PR : Parts K C H R (pre t (-1) 0)) {i : Nat} (hi : i < t.size) :
    ∃ r pr, (infos t)[i]? = some r ∧ R[i]? = some pr ∧ PartIs K C H pr r.sub.hd r.aro (inPlaces r.sub i) := by
  have lenI : (infos t).length = t.size := info_len _ _ _ _
  have lenR : R.length = t.size := by rw [PR.1, pre_len]
  obtain ⟨r, hr⟩ : ∃ r, (infos t)[i]? = some r := ⟨(infos t)[i]'(by omega), by simp⟩
  obtain ⟨pr, hp⟩ : ∃ pr, R[i]? = some pr := ⟨R[i]'(by omega), by simp⟩
  have el : (pre t (-1) 0)[i]? = some (r.sub.hd, r.aro) := by rw [pre, List.getElem?_map, hr]; rfl
  have z := PR.2 i pr _ _ hp el
  have aro : (pre t (-1) 0).map (·.2) = arounds (infos t) := by rw [pre, List.map_map]; rfl
  rw [aro, kids_at hr] at z
  exact ⟨r, pr, hr, hp, z⟩
/-- the loop over the parts, from the last one: i of them are done -/
structure LS (P : Program) (w : World) (K : PySem.W.Frag) (C SC : Addr) (g : F → F) (t : F) (H0 G : Hp) (r : SR) (pa na : Addr) (R : List PRec) (S0 S : List F) (i : Nat) : Prop where
  kx : Kx r H0 G
  tk : TKp K H0 G
  sh : Sh P w K SC G r S
  app : ∃ T, S = S0 ++ T
  len : S.length ≤ S0.length + i
  gpa : G pa = some (.lst (R.map fun (p : PRec) => V.ref p.p))
  prt : Parts K C G R (pre t (-1) 0)
  gna : ∃ ms, G na = some (.lst ms) ∧ ms.length = t.size ∧ ∀ j rr, t.size - i ≤ j → (infos t)[j]? = some rr → g rr.sub ∈ S ∧ ms[j]? = some (.int (ix S (g rr.sub) : Nat))
  out : ¬ r.Own na ∧ ¬ r.Own pa ∧ pa ≠ na ∧ ∀ p ∈ R, ¬ r.Own p.p ∧ ¬ r.Own p.l ∧ p.p ≠ na ∧ p.l ≠ na
  fresh : H0 na = none
theorem LS.next {P : Program} {w : World} {K : PySem.W.Frag} {C SC : Addr} {g : F → F} {t u : F} {H0 G G2 G3 G4 : Hp} {r : SR} {pa na : Addr} {R : List PRec} {S0 S S' : List F} {i j : Nat} {rr : Rec} (L : LS P w K C SC g t H0 G r pa na R S0 S i)
    (s : Same G G2) (kx : Kx r G2 G3) (tk : TKp K G2 G3) (sh : Sh P w K SC G3 r S') (gr : Grow S S' u) (s4 : Same G3 G4) (hi : i < t.size) (hj : j = t.size - 1 - i) (hr : (infos t)[j]? = some rr) (hv : g rr.sub ∈ S') :
    ∃ ms, G4 na = some (.lst ms) ∧ ms.length = t.size ∧ ∀ v, v = V.int (ix S' (g rr.sub) : Nat) → LS P w K C SC g t H0 (upd G4 na (.lst (ms.set j v))) r pa na R S0 S' (i + 1) := by
  obtain ⟨ms, gm, lm, inv⟩ := L.gna
  obtain ⟨o1, o2, o3, o4⟩ := L.out
  obtain ⟨T, eT⟩ := gr.app
  have gm4 : G4 na = some (.lst ms) := s4 _ _ (kx _ _ o1 (s _ _ gm))
  have toG4 : ∀ b o, ¬ r.Own b → G b = some o → G4 b = some o := fun b o n e => s4 _ _ (kx _ _ n (s _ _ e))
  have tkG4 : TKp K G G4 := (TKp.same s).trans (tk.trans (.same s4))
  refine ⟨ms, gm4, lm, fun v hv' => ?_⟩
  have t5 := TKp.lst (K := K) (o' := .lst (ms.set j v)) gm4
  have k5 : ∀ b o, b ≠ na → G4 b = some o → (upd G4 na (.lst (ms.set j v))) b = some o := fun b o n e => by rw [upd_ne n]; exact e
  have at5 : (upd G4 na (.lst (ms.set j v))) na = some (.lst (ms.set j v)) := upd_same
  generalize upd G4 na (.lst (ms.set j v)) = G5 at t5 k5 at5
  have sh4 := sh.same s4
  refine ⟨fun b o n e => ?_, L.tk.trans (tkG4.trans t5), sh4.keep (fun b o c e => k5 b o ?_ e) t5, ?_, ?_, ?_, ?_, ⟨_, at5, by rw [List.length_set]; exact lm, fun j' rr' hj' hr' => ?_⟩, L.out, L.fresh⟩
  · exact k5 b o (fun z => by rw [z, L.fresh] at e; cases e) (toG4 b o n (L.kx b o n e))
  · rcases c with c | c
    · exact fun z => o1 (z ▸ c)
    · rw [c]
      exact ne_of sh4.obj gm4 (by intro z; cases z)
  · obtain ⟨T0, e0⟩ := L.app
    exact ⟨T0 ++ T, by rw [eT, e0, List.append_assoc]⟩
  · have := gr.len
    have := L.len
    omega
  · exact k5 _ _ o3 (toG4 _ _ o2 L.gpa)
  · refine L.prt.keep (fun b o c e => ?_) (tkG4.trans t5)
    obtain ⟨p, hp, c⟩ := c
    obtain ⟨p1, p2, p3, p4⟩ := o4 p hp
    rcases c with rfl | rfl
    · exact k5 _ _ p3 (toG4 _ _ p1 e)
    · exact k5 _ _ p4 (toG4 _ _ p2 e)
  · by_cases e : j' = j
    · subst e
      rw [hr] at hr'
      cases hr'
      have : j' < ms.length := by omega
      exact ⟨hv, by rw [List.getElem?_set_self this, hv']⟩
    · obtain ⟨m1, m2⟩ := inv j' rr' (by omega) hr'
      refine ⟨(gr.all _).mpr (.inl m1), ?_⟩
      rw [List.getElem?_set_ne (fun q => e q.symm), m2, eT, ix_app m1]
section
variable {P : Program} {w : World} {K : PySem.W.Frag} {mg : Str → Option Value} {base : Heap} {C J B SC HC STP : Addr}
def spNumd (P : Program) (w : World) (K : PySem.W.Frag) (SC : Addr) : Sp := fun vs H Q _ => ∃ (r : SR) (v : V) (S : List F) (t : F), vs = [.ref r.p, v] ∧ Sh P w K SC H r S ∧ IsF K H v t ∧ t.size ≤ 63 ∧ S.length ≤ 10 ∧
  ∀ S' (n : Int) H', Kx r H H' → TKp K H H' → Sh P w K SC H' r S' → (∃ T, S' = S ++ T) → S'.length ≤ 80 → (∀ u, u ∈ S' ↔ u ∈ S ∨ u ∈ subs t) → Q (.int n) H'
theorem ok_numbered {f fv' : Addr} {fd fdv : FuncData} (FF : Fun K "numbered" "Shelf.numbered" s_Shelf_numbered f fd) (T : Txt K mg C J B) (TS : TxtS K SC) (h_parts_of : Has P w K mg base "parts_of" 3 a_parts_of (spParts K C))
    (m_Shelf_number : Meth K SC "number" fv') (g_Shelf_number : FnOk P w K mg base CX0 2 fv' fdv a_Shelf_number (spNum P w K SC)) (b_Shelf_number : Binds K fdv a_Shelf_number []) : FnOk P w K mg base CX0 4 f fd a_Shelf_numbered (spNumd P w K SC) := by
  refine FF.ok sc_Shelf_numbered (fun vs H Q E h => ?_) (fun cdv A outer s H vs Q E hr h => ?_)
  · obtain ⟨r, v, S, t, rfl, _⟩ := h
    rfl
  · obtain ⟨r, v, S0, t, rfl, sh0, ht, hsz, hS, k⟩ := h
    refine ⟨_, (pss_cons (ps_set (i := 2) sc_Shelf_numbered.nd rfl (.inl rfl) (pe_callH h_parts_of (hr.mono (by omega)) (pa_cons (pv 1) pa_nil)))
      (pss_cons (ps_set (i := 3) sc_Shelf_numbered.nd rfl (.inr rfl) (pe_op op_rep (pe_lst (pa_cons pe_int pa_nil)) (pe_callB call_len_seq rfl T.z_len (by decide +kernel) (pa_cons (pv 2) pa_nil))))
      (pss_cons (ps_for PassesOwn.never rfl (pi_revR rfl T.z_reversed (prg_1 rfl T.z_range (pe_callB call_len_seq rfl T.z_len (by decide +kernel) (pa_cons (pv 2) pa_nil)))) (pg_name (i := 4) sc_Shelf_numbered.nd rfl (.inl rfl)) (pss_cons (ps_set (i := 5) sc_Shelf_numbered.nd rfl (.inl rfl) (pe_callTy call_tuple_of rfl T.z_tuple (by decide +kernel) (pa_cons (pe_lc (own := [("place", 6)]) (g := gName 6) rfl sc_Shelf_numbered.nd (pi_list (pe_fld (pe_ix ix_list (pv 2) (pv 4) (fun _ _ => rfl)) rfl)) (blkOk_by (own := [("place", 6)]) (N := n_Shelf_numbered) (sc := defScope s_Shelf_numbered) (by decide +kernel)) (fun _ _ _ _ _ => (pg_name (i := 6) sc_Shelf_numbered.nd rfl (.inl rfl))) (fun _ _ _ _ _ => pts_nil) (fun _ _ _ _ _ => (pe_ix (@id (IxR _ (rIxL K)) ix_list) (pv 3) (pv 6) (fun _ _ => rfl)))) pa_nil)))
      (pss_one (ps_asg (pe_meth (pv 0) TS.cl m_Shelf_number g_Shelf_number (hr.mono (by omega)) b_Shelf_number .nil pass0 (pa_cons (pe_fld (pe_ix ix_list (pv 2) (pv 4) (fun _ _ => rfl)) rfl) (pa_cons (pv 5) pa_nil))) (pg_sub (pv 3) (pv 4) set_list)))))
      (pss_one (ps_ret (pe_ix ix_list (pv 3) pe_int (fun _ _ => rfl))))))), ?_⟩
    have lenI : (infos t).length = t.size := info_len _ _ _ _
    refine ⟨v, rfl, v, t, rfl, ht, by omega, fun pa R H1 s1 gpa npa PR nl => ?_⟩
    have lenR : R.length = t.size := by rw [PR.1, pre_len]
    have RLn : (R.map fun (p : PRec) => V.ref p.p).length = t.size := by rw [List.length_map, lenR]
    refine ⟨by show 1 ≤ sizeLine; decide, fun o ho => ?_⟩
    have so := Same.new (o := .lst [V.int 0]) ho
    have go : (upd H1 o (.lst [V.int 0])) o = some (.lst [V.int 0]) := upd_same
    have s2 := s1.trans so
    have gpa2 := so _ _ gpa
    have PR2 := PR.keep (fun b u _ e => so b u e) (TKp.same so)
    generalize upd H1 o (.lst [V.int 0]) = H2 at so go s2 gpa2 PR2
    refine ⟨.ref pa, rfl, pa, _, rfl, .inl (SqL.of gpa2), ?_⟩
    rw [RLn]
    refine ⟨o, (t.size : Nat), _, rfl, rfl, go, by omega, by omega, ?_, fun na hna => ?_⟩
    · rw [List.length_singleton, Nat.one_mul, Int.toNat_natCast]
      exact Nat.le_of_lt (small1000 (by omega))
    generalize hM : (List.replicate ((t.size : Nat) : Int).toNat [V.int 0]).flatten = M
    have lenM : M.length = t.size := by
      rw [← hM, List.length_flatten, List.map_replicate, List.sum_replicate_nat]
      simp
    have sm := Same.new (o := .lst M) hna
    have gna : (upd H2 na (.lst M)) na = some (.lst M) := upd_same
    have sh2 := sh0.same s2
    have L0 : LS P w K C SC (fun x => x) t H2 (upd H2 na (.lst M)) r pa na R S0 S0 0 := by
      refine ⟨Kx.same sm, .same sm, sh2.same sm, ⟨[], by simp⟩, Nat.le_refl _, sm _ _ gpa2, PR2.keep (fun b u _ e => sm b u e) (.same sm), ⟨M, gna, lenM, fun j rr hj hjr => ?_⟩, ⟨sh2.notOwn' hna, sh0.notOwn' npa, ne_of_none gpa2 hna, fun p hp => ?_⟩, hna⟩
      · have := (List.getElem?_eq_some_iff.mp hjr).1
        omega
      · obtain ⟨j, hj⟩ := List.mem_iff_getElem?.mp hp
        have jl := (List.getElem?_eq_some_iff.mp hj).1
        obtain ⟨rr, pr, _, hpr, z⟩ := PR2.nthL (i := j) (by omega)
        rw [hj] at hpr
        cases hpr
        exact ⟨sh2.notOwn z.ob (by intro _ z; cases z) (by intro _ z; cases z), sh0.notOwn' (nl p hp), ne_of_none z.ob hna, ne_of_none z.inn hna⟩
    generalize upd H2 na (.lst M) = H3 at L0
    refine ⟨.ref pa, rfl, pa, _, rfl, .inl (SqL.of L0.gpa), (t.size : Nat), by rw [RLn], by omega, by omega, by omega, by omega, ?_⟩
    refine for_rangeC (fun i σ G => ∃ (S : List F) (y4 y5 : Option V), σ = [some (.ref r.p), some v, some (.ref pa), some (.ref na), y4, y5, none] ∧ LS P w K C SC (fun x => x) t H2 G r pa na R S0 S i ∧ ∀ u, u ∈ S → u ∈ S0 ∨ u ∈ subs t) ⟨S0, none, none, rfl, L0, fun u hu => .inl hu⟩ ?_ ?_
    · rintro i σ G hi ⟨S, y4, y5, rfl, L, only⟩
      have hg : ∃ g : F → F, g = fun x => x := ⟨_, rfl⟩
      obtain ⟨g, eg⟩ := hg
      rw [← eg] at L
      have hi' : i < t.size := by omega
      obtain ⟨j, hj⟩ : ∃ j : Nat, j = t.size - 1 - i := ⟨_, rfl⟩
      have ej : (0 : Int) + (((t.size : Nat) : Int) - 0).toNat - 1 + (i : Nat) * (-1) = (j : Nat) := by omega
      rw [ej]
      have jlt : j < t.size := by omega
      obtain ⟨rr, pr, hrr, hpr, z⟩ := L.prt.nthL jlt
      obtain ⟨kl, kr⟩ := kids_recs hrr
      have RL : (R.map fun (p : PRec) => V.ref p.p)[j]? = some (V.ref pr.p) := by rw [List.getElem?_map, hpr]; rfl
      refine ⟨.ref pa, rfl, .int (j : Nat), rfl, pa, _, _, .ref pr.p, rfl, rfl, SqL.of L.gpa, atI_nat (j := j) RL, pr.p, C, pr.dx, _, .ref pr.l, rfl, z.ob, T.cl, T.nI, rfl, pr.l, rfl, ⟨_, SqL.of z.inn⟩, fun D hD => ?_⟩
      obtain ⟨ms, gm, lm, inv⟩ := L.gna
      refine lc_list (xs := (inPlaces rr.sub j).map fun n => V.int (n : Nat)) (fun m G2 => Same G G2 ∧ G2 D = some (.lst ((rr.sub.kids.take m).map fun u => V.int (ix S (g u) : Nat)))) ⟨Same.new hD, by rw [upd_same]; rfl⟩ (fun m G2 _ q => SqL.of (q.1 _ _ z.inn)) ?_ ?_
      · rintro m x G2 hx ⟨s2, gD⟩
        rw [List.getElem?_map] at hx
        obtain ⟨p, hp, rfl⟩ : ∃ p, (inPlaces rr.sub j)[m]? = some p ∧ x = V.int (p : Nat) := by
          cases e : (inPlaces rr.sub j)[m]? with
          | none => rw [e] at hx; cases hx
          | some p => rw [e] at hx; exact ⟨p, rfl, (Option.some.inj hx).symm⟩
        obtain ⟨r', h1, h2, h3⟩ := kr m p hp
        obtain ⟨m1, m2⟩ := inv p r' (by omega) h1
        refine ⟨rfl, .ref na, rfl, .int (p : Nat), rfl, na, _, _, .int (ix S (g r'.sub) : Nat), rfl, rfl, SqL.of (s2 _ _ gm), atI_nat (j := p) m2, _, gD, ?_, ?_, ?_⟩
        · have := F.kids_le rr.sub
          rw [List.length_map, List.length_take]
          exact small1000 (by omega)
        · exact fun b o e => by rw [upd_ne (ne_of_none e hD)]; exact s2 b o e
        · rw [upd_same, List.take_add_one, h2, List.map_append]
          rfl
      rintro G2 ⟨s2, gD⟩
      rw [List.length_map, kl, List.take_length] at gD
      refine ⟨D, _, rfl, .inl ⟨SqL.of gD, fun tp htp => ?_⟩⟩
      have s23 := s2.trans (Same.new (o := .tup (rr.sub.kids.map fun u => V.int (ix S (g u) : Nat))) htp)
      have tpT : SqT K (upd G2 tp (.tup (rr.sub.kids.map fun u => V.int (ix S (g u) : Nat)))) tp (rr.sub.kids.map fun u => V.int (ix S (g u) : Nat)) := SqT.of upd_same
      generalize upd G2 tp (.tup (rr.sub.kids.map fun u => V.int (ix S (g u) : Nat))) = G2 at s23 tpT
      clear s2 gD htp hD
      have z2 := z.same s23
      have hkids : ∀ u ∈ (mapK g rr.sub).kids, u ∈ S := fun u hu => by
        rw [mapK_kids] at hu
        obtain ⟨v, hv, rfl⟩ := List.mem_map.mp hu
        obtain ⟨m, hm⟩ := List.mem_iff_getElem?.mp hv
        have lm' := (List.getElem?_eq_some_iff.mp hm).1
        rw [← kl] at lm'
        obtain ⟨r', h1, h2, h3⟩ := kr m _ (List.getElem?_eq_getElem lm')
        rw [hm] at h2
        cases h2
        exact (inv _ r' (by omega) h1).1
      have tpK : SqT K G2 tp ((mapK g rr.sub).kids.map fun u => V.int (ix S u : Nat)) := by
        rw [mapK_kids, List.map_map]
        exact tpT
      have hdK' : SqT K G2 pr.h (hv (mapK g rr.sub).hd) := by rw [mapK_hd]; exact z2.hd
      have ixj : ∀ ms' : List V, ms'.length = t.size → ixN ms'.length ((j : Nat) : Int) = some j := fun ms' e => by
        unfold ixN
        rw [if_pos (by omega), if_pos (by omega), Int.toNat_natCast]
      have szr : (mapK g rr.sub).size ≤ 63 := by
        rw [eg, mapK_id]
        have := subs_size t rr.sub (by rw [← subs_info t (-1) 0 []]; exact List.mem_map_of_mem (List.mem_of_getElem? hrr))
        omega
      refine ⟨.ref r.p, rfl, r.p, r.dx, _, rfl, (L.sh.same s23).obj, rfl, .ref pa, rfl, .int (j : Nat), rfl, pa, _, _, .ref pr.p, rfl, rfl, SqL.of (s23 _ _ L.gpa), atI_nat (j := j) RL, pr.p, C, pr.dx, _, .ref pr.h, rfl, z2.ob, T.cl, T.nH, rfl, .ref tp, rfl, r, pr.h, tp, S, mapK g rr.sub, rfl, L.sh.same s23, hdK', tpK, hkids, by have := L.len; omega, szr, fun S' G3 kx tk sh' gr => ?_⟩
      have e1 : mapK g rr.sub = g rr.sub := by rw [eg]; exact mapK_id _
      obtain ⟨ms', g4, l4, nxt⟩ := L.next s23 kx tk sh' gr (Same.refl _) hi' hj hrr (by rw [← e1]; exact gr.mem)
      refine ⟨.ref na, rfl, .int (j : Nat), rfl, na, _, _, j, rfl, rfl, g4, ixj ms' l4, ?_⟩
      refine ⟨S', _, _, rfl, by rw [← eg]; exact nxt _ (by rw [e1]), fun u hu => ?_⟩
      rcases (gr.all u).mp hu with h | h
      · exact only u h
      · refine .inr ?_
        rw [h, e1, eg, ← subs_info t (-1) 0 []]
        exact List.mem_map_of_mem (List.mem_of_getElem? hrr)
    · rintro σ G ⟨S, y4, y5, rfl, L, only⟩
      obtain ⟨ms, gm, lm, inv⟩ := L.gna
      obtain ⟨m1, m2⟩ := inv 0 ⟨t, -1, []⟩ (by omega) (info_head _ _ _ _)
      refine ⟨.ref na, rfl, na, _, 0, _, rfl, rfl, SqL.of gm, atI_nat (j := 0) m2, ?_⟩
      refine k S _ G ((Kx.same s2).trans L.kx) ((TKp.same s2).trans L.tk) L.sh L.app (by have := L.len; omega) fun u => ⟨only u, fun z => ?_⟩
      rcases z with z | z
      · obtain ⟨T0, e⟩ := L.app
        rw [e]
        exact List.mem_append_left _ z
      · rw [← subs_info t (-1) 0 []] at z
        obtain ⟨rr, h1, h2⟩ := List.mem_map.mp z
        obtain ⟨j, hj⟩ := List.mem_iff_getElem?.mp h1
        rw [← h2]
        exact (inv j rr (by omega) hj).1
end
end Fw

set_option maxRecDepth 100000
set_option maxHeartbeats 4000000
namespace Fw
open PySem PySem.Spec PyProof.Rows L2
section
variable {P : Program} {w : World} {K : PySem.W.Frag} {mg : Str → Option Value} {base : Heap} {C J B SC HC STP : Addr}

theorem made_same {H H2 : Hp} {x dx : Addr} {C : Addr} (n1 : H x = none) (n2 : H dx = none) (bt : But x (upd (upd H dx (.own x)) x (.ins C dx [])) H2) : Same H H2 := fun b o e =>
  bt b o (ne_of_none e n1) (by rw [upd_ne (ne_of_none e n1), upd_ne (ne_of_none e n2)]; exact e)
theorem Sr.kx {H H' : Hp} {x : HR} {S S' : List F} (n : Sr P w K SC HC H x S) (k : Kx x.r H H') (sh : Sh P w K SC H' x.r S') (a : ∃ T, S' = S ++ T) : Sr P w K SC HC H' x S' := by
  have nk : ∀ b kvs, H b = some (.dK kvs) → ¬ x.r.Own b := fun b kvs e => n.sh.notOwn e (by intro _ z; cases z) (by intro _ z; cases z)
  obtain ⟨T, rfl⟩ := a
  obtain ⟨T0, e0⟩ := n.pre
  exact ⟨k _ _ (n.sh.notOwn n.obj (by intro _ z; cases z) (by intro _ z; cases z)) n.obj, sh, ⟨T0 ++ T, by rw [e0]; rfl⟩, k _ _ (nk _ _ n.ne) n.ne, k _ _ (nk _ _ n.de) n.de, k _ _ (nk _ _ n.ke) n.ke⟩
theorem rep_in {H : Hp} {x : HR} {S : List F} (n : Sr P w K SC HC H x S) {t : F} (h : t ∈ S) : repF t ∈ S := by
  have hk := n.sh.cl t h
  cases t with
  | nul b => exact h
  | leaf k m => exact h
  | two b f g =>
    have hf := hk f (by simp [F.kids])
    have hg := hk g (by simp [F.kids])
    simp only [repF]
    split
    · exact (n.nul _).1
    · split
      · exact hg
      · split
        · exact hf
        · exact h
  | one k m f =>
    have hf := hk f (by simp [F.kids])
    simp only [repF]
    split
    · split
      · exact (n.nul _).1
      · split
        · exact h
        · exact hf
    · split
      · exact hf
      · exact h
def spShrt (K : PySem.W.Frag) : Sp := fun vs H Q _ => ∃ (v : V) (t : F), vs = [v] ∧ IsF K H v t ∧ t.size ≤ 63 ∧ ∀ v' H', Same H H' → IsF K H' v' (shF t) → Q v' H'
theorem ok_shortened {f fv' fr : Addr} {fd fdv fdr : FuncData} (FF : Fun K "shortened" "shortened" s_shortened f fd) (T : Txt K mg C J B) (TS : TxtS K SC) (TH : TxtH K HC) (h_parts_of : Has P w K mg base "parts_of" 3 a_parts_of (spParts K C))
    (h_Shortener : HasC P w K mg base "Shortener" HC 3 a_Shortener_init (spHI P w K SC HC))
    (m_Shelf_number : Meth K SC "number" fv') (g_Shelf_number : FnOk P w K mg base CX0 2 fv' fdv a_Shelf_number (spNum P w K SC)) (b_Shelf_number : Binds K fdv a_Shelf_number [])
    (m_Shortener_replaced : Meth K HC "replaced" fr) (g_Shortener_replaced : FnOk P w K mg base CX0 3 fr fdr a_Shortener_replaced (spRep P w K SC HC)) (b_Shortener_replaced : Binds K fdr a_Shortener_replaced []) : FnOk P w K mg base CX0 5 f fd a_shortened (spShrt K) := by
  refine FF.ok sc_shortened (fun vs H Q E h => ?_) (fun cdv A outer s H vs Q E hr h => ?_)
  · obtain ⟨v, t, rfl, _⟩ := h
    rfl
  · obtain ⟨v, t, rfl, ht, hsz, k⟩ := h
    refine ⟨_, (pss_cons (ps_set (i := 1) sc_shortened.nd rfl (.inl rfl) (pe_makeH0 h_Shortener (hr.mono (by omega))))
      (pss_cons (ps_set (i := 2) sc_shortened.nd rfl (.inl rfl) (pe_callH h_parts_of (hr.mono (by omega)) (pa_cons (pv 0) pa_nil)))
      (pss_cons (ps_set (i := 3) sc_shortened.nd rfl (.inr rfl) (pe_op op_rep (pe_lst (pa_cons pe_int pa_nil)) (pe_callB call_len_seq rfl T.z_len (by decide +kernel) (pa_cons (pv 2) pa_nil))))
      (pss_cons (ps_for PassesOwn.never rfl (pi_revR rfl T.z_reversed (prg_1 rfl T.z_range (pe_callB call_len_seq rfl T.z_len (by decide +kernel) (pa_cons (pv 2) pa_nil)))) (pg_name (i := 4) sc_shortened.nd rfl (.inl rfl)) (pss_cons (ps_set (i := 5) sc_shortened.nd rfl (.inl rfl) (pe_callTy call_tuple_of rfl T.z_tuple (by decide +kernel) (pa_cons (pe_lc (own := [("place", 6)]) (g := gName 6) rfl sc_shortened.nd (pi_list (pe_fld (pe_ix ix_list (pv 2) (pv 4) (fun _ _ => rfl)) rfl)) (blkOk_by (own := [("place", 6)]) (N := n_shortened) (sc := defScope s_shortened) (by decide +kernel)) (fun _ _ _ _ _ => (pg_name (i := 6) sc_shortened.nd rfl (.inl rfl))) (fun _ _ _ _ _ => pts_nil) (fun _ _ _ _ _ => (pe_ix (@id (IxR _ (rIxL K)) ix_list) (pv 3) (pv 6) (fun _ _ => rfl)))) pa_nil)))
      (pss_one (ps_asg (pe_meth (pv 1) TH.cl m_Shortener_replaced g_Shortener_replaced (hr.mono (by omega)) b_Shortener_replaced .nil pass0 (pa_cons (pe_meth (pe_fld (pv 1) rfl) TS.cl m_Shelf_number g_Shelf_number (hr.mono (by omega)) b_Shelf_number .nil pass0 (pa_cons (pe_fld (pe_ix ix_list (pv 2) (pv 4) (fun _ _ => rfl)) rfl) (pa_cons (pv 5) pa_nil))) pa_nil)) (pg_sub (pv 3) (pv 4) set_list)))))
      (pss_one (ps_ret (pe_ix ix_list (pe_fld (pe_fld (pv 1) rfl) rfl) (pe_ix ix_list (pv 3) pe_int (fun _ _ => rfl)) (fun _ _ => rfl)))))))), ?_⟩
    have lenI : (infos t).length = t.size := info_len _ _ _ _
    intro sp sdx nsp nsdx nesd
    refine ⟨sp, sdx, rfl, upd_same, fun x Hs ex bt ow sr0 => ⟨rfl, ?_⟩⟩
    subst ex
    have ss := made_same nsp nsdx bt
    have nown : ∀ b o, H b = some o → ¬ x.r.Own b := fun b o e z => by
      have := ow b z
      rw [upd_ne (ne_of_none e nsp), upd_ne (ne_of_none e nsdx), e] at this
      cases this
    clear bt nsp nsdx nesd ow
    obtain ⟨S0, eS0⟩ : ∃ S : List F, S = [.nul true, .nul false] := ⟨_, rfl⟩
    have lS0 : S0.length = 2 := by rw [eS0]; rfl
    rw [← eS0] at sr0
    clear eS0
    have sh0 := sr0.sh
    refine ⟨v, rfl, v, t, rfl, ht.same ss, by omega, fun pa R H1 s1 gpa npa PR nl => ?_⟩
    have lenR : R.length = t.size := by rw [PR.1, pre_len]
    have RLn : (R.map fun (p : PRec) => V.ref p.p).length = t.size := by rw [List.length_map, lenR]
    refine ⟨by show 1 ≤ sizeLine; decide, fun o ho => ?_⟩
    have so := Same.new (o := .lst [V.int 0]) ho
    have go : (upd H1 o (.lst [V.int 0])) o = some (.lst [V.int 0]) := upd_same
    have s2 := s1.trans so
    have gpa2 := so _ _ gpa
    have PR2 := PR.keep (fun b u _ e => so b u e) (TKp.same so)
    generalize upd H1 o (.lst [V.int 0]) = H2 at so go s2 gpa2 PR2
    refine ⟨.ref pa, rfl, pa, _, rfl, .inl (SqL.of gpa2), ?_⟩
    rw [RLn]
    refine ⟨o, (t.size : Nat), _, rfl, rfl, go, by omega, by omega, ?_, fun na hna => ?_⟩
    · rw [List.length_singleton, Nat.one_mul, Int.toNat_natCast]
      exact Nat.le_of_lt (small1000 (by omega))
    generalize hM : (List.replicate ((t.size : Nat) : Int).toNat [V.int 0]).flatten = M
    have lenM : M.length = t.size := by
      rw [← hM, List.length_flatten, List.map_replicate, List.sum_replicate_nat]
      simp
    have sm := Same.new (o := .lst M) hna
    have gna : (upd H2 na (.lst M)) na = some (.lst M) := upd_same
    have sh2 := sh0.same s2
    have L0 : LS P w K C SC shF t H2 (upd H2 na (.lst M)) x.r pa na R S0 S0 0 := by
      refine ⟨Kx.same sm, .same sm, sh2.same sm, ⟨[], by simp⟩, Nat.le_refl _, sm _ _ gpa2, PR2.keep (fun b u _ e => sm b u e) (.same sm), ⟨M, gna, lenM, fun j rr hj hjr => ?_⟩, ⟨sh2.notOwn' hna, sh0.notOwn' npa, ne_of_none gpa2 hna, fun p hp => ?_⟩, hna⟩
      · have := (List.getElem?_eq_some_iff.mp hjr).1
        omega
      · obtain ⟨j, hj⟩ := List.mem_iff_getElem?.mp hp
        have jl := (List.getElem?_eq_some_iff.mp hj).1
        obtain ⟨rr, pr, _, hpr, z⟩ := PR2.nthL (i := j) (by omega)
        rw [hj] at hpr
        cases hpr
        exact ⟨sh2.notOwn z.ob (by intro _ z; cases z) (by intro _ z; cases z), sh0.notOwn' (nl p hp), ne_of_none z.ob hna, ne_of_none z.inn hna⟩
    generalize upd H2 na (.lst M) = H3 at L0
    refine ⟨.ref pa, rfl, pa, _, rfl, .inl (SqL.of L0.gpa), (t.size : Nat), by rw [RLn], by omega, by omega, by omega, by omega, ?_⟩
    have sr2 := sr0.same s2
    refine for_rangeC (fun i σ G => ∃ (S : List F) (y4 y5 : Option V), σ = [some v, some (.ref x.p), some (.ref pa), some (.ref na), y4, y5, none] ∧ LS P w K C SC shF t H2 G x.r pa na R S0 S i) ⟨S0, none, none, rfl, L0⟩ ?_ ?_
    · rintro i σ G hi ⟨S, y4, y5, rfl, L⟩
      have hg : ∃ g : F → F, g = shF := ⟨_, rfl⟩
      obtain ⟨g, eg⟩ := hg
      rw [← eg] at L
      have hi' : i < t.size := by omega
      obtain ⟨j, hj⟩ : ∃ j : Nat, j = t.size - 1 - i := ⟨_, rfl⟩
      have ej : (0 : Int) + (((t.size : Nat) : Int) - 0).toNat - 1 + (i : Nat) * (-1) = (j : Nat) := by omega
      rw [ej]
      have jlt : j < t.size := by omega
      obtain ⟨rr, pr, hrr, hpr, z⟩ := L.prt.nthL jlt
      obtain ⟨kl, kr⟩ := kids_recs hrr
      have RL : (R.map fun (p : PRec) => V.ref p.p)[j]? = some (V.ref pr.p) := by rw [List.getElem?_map, hpr]; rfl
      refine ⟨.ref pa, rfl, .int (j : Nat), rfl, pa, _, _, .ref pr.p, rfl, rfl, SqL.of L.gpa, atI_nat (j := j) RL, pr.p, C, pr.dx, _, .ref pr.l, rfl, z.ob, T.cl, T.nI, rfl, pr.l, rfl, ⟨_, SqL.of z.inn⟩, fun D hD => ?_⟩
      obtain ⟨ms, gm, lm, inv⟩ := L.gna
      refine lc_list (xs := (inPlaces rr.sub j).map fun n => V.int (n : Nat)) (fun m G2 => Same G G2 ∧ G2 D = some (.lst ((rr.sub.kids.take m).map fun u => V.int (ix S (g u) : Nat)))) ⟨Same.new hD, by rw [upd_same]; rfl⟩ (fun m G2 _ q => SqL.of (q.1 _ _ z.inn)) ?_ ?_
      · rintro m x G2 hx ⟨s2, gD⟩
        rw [List.getElem?_map] at hx
        obtain ⟨p, hp, rfl⟩ : ∃ p, (inPlaces rr.sub j)[m]? = some p ∧ x = V.int (p : Nat) := by
          cases e : (inPlaces rr.sub j)[m]? with
          | none => rw [e] at hx; cases hx
          | some p => rw [e] at hx; exact ⟨p, rfl, (Option.some.inj hx).symm⟩
        obtain ⟨r', h1, h2, h3⟩ := kr m p hp
        obtain ⟨m1, m2⟩ := inv p r' (by omega) h1
        refine ⟨rfl, .ref na, rfl, .int (p : Nat), rfl, na, _, _, .int (ix S (g r'.sub) : Nat), rfl, rfl, SqL.of (s2 _ _ gm), atI_nat (j := p) m2, _, gD, ?_, ?_, ?_⟩
        · have := F.kids_le rr.sub
          rw [List.length_map, List.length_take]
          exact small1000 (by omega)
        · exact fun b o e => by rw [upd_ne (ne_of_none e hD)]; exact s2 b o e
        · rw [upd_same, List.take_add_one, h2, List.map_append]
          rfl
      rintro G2 ⟨s2, gD⟩
      rw [List.length_map, kl, List.take_length] at gD
      refine ⟨D, _, rfl, .inl ⟨SqL.of gD, fun tp htp => ?_⟩⟩
      have s23 := s2.trans (Same.new (o := .tup (rr.sub.kids.map fun u => V.int (ix S (g u) : Nat))) htp)
      have tpT : SqT K (upd G2 tp (.tup (rr.sub.kids.map fun u => V.int (ix S (g u) : Nat)))) tp (rr.sub.kids.map fun u => V.int (ix S (g u) : Nat)) := SqT.of upd_same
      generalize upd G2 tp (.tup (rr.sub.kids.map fun u => V.int (ix S (g u) : Nat))) = G2 at s23 tpT
      clear s2 gD htp hD
      have z2 := z.same s23
      have hkids : ∀ u ∈ (mapK g rr.sub).kids, u ∈ S := fun u hu => by
        rw [mapK_kids] at hu
        obtain ⟨v, hv, rfl⟩ := List.mem_map.mp hu
        obtain ⟨m, hm⟩ := List.mem_iff_getElem?.mp hv
        have lm' := (List.getElem?_eq_some_iff.mp hm).1
        rw [← kl] at lm'
        obtain ⟨r', h1, h2, h3⟩ := kr m _ (List.getElem?_eq_getElem lm')
        rw [hm] at h2
        cases h2
        exact (inv _ r' (by omega) h1).1
      have tpK : SqT K G2 tp ((mapK g rr.sub).kids.map fun u => V.int (ix S u : Nat)) := by
        rw [mapK_kids, List.map_map]
        exact tpT
      have hdK' : SqT K G2 pr.h (hv (mapK g rr.sub).hd) := by rw [mapK_hd]; exact z2.hd
      have ixj : ∀ ms' : List V, ms'.length = t.size → ixN ms'.length ((j : Nat) : Int) = some j := fun ms' e => by
        unfold ixN
        rw [if_pos (by omega), if_pos (by omega), Int.toNat_natCast]
      have szr : (mapK g rr.sub).size ≤ 63 := by
        rw [eg]
        have := mapK_size rr.sub
        have := subs_size t rr.sub (by rw [← subs_info t (-1) 0 []]; exact List.mem_map_of_mem (List.mem_of_getElem? hrr))
        omega
      have srG : Sr P w K SC HC G x S := sr2.kx L.kx L.sh L.app
      refine ⟨.ref x.p, rfl, x.p, x.dx, _, rfl, (srG.same s23).obj, rfl, .ref x.p, rfl, x.p, HC, x.dx, _, .ref x.r.p, rfl, (srG.same s23).obj, TH.cl, TH.nS, rfl, x.r.p, x.r.dx, _, rfl, (L.sh.same s23).obj, rfl, .ref pa, rfl, .int (j : Nat), rfl, pa, _, _, .ref pr.p, rfl, rfl, SqL.of (s23 _ _ L.gpa), atI_nat (j := j) RL, pr.p, C, pr.dx, _, .ref pr.h, rfl, z2.ob, T.cl, T.nH, rfl, .ref tp, rfl, x.r, pr.h, tp, S, mapK g rr.sub, rfl, L.sh.same s23, hdK', tpK, hkids, by have := L.len; omega, szr, fun S' G3 kx tk sh' gr => ?_⟩
      have sr3 : Sr P w K SC HC G3 x S' := (srG.same s23).kx kx sh' gr.app
      refine ⟨x, S', mapK g rr.sub, rfl, sr3, gr.mem, fun G4 s4 => ?_⟩
      have e1 : repF (mapK g rr.sub) = g rr.sub := by rw [eg]; exact mapK_sh _
      have gin : g rr.sub ∈ S' := by
        rw [← e1]
        exact rep_in sr3 gr.mem
      obtain ⟨ms', g4, l4, nxt⟩ := L.next s23 kx tk sh' gr s4 hi' hj hrr gin
      refine ⟨.ref na, rfl, .int (j : Nat), rfl, na, _, _, j, rfl, rfl, g4, ixj ms' l4, ?_⟩
      exact ⟨S', _, _, rfl, by rw [← eg]; exact nxt _ (by rw [e1])⟩
    · rintro σ G ⟨S, y4, y5, rfl, L⟩
      obtain ⟨ms, gm, lm, inv⟩ := L.gna
      obtain ⟨m1, m2⟩ := inv 0 ⟨t, -1, []⟩ (by omega) (info_head _ _ _ _)
      have srG : Sr P w K SC HC G x S := sr2.kx L.kx L.sh L.app
      obtain ⟨E, e, l1, l2, l3, l4, he, ent⟩ := L.sh.at m1
      refine ⟨.ref x.p, rfl, x.p, HC, x.dx, _, .ref x.r.p, rfl, srG.obj, TH.cl, TH.nS, rfl, x.r.p, SC, x.r.dx, _, .ref x.r.sa, rfl, L.sh.obj, TS.cl, TS.nS, rfl, .ref na, rfl, na, _, 0, .int (ix S (shF t) : Nat), rfl, rfl, SqL.of gm, atI_nat (j := 0) m2, x.r.sa, _, _, e.v, rfl, rfl, SqL.of l4, atI_nat (j := ix S (shF t)) (by rw [List.getElem?_map, he]; rfl), ?_⟩
      exact k e.v G (fun b o eb => L.kx b o (nown b o eb) (s2 _ _ (ss _ _ eb))) ent.st
def spPlain (K : PySem.W.Frag) : Sp := fun vs H Q _ => ∃ (v : V) (t : F), vs = [v] ∧ IsF K H v t ∧ t.size ≤ 63 ∧ ∀ H', Same H H' → Q (.bl (!canB t)) H'
theorem plain_all {S S0 : List F} {t : F} (h : ∀ u, u ∈ S ↔ u ∈ S0 ∨ u ∈ subs t) (h0 : S0 = [.nul true, .nul false]) : (S.map fun u => decide (repF u = u)).all id = !canB t := by
  cases c : canB t with
  | false =>
    rw [can_iff] at c
    rw [List.all_map, Bool.not_false, List.all_eq_true]
    intro u hu
    refine decide_eq_true ((rep_iff u).mpr ?_)
    rcases (h u).mp hu with z | z
    · rw [h0] at z
      simp only [List.mem_cons, List.not_mem_nil, or_false] at z
      rcases z with rfl | rfl <;> rfl
    · exact c u z
  | true =>
    cases d : (S.map fun u => decide (repF u = u)).all id with
    | false => rfl
    | true =>
      rw [List.all_map, List.all_eq_true] at d
      have : canB t = false := (can_iff t).mpr fun u hu => (rep_iff u).mp (of_decide_eq_true (d u ((h u).mpr (.inr hu))))
      rw [c] at this
      cases this
theorem ok_is_plain {f fn fr : Addr} {fd fdn fdr : FuncData} (FF : Fun K "is_plain" "is_plain" s_is_plain f fd) (T : Txt K mg C J B) (TS : TxtS K SC) (TH : TxtH K HC)
    (h_Shortener : HasC P w K mg base "Shortener" HC 3 a_Shortener_init (spHI P w K SC HC))
    (m_Shelf_numbered : Meth K SC "numbered" fn) (g_Shelf_numbered : FnOk P w K mg base CX0 4 fn fdn a_Shelf_numbered (spNumd P w K SC)) (b_Shelf_numbered : Binds K fdn a_Shelf_numbered [])
    (m_Shortener_replaced : Meth K HC "replaced" fr) (g_Shortener_replaced : FnOk P w K mg base CX0 3 fr fdr a_Shortener_replaced (spRep P w K SC HC)) (b_Shortener_replaced : Binds K fdr a_Shortener_replaced []) : FnOk P w K mg base CX0 5 f fd a_is_plain (spPlain K) := by
  refine FF.ok sc_is_plain (fun vs H Q E h => ?_) (fun cdv A outer s H vs Q E hr h => ?_)
  · obtain ⟨v, t, rfl, _⟩ := h
    rfl
  · obtain ⟨v, t, rfl, ht, hsz, k⟩ := h
    refine ⟨_, (pss_cons (ps_set (i := 1) sc_is_plain.nd rfl (.inr rfl) (pe_makeH0 h_Shortener (hr.mono (by omega))))
      (pss_cons (ps_expr (pe_meth (pe_fld (pv 1) rfl) TS.cl m_Shelf_numbered g_Shelf_numbered (hr.mono (by omega)) b_Shelf_numbered .nil pass0 (pa_cons (pv 0) pa_nil)))
      (pss_one (ps_ret (pe_callB (cr_all rfl) rfl T.z_all (by decide +kernel) (pa_cons (pe_lc (own := [("at", 2)]) (g := gName 2) rfl sc_is_plain.nd (pi_range1 rfl T.z_range (pa_cons (pe_callB call_len_seq rfl T.z_len (by decide +kernel) (pa_cons (pe_fld (pe_fld (pv 1) rfl) rfl) pa_nil)) pa_nil)) (blkOk_by (own := [("at", 2)]) (N := n_is_plain) (sc := defScope s_is_plain) (by decide +kernel)) (fun _ _ _ _ _ => (pg_name (i := 2) sc_is_plain.nd rfl (.inl rfl))) (fun _ _ _ _ _ => pts_nil) (fun _ _ _ _ _ => (pe_cmpR op_eq (pe_meth (pv 1) TH.cl m_Shortener_replaced g_Shortener_replaced (hr.mono (by omega)) b_Shortener_replaced .nil pass0 (pa_cons (pv 2) pa_nil)) (pv 2) (nomark _)))) pa_nil)))))), ?_⟩
    intro sp sdx nsp nsdx nesd
    refine ⟨sp, sdx, rfl, upd_same, fun x Hs ex bt ow sr0 => ⟨rfl, ?_⟩⟩
    subst ex
    have ss := made_same nsp nsdx bt
    have nown : ∀ b o, H b = some o → ¬ x.r.Own b := fun b o e z => by
      have := ow b z
      rw [upd_ne (ne_of_none e nsp), upd_ne (ne_of_none e nsdx), e] at this
      cases this
    clear bt nsp nsdx nesd ow
    refine ⟨.ref x.p, rfl, x.p, HC, x.dx, _, .ref x.r.p, rfl, sr0.obj, TH.cl, TH.nS, rfl, x.r.p, x.r.dx, _, rfl, sr0.sh.obj, rfl, v, rfl, x.r, v, [.nul true, .nul false], t, rfl, sr0.sh, ht.same ss, hsz, by decide, fun S m G kx tk sh app len only => ?_⟩
    have sr : Sr P w K SC HC G x S := sr0.kx kx sh app
    have sG : Same H G := fun b o eb => kx b o (nown b o eb) (ss _ _ eb)
    obtain ⟨E, e1, e2, e3, e4, hE, h6⟩ := sh.ents
    refine ⟨.ref x.p, rfl, x.p, HC, x.dx, _, .ref x.r.p, rfl, sr.obj, TH.cl, TH.nS, rfl, x.r.p, SC, x.r.dx, _, .ref x.r.ha, rfl, sh.obj, TS.cl, TS.nH, rfl, x.r.ha, _, rfl, .inl (SqL.of e1), ?_⟩
    rw [List.length_map, hE]
    refine ⟨(S.length : Nat), rfl, by omega, by omega, fun D hD => ?_⟩
    refine lc_range (lo := 0) (n := ((S.length : Nat) : Int).toNat) (fun i G' => Same G G' ∧ G' D = some (.lst (((S.take i).map fun u => decide (repF u = u)).map V.bl))) ⟨Same.new hD, upd_same⟩ ?_ ?_
    · rintro i G' hi ⟨s', gD⟩
      rw [Int.toNat_natCast] at hi
      obtain ⟨u, hu'⟩ : ∃ u, S[i]? = some u := ⟨S[i], by simp [hi]⟩
      have ui := ix_of sh.nd hu'
      have um := List.mem_of_getElem? hu'
      rw [Int.zero_add]
      have sr' := sr.same s'
      refine ⟨rfl, .ref x.p, rfl, x.p, x.dx, _, rfl, sr'.obj, rfl, .int (i : Nat), rfl, x, S, u, by rw [ui]; rfl, sr', um, fun G2 s2 => ?_⟩
      refine ⟨.int (i : Nat), rfl, rfl, ?_⟩
      have eq1 : decide (V.int (ix S (repF u) : Nat) = V.int (i : Nat)) = decide (repF u = u) := by
        rw [← ui]
        exact decide_eq_decide.mpr (ix_iff (rep_in sr' um) um)
      rw [eq1]
      refine ⟨_, s2 _ _ gD, by rw [List.length_map, List.length_map, List.length_take]; exact small1000 (by omega), fun b o e => by rw [upd_ne (ne_of_none e hD)]; exact s2 _ _ (s' b o e), ?_⟩
      rw [upd_same, List.take_add_one, hu', List.map_append, List.map_append]
      rfl
    · rintro G' ⟨s', gD⟩
      rw [Int.toNat_natCast, List.take_length] at gD
      refine ⟨D, _, rfl, SqL.of gD, ?_⟩
      rw [plain_all only rfl]
      exact k G' (sG.trans s')
end
end Fw

set_option maxRecDepth 100000
set_option maxHeartbeats 4000000
namespace Fw
open PySem PySem.Spec PyProof.Rows L2
abbrev unK : List (Key × V) := mergeK [] [(Sum.inr "and", V.str "true"), (Sum.inr "or", V.str "false")]
abbrev zeK : List (Key × V) := mergeK [] [(Sum.inr "and", V.str "false"), (Sum.inr "or", V.str "true")]
abbrev paK : List (Key × V) := mergeK [] [(Sum.inr "and", V.str "or"), (Sum.inr "or", V.str "and")]
abbrev seK : List (Key × V) := mergeK [] [(Sum.inr "some", V.str "false"), (Sum.inr "all", V.str "true")]
abbrev lmK : List (Key × V) := mergeK [] [(Sum.inr "least", V.str "false"), (Sum.inr "most", V.str "true")]
theorem un_at (b : Bool) : valV unK (Sum.inr (wT b)) = some (.str (wN b)) := by cases b <;> rfl
theorem ze_at (b : Bool) : valV zeK (Sum.inr (wT b)) = some (.str (wN (!b))) := by cases b <;> rfl
theorem pa_at (b : Bool) : valV paK (Sum.inr (wT b)) = some (.str (wT (!b))) := by cases b <;> rfl
theorem se_at {k : One} (h : k.bind = false) : valV seK (Sum.inr (wO k)) = some (.str (wN k.kept)) := by cases k <;> first | rfl | cases h
theorem lm_at {k : One} (h : k.bind = true) : valV lmK (Sum.inr (wO k)) = some (.str (wN k.kept)) := by cases k <;> first | rfl | cases h
/-- a statement or None -/
def ResF (K : PySem.W.Frag) (H : Hp) (v : V) (o : Option F) : Prop := (o = none ∧ v = .non) ∨ ∃ r, o = some r ∧ IsF K H v r
theorem dF_in {f : F} {l : List F} : ((l.map dF).any fun z => PyData.eqv z (dF f)) = decide (f ∈ l) := by
  induction l with
  | nil => rfl
  | cons a l ih =>
    rw [List.map_cons, List.any_cons, ih, eqv_dF]
    by_cases e : a = f
    · subst e; simp
    · by_cases q : f ∈ l
      · simp [e, q]
      · simp [e, q, Ne.symm e]
section
variable {P : Program} {w : World} {K : PySem.W.Frag} {mg : Str → Option Value} {base : Heap} {C J B SC HC STP : Addr}
def spRul (K : PySem.W.Frag) : Sp := fun vs H Q _ => ∃ (v : V) (t : F), vs = [v] ∧ IsF K H v t ∧ t.depth ≤ 20 ∧ t.size ≤ 1000 ∧ ∀ v' H', Same H H' → ResF K H' v' (ruledF t) → Q v' H'
theorem ok_law_ruled {f : Addr} {fd : FuncData} (FF : Fun K "_law_ruled" "_law_ruled" s_law_ruled f fd) (T : Txt K mg C J B) (h_law_free : Has P w K mg base "_law_free" 21 a_law_free (spFr K 20)) : FnOk P w K mg base CX0 22 f fd a_law_ruled (spRul K) := by
  refine FF.ok sc_law_ruled (fun vs H Q E h => ?_) (fun cdv A outer s H vs Q E hr h => ?_)
  · obtain ⟨v, t, rfl, _⟩ := h
    rfl
  · obtain ⟨v, t, rfl, ht, hd, hsz, k⟩ := h
    have hu := hu_of hr
    refine ⟨_, (pss_cons (ps_set (i := 1) sc_law_ruled.nd rfl (.inl rfl) (pe_ix ix_tup (pv 0) pe_int (fun _ _ => rfl)))
      (pss_cons (ps_if (pt_cmpR op_in_seq (pv 1) (pe_tup (pa_cons pe_str (pa_cons pe_str pa_nil))) (by rfl)) (pss_cons (ps_set (i := 2) sc_law_ruled.nd rfl (.inl rfl) (pe_tup (pa_cons (pe_dget hu (pe_disp (pps_cons pe_str pe_str (pps_cons pe_str pe_str pps_nil)) (by rfl) (by rfl) (fun z => by cases z) (by decide)) (pv 1) (fun _ _ => rfl)) pa_nil)))
      (pss_cons (ps_set (i := 3) sc_law_ruled.nd rfl (.inl rfl) (pe_tup (pa_cons (pe_dget hu (pe_disp (pps_cons pe_str pe_str (pps_cons pe_str pe_str pps_nil)) (by rfl) (by rfl) (fun z => by cases z) (by decide)) (pv 1) (fun _ _ => rfl)) pa_nil)))
      (pss_cons (ps_set (i := 4) sc_law_ruled.nd rfl (.inl rfl) (pe_dget hu (pe_disp (pps_cons pe_str pe_str (pps_cons pe_str pe_str pps_nil)) (by rfl) (by rfl) (fun z => by cases z) (by decide)) (pv 1) (fun _ _ => rfl)))
      (pss_one (ps_for PassesOwn.never rfl (pi_list (pe_lst (pa_cons (pe_tup (pa_cons (pe_ix ix_tup (pv 0) pe_int (fun _ _ => rfl)) (pa_cons (pe_ix ix_tup (pv 0) pe_int (fun _ _ => rfl)) pa_nil))) (pa_cons (pe_tup (pa_cons (pe_ix ix_tup (pv 0) pe_int (fun _ _ => rfl)) (pa_cons (pe_ix ix_tup (pv 0) pe_int (fun _ _ => rfl)) pa_nil))) pa_nil)))) (pg_name (i := 5) sc_law_ruled.nd rfl (.inl rfl)) (pss_cons (ps_if (PW.pt (pw_or (pt_cmpR (op_eqD hr.units) (pe_ix ix_tup (pv 5) pe_int (fun _ _ => rfl)) (pv 2) (nomark _)) (pw_or1 (pt_cmpR (op_eqD hr.units) (pe_ix ix_tup (pv 5) pe_int (fun _ _ => rfl)) (pe_ix ix_tup (pv 5) pe_int (fun _ _ => rfl)) (nomark _))))) (pss_one (ps_ret (pe_ix ix_tup (pv 5) pe_int (fun _ _ => rfl)))) pss_nil)
      (pss_cons (ps_if (pt_cmpR (op_eqD hr.units) (pe_ix ix_tup (pv 5) pe_int (fun _ _ => rfl)) (pv 3) (nomark _)) (pss_one (ps_ret (pv 3))) pss_nil)
      (pss_one (ps_if (PW.pt (pw_and (pt_cmpR op_eq (pe_ix ix_tup (pe_ix ix_tup (pv 5) pe_int (fun _ _ => rfl)) pe_int (fun _ _ => rfl)) (pv 4) (nomark _)) (pw_and1 (pt_cmpR (op_inT hr.units) (pe_ix ix_tup (pv 5) pe_int (fun _ _ => rfl)) (pe_slice sl_tupA (pe_ix ix_tup (pv 5) pe_int (fun _ _ => rfl)) (po_some pe_int) po_none) (by rfl))))) (pss_one (ps_ret (pe_ix ix_tup (pv 5) pe_int (fun _ _ => rfl)))) pss_nil))))))))) pss_nil)
      (pss_cons (ps_if (PW.pt (pw_and (pt_cmpR op_in_seq (pv 1) (pe_tup (pa_cons pe_str (pa_cons pe_str pa_nil))) (by rfl)) (pw_and1 (pt_cmpR (op_eqD hr.units) (pe_ix ix_tup (pv 0) pe_int (fun _ _ => rfl)) (pe_tup (pa_cons (pe_dget hu (pe_disp (pps_cons pe_str pe_str (pps_cons pe_str pe_str pps_nil)) (by rfl) (by rfl) (fun z => by cases z) (by decide)) (pv 1) (fun _ _ => rfl)) pa_nil)) (nomark _))))) (pss_one (ps_ret (pe_ix ix_tup (pv 0) pe_int (fun _ _ => rfl)))) pss_nil)
      (pss_cons (ps_if (pt_cmpR op_in_seq (pv 1) (pe_tup (pa_cons pe_str (pa_cons pe_str pa_nil))) (by rfl)) (pss_cons (ps_if (pt_cmpR (op_eqD hr.units) (pe_ix ix_tup (pv 0) pe_int (fun _ _ => rfl)) (pe_tup (pa_cons pe_str (pa_cons (pe_ix ix_tup (pv 0) pe_int (fun _ _ => rfl)) pa_nil))) (nomark _)) (pss_one (ps_ret (pe_tup (pa_cons (pe_dget hu (pe_disp (pps_cons pe_str pe_str (pps_cons pe_str pe_str pps_nil)) (by rfl) (by rfl) (fun z => by cases z) (by decide)) (pv 1) (fun _ _ => rfl)) pa_nil)))) pss_nil)
      (pss_one (ps_if (pt_cmpR op_notIn_seq (pe_ix ix_tup (pv 0) pe_int (fun _ _ => rfl)) (pe_callH h_law_free (hr.mono (by omega)) (pa_cons (pe_ix ix_tup (pv 0) pe_int (fun _ _ => rfl)) (pa_cons (pe_lst pa_nil) pa_nil))) (by rfl)) (pss_one (ps_ret (pe_ix ix_tup (pv 0) pe_int (fun _ _ => rfl)))) pss_nil))) pss_nil)
      (pss_one (ps_ret pe_non)))))), ?_⟩
    obtain ⟨a, ks, rfl, sq, ak⟩ := id ht.open
    have at0 : atI (hv t.hd ++ ks) 0 = some (.str (hw t.hd)) := atI_nat (j := 0) (by rw [List.getElem?_append_left (by rcases hv_len t.hd with e | e <;> omega)]; exact hv_head _)
    refine ⟨.ref a, rfl, a, _, _, _, rfl, rfl, sq, at0, ?_⟩
    refine ⟨_, rfl, by show 2 ≤ sizeLine; decide, fun t1 ht1 => ⟨t1, _, rfl, .inr (SqT.of upd_same), rfl, rfl, _, rfl, ?_⟩⟩
    have st1 := Same.new (o := .tup [.str "and", .str "or"]) ht1
    generalize upd H t1 (.tup [.str "and", .str "or"]) = H1 at st1
    rw [if_neg Bool.false_ne_true, in_joins]
    cases t with
    | nul b =>
      refine iteF ?_
      obtain ⟨G, eG⟩ : ∃ x, x = H1 := ⟨_, rfl⟩
      subst eG
      have sG := st1
      have hno : ruledF (.nul b) = none := rfl
      -- some, all; least, most: it is none of them
      refine ⟨_, rfl, by show 2 ≤ sizeLine; decide, fun t3 ht3 => ⟨t3, _, rfl, .inr (SqT.of upd_same), rfl, rfl, _, rfl, ?_⟩⟩
      have st3 := Same.new (o := .tup [.str "some", .str "all"]) ht3
      generalize upd G t3 (.tup [.str "some", .str "all"]) = G3 at st3
      rw [if_neg Bool.false_ne_true, in_steppers]
      refine iteF ?_
      refine iteF ?_
      refine ⟨_, rfl, by show 2 ≤ sizeLine; decide, fun t4 ht4 => ⟨t4, _, rfl, .inr (SqT.of upd_same), rfl, rfl, _, rfl, ?_⟩⟩
      have st4 := Same.new (o := .tup [.str "least", .str "most"]) ht4
      generalize upd G3 t4 (.tup [.str "least", .str "most"]) = G4 at st4
      rw [if_neg Bool.false_ne_true, in_binders]
      refine iteF ?_
      exact k .non G4 (sG.trans (st3.trans st4)) (.inl ⟨hno, rfl⟩)
    | leaf kd m =>
      refine iteF ?_
      obtain ⟨G, eG⟩ : ∃ x, x = H1 := ⟨_, rfl⟩
      subst eG
      have sG := st1
      have hno : ruledF (.leaf kd m) = none := rfl
      -- some, all; least, most: it is none of them
      refine ⟨_, rfl, by show 2 ≤ sizeLine; decide, fun t3 ht3 => ⟨t3, _, rfl, .inr (SqT.of upd_same), rfl, rfl, _, rfl, ?_⟩⟩
      have st3 := Same.new (o := .tup [.str "some", .str "all"]) ht3
      generalize upd G t3 (.tup [.str "some", .str "all"]) = G3 at st3
      rw [if_neg Bool.false_ne_true, in_steppers]
      refine iteF ?_
      refine iteF ?_
      refine ⟨_, rfl, by show 2 ≤ sizeLine; decide, fun t4 ht4 => ⟨t4, _, rfl, .inr (SqT.of upd_same), rfl, rfl, _, rfl, ?_⟩⟩
      have st4 := Same.new (o := .tup [.str "least", .str "most"]) ht4
      generalize upd G3 t4 (.tup [.str "least", .str "most"]) = G4 at st4
      rw [if_neg Bool.false_ne_true, in_binders]
      refine iteF ?_
      exact k .non G4 (sG.trans (st3.trans st4)) (.inl ⟨hno, rfl⟩)
    | two b f g =>
      refine iteT ?_
      cases ak with
      | cons hf akr =>
      cases akr with
      | cons hg akr =>
      cases akr
      rename_i vf vg
      have sq1 := SqT.same st1 sq
      intro d1 hd1
      refine ⟨upd_same, [(Sum.inr "and", V.str "true"), (Sum.inr "or", V.str "false")], rfl, by decide, ?_⟩
      have sd1 : Same H1 (upd (upd H1 d1 (.dK [])) d1 (.dK unK)) := fun b o e => by
        rw [upd_ne (ne_of_none e hd1), upd_ne (ne_of_none e hd1)]
        exact e
      have gd1 : (upd (upd H1 d1 (.dK [])) d1 (.dK unK)) d1 = some (.dK unK) := upd_same
      generalize upd (upd H1 d1 (.dK [])) d1 (.dK unK) = H2 at sd1 gd1
      have qd1 := DGet.k (k := Sum.inr (wT b)) gd1
      rw [un_at] at qd1
      refine ⟨.str (wT b), rfl, d1, _, rfl, qd1, by show 1 ≤ sizeLine; decide, fun u hu1 => ?_⟩
      have su := Same.new (o := .tup [.str (wN b)]) hu1
      have gu : SqT K (upd H2 u (.tup [.str (wN b)])) u (hv (.nul b)) := SqT.of upd_same
      generalize upd H2 u (.tup [.str (wN b)]) = H3 at su gu
      intro d2 hd2
      refine ⟨upd_same, [(Sum.inr "and", V.str "false"), (Sum.inr "or", V.str "true")], rfl, by decide, ?_⟩
      have sd2 : Same H3 (upd (upd H3 d2 (.dK [])) d2 (.dK zeK)) := fun b o e => by
        rw [upd_ne (ne_of_none e hd2), upd_ne (ne_of_none e hd2)]
        exact e
      have gd2 : (upd (upd H3 d2 (.dK [])) d2 (.dK zeK)) d2 = some (.dK zeK) := upd_same
      generalize upd (upd H3 d2 (.dK [])) d2 (.dK zeK) = H4 at sd2 gd2
      have qd2 := DGet.k (k := Sum.inr (wT b)) gd2
      rw [ze_at] at qd2
      refine ⟨.str (wT b), rfl, d2, _, rfl, qd2, by show 1 ≤ sizeLine; decide, fun z hz1 => ?_⟩
      have sz := Same.new (o := .tup [.str (wN (!b))]) hz1
      have gz : SqT K (upd H4 z (.tup [.str (wN (!b))])) z (hv (.nul (!b))) := SqT.of upd_same
      generalize upd H4 z (.tup [.str (wN (!b))]) = H5 at sz gz
      intro d3 hd3
      refine ⟨upd_same, [(Sum.inr "and", V.str "or"), (Sum.inr "or", V.str "and")], rfl, by decide, ?_⟩
      have sd3 : Same H5 (upd (upd H5 d3 (.dK [])) d3 (.dK paK)) := fun b o e => by
        rw [upd_ne (ne_of_none e hd3), upd_ne (ne_of_none e hd3)]
        exact e
      have gd3 : (upd (upd H5 d3 (.dK [])) d3 (.dK paK)) d3 = some (.dK paK) := upd_same
      generalize upd (upd H5 d3 (.dK [])) d3 (.dK paK) = H6 at sd3 gd3
      have qd3 := DGet.k (k := Sum.inr (wT b)) gd3
      rw [pa_at] at qd3
      refine ⟨.str (wT b), rfl, d3, _, rfl, qd3, ?_⟩
      have S16 := sd1.trans (su.trans (sd2.trans (sz.trans sd3)))
      have S06 := st1.trans S16
      have sq6 := SqT.same S16 sq1
      refine ⟨.ref a, rfl, a, _, 1, vf, rfl, rfl, sq6, rfl, .ref a, rfl, a, _, 2, vg, rfl, rfl, sq6, rfl, by show 2 ≤ sizeLine; decide, fun p1 hp1 => ?_⟩
      have s7 := Same.new (o := .tup [vf, vg]) hp1
      refine ⟨.ref a, rfl, a, _, 2, vg, rfl, rfl, SqT.same s7 sq6, rfl, .ref a, rfl, a, _, 1, vf, rfl, rfl, SqT.same s7 sq6, rfl, by show 2 ≤ sizeLine; decide, fun p2 hp2 => ⟨by show 2 ≤ sizeLine; decide, fun l hl => ?_⟩⟩
      have s8 := Same.new (o := .tup [vg, vf]) hp2
      have s9 := Same.new (o := .lst [.ref p1, .ref p2]) hl
      have g1 : SqT K (upd (upd (upd H6 p1 (.tup [vf, vg])) p2 (.tup [vg, vf])) l (.lst [.ref p1, .ref p2])) p1 [vf, vg] := SqT.of (s9 _ _ (s8 _ _ upd_same))
      have g2 : SqT K (upd (upd (upd H6 p1 (.tup [vf, vg])) p2 (.tup [vg, vf])) l (.lst [.ref p1, .ref p2])) p2 [vg, vf] := SqT.of (s9 _ _ upd_same)
      have gl : (upd (upd (upd H6 p1 (.tup [vf, vg])) p2 (.tup [vg, vf])) l (.lst [.ref p1, .ref p2])) l = some (.lst [.ref p1, .ref p2]) := upd_same
      have S69 := s7.trans (s8.trans s9)
      generalize upd (upd (upd H6 p1 (.tup [vf, vg])) p2 (.tup [vg, vf])) l (.lst [.ref p1, .ref p2]) = H9 at g1 g2 gl S69 s9
      have S09 := S06.trans S69
      have hun9 : IsF K H9 (.ref u) (.nul b) := .nul (SqT.same (sd2.trans (sz.trans (sd3.trans S69))) gu)
      have hze9 : IsF K H9 (.ref z) (.nul (!b)) := .nul (SqT.same (sd3.trans S69) gz)
      have hf9 := hf.same S09
      have hg9 := hg.same S09
      clear s7 s8 s9 hp1 hp2 hl hu1 hz1 hd1 hd2 hd3 gd1 gd2 gd3 qd1 qd2 qd3 gu gz sd1 su sd2 sz sd3 S16 S06 S69 sq6 sq1 ht1
      simp only [F.depth] at hd
      refine ⟨l, rfl, ⟨_, SqL.of gl⟩, ?_⟩
      refine for_list (xs := [.ref p1, .ref p2]) (fun i σ G => ∃ y5 : Option V, σ = [some (.ref a), some (.str (hw (.two b))), some (.ref u), some (.ref z), some (.str (wT (!b))), y5] ∧ Same H9 G ∧ (1 ≤ i → half b f g = none) ∧ (2 ≤ i → half b g f = none)) ⟨none, rfl, Same.refl _, fun h => absurd h (by decide), fun h => absurd h (by decide)⟩ (fun i σ G _ q => by obtain ⟨_, _, s, _⟩ := q; exact SqL.of (s _ _ gl)) ?_ ?_
      · rintro i x5 σ G hx5 ⟨y5, rfl, sG, n1, n2⟩
        have hun := hun9.same sG
        have hze := hze9.same sG
        match i, hx5 with
        | 0, hx5 =>
          cases hx5
          have hp := SqT.same sG g1
          have hx := hf9.same sG
          have hy := hg9.same sG
          have fin : ∀ v' r G2, Same H9 G2 → IsF K G2 v' r → half b f g = some r → Q v' G2 := fun v' r G2 s2 hr' e => k v' G2 (S09.trans s2) (.inr ⟨r, by simp only [ruledF, e], hr'⟩)
          have nxt : ∀ G2, Same H9 G2 → half b f g = none → (∃ y5 : Option V, ([some (.ref a), some (.str (hw (.two b))), some (.ref u), some (.ref z), some (.str (wT (!b))), some (.ref p1)] : List (Option V)) = [some (.ref a), some (.str (hw (.two b))), some (.ref u), some (.ref z), some (.str (wT (!b))), y5] ∧ Same H9 G2 ∧ (1 ≤ 0 + 1 → half b f g = none) ∧ (2 ≤ 0 + 1 → half b g f = none)) := fun G2 s2 e => ⟨_, rfl, s2, fun _ => e, fun h => absurd h (by decide)⟩
          have hdx : f.depth ≤ 20 := by omega
          have hdy : g.depth ≤ 20 := by omega
          generalize p1 = p at hp nxt
          generalize vf = vx at hp hx
          generalize vg = vy at hp hy
          generalize f = x at hx fin nxt hdx
          generalize g = y at hy fin nxt hdy
          -- pair: p, of x and y
          have sp2 : SqT K G p [vx, vy] := hp
          have hx' := hx
          obtain ⟨ay, ky, rfl, sqy, aky⟩ := hy.open
          have dy0 : atI (hv y.hd ++ ky) 0 = some (.str (hw y.hd)) := atI_nat (j := 0) (by rw [List.getElem?_append_left (by rcases hv_len y.hd with e | e <;> omega)]; exact hv_head _)
          refine ⟨.ref p, rfl, p, _, 0, vx, rfl, rfl, sp2, rfl, .ref u, rfl, dF x, dF (.nul b), dp_F hx', dp_F hun, dF_shaped (by omega), dF_shaped (by show 1 ≤ 64; decide), _, rfl, ?_⟩
          rw [eqv_dF]
          by_cases c1 : x = .nul b
          · rw [decide_eq_true c1]
            refine iteT ?_
            refine iteT ?_
            refine ⟨.ref p, rfl, p, _, 1, .ref ay, rfl, rfl, sp2, rfl, ?_⟩
            exact fin (.ref ay) y G sG hy (by unfold half; rw [if_pos (.inl c1)])
          rw [decide_eq_false c1]
          refine iteF ?_
          refine ⟨.ref p, rfl, p, _, 0, vx, rfl, rfl, sp2, rfl, .ref p, rfl, p, _, 1, .ref ay, rfl, rfl, sp2, rfl, dF x, dF y, dp_F hx', dp_F hy, dF_shaped (by omega), dF_shaped (by omega), _, rfl, ?_⟩
          rw [eqv_dF]
          by_cases c2 : x = y
          · rw [decide_eq_true c2]
            refine iteT ?_
            refine ⟨.ref p, rfl, p, _, 1, .ref ay, rfl, rfl, sp2, rfl, ?_⟩
            exact fin (.ref ay) y G sG hy (by unfold half; rw [if_pos (.inr c2)])
          rw [decide_eq_false c2]
          refine iteF ?_
          refine ⟨.ref p, rfl, p, _, 0, vx, rfl, rfl, sp2, rfl, .ref z, rfl, dF x, dF (.nul (!b)), dp_F hx', dp_F hze, dF_shaped (by omega), dF_shaped (by show 1 ≤ 64; decide), _, rfl, ?_⟩
          rw [eqv_dF]
          by_cases c3 : x = .nul (!b)
          · rw [decide_eq_true c3]
            refine iteT ?_
            refine ⟨_, rfl, ?_⟩
            exact fin (.ref z) x G sG (by rw [c3]; exact hze) (by unfold half; rw [if_neg (by simp [c1, c2]), if_pos c3])
          rw [decide_eq_false c3]
          refine iteF ?_
          refine ⟨.ref p, rfl, p, _, 1, .ref ay, rfl, rfl, sp2, rfl, ay, _, 0, .str (hw y.hd), rfl, rfl, sqy, dy0, .str (wT (!b)), rfl, rfl, _, rfl, ?_⟩
          by_cases c4 : y.hd = .two (!b)
          · obtain ⟨y1, y2, rfl⟩ : ∃ y1 y2, y = .two (!b) y1 y2 := by
              cases y with
              | two c y1 y2 => cases c4; exact ⟨y1, y2, rfl⟩
              | nul _ => cases c4
              | leaf _ _ => cases c4
              | one _ _ _ => cases c4
            refine (if_pos (decide_eq_true rfl)).mpr ?_
            refine ⟨.ref p, rfl, p, _, 0, vx, rfl, rfl, sp2, rfl, .ref p, rfl, p, _, 1, .ref ay, rfl, rfl, sp2, rfl, 1, rfl, ay, _, rfl, sqy, fun whole => ?_, fun _ q hq => ?_⟩
            · exfalso
              rw [show HT.sIx (hv (F.two (!b) y1 y2).hd ++ ky).length 0 (some 1) = min 1 (hv (F.two (!b) y1 y2).hd ++ ky).length from HT.sIx_nat _ _ 1, List.length_append] at whole
              simp only [F.hd, hv, List.length_cons, List.length_nil] at whole
              omega
            rw [cut_one]
            have sq1 := Same.new (o := .tup ((hv (F.two (!b) y1 y2).hd ++ ky).drop 1)) hq
            have qT : SqT K (upd G q (.tup ((hv (F.two (!b) y1 y2).hd ++ ky).drop 1))) q ky := SqT.of upd_same
            generalize upd G q (.tup ((hv (F.two (!b) y1 y2).hd ++ ky).drop 1)) = G2 at sq1 qT
            have hx2 := hx'.same sq1
            have hin : Dp K G2 (.ref q) (.tuple ([y1, y2].map dF)) := by
              have aky2 := aky.lk (LKp.same sq1)
              cases aky2 with
              | cons h1 r =>
                cases r with
                | cons h2 r =>
                  cases r
                  exact .tup qT (.cons (dp_F h1) (.cons (dp_F h2) .nil))
            have shp : SeqAt.shaped (.tuple ([y1, y2].map dF)) = true := by
              have d1 := dF_depth y1
              have d2 := dF_depth y2
              simp only [F.depth] at hdy
              simp [SeqAt.shaped, PyData.canLay0, PyData.canLayAll0, PyData.depth, PyData.depthAll, dF_lay]
              omega
            refine ⟨dF x, _, dp_F hx2, hin, dF_shaped (by omega), shp, _, rfl, ?_⟩
            rw [dF_in]
            have ab : decide (x ∈ [y1, y2]) = absB b x (.two (!b) y1 y2) := by simp [absB]
            rw [ab]
            cases c5 : absB b x (.two (!b) y1 y2) with
            | true =>
              refine iteT ?_
              refine ⟨.ref p, rfl, p, _, 0, vx, rfl, rfl, SqT.same sq1 sp2, rfl, ?_⟩
              exact fin vx x G2 (sG.trans sq1) hx2 (by unfold half; rw [if_neg (by simp [c1, c2]), if_neg c3, if_pos c5])
            | false =>
              refine iteF ?_
              exact nxt G2 (sG.trans sq1) (half_none.mpr ⟨c1, c2, c3, c5⟩)
          · have ne : V.str (hw y.hd) ≠ V.str (wT (!b)) := fun e => c4 (hd_of (hw_code (V.str.inj e)) (by
              have := hw_code (b := .two (!b)) (V.str.inj e)
              cases y with
              | nul c => rfl
              | two c _ _ => rfl
              | leaf k n => cases k <;> (revert this; cases b <;> intro this <;> cases this)
              | one k n _ => cases k <;> (revert this; cases b <;> intro this <;> cases this)))
            refine (if_neg (by rw [decide_eq_false ne]; exact Bool.false_ne_true)).mpr ?_
            have c5 : absB b x y = false := by
              cases y with
              | nul c => rfl
              | leaf k n => rfl
              | one k n _ => rfl
              | two c y1 y2 =>
                have : c ≠ !b := fun e => c4 (by rw [e]; rfl)
                simp only [absB, decide_eq_false this, Bool.false_and]
            exact nxt G sG (half_none.mpr ⟨c1, c2, c3, c5⟩)
        | 1, hx5 =>
          cases hx5
          have hp := SqT.same sG g2
          have hx := hg9.same sG
          have hy := hf9.same sG
          have n1 := n1 (Nat.le_refl _)
          have fin : ∀ v' r G2, Same H9 G2 → IsF K G2 v' r → half b g f = some r → Q v' G2 := fun v' r G2 s2 hr' e => k v' G2 (S09.trans s2) (.inr ⟨r, by simp only [ruledF, n1, e], hr'⟩)
          have nxt : ∀ G2, Same H9 G2 → half b g f = none → (∃ y5 : Option V, ([some (.ref a), some (.str (hw (.two b))), some (.ref u), some (.ref z), some (.str (wT (!b))), some (.ref p2)] : List (Option V)) = [some (.ref a), some (.str (hw (.two b))), some (.ref u), some (.ref z), some (.str (wT (!b))), y5] ∧ Same H9 G2 ∧ (1 ≤ 1 + 1 → half b f g = none) ∧ (2 ≤ 1 + 1 → half b g f = none)) := fun G2 s2 e => ⟨_, rfl, s2, fun _ => n1, fun _ => e⟩
          have hdx : g.depth ≤ 20 := by omega
          have hdy : f.depth ≤ 20 := by omega
          clear n2
          generalize p2 = p at hp nxt
          generalize vg = vx at hp hx
          generalize vf = vy at hp hy
          generalize g = x at hx fin nxt hdx
          generalize f = y at hy fin nxt hdy
          -- pair: p, of x and y
          have sp2 : SqT K G p [vx, vy] := hp
          have hx' := hx
          obtain ⟨ay, ky, rfl, sqy, aky⟩ := hy.open
          have dy0 : atI (hv y.hd ++ ky) 0 = some (.str (hw y.hd)) := atI_nat (j := 0) (by rw [List.getElem?_append_left (by rcases hv_len y.hd with e | e <;> omega)]; exact hv_head _)
          refine ⟨.ref p, rfl, p, _, 0, vx, rfl, rfl, sp2, rfl, .ref u, rfl, dF x, dF (.nul b), dp_F hx', dp_F hun, dF_shaped (by omega), dF_shaped (by show 1 ≤ 64; decide), _, rfl, ?_⟩
          rw [eqv_dF]
          by_cases c1 : x = .nul b
          · rw [decide_eq_true c1]
            refine iteT ?_
            refine iteT ?_
            refine ⟨.ref p, rfl, p, _, 1, .ref ay, rfl, rfl, sp2, rfl, ?_⟩
            exact fin (.ref ay) y G sG hy (by unfold half; rw [if_pos (.inl c1)])
          rw [decide_eq_false c1]
          refine iteF ?_
          refine ⟨.ref p, rfl, p, _, 0, vx, rfl, rfl, sp2, rfl, .ref p, rfl, p, _, 1, .ref ay, rfl, rfl, sp2, rfl, dF x, dF y, dp_F hx', dp_F hy, dF_shaped (by omega), dF_shaped (by omega), _, rfl, ?_⟩
          rw [eqv_dF]
          by_cases c2 : x = y
          · rw [decide_eq_true c2]
            refine iteT ?_
            refine ⟨.ref p, rfl, p, _, 1, .ref ay, rfl, rfl, sp2, rfl, ?_⟩
            exact fin (.ref ay) y G sG hy (by unfold half; rw [if_pos (.inr c2)])
          rw [decide_eq_false c2]
          refine iteF ?_
          refine ⟨.ref p, rfl, p, _, 0, vx, rfl, rfl, sp2, rfl, .ref z, rfl, dF x, dF (.nul (!b)), dp_F hx', dp_F hze, dF_shaped (by omega), dF_shaped (by show 1 ≤ 64; decide), _, rfl, ?_⟩
          rw [eqv_dF]
          by_cases c3 : x = .nul (!b)
          · rw [decide_eq_true c3]
            refine iteT ?_
            refine ⟨_, rfl, ?_⟩
            exact fin (.ref z) x G sG (by rw [c3]; exact hze) (by unfold half; rw [if_neg (by simp [c1, c2]), if_pos c3])
          rw [decide_eq_false c3]
          refine iteF ?_
          refine ⟨.ref p, rfl, p, _, 1, .ref ay, rfl, rfl, sp2, rfl, ay, _, 0, .str (hw y.hd), rfl, rfl, sqy, dy0, .str (wT (!b)), rfl, rfl, _, rfl, ?_⟩
          by_cases c4 : y.hd = .two (!b)
          · obtain ⟨y1, y2, rfl⟩ : ∃ y1 y2, y = .two (!b) y1 y2 := by
              cases y with
              | two c y1 y2 => cases c4; exact ⟨y1, y2, rfl⟩
              | nul _ => cases c4
              | leaf _ _ => cases c4
              | one _ _ _ => cases c4
            refine (if_pos (decide_eq_true rfl)).mpr ?_
            refine ⟨.ref p, rfl, p, _, 0, vx, rfl, rfl, sp2, rfl, .ref p, rfl, p, _, 1, .ref ay, rfl, rfl, sp2, rfl, 1, rfl, ay, _, rfl, sqy, fun whole => ?_, fun _ q hq => ?_⟩
            · exfalso
              rw [show HT.sIx (hv (F.two (!b) y1 y2).hd ++ ky).length 0 (some 1) = min 1 (hv (F.two (!b) y1 y2).hd ++ ky).length from HT.sIx_nat _ _ 1, List.length_append] at whole
              simp only [F.hd, hv, List.length_cons, List.length_nil] at whole
              omega
            rw [cut_one]
            have sq1 := Same.new (o := .tup ((hv (F.two (!b) y1 y2).hd ++ ky).drop 1)) hq
            have qT : SqT K (upd G q (.tup ((hv (F.two (!b) y1 y2).hd ++ ky).drop 1))) q ky := SqT.of upd_same
            generalize upd G q (.tup ((hv (F.two (!b) y1 y2).hd ++ ky).drop 1)) = G2 at sq1 qT
            have hx2 := hx'.same sq1
            have hin : Dp K G2 (.ref q) (.tuple ([y1, y2].map dF)) := by
              have aky2 := aky.lk (LKp.same sq1)
              cases aky2 with
              | cons h1 r =>
                cases r with
                | cons h2 r =>
                  cases r
                  exact .tup qT (.cons (dp_F h1) (.cons (dp_F h2) .nil))
            have shp : SeqAt.shaped (.tuple ([y1, y2].map dF)) = true := by
              have d1 := dF_depth y1
              have d2 := dF_depth y2
              simp only [F.depth] at hdy
              simp [SeqAt.shaped, PyData.canLay0, PyData.canLayAll0, PyData.depth, PyData.depthAll, dF_lay]
              omega
            refine ⟨dF x, _, dp_F hx2, hin, dF_shaped (by omega), shp, _, rfl, ?_⟩
            rw [dF_in]
            have ab : decide (x ∈ [y1, y2]) = absB b x (.two (!b) y1 y2) := by simp [absB]
            rw [ab]
            cases c5 : absB b x (.two (!b) y1 y2) with
            | true =>
              refine iteT ?_
              refine ⟨.ref p, rfl, p, _, 0, vx, rfl, rfl, SqT.same sq1 sp2, rfl, ?_⟩
              exact fin vx x G2 (sG.trans sq1) hx2 (by unfold half; rw [if_neg (by simp [c1, c2]), if_neg c3, if_pos c5])
            | false =>
              refine iteF ?_
              exact nxt G2 (sG.trans sq1) (half_none.mpr ⟨c1, c2, c3, c5⟩)
          · have ne : V.str (hw y.hd) ≠ V.str (wT (!b)) := fun e => c4 (hd_of (hw_code (V.str.inj e)) (by
              have := hw_code (b := .two (!b)) (V.str.inj e)
              cases y with
              | nul c => rfl
              | two c _ _ => rfl
              | leaf k n => cases k <;> (revert this; cases b <;> intro this <;> cases this)
              | one k n _ => cases k <;> (revert this; cases b <;> intro this <;> cases this)))
            refine (if_neg (by rw [decide_eq_false ne]; exact Bool.false_ne_true)).mpr ?_
            have c5 : absB b x y = false := by
              cases y with
              | nul c => rfl
              | leaf k n => rfl
              | one k n _ => rfl
              | two c y1 y2 =>
                have : c ≠ !b := fun e => c4 (by rw [e]; rfl)
                simp only [absB, decide_eq_false this, Bool.false_and]
            exact nxt G sG (half_none.mpr ⟨c1, c2, c3, c5⟩)
      · rintro σ G ⟨y5, rfl, sG, n1, n2⟩
        have sG := S09.trans sG
        have hno : ruledF (.two b f g) = none := ruled_none.mpr ⟨n1 (by show 1 ≤ 2; decide), n2 (by show 2 ≤ 2; decide)⟩
        -- some, all; least, most: it is none of them
        refine ⟨_, rfl, by show 2 ≤ sizeLine; decide, fun t3 ht3 => ⟨t3, _, rfl, .inr (SqT.of upd_same), rfl, rfl, _, rfl, ?_⟩⟩
        have st3 := Same.new (o := .tup [.str "some", .str "all"]) ht3
        generalize upd G t3 (.tup [.str "some", .str "all"]) = G3 at st3
        rw [if_neg Bool.false_ne_true, in_steppers]
        refine iteF ?_
        refine iteF ?_
        refine ⟨_, rfl, by show 2 ≤ sizeLine; decide, fun t4 ht4 => ⟨t4, _, rfl, .inr (SqT.of upd_same), rfl, rfl, _, rfl, ?_⟩⟩
        have st4 := Same.new (o := .tup [.str "least", .str "most"]) ht4
        generalize upd G3 t4 (.tup [.str "least", .str "most"]) = G4 at st4
        rw [if_neg Bool.false_ne_true, in_binders]
        refine iteF ?_
        exact k .non G4 (sG.trans (st3.trans st4)) (.inl ⟨hno, rfl⟩)
    | one kd m g =>
      refine iteF ?_
      cases ak with
      | cons hg akr =>
      cases akr
      rename_i vg
      have sq1 := SqT.same st1 sq
      have at2 : atI (hv (F.one kd m g).hd ++ [vg]) 2 = some vg := rfl
      have at1 : atI (hv (F.one kd m g).hd ++ [vg]) 1 = some (.int m) := rfl
      simp only [F.depth, F.size] at hd hsz
      refine ⟨_, rfl, by show 2 ≤ sizeLine; decide, fun t3 ht3 => ⟨t3, _, rfl, .inr (SqT.of upd_same), rfl, rfl, _, rfl, ?_⟩⟩
      have st3 := Same.new (o := .tup [.str "some", .str "all"]) ht3
      generalize upd H1 t3 (.tup [.str "some", .str "all"]) = H3 at st3
      rw [if_neg Bool.false_ne_true, in_steppers]
      have S03 := st1.trans st3
      have sq3 := SqT.same S03 sq
      have hg3 := hg.same S03
      have hst : isStep (F.one kd m g).hd = !kd.bind := by cases kd <;> rfl
      rw [hst]
      cases hb : kd.bind with
      | false =>
        refine iteT ?_
        refine ⟨.ref a, rfl, a, _, 2, vg, rfl, rfl, sq3, at2, ?_⟩
        intro d1 hd1
        refine ⟨upd_same, [(Sum.inr "some", V.str "false"), (Sum.inr "all", V.str "true")], rfl, by decide, ?_⟩
        have sd1 : Same H3 (upd (upd H3 d1 (.dK [])) d1 (.dK seK)) := fun b o e => by
          rw [upd_ne (ne_of_none e hd1), upd_ne (ne_of_none e hd1)]
          exact e
        have gd1 : (upd (upd H3 d1 (.dK [])) d1 (.dK seK)) d1 = some (.dK seK) := upd_same
        generalize upd (upd H3 d1 (.dK [])) d1 (.dK seK) = H4 at sd1 gd1
        have qd1 := DGet.k (k := Sum.inr (wO kd)) gd1
        rw [se_at hb] at qd1
        refine ⟨.str (wO kd), rfl, d1, _, rfl, qd1, by show 1 ≤ sizeLine; decide, fun u hu1 => ?_⟩
        have su := Same.new (o := .tup [.str (wN kd.kept)]) hu1
        have gu : IsF K (upd H4 u (.tup [.str (wN kd.kept)])) (.ref u) (.nul kd.kept) := .nul (SqT.of upd_same)
        generalize upd H4 u (.tup [.str (wN kd.kept)]) = H5 at su gu
        have S05 := S03.trans (sd1.trans su)
        refine ⟨dF g, dF (.nul kd.kept), dp_F (hg.same S05), dp_F gu, dF_shaped (by omega), dF_shaped (by show 1 ≤ 64; decide), _, rfl, ?_⟩
        rw [eqv_dF]
        by_cases c : g = .nul kd.kept
        · rw [decide_eq_true c]
          refine iteT ?_
          refine ⟨.ref a, rfl, a, _, 2, vg, rfl, rfl, SqT.same S05 sq, at2, ?_⟩
          exact k vg H5 S05 (.inr ⟨g, by simp only [ruledF, hb]; rw [if_neg Bool.false_ne_true, if_pos c], hg.same S05⟩)
        · rw [decide_eq_false c]
          refine iteF ?_
          refine ⟨_, rfl, by show 2 ≤ sizeLine; decide, fun t4 ht4 => ⟨t4, _, rfl, .inr (SqT.of upd_same), rfl, rfl, _, rfl, ?_⟩⟩
          have st4 := Same.new (o := .tup [.str "least", .str "most"]) ht4
          generalize upd H5 t4 (.tup [.str "least", .str "most"]) = H6 at st4
          rw [if_neg Bool.false_ne_true, in_binders]
          have hbb : isBH (F.one kd m g).hd = false := hb
          rw [hbb]
          refine iteF ?_
          exact k .non H6 (S05.trans st4) (.inl ⟨by simp only [ruledF, hb]; rw [if_neg Bool.false_ne_true, if_neg c], rfl⟩)
      | true =>
        refine iteF ?_
        refine iteF ?_
        refine ⟨_, rfl, by show 2 ≤ sizeLine; decide, fun t4 ht4 => ⟨t4, _, rfl, .inr (SqT.of upd_same), rfl, rfl, _, rfl, ?_⟩⟩
        have st4 := Same.new (o := .tup [.str "least", .str "most"]) ht4
        generalize upd H3 t4 (.tup [.str "least", .str "most"]) = H4 at st4
        rw [if_neg Bool.false_ne_true, in_binders]
        have hbb : isBH (F.one kd m g).hd = true := hb
        rw [hbb]
        refine iteT ?_
        have S04 := S03.trans st4
        refine ⟨.ref a, rfl, a, _, 2, vg, rfl, rfl, SqT.same S04 sq, at2, .ref a, rfl, a, _, 1, .int m, rfl, rfl, SqT.same S04 sq, at1, by show 2 ≤ sizeLine; decide, fun q hq => ?_⟩
        have s5 := Same.new (o := .tup [.str "var", .int m]) hq
        have gq : IsF K (upd H4 q (.tup [.str "var", .int m])) (.ref q) (.leaf .var m) := .leaf (SqT.of upd_same)
        generalize upd H4 q (.tup [.str "var", .int m]) = H5 at s5 gq
        have S05 := S04.trans s5
        refine ⟨dF g, dF (.leaf .var m), dp_F (hg.same S05), dp_F gq, dF_shaped (by omega), dF_shaped (by show 1 ≤ 64; decide), _, rfl, ?_⟩
        rw [eqv_dF]
        by_cases c : g = .leaf .var m
        · rw [decide_eq_true c]
          refine iteT ?_
          intro d1 hd1
          refine ⟨upd_same, [(Sum.inr "least", V.str "false"), (Sum.inr "most", V.str "true")], rfl, by decide, ?_⟩
          have sd1 : Same H5 (upd (upd H5 d1 (.dK [])) d1 (.dK lmK)) := fun b o e => by
            rw [upd_ne (ne_of_none e hd1), upd_ne (ne_of_none e hd1)]
            exact e
          have gd1 : (upd (upd H5 d1 (.dK [])) d1 (.dK lmK)) d1 = some (.dK lmK) := upd_same
          generalize upd (upd H5 d1 (.dK [])) d1 (.dK lmK) = H6 at sd1 gd1
          have qd1 := DGet.k (k := Sum.inr (wO kd)) gd1
          rw [lm_at hb] at qd1
          refine ⟨.str (wO kd), rfl, d1, _, rfl, qd1, by show 1 ≤ sizeLine; decide, fun u hu1 => ?_⟩
          have su := Same.new (o := .tup [.str (wN kd.kept)]) hu1
          exact k (.ref u) _ (S05.trans (sd1.trans su)) (.inr ⟨.nul kd.kept, by simp only [ruledF, hb]; rw [if_pos trivial, if_pos c], .nul (SqT.of upd_same)⟩)
        · rw [decide_eq_false c]
          refine iteF ?_
          refine ⟨.ref a, rfl, a, _, 1, .int m, rfl, rfl, SqT.same S05 sq, at1, .ref a, rfl, a, _, 2, vg, rfl, rfl, SqT.same S05 sq, at2, Nat.zero_le _, fun ba hba => ?_⟩
          have s6 := Same.new (o := .lst []) hba
          have S06 := S05.trans s6
          refine ⟨vg, g, ba, [], rfl, hg.same S06, by show g.depth ≤ 20; omega, by omega, upd_same, by decide, fun fl H7 s7 hfl => ?_⟩
          have S07 := S06.trans s7
          refine ⟨fl, _, rfl, .inl (SqL.of hfl), rfl, flat_ints _, _, rfl, ?_⟩
          rw [if_pos rfl, in_ints]
          have e1 : (!decide (m ∈ freeL g [])) = decide (m ∉ fv g) := by
            have := free_fv m g []
            by_cases q : m ∈ fv g
            · have : m ∈ freeL g [] := this.mpr ⟨q, by simp⟩
              simp [q, this]
            · have : m ∉ freeL g [] := fun z => q (this.mp z).1
              simp [q, this]
          rw [e1]
          by_cases c2 : m ∉ fv g
          · rw [decide_eq_true c2]
            refine iteT ?_
            refine ⟨.ref a, rfl, a, _, 2, vg, rfl, rfl, SqT.same S07 sq, at2, ?_⟩
            exact k vg H7 S07 (.inr ⟨g, by simp only [ruledF, hb]; rw [if_pos trivial, if_neg c, if_pos c2], hg.same S07⟩)
          · rw [decide_eq_false c2]
            refine iteF ?_
            exact k .non H7 S07 (.inl ⟨by simp only [ruledF, hb]; rw [if_pos trivial, if_neg c, if_neg c2], rfl⟩)
end
end Fw

set_option maxRecDepth 100000
set_option maxHeartbeats 4000000
namespace Fw
open PySem PySem.Spec PyProof.Rows L2
theorem depth_pos (t : F) : 0 < t.depth := by cases t <;> simp [F.depth]
theorem sh_map (t : F) : shF t = (ruledF (mapK shF t)).getD (mapK shF t) := by cases t <;> rfl
theorem can_kids (t : F) : canB t = ((ruledF t).isSome || t.kids.any canB) := by
  cases t <;> simp [canB, F.kids, ruledF]
theorem hv_parts (h : Hd) : ∀ x ∈ hv h, (∃ s, x = V.str s) ∨ ∃ n, x = V.int n := by
  cases h <;> simp [hv]
section
variable {P : Program} {w : World} {K : PySem.W.Frag} {mg : Str → Option Value} {base : Heap} {C J B SC HC STP : Addr}
def spSho (K : PySem.W.Frag) : Nat → Sp
  | 0 => fun _ _ _ _ => False
  | n + 1 => fun vs H Q _ => ∃ (v : V) (t : F), vs = [v] ∧ IsF K H v t ∧ t.depth ≤ n + 1 ∧ t.depth ≤ 20 ∧ t.size ≤ 1000 ∧ ∀ v' H', Same H H' → IsF K H' v' (shF t) → Q v' H'
theorem ok_law_short {f : Addr} {fd : FuncData} (n : Nat) (FF : Fun K "_law_short" "_law_short" s_law_short f fd) (T : Txt K mg C J B) (h_law_ruled : Has P w K mg base "_law_ruled" 22 a_law_ruled (spRul K))
    (h_law_short : Has P w K mg base "_law_short" (n + 23) a_law_short (spSho K n)) : FnOk P w K mg base CX0 (n + 24) f fd a_law_short (spSho K (n + 1)) := by
  refine FF.ok sc_law_short (fun vs H Q E h => ?_) (fun cdv A outer s H vs Q E hr h => ?_)
  · obtain ⟨v, t, rfl, _⟩ := h
    rfl
  · obtain ⟨v, t, rfl, ht, hd, hd20, hsz, k⟩ := h
    obtain ⟨a, ks, rfl, sq, ak⟩ := id ht.open
    refine ⟨_, (pss_cons (ps_setLc (i := 1) (own := [("part", 3)]) (g := gName 3) rfl sc_law_short.nd rfl rfl (sw_true rfl rfl rfl (by decide +kernel)) (pi_tup (pv 0)) (blkOk_by (own := [("part", 3)]) (N := n_law_short) (sc := defScope s_law_short) (by decide +kernel)) (fun _ _ _ _ _ => (pg_name (i := 3) sc_law_short.nd rfl (.inl rfl))) (fun _ _ _ _ _ => pts_nil) (fun _ _ _ _ _ => (pe_ifExp (pt_val (pe_callB (@id (CallR _ _ (rIsi K)) call_isi) rfl T.z_isinstance (by decide +kernel) (pa_cons (pv 3) (pa_cons (pe_bltn (v := .ty "tuple") (u := .type "tuple") rfl T.z_tuple (by decide +kernel) rfl) pa_nil)))) (pe_callH h_law_short (hr.mono (by omega)) (pa_cons (pv 3) pa_nil)) (pv 3))))
      (pss_cons (ps_set (i := 2) sc_law_short.nd rfl (.inl rfl) (pe_callH h_law_ruled (hr.mono (by omega)) (pa_cons (pe_callTy call_tuple_of rfl T.z_tuple (by decide +kernel) (pa_cons (pv 1) pa_nil)) pa_nil)))
      (pss_cons (ps_if (pt_cmpR op_isN (pv 2) pe_non (nomark _)) (pss_one (ps_ret (pe_callTy call_tuple_of rfl T.z_tuple (by decide +kernel) (pa_cons (pv 1) pa_nil)))) pss_nil)
      (pss_one (ps_ret (pv 2)))))), ?_⟩
    have hl := hv_len t.hd
    have kl := ak.len
    have k2 := F.kids_le t
    refine ⟨.ref a, rfl, a, rfl, ⟨_, sq⟩, fun D hD => ?_⟩
    refine lc_tup (xs := hv t.hd ++ ks) (fun i G => Same H G ∧ ∃ zs, G D = some (.lst ((hv t.hd).take i ++ zs)) ∧ AllF K G zs ((t.kids.take (i - (hv t.hd).length)).map shF)) ⟨Same.new hD, [], by rw [upd_same]; simp, by simpa using .nil⟩ (fun i G _ q => SqT.same q.1 sq) ?_ ?_
    · rintro i x G hx ⟨sG, zs, gD, az⟩
      have il := (List.getElem?_eq_some_iff.mp hx).1
      rw [List.length_append] at il
      have zl := az.len
      rw [List.length_map, List.length_take] at zl
      have sup : ∀ G', Same G G' → ∀ o, Same H (upd G' D o) := fun G' s' o b u e => by rw [upd_ne (ne_of_none e hD)]; exact s' _ _ (sG b u e)
      by_cases lt : i < (hv t.hd).length
      · rw [List.getElem?_append_left lt] at hx
        have e0 : i - (hv t.hd).length = 0 := by omega
        have e1 : i + 1 - (hv t.hd).length = 0 := by omega
        rw [e0] at az
        cases az
        have fin : ∃ acc, G D = some (.lst acc) ∧ acc.length < sizeLine ∧ (Same H (upd G D (.lst (acc ++ [x]))) ∧ ∃ zs, (upd G D (.lst (acc ++ [x]))) D = some (.lst ((hv t.hd).take (i + 1) ++ zs)) ∧ AllF K (upd G D (.lst (acc ++ [x]))) zs ((t.kids.take (i + 1 - (hv t.hd).length)).map shF)) := by
          refine ⟨_, gD, small1000 (by simp only [List.length_append, List.length_take, List.length_nil]; omega), sup G (Same.refl _) _, [], ?_, by rw [e1]; exact .nil⟩
          rw [upd_same, List.take_add_one, hx]
          simp
        rcases hv_parts t.hd x (List.mem_of_getElem? hx) with ⟨s, rfl⟩ | ⟨m, rfl⟩
        · exact ⟨rfl, .str s, rfl, .str s, .ty "tuple", .type "str", .type "tuple", false, rfl, .ty "tuple", .base (.str s), kit_ty (by decide +kernel), false, rfl, iteF ⟨_, rfl, fin⟩⟩
        · exact ⟨rfl, .int m, rfl, .int m, .ty "tuple", .type "int", .type "tuple", false, rfl, .ty "tuple", .base (.int m), kit_ty (by decide +kernel), false, rfl, iteF ⟨_, rfl, fin⟩⟩
      · rw [List.getElem?_append_right (by omega)] at hx
        obtain ⟨u, hu⟩ : ∃ u, t.kids[i - (hv t.hd).length]? = some u := ⟨t.kids[i - (hv t.hd).length]'(by omega), by simp⟩
        have hxu := (ak.get hx hu).same sG
        have ksm := kid_small (List.mem_of_getElem? hu)
        obtain ⟨m', rfl⟩ : ∃ m', n = m' + 1 := by
          cases n with
          | zero => exact absurd hd (by have := depth_pos u; omega)
          | succ m' => exact ⟨m', rfl⟩
        refine ⟨rfl, x, rfl, x, .ty "tuple", .type "tuple", .type "tuple", true, rfl, .ty "tuple", hxu.ty, kit_ty (by decide +kernel), true, rfl, iteT ?_⟩
        refine ⟨x, rfl, x, u, rfl, hxu, by omega, by omega, by omega, fun v' G2 s2 hv' => ?_⟩
        have gD2 := s2 _ _ gD
        have tk := (TKp.same s2).trans (TKp.lst (K := K) (o' := .lst ((hv t.hd).take i ++ zs ++ [v'])) gD2)
        refine ⟨_, gD2, small1000 (by simp only [List.length_append, List.length_take]; omega), sup G2 s2 _, zs ++ [v'], ?_, ?_⟩
        · rw [upd_same, List.take_of_length_le (by omega), List.take_of_length_le (by omega), List.append_assoc]
        · rw [show i + 1 - (hv t.hd).length = (i - (hv t.hd).length) + 1 by omega, List.take_add_one, hu, List.map_append]
          exact AllF.snoc (az.tk tk) (hv'.map (TKp.lst (K := K) (o' := .lst ((hv t.hd).take i ++ zs ++ [v'])) gD2))
    · rintro G ⟨sG, zs, gD, az⟩
      rw [List.length_append, List.take_of_length_le (by omega)] at gD
      rw [List.length_append, List.take_of_length_le (by omega)] at az
      -- tuple(parts)
      refine ⟨.ref D, rfl, D, _, rfl, .inl ⟨SqL.of gD, fun q hq => ?_⟩⟩
      have s1 := Same.new (o := .tup (hv t.hd ++ zs)) hq
      have hm : IsF K (upd G q (.tup (hv t.hd ++ zs))) (.ref q) (mapK shF t) := IsF.close (by rw [mapK_hd]; exact SqT.of upd_same) (by rw [mapK_kids]; exact az.tk (.same s1))
      generalize upd G q (.tup (hv t.hd ++ zs)) = G1 at s1 hm
      have zd : (mapK shF t).depth ≤ 20 ∧ (mapK shF t).size ≤ 1000 := by
        refine ⟨?_, Nat.le_trans (mapK_size t) hsz⟩
        cases t with
        | nul b => exact hd20
        | leaf c m => exact hd20
        | two b f g => have := (size_sh f).2; have := (size_sh g).2; simp only [mapK, F.depth] at hd20 ⊢; omega
        | one c m f => have := (size_sh f).2; simp only [mapK, F.depth] at hd20 ⊢; omega
      refine ⟨.ref q, mapK shF t, rfl, hm, zd.1, zd.2, fun v' G2 s2 res => ?_⟩
      have s12 := s1.trans s2
      rcases res with ⟨hno, rfl⟩ | ⟨r, hr', hv'⟩
      · refine ⟨_, rfl, rfl, _, rfl, (if_pos (decide_eq_true rfl)).mpr ?_⟩
        refine ⟨.ref D, rfl, D, _, rfl, .inl ⟨SqL.of (s12 _ _ gD), fun q2 hq2 => ?_⟩⟩
        have s3 := Same.new (o := .tup (hv t.hd ++ zs)) hq2
        refine k (.ref q2) _ (sG.trans (s12.trans s3)) ?_
        rw [sh_map, hno, Option.getD_none]
        exact IsF.close (by rw [mapK_hd]; exact SqT.of upd_same) (by rw [mapK_kids]; exact az.tk (.same (s12.trans s3)))
      · have nn : ¬ v' = V.non := by
          obtain ⟨q, _, rfl, _⟩ := hv'.open
          exact fun z => by cases z
        refine ⟨_, rfl, rfl, _, rfl, (if_neg (by rw [decide_eq_false nn]; exact Bool.false_ne_true)).mpr ?_⟩
        refine ⟨_, rfl, ?_⟩
        refine k v' G2 (sG.trans s12) ?_
        rw [sh_map, hr']
        exact hv'
theorem all_short {f : Addr} {fd : FuncData} (FF : Fun K "_law_short" "_law_short" s_law_short f fd) (b : Binds K fd a_law_short []) (m : mg "_law_short" = some (.ref f)) (T : Txt K mg C J B)
    (h_law_ruled : Has P w K mg base "_law_ruled" 22 a_law_ruled (spRul K)) : ∀ n, Has P w K mg base "_law_short" (n + 23) a_law_short (spSho K n)
  | 0 => ⟨f, fd, m, FF.kp, b, noneOk⟩
  | n + 1 => ⟨f, fd, m, FF.kp, b, ok_law_short n FF T h_law_ruled (all_short FF b m T h_law_ruled n)⟩
/-! ### can it be ruled -/
def spCan (K : PySem.W.Frag) : Nat → Sp
  | 0 => fun _ _ _ _ => False
  | n + 1 => fun vs H Q _ => ∃ (v : V) (t : F), vs = [v] ∧ IsF K H v t ∧ t.depth ≤ n + 1 ∧ t.depth ≤ 20 ∧ t.size ≤ 1000 ∧ ∀ H', Same H H' → Q (.bl (canB t)) H'
theorem ok_law_can {f : Addr} {fd : FuncData} (n : Nat) (FF : Fun K "_law_can_be_ruled" "_law_can_be_ruled" s_law_can_be_ruled f fd) (T : Txt K mg C J B) (h_law_ruled : Has P w K mg base "_law_ruled" 22 a_law_ruled (spRul K)) (h_law_inner : Has P w K mg base "_law_inner" 1 a_law_inner (spInner K))
    (h_law_can_be_ruled : Has P w K mg base "_law_can_be_ruled" (n + 23) a_law_can_be_ruled (spCan K n)) : FnOk P w K mg base CX0 (n + 24) f fd a_law_can_be_ruled (spCan K (n + 1)) := by
  refine FF.ok sc_law_can_be_ruled (fun vs H Q E h => ?_) (fun cdv A outer s H vs Q E hr h => ?_)
  · obtain ⟨v, t, rfl, _⟩ := h
    rfl
  · obtain ⟨v, t, rfl, ht, hd, hd20, hsz, k⟩ := h
    refine ⟨_, (pss_cons (ps_if (pt_cmpR op_notN (pe_callH h_law_ruled (hr.mono (by omega)) (pa_cons (pv 0) pa_nil)) pe_non (nomark _)) (pss_one (ps_ret pe_bl)) pss_nil)
      (pss_one (ps_ret (pe_cmpR op_gt (pe_callB call_len_seq rfl T.z_len (by decide +kernel) (pa_cons (pe_lc (own := [("part", 1)]) (g := gName 1) rfl sc_law_can_be_ruled.nd (pi_list (pe_callH h_law_inner (hr.mono (by omega)) (pa_cons (pv 0) pa_nil))) (blkOk_by (own := [("part", 1)]) (N := n_law_can_be_ruled) (sc := defScope s_law_can_be_ruled) (by decide +kernel)) (fun _ _ _ _ _ => (pg_name (i := 1) sc_law_can_be_ruled.nd rfl (.inl rfl))) (fun _ _ _ _ _ => (pts_one (pt_val (pe_callH h_law_can_be_ruled (hr.mono (by omega)) (pa_cons (pv 1) pa_nil))))) (fun _ _ _ _ _ => (pv 1))) pa_nil)) pe_int (nomark _))))), ?_⟩
    refine ⟨v, rfl, v, t, rfl, ht, hd20, hsz, fun v' H1 s1 res => ?_⟩
    rw [can_kids] at k
    rcases res with ⟨hno, rfl⟩ | ⟨r, hr', hv'⟩
    · rw [hno] at k
      refine ⟨rfl, _, rfl, (if_neg (by rw [decide_eq_true rfl]; exact Bool.false_ne_true)).mpr ?_⟩
      refine ⟨v, rfl, v, t, rfl, ht.same s1, fun l ks H2 s2 hl ak => ?_⟩
      have kl := ak.len
      have k2 := F.kids_le t
      refine ⟨l, rfl, ⟨_, SqL.of hl⟩, fun D hD => ?_⟩
      refine lc_list (xs := ks) (fun i G => Same H2 G ∧ ∃ zs, G D = some (.lst zs) ∧ zs.length = ((t.kids.take i).filter canB).length) ⟨Same.new hD, [], upd_same, rfl⟩ (fun i G _ q => SqL.of (q.1 _ _ hl)) ?_ ?_
      · rintro i x G hx ⟨sG, zs, gD, lz⟩
        have il := (List.getElem?_eq_some_iff.mp hx).1
        obtain ⟨u, hu⟩ : ∃ u, t.kids[i]? = some u := ⟨t.kids[i]'(by omega), by simp⟩
        have ksm := kid_small (List.mem_of_getElem? hu)
        obtain ⟨m', rfl⟩ : ∃ m', n = m' + 1 := by
          cases n with
          | zero => exact absurd hd (by have := depth_pos u; omega)
          | succ m' => exact ⟨m', rfl⟩
        have fl : ((t.kids.take i).filter canB).length ≤ 2 := by
          refine Nat.le_trans (List.length_filter_le _ _) ?_
          rw [List.length_take]
          omega
        refine ⟨rfl, x, rfl, x, u, rfl, (ak.get hx hu).same sG, by omega, by omega, by omega, fun G2 s2 => ⟨_, rfl, ?_⟩⟩
        have nx : ((t.kids.take (i + 1)).filter canB) = ((t.kids.take i).filter canB) ++ (if canB u = true then [u] else []) := by
          rw [List.take_add_one, hu, List.filter_append]
          cases c : canB u <;> simp [c]
        cases c : canB u with
        | true =>
          refine iteT ⟨x, rfl, zs, s2 _ _ gD, small1000 (by omega), fun b o e => by rw [upd_ne (ne_of_none e hD)]; exact s2 _ _ (sG b o e), _, upd_same, ?_⟩
          rw [nx, c, List.length_append, List.length_append, lz]
          rfl
        | false =>
          refine iteF ⟨sG.trans s2, zs, s2 _ _ gD, ?_⟩
          rw [nx, c, List.length_append, lz]
          rfl
      · rintro G ⟨sG, zs, gD, lz⟩
        rw [kl, List.take_length] at lz
        refine ⟨D, _, rfl, .inl (SqL.of gD), ?_⟩
        refine ⟨_, _, rfl, rfl, ?_⟩
        have e1 : decide ((0 : Int) < (zs.length : Nat)) = t.kids.any canB := by
          rw [lz]
          cases c : t.kids.any canB with
          | true =>
            obtain ⟨u, h1, h2⟩ := List.any_eq_true.mp c
            have := List.length_pos_of_mem (List.mem_filter.mpr ⟨h1, h2⟩)
            exact decide_eq_true (by omega)
          | false =>
            have : t.kids.filter canB = [] := List.filter_eq_nil_iff.mpr fun u hu => by
              have := List.any_eq_false.mp c u hu
              exact this
            rw [this]
            rfl
        have k' := k G (s1.trans (s2.trans sG))
        rw [← e1] at k'
        exact k'
    · have nn : ¬ v' = V.non := by
        obtain ⟨q, _, rfl, _⟩ := hv'.open
        exact fun z => by cases z
      rw [hr'] at k
      refine ⟨rfl, _, rfl, (if_pos (by rw [decide_eq_false nn]; rfl)).mpr ?_⟩
      exact k H1 s1
theorem all_can {f : Addr} {fd : FuncData} (FF : Fun K "_law_can_be_ruled" "_law_can_be_ruled" s_law_can_be_ruled f fd) (b : Binds K fd a_law_can_be_ruled []) (m : mg "_law_can_be_ruled" = some (.ref f)) (T : Txt K mg C J B)
    (h_law_ruled : Has P w K mg base "_law_ruled" 22 a_law_ruled (spRul K)) (h_law_inner : Has P w K mg base "_law_inner" 1 a_law_inner (spInner K)) : ∀ n, Has P w K mg base "_law_can_be_ruled" (n + 23) a_law_can_be_ruled (spCan K n)
  | 0 => ⟨f, fd, m, FF.kp, b, noneOk⟩
  | n + 1 => ⟨f, fd, m, FF.kp, b, ok_law_can n FF T h_law_ruled h_law_inner (all_can FF b m T h_law_ruled h_law_inner n)⟩
/-! ### doubled -/
structure Dbl (t u : F) : Prop where
  dep : u.depth ≤ t.depth + 2
  fr : ∀ x ∈ fv u, x ∈ fv t
def spDb (K : PySem.W.Frag) : Nat → Sp
  | 0 => fun _ _ _ _ => False
  | n + 1 => fun vs H Q _ => ∃ (d : Addr) (v : V) (t : F), vs = [.ref d, v, .int (n : Nat)] ∧ Draws H d ∧ IsF K H v t ∧ ∀ v' u H', But d H H' → Draws H' d → IsF K H' v' u → Dbl t u → Q v' H'
theorem in_and (h : Hd) : inV (.str (hw h)) [.str "and", .str "or"] = isTwo h := in_joins h
theorem in_four' (h : Hd) : inV (.str (hw h)) [.str "some", .str "all", .str "least", .str "most"] = isOneH h := by
  cases h with
  | nul b => cases b <;> rfl
  | leaf k n => cases k <;> rfl
  | two b => cases b <;> rfl
  | one k n => cases k <;> rfl
theorem iteT_if {c : Bool} {A B : Prop} (h : c = true) (a : A) : if c = true then A else B := (if_pos h).mpr a
theorem ok_law_doubled {f : Addr} {fd : FuncData} (n : Nat) (FF : Fun K "_law_doubled" "_law_doubled" s_law_doubled f fd) (T : Txt K mg C J B) (h_law_take : Has P w K mg base "_law_take" 1 a_law_take spTake)
    (h_law_doubled : Has P w K mg base "_law_doubled" (n + 2) a_law_doubled (spDb K n)) : FnOk P w K mg base CX0 (n + 3) f fd a_law_doubled (spDb K (n + 1)) := by
  refine FF.ok sc_law_doubled (fun vs H Q E h => ?_) (fun cdv A outer s H vs Q E hr h => ?_)
  · obtain ⟨d, v, t, rfl, _⟩ := h
    rfl
  · obtain ⟨d, v, t, rfl, hd, ht, k⟩ := h
    refine ⟨_, (pss_cons (ps_set (i := 3) sc_law_doubled.nd rfl (.inl rfl) (pe_callH h_law_take (hr.mono (by omega)) (pa_cons (pv 0) (pa_cons pe_int pa_nil))))
      (pss_cons (ps_if (PW.pt (pw_and (pt_cmpR op_gt (pv 2) pe_int (nomark _)) (pw_and1 (pt_cmpR op_lt (pv 3) pe_int (nomark _))))) (pss_cons (ps_set (i := 4) sc_law_doubled.nd rfl (.inl rfl) (pe_ix ix_list (pe_lst (pa_cons (pe_tup (pa_cons pe_str pa_nil)) (pa_cons (pe_tup (pa_cons pe_str pa_nil)) (pa_cons (pv 1) (pa_cons (pe_tup (pa_cons pe_str (pa_cons (pv 1) (pa_cons (pe_tup (pa_cons pe_str (pa_cons pe_int pa_nil))) pa_nil)))) pa_nil))))) (pv 3) (fun _ _ => rfl)))
      (pss_cons (ps_set (i := 5) sc_law_doubled.nd rfl (.inl rfl) (pe_lst (pa_cons (pv 1) (pa_cons (pv 4) pa_nil))))
      (pss_cons (ps_if (pt_cmpR op_eq (pe_callH h_law_take (hr.mono (by omega)) (pa_cons (pv 0) (pa_cons pe_int pa_nil))) pe_int (nomark _)) (pss_one (ps_expr (pe_bm0 PySem.F.plainAttrs_list PySem.F.slot_list_reverse PySem.F.type_list_reverse mt_reverse (pv 5)))) pss_nil)
      (pss_one (ps_ret (pe_tup (pa_cons (pe_ix ix_list (pe_lst (pa_cons pe_str (pa_cons pe_str pa_nil))) (pe_callH h_law_take (hr.mono (by omega)) (pa_cons (pv 0) (pa_cons pe_int pa_nil))) (fun _ _ => rfl)) (pa_cons (pe_ix ix_list (pv 5) pe_int (fun _ _ => rfl)) (pa_cons (pe_ix ix_list (pv 5) pe_int (fun _ _ => rfl)) pa_nil))))))))) pss_nil)
      (pss_cons (ps_if (PW.pt (pw_and (pt_cmpR op_gt (pv 2) pe_int (nomark _)) (pw_and1 (pt_cmpR op_in_seq (pe_ix ix_tup (pv 1) pe_int (fun _ _ => rfl)) (pe_tup (pa_cons pe_str (pa_cons pe_str pa_nil))) (by rfl))))) (pss_one (ps_ret (pe_tup (pa_cons (pe_ix ix_tup (pv 1) pe_int (fun _ _ => rfl)) (pa_cons (pe_callH h_law_doubled (hr.mono (by omega)) (pa_cons (pv 0) (pa_cons (pe_ix ix_tup (pv 1) pe_int (fun _ _ => rfl)) (pa_cons (pe_op op_sub (pv 2) pe_int) pa_nil)))) (pa_cons (pe_callH h_law_doubled (hr.mono (by omega)) (pa_cons (pv 0) (pa_cons (pe_ix ix_tup (pv 1) pe_int (fun _ _ => rfl)) (pa_cons (pe_op op_sub (pv 2) pe_int) pa_nil)))) pa_nil)))))) pss_nil)
      (pss_cons (ps_if (PW.pt (pw_and (pt_cmpR op_gt (pv 2) pe_int (nomark _)) (pw_and1 (pt_cmpR op_in_seq (pe_ix ix_tup (pv 1) pe_int (fun _ _ => rfl)) (pe_tup (pa_cons pe_str (pa_cons pe_str (pa_cons pe_str (pa_cons pe_str pa_nil))))) (by rfl))))) (pss_one (ps_ret (pe_tup (pa_cons (pe_ix ix_tup (pv 1) pe_int (fun _ _ => rfl)) (pa_cons (pe_ix ix_tup (pv 1) pe_int (fun _ _ => rfl)) (pa_cons (pe_callH h_law_doubled (hr.mono (by omega)) (pa_cons (pv 0) (pa_cons (pe_ix ix_tup (pv 1) pe_int (fun _ _ => rfl)) (pa_cons (pe_op op_sub (pv 2) pe_int) pa_nil)))) pa_nil)))))) pss_nil)
      (pss_one (ps_ret (pv 1))))))), ?_⟩
    refine ⟨.ref d, rfl, d, 9, rfl, hd, by decide, fun v1 H1 v10 v19 b1 d1 => ?_⟩
    have ht1 := ht.but hd.lst b1
    have stay : Q v H1 := k v t H1 b1 d1 ht1 ⟨Nat.le_add_right _ _, fun x hx => hx⟩
    obtain ⟨a, ks, rfl, sq, ak⟩ := id ht1.open
    have at0 : atI (hv t.hd ++ ks) 0 = some (.str (hw t.hd)) := atI_nat (j := 0) (by rw [List.getElem?_append_left (by rcases hv_len t.hd with e | e <;> omega)]; exact hv_head _)
    cases n with
    | zero =>
      refine ⟨.int ((0 : Nat) : Int), rfl, _, _, rfl, rfl, _, rfl, (if_neg (by decide)).mpr ?_⟩
      refine iteF ?_
      refine ⟨.int ((0 : Nat) : Int), rfl, _, _, rfl, rfl, _, rfl, (if_neg (by decide)).mpr ?_⟩
      refine iteF ?_
      refine ⟨.int ((0 : Nat) : Int), rfl, _, _, rfl, rfl, _, rfl, (if_neg (by decide)).mpr ?_⟩
      refine iteF ?_
      exact ⟨.ref a, rfl, stay⟩
    | succ m =>
      have pos : decide ((0 : Int) < ((m + 1 : Nat) : Int)) = true := decide_eq_true (by omega)
      have em : V.int (((m + 1 : Nat) : Int) - 1) = V.int (m : Nat) := by congr 1; omega
      refine ⟨.int ((m + 1 : Nat) : Int), rfl, _, _, rfl, rfl, _, rfl, (if_pos pos).mpr ?_⟩
      refine ⟨.int v1, rfl, _, _, rfl, rfl, _, rfl, ite2 (fun c1 => ?_) (fun c1 => ?_)⟩
      · have c1' : v1 < 4 := of_decide_eq_true c1
        refine ⟨by show 1 ≤ sizeLine; decide, fun p1 hp1 => ⟨by show 1 ≤ sizeLine; decide, fun p2 hp2 => ⟨.ref a, rfl, .ref a, rfl, by show 2 ≤ sizeLine; decide, fun p3 hp3 => ⟨by show 3 ≤ sizeLine; decide, fun p4 hp4 => ⟨by show 4 ≤ sizeLine; decide, fun l hl => ?_⟩⟩⟩⟩⟩
        have s1 := Same.new (o := .tup [.str "true"]) hp1
        have s2 := Same.new (o := .tup [.str "false"]) hp2
        have s3 := Same.new (o := .tup [.str "has", .int 0]) hp3
        have s4 := Same.new (o := .tup [.str "or", .ref a, .ref p3]) hp4
        have s5 := Same.new (o := .lst [.ref p1, .ref p2, .ref a, .ref p4]) hl
        have S15 := s1.trans (s2.trans (s3.trans (s4.trans s5)))
        have i1 : IsF K (upd (upd (upd (upd (upd H1 p1 (.tup [.str "true"])) p2 (.tup [.str "false"])) p3 (.tup [.str "has", .int 0])) p4 (.tup [.str "or", .ref a, .ref p3])) l (.lst [.ref p1, .ref p2, .ref a, .ref p4])) (.ref p1) (.nul true) := .nul (SqT.of (s5 _ _ (s4 _ _ (s3 _ _ (s2 _ _ (upd_same (H := H1) (a := p1) (o := .tup [.str "true"])))))))
        have i2 : IsF K (upd (upd (upd (upd (upd H1 p1 (.tup [.str "true"])) p2 (.tup [.str "false"])) p3 (.tup [.str "has", .int 0])) p4 (.tup [.str "or", .ref a, .ref p3])) l (.lst [.ref p1, .ref p2, .ref a, .ref p4])) (.ref p2) (.nul false) := .nul (SqT.of (s5 _ _ (s4 _ _ (s3 _ _ (upd_same (a := p2) (o := .tup [.str "false"]))))))
        have i3 : IsF K (upd (upd (upd (upd (upd H1 p1 (.tup [.str "true"])) p2 (.tup [.str "false"])) p3 (.tup [.str "has", .int 0])) p4 (.tup [.str "or", .ref a, .ref p3])) l (.lst [.ref p1, .ref p2, .ref a, .ref p4])) (.ref p3) (.leaf .has 0) := .leaf (SqT.of (s5 _ _ (s4 _ _ (upd_same (a := p3) (o := .tup [.str "has", .int 0])))))
        have i4 : IsF K (upd (upd (upd (upd (upd H1 p1 (.tup [.str "true"])) p2 (.tup [.str "false"])) p3 (.tup [.str "has", .int 0])) p4 (.tup [.str "or", .ref a, .ref p3])) l (.lst [.ref p1, .ref p2, .ref a, .ref p4])) (.ref p4) (.two false t (.leaf .has 0)) := .two (SqT.of (s5 _ _ (upd_same (a := p4) (o := .tup [.str "or", .ref a, .ref p3])))) (ht1.same S15) i3
        have il : (upd (upd (upd (upd (upd H1 p1 (.tup [.str "true"])) p2 (.tup [.str "false"])) p3 (.tup [.str "has", .int 0])) p4 (.tup [.str "or", .ref a, .ref p3])) l (.lst [.ref p1, .ref p2, .ref a, .ref p4])) l = some (.lst [.ref p1, .ref p2, .ref a, .ref p4]) := upd_same
        have ia := ht1.same S15
        have dG := d1.same S15
        generalize upd (upd (upd (upd (upd H1 p1 (.tup [.str "true"])) p2 (.tup [.str "false"])) p3 (.tup [.str "has", .int 0])) p4 (.tup [.str "or", .ref a, .ref p3])) l (.lst [.ref p1, .ref p2, .ref a, .ref p4]) = G at S15 i1 i2 i3 i4 il ia dG s5
        have s5' := S15
        obtain ⟨vy, y, hat, hy, ydep, fy⟩ : ∃ vy y, atI [V.ref p1, .ref p2, .ref a, .ref p4] v1 = some vy ∧ IsF K G vy y ∧ y.depth ≤ t.depth + 1 ∧ ∀ z ∈ fv y, z ∈ fv t := by
          have : v1 = 0 ∨ v1 = 1 ∨ v1 = 2 ∨ v1 = 3 := by omega
          have dp := depth_pos t
          rcases this with rfl | rfl | rfl | rfl
          · exact ⟨_, _, rfl, i1, by show 1 ≤ _; omega, fun z hz => (nomatch hz)⟩
          · exact ⟨_, _, rfl, i2, by show 1 ≤ _; omega, fun z hz => (nomatch hz)⟩
          · exact ⟨_, _, rfl, ia, by omega, fun z hz => hz⟩
          · refine ⟨_, _, rfl, i4, by show max t.depth 1 + 1 ≤ _; omega, fun z hz => ?_⟩
            rcases List.mem_append.mp (show z ∈ fv t ++ fv (.leaf .has 0) from hz) with hz | hz
            · exact hz
            · cases hz
        refine ⟨.int v1, rfl, l, _, _, vy, rfl, rfl, SqL.of il, hat, ?_⟩
        refine ⟨.ref a, rfl, vy, rfl, by show 2 ≤ sizeLine; decide, fun pa hpa => ?_⟩
        have s6 := Same.new (o := .lst [.ref a, vy]) hpa
        have gp0 := upd_same (H := G) (a := pa) (o := .lst [.ref a, vy])
        have pd := dG.ne hpa
        have dG := dG.same s6
        have hy := hy.same s6
        have hx := ia.same s6
        have bG0 := b1.trans (Same.but (d := d) (S15.trans s6))
        generalize upd G pa (.lst [.ref a, vy]) = G6 at gp0 dG hy hx bG0
        refine ⟨.ref d, rfl, d, 2, rfl, dG, by decide, fun v2 H2 v20 v22 b2 d2 => ⟨rfl, _, rfl, ?_⟩⟩
        have gp := b2 _ _ pd gp0
        have hx := hx.but dG.lst b2
        have hy := hy.but dG.lst b2
        have bG := bG0.trans b2
        have dG := d2
        by_cases c2 : V.int v2 = V.int 0
        · refine (if_pos (decide_eq_true c2)).mpr ?_
          refine ⟨.ref pa, rfl, .inl ⟨rfl, _, SqL.of gp⟩, pa, _, rfl, rfl, gp, ?_⟩
          rw [show [V.ref a, vy].reverse = [vy, V.ref a] from rfl]
          have kp : ∀ b o, b ≠ pa → H2 b = some o → (upd H2 pa (.lst [vy, .ref a])) b = some o := fun b o n e => by rw [upd_ne n]; exact e
          have gp' : (upd H2 pa (.lst [vy, .ref a])) pa = some (.lst [vy, .ref a]) := upd_same
          have tk := TKp.lst (K := K) (o' := .lst [vy, .ref a]) gp
          have hx' := hy.map tk
          have hy' := hx.map tk
          have paH : H pa = none := by
            cases c : H pa with
            | none => rfl
            | some o =>
              have z := s5' _ _ (b1 _ _ pd c)
              rw [hpa] at z
              cases z
          have bG' : But d H (upd H2 pa (.lst [vy, .ref a])) := fun b o n e => kp b o (fun z => by rw [z, paH] at e; cases e) (bG b o n e)
          have dG' : Draws (upd H2 pa (.lst [vy, .ref a])) d := dG.but fun o e => kp d o pd.symm e
          clear kp tk gp hx hy bG dG bG0 gp0
          generalize upd H2 pa (.lst [vy, .ref a]) = G at gp' hx' hy' bG' dG'
          have gp := gp'
          have bG := bG'
          have dG := dG'
          obtain ⟨x, ex⟩ : ∃ z, z = y := ⟨_, rfl⟩
          obtain ⟨y2, ey⟩ : ∃ z, z = t := ⟨_, rfl⟩
          have fx : ∀ z ∈ fv x, z ∈ fv t := fun z hz => fy z (by rw [← ex]; exact hz)
          have xdep : x.depth ≤ t.depth + 1 := by rw [ex]; exact ydep
          rw [← ex] at hx'
          have hx := hx'
          have fy : ∀ z ∈ fv y2, z ∈ fv t := fun z hz => by rw [← ey]; exact hz
          have ydep : y2.depth ≤ t.depth + 1 := by rw [ey]; omega
          rw [← ey] at hy'
          have hy := hy'
          clear ex
          clear hx' hy'
          obtain ⟨vx, evx⟩ : ∃ z, z = vy := ⟨_, rfl⟩
          rw [← evx] at gp hx
          obtain ⟨vy, evy⟩ : ∃ z, z = V.ref a := ⟨_, rfl⟩
          rw [← evy] at gp hy
          obtain ⟨y, eyy⟩ : ∃ z, z = y2 := ⟨_, rfl⟩
          rw [← eyy] at hy fy ydep
          -- return (["and", "or"][..], pair[0], pair[1]); pair: pa, of x and y
          refine ⟨by show 2 ≤ sizeLine; decide, fun l hl => ?_⟩
          have sl := Same.new (o := .lst [.str "and", .str "or"]) hl
          have ldd := dG.ne hl
          have l8 := upd_same (H := G) (a := l) (o := .lst [.str "and", .str "or"])
          refine ⟨.ref d, rfl, d, 2, rfl, dG.same sl, by decide, fun v8 H8 v80 v82 b8 d8 => ?_⟩
          obtain ⟨bb, hbb⟩ := two_at (x := V.str "and") (y := V.str "or") v80 v82
          have BB := (Same.but (d := d) sl).trans b8
          refine ⟨l, _, _, _, rfl, rfl, SqL.of (b8 _ _ ldd l8), hbb, ?_⟩
          have pa8 := BB _ _ pd gp
          refine ⟨.ref pa, rfl, pa, _, 0, vx, rfl, rfl, SqL.of pa8, rfl, .ref pa, rfl, pa, _, 1, vy, rfl, rfl, SqL.of pa8, rfl, by show 3 ≤ sizeLine; decide, fun q hq => ?_⟩
          have sq := Same.new (o := .tup [if bb = true then V.str "and" else .str "or", vx, vy]) hq
          have B9 := bG.trans (BB.trans (Same.but sq))
          refine k (.ref q) (.two bb x y) _ B9 (d8.same sq) (.two ?_ ((hx.but dG.lst BB).same sq) ((hy.but dG.lst BB).same sq)) ⟨by show max x.depth y.depth + 1 ≤ _; omega, fun z hz => ?_⟩
          · have : hv (.two bb) ++ [vx, vy] = [if bb = true then V.str "and" else .str "or", vx, vy] := by cases bb <;> rfl
            rw [this]
            exact SqT.of upd_same
          · rcases List.mem_append.mp (show z ∈ fv x ++ fv y from hz) with hz | hz
            · exact fx z hz
            · exact fy z hz
        · refine (if_neg (by rw [decide_eq_false c2]; exact Bool.false_ne_true)).mpr ?_
          obtain ⟨vx, evx⟩ : ∃ z, z = V.ref a := ⟨_, rfl⟩
          rw [← evx] at gp hx
          obtain ⟨G, eG⟩ : ∃ z, z = H2 := ⟨_, rfl⟩
          subst eG
          obtain ⟨x, ex⟩ : ∃ z, z = t := ⟨_, rfl⟩
          have fx : ∀ z ∈ fv x, z ∈ fv t := fun z hz => by rw [← ex]; exact hz
          have xdep : x.depth ≤ t.depth + 1 := by rw [ex]; omega
          rw [← ex] at hx
          -- return (["and", "or"][..], pair[0], pair[1]); pair: pa, of x and y
          refine ⟨by show 2 ≤ sizeLine; decide, fun l hl => ?_⟩
          have sl := Same.new (o := .lst [.str "and", .str "or"]) hl
          have ldd := dG.ne hl
          have l8 := upd_same (H := G) (a := l) (o := .lst [.str "and", .str "or"])
          refine ⟨.ref d, rfl, d, 2, rfl, dG.same sl, by decide, fun v8 H8 v80 v82 b8 d8 => ?_⟩
          obtain ⟨bb, hbb⟩ := two_at (x := V.str "and") (y := V.str "or") v80 v82
          have BB := (Same.but (d := d) sl).trans b8
          refine ⟨l, _, _, _, rfl, rfl, SqL.of (b8 _ _ ldd l8), hbb, ?_⟩
          have pa8 := BB _ _ pd gp
          refine ⟨.ref pa, rfl, pa, _, 0, vx, rfl, rfl, SqL.of pa8, rfl, .ref pa, rfl, pa, _, 1, vy, rfl, rfl, SqL.of pa8, rfl, by show 3 ≤ sizeLine; decide, fun q hq => ?_⟩
          have sq := Same.new (o := .tup [if bb = true then V.str "and" else .str "or", vx, vy]) hq
          have B9 := bG.trans (BB.trans (Same.but sq))
          refine k (.ref q) (.two bb x y) _ B9 (d8.same sq) (.two ?_ ((hx.but dG.lst BB).same sq) ((hy.but dG.lst BB).same sq)) ⟨by show max x.depth y.depth + 1 ≤ _; omega, fun z hz => ?_⟩
          · have : hv (.two bb) ++ [vx, vy] = [if bb = true then V.str "and" else .str "or", vx, vy] := by cases bb <;> rfl
            rw [this]
            exact SqT.of upd_same
          · rcases List.mem_append.mp (show z ∈ fv x ++ fv y from hz) with hz | hz
            · exact fx z hz
            · exact fy z hz
      · refine ⟨.int ((m + 1 : Nat) : Int), rfl, _, _, rfl, rfl, _, rfl, (if_pos pos).mpr ?_⟩
        refine ⟨.ref a, rfl, a, _, _, _, rfl, rfl, sq, at0, by show 2 ≤ sizeLine; decide, fun p1 hp1 => ⟨p1, _, rfl, .inr (SqT.of upd_same), rfl, rfl, _, rfl, ?_⟩⟩
        have s1 := Same.new (o := .tup [.str "and", .str "or"]) hp1
        generalize upd H1 p1 (.tup [.str "and", .str "or"]) = H2 at s1
        rw [if_neg Bool.false_ne_true, in_and]
        have b2 := b1.trans (Same.but (d := d) s1)
        have d2 := d1.same s1
        have sq2 := SqT.same s1 sq
        have ak2 := ak.lk (LKp.same s1)
        clear s1 hp1
        cases hi : isTwo t.hd with
        | true =>
          obtain ⟨b, f1, f2, rfl⟩ : ∃ b f g, t = .two b f g := by
            cases t with
            | two b f g => exact ⟨b, f, g, rfl⟩
            | _ => cases hi
          refine iteT ?_
          cases ak2 with
          | cons hf akr =>
          cases akr with
          | cons hg akr =>
          cases akr
          rename_i vf vg
          have a1 : atI (hv (F.two b f1 f2).hd ++ [vf, vg]) 1 = some vf := rfl
          have a2 : atI (hv (F.two b f1 f2).hd ++ [vf, vg]) 2 = some vg := rfl
          refine ⟨.ref a, rfl, a, _, _, _, rfl, rfl, sq2, at0, ?_⟩
          refine ⟨.ref d, rfl, .ref a, rfl, a, _, 1, vf, rfl, rfl, sq2, a1, .int ((m + 1 : Nat) : Int), rfl, _, 1, rfl, rfl, d, vf, f1, by show [V.ref d, vf, V.int (((m + 1 : Nat) : Int) - 1)] ++ [] = _; rw [em]; rfl, d2, hf, fun v5 u5 H5 b5 d5 h5 q5 => ?_⟩
          have sq5 := SqT.but d2.lst b5 sq2
          have hg5 := hg.but d2.lst b5
          refine ⟨.ref d, rfl, .ref a, rfl, a, _, 2, vg, rfl, rfl, sq5, a2, .int ((m + 1 : Nat) : Int), rfl, _, 1, rfl, rfl, d, vg, f2, by show [V.ref d, vg, V.int (((m + 1 : Nat) : Int) - 1)] ++ [] = _; rw [em]; rfl, d5, hg5, fun v6 u6 H6 b6 d6 h6 q6 => ?_⟩
          refine ⟨by show 3 ≤ sizeLine; decide, fun q hq => ?_⟩
          have sn := Same.new (o := .tup [.str (hw (F.two b f1 f2).hd), v5, v6]) hq
          refine k (.ref q) (.two b u5 u6) _ (((b2.trans b5).trans b6).trans (Same.but sn)) (d6.same sn) (.two (SqT.of upd_same) ((h5.but d5.lst b6).same sn) (h6.same sn)) ⟨?_, fun z hz => ?_⟩
          · have := q5.dep
            have := q6.dep
            show max u5.depth u6.depth + 1 ≤ max f1.depth f2.depth + 1 + 2
            omega
          · rcases List.mem_append.mp (show z ∈ fv u5 ++ fv u6 from hz) with hz | hz
            · exact List.mem_append_left _ (q5.fr z hz)
            · exact List.mem_append_right _ (q6.fr z hz)
        | false =>
          refine iteF ?_
          refine ⟨.int ((m + 1 : Nat) : Int), rfl, _, _, rfl, rfl, _, rfl, (if_pos pos).mpr ?_⟩
          refine ⟨.ref a, rfl, a, _, _, _, rfl, rfl, sq2, at0, by show 4 ≤ sizeLine; decide, fun p1 hp1 => ⟨p1, _, rfl, .inr (SqT.of upd_same), rfl, rfl, _, rfl, ?_⟩⟩
          have s1 := Same.new (o := .tup [.str "some", .str "all", .str "least", .str "most"]) hp1
          generalize upd H2 p1 (.tup [.str "some", .str "all", .str "least", .str "most"]) = H3 at s1
          rw [if_neg Bool.false_ne_true, in_four']
          have b3 := b2.trans (Same.but (d := d) s1)
          have d3 := d2.same s1
          have sq3 := SqT.same s1 sq2
          have ak3 := ak2.lk (LKp.same s1)
          have ht3 := (ht.but hd.lst b3)
          cases hi2 : isOneH t.hd with
          | true =>
            obtain ⟨c, x, f1, rfl⟩ : ∃ c x f, t = .one c x f := by
              cases t with
              | one c x f => exact ⟨c, x, f, rfl⟩
              | _ => cases hi2
            refine iteT ?_
            cases ak3 with
            | cons hf akr =>
            cases akr
            rename_i vf
            have a1 : atI (hv (F.one c x f1).hd ++ [vf]) 1 = some (.int x) := rfl
            have a2 : atI (hv (F.one c x f1).hd ++ [vf]) 2 = some vf := rfl
            refine ⟨.ref a, rfl, a, _, _, _, rfl, rfl, sq3, at0, .ref a, rfl, a, _, 1, .int x, rfl, rfl, sq3, a1, ?_⟩
            refine ⟨.ref d, rfl, .ref a, rfl, a, _, 2, vf, rfl, rfl, sq3, a2, .int ((m + 1 : Nat) : Int), rfl, _, 1, rfl, rfl, d, vf, f1, by show [V.ref d, vf, V.int (((m + 1 : Nat) : Int) - 1)] ++ [] = _; rw [em]; rfl, d3, hf, fun v5 u5 H5 b5 d5 h5 q5 => ?_⟩
            refine ⟨by show 3 ≤ sizeLine; decide, fun q hq => ?_⟩
            have sn := Same.new (o := .tup [.str (hw (F.one c x f1).hd), .int x, v5]) hq
            refine k (.ref q) (.one c x u5) _ ((b3.trans b5).trans (Same.but sn)) (d5.same sn) (.one (SqT.of upd_same) (h5.same sn)) ⟨?_, fun z hz => ?_⟩
            · have := q5.dep
              show u5.depth + 1 ≤ f1.depth + 1 + 2
              omega
            · simp only [fv] at hz ⊢
              split at hz
              · rename_i hb
                rw [if_pos hb]
                have := List.mem_filter.mp hz
                exact List.mem_filter.mpr ⟨q5.fr z this.1, this.2⟩
              · rename_i hb
                rw [if_neg hb]
                exact q5.fr z hz
          | false =>
            refine iteF ?_
            exact ⟨.ref a, rfl, k (.ref a) t H3 b3 d3 ht3 ⟨Nat.le_add_right _ _, fun x hx => hx⟩⟩
theorem all_doubled {f : Addr} {fd : FuncData} (FF : Fun K "_law_doubled" "_law_doubled" s_law_doubled f fd) (b : Binds K fd a_law_doubled []) (m : mg "_law_doubled" = some (.ref f)) (T : Txt K mg C J B)
    (h_law_take : Has P w K mg base "_law_take" 1 a_law_take spTake) : ∀ n, Has P w K mg base "_law_doubled" (n + 2) a_law_doubled (spDb K n)
  | 0 => ⟨f, fd, m, FF.kp, b, noneOk⟩
  | n + 1 => ⟨f, fd, m, FF.kp, b, ok_law_doubled n FF T h_law_take (all_doubled FF b m T h_law_take n)⟩
end
end Fw

set_option maxRecDepth 100000
set_option maxHeartbeats 4000000
namespace Fw
open PySem PySem.Spec PyProof.Rows L2
section
variable {P : Program} {w : World} {K : PySem.W.Frag} {mg : Str → Option Value} {base : Heap} {C J B SC HC STP : Addr}
def spLaw (K : PySem.W.Frag) : Sp := fun vs H Q _ => ∃ (a : Addr) (ns : List Int), vs = [.ref a] ∧ SqL K H a (ns.map V.int) ∧ ns.length ≤ 63 ∧ ∀ H', Q (.bl true) H'
theorem ok_law {f : Addr} {fd : FuncData} (FF : Fun K "law" "law" s_law f fd) (T : Txt K mg C J B) (h_law_draws : Has P w K mg base "_law_draws" 1 a_law_draws (spDraws K)) (h_law_closed : Has P w K mg base "_law_closed" 7 a_law_closed (spClosed K 3))
    (h_law_doubled : Has P w K mg base "_law_doubled" 6 a_law_doubled (spDb K 4)) (h_law_world : Has P w K mg base "_law_world" 2 a_law_world spWorld) (h_law_short : Has P w K mg base "_law_short" 30 a_law_short (spSho K 7))
    (h_law_can_be_ruled : Has P w K mg base "_law_can_be_ruled" 30 a_law_can_be_ruled (spCan K 7)) (h_law_truth : Has P w K mg base "_law_truth" 23 a_law_truth (spTruth K))
    (h_is_plain : Has P w K mg base "is_plain" 5 a_is_plain (spPlain K)) (h_shortened : Has P w K mg base "shortened" 5 a_shortened (spShrt K)) : FnOk P w K mg base CX0 31 f fd a_law (spLaw K) := by
  refine FF.ok sc_law (fun vs H Q E h => ?_) (fun cdv A outer s H vs Q E hr h => ?_)
  · obtain ⟨a, ns, rfl, _⟩ := h
    rfl
  · obtain ⟨a, ns, rfl, hS, hlen, k⟩ := h
    refine ⟨_, (pss_cons (ps_set (i := 1) sc_law.nd rfl (.inl rfl) (pe_callH h_law_draws (hr.mono (by omega)) (pa_cons (pv 0) (pa_cons pe_int pa_nil))))
      (pss_cons (ps_set (i := 2) sc_law.nd rfl (.inl rfl) (pe_callH h_law_doubled (hr.mono (by omega)) (pa_cons (pv 1) (pa_cons (pe_callH h_law_closed (hr.mono (by omega)) (pa_cons (pv 1) (pa_cons pe_int pa_nil))) (pa_cons pe_int pa_nil)))))
      (pss_cons (ps_set (i := 3) sc_law.nd rfl (.inl rfl) (pe_callH h_law_world (hr.mono (by omega)) (pa_cons (pv 1) (pa_cons pe_int (pa_cons pe_int pa_nil)))))
      (pss_cons (ps_set (i := 4) sc_law.nd rfl (.inl rfl) (pe_callH h_law_short (hr.mono (by omega)) (pa_cons (pv 2) pa_nil)))
      (pss_cons (ps_if (pt_val (pe_callH h_law_can_be_ruled (hr.mono (by omega)) (pa_cons (pv 4) pa_nil))) (pss_one (ps_ret pe_bl)) pss_nil)
      (pss_cons (ps_set (i := 5) sc_law.nd rfl (.inl rfl) (pe_callH h_is_plain (hr.mono (by omega)) (pa_cons (pv 2) pa_nil)))
      (pss_cons (ps_if (PW.pt (pw_or (pt_not (pt_val (pe_callB call_isi rfl T.z_isinstance (by decide +kernel) (pa_cons (pv 5) (pa_cons (pe_bltn (v := .ty "bool") (u := .type "bool") rfl T.z_bool (by decide +kernel) rfl) pa_nil))))) (pw_or (pt_cmpR op_eq (pv 5) (pe_callH h_law_can_be_ruled (hr.mono (by omega)) (pa_cons (pv 2) pa_nil)) (nomark _)) (pw_or1 (pt_cmpR (op_neD hr.units) (pe_callH h_shortened (hr.mono (by omega)) (pa_cons (pv 2) pa_nil)) (pv 4) (nomark _)))))) (pss_one (ps_ret pe_bl)) pss_nil)
      (pss_one (ps_ret (pe_and (pe_callH h_is_plain (hr.mono (by omega)) (pa_cons (pv 4) pa_nil)) (pe_and (pe_cmpR (op_eqD hr.units) (pe_callH h_shortened (hr.mono (by omega)) (pa_cons (pv 4) pa_nil)) (pv 4) (nomark _)) (pe_one (pe_cmpR (op_eqD hr.units) (pe_callH h_law_truth (hr.mono (by omega)) (pa_cons (pv 3) (pa_cons (pv 4) pa_nil))) (pe_callH h_law_truth (hr.mono (by omega)) (pa_cons (pv 3) (pa_cons (pv 2) pa_nil))) (nomark _)))))))))))))), ?_⟩
    refine ⟨.ref a, rfl, a, ns, 400, rfl, hS, hlen, by decide, by decide, fun d H1 s1 hd0 d1 => ?_⟩
    refine ⟨.ref d, rfl, .ref d, rfl, d, rfl, d1, by decide, fun v0 t0 H2 b2 d2 ht0 g => ⟨d, v0, t0, rfl, d2, ht0, fun v t H3 b3 d3 ht q => ?_⟩⟩
    have hfv : fv t = [] := List.eq_nil_iff_forall_not_mem.mpr fun x hx => (g.fr x (q.fr x hx)).elim (fun z => by cases z) fun z => by cases z
    have dep : t.depth ≤ 6 := by
      have := g.dep
      have := q.dep
      omega
    have hsz : t.size ≤ 63 := by
      have := F.size_depth t
      have : 2 ^ t.depth ≤ 2 ^ 6 := Nat.pow_le_pow_right (by decide) dep
      omega
    clear g q ht0 b2 b3 d2 d1 s1 hd0
    refine ⟨.ref d, rfl, d, 4, 2, rfl, d3, by decide, by decide, by decide, by decide, fun wv W H4 b4 d4 hW fit => ?_⟩
    have ht4 := ht.but d3.lst b4
    clear ht b4 d3
    have ssz := size_sh t
    have sfv : fv (shF t) = [] := List.eq_nil_iff_forall_not_mem.mpr fun x hx => by
      have := fv_sh t x hx
      rw [hfv] at this
      cases this
    have sp := sh_plain t
    refine ⟨v, rfl, v, t, rfl, ht4, Nat.le_trans dep (by decide), by omega, by omega, fun dv H5 s5 hdv => ?_⟩
    refine ⟨dv, rfl, dv, shF t, rfl, hdv, Nat.le_trans ssz.2 (Nat.le_trans dep (by decide)), by omega, by omega, fun H6 s6 => ⟨_, rfl, ?_⟩⟩
    rw [sp]
    refine iteF ?_
    have s46 := s5.trans s6
    refine ⟨v, rfl, v, t, rfl, ht4.same s46, hsz, fun H7 s7 => ?_⟩
    have s47 := s46.trans s7
    refine ⟨_, rfl, .bl (!canB t), .ty "bool", .type "bool", .type "bool", true, rfl, .ty "bool", .base (.bl (!canB t)), kit_ty (by decide +kernel), true, rfl, iteF ?_⟩
    refine ⟨_, rfl, v, rfl, v, t, rfl, ht4.same s47, Nat.le_trans dep (by decide), by omega, by omega, fun H8 s8 => ⟨rfl, _, rfl, ?_⟩⟩
    refine (if_neg (by rw [decide_eq_false (by cases canB t <;> (intro z; cases z))]; exact Bool.false_ne_true)).mpr ?_
    have s48 := s47.trans s8
    refine ⟨v, rfl, v, t, rfl, ht4.same s48, hsz, fun v9 H9 s9 h9 => ?_⟩
    have s49 := s48.trans s9
    have s59 := s6.trans (s7.trans (s8.trans s9))
    refine ⟨dv, rfl, dF (shF t), dF (shF t), dp_F h9, dp_F (hdv.same s59), dF_shaped (by omega), dF_shaped (by omega), _, rfl, ?_⟩
    rw [dF_same]
    refine iteF ?_
    -- the end
    have hd9 := hdv.same s59
    refine ⟨dv, rfl, dv, shF t, rfl, hd9, by omega, fun H10 s10 => ⟨_, rfl, ?_⟩⟩
    rw [sp]
    refine iteT ?_
    refine ⟨dv, rfl, dv, shF t, rfl, hd9.same s10, by omega, fun v11 H11 s11 h11 => ?_⟩
    rw [plain_sh sp] at h11
    have hd11 := (hd9.same s10).same s11
    refine ⟨dv, rfl, dF (shF t), dF (shF t), dp_F h11, dp_F hd11, dF_shaped (by omega), dF_shaped (by omega), _, rfl, ?_⟩
    rw [dF_same]
    refine iteT ?_
    have s411 := s49.trans (s10.trans s11)
    refine ⟨wv, rfl, dv, rfl, wv, dv, W, shF t, fun _ => [], rfl, hW.same s411, fit, hd11, by omega, sfv, fun ta H12 s12 hta => ?_⟩
    have s412 := s411.trans s12
    refine ⟨wv, rfl, v, rfl, wv, v, W, t, fun _ => [], rfl, hW.same s412, fit, ht4.same s412, by omega, hfv, fun tb H13 s13 htb => ?_⟩
    rw [val_sh fit.good t (fun _ => []) fun _ => norm_nil _] at hta
    refine ⟨_, _, .lst (SqL.of (s13 _ _ hta)) (dp_ints _), .lst (SqL.of htb) (dp_ints _), ints_shaped _, ints_shaped _, ?_⟩
    rw [ints_same]
    exact k _
end
end Fw

set_option maxRecDepth 100000
set_option maxHeartbeats 4000000
namespace Fw
open PySem PySem.Spec PyProof.Rows L2
theorem exm_own {K : PySem.W.Frag} {S : Addr} (h1 : PySem.W.subIn K (.ref S) (.type "BaseException") = some true) (h2 : PySem.W.hasDictIn K S = true) (h3 : PySem.W.typeIn K (.ref S) = some (.type "type")) (h4 : PySem.W.subIn K (.ref S) (.ref S) = some true) :
    PySem.W.exmOne K (.ref S) (.ref S) = some true := PySem.W.exm_ref h1 h2 h3 h4
theorem pairK {K : PySem.W.Frag} {J : Addr} {d : Option Addr} {n : Nat} {sl : Array (Option Value)} {t1 t2 : Tok} {x y : Str} (l : K.lookup J = some ⟨.type "tuple", d, .seq #[.str x t1, .str y t2] n, sl⟩) (H : Hp) : SqT K H J [.str x, .str y] :=
  .inr ⟨_, #[.str x t1, .str y t2], n, l, rfl, rfl, by show 2 ≤ sizeLine; decide, .cons ⟨t1, rfl⟩ (.cons ⟨t2, rfl⟩ .nil)⟩
theorem pairI {K : PySem.W.Frag} {J : Addr} {d : Option Addr} {n : Nat} {sl : Array (Option Value)} {t1 t2 : Tok} {x : Str} {y : Int} (l : K.lookup J = some ⟨.type "tuple", d, .seq #[.str x t1, .int y t2] n, sl⟩) (H : Hp) : SqT K H J [.str x, .int y] :=
  .inr ⟨_, #[.str x t1, .int y t2], n, l, rfl, rfl, by show 2 ≤ sizeLine; decide, .cons ⟨t1, rfl⟩ (.cons ⟨t2, rfl⟩ .nil)⟩
theorem all_mk {P : Program} {w : World} {K : PySem.W.Frag} {h : Heap} {mg : Str → Option Value} {C_Shortener : Addr}
    {C_Shelf : Addr}
    {C_Part : Addr}
    {fa f0 f1 f2 f3 f4 f5 f6 f7 f8 f9 f10 f11 f12 f13 f14 f15 f16 f17 f18 f19 f20 f21 f22 f23 f24 f25 f26 f27 f28 f29 f30 f31 : Addr}
    {od0 an0 od1 an1 od2 an2 od3 an3 od4 an4 od5 an5 od6 an6 od7 an7 od8 an8 od9 an9 od10 an10 od11 an11 od12 an12 od13 an13 od14 an14 od15 an15 od16 an16 od17 an17 od18 an18 od19 an19 od20 an20 od21 an21 od22 an22 od23 an23 od24 an24 od25 an25 od26 an26 od27 an27 od28 an28 od29 an29 od30 an30 od31 an31 : Option Addr} {sl0 sl1 sl2 sl3 sl4 sl5 sl6 sl7 sl8 sl9 sl10 sl11 sl12 sl13 sl14 sl15 sl16 sl17 sl18 sl19 sl20 sl21 sl22 sl23 sl24 sl25 sl26 sl27 sl28 sl29 sl30 sl31 : Array (Option Value)} {oc0 kV0 dc0 pm0 cd0 ct0 oc1 kV1 dc1 pm1 cd1 ct1 oc2 kV2 dc2 pm2 cd2 ct2 oc3 kV3 dc3 pm3 cd3 ct3 oc4 kV4 dc4 pm4 cd4 ct4 oc5 kV5 dc5 pm5 cd5 ct5 oc6 kV6 dc6 pm6 cd6 ct6 oc7 kV7 dc7 pm7 cd7 ct7 oc8 kV8 dc8 pm8 cd8 ct8 oc9 kV9 dc9 pm9 cd9 ct9 oc10 kV10 dc10 pm10 cd10 ct10 oc11 kV11 dc11 pm11 cd11 ct11 oc12 kV12 dc12 pm12 cd12 ct12 oc13 kV13 dc13 pm13 cd13 ct13 oc14 kV14 dc14 pm14 cd14 ct14 oc15 kV15 dc15 pm15 cd15 ct15 oc16 kV16 dc16 pm16 cd16 ct16 oc17 kV17 dc17 pm17 cd17 ct17 oc18 kV18 dc18 pm18 cd18 ct18 oc19 kV19 dc19 pm19 cd19 ct19 oc20 kV20 dc20 pm20 cd20 ct20 oc21 kV21 dc21 pm21 cd21 ct21 oc22 kV22 dc22 pm22 cd22 ct22 oc23 kV23 dc23 pm23 cd23 ct23 oc24 kV24 dc24 pm24 cd24 ct24 oc25 kV25 dc25 pm25 cd25 ct25 oc26 kV26 dc26 pm26 cd26 ct26 oc27 kV27 dc27 pm27 cd27 ct27 oc28 kV28 dc28 pm28 cd28 ct28 oc29 kV29 dc29 pm29 cd29 ct29 oc30 kV30 dc30 pm30 cd30 ct30 oc31 kV31 dc31 pm31 cd31 ct31 : Value}
    {J_BINDERS : Addr} {dJ_BINDERS : Option Addr} {nJ_BINDERS : Nat} {sJ_BINDERS : Array (Option Value)} {t_BINDERS_0 t_BINDERS_1 : Tok}
    {J_JOINS : Addr} {dJ_JOINS : Option Addr} {nJ_JOINS : Nat} {sJ_JOINS : Array (Option Value)} {t_JOINS_0 t_JOINS_1 : Tok}
    {J_STEPPERS : Addr} {dJ_STEPPERS : Option Addr} {nJ_STEPPERS : Nat} {sJ_STEPPERS : Array (Option Value)} {t_STEPPERS_0 t_STEPPERS_1 : Tok}
    (X : K.In h) (G : h.Ns mainGlobals mg) (hfa : mg "law" = some (.ref fa))
    (aC_Part : PySem.W.nsIn K mainGlobals "Part" = some (some (.ref C_Part)))
    (aC_Shelf : PySem.W.nsIn K mainGlobals "Shelf" = some (some (.ref C_Shelf)))
    (aC_Shortener : PySem.W.nsIn K mainGlobals "Shortener" = some (some (.ref C_Shortener)))
    (a0 : PySem.W.nsIn K mainGlobals "_wall" = some (some (.ref f0)))
    (l0 : K.lookup f0 = some ⟨oc0, od0, .func (PySem.W.fnOf "_wall" "_wall" (defArgs s_wall) (defBody s_wall) (defScope s_wall) .none kV0 dc0 pm0 an0 cd0 ct0), sl0⟩)
    (c0 : PySem.W.codeIn K cd0 "_wall" = true)
    (k0 : PySem.W.keepIn K (.ref f0) = true)
    (a1 : PySem.W.findIn K (.ref C_Part) "__init__" = some (some (.ref f1)))
    (i1 : PySem.W.isFn K (.ref f1) = true)
    (l1 : K.lookup f1 = some ⟨oc1, od1, .func (PySem.W.fnOf "__init__" "Part.__init__" (defArgs s_Part_init) (defBody s_Part_init) (defScope s_Part_init) .none kV1 dc1 pm1 an1 cd1 ct1), sl1⟩)
    (c1 : PySem.W.codeIn K cd1 "Part.__init__" = true)
    (k1 : PySem.W.keepIn K (.ref f1) = true)
    (a2 : PySem.W.nsIn K mainGlobals "head_of" = some (some (.ref f2)))
    (l2 : K.lookup f2 = some ⟨oc2, od2, .func (PySem.W.fnOf "head_of" "head_of" (defArgs s_head_of) (defBody s_head_of) (defScope s_head_of) .none kV2 dc2 pm2 an2 cd2 ct2), sl2⟩)
    (c2 : PySem.W.codeIn K cd2 "head_of" = true)
    (k2 : PySem.W.keepIn K (.ref f2) = true)
    (a3 : PySem.W.nsIn K mainGlobals "parts_of" = some (some (.ref f3)))
    (l3 : K.lookup f3 = some ⟨oc3, od3, .func (PySem.W.fnOf "parts_of" "parts_of" (defArgs s_parts_of) (defBody s_parts_of) (defScope s_parts_of) .none kV3 dc3 pm3 an3 cd3 ct3), sl3⟩)
    (c3 : PySem.W.codeIn K cd3 "parts_of" = true)
    (k3 : PySem.W.keepIn K (.ref f3) = true)
    (a4 : PySem.W.findIn K (.ref C_Shelf) "__init__" = some (some (.ref f4)))
    (i4 : PySem.W.isFn K (.ref f4) = true)
    (l4 : K.lookup f4 = some ⟨oc4, od4, .func (PySem.W.fnOf "__init__" "Shelf.__init__" (defArgs s_Shelf_init) (defBody s_Shelf_init) (defScope s_Shelf_init) .none kV4 dc4 pm4 an4 cd4 ct4), sl4⟩)
    (c4 : PySem.W.codeIn K cd4 "Shelf.__init__" = true)
    (k4 : PySem.W.keepIn K (.ref f4) = true)
    (a5 : PySem.W.findIn K (.ref C_Shelf) "number" = some (some (.ref f5)))
    (i5 : PySem.W.isFn K (.ref f5) = true)
    (l5 : K.lookup f5 = some ⟨oc5, od5, .func (PySem.W.fnOf "number" "Shelf.number" (defArgs s_Shelf_number) (defBody s_Shelf_number) (defScope s_Shelf_number) .none kV5 dc5 pm5 an5 cd5 ct5), sl5⟩)
    (c5 : PySem.W.codeIn K cd5 "Shelf.number" = true)
    (k5 : PySem.W.keepIn K (.ref f5) = true)
    (a6 : PySem.W.findIn K (.ref C_Shelf) "_free_in" = some (some (.ref f6)))
    (i6 : PySem.W.isFn K (.ref f6) = true)
    (l6 : K.lookup f6 = some ⟨oc6, od6, .func (PySem.W.fnOf "_free_in" "Shelf._free_in" (defArgs s_Shelf__free_in) (defBody s_Shelf__free_in) (defScope s_Shelf__free_in) .none kV6 dc6 pm6 an6 cd6 ct6), sl6⟩)
    (c6 : PySem.W.codeIn K cd6 "Shelf._free_in" = true)
    (k6 : PySem.W.keepIn K (.ref f6) = true)
    (a7 : PySem.W.findIn K (.ref C_Shelf) "numbered" = some (some (.ref f7)))
    (i7 : PySem.W.isFn K (.ref f7) = true)
    (l7 : K.lookup f7 = some ⟨oc7, od7, .func (PySem.W.fnOf "numbered" "Shelf.numbered" (defArgs s_Shelf_numbered) (defBody s_Shelf_numbered) (defScope s_Shelf_numbered) .none kV7 dc7 pm7 an7 cd7 ct7), sl7⟩)
    (c7 : PySem.W.codeIn K cd7 "Shelf.numbered" = true)
    (k7 : PySem.W.keepIn K (.ref f7) = true)
    (a8 : PySem.W.findIn K (.ref C_Shelf) "unfolding" = some (some (.ref f8)))
    (i8 : PySem.W.isFn K (.ref f8) = true)
    (l8 : K.lookup f8 = some ⟨oc8, od8, .func (PySem.W.fnOf "unfolding" "Shelf.unfolding" (defArgs s_Shelf_unfolding) (defBody s_Shelf_unfolding) (defScope s_Shelf_unfolding) .none kV8 dc8 pm8 an8 cd8 ct8), sl8⟩)
    (c8 : PySem.W.codeIn K cd8 "Shelf.unfolding" = true)
    (k8 : PySem.W.keepIn K (.ref f8) = true)
    (a9 : PySem.W.findIn K (.ref C_Shelf) "_parts_with_free" = some (some (.ref f9)))
    (i9 : PySem.W.isFn K (.ref f9) = true)
    (l9 : K.lookup f9 = some ⟨oc9, od9, .func (PySem.W.fnOf "_parts_with_free" "Shelf._parts_with_free" (defArgs s_Shelf__parts_with_free) (defBody s_Shelf__parts_with_free) (defScope s_Shelf__parts_with_free) .none kV9 dc9 pm9 an9 cd9 ct9), sl9⟩)
    (c9 : PySem.W.codeIn K cd9 "Shelf._parts_with_free" = true)
    (k9 : PySem.W.keepIn K (.ref f9) = true)
    (a10 : PySem.W.findIn K (.ref C_Shortener) "__init__" = some (some (.ref f10)))
    (i10 : PySem.W.isFn K (.ref f10) = true)
    (l10 : K.lookup f10 = some ⟨oc10, od10, .func (PySem.W.fnOf "__init__" "Shortener.__init__" (defArgs s_Shortener_init) (defBody s_Shortener_init) (defScope s_Shortener_init) .none kV10 dc10 pm10 an10 cd10 ct10), sl10⟩)
    (c10 : PySem.W.codeIn K cd10 "Shortener.__init__" = true)
    (k10 : PySem.W.keepIn K (.ref f10) = true)
    (a11 : PySem.W.findIn K (.ref C_Shortener) "replaced" = some (some (.ref f11)))
    (i11 : PySem.W.isFn K (.ref f11) = true)
    (l11 : K.lookup f11 = some ⟨oc11, od11, .func (PySem.W.fnOf "replaced" "Shortener.replaced" (defArgs s_Shortener_replaced) (defBody s_Shortener_replaced) (defScope s_Shortener_replaced) .none kV11 dc11 pm11 an11 cd11 ct11), sl11⟩)
    (c11 : PySem.W.codeIn K cd11 "Shortener.replaced" = true)
    (k11 : PySem.W.keepIn K (.ref f11) = true)
    (a12 : PySem.W.findIn K (.ref C_Shortener) "_joined" = some (some (.ref f12)))
    (i12 : PySem.W.isFn K (.ref f12) = true)
    (l12 : K.lookup f12 = some ⟨oc12, od12, .func (PySem.W.fnOf "_joined" "Shortener._joined" (defArgs s_Shortener__joined) (defBody s_Shortener__joined) (defScope s_Shortener__joined) .none kV12 dc12 pm12 an12 cd12 ct12), sl12⟩)
    (c12 : PySem.W.codeIn K cd12 "Shortener._joined" = true)
    (k12 : PySem.W.keepIn K (.ref f12) = true)
    (a13 : PySem.W.findIn K (.ref C_Shortener) "_absorbs" = some (some (.ref f13)))
    (i13 : PySem.W.isFn K (.ref f13) = true)
    (l13 : K.lookup f13 = some ⟨oc13, od13, .func (PySem.W.fnOf "_absorbs" "Shortener._absorbs" (defArgs s_Shortener__absorbs) (defBody s_Shortener__absorbs) (defScope s_Shortener__absorbs) .none kV13 dc13 pm13 an13 cd13 ct13), sl13⟩)
    (c13 : PySem.W.codeIn K cd13 "Shortener._absorbs" = true)
    (k13 : PySem.W.keepIn K (.ref f13) = true)
    (a14 : PySem.W.nsIn K mainGlobals "is_plain" = some (some (.ref f14)))
    (l14 : K.lookup f14 = some ⟨oc14, od14, .func (PySem.W.fnOf "is_plain" "is_plain" (defArgs s_is_plain) (defBody s_is_plain) (defScope s_is_plain) .none kV14 dc14 pm14 an14 cd14 ct14), sl14⟩)
    (c14 : PySem.W.codeIn K cd14 "is_plain" = true)
    (k14 : PySem.W.keepIn K (.ref f14) = true)
    (a15 : PySem.W.nsIn K mainGlobals "shortened" = some (some (.ref f15)))
    (l15 : K.lookup f15 = some ⟨oc15, od15, .func (PySem.W.fnOf "shortened" "shortened" (defArgs s_shortened) (defBody s_shortened) (defScope s_shortened) .none kV15 dc15 pm15 an15 cd15 ct15), sl15⟩)
    (c15 : PySem.W.codeIn K cd15 "shortened" = true)
    (k15 : PySem.W.keepIn K (.ref f15) = true)
    (a16 : PySem.W.nsIn K mainGlobals "_law_draws" = some (some (.ref f16)))
    (l16 : K.lookup f16 = some ⟨oc16, od16, .func (PySem.W.fnOf "_law_draws" "_law_draws" (defArgs s_law_draws) (defBody s_law_draws) (defScope s_law_draws) .none kV16 dc16 pm16 an16 cd16 ct16), sl16⟩)
    (c16 : PySem.W.codeIn K cd16 "_law_draws" = true)
    (k16 : PySem.W.keepIn K (.ref f16) = true)
    (a17 : PySem.W.nsIn K mainGlobals "_law_take" = some (some (.ref f17)))
    (l17 : K.lookup f17 = some ⟨oc17, od17, .func (PySem.W.fnOf "_law_take" "_law_take" (defArgs s_law_take) (defBody s_law_take) (defScope s_law_take) .none kV17 dc17 pm17 an17 cd17 ct17), sl17⟩)
    (c17 : PySem.W.codeIn K cd17 "_law_take" = true)
    (k17 : PySem.W.keepIn K (.ref f17) = true)
    (a18 : PySem.W.nsIn K mainGlobals "_law_inner" = some (some (.ref f18)))
    (l18 : K.lookup f18 = some ⟨oc18, od18, .func (PySem.W.fnOf "_law_inner" "_law_inner" (defArgs s_law_inner) (defBody s_law_inner) (defScope s_law_inner) .none kV18 dc18 pm18 an18 cd18 ct18), sl18⟩)
    (c18 : PySem.W.codeIn K cd18 "_law_inner" = true)
    (k18 : PySem.W.keepIn K (.ref f18) = true)
    (a19 : PySem.W.nsIn K mainGlobals "_law_atom" = some (some (.ref f19)))
    (l19 : K.lookup f19 = some ⟨oc19, od19, .func (PySem.W.fnOf "_law_atom" "_law_atom" (defArgs s_law_atom) (defBody s_law_atom) (defScope s_law_atom) .none kV19 dc19 pm19 an19 cd19 ct19), sl19⟩)
    (c19 : PySem.W.codeIn K cd19 "_law_atom" = true)
    (k19 : PySem.W.keepIn K (.ref f19) = true)
    (a20 : PySem.W.nsIn K mainGlobals "_law_statement" = some (some (.ref f20)))
    (l20 : K.lookup f20 = some ⟨oc20, od20, .func (PySem.W.fnOf "_law_statement" "_law_statement" (defArgs s_law_statement) (defBody s_law_statement) (defScope s_law_statement) .none kV20 dc20 pm20 an20 cd20 ct20), sl20⟩)
    (c20 : PySem.W.codeIn K cd20 "_law_statement" = true)
    (k20 : PySem.W.keepIn K (.ref f20) = true)
    (a21 : PySem.W.nsIn K mainGlobals "_law_closed" = some (some (.ref f21)))
    (l21 : K.lookup f21 = some ⟨oc21, od21, .func (PySem.W.fnOf "_law_closed" "_law_closed" (defArgs s_law_closed) (defBody s_law_closed) (defScope s_law_closed) .none kV21 dc21 pm21 an21 cd21 ct21), sl21⟩)
    (c21 : PySem.W.codeIn K cd21 "_law_closed" = true)
    (k21 : PySem.W.keepIn K (.ref f21) = true)
    (a22 : PySem.W.nsIn K mainGlobals "_law_free" = some (some (.ref f22)))
    (l22 : K.lookup f22 = some ⟨oc22, od22, .func (PySem.W.fnOf "_law_free" "_law_free" (defArgs s_law_free) (defBody s_law_free) (defScope s_law_free) .none kV22 dc22 pm22 an22 cd22 ct22), sl22⟩)
    (c22 : PySem.W.codeIn K cd22 "_law_free" = true)
    (k22 : PySem.W.keepIn K (.ref f22) = true)
    (a23 : PySem.W.nsIn K mainGlobals "_law_world" = some (some (.ref f23)))
    (l23 : K.lookup f23 = some ⟨oc23, od23, .func (PySem.W.fnOf "_law_world" "_law_world" (defArgs s_law_world) (defBody s_law_world) (defScope s_law_world) .none kV23 dc23 pm23 an23 cd23 ct23), sl23⟩)
    (c23 : PySem.W.codeIn K cd23 "_law_world" = true)
    (k23 : PySem.W.keepIn K (.ref f23) = true)
    (a24 : PySem.W.nsIn K mainGlobals "_law_behind" = some (some (.ref f24)))
    (l24 : K.lookup f24 = some ⟨oc24, od24, .func (PySem.W.fnOf "_law_behind" "_law_behind" (defArgs s_law_behind) (defBody s_law_behind) (defScope s_law_behind) .none kV24 dc24 pm24 an24 cd24 ct24), sl24⟩)
    (c24 : PySem.W.codeIn K cd24 "_law_behind" = true)
    (k24 : PySem.W.keepIn K (.ref f24) = true)
    (a25 : PySem.W.nsIn K mainGlobals "_law_value" = some (some (.ref f25)))
    (l25 : K.lookup f25 = some ⟨oc25, od25, .func (PySem.W.fnOf "_law_value" "_law_value" (defArgs s_law_value) (defBody s_law_value) (defScope s_law_value) .none kV25 dc25 pm25 an25 cd25 ct25), sl25⟩)
    (c25 : PySem.W.codeIn K cd25 "_law_value" = true)
    (k25 : PySem.W.keepIn K (.ref f25) = true)
    (a26 : PySem.W.nsIn K mainGlobals "_law_truth" = some (some (.ref f26)))
    (l26 : K.lookup f26 = some ⟨oc26, od26, .func (PySem.W.fnOf "_law_truth" "_law_truth" (defArgs s_law_truth) (defBody s_law_truth) (defScope s_law_truth) .none kV26 dc26 pm26 an26 cd26 ct26), sl26⟩)
    (c26 : PySem.W.codeIn K cd26 "_law_truth" = true)
    (k26 : PySem.W.keepIn K (.ref f26) = true)
    (a27 : PySem.W.nsIn K mainGlobals "_law_ruled" = some (some (.ref f27)))
    (l27 : K.lookup f27 = some ⟨oc27, od27, .func (PySem.W.fnOf "_law_ruled" "_law_ruled" (defArgs s_law_ruled) (defBody s_law_ruled) (defScope s_law_ruled) .none kV27 dc27 pm27 an27 cd27 ct27), sl27⟩)
    (c27 : PySem.W.codeIn K cd27 "_law_ruled" = true)
    (k27 : PySem.W.keepIn K (.ref f27) = true)
    (a28 : PySem.W.nsIn K mainGlobals "_law_short" = some (some (.ref f28)))
    (l28 : K.lookup f28 = some ⟨oc28, od28, .func (PySem.W.fnOf "_law_short" "_law_short" (defArgs s_law_short) (defBody s_law_short) (defScope s_law_short) .none kV28 dc28 pm28 an28 cd28 ct28), sl28⟩)
    (c28 : PySem.W.codeIn K cd28 "_law_short" = true)
    (k28 : PySem.W.keepIn K (.ref f28) = true)
    (a29 : PySem.W.nsIn K mainGlobals "_law_can_be_ruled" = some (some (.ref f29)))
    (l29 : K.lookup f29 = some ⟨oc29, od29, .func (PySem.W.fnOf "_law_can_be_ruled" "_law_can_be_ruled" (defArgs s_law_can_be_ruled) (defBody s_law_can_be_ruled) (defScope s_law_can_be_ruled) .none kV29 dc29 pm29 an29 cd29 ct29), sl29⟩)
    (c29 : PySem.W.codeIn K cd29 "_law_can_be_ruled" = true)
    (k29 : PySem.W.keepIn K (.ref f29) = true)
    (a30 : PySem.W.nsIn K mainGlobals "_law_doubled" = some (some (.ref f30)))
    (l30 : K.lookup f30 = some ⟨oc30, od30, .func (PySem.W.fnOf "_law_doubled" "_law_doubled" (defArgs s_law_doubled) (defBody s_law_doubled) (defScope s_law_doubled) .none kV30 dc30 pm30 an30 cd30 ct30), sl30⟩)
    (c30 : PySem.W.codeIn K cd30 "_law_doubled" = true)
    (k30 : PySem.W.keepIn K (.ref f30) = true)
    (a31 : PySem.W.nsIn K mainGlobals "law" = some (some (.ref f31)))
    (l31 : K.lookup f31 = some ⟨oc31, od31, .func (PySem.W.fnOf "law" "law" (defArgs s_law) (defBody s_law) (defScope s_law) .none kV31 dc31 pm31 an31 cd31 ct31), sl31⟩)
    (c31 : PySem.W.codeIn K cd31 "law" = true)
    (k31 : PySem.W.keepIn K (.ref f31) = true)
    (pg_Part : PySem.W.plainGet K C_Part Str.empty = true)
    (hd_Part : PySem.W.hasDictIn K C_Part = true)
    (po_Part : PySem.W.plainOver K C_Part = true)
    (sa_Part : PySem.W.findIn K (.ref C_Part) "__setattr__" = some (some (.builtin "object.__setattr__")))
    (mk_Part : PySem.W.makesIn K C_Part = true)
    (kc_Part : PySem.W.keepIn K (.ref C_Part) = true)
    (n_Part_head : PySem.W.findIn K (.ref C_Part) "head" = some none)
    (n_Part_around : PySem.W.findIn K (.ref C_Part) "around" = some none)
    (n_Part_inner : PySem.W.findIn K (.ref C_Part) "inner" = some none)
    (pg_Shelf : PySem.W.plainGet K C_Shelf Str.empty = true)
    (hd_Shelf : PySem.W.hasDictIn K C_Shelf = true)
    (po_Shelf : PySem.W.plainOver K C_Shelf = true)
    (sa_Shelf : PySem.W.findIn K (.ref C_Shelf) "__setattr__" = some (some (.builtin "object.__setattr__")))
    (mk_Shelf : PySem.W.makesIn K C_Shelf = true)
    (kc_Shelf : PySem.W.keepIn K (.ref C_Shelf) = true)
    (n_Shelf_heads : PySem.W.findIn K (.ref C_Shelf) "heads" = some none)
    (n_Shelf_inner : PySem.W.findIn K (.ref C_Shelf) "inner" = some none)
    (n_Shelf_free : PySem.W.findIn K (.ref C_Shelf) "free" = some none)
    (n_Shelf_statements : PySem.W.findIn K (.ref C_Shelf) "statements" = some none)
    (n_Shelf__numbers : PySem.W.findIn K (.ref C_Shelf) "_numbers" = some none)
    (pg_Shortener : PySem.W.plainGet K C_Shortener Str.empty = true)
    (hd_Shortener : PySem.W.hasDictIn K C_Shortener = true)
    (po_Shortener : PySem.W.plainOver K C_Shortener = true)
    (sa_Shortener : PySem.W.findIn K (.ref C_Shortener) "__setattr__" = some (some (.builtin "object.__setattr__")))
    (mk_Shortener : PySem.W.makesIn K C_Shortener = true)
    (kc_Shortener : PySem.W.keepIn K (.ref C_Shortener) = true)
    (n_Shortener_shelf : PySem.W.findIn K (.ref C_Shortener) "shelf" = some none)
    (n_Shortener__neutral : PySem.W.findIn K (.ref C_Shortener) "_neutral" = some none)
    (n_Shortener__deciding : PySem.W.findIn K (.ref C_Shortener) "_deciding" = some none)
    (n_Shortener__kept : PySem.W.findIn K (.ref C_Shortener) "_kept" = some none)
    (z_all : PySem.W.nsIn K mainGlobals "all" = some none)
    (z_bool : PySem.W.nsIn K mainGlobals "bool" = some none)
    (z_int : PySem.W.nsIn K mainGlobals "int" = some none)
    (z_isinstance : PySem.W.nsIn K mainGlobals "isinstance" = some none)
    (z_len : PySem.W.nsIn K mainGlobals "len" = some none)
    (z_list : PySem.W.nsIn K mainGlobals "list" = some none)
    (z_range : PySem.W.nsIn K mainGlobals "range" = some none)
    (z_reversed : PySem.W.nsIn K mainGlobals "reversed" = some none)
    (z_set : PySem.W.nsIn K mainGlobals "set" = some none)
    (z_sorted : PySem.W.nsIn K mainGlobals "sorted" = some none)
    (z_tuple : PySem.W.nsIn K mainGlobals "tuple" = some none)
    (aJ_BINDERS : PySem.W.nsIn K mainGlobals "BINDERS" = some (some (.ref J_BINDERS)))
    (lJ_BINDERS : K.lookup J_BINDERS = some ⟨.type "tuple", dJ_BINDERS, .seq #[.str "least" t_BINDERS_0, .str "most" t_BINDERS_1] nJ_BINDERS, sJ_BINDERS⟩)
    (aJ_JOINS : PySem.W.nsIn K mainGlobals "JOINS" = some (some (.ref J_JOINS)))
    (lJ_JOINS : K.lookup J_JOINS = some ⟨.type "tuple", dJ_JOINS, .seq #[.str "and" t_JOINS_0, .str "or" t_JOINS_1] nJ_JOINS, sJ_JOINS⟩)
    (aJ_STEPPERS : PySem.W.nsIn K mainGlobals "STEPPERS" = some (some (.ref J_STEPPERS)))
    (lJ_STEPPERS : K.lookup J_STEPPERS = some ⟨.type "tuple", dJ_STEPPERS, .seq #[.str "some" t_STEPPERS_0, .str "all" t_STEPPERS_1] nJ_STEPPERS, sJ_STEPPERS⟩) :
    ∃ fd : FuncData, (∀ (s : Shared) (u : Value), BindsTo s fd ⟨[u], []⟩ [("script", u)]) ∧ ∀ base : Heap, K.In base → base.Ns mainGlobals mg → FnOk P w K mg base CX0 31 fa fd ["script"] (spLaw K) := by
  have e := hfa.symm.trans (PySem.W.mg_of X G a31)
  cases e
  have F_wall := fun_mk (st := s_wall) l0 c0 k0
  have b_wall := F_wall.binds (ps := a_wall) fun _ _ _ _ _ _ us hl => match us, hl with | [_], _ => rfl
  have m_wall := PySem.W.mg_of X G a0
  have F_Part_init := fun_mk (st := s_Part_init) l1 c1 k1
  have b_Part_init := F_Part_init.binds (ps := a_Part_init) fun _ _ _ _ _ _ us hl => match us, hl with | [_, _, _], _ => rfl
  have F_head_of := fun_mk (st := s_head_of) l2 c2 k2
  have b_head_of := F_head_of.binds (ps := a_head_of) fun _ _ _ _ _ _ us hl => match us, hl with | [_], _ => rfl
  have m_head_of := PySem.W.mg_of X G a2
  have F_parts_of := fun_mk (st := s_parts_of) l3 c3 k3
  have b_parts_of := F_parts_of.binds (ps := a_parts_of) fun _ _ _ _ _ _ us hl => match us, hl with | [_], _ => rfl
  have m_parts_of := PySem.W.mg_of X G a3
  have F_Shelf_init := fun_mk (st := s_Shelf_init) l4 c4 k4
  have b_Shelf_init := F_Shelf_init.binds (ps := a_Shelf_init) fun _ _ _ _ _ _ us hl => match us, hl with | [_], _ => rfl
  have F_Shelf_number := fun_mk (st := s_Shelf_number) l5 c5 k5
  have b_Shelf_number := F_Shelf_number.binds (ps := a_Shelf_number) fun _ _ _ _ _ _ us hl => match us, hl with | [_, _, _], _ => rfl
  have F_Shelf__free_in := fun_mk (st := s_Shelf__free_in) l6 c6 k6
  have b_Shelf__free_in := F_Shelf__free_in.binds (ps := a_Shelf__free_in) fun _ _ _ _ _ _ us hl => match us, hl with | [_, _, _], _ => rfl
  have F_Shelf_numbered := fun_mk (st := s_Shelf_numbered) l7 c7 k7
  have b_Shelf_numbered := F_Shelf_numbered.binds (ps := a_Shelf_numbered) fun _ _ _ _ _ _ us hl => match us, hl with | [_, _], _ => rfl
  have F_Shelf_unfolding := fun_mk (st := s_Shelf_unfolding) l8 c8 k8
  have b_Shelf_unfolding := F_Shelf_unfolding.binds (ps := a_Shelf_unfolding) fun _ _ _ _ _ _ us hl => match us, hl with | [_, _], _ => rfl
  have F_Shelf__parts_with_free := fun_mk (st := s_Shelf__parts_with_free) l9 c9 k9
  have b_Shelf__parts_with_free := F_Shelf__parts_with_free.binds (ps := a_Shelf__parts_with_free) fun _ _ _ _ _ _ us hl => match us, hl with | [_, _, _], _ => rfl
  have F_Shortener_init := fun_mk (st := s_Shortener_init) l10 c10 k10
  have b_Shortener_init := F_Shortener_init.binds (ps := a_Shortener_init) fun _ _ _ _ _ _ us hl => match us, hl with | [_], _ => rfl
  have F_Shortener_replaced := fun_mk (st := s_Shortener_replaced) l11 c11 k11
  have b_Shortener_replaced := F_Shortener_replaced.binds (ps := a_Shortener_replaced) fun _ _ _ _ _ _ us hl => match us, hl with | [_, _], _ => rfl
  have F_Shortener__joined := fun_mk (st := s_Shortener__joined) l12 c12 k12
  have b_Shortener__joined := F_Shortener__joined.binds (ps := a_Shortener__joined) fun _ _ _ _ _ _ us hl => match us, hl with | [_, _], _ => rfl
  have F_Shortener__absorbs := fun_mk (st := s_Shortener__absorbs) l13 c13 k13
  have b_Shortener__absorbs := F_Shortener__absorbs.binds (ps := a_Shortener__absorbs) fun _ _ _ _ _ _ us hl => match us, hl with | [_, _, _, _], _ => rfl
  have F_is_plain := fun_mk (st := s_is_plain) l14 c14 k14
  have b_is_plain := F_is_plain.binds (ps := a_is_plain) fun _ _ _ _ _ _ us hl => match us, hl with | [_], _ => rfl
  have m_is_plain := PySem.W.mg_of X G a14
  have F_shortened := fun_mk (st := s_shortened) l15 c15 k15
  have b_shortened := F_shortened.binds (ps := a_shortened) fun _ _ _ _ _ _ us hl => match us, hl with | [_], _ => rfl
  have m_shortened := PySem.W.mg_of X G a15
  have F_law_draws := fun_mk (st := s_law_draws) l16 c16 k16
  have b_law_draws := F_law_draws.binds (ps := a_law_draws) fun _ _ _ _ _ _ us hl => match us, hl with | [_, _], _ => rfl
  have m_law_draws := PySem.W.mg_of X G a16
  have F_law_take := fun_mk (st := s_law_take) l17 c17 k17
  have b_law_take := F_law_take.binds (ps := a_law_take) fun _ _ _ _ _ _ us hl => match us, hl with | [_, _], _ => rfl
  have m_law_take := PySem.W.mg_of X G a17
  have F_law_inner := fun_mk (st := s_law_inner) l18 c18 k18
  have b_law_inner := F_law_inner.binds (ps := a_law_inner) fun _ _ _ _ _ _ us hl => match us, hl with | [_], _ => rfl
  have m_law_inner := PySem.W.mg_of X G a18
  have F_law_atom := fun_mk (st := s_law_atom) l19 c19 k19
  have b_law_atom := F_law_atom.binds (ps := a_law_atom) fun _ _ _ _ _ _ us hl => match us, hl with | [_, _], _ => rfl
  have m_law_atom := PySem.W.mg_of X G a19
  have F_law_statement := fun_mk (st := s_law_statement) l20 c20 k20
  have b_law_statement := F_law_statement.binds (ps := a_law_statement) fun _ _ _ _ _ _ us hl => match us, hl with | [_, _, _, _, _], _ => rfl
  have m_law_statement := PySem.W.mg_of X G a20
  have F_law_closed := fun_mk (st := s_law_closed) l21 c21 k21
  have b_law_closed := F_law_closed.binds (ps := a_law_closed) fun _ _ _ _ _ _ us hl => match us, hl with | [_, _], _ => rfl
  have m_law_closed := PySem.W.mg_of X G a21
  have F_law_free := fun_mk (st := s_law_free) l22 c22 k22
  have b_law_free := F_law_free.binds (ps := a_law_free) fun _ _ _ _ _ _ us hl => match us, hl with | [_, _], _ => rfl
  have m_law_free := PySem.W.mg_of X G a22
  have F_law_world := fun_mk (st := s_law_world) l23 c23 k23
  have b_law_world := F_law_world.binds (ps := a_law_world) fun _ _ _ _ _ _ us hl => match us, hl with | [_, _, _], _ => rfl
  have m_law_world := PySem.W.mg_of X G a23
  have F_law_behind := fun_mk (st := s_law_behind) l24 c24 k24
  have b_law_behind := F_law_behind.binds (ps := a_law_behind) fun _ _ _ _ _ _ us hl => match us, hl with | [_, _, _], _ => rfl
  have m_law_behind := PySem.W.mg_of X G a24
  have F_law_value := fun_mk (st := s_law_value) l25 c25 k25
  have b_law_value := F_law_value.binds (ps := a_law_value) fun _ _ _ _ _ _ us hl => match us, hl with | [_, _, _], _ => rfl
  have m_law_value := PySem.W.mg_of X G a25
  have F_law_truth := fun_mk (st := s_law_truth) l26 c26 k26
  have b_law_truth := F_law_truth.binds (ps := a_law_truth) fun _ _ _ _ _ _ us hl => match us, hl with | [_, _], _ => rfl
  have m_law_truth := PySem.W.mg_of X G a26
  have F_law_ruled := fun_mk (st := s_law_ruled) l27 c27 k27
  have b_law_ruled := F_law_ruled.binds (ps := a_law_ruled) fun _ _ _ _ _ _ us hl => match us, hl with | [_], _ => rfl
  have m_law_ruled := PySem.W.mg_of X G a27
  have F_law_short := fun_mk (st := s_law_short) l28 c28 k28
  have b_law_short := F_law_short.binds (ps := a_law_short) fun _ _ _ _ _ _ us hl => match us, hl with | [_], _ => rfl
  have m_law_short := PySem.W.mg_of X G a28
  have F_law_can_be_ruled := fun_mk (st := s_law_can_be_ruled) l29 c29 k29
  have b_law_can_be_ruled := F_law_can_be_ruled.binds (ps := a_law_can_be_ruled) fun _ _ _ _ _ _ us hl => match us, hl with | [_], _ => rfl
  have m_law_can_be_ruled := PySem.W.mg_of X G a29
  have F_law_doubled := fun_mk (st := s_law_doubled) l30 c30 k30
  have b_law_doubled := F_law_doubled.binds (ps := a_law_doubled) fun _ _ _ _ _ _ us hl => match us, hl with | [_, _, _], _ => rfl
  have m_law_doubled := PySem.W.mg_of X G a30
  have F_law := fun_mk (st := s_law) l31 c31 k31
  have T : Txt K mg C_Part J_JOINS J_BINDERS := ⟨PySem.W.mg_none_of X G z_all, PySem.W.mg_none_of X G z_bool, PySem.W.mg_none_of X G z_int, PySem.W.mg_none_of X G z_isinstance, PySem.W.mg_none_of X G z_len, PySem.W.mg_none_of X G z_list, PySem.W.mg_none_of X G z_range, PySem.W.mg_none_of X G z_reversed, PySem.W.mg_none_of X G z_set, PySem.W.mg_none_of X G z_sorted, PySem.W.mg_none_of X G z_tuple, PySem.W.mg_of X G aJ_JOINS, pairK lJ_JOINS, PySem.W.mg_of X G aJ_BINDERS, pairK lJ_BINDERS, ⟨pg_Part, hd_Part, po_Part, sa_Part⟩, n_Part_head, n_Part_around, n_Part_inner⟩
  have TP : TxtP K mg J_STEPPERS := ⟨PySem.W.mg_of X G aJ_STEPPERS, pairK lJ_STEPPERS⟩
  have TS : TxtS K C_Shelf := ⟨⟨pg_Shelf, hd_Shelf, po_Shelf, sa_Shelf⟩, n_Shelf_heads, n_Shelf_inner, n_Shelf_free, n_Shelf_statements, n_Shelf__numbers⟩
  have TH : TxtH K C_Shortener := ⟨⟨pg_Shortener, hd_Shortener, po_Shortener, sa_Shortener⟩, n_Shortener_shelf, n_Shortener__neutral, n_Shortener__deciding, n_Shortener__kept⟩
  refine ⟨PySem.W.fnOf "law" "law" (defArgs s_law) (defBody s_law) (defScope s_law) .none kV31 dc31 pm31 an31 cd31 ct31, fun s u => .of_eq rfl, fun base _ _ => ?_⟩
  have h_Part : HasC P w K mg base "Part" C_Part 1 a_Part_init (spPart K C_Part) := ⟨_, _, PySem.W.mg_of X G aC_Part, ⟨mk_Part, a1, i1, kc_Part⟩, b_Part_init, ok_Part F_Part_init T⟩
  have h_head_of : Has P w K mg base "head_of" 1 a_head_of (spHead K) := ⟨_, _, m_head_of, F_head_of.kp, b_head_of, ok_head_of F_head_of T⟩
  have h_parts_of : Has P w K mg base "parts_of" 3 a_parts_of (spParts K C_Part) := ⟨_, _, m_parts_of, F_parts_of.kp, b_parts_of, ok_parts_of F_parts_of T h_head_of h_Part⟩
  have M_fi : Meth K C_Shelf "_free_in" f6 := ⟨a6, i6, k6⟩
  have M_nu : Meth K C_Shelf "number" f5 := ⟨a5, i5, k5⟩
  have M_nd : Meth K C_Shelf "numbered" f7 := ⟨a7, i7, k7⟩
  have M_re : Meth K C_Shortener "replaced" f11 := ⟨a11, i11, k11⟩
  have M_jo : Meth K C_Shortener "_joined" f12 := ⟨a12, i12, k12⟩
  have M_ab : Meth K C_Shortener "_absorbs" f13 := ⟨a13, i13, k13⟩
  have g_nu := ok_number (P := P) (w := w) (mg := mg) (base := base) F_Shelf_number T TS M_fi (ok_free_in F_Shelf__free_in T TS) b_Shelf__free_in
  have h_Shelf : HasC P w K mg base "Shelf" C_Shelf 1 a_Shelf_init (spShI P w K C_Shelf) := ⟨_, _, PySem.W.mg_of X G aC_Shelf, ⟨mk_Shelf, a4, i4, kc_Shelf⟩, b_Shelf_init, ok_Shelf_init F_Shelf_init T TS⟩
  have h_Shortener : HasC P w K mg base "Shortener" C_Shortener 3 a_Shortener_init (spHI P w K C_Shelf C_Shortener) := ⟨_, _, PySem.W.mg_of X G aC_Shortener, ⟨mk_Shortener, a10, i10, kc_Shortener⟩, b_Shortener_init, ok_Shortener_init F_Shortener_init T TS TH h_Shelf M_nu g_nu b_Shelf_number⟩
  have g_ab := ok_absorbs (P := P) (w := w) (mg := mg) (base := base) F_Shortener__absorbs T TS TH
  have g_jo := ok_joined (P := P) (w := w) (mg := mg) (base := base) F_Shortener__joined T TS TH M_ab g_ab b_Shortener__absorbs
  have g_re := ok_replaced (P := P) (w := w) (mg := mg) (base := base) F_Shortener_replaced T TS TH TP M_jo g_jo b_Shortener__joined
  have g_nd := ok_numbered (P := P) (w := w) (mg := mg) (base := base) F_Shelf_numbered T TS h_parts_of M_nu g_nu b_Shelf_number
  have h_short : Has P w K mg base "shortened" 5 a_shortened (spShrt K) := ⟨_, _, m_shortened, F_shortened.kp, b_shortened, ok_shortened F_shortened T TS TH h_parts_of h_Shortener M_nu g_nu b_Shelf_number M_re g_re b_Shortener_replaced⟩
  have h_plain : Has P w K mg base "is_plain" 5 a_is_plain (spPlain K) := ⟨_, _, m_is_plain, F_is_plain.kp, b_is_plain, ok_is_plain F_is_plain T TS TH h_Shortener M_nd g_nd b_Shelf_numbered M_re g_re b_Shortener_replaced⟩
  have h_draws : Has P w K mg base "_law_draws" 1 a_law_draws (spDraws K) := ⟨_, _, m_law_draws, F_law_draws.kp, b_law_draws, ok_law_draws F_law_draws T⟩
  have h_take : Has P w K mg base "_law_take" 1 a_law_take spTake := ⟨_, _, m_law_take, F_law_take.kp, b_law_take, ok_law_take F_law_take T⟩
  have h_inner : Has P w K mg base "_law_inner" 1 a_law_inner (spInner K) := ⟨_, _, m_law_inner, F_law_inner.kp, b_law_inner, ok_law_inner F_law_inner T⟩
  have h_atom : Has P w K mg base "_law_atom" 2 a_law_atom (spAtom K) := ⟨_, _, m_law_atom, F_law_atom.kp, b_law_atom, ok_law_atom F_law_atom T h_take⟩
  have h_closed : Has P w K mg base "_law_closed" 7 a_law_closed (spClosed K 3) := ⟨_, _, m_law_closed, F_law_closed.kp, b_law_closed, ok_law_closed 3 F_law_closed (all_statement F_law_statement b_law_statement m_law_statement T h_take h_atom 4)⟩
  have h_lfree := all_free (P := P) (w := w) (base := base) F_law_free b_law_free m_law_free T h_inner 20
  have h_world : Has P w K mg base "_law_world" 2 a_law_world spWorld := ⟨_, _, m_law_world, F_law_world.kp, b_law_world, ok_law_world F_law_world T h_take⟩
  have h_behind : Has P w K mg base "_law_behind" 1 a_law_behind (spBehind K) := ⟨_, _, m_law_behind, F_law_behind.kp, b_law_behind, ok_law_behind F_law_behind T⟩
  have h_value := all_value (P := P) (w := w) (base := base) F_law_value b_law_value m_law_value T h_behind 20
  have h_truth : Has P w K mg base "_law_truth" 23 a_law_truth (spTruth K) := ⟨_, _, m_law_truth, F_law_truth.kp, b_law_truth, ok_law_truth F_law_truth T h_value⟩
  have h_ruled : Has P w K mg base "_law_ruled" 22 a_law_ruled (spRul K) := ⟨_, _, m_law_ruled, F_law_ruled.kp, b_law_ruled, ok_law_ruled F_law_ruled T h_lfree⟩
  have h_lshort := all_short (P := P) (w := w) (base := base) F_law_short b_law_short m_law_short T h_ruled 7
  have h_can := all_can (P := P) (w := w) (base := base) F_law_can_be_ruled b_law_can_be_ruled m_law_can_be_ruled T h_ruled h_inner 7
  have h_dbl := all_doubled (P := P) (w := w) (base := base) F_law_doubled b_law_doubled m_law_doubled T h_take 4
  exact ok_law F_law T h_draws h_closed h_dbl h_world h_lshort h_can h_truth h_plain h_short
theorem walk {l : PySem.W.OpenLaw} {q : Program} {loose : List Str} {XP : (Str → Option Value) → Heap → Prop} {YP : World → Heap → Prop} {d : DefRec} {K : Params → PySem.W.Frag} (hn : l.most = some 63) (hdf : d.params.defaults = [])
    (hY : ∀ (w : World) (h : Heap), YP w h → (K w.params).In h)
    (F : ∀ (w : World) (mg : Str → Option Value) (fa : Addr) (h : Heap), (K w.params).In h → h.Ns mainGlobals mg → mg d.name = some (.ref fa) →
      ∃ fd : FuncData, (∀ (s : Shared) (u : Value), BindsTo s fd ⟨[u], []⟩ [("script", u)]) ∧ ∀ base : Heap, (K w.params).In base → base.Ns mainGlobals mg → FnOk l.prog w (K w.params) mg base CX0 31 fa fd ["script"] (spLaw (K w.params))) :
    PySem.W.WalkO q loose XP YP l.row.toRowW d [] (fun f vs => PySem.call f vs) :=
  L2.walk_of (n := 63) (k := 31) (x := "script") (CX := fun _ => CX0) (sp := fun w => spLaw (K w.params)) hn (by decide) hdf ⟨rfl, by decide, by decide⟩ hY F (fun _ _ a ns hl _ hS => ⟨a, ns, rfl, hS, hl, fun _ => rfl⟩) fun _ _ _ _ _ z => z
end Fw

set_option maxRecDepth 100000
open PySem PySem.W PyProof.Rows
set_option maxHeartbeats 0 in
theorem PySem.Challenge.cw_fixworlds_k30_shorter_holds : PySem.Challenge.rw_fixworlds_k30_shorter.Holds := by
  w_on; o_law; k_head; (case hw => w_witness2)
  k_fill
  refine Fw.walk (l := PySem.Challenge.rw_fixworlds_k30_shorter) rfl rfl (fun w h Y => PySem.W.kIn_of Y) ?F
  case F =>
    intro w mg fa h KX G hmg
    refine' Fw.all_mk KX G hmg ?aC_Part ?aC_Shelf ?aC_Shortener ?a0 ?l0 ?c0 ?k0 ?a1 ?i1 ?l1 ?c1 ?k1 ?a2 ?l2 ?c2 ?k2 ?a3 ?l3 ?c3 ?k3 ?a4 ?i4 ?l4 ?c4 ?k4 ?a5 ?i5 ?l5 ?c5 ?k5 ?a6 ?i6 ?l6 ?c6 ?k6 ?a7 ?i7 ?l7 ?c7 ?k7 ?a8 ?i8 ?l8 ?c8 ?k8 ?a9 ?i9 ?l9 ?c9 ?k9 ?a10 ?i10 ?l10 ?c10 ?k10 ?a11 ?i11 ?l11 ?c11 ?k11 ?a12 ?i12 ?l12 ?c12 ?k12 ?a13 ?i13 ?l13 ?c13 ?k13 ?a14 ?l14 ?c14 ?k14 ?a15 ?l15 ?c15 ?k15 ?a16 ?l16 ?c16 ?k16 ?a17 ?l17 ?c17 ?k17 ?a18 ?l18 ?c18 ?k18 ?a19 ?l19 ?c19 ?k19 ?a20 ?l20 ?c20 ?k20 ?a21 ?l21 ?c21 ?k21 ?a22 ?l22 ?c22 ?k22 ?a23 ?l23 ?c23 ?k23 ?a24 ?l24 ?c24 ?k24 ?a25 ?l25 ?c25 ?k25 ?a26 ?l26 ?c26 ?k26 ?a27 ?l27 ?c27 ?k27 ?a28 ?l28 ?c28 ?k28 ?a29 ?l29 ?c29 ?k29 ?a30 ?l30 ?c30 ?k30 ?a31 ?l31 ?c31 ?k31 ?pg_Part ?hd_Part ?po_Part ?sa_Part ?mk_Part ?kc_Part ?n_Part_head ?n_Part_around ?n_Part_inner ?pg_Shelf ?hd_Shelf ?po_Shelf ?sa_Shelf ?mk_Shelf ?kc_Shelf ?n_Shelf_heads ?n_Shelf_inner ?n_Shelf_free ?n_Shelf_statements ?n_Shelf__numbers ?pg_Shortener ?hd_Shortener ?po_Shortener ?sa_Shortener ?mk_Shortener ?kc_Shortener ?n_Shortener_shelf ?n_Shortener__neutral ?n_Shortener__deciding ?n_Shortener__kept ?z_all ?z_bool ?z_int ?z_isinstance ?z_len ?z_list ?z_range ?z_reversed ?z_set ?z_sorted ?z_tuple ?aJ_BINDERS ?lJ_BINDERS ?aJ_JOINS ?lJ_JOINS ?aJ_STEPPERS ?lJ_STEPPERS
    (case aC_Part => k_is)
    (case aC_Shelf => k_is)
    (case aC_Shortener => k_is)
    (case a0 => k_is)
    (case l0 => k_is)
    (case c0 => k_is)
    (case k0 => k_is)
    (case a1 => k_is)
    (case i1 => k_is)
    (case l1 => k_is)
    (case c1 => k_is)
    (case k1 => k_is)
    (case a2 => k_is)
    (case l2 => k_is)
    (case c2 => k_is)
    (case k2 => k_is)
    (case a3 => k_is)
    (case l3 => k_is)
    (case c3 => k_is)
    (case k3 => k_is)
    (case a4 => k_is)
    (case i4 => k_is)
    (case l4 => k_is)
    (case c4 => k_is)
    (case k4 => k_is)
    (case a5 => k_is)
    (case i5 => k_is)
    (case l5 => k_is)
    (case c5 => k_is)
    (case k5 => k_is)
    (case a6 => k_is)
    (case i6 => k_is)
    (case l6 => k_is)
    (case c6 => k_is)
    (case k6 => k_is)
    (case a7 => k_is)
    (case i7 => k_is)
    (case l7 => k_is)
    (case c7 => k_is)
    (case k7 => k_is)
    (case a8 => k_is)
    (case i8 => k_is)
    (case l8 => k_is)
    (case c8 => k_is)
    (case k8 => k_is)
    (case a9 => k_is)
    (case i9 => k_is)
    (case l9 => k_is)
    (case c9 => k_is)
    (case k9 => k_is)
    (case a10 => k_is)
    (case i10 => k_is)
    (case l10 => k_is)
    (case c10 => k_is)
    (case k10 => k_is)
    (case a11 => k_is)
    (case i11 => k_is)
    (case l11 => k_is)
    (case c11 => k_is)
    (case k11 => k_is)
    (case a12 => k_is)
    (case i12 => k_is)
    (case l12 => k_is)
    (case c12 => k_is)
    (case k12 => k_is)
    (case a13 => k_is)
    (case i13 => k_is)
    (case l13 => k_is)
    (case c13 => k_is)
    (case k13 => k_is)
    (case a14 => k_is)
    (case l14 => k_is)
    (case c14 => k_is)
    (case k14 => k_is)
    (case a15 => k_is)
    (case l15 => k_is)
    (case c15 => k_is)
    (case k15 => k_is)
    (case a16 => k_is)
    (case l16 => k_is)
    (case c16 => k_is)
    (case k16 => k_is)
    (case a17 => k_is)
    (case l17 => k_is)
    (case c17 => k_is)
    (case k17 => k_is)
    (case a18 => k_is)
    (case l18 => k_is)
    (case c18 => k_is)
    (case k18 => k_is)
    (case a19 => k_is)
    (case l19 => k_is)
    (case c19 => k_is)
    (case k19 => k_is)
    (case a20 => k_is)
    (case l20 => k_is)
    (case c20 => k_is)
    (case k20 => k_is)
    (case a21 => k_is)
    (case l21 => k_is)
    (case c21 => k_is)
    (case k21 => k_is)
    (case a22 => k_is)
    (case l22 => k_is)
    (case c22 => k_is)
    (case k22 => k_is)
    (case a23 => k_is)
    (case l23 => k_is)
    (case c23 => k_is)
    (case k23 => k_is)
    (case a24 => k_is)
    (case l24 => k_is)
    (case c24 => k_is)
    (case k24 => k_is)
    (case a25 => k_is)
    (case l25 => k_is)
    (case c25 => k_is)
    (case k25 => k_is)
    (case a26 => k_is)
    (case l26 => k_is)
    (case c26 => k_is)
    (case k26 => k_is)
    (case a27 => k_is)
    (case l27 => k_is)
    (case c27 => k_is)
    (case k27 => k_is)
    (case a28 => k_is)
    (case l28 => k_is)
    (case c28 => k_is)
    (case k28 => k_is)
    (case a29 => k_is)
    (case l29 => k_is)
    (case c29 => k_is)
    (case k29 => k_is)
    (case a30 => k_is)
    (case l30 => k_is)
    (case c30 => k_is)
    (case k30 => k_is)
    (case a31 => k_is)
    (case l31 => k_is)
    (case c31 => k_is)
    (case k31 => k_is)
    (case pg_Part => k_is)
    (case hd_Part => k_is)
    (case po_Part => k_is)
    (case sa_Part => k_is)
    (case mk_Part => k_is)
    (case kc_Part => k_is)
    (case n_Part_head => k_is)
    (case n_Part_around => k_is)
    (case n_Part_inner => k_is)
    (case pg_Shelf => k_is)
    (case hd_Shelf => k_is)
    (case po_Shelf => k_is)
    (case sa_Shelf => k_is)
    (case mk_Shelf => k_is)
    (case kc_Shelf => k_is)
    (case n_Shelf_heads => k_is)
    (case n_Shelf_inner => k_is)
    (case n_Shelf_free => k_is)
    (case n_Shelf_statements => k_is)
    (case n_Shelf__numbers => k_is)
    (case pg_Shortener => k_is)
    (case hd_Shortener => k_is)
    (case po_Shortener => k_is)
    (case sa_Shortener => k_is)
    (case mk_Shortener => k_is)
    (case kc_Shortener => k_is)
    (case n_Shortener_shelf => k_is)
    (case n_Shortener__neutral => k_is)
    (case n_Shortener__deciding => k_is)
    (case n_Shortener__kept => k_is)
    (case z_all => k_is)
    (case z_bool => k_is)
    (case z_int => k_is)
    (case z_isinstance => k_is)
    (case z_len => k_is)
    (case z_list => k_is)
    (case z_range => k_is)
    (case z_reversed => k_is)
    (case z_set => k_is)
    (case z_sorted => k_is)
    (case z_tuple => k_is)
    (case aJ_BINDERS => k_is)
    (case lJ_BINDERS => k_is)
    (case aJ_JOINS => k_is)
    (case lJ_JOINS => k_is)
    (case aJ_STEPPERS => k_is)
    (case lJ_STEPPERS => k_is)

