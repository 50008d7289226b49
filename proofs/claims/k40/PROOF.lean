import PyProof.Rows.All
import Wide.All
import OpenK.AllK
import Wide.FinOn
import PyProof.EqAt
import PyProof.EqKinds
import PyProof.TupleCall
import HandS.ForMost
import HandS.ForExc
import HandS.Strs
import HandS.SetFor
import HandS.SetBool
import HandS.Walk
import HandS.TupAny
import HandS.Rev
import HandS.RevRange
import HandS.IsInst
import HandS.SortInts
import HandS.ExcIs
import HandS.Flow
import HandS.AnyAll
import HandS.Zip
import PyProof.GenCompD
import HandS.SetKeys
import HandS.SortRule
import PyProof.DictMoreH
import PySem.Challenge.RW_fixworlds_k40_again
import HandS.More
set_option Elab.async false
set_option linter.all false
set_option maxRecDepth 100000
set_option maxHeartbeats 4000000
/-! two rules for sets of ints: made of a list, and by a comprehension -/
namespace Fw
open PySem PySem.Spec PyProof.Rows L2
abbrev freshSet (w : World) : Obj :=
  { cls := .type "set", dict := none, data := .set #[] 0 (.fresh 0 0 (!w.params.followText "set-order")) }
section
variable {P : Program} {w : World} {A : Around} {E : Value → Shared → Prop} {s : Shared}
/-- set(xs), xs a list of ints -/
theorem setOfList {l : Addr} {its : Array Value} (ns : List Int) {Q : Value → Shared → Prop}
    (quiet : A.handled = none) (lst : s.heap.IsList l its) (iv : IntsAre its.toList ns) (few : ns.length + 1 < scanBound)
    (next : ∀ (h' : Heap) (tk c : Nat), SetR w h' s.heap.objs.size (fun j => decide (j ∈ ns)) c → c ≤ ns.length →
      (∀ b o, s.heap.get? b = some o → h'.get? b = some o) → Q (.ref s.heap.objs.size) { s with heap := h', toks := tk }) :
    wpAny (model P w) A (call (.type "set") [.ref l]) Q E s := by
  have many : its.size = ns.length := by
    rw [← Array.length_toList]
    exact IntsAre.length iv
  have f1 := F.called_set.mro
  obtain ⟨c, tl, hmro⟩ := f1
  have f2 := F.called_set.made
  have f3 := F.called_set.sub
  refine wpAny_call (codeAny_of_tree ?_)
  show wpAny _ _ (callAny (.type "set") _) _ _ _
  refine wpAny_pure ⟨Code.quiet_builtin _ (by decide +kernel), codeAny_builtin F.entry_type_call ?_⟩
  rw [Around.under_plain (weight_type_call_type "set" [.ref l] []) rfl]
  have f4 := F.called_set.notType
  have f5 := F.called_set.canCreate
  have f6 := F.typeCall_set_1 (.ref l)
  repeat (any_goals (first | assumption | wp_step))
  generalize hN : s.heap.objs.size = N
  refine codeAny_mono (code_set_led1 (.ref l) (E := E)
    (Q₁ := fun v t => v = .ref N ∧ t = { s with heap := s.heap.push (freshSet w) }) ⟨by rw [hN], rfl⟩) fun r s₁ hr => ?_
  rcases r with e | fl
  · exact hr
  · cases fl
    case ret v =>
      obtain ⟨rfl, rfl⟩ := hr
      have got : (s.heap.push (freshSet w)).get? N = some (freshSet w) := by
        rw [← hN]
        exact Heap.get?_push_size _ rfl
      have ty : Shared.TypeIs { s with heap := s.heap.push (freshSet w) } (.ref N) "set" := ⟨_, got, rfl⟩
      have g1 := F.called_set.init.lookup
      have g2 := F.called_set.init.bind (.ref N)
      repeat (any_goals (first | assumption | wp_step))
      refine codeAny_mono (codeAny_call_builtin (R := wants (fun v t => v = .none ∧ ∃ h' tk c, t = { s with heap := h', toks := tk } ∧
          SetR w h' N (fun j => decide (j ∈ ns)) c ∧ c ≤ ns.length ∧ (∀ b o, s.heap.get? b = some o → h'.get? b = some o)) E)
          F.called_set.init.plain F.entry_set_init (check_set_init_1 ty ?_)) fun r₂ s₂ hr₂ => ?_
      · obtain ⟨ol, hol, hcl, nl, hdl⟩ := lst
        obtain ⟨ocls, odict, odata, oslots⟩ := ol
        simp only at hcl hdl
        subst hcl
        subst hdl
        have hol' : (s.heap.push (freshSet w)).get? l = some { cls := .type "list", dict := odict, data := .seq its nl, slots := oslots } :=
          Heap.get?_push_of_some _ hol
        have k1 := F.sub_list_set
        have k2 := F.sub_list_frozenset
        have k3 : (Value.type "list" == Value.type "dict") = false := by decide
        have lst1 : (s.heap.push (freshSet w)).IsList l its := ⟨_, hol', rfl, nl, rfl⟩
        unfold Builtin.«set.__init__» noKeywords Builtin.Frozenset.updateFrom
        generalize hPI : pyIter = PI
        wp_walk
        subst hPI
        refine wpAny_pyIter_list lst1 (wpAny_bind (wpAny_runValue ?_))
        have lN : l < N := by
          rw [← hN]
          exact Heap.lt_size hol
        have quiet3 : A.in1.in1.in1.handled = none := by simp [quiet]
        have size1 : (s.heap.push (freshSet w)).objs.size = N + 1 := by rw [Heap.size_push, hN]
        have l1 : l ≠ (s.heap.push (freshSet w)).objs.size := by
          rw [size1]
          exact Nat.ne_of_lt (Nat.lt_succ_of_lt lN)
        have n1 : N ∉ [(s.heap.push (freshSet w)).objs.size, l] := by
          rw [size1]
          simp only [List.mem_cons, List.not_mem_nil, or_false, not_or]
          exact ⟨Nat.ne_of_lt (Nat.lt_succ_self _), Nat.ne_of_gt lN⟩
        refine set_update_ints ((Walks.list quiet3 _ l l1 its).toS) N n1 ns many few (fun i v hv => ?_) (its.size - 0) 0 _ (by omega) (Nat.zero_le _)
          ⟨⟨_, Heap.get?_push_size _ rfl, rfl, rfl⟩, lst1.push _⟩ ⟨0, Nat.le_refl 0, setR_new_at (Heap.get?_push_of_some _ got)⟩ fun s' c' hm hc' hS' => ?_
        · have hi : i < ns.length := by
            rw [← many]
            exact (Array.getElem?_eq_some_iff.mp hv).1
          obtain ⟨t, e⟩ := PyProof.Rows.IntsAre.int_at iv i v (by rw [Array.getElem?_toList]; exact hv)
          refine ⟨ns[i], t, List.getElem?_eq_getElem hi, ?_⟩
          rw [e, List.getD_eq_getElem?_getD, List.getElem?_eq_getElem hi]
          rfl
        · obtain ⟨h', g2, d', tk', os'⟩ := s'
          obtain rfl : g2 = s.gens := hm.gens
          obtain rfl : d' = s.drawn := hm.drawn
          obtain rfl : os' = s.os := hm.os
          show wpAny _ _ _ _ _ _
          refine wpAny_pure ?_
          show wpAny _ _ (ret Value.none) _ _ _
          rw [many] at hc'
          refine wpAny_pure ⟨rfl, h', tk', c', rfl, hS', hc', fun b o e => ?_⟩
          have bN : b < N := by
            rw [← hN]
            exact Heap.lt_size e
          refine hm.heap b o ?_ (Heap.get?_push_of_some _ (Heap.get?_push_of_some _ e))
          rw [size1]
          simp only [List.mem_cons, List.not_mem_nil, or_false, not_or]
          exact ⟨Nat.ne_of_lt bN, Nat.ne_of_lt (Nat.lt_succ_of_lt bN)⟩
      · rcases r₂ with e | fl₂
        · exact hr₂
        · cases fl₂
          case ret r =>
            obtain ⟨rfl, h', tk, c', rfl, hS', hc', hk'⟩ := hr₂
            repeat (any_goals (first | assumption | wp_step))
            subst hN
            exact next _ _ _ hS' hc' hk'
          all_goals exact hr₂.elim
    all_goals exact hr.elim
end
end Fw

set_option maxRecDepth 100000
set_option maxHeartbeats 4000000
namespace Fw
open PySem PySem.Spec PyProof.Rows L2
theorem intsOfVals : ∀ {ns : List Int} {us : List Value}, Vals (ns.map V.int) us → IntsAre us ns
  | [], _, .nil => .nil
  | k :: _, _, .cons r t => by
    obtain ⟨tk, rfl⟩ := r
    exact .cons k tk (intsOfVals t)
theorem nodup_le : ∀ {l Vs : List Int}, l.Nodup → (∀ x ∈ l, x ∈ Vs) → l.length ≤ Vs.length
  | [], Vs, _, _ => Nat.zero_le _
  | a :: l, Vs, nd, h => by
    have nd' := List.nodup_cons.mp nd
    have ha := h a List.mem_cons_self
    have ih := nodup_le (Vs := Vs.erase a) nd'.2 fun x hx =>
      (List.mem_erase_of_ne (fun e => nd'.1 (by rw [← e]; exact hx))).mpr (h x (List.mem_cons_of_mem _ hx))
    have := List.length_erase_of_mem ha
    have : 0 < Vs.length := List.length_pos_of_mem ha
    rw [List.length_cons]
    omega
section
variable {X : Cx}
/-- set(xs), xs a list of ints -/
def rSetL (K : PySem.W.Frag) (w : World) : List V → Hp → VK → Prop := fun vs H Q => ∃ (l : Addr) (ns : List Int),
  vs = [V.ref l] ∧ SqL K H l (ns.map V.int) ∧ ns.length ≤ 4000 ∧
  ∀ p c, H p = none → c ≤ ns.length → (∀ Vs : List Int, (∀ x ∈ ns, x ∈ Vs) → c ≤ Vs.length) → Q (.ref p) (upd H p (SetO w p (fun j => decide (j ∈ ns)) c))
theorem call_setL (quiet : X.calm = true) : CallR X (.type "set") (rSetL X.K X.w) := by
  intro pins s σ H vs us Q I r h
  obtain ⟨l, ns, rfl, hl, few, q⟩ := h
  obtain ⟨its, rv, pl, _⟩ := I.list hl
  rw [Vals.ref1 r]
  have iv := intsOfVals rv
  have isl : s.heap.IsList l its.toArray := by
    obtain ⟨o, n, e1, e2, e3, e4⟩ := pl
    exact ⟨o, e1, e2, n, e4⟩
  refine setOfList ns (I.ok.hd quiet) isl (by simpa using iv) (Nat.lt_of_le_of_lt (Nat.succ_le_succ few) (by decide)) fun h' tk c R hc kp => ?_
  have fr : H s.heap.objs.size = none := I.hok.fresh (Nat.le_refl _)
  refine ⟨.ref _, _, I.laid (t' := tk) kp (Nat.le_refl _) (setO_new R), rfl, q _ c fr hc fun Vs hV => ?_⟩
  obtain ⟨o, es, ep, t, _, _, _, _, nd, mem, _, _, size, _⟩ := R
  rw [← size, ← Array.length_toList, ← List.length_map (f := keyOf)]
  exact nodup_le nd fun x hx => hV x (of_decide_eq_true ((mem x).mpr hx))
/-- what a comprehension of ints into a set asks: W tells the turns, D is the new set -/
def tSci (w : World) (wi : TI) (g : TG) (tt : TT) (te : TE) (vs : List Nat) : TE := fun σ H Q => wi σ H fun J H1 => ∀ D, H1 D = none →
  ∃ W : Nat → Nat → Hp → Prop, (∃ m, W 0 m (upd H1 D (SetO w D (fun _ => false) 0))) ∧ ∀ i m H, W i m H →
    (J.stop i H ∧ Q (.ref D) H) ∨ (J.go i H ∧ ∃ Nx : Hp → Prop, (∀ H', Nx H' → ∃ m', m' < m ∧ W (i + 1) m' H') ∧
      ∀ x H', J.yld i H x H' → g x (wipe σ vs) H' fun σ2 H2 => wipe σ2 vs = wipe σ vs ∧ tt σ2 H2 fun b H3 =>
        if b = true then te σ2 H3 fun y H4 => ∃ (k : Int) (S : Int → Bool) (n : Nat), y = .int k ∧ H4 D = some (SetO w D S n) ∧ n + 1 < scanBound ∧
          Nx (upd H4 D (SetO w D (fun j => S j || decide (j = k)) (if S k = true then n else n + 1))) else Nx H3)
theorem addInt {pins : List (Addr × Obj)} {σ : L2.St} {H : Hp} {s : Shared} {E : Value → Shared → Prop} {D : Addr} {S : Int → Bool} {n : Nat} {k : Int} {tk : Tok} {Q : Value → Shared → Prop}
    (I : Inv X pins σ H s) (at_ : H D = some (SetO X.w D S n)) (room : n + 1 < scanBound)
    (next : ∀ s', Inv X pins σ (upd H D (SetO X.w D (fun j => S j || decide (j = k)) (if S k = true then n else n + 1))) s' → Q .none s') :
    wpAny (model X.prog X.w) X.A (call (.builtin "set.add") [.ref D, .int k tk]) Q E s := by
  refine setR_add (setO_get I at_) room fun h' sb R => next _ ?_
  have there : ∃ u, h'.get? D = some u := by
    obtain ⟨o, _, _, _, e, _⟩ := id R
    exact ⟨o, e⟩
  exact I.write (e := D) (t' := s.toks + 1) (by rw [at_]; trivial) (.inl rfl) (fun b u hb hu => (sb.2 b hb).trans hu) there (setO_new R)
abbrev inner (X : Cx) (s : Shared) (scope : Scope) : Env :=
  compEnvC scope (cellsFrom (s.heap.objs.size + 1) scope.names (cloFrom X.env.cells scope.names [])) s.heap.objs.size X.env
theorem setComp {pins : List (Addr × Obj)} {s : Shared} {σ : L2.St} {H : Hp} {Q : VK} {elt tg iter : Expr} {ifs : List Expr} {scope : Scope} {own : List (PySem.Str × Nat)} {pos pos' : Pos} {wi : TI} {g : TG} {tt : TT} {te : TE}
    {use : Option (Value → Sem Unit)} {Qf : Value → Shared → Prop}
    (quiet : X.calm = true) (nd : X.N.Nodup) (I : Inv X pins σ H s) (ii : PI X tg iter wi) (blk : BlkOk X.N X.env.scope scope own)
    (gg : ∀ s H C cl fp, PG (X.blk s H scope (compEnvC scope cl C X.env) fp) tg g)
    (tts : ∀ s H C cl fp, PTs (X.blk s H scope (compEnvC scope cl C X.env) fp) ifs tt)
    (ee : ∀ s H C cl fp, PE (X.blk s H scope (compEnvC scope cl C X.env) fp) elt te)
    (fold : ∀ x, foldedSetIterable iter X.env x = pure x) (h : tSci X.w wi g tt te (own.map (·.2)) σ H Q)
    (fin : ∀ D C s' m H', Inv X pins σ H' s' → Q (.ref D) H' → s'.heap.Ns C m → FpOk X pins H' C →
      compPost (model X.prog X.w) X.A X.xe use Qf (.ref D) C (.ok .next) s') :
    wpAny (model X.prog X.w) X.A (comprehension (.SetComp elt [⟨tg, iter, ifs, 0⟩] scope pos) scope X.env pos' (newSet (.type "set")) false (eval iter X.env) use) Qf X.xe s := by
  have clo : ∀ y ∈ scope.names, y.2 = .free → ∃ c, X.env.cells.lookup y.1 = some c := fun y hy e =>
    (blk.free y hy e).elim (fun k => I.ok.has _ (.inl k)) fun k => I.ok.has _ (.inr k)
  refine wpAny_comprehension_free (use := use) rfl fold (closure_ok clo) blk.kind (fun y hy e => by rw [blk.uniq y hy, e])
    (thn (ii.run pins s σ H _ I h) fun xv s1 hx => thn hx fun itv s2 h2 => ?_)
  obtain ⟨it, fp, tn, J, H2, rfl, I2, T, t0, fp2, q⟩ := h2
  refine PpSet.newSet_ok (newEnv_comp ?_)
  generalize eD : s2.heap.objs.size = D
  obtain ⟨W, ⟨m0, w0⟩, turn⟩ := q D (I2.hok.fresh (Nat.le_of_eq eD))
  generalize e3 : ({ s2 with heap := s2.heap.push (freshSet X.w) } : Shared) = s3
  have heap3 : s3.heap = s2.heap.push (freshSet X.w) := by rw [← e3]
  have up3 : ∀ b o, s2.heap.get? b = some o → s3.heap.get? b = some o := fun b o e => by
    rw [heap3]
    exact Heap.get?_push_of_some _ e
  generalize eH : upd H2 D (SetO X.w D (fun _ => false) 0) = H3 at w0
  have I3 : Inv X pins σ H3 s3 := by
    rw [← eH, ← e3, ← eD]
    exact I2.laid (t' := s2.toks) (fun b o e => Heap.get?_push_of_some _ e) (Nat.le_refl _) (setO_new (setR_fresh X.w))
  have fp3 : ∀ b ∈ fp, FpOk X pins H3 b ∧ b < s3.heap.objs.size := fun b hb => by
    obtain ⟨o, e, _⟩ := T.obj _ _ t0 b hb
    have lt := Heap.lt_size e
    refine ⟨⟨?_, (fp2 b hb).2⟩, ?_⟩
    · rw [← eH, upd_ne (show b ≠ D by rw [← eD]; exact Nat.ne_of_lt lt)]
      exact (fp2 b hb).1
    · rw [heap3, Heap.size_push]
      exact Nat.lt_succ_of_lt lt
  have t3 : tn 0 s3.heap := T.keep _ _ _ t0 fun b _ o e => up3 b o e
  have I4 := block_start I3 blk nd fp3
  have g4 := gg s3 H3 s3.heap.objs.size (cellsFrom (s3.heap.objs.size + 1) scope.names (cloFrom X.env.cells scope.names [])) fp
  have t4 := tts s3 H3 s3.heap.objs.size (cellsFrom (s3.heap.objs.size + 1) scope.names (cloFrom X.env.cells scope.names [])) fp
  have e4 := ee s3 H3 s3.heap.objs.size (cellsFrom (s3.heap.objs.size + 1) scope.names (cloFrom X.env.cells scope.names [])) fp
  show codeAny _ _ (.compStart (.SetComp elt [⟨tg, iter, ifs, 0⟩] scope pos) 0 (.ref it) (.ref D)
      (compEnvC scope (cellsFrom (s3.heap.objs.size + 1) scope.names (cloFrom X.env.cells scope.names [])) s3.heap.objs.size X.env))
    (compPost (model X.prog X.w) X.A X.xe use Qf (.ref D) s3.heap.objs.size) { s3 with heap := pushCells (s3.heap.push { cls := .type "dict", data := .dict #[] }) scope.names }
  generalize eC : compEnvC scope (cellsFrom (s3.heap.objs.size + 1) scope.names (cloFrom X.env.cells scope.names [])) s3.heap.objs.size X.env = ce at I4 g4 t4 e4 ⊢
  have locs : ce.locals = s3.heap.objs.size := by
    subst eC
    rfl
  generalize eS : ({ s3 with heap := pushCells (s3.heap.push { cls := .type "dict", data := .dict #[] }) scope.names } : Shared) = s4 at I4 ⊢
  have ts4 : tn 0 s4.heap := T.keep _ _ _ t3 fun b _ o e => by
    rw [← eS]
    exact pushCells_keeps _ _ _ _ (Heap.get?_push_of_some _ e)
  have held : ∀ {σ' : L2.St} {H' : Hp} {s' : Shared}, Inv (X.blk s3 H3 scope ce fp) [] σ' H' s' → (∀ b ∈ fp, H' b = none) →
      ∀ b ∈ fp, FpOk (X.blk s3 H3 scope ce fp) [] H' b := fun {σ' H' s'} I' hn b hb =>
    have x := I'.ok.exf b hb
    ⟨hn b hb, x.1, I'.ok.exfs b hb, .inl hb, fun y c e => x.2 y c e, fun p hp => by cases hp⟩
  have body : codeAny (model X.prog X.w) X.A (.compLoop (.SetComp elt [⟨tg, iter, ifs, 0⟩] scope pos) 0 (.ref it) (.ref D) ce)
      (compPost (model X.prog X.w) X.A X.xe use Qf (.ref D) s3.heap.objs.size) s4 := by
    refine PpSet.compLoopS_any (fun n t => ∃ i G, Inv (X.blk s3 H3 scope ce fp) [] (wipe σ (own.map (·.2))) G t ∧ tn i t.heap ∧ (∀ b ∈ fp, G b = none) ∧ W i n G)
      ?_ m0 ⟨0, H3, I4, ts4, fun b hb => (fp3 b hb).1.1, w0⟩
    rintro n s5 ⟨i, H5, I5, t5, free5, w5⟩
    rcases turn i n H5 w5 with ⟨stop, qq⟩ | ⟨go, Nx, dec, step⟩
    · refine thnF (T.done (X.blk s3 H3 scope ce fp) rfl rfl rfl quiet i [] s5 _ H5 (fun _ _ => False) I5 (held I5 free5) t5 stop) fun r s6 ⟨hr, I6⟩ => ?_
      subst hr
      have free6 : H5 ce.locals = none := I6.free
      obtain ⟨m, ns6, _⟩ := I6.loc
      have ns6' : s6.heap.Ns ce.locals m := ns6
      rw [locs] at free6 ns6'
      have I7 : Inv X pins σ H5 s6 := I3.call' (ch := fp) I6.os I6.base I6.hok I6.bare fun b hb =>
        have z := (fp3 b hb).1
        ⟨z.2.2.2.1, z.2.1, z.2.2.2.2.1, z.2.2.2.2.2⟩
      exact fin D s3.heap.objs.size s6 m H5 I7 qq ns6' (I3.fpOk (Nat.le_refl _) free6)
    · refine thnF (T.item (X.blk s3 H3 scope ce fp) rfl rfl rfl quiet i [] s5 _ H5 (fun _ _ => False) I5 (held I5 free5) t5 go) fun r s6 ⟨u, hr, h6⟩ => ?_
      subst hr
      refine thnF h6 fun _ s7 ⟨x, H7, I7, rx, y7, t7, free7⟩ => ?_
      refine thnF (g4.run _ s7 _ H7 x u _ (I7.pinned (held I7 free7) (T.obj _ _ t7)) rx (step x H7 y7)) fun _ s8 ⟨σ8, H8, I8, wi8, q8⟩ => ?_
      refine thnF (t4.run _ s8 σ8 H8 _ I8 q8) fun b s9 ⟨H9, I9, q9⟩ => ?_
      have over : ∀ {t : Shared} {G : Hp}, Inv (X.blk s3 H3 scope ce fp) ([] ++ pinsAt fp s7.heap) σ8 G t → Nx G →
          ∃ m, m < n ∧ ∃ i G, Inv (X.blk s3 H3 scope ce fp) [] (wipe σ (own.map (·.2))) G t ∧ tn i t.heap ∧ (∀ b ∈ fp, G b = none) ∧ W i m G := fun {t G} It nx => by
        obtain ⟨m', lt, w'⟩ := dec G nx
        have same : ∀ b ∈ fp, ∀ o, s7.heap.get? b = some o → t.heap.get? b = some o ∧ G b = none := fun b hb o e =>
          have z := It.pin (b, o) (List.mem_append_right _ (List.mem_append_right _ (mem_pinsAt hb e)))
          ⟨z.1, z.2.1⟩
        refine ⟨m', lt, i + 1, G, (It.unpinned (pins := [])).weak (by rw [← wi8, wipe_length]) (fun j v e => ?_), T.keep _ _ _ t7 fun b hb o e => (same b hb o e).1, fun b hb => ?_, w'⟩
        · rw [← wi8] at e
          exact (wipe_some e).1
        · obtain ⟨o, e, _⟩ := T.obj _ _ t7 b hb
          exact (same b hb o e).2
      cases b
      · simp only [Bool.false_eq_true, if_false] at q9 ⊢
        exact over I9 q9
      · simp only [if_true] at q9 ⊢
        refine thnF (e4.run _ s9 σ8 H9 _ I9 q9) fun z s10 ⟨yv, H10, I10, rz, k, S0, n0, ey, hD, room, nx⟩ => ?_
        subst ey
        obtain ⟨tk, rfl⟩ : ∃ tk, z = Value.int k tk := rz
        exact addInt (X := X.blk s3 H3 scope ce fp) I10 hD room fun s11 I11 => over I11 nx
  exact PpSet.codeAny_compStart_set body (T.self X.A 0 _ _ _ ts4 body)
/-- {e for target in iter if test}, e an int -/
theorem pe_sci {elt tg iter : Expr} {ifs : List Expr} {scope : Scope} {own : List (PySem.Str × Nat)} {pos : Pos} {wi : TI} {g : TG} {tt : TT} {te : TE} (quiet : X.calm = true) (nd : X.N.Nodup) (ii : PI X tg iter wi) (blk : BlkOk X.N X.env.scope scope own)
    (gg : ∀ (s : Shared) (H : Hp) (C : Addr) (cl : List (PySem.Str × Addr)) (fp : List Addr), PG (X.blk s H scope (compEnvC scope cl C X.env) fp) tg g)
    (tts : ∀ (s : Shared) (H : Hp) (C : Addr) (cl : List (PySem.Str × Addr)) (fp : List Addr), PTs (X.blk s H scope (compEnvC scope cl C X.env) fp) ifs tt)
    (ee : ∀ (s : Shared) (H : Hp) (C : Addr) (cl : List (PySem.Str × Addr)) (fp : List Addr), PE (X.blk s H scope (compEnvC scope cl C X.env) fp) elt te)
    (fold : ∀ x, foldedSetIterable iter X.env x = pure x := by intro _; rfl) :
    PE X (.SetComp elt [⟨tg, iter, ifs, 0⟩] scope pos) (tSci X.w wi g tt te (own.map (·.2))) := by
  constructor
  intro pins s σ H Q I h
  rw [PpSet.eval_SetComp]
  refine setComp quiet nd I ii blk gg tts ee fold h fun D C s' m H' I' q hn f => ⟨m, hn, fun h'' sb => ⟨.ref D, H', ?_, rfl, q⟩⟩
  exact I'.turned (t' := s'.toks) (fun b o hb e => (sb.2 b hb).trans e) f.1 f.2.1 f.2.2.2.1 f.2.2.2.2.1 f.2.2.2.2.2
end
/-- over any walk: Pv by the turn and the heap -/
theorem sci_it {J : It} {n : Nat} {G : Hp → Prop} {Y : Nat → Hp → V → Hp → Prop} (w : Walk J n G Y) {wd : World} {g : TG} {tt : TT} {te : TE} {vs : List Nat} {σ : L2.St} {H1 : Hp} {D : Addr} {Qd : Hp → Prop} (Pv : Nat → Hp → Prop)
    (h0 : Pv 0 (upd H1 D (SetO wd D (fun _ => false) 0))) (hG : ∀ i H, i ≤ n → Pv i H → G H)
    (hs : ∀ i x H H', i < n → Pv i H → Y i H x H' → g x (wipe σ vs) H' fun σ2 H2 => wipe σ2 vs = wipe σ vs ∧ tt σ2 H2 fun b H3 =>
      if b = true then te σ2 H3 fun y H4 => ∃ (k : Int) (S : Int → Bool) (m : Nat), y = .int k ∧ H4 D = some (SetO wd D S m) ∧ m + 1 < scanBound ∧
        Pv (i + 1) (upd H4 D (SetO wd D (fun j => S j || decide (j = k)) (if S k = true then m else m + 1))) else Pv (i + 1) H3) (hd : ∀ H, Pv n H → Qd H) :
    ∃ W : Nat → Nat → Hp → Prop, (∃ m, W 0 m (upd H1 D (SetO wd D (fun _ => false) 0))) ∧ ∀ i m H, W i m H →
      (J.stop i H ∧ Qd H) ∨ (J.go i H ∧ ∃ Nx : Hp → Prop, (∀ H', Nx H' → ∃ m', m' < m ∧ W (i + 1) m' H') ∧ ∀ x H', J.yld i H x H' → g x (wipe σ vs) H' fun σ2 H2 => wipe σ2 vs = wipe σ vs ∧ tt σ2 H2 fun b H3 =>
        if b = true then te σ2 H3 fun y H4 => ∃ (k : Int) (S : Int → Bool) (m : Nat), y = .int k ∧ H4 D = some (SetO wd D S m) ∧ m + 1 < scanBound ∧
          Nx (upd H4 D (SetO wd D (fun j => S j || decide (j = k)) (if S k = true then m else m + 1))) else Nx H3) := by
  refine ⟨fun i m H => m + i = n ∧ Pv i H, ⟨n, rfl, h0⟩, fun i m H hW => ?_⟩
  obtain ⟨e, p⟩ := hW
  have q := hG i H (by omega) p
  cases m with
  | zero =>
    have e2 : i = n := by omega
    subst e2
    exact .inl ⟨w.stops H q, hd H p⟩
  | succ m =>
    have lt : i < n := by omega
    exact .inr ⟨w.goes i H lt q, Pv (i + 1), fun H' p' => ⟨m, Nat.lt_succ_self m, by omega, p'⟩, fun x H' y => hs i x H H' lt p (w.yields i H x H' lt q y)⟩
end Fw

/-! Statements as trees, and what the passes over their parts find. Plain Lean. -/
namespace Fw
inductive Leaf | has | lacks | var
  deriving DecidableEq
inductive One | some | all | least | most
  deriving DecidableEq
def One.bind : One → Bool
  | .least => true
  | .most => true
  | _ => false
inductive F
  | nul (b : Bool)
  | leaf (k : Leaf) (n : Int)
  | two (b : Bool) (f g : F)
  | one (k : One) (n : Int) (f : F)
  deriving DecidableEq
inductive Hd
  | nul (b : Bool)
  | leaf (k : Leaf) (n : Int)
  | two (b : Bool)
  | one (k : One) (n : Int)
  deriving DecidableEq
def F.hd : F → Hd
  | .nul b => .nul b
  | .leaf k n => .leaf k n
  | .two b _ _ => .two b
  | .one k n _ => .one k n
def F.size : F → Nat
  | .nul _ => 1
  | .leaf _ _ => 1
  | .two _ f g => f.size + g.size + 1
  | .one _ _ f => f.size + 1
def F.depth : F → Nat
  | .nul _ => 1
  | .leaf _ _ => 1
  | .two _ f g => max f.depth g.depth + 1
  | .one _ _ f => f.depth + 1
theorem F.size_pos (t : F) : 0 < t.size := by cases t <;> simp [F.size]
theorem F.size_depth : ∀ t : F, t.size + 1 ≤ 2 ^ t.depth
  | .nul _ => by simp [F.size, F.depth]
  | .leaf _ _ => by simp [F.size, F.depth]
  | .two _ f g => by
    have h1 := F.size_depth f
    have h2 := F.size_depth g
    have m1 : 2 ^ f.depth ≤ 2 ^ max f.depth g.depth := Nat.pow_le_pow_right (by decide) (Nat.le_max_left _ _)
    have m2 : 2 ^ g.depth ≤ 2 ^ max f.depth g.depth := Nat.pow_le_pow_right (by decide) (Nat.le_max_right _ _)
    simp only [F.size, F.depth, Nat.pow_succ]
    omega
  | .one _ _ f => by
    have h1 := F.size_depth f
    have h2 := F.size_pos f
    simp only [F.size, F.depth, Nat.pow_succ]
    omega
abbrev Stk := List (Int × Nat)
structure Rec where
  sub : F
  aro : Int
  stk : Stk
def pushS : F → Nat → Stk → Stk
  | .one k n _, i, st => if k.bind then (n, i) :: st else st
  | _, _, st => st
def info : F → Int → Nat → Stk → List Rec
  | .nul b, a, _, st => [⟨.nul b, a, st⟩]
  | .leaf k n, a, _, st => [⟨.leaf k n, a, st⟩]
  | .two b f g, a, i, st => ⟨.two b f g, a, st⟩ :: (info f i (i + 1) st ++ info g i (i + 1 + f.size) st)
  | .one k n f, a, i, st => ⟨.one k n f, a, st⟩ :: info f i (i + 1) (if k.bind then (n, i) :: st else st)
theorem info_len : ∀ (t : F) (a : Int) (i : Nat) (st : Stk), (info t a i st).length = t.size
  | .nul _, _, _, _ => rfl
  | .leaf _ _, _, _, _ => rfl
  | .two _ f g, a, i, st => by simp [info, F.size, info_len f, info_len g]
  | .one k n f, a, i, st => by simp [info, F.size, info_len f]
theorem info_head : ∀ (t : F) (a : Int) (i : Nat) (st : Stk), (info t a i st)[0]? = some ⟨t, a, st⟩
  | .nul _, _, _, _ => rfl
  | .leaf _ _, _, _, _ => rfl
  | .two _ _ _, _, _, _ => rfl
  | .one _ _ _, _, _, _ => rfl
/-! ### a part's record and the one around it -/
theorem info_up : ∀ (t : F) (a : Int) (i : Nat) (st : Stk) (j : Nat) (r : Rec), (info t a i st)[j]? = some r →
    (j = 0 ∧ r = ⟨t, a, st⟩) ∨ ∃ p r', p < j ∧ (info t a i st)[p]? = some r' ∧ r.aro = ((i + p : Nat) : Int) ∧ r.stk = pushS r'.sub (i + p) r'.stk
  | .nul b, a, i, st, j, r, h => by
    cases j with
    | zero => exact .inl ⟨rfl, (Option.some.inj h).symm⟩
    | succ j => simp [info] at h
  | .leaf k n, a, i, st, j, r, h => by
    cases j with
    | zero => exact .inl ⟨rfl, (Option.some.inj h).symm⟩
    | succ j => simp [info] at h
  | .two b f g, a, i, st, j, r, h => by
    cases j with
    | zero => exact .inl ⟨rfl, (Option.some.inj h).symm⟩
    | succ j =>
      simp only [info, List.getElem?_cons_succ] at h
      by_cases lt : j < f.size
      · rw [List.getElem?_append_left (by rw [info_len]; exact lt)] at h
        rcases info_up f i (i + 1) st j r h with ⟨rfl, rfl⟩ | ⟨p, r', hp, e, e1, e2⟩
        · exact .inr ⟨0, ⟨.two b f g, a, st⟩, Nat.succ_pos _, rfl, by simp, rfl⟩
        · refine .inr ⟨p + 1, r', by omega, ?_, by rw [e1]; congr 1; omega, by rw [e2]; congr 1; omega⟩
          simp only [info, List.getElem?_cons_succ]
          rw [List.getElem?_append_left (by rw [info_len]; omega)]
          exact e
      · rw [List.getElem?_append_right (by rw [info_len]; omega), info_len] at h
        rcases info_up g i (i + 1 + f.size) st (j - f.size) r h with ⟨e0, rfl⟩ | ⟨p, r', hp, e, e1, e2⟩
        · exact .inr ⟨0, ⟨.two b f g, a, st⟩, Nat.succ_pos _, rfl, by simp, rfl⟩
        · refine .inr ⟨p + f.size + 1, r', by omega, ?_, by rw [e1]; congr 1; omega, by rw [e2]; congr 1; omega⟩
          simp only [info, List.getElem?_cons_succ]
          rw [List.getElem?_append_right (by rw [info_len]; omega), info_len, show p + f.size - f.size = p by omega]
          exact e
  | .one k n f, a, i, st, j, r, h => by
    cases j with
    | zero => exact .inl ⟨rfl, (Option.some.inj h).symm⟩
    | succ j =>
      simp only [info, List.getElem?_cons_succ] at h
      rcases info_up f i (i + 1) _ j r h with ⟨rfl, rfl⟩ | ⟨p, r', hp, e, e1, e2⟩
      · exact .inr ⟨0, ⟨.one k n f, a, st⟩, Nat.succ_pos _, rfl, by simp, rfl⟩
      · refine .inr ⟨p + 1, r', by omega, ?_, by rw [e1]; congr 1; omega, by rw [e2]; congr 1; omega⟩
        simp only [info, List.getElem?_cons_succ]
        exact e
/-- the whole, seen from its root -/
abbrev infos (t : F) : List Rec := info t (-1) 0 []
theorem infos_stk {t : F} : ∀ (m j : Nat) (r : Rec) (x : Int) (q : Nat) (rest : Stk), j ≤ m → (infos t)[j]? = some r → r.stk = (x, q) :: rest →
    q < j ∧ ∃ k f a, (infos t)[q]? = some ⟨.one k x f, a, rest⟩ ∧ k.bind = true := by
  intro m
  induction m with
  | zero =>
    intro j r x q rest hj h e
    have : j = 0 := by omega
    subst this
    rw [info_head] at h
    cases h
    cases e
  | succ m ih =>
    intro j r x q rest hj h e
    rcases info_up t (-1) 0 [] j r h with ⟨rfl, rfl⟩ | ⟨p, r', hp, e1, _, e2⟩
    · cases e
    · rw [Nat.zero_add] at e2
      obtain ⟨s, a', st'⟩ := r'
      have old : r.stk = st' → q < j ∧ ∃ k f a, (infos t)[q]? = some ⟨.one k x f, a, rest⟩ ∧ k.bind = true := fun e3 => by
        have z := ih p ⟨s, a', st'⟩ x q rest (by omega) e1 (by rw [← e3]; exact e)
        exact ⟨by omega, z.2⟩
      cases s with
      | nul b => exact old e2
      | leaf k n => exact old e2
      | two b f g => exact old e2
      | one k n f =>
        simp only [pushS] at e2
        by_cases hb : k.bind = true
        · rw [if_pos hb, e] at e2
          injection e2 with e3 e4
          injection e3 with e5 e6
          subst e5
          subst e6
          subst e4
          exact ⟨hp, k, f, a', e1, hb⟩
        · rw [if_neg hb] at e2
          exact old e2
/-! ### the parts directly in a part -/
def kidsFrom : List Int → Nat → Nat → List Nat
  | [], _, _ => []
  | a :: r, j, i => if a = (i : Int) then j :: kidsFrom r (j + 1) i else kidsFrom r (j + 1) i
theorem kids_app : ∀ (A B : List Int) (j i : Nat), kidsFrom (A ++ B) j i = kidsFrom A j i ++ kidsFrom B (j + A.length) i
  | [], _, _, _ => by simp [kidsFrom]
  | a :: A, B, j, i => by
    simp only [List.cons_append, kidsFrom, List.length_cons]
    rw [kids_app A B (j + 1) i, show j + 1 + A.length = j + (A.length + 1) by omega]
    split <;> simp
theorem kids_none : ∀ (A : List Int) (j i : Nat), (∀ a ∈ A, a ≠ (i : Int)) → kidsFrom A j i = []
  | [], _, _, _ => rfl
  | a :: A, j, i, h => by
    simp only [kidsFrom]
    rw [if_neg (h a List.mem_cons_self)]
    exact kids_none A _ _ fun b hb => h b (List.mem_cons_of_mem _ hb)
def arounds (I : List Rec) : List Int := I.map Rec.aro
theorem aro_range : ∀ (t : F) (a : Int) (i : Nat) (st : Stk) (x : Int), x ∈ arounds (info t a i st) → x = a ∨ ((i : Int) ≤ x ∧ x < ((i + t.size : Nat) : Int))
  | .nul _, a, i, st, x, h => by
    simp [arounds, info] at h
    exact .inl h
  | .leaf _ _, a, i, st, x, h => by
    simp [arounds, info] at h
    exact .inl h
  | .two b f g, a, i, st, x, h => by
    simp only [arounds, info, List.map_cons, List.map_append, List.mem_cons, List.mem_append] at h
    rcases h with h | h | h
    · exact .inl h
    · have := aro_range f i (i + 1) st x h
      simp only [F.size]
      omega
    · have := aro_range g i (i + 1 + f.size) st x h
      simp only [F.size]
      omega
  | .one k n f, a, i, st, x, h => by
    simp only [arounds, info, List.map_cons, List.mem_cons] at h
    rcases h with h | h
    · exact .inl h
    · have := aro_range f i (i + 1) _ x h
      simp only [F.size]
      omega
/-- where a part's own parts stand among all -/
def Sits (I : List Rec) (i j : Nat) (r : Rec) : Prop :=
  ∃ A B, I = A ++ info r.sub r.aro (i + j) r.stk ++ B ∧ A.length = j ∧ (∀ x ∈ arounds A, x ≠ ((i + j : Nat) : Int)) ∧ (∀ x ∈ arounds B, x < ((i + j : Nat) : Int) ∨ ((i + j + r.sub.size : Nat) : Int) ≤ x) ∧ r.aro < ((i + j : Nat) : Int) ∧
    (∀ x ∈ arounds A, x < ((i + j : Nat) : Int))
theorem info_sits : ∀ (t : F) (a : Int) (i : Nat) (st : Stk) (j : Nat) (r : Rec), a < (i : Int) → (info t a i st)[j]? = some r → Sits (info t a i st) i j r := by
  have zero : ∀ (t : F) (a : Int) (i : Nat) (st : Stk) (r : Rec), a < (i : Int) → (info t a i st)[0]? = some r → Sits (info t a i st) i 0 r := by
    intro t a i st r ha h
    rw [info_head] at h
    cases h
    exact ⟨[], [], by simp, rfl, by simp [arounds], by simp [arounds], by simpa using ha, by simp [arounds]⟩
  intro t
  induction t with
  | nul b =>
    intro a i st j r ha h
    cases j with
    | zero => exact zero _ _ _ _ _ ha h
    | succ j => simp [info] at h
  | leaf k n =>
    intro a i st j r ha h
    cases j with
    | zero => exact zero _ _ _ _ _ ha h
    | succ j => simp [info] at h
  | two b f g ihf ihg =>
    intro a i st j r ha h
    cases j with
    | zero => exact zero _ _ _ _ _ ha h
    | succ j =>
      simp only [info, List.getElem?_cons_succ] at h
      by_cases lt : j < f.size
      · rw [List.getElem?_append_left (by rw [info_len]; exact lt)] at h
        obtain ⟨A, B, e, eA, hA, hB, hr, hA2⟩ := ihf i (i + 1) st j r (by omega) h
        have ee : i + 1 + j = i + (j + 1) := by omega
        rw [ee] at e hA hB hr hA2
        have szr : r.sub.size + j ≤ f.size := by
          have z := congrArg List.length e
          simp only [info_len, List.length_append, eA] at z
          omega
        refine ⟨⟨.two b f g, a, st⟩ :: A, B ++ info g i (i + 1 + f.size) st, by simp [info, e], by simp [eA], ?_, ?_, hr, ?_⟩
        · intro x hx
          simp only [arounds, List.map_cons, List.mem_cons] at hx
          rcases hx with rfl | hx
          · omega
          · exact hA x hx
        · intro x hx
          simp only [arounds, List.map_append, List.mem_append] at hx
          rcases hx with hx | hx
          · exact hB x hx
          · have := aro_range g i (i + 1 + f.size) st x hx
            omega
        · intro x hx
          simp only [arounds, List.map_cons, List.mem_cons] at hx
          rcases hx with rfl | hx
          · omega
          · exact hA2 x hx
      · rw [List.getElem?_append_right (by rw [info_len]; omega), info_len] at h
        obtain ⟨A, B, e, eA, hA, hB, hr, hA2⟩ := ihg i (i + 1 + f.size) st (j - f.size) r (by omega) h
        have ee : i + 1 + f.size + (j - f.size) = i + (j + 1) := by omega
        rw [ee] at e hA hB hr hA2
        refine ⟨⟨.two b f g, a, st⟩ :: (info f i (i + 1) st ++ A), B, by simp [info, e], by simp [eA, info_len]; omega, ?_, hB, hr, ?_⟩
        · intro x hx
          simp only [arounds, List.map_cons, List.map_append, List.mem_cons, List.mem_append] at hx
          rcases hx with rfl | hx | hx
          · omega
          · have := aro_range f i (i + 1) st x hx
            omega
          · exact hA x hx
        · intro x hx
          simp only [arounds, List.map_cons, List.map_append, List.mem_cons, List.mem_append] at hx
          rcases hx with rfl | hx | hx
          · omega
          · have := aro_range f i (i + 1) st x hx
            omega
          · exact hA2 x hx
  | one k n f ih =>
    intro a i st j r ha h
    cases j with
    | zero => exact zero _ _ _ _ _ ha h
    | succ j =>
      simp only [info, List.getElem?_cons_succ] at h
      obtain ⟨A, B, e, eA, hA, hB, hr, hA2⟩ := ih i (i + 1) _ j r (by omega) h
      have ee : i + 1 + j = i + (j + 1) := by omega
      rw [ee] at e hA hB hr hA2
      refine ⟨⟨.one k n f, a, st⟩ :: A, B, by simp [info, e], by simp [eA], ?_, hB, hr, ?_⟩
      · intro x hx
        simp only [arounds, List.map_cons, List.mem_cons] at hx
        rcases hx with rfl | hx
        · omega
        · exact hA x hx
      · intro x hx
        simp only [arounds, List.map_cons, List.mem_cons] at hx
        rcases hx with rfl | hx
        · omega
        · exact hA2 x hx
/-- the places of the parts directly in one -/
def inPlaces : F → Nat → List Nat
  | .two _ f _, i => [i + 1, i + 1 + f.size]
  | .one _ _ _, i => [i + 1]
  | _, _ => []
theorem kids_own : ∀ (t : F) (a : Int) (i : Nat) (st : Stk), a < (i : Int) → kidsFrom (arounds (info t a i st)) i i = inPlaces t i
  | .nul _, a, i, st, ha => by
    simp only [arounds, info, List.map_cons, List.map_nil, kidsFrom, inPlaces]
    rw [if_neg (by omega)]
  | .leaf _ _, a, i, st, ha => by
    simp only [arounds, info, List.map_cons, List.map_nil, kidsFrom, inPlaces]
    rw [if_neg (by omega)]
  | .two b f g, a, i, st, ha => by
    have rest : ∀ (u : F) (j : Nat) (st : Stk), i < j → kidsFrom (arounds (info u i j st)) j i = [j] := by
      intro u j st hj
      have tail : ∀ (I : List Rec), (∀ x ∈ arounds I, (j : Int) ≤ x) → kidsFrom (arounds I) (j + 1) i = [] := fun I hI =>
        kids_none _ _ _ fun x hx => by have := hI x hx; omega
      cases u with
      | nul b => simp [arounds, info, kidsFrom]
      | leaf k n => simp [arounds, info, kidsFrom]
      | two b f g =>
        simp only [arounds, info, List.map_cons, kidsFrom, if_true]
        have := tail (info f j (j + 1) st ++ info g j (j + 1 + f.size) st) (fun x hx => by
          simp only [arounds, List.map_append, List.mem_append] at hx
          rcases hx with hx | hx
          · have := aro_range f j (j + 1) st x hx
            omega
          · have := aro_range g j (j + 1 + f.size) st x hx
            omega)
        rw [arounds] at this
        rw [this]
      | one k n f =>
        simp only [arounds, info, List.map_cons, kidsFrom, if_true]
        have := tail (info f j (j + 1) (if k.bind then (n, j) :: st else st)) (fun x hx => by
          have := aro_range f j (j + 1) _ x hx
          omega)
        rw [arounds] at this
        rw [this]
    have h1 := rest f (i + 1) st (by omega)
    have h2 := rest g (i + 1 + f.size) st (by omega)
    simp only [arounds] at h1 h2
    simp only [arounds, info, List.map_cons, List.map_append, kidsFrom, inPlaces]
    rw [if_neg (by omega), kids_app, h1, List.length_map, info_len, h2]
    rfl
  | .one k n f, a, i, st, ha => by
    have rest : ∀ (u : F) (j : Nat) (st : Stk), i < j → kidsFrom (arounds (info u i j st)) j i = [j] := by
      intro u j st hj
      have tail : ∀ (I : List Rec), (∀ x ∈ arounds I, (j : Int) ≤ x) → kidsFrom (arounds I) (j + 1) i = [] := fun I hI =>
        kids_none _ _ _ fun x hx => by have := hI x hx; omega
      cases u with
      | nul b => simp [arounds, info, kidsFrom]
      | leaf k n => simp [arounds, info, kidsFrom]
      | two b f g =>
        simp only [arounds, info, List.map_cons, kidsFrom, if_true]
        have := tail (info f j (j + 1) st ++ info g j (j + 1 + f.size) st) (fun x hx => by
          simp only [arounds, List.map_append, List.mem_append] at hx
          rcases hx with hx | hx
          · have := aro_range f j (j + 1) st x hx
            omega
          · have := aro_range g j (j + 1 + f.size) st x hx
            omega)
        rw [arounds] at this
        rw [this]
      | one k n f =>
        simp only [arounds, info, List.map_cons, kidsFrom, if_true]
        have := tail (info f j (j + 1) (if k.bind then (n, j) :: st else st)) (fun x hx => by
          have := aro_range f j (j + 1) _ x hx
          omega)
        rw [arounds] at this
        rw [this]
    have h1 := rest f (i + 1) (if k.bind then (n, i) :: st else st) (by omega)
    simp only [arounds] at h1
    simp only [arounds, info, List.map_cons, kidsFrom, inPlaces]
    rw [if_neg (by omega), h1]
theorem kids_at {t : F} {j : Nat} {r : Rec} (h : (infos t)[j]? = some r) : kidsFrom (arounds (infos t)) 0 j = inPlaces r.sub j := by
  obtain ⟨A, B, e, eA, hA, hB, hr, _⟩ := info_sits t (-1) 0 [] j r (by omega) h
  rw [Nat.zero_add] at e hA hB hr
  have ea : arounds (infos t) = arounds A ++ arounds (info r.sub r.aro j r.stk) ++ arounds B := by
    rw [show infos t = _ from e]
    simp [arounds]
  have lA : (arounds A).length = j := by simp [arounds, eA]
  rw [ea, kids_app, kids_app, kids_none _ _ _ hA, Nat.zero_add, lA, kids_own _ _ _ _ hr, kids_none (arounds B)]
  · simp
  · intro x hx
    have := hB x hx
    have := F.size_pos r.sub
    omega
/-- the parts of a part are among all, at their places -/
theorem sub_at {t : F} {j : Nat} {r : Rec} (h : (infos t)[j]? = some r) : ∀ (k : Nat) (q : Rec), (info r.sub r.aro j r.stk)[k]? = some q → (infos t)[j + k]? = some q := by
  intro k q hq
  obtain ⟨A, B, e, eA, _⟩ := info_sits t (-1) 0 [] j r (by omega) h
  rw [Nat.zero_add] at e
  have lt := (List.getElem?_eq_some_iff.mp hq).1
  rw [show infos t = _ from e, List.append_assoc, List.getElem?_append_right (by omega), eA, show j + k - j = k by omega, List.getElem?_append_left lt]
  exact hq

/-! ### the binder around, and the one of a variable -/
def topPos : Stk → Int
  | [] => -1
  | (_, p) :: _ => (p : Int)
def posOf (x : Int) : Stk → Int
  | [] => -1
  | (y, p) :: r => if y = x then (p : Int) else posOf x r
def isB : F → Bool
  | .one k _ _ => k.bind
  | _ => false
theorem pushS_top (s : F) (p : Nat) (st : Stk) : topPos (pushS s p st) = if isB s = true then (p : Int) else topPos st := by
  cases s with
  | one k n f => cases hk : k.bind <;> simp [pushS, isB, topPos, hk]
  | _ => rfl
theorem top_step {t : F} {j : Nat} {r : Rec} (h : (infos t)[j]? = some r) :
    (r.aro = -1 ∧ topPos r.stk = -1 ∧ j = 0) ∨ ∃ p r', p < j ∧ (infos t)[p]? = some r' ∧ r.aro = (p : Int) ∧ topPos r.stk = if isB r'.sub = true then (p : Int) else topPos r'.stk := by
  rcases info_up t (-1) 0 [] j r h with ⟨rfl, rfl⟩ | ⟨p, r', hp, e, e1, e2⟩
  · exact .inl ⟨rfl, rfl, rfl⟩
  · rw [Nat.zero_add] at e1 e2
    exact .inr ⟨p, r', hp, e, e1, by rw [e2, pushS_top]⟩
theorem posOf_ge (x : Int) : ∀ st : Stk, -1 ≤ posOf x st
  | [] => by simp [posOf]
  | (y, p) :: r => by
    simp only [posOf]
    split
    · omega
    · exact posOf_ge x r
theorem posOf_neg (x : Int) : ∀ st : Stk, posOf x st < 0 ↔ x ∉ st.map (·.1)
  | [] => by simp [posOf]
  | (y, p) :: r => by
    have ih := posOf_neg x r
    simp only [posOf, List.map_cons, List.mem_cons, not_or]
    split
    · rename_i e
      constructor
      · intro z
        omega
      · intro z
        exact absurd e.symm z.1
    · rename_i e
      rw [ih]
      constructor
      · exact fun z => ⟨fun q => e q.symm, z⟩
      · exact fun z => z.2
/-! ### free variables -/
def freeL : F → List Int → List Int
  | .nul _, _ => []
  | .leaf .var x, bound => if x ∈ bound then [] else [x]
  | .leaf _ _, _ => []
  | .two _ f g, bound => freeL f bound ++ freeL g bound
  | .one k x f, bound => if k.bind then freeL f (bound ++ [x]) else freeL f bound
theorem free_iff (x : Int) : ∀ (t : F) (bound : List Int) (a : Int) (i : Nat) (st : Stk), (∀ y, y ∈ bound ↔ y ∈ st.map (·.1)) →
    (x ∈ freeL t bound ↔ ∃ r ∈ info t a i st, r.sub = .leaf .var x ∧ x ∉ r.stk.map (·.1))
  | .nul b, bound, a, i, st, hb => by simp [freeL, info]
  | .leaf .has n, bound, a, i, st, hb => by simp [freeL, info]
  | .leaf .lacks n, bound, a, i, st, hb => by simp [freeL, info]
  | .leaf .var n, bound, a, i, st, hb => by
    simp only [freeL, info, List.mem_singleton]
    constructor
    · intro h
      split at h
      · cases h
      · rename_i hn
        rw [List.mem_singleton] at h
        subst h
        exact ⟨_, rfl, rfl, fun z => hn ((hb _).mpr z)⟩
    · rintro ⟨r, rfl, e, hn⟩
      injection e with _ e
      subst e
      rw [if_neg (fun z => hn ((hb _).mp z))]
      exact List.mem_singleton.mpr rfl
  | .two b f g, bound, a, i, st, hb => by
    simp only [freeL, info, List.mem_append, List.mem_cons]
    rw [free_iff x f bound i (i + 1) st hb, free_iff x g bound i (i + 1 + f.size) st hb]
    constructor
    · rintro (⟨r, h1, h2⟩ | ⟨r, h1, h2⟩)
      · exact ⟨r, .inr (.inl h1), h2⟩
      · exact ⟨r, .inr (.inr h1), h2⟩
    · rintro ⟨r, h1, h2, h3⟩
      rcases h1 with rfl | h1 | h1
      · cases h2
      · exact .inl ⟨r, h1, h2, h3⟩
      · exact .inr ⟨r, h1, h2, h3⟩
  | .one k n f, bound, a, i, st, hb => by
    simp only [freeL, info, List.mem_cons]
    have key : ∀ (bound' : List Int) (st' : Stk), (∀ y, y ∈ bound' ↔ y ∈ st'.map (·.1)) →
        (x ∈ freeL f bound' ↔ ∃ r, (r = ⟨.one k n f, a, st⟩ ∨ r ∈ info f i (i + 1) st') ∧ r.sub = .leaf .var x ∧ x ∉ r.stk.map (·.1)) := by
      intro bound' st' h'
      rw [free_iff x f bound' i (i + 1) st' h']
      constructor
      · rintro ⟨r, h1, h2⟩
        exact ⟨r, .inr h1, h2⟩
      · rintro ⟨r, h1, h2, h3⟩
        rcases h1 with rfl | h1
        · cases h2
        · exact ⟨r, h1, h2, h3⟩
    by_cases hk : k.bind = true
    · rw [if_pos hk, if_pos hk]
      refine key _ _ fun y => ?_
      simp only [List.mem_append, hb y, List.map_cons, List.mem_cons, List.not_mem_nil, or_false]
      exact Or.comm
    · rw [if_neg hk, if_neg hk]
      exact key _ _ hb
def Closed (t : F) : Prop := ∀ r ∈ infos t, ∀ x, r.sub = .leaf .var x → x ∈ r.stk.map (·.1)
theorem closed_iff {t : F} : freeL t [] = [] ↔ Closed t := by
  constructor
  · intro h r hr x e
    refine Classical.byContradiction fun hn => ?_
    have := (free_iff x t [] (-1) 0 [] (by simp)).mpr ⟨r, hr, e, hn⟩
    rw [h] at this
    cases this
  · intro h
    refine List.eq_nil_iff_forall_not_mem.mpr fun x hx => ?_
    obtain ⟨r, hr, e, hn⟩ := (free_iff x t [] (-1) 0 [] (by simp)).mp hx
    exact hn (h r hr x e)
/-! ### the same shape, the same places -/
def skel : F → F
  | .nul _ => .nul true
  | .leaf _ _ => .nul true
  | .two _ f g => .two true (skel f) (skel g)
  | .one _ _ f => .one .some 0 (skel f)
theorem skel_size : ∀ t : F, (skel t).size = t.size
  | .nul _ => rfl
  | .leaf _ _ => rfl
  | .two _ f g => by simp [skel, F.size, skel_size f, skel_size g]
  | .one _ _ f => by simp [skel, F.size, skel_size f]
theorem skel_depth : ∀ t : F, (skel t).depth = t.depth
  | .nul _ => rfl
  | .leaf _ _ => rfl
  | .two _ f g => by simp [skel, F.depth, skel_depth f, skel_depth g]
  | .one _ _ f => by simp [skel, F.depth, skel_depth f]
theorem skel_aro : ∀ (t : F) (a : Int) (i : Nat) (st : Stk), arounds (info t a i st) = arounds (info (skel t) a i [])
  | .nul _, _, _, _ => rfl
  | .leaf _ _, _, _, _ => rfl
  | .two _ f g, a, i, st => by
    have h1 := skel_aro f i (i + 1) st
    have h2 := skel_aro g i (i + 1 + f.size) st
    simp only [arounds] at h1 h2
    simp only [arounds, info, skel, List.map_cons, List.map_append, h1, h2, skel_size]
  | .one k n f, a, i, st => by
    have h1 := skel_aro f i (i + 1) (if k.bind then (n, i) :: st else st)
    simp only [arounds] at h1
    simp only [arounds, info, skel, List.map_cons]
    rw [h1]
    rfl
theorem same_aro {t u : F} (h : skel t = skel u) : arounds (infos t) = arounds (infos u) := by
  rw [skel_aro t, skel_aro u, h]
theorem same_size {t u : F} (h : skel t = skel u) : t.size = u.size := by rw [← skel_size t, h, skel_size]
/-! ### the tidy form -/
def tidyF : F → (Int → Int) → Int → F × Int
  | .nul b, _, n => (.nul b, n)
  | .leaf .var x, nm, n => (.leaf .var (nm x), n)
  | .leaf k x, _, n => (.leaf k x, n)
  | .two b f g, nm, n => (.two b (tidyF f nm n).1 (tidyF g nm (tidyF f nm n).2).1, (tidyF g nm (tidyF f nm n).2).2)
  | .one k x f, nm, n =>
    if k.bind then (.one k n (tidyF f (fun y => if y = x then n else nm y) (n + 1)).1, (tidyF f (fun y => if y = x then n else nm y) (n + 1)).2)
    else (.one k x (tidyF f nm n).1, (tidyF f nm n).2)
theorem tidy_skel : ∀ (t : F) (nm : Int → Int) (n : Int), skel (tidyF t nm n).1 = skel t
  | .nul _, _, _ => rfl
  | .leaf .var _, _, _ => rfl
  | .leaf .has _, _, _ => rfl
  | .leaf .lacks _, _, _ => rfl
  | .two _ f g, nm, n => by simp only [tidyF, skel, tidy_skel f, tidy_skel g]
  | .one k x f, nm, n => by
    simp only [tidyF]
    split <;> simp only [skel, tidy_skel f]
def cntB (I : List Rec) : Nat := (I.filter fun r => isB r.sub).length
theorem cntB_app (A B : List Rec) : cntB (A ++ B) = cntB A + cntB B := by simp [cntB]
theorem cntB_cons (r : Rec) (B : List Rec) : cntB (r :: B) = (if isB r.sub = true then 1 else 0) + cntB B := by
  simp only [cntB, List.filter_cons]
  split <;> simp <;> omega
def newHd (ρ : Nat → Int) (q : Nat) (r : Rec) : Hd :=
  match r.sub with
  | .leaf .var x => .leaf .var (ρ (posOf x r.stk).toNat)
  | .one k x _ => if k.bind then .one k (ρ q) else .one k x
  | s => s.hd
theorem tidy_heads (ρ : Nat → Int) : ∀ (t : F) (a : Int) (i : Nat) (st : Stk) (nm : Int → Int) (n : Int),
    (∀ r ∈ info t a i st, ∀ x, r.sub = .leaf .var x → x ∈ r.stk.map (·.1)) → (∀ x ∈ st.map (·.1), nm x = ρ (posOf x st).toNat) →
    (∀ j r, (info t a i st)[j]? = some r → isB r.sub = true → ρ (i + j) = n + (cntB ((info t a i st).take j) : Nat)) →
    (tidyF t nm n).2 = n + (cntB (info t a i st) : Nat) ∧
    ∀ (st' : Stk) (j : Nat) (r : Rec), (info t a i st)[j]? = some r → ((info (tidyF t nm n).1 a i st')[j]?).map (fun r => r.sub.hd) = some (newHd ρ (i + j) r)
  | .nul b, a, i, st, nm, n, hc, hs, hr => by
    refine ⟨by simp [tidyF, info, cntB, isB], fun st' j r h => ?_⟩
    cases j with
    | zero =>
      cases h
      rfl
    | succ j => simp [info] at h
  | .leaf .has b, a, i, st, nm, n, hc, hs, hr => by
    refine ⟨by simp [tidyF, info, cntB, isB], fun st' j r h => ?_⟩
    cases j with
    | zero =>
      cases h
      rfl
    | succ j => simp [info] at h
  | .leaf .lacks b, a, i, st, nm, n, hc, hs, hr => by
    refine ⟨by simp [tidyF, info, cntB, isB], fun st' j r h => ?_⟩
    cases j with
    | zero =>
      cases h
      rfl
    | succ j => simp [info] at h
  | .leaf .var x, a, i, st, nm, n, hc, hs, hr => by
    refine ⟨by simp [tidyF, info, cntB, isB], fun st' j r h => ?_⟩
    cases j with
    | zero =>
      cases h
      have hx : x ∈ st.map (·.1) := hc ⟨.leaf .var x, a, st⟩ (by simp [info]) x rfl
      simp only [tidyF, info, newHd, List.getElem?_cons_zero, Option.map_some, F.hd]
      rw [hs x hx]
    | succ j => simp [info] at h
  | .two b f g, a, i, st, nm, n, hc, hs, hr => by
    have If : ∀ j r, (info f i (i + 1) st)[j]? = some r → (info (.two b f g) a i st)[j + 1]? = some r := fun j r h => by
      simp only [info, List.getElem?_cons_succ]
      rw [List.getElem?_append_left (List.getElem?_eq_some_iff.mp h).1]
      exact h
    have Ig : ∀ j r, (info g i (i + 1 + f.size) st)[j]? = some r → (info (.two b f g) a i st)[f.size + j + 1]? = some r := fun j r h => by
      simp only [info, List.getElem?_cons_succ]
      rw [List.getElem?_append_right (by rw [info_len]; omega), info_len, show f.size + j - f.size = j by omega]
      exact h
    obtain ⟨f1, f2⟩ := tidy_heads ρ f i (i + 1) st nm n (fun r hr' => hc r (by simp [info, hr'])) hs (fun j r h hb => by
      have := hr (j + 1) r (If j r h) hb
      rw [show i + (j + 1) = i + 1 + j by omega] at this
      rw [this]
      simp only [info, List.take_succ_cons, cntB_cons, isB]
      rw [List.take_append_of_le_length (Nat.le_of_lt (List.getElem?_eq_some_iff.mp h).1)]
      simp)
    obtain ⟨g1, g2⟩ := tidy_heads ρ g i (i + 1 + f.size) st nm (tidyF f nm n).2 (fun r hr' => hc r (by simp [info, hr'])) hs (fun j r h hb => by
      have := hr (f.size + j + 1) r (Ig j r h) hb
      rw [show i + (f.size + j + 1) = i + 1 + f.size + j by omega] at this
      rw [this, f1]
      simp only [info, List.take_succ_cons, cntB_cons, isB]
      rw [List.take_append, info_len, List.take_of_length_le (by rw [info_len]; omega), show f.size + j - f.size = j by omega, cntB_app]
      simp
      omega)
    refine ⟨?_, fun st' j r h => ?_⟩
    · simp only [tidyF, info, cntB_cons, cntB_app, isB]
      rw [g1, f1]
      simp
      omega
    · have sz : (tidyF f nm n).1.size = f.size := same_size (tidy_skel f nm n)
      cases j with
      | zero =>
        cases h
        rfl
      | succ j =>
        simp only [info, List.getElem?_cons_succ] at h
        simp only [tidyF, info, List.getElem?_cons_succ]
        by_cases lt : j < f.size
        · rw [List.getElem?_append_left (by rw [info_len]; exact lt)] at h
          rw [List.getElem?_append_left (by rw [info_len, sz]; exact lt), f2 st' j r h, show i + 1 + j = i + (j + 1) by omega]
        · rw [List.getElem?_append_right (by rw [info_len]; omega), info_len] at h
          rw [List.getElem?_append_right (by rw [info_len, sz]; omega), info_len, sz, g2 st' (j - f.size) r h, show i + 1 + f.size + (j - f.size) = i + (j + 1) by omega]
  | .one k x f, a, i, st, nm, n, hc, hs, hr => by
    by_cases hk : k.bind = true
    · have If : ∀ j r, (info f i (i + 1) ((x, i) :: st))[j]? = some r → (info (.one k x f) a i st)[j + 1]? = some r := fun j r h => by
        simp only [info, List.getElem?_cons_succ, if_pos hk]
        exact h
      have ρi : ρ i = n := by
        have := hr 0 ⟨.one k x f, a, st⟩ rfl hk
        simpa [cntB] using this
      obtain ⟨f1, f2⟩ := tidy_heads ρ f i (i + 1) ((x, i) :: st) (fun y => if y = x then n else nm y) (n + 1) (fun r hr' => hc r (by simp [info, hk, hr'])) (fun y hy => by
        simp only [posOf]
        by_cases e : y = x
        · rw [if_pos e, if_pos e.symm]
          exact ρi.symm
        · rw [if_neg e, if_neg (fun z => e z.symm)]
          rw [List.map_cons, List.mem_cons] at hy
          exact hs y (hy.resolve_left e)) (fun j r h hb => by
        have := hr (j + 1) r (If j r h) hb
        rw [show i + (j + 1) = i + 1 + j by omega] at this
        rw [this]
        simp only [info, List.take_succ_cons, cntB_cons]
        rw [if_pos (show isB (F.one k x f) = true from hk), if_pos hk]
        omega)
      refine ⟨?_, fun st' j r h => ?_⟩
      · simp only [tidyF, info, cntB_cons]
        rw [if_pos (show isB (F.one k x f) = true from hk), if_pos hk, if_pos hk, f1]
        omega
      · cases j with
        | zero =>
          cases h
          simp only [tidyF, if_pos hk, info, newHd, List.getElem?_cons_zero, Option.map_some, F.hd]
          rw [Nat.add_zero, ρi]
        | succ j =>
          simp only [info, List.getElem?_cons_succ, if_pos hk] at h
          simp only [tidyF, if_pos hk, info, List.getElem?_cons_succ]
          rw [f2 _ j r h, show i + 1 + j = i + (j + 1) by omega]
    · have If : ∀ j r, (info f i (i + 1) st)[j]? = some r → (info (.one k x f) a i st)[j + 1]? = some r := fun j r h => by
        simp only [info, List.getElem?_cons_succ, if_neg hk]
        exact h
      obtain ⟨f1, f2⟩ := tidy_heads ρ f i (i + 1) st nm n (fun r hr' => hc r (by simp [info, hk, hr'])) hs (fun j r h hb => by
        have := hr (j + 1) r (If j r h) hb
        rw [show i + (j + 1) = i + 1 + j by omega] at this
        rw [this]
        simp only [info, List.take_succ_cons, cntB_cons]
        rw [if_neg (show ¬ isB (F.one k x f) = true from hk), if_neg hk]
        omega)
      refine ⟨?_, fun st' j r h => ?_⟩
      · simp only [tidyF, info, cntB_cons]
        rw [if_neg (show ¬ isB (F.one k x f) = true from hk), if_neg hk, if_neg hk, f1]
        omega
      · cases j with
        | zero =>
          cases h
          simp only [tidyF, if_neg hk, info, newHd, List.getElem?_cons_zero, Option.map_some, F.hd]
        | succ j =>
          simp only [info, List.getElem?_cons_succ, if_neg hk] at h
          simp only [tidyF, if_neg hk, info, List.getElem?_cons_succ]
          rw [f2 _ j r h, show i + 1 + j = i + (j + 1) by omega]
/-- of a closed one: the head of each part in the tidy form -/
def rankOf (t : F) (q : Nat) : Int := (cntB ((infos t).take q) : Nat)
theorem tidy_whole {t : F} (hc : Closed t) (nm : Int → Int) {j : Nat} {r : Rec} (h : (infos t)[j]? = some r) :
    ((infos (tidyF t nm 0).1)[j]?).map (fun r => r.sub.hd) = some (newHd (rankOf t) j r) := by
  have := (tidy_heads (rankOf t) t (-1) 0 [] nm 0 hc (by simp) (fun j r h hb => by simp [rankOf])).2 [] j r h
  rwa [Nat.zero_add] at this
/-! ### tidy twice -/
theorem tidy_again : ∀ (t : F) (nm nm2 : Int → Int) (n : Int), (∀ y, nm2 (nm y) = nm y) → tidyF (tidyF t nm n).1 nm2 n = tidyF t nm n
  | .nul _, _, _, _, _ => rfl
  | .leaf .has _, _, _, _, _ => rfl
  | .leaf .lacks _, _, _, _, _ => rfl
  | .leaf .var x, nm, nm2, n, h => by simp only [tidyF, h]
  | .two b f g, nm, nm2, n, h => by
    simp only [tidyF]
    rw [tidy_again f nm nm2 n h, tidy_again g nm nm2 _ h]
  | .one k x f, nm, nm2, n, h => by
    by_cases hk : k.bind = true
    · have ih := tidy_again f (fun y => if y = x then n else nm y) (fun y => if y = n then n else nm2 y) (n + 1) (fun y => by
        by_cases e : y = x
        · simp [e]
        · simp only [if_neg e]
          by_cases e2 : nm y = n
          · simp [e2]
          · rw [if_neg e2]
            exact h y)
      simp only [tidyF, if_pos hk, ih]
    · have ih := tidy_again f nm nm2 n h
      simp only [tidyF, if_neg hk, ih]
end Fw
namespace Fw
/-! ### taking a statement apart with a stack -/
def pre (t : F) (a : Int) (i : Nat) : List (Hd × Int) := (info t a i []).map fun r => (r.sub.hd, r.aro)
theorem pre_len (t : F) (a : Int) (i : Nat) : (pre t a i).length = t.size := by simp [pre, info_len]
theorem info_plain : ∀ (t : F) (a : Int) (i : Nat) (st : Stk), ((info t a i st).map fun r => (r.sub.hd, r.aro)) = pre t a i
  | .nul _, _, _, _ => rfl
  | .leaf _ _, _, _, _ => rfl
  | .two _ f g, a, i, st => by
    have h1 := info_plain f i (i + 1)
    have h2 := info_plain g i (i + 1 + f.size)
    simp only [pre, info, List.map_cons, List.map_append] at *
    rw [h1 st, h2 st]
  | .one k n f, a, i, st => by
    have h1 := info_plain f i (i + 1)
    simp only [pre, info, List.map_cons] at *
    rw [h1 (if k.bind then (n, i) :: st else st), h1 (if k.bind then [(n, i)] else [])]
def F.kids : F → List F
  | .two _ f g => [f, g]
  | .one _ _ f => [f]
  | _ => []
def fin (L : List (Hd × Int)) : List (F × Int) → List (Hd × Int)
  | [] => L
  | (t, a) :: r => fin (L ++ pre t a L.length) r
theorem fin_step (L : List (Hd × Int)) (t : F) (a : Int) (r : List (F × Int)) :
    fin L ((t, a) :: r) = fin (L ++ [(t.hd, a)]) (t.kids.map (fun f => (f, (L.length : Int))) ++ r) := by
  cases t with
  | nul b => rfl
  | leaf k n => rfl
  | two b f g =>
    have hf := info_plain f L.length (L.length + 1) []
    have hg := info_plain g L.length (L.length + 1 + f.size) []
    simp only [fin, F.kids, List.map_cons, List.map_nil, List.cons_append, List.nil_append, F.hd, List.length_append, List.length_cons, List.length_nil, pre_len]
    congr 1
    simp only [pre, info, List.map_cons, List.map_append, F.hd]
    simp
  | one k n f =>
    have hf := info_plain f L.length (L.length + 1) (if k.bind then [(n, L.length)] else [])
    simp only [fin, F.kids, List.map_cons, List.map_nil, List.cons_append, List.nil_append, F.hd, List.length_append, List.length_cons, List.length_nil]
    congr 1
    simp only [pre, info, List.map_cons, F.hd] at *
    rw [hf]
    simp
def stSize : List (F × Int) → Nat
  | [] => 0
  | (t, _) :: r => t.size + stSize r
theorem stSize_app : ∀ A B : List (F × Int), stSize (A ++ B) = stSize A + stSize B
  | [], B => by simp [stSize]
  | (t, a) :: A, B => by simp [stSize, stSize_app A B]; omega
theorem stSize_kids (t : F) (i : Int) : stSize (t.kids.map fun f => (f, i)) + 1 = t.size := by
  cases t <;> simp [F.kids, stSize, F.size]
theorem st_len : ∀ A : List (F × Int), A.length ≤ stSize A
  | [] => Nat.le_refl _
  | (t, a) :: A => by
    have := st_len A
    have := F.size_pos t
    simp only [List.length_cons, stSize]
    omega
theorem fin_len : ∀ (S : List (F × Int)) (L : List (Hd × Int)), (fin L S).length = L.length + stSize S
  | [], L => by simp [fin, stSize]
  | (t, a) :: S, L => by
    simp only [fin, stSize]
    rw [fin_len S, List.length_append, pre_len]
    omega
end Fw
namespace Fw
theorem kids_recs {t : F} {j : Nat} {r : Rec} (h : (infos t)[j]? = some r) :
    (inPlaces r.sub j).length = r.sub.kids.length ∧ ∀ (m p : Nat), (inPlaces r.sub j)[m]? = some p → ∃ r', (infos t)[p]? = some r' ∧ r.sub.kids[m]? = some r'.sub ∧ j < p := by
  have sa := sub_at h
  obtain ⟨s, a, st⟩ := r
  cases s with
  | nul b => exact ⟨rfl, fun m p e => by simp [inPlaces] at e⟩
  | leaf k n => exact ⟨rfl, fun m p e => by simp [inPlaces] at e⟩
  | two b f g =>
    refine ⟨rfl, fun m p e => ?_⟩
    match m, e with
    | 0, e =>
      cases e
      refine ⟨⟨f, j, st⟩, sa 1 _ ?_, rfl, by omega⟩
      simp only [info, List.getElem?_cons_succ]
      rw [List.getElem?_append_left (by rw [info_len]; exact F.size_pos f)]
      exact info_head _ _ _ _
    | 1, e =>
      cases e
      have z := sa (1 + f.size) ⟨g, j, st⟩ (by
        rw [Nat.add_comm 1]
        simp only [info, List.getElem?_cons_succ]
        rw [List.getElem?_append_right (by rw [info_len]; omega), info_len, Nat.sub_self]
        exact info_head _ _ _ _)
      rw [← Nat.add_assoc] at z
      exact ⟨_, z, rfl, by omega⟩
    | m + 2, e => simp [inPlaces] at e
  | one k n f =>
    refine ⟨rfl, fun m p e => ?_⟩
    match m, e with
    | 0, e =>
      cases e
      refine ⟨⟨f, j, if k.bind then (n, j) :: st else st⟩, sa 1 _ ?_, rfl, by omega⟩
      simp only [info, List.getElem?_cons_succ]
      exact info_head _ _ _ _
    | m + 1, e => simp [inPlaces] at e
end Fw
namespace Fw
theorem F.kids_le : ∀ t : F, t.kids.length ≤ 2
  | .nul _ => Nat.zero_le 2
  | .leaf _ _ => Nat.zero_le 2
  | .two _ _ _ => Nat.le_refl 2
  | .one _ _ _ => Nat.le_succ 1
end Fw
namespace Fw
theorem infos_pos {t : F} {x : Int} : ∀ (st : Stk) (j : Nat) (r : Rec), (infos t)[j]? = some r → r.stk = st → x ∈ st.map (·.1) →
    ∃ (p : Nat) (r' : Rec), posOf x st = (p : Int) ∧ p < j ∧ (infos t)[p]? = some r' ∧ isB r'.sub = true
  | [], _, _, _, _, h => by cases h
  | (y, q) :: rest, j, r, hr, e, h => by
    obtain ⟨hq, k, f, a, h2, h3⟩ := infos_stk j j r y q rest (Nat.le_refl _) hr e
    simp only [posOf]
    by_cases c : y = x
    · rw [if_pos c]
      exact ⟨q, _, rfl, hq, h2, h3⟩
    · rw [if_neg c]
      have h' : x ∈ rest.map (·.1) := by
        rw [List.map_cons, List.mem_cons] at h
        exact h.resolve_left fun z => c z.symm
      obtain ⟨p, r', e1, e2, e3⟩ := infos_pos rest q _ h2 rfl h'
      exact ⟨p, r', e1, by omega, e3⟩
end Fw
namespace Fw
/-! ### what the law draws -/
def fv : F → List Int
  | .nul _ => []
  | .leaf .var x => [x]
  | .leaf _ _ => []
  | .two _ f g => fv f ++ fv g
  | .one k x f => if k.bind then (fv f).filter (fun y => y ≠ x) else fv f
theorem free_fv (y : Int) : ∀ (t : F) (b : List Int), y ∈ freeL t b ↔ y ∈ fv t ∧ y ∉ b
  | .nul _, b => by simp [freeL, fv]
  | .leaf .has _, b => by simp [freeL, fv]
  | .leaf .lacks _, b => by simp [freeL, fv]
  | .leaf .var x, b => by
    simp only [freeL, fv, List.mem_singleton]
    split
    · rename_i h
      constructor
      · intro z
        cases z
      · rintro ⟨rfl, z⟩
        exact absurd h z
    · rename_i h
      rw [List.mem_singleton]
      constructor
      · rintro rfl
        exact ⟨rfl, h⟩
      · exact fun z => z.1
  | .two _ f g, b => by
    simp only [freeL, fv, List.mem_append, free_fv y f b, free_fv y g b]
    constructor
    · rintro (⟨h1, h2⟩ | ⟨h1, h2⟩)
      · exact ⟨.inl h1, h2⟩
      · exact ⟨.inr h1, h2⟩
    · rintro ⟨h1 | h1, h2⟩
      · exact .inl ⟨h1, h2⟩
      · exact .inr ⟨h1, h2⟩
  | .one k x f, b => by
    simp only [freeL, fv]
    by_cases hk : k.bind = true
    · rw [if_pos hk, if_pos hk, free_fv y f (b ++ [x])]
      simp only [List.mem_append, List.mem_singleton, not_or, List.mem_filter, decide_eq_true_eq]
      constructor
      · rintro ⟨h1, h2, h3⟩
        exact ⟨⟨h1, h3⟩, h2⟩
      · rintro ⟨⟨h1, h3⟩, h2⟩
        exact ⟨h1, h2, h3⟩
    · rw [if_neg hk, if_neg hk, free_fv y f b]
theorem closed_fv {t : F} : fv t = [] ↔ Closed t := by
  rw [← closed_iff]
  constructor
  · intro h
    refine List.eq_nil_iff_forall_not_mem.mpr fun x hx => ?_
    have := ((free_fv x t []).mp hx).1
    rw [h] at this
    cases this
  · intro h
    refine List.eq_nil_iff_forall_not_mem.mpr fun x hx => ?_
    have := (free_fv x t []).mpr ⟨hx, by simp⟩
    rw [h] at this
    cases this
abbrev V4 : List Int := [0, 1, 2, 7]
def Ok : F → Prop
  | .nul _ => True
  | .leaf .var x => x ∈ V4
  | .leaf _ n => 0 ≤ n ∧ n < 2
  | .two _ f g => Ok f ∧ Ok g
  | .one k n f => (if k.bind = true then n ∈ V4 else 0 ≤ n ∧ n < 2) ∧ Ok f
theorem ok_fv : ∀ {t : F}, Ok t → ∀ x ∈ fv t, x ∈ V4
  | .nul _, _, x, h => by cases h
  | .leaf .has _, _, x, h => by cases h
  | .leaf .lacks _, _, x, h => by cases h
  | .leaf .var y, o, x, h => by
    rw [show fv (.leaf .var y) = [y] from rfl, List.mem_singleton] at h
    subst h
    exact o
  | .two _ f g, o, x, h => by
    rcases List.mem_append.mp (show x ∈ fv f ++ fv g from h) with h | h
    · exact ok_fv o.1 x h
    · exact ok_fv o.2 x h
  | .one k n f, o, x, h => by
    refine ok_fv o.2 x ?_
    simp only [fv] at h
    split at h
    · exact (List.mem_filter.mp h).1
    · exact h
structure Gen (n : Nat) (W R : List Int) (t : F) : Prop where
  dep : t.depth ≤ n + 1
  ok : Ok t
  fr : ∀ x ∈ fv t, x ∈ W ∨ x ∈ R
end Fw
namespace Fw
theorem tidy_fv : ∀ (t : F) (nm : Int → Int) (n y : Int), y ∈ fv (tidyF t nm n).1 → ∃ x ∈ fv t, y = nm x
  | .nul _, _, _, _, h => by cases h
  | .leaf .has _, _, _, _, h => by cases h
  | .leaf .lacks _, _, _, _, h => by cases h
  | .leaf .var x, nm, n, y, h => ⟨x, List.mem_singleton.mpr rfl, List.mem_singleton.mp h⟩
  | .two b f g, nm, n, y, h => by
    rcases List.mem_append.mp (show y ∈ fv (tidyF f nm n).1 ++ fv (tidyF g nm (tidyF f nm n).2).1 from h) with h | h
    · obtain ⟨x, h1, h2⟩ := tidy_fv f nm n y h
      exact ⟨x, List.mem_append_left _ h1, h2⟩
    · obtain ⟨x, h1, h2⟩ := tidy_fv g nm _ y h
      exact ⟨x, List.mem_append_right _ h1, h2⟩
  | .one k z f, nm, n, y, h => by
    by_cases hk : k.bind = true
    · simp only [tidyF, if_pos hk, fv, List.mem_filter, decide_eq_true_eq] at h
      obtain ⟨x, h1, h2⟩ := tidy_fv f _ _ y h.1
      by_cases e : x = z
      · rw [if_pos e] at h2
        exact absurd h2 h.2
      · rw [if_neg e] at h2
        refine ⟨x, ?_, h2⟩
        simp only [fv, if_pos hk, List.mem_filter, decide_eq_true_eq]
        exact ⟨h1, e⟩
    · simp only [tidyF, if_neg hk, fv] at h
      obtain ⟨x, h1, h2⟩ := tidy_fv f nm n y h
      refine ⟨x, ?_, h2⟩
      simp only [fv, if_neg hk]
      exact h1
theorem tidy_closed {t : F} (nm : Int → Int) (n : Int) (h : Closed t) : Closed (tidyF t nm n).1 := by
  rw [← closed_fv] at h ⊢
  refine List.eq_nil_iff_forall_not_mem.mpr fun y hy => ?_
  obtain ⟨x, hx, _⟩ := tidy_fv t nm n y hy
  rw [h] at hx
  cases hx
end Fw

namespace Fw
/-! ### opposites -/
def Leaf.opp : Leaf → Leaf
  | .has => .lacks
  | .lacks => .has
  | .var => .var
def One.opp : One → One
  | .some => .all
  | .all => .some
  | .least => .most
  | .most => .least
def opp : F → F
  | .nul b => .nul !b
  | .leaf k n => .leaf k.opp n
  | .two b f g => .two (!b) (opp f) (opp g)
  | .one k n f => .one k.opp n (opp f)
def oppH : Hd → Hd
  | .nul b => .nul !b
  | .leaf k n => .leaf k.opp n
  | .two b => .two !b
  | .one k n => .one k.opp n
theorem opp_hd (t : F) : (opp t).hd = oppH t.hd := by cases t <;> rfl
theorem opp_skel : ∀ t : F, skel (opp t) = skel t
  | .nul _ => rfl
  | .leaf _ _ => rfl
  | .two _ f g => by simp [opp, skel, opp_skel f, opp_skel g]
  | .one _ _ f => by simp [opp, skel, opp_skel f]
theorem opp_size (t : F) : (opp t).size = t.size := same_size (opp_skel t)
theorem opp_depth (t : F) : (opp t).depth = t.depth := by rw [← skel_depth, opp_skel, skel_depth]
theorem opp_opp : ∀ t : F, opp (opp t) = t
  | .nul b => by simp [opp]
  | .leaf k n => by cases k <;> rfl
  | .two b f g => by simp [opp, opp_opp f, opp_opp g]
  | .one k n f => by cases k <;> simp [opp, One.opp, opp_opp f]
theorem bind_opp (k : One) : k.opp.bind = k.bind := by cases k <;> rfl
theorem opp_fv : ∀ t : F, fv (opp t) = fv t
  | .nul _ => rfl
  | .leaf k n => by cases k <;> rfl
  | .two b f g => by simp [opp, fv, opp_fv f, opp_fv g]
  | .one k n f => by simp only [opp, fv, bind_opp, opp_fv f]
theorem opp_closed {t : F} (h : Closed t) : Closed (opp t) := by
  rw [← closed_fv] at h ⊢
  rw [opp_fv, h]
theorem opp_heads : ∀ (t : F) (a : Int) (i : Nat) (st st' : Stk), ((info (opp t) a i st').map fun r => r.sub.hd) = (info t a i st).map fun r => oppH r.sub.hd
  | .nul _, _, _, _, _ => rfl
  | .leaf _ _, _, _, _, _ => rfl
  | .two b f g, a, i, st, st' => by
    simp only [opp, info, List.map_cons, List.map_append, opp_heads f i (i + 1) st st', opp_size, opp_heads g i (i + 1 + f.size) st st']
    rfl
  | .one k n f, a, i, st, st' => by
    simp only [opp, info, List.map_cons, opp_heads f i (i + 1) (if k.bind = true then (n, i) :: st else st)]
    rfl
end Fw

/-! Worlds as the laws draw them, and what is true in them: pure mathematics. -/
namespace Fw
structure Wd where
  facts : List (List Int)
  steps : List (Int × Int × Int)
def Wd.n (W : Wd) : Nat := W.facts.length
def rng (n : Nat) : List Int := (List.range n).map Int.ofNat
theorem rng_get {n i : Nat} (h : i < n) : (rng n)[i]? = some (i : Int) := by
  unfold rng
  rw [List.getElem?_map, List.getElem?_range h]
  rfl
theorem rng_len (n : Nat) : (rng n).length = n := by unfold rng; rw [List.length_map, List.length_range]
theorem rng_mem {n : Nat} {x : Int} : x ∈ rng n ↔ 0 ≤ x ∧ x < n := by
  unfold rng
  rw [List.mem_map]
  constructor
  · rintro ⟨a, h, rfl⟩
    have := List.mem_range.mp h
    exact ⟨Int.natCast_nonneg a, Int.ofNat_lt.mpr this⟩
  · rintro ⟨h1, h2⟩
    exact ⟨x.toNat, List.mem_range.mpr (by omega), Int.toNat_of_nonneg h1⟩
theorem rng_succ (n : Nat) : rng (n + 1) = rng n ++ [(n : Int)] := by
  unfold rng
  rw [List.range_succ, List.map_append]
  rfl
theorem rng_take {n i : Nat} (h : i ≤ n) : (rng n).take i = rng i := by
  unfold rng
  rw [← List.map_take, List.take_range, Nat.min_eq_left h]
/-- the facts of a state -/
def Wd.at (W : Wd) (s : Int) : List Int := (W.facts[s.toNat]?).getD []
def Wd.beh (W : Wd) (s l : Int) : List Int := (W.steps.filter fun p => decide (p.1 = s) && decide (p.2.1 = l)).map fun p => p.2.2
/-- each step leads to a state -/
def Wd.Good (W : Wd) : Prop := ∀ p ∈ W.steps, 0 ≤ p.2.2 ∧ p.2.2 < W.n
def sIn (X : List Int) (s : Int) : Bool := decide (s ∈ X)
def flt (n : Nat) (p : Int → Bool) : List Int := (rng n).filter p
def setE (e : Int → List Int) (x : Int) (X : List Int) : Int → List Int := fun y => if y = x then X else e y
def iter (f : List Int → List Int) : Nat → List Int → List Int
  | 0, X => X
  | k + 1, X => f (iter f k X)
def val (W : Wd) : F → (Int → List Int) → List Int
  | .nul b, _ => if b = true then rng W.n else []
  | .leaf .has n, _ => flt W.n fun s => sIn (W.at s) n
  | .leaf .lacks n, _ => flt W.n fun s => !sIn (W.at s) n
  | .leaf .var x, e => e x
  | .two b f g, e => if b = true then flt W.n (fun s => sIn (val W g e) s && sIn (val W f e) s) else flt W.n (fun s => sIn (val W g e) s || sIn (val W f e) s)
  | .one .some l f, e => flt W.n fun s => decide (0 < (((W.beh s l).filter (sIn (val W f e))).length : Int))
  | .one .all l f, e => flt W.n fun s => decide ((((W.beh s l).filter (fun k => !sIn (val W f e) k)).length : Int) = 0)
  | .one .least x f, e => iter (fun X => val W f (setE e x X)) (W.n + 1) []
  | .one .most x f, e => iter (fun X => val W f (setE e x X)) (W.n + 1) (rng W.n)
/-- the others -/
def co (n : Nat) (X : List Int) : List Int := flt n fun s => !sIn X s
theorem flt_congr {n : Nat} {p q : Int → Bool} (h : ∀ s : Int, 0 ≤ s → s < (n : Int) → p s = q s) : flt n p = flt n q :=
  List.filter_congr fun s hs => h s (rng_mem.mp hs).1 (rng_mem.mp hs).2
theorem sIn_flt {n : Nat} {p : Int → Bool} {s : Int} (h0 : 0 ≤ s) (h1 : s < (n : Int)) : sIn (flt n p) s = p s := by
  unfold sIn flt
  cases e : p s with
  | true => exact decide_eq_true (List.mem_filter.mpr ⟨rng_mem.mpr ⟨h0, h1⟩, e⟩)
  | false => exact decide_eq_false fun h => by rw [(List.mem_filter.mp h).2] at e; cases e
theorem co_flt {n : Nat} {p : Int → Bool} : co n (flt n p) = flt n fun s => !p s := flt_congr fun s h0 h1 => by rw [sIn_flt h0 h1]
theorem sIn_co {n : Nat} {X : List Int} {s : Int} (h0 : 0 ≤ s) (h1 : s < (n : Int)) : sIn (co n X) s = !sIn X s := sIn_flt h0 h1
theorem rng_flt (n : Nat) : rng n = flt n fun _ => true := (List.filter_eq_self.mpr fun _ _ => rfl).symm
theorem co_rng (n : Nat) : co n (rng n) = [] := by
  rw [rng_flt, co_flt]
  exact List.filter_eq_nil_iff.mpr fun _ _ h => by cases h
theorem co_nil (n : Nat) : co n [] = rng n := by
  unfold co
  rw [rng_flt]
  exact flt_congr fun s _ _ => rfl
theorem setE_co {n : Nat} {e : Int → List Int} {x : Int} {X : List Int} : setE (fun y => co n (e y)) x (co n X) = fun y => co n (setE e x X y) := by
  funext y
  unfold setE
  by_cases h : y = x
  · rw [if_pos h, if_pos h]
  · rw [if_neg h, if_neg h]
theorem iter_co {n : Nat} {f g : List Int → List Int} (h : ∀ X, g (co n X) = co n (f X)) : ∀ (k : Nat) (X : List Int), iter g k (co n X) = co n (iter f k X)
  | 0, X => rfl
  | k + 1, X => by
    show g (iter g k (co n X)) = co n (f (iter f k X))
    rw [iter_co h k X, h]
theorem val_opp {W : Wd} (G : W.Good) : ∀ (t : F) (e : Int → List Int), val W (opp t) (fun y => co W.n (e y)) = co W.n (val W t e)
  | .nul b, e => by
    cases b
    · show (if true = true then rng W.n else []) = co W.n (if false = true then rng W.n else [])
      rw [if_pos rfl, if_neg Bool.false_ne_true, co_nil]
    · show (if false = true then rng W.n else []) = co W.n (if true = true then rng W.n else [])
      rw [if_pos rfl, if_neg Bool.false_ne_true, co_rng]
  | .leaf .has n, e => by
    show flt W.n _ = co W.n (flt W.n _)
    rw [co_flt]
  | .leaf .lacks n, e => by
    show flt W.n _ = co W.n (flt W.n _)
    rw [co_flt]
    exact flt_congr fun s _ _ => (Bool.not_not _).symm
  | .leaf .var x, e => rfl
  | .two b f g, e => by
    cases b
    · show (if true = true then _ else _) = co W.n (if false = true then _ else _)
      rw [if_pos rfl, if_neg Bool.false_ne_true, co_flt, val_opp G f e, val_opp G g e]
      exact flt_congr fun s h0 h1 => by rw [sIn_co h0 h1, sIn_co h0 h1, Bool.not_or]
    · show (if false = true then _ else _) = co W.n (if true = true then _ else _)
      rw [if_pos rfl, if_neg Bool.false_ne_true, co_flt, val_opp G f e, val_opp G g e]
      exact flt_congr fun s h0 h1 => by rw [sIn_co h0 h1, sIn_co h0 h1, Bool.not_and]
  | .one .some l f, e => by
    show flt W.n _ = co W.n (flt W.n _)
    rw [co_flt, val_opp G f e]
    refine flt_congr fun s h0 h1 => ?_
    have : (W.beh s l).filter (fun k => !sIn (co W.n (val W f e)) k) = (W.beh s l).filter (sIn (val W f e)) := by
      refine List.filter_congr fun k hk => ?_
      obtain ⟨p, hp, rfl⟩ := List.mem_map.mp hk
      have := G p (List.mem_filter.mp hp).1
      rw [sIn_co this.1 this.2, Bool.not_not]
    rw [this, ← decide_not]
    exact decide_eq_decide.mpr ⟨fun h => by omega, fun h => by omega⟩
  | .one .all l f, e => by
    show flt W.n _ = co W.n (flt W.n _)
    rw [co_flt, val_opp G f e]
    refine flt_congr fun s h0 h1 => ?_
    have : (W.beh s l).filter (sIn (co W.n (val W f e))) = (W.beh s l).filter (fun k => !sIn (val W f e) k) := by
      refine List.filter_congr fun k hk => ?_
      obtain ⟨p, hp, rfl⟩ := List.mem_map.mp hk
      have := G p (List.mem_filter.mp hp).1
      rw [sIn_co this.1 this.2]
    rw [this, ← decide_not]
    exact decide_eq_decide.mpr ⟨fun h => by omega, fun h => by omega⟩
  | .one .least x f, e => by
    show iter (fun X => val W (opp f) (setE (fun y => co W.n (e y)) x X)) (W.n + 1) (rng W.n) = co W.n (iter (fun X => val W f (setE e x X)) (W.n + 1) [])
    rw [← co_nil, iter_co (f := fun X => val W f (setE e x X))]
    exact fun X => by rw [setE_co, val_opp G f]
  | .one .most x f, e => by
    show iter (fun X => val W (opp f) (setE (fun y => co W.n (e y)) x X)) (W.n + 1) [] = co W.n (iter (fun X => val W f (setE e x X)) (W.n + 1) (rng W.n))
    rw [← co_rng W.n, iter_co (f := fun X => val W f (setE e x X))]
    exact fun X => by rw [setE_co, val_opp G f]
/-- all values are ranks of states -/
theorem val_in {W : Wd} : ∀ (t : F) (e : Int → List Int), (∀ x ∈ fv t, (e x).length ≤ W.n) → (val W t e).length ≤ W.n
  | .nul b, e, h => by
    show (if b = true then rng W.n else []).length ≤ _
    split
    · rw [rng_len]; exact Nat.le_refl _
    · exact Nat.zero_le _
  | .leaf .has n, e, h => Nat.le_trans (List.length_filter_le _ _) (by rw [rng_len]; exact Nat.le_refl _)
  | .leaf .lacks n, e, h => Nat.le_trans (List.length_filter_le _ _) (by rw [rng_len]; exact Nat.le_refl _)
  | .leaf .var x, e, h => h x (List.mem_singleton.mpr rfl)
  | .two b f g, e, h => by
    show (if b = true then flt _ _ else flt _ _).length ≤ _
    split <;> exact Nat.le_trans (List.length_filter_le _ _) (by rw [rng_len]; exact Nat.le_refl _)
  | .one .some l f, e, h => Nat.le_trans (List.length_filter_le _ _) (by rw [rng_len]; exact Nat.le_refl _)
  | .one .all l f, e, h => Nat.le_trans (List.length_filter_le _ _) (by rw [rng_len]; exact Nat.le_refl _)
  | .one .least x f, e, h => iter_in (fun X hX => val_in f _ fun y hy => setE_in (fv_one rfl) h hX y hy) _ _ (Nat.zero_le _)
  | .one .most x f, e, h => iter_in (fun X hX => val_in f _ fun y hy => setE_in (fv_one rfl) h hX y hy) _ _ (by rw [rng_len]; exact Nat.le_refl _)
where
  iter_in {n : Nat} {f : List Int → List Int} (hf : ∀ X, X.length ≤ n → (f X).length ≤ n) : ∀ (k : Nat) (X : List Int), X.length ≤ n → (iter f k X).length ≤ n
    | 0, X, h => h
    | k + 1, X, h => hf _ (iter_in hf k X h)
  fv_one {k : One} {x : Int} {f : F} (hk : k.bind = true) : ∀ y ∈ fv f, y ≠ x → y ∈ fv (.one k x f) := fun y hy hn => by
    simp only [fv, if_pos hk, List.mem_filter, decide_eq_true_eq]
    exact ⟨hy, hn⟩
  setE_in {n : Nat} {e : Int → List Int} {x : Int} {X : List Int} {A B : List Int} (hs : ∀ y ∈ A, y ≠ x → y ∈ B) (h : ∀ y ∈ B, (e y).length ≤ n) (hX : X.length ≤ n) : ∀ y ∈ A, (setE e x X y).length ≤ n := fun y hy => by
    unfold setE
    by_cases c : y = x
    · rw [if_pos c]; exact hX
    · rw [if_neg c]; exact h y (hs y hy c)
end Fw

set_option maxRecDepth 100000
set_option maxHeartbeats 4000000
/-! all of a generator expression over zip of two lists or two tuples. -/
namespace Fw
open PySem PySem.Spec PyProof.Rows L2 GxR
theorem walksU_zipL {prog : Program} {w : World} {A : Around} (hh : A.handled = none) {z TI TO i1 i2 l1 l2 : Addr} (D : ZipApart z TI TO i1 i2 l1 l2) (xs ys : Array Value) :
    WalksU prog w A z [z, TI, TO, i1, i2, l1, l2] [z, TO, i1, i2] (min xs.size ys.size)
      (fun i vals => ∃ x y, xs[i]? = some x ∧ ys[i]? = some y ∧ vals = #[x, y])
      (fun i h => IsZip h z TI TO .none ∧ IsPair h TI (.ref i1) (.ref i2) ∧ (∃ a b, IsPair h TO a b) ∧ h.IsListIter i1 l1 i ∧ h.IsListIter i2 l2 i ∧ h.IsList l1 xs ∧ h.IsList l2 ys)
      (fun i T h => IsZip h z TI TO (rawInt T) ∧ IsPair h TI (.ref i1) (.ref i2) ∧ (∃ a b, IsPair h TO a b) ∧ h.IsListIter i1 l1 (i + 1) ∧ h.IsListIter i2 l2 (i + 1) ∧ h.IsList l1 xs ∧ h.IsList l2 ys ∧
        T ≠ z ∧ T ≠ TO ∧ T ≠ i1 ∧ T ≠ i2) := (WalksT.zip2 hh z TI TO i1 i2 l1 l2 D xs ys).toU
theorem isTuple_at {h h' : Heap} {a : Addr} {xs : Array Value} (x : h.IsTuple a xs) (k : ∀ o, h.get? a = some o → h'.get? a = some o) : h'.IsTuple a xs := let ⟨o, e, r⟩ := x; ⟨o, k o e, r⟩
theorem walksU_zipT {prog : Program} {w : World} {A : Around} (hh : A.handled = none) {z TI TO i1 i2 l1 l2 : Addr} (D : ZipApart z TI TO i1 i2 l1 l2) (xs ys : Array Value) :
    WalksU prog w A z [z, TI, TO, i1, i2, l1, l2] [z, TO, i1, i2] (min xs.size ys.size)
      (fun i vals => ∃ x y, xs[i]? = some x ∧ ys[i]? = some y ∧ vals = #[x, y])
      (fun i h => IsZip h z TI TO .none ∧ IsPair h TI (.ref i1) (.ref i2) ∧ (∃ a b, IsPair h TO a b) ∧ h.IsTupleIter i1 l1 i ∧ h.IsTupleIter i2 l2 i ∧ h.IsTuple l1 xs ∧ h.IsTuple l2 ys)
      (fun i T h => IsZip h z TI TO (rawInt T) ∧ IsPair h TI (.ref i1) (.ref i2) ∧ (∃ a b, IsPair h TO a b) ∧ h.IsTupleIter i1 l1 (i + 1) ∧ h.IsTupleIter i2 l2 (i + 1) ∧ h.IsTuple l1 xs ∧ h.IsTuple l2 ys ∧
        T ≠ z ∧ T ≠ TO ∧ T ≠ i1 ∧ T ≠ i2) where
  sub := fun c hc => by simp at hc ⊢; rcases hc with rfl | rfl | rfl | rfl <;> simp
  frame := fun i h h' hst hk => by
    obtain ⟨hz, hTI, ⟨a, b, hTO⟩, h1, h2, hl1, hl2⟩ := hst
    exact ⟨hk z (by simp) _ hz, hk TI (by simp) _ hTI, ⟨a, b, hk TO (by simp) _ hTO⟩, h1.at fun o e => hk i1 (by simp) o e, h2.at fun o e => hk i2 (by simp) o e,
      isTuple_at hl1 fun o e => hk l1 (by simp) o e, isTuple_at hl2 fun o e => hk l2 (by simp) o e⟩
  item := fun i s Q E hi hst hQ => by
    obtain ⟨hz, hTI, ⟨a, b, hTO⟩, h1, h2, hl1, hl2⟩ := hst
    have hix : i < xs.size := Nat.lt_of_lt_of_le hi (Nat.min_le_left ..)
    have hiy : i < ys.size := Nat.lt_of_lt_of_le hi (Nat.min_le_right ..)
    refine RZ.pyNext_zipT_item D hz hTI hTO h1 h2 hl1 hl2 (Array.getElem?_eq_getElem hix) (Array.getElem?_eq_getElem hiy) fun h' a1 a2 a3 a4 a5 a6 hk => ?_
    have lt : ∀ {c o}, s.heap.get? c = some o → s.heap.objs.size ≠ c := fun e => Nat.ne_of_gt (Heap.lt_size e)
    exact hQ s.heap.objs.size #[xs[i], ys[i]] h' s.toks ⟨_, _, Array.getElem?_eq_getElem hix, Array.getElem?_eq_getElem hiy, rfl⟩ ⟨_, a5, rfl, _, rfl⟩
      ⟨a1, hk _ _ D.TIz D.TITO D.TIi1 D.TIi2 hTI, ⟨_, _, a2⟩, a3, a4, isTuple_at hl1 fun o e => hk _ o D.l1z D.l1TO D.l1i1 D.l1i2 e, isTuple_at hl2 fun o e => hk _ o D.l2z D.l2TO D.l2i1 D.l2i2 e,
        lt hz, lt hTO, (by obtain ⟨_, e, _⟩ := h1; exact lt e), (by obtain ⟨_, e, _⟩ := h2; exact lt e)⟩
      fun c o hc e => hk c o (fun x => hc (by simp [x])) (fun x => hc (by simp [x])) (fun x => hc (by simp [x])) (fun x => hc (by simp [x])) e
  go := fun elts k pos i T s Q E hm hQ => by
    obtain ⟨hz, hTI, ⟨a, b, hTO⟩, h1, h2, hl1, hl2, _⟩ := hm
    refine wpAny_letOwnedTupleGo_zip hz fun h' hz' hs' => hQ h' ⟨hz', hs'.extBut _ _ D.TIz hTI, ⟨a, b, hs'.extBut _ _ D.TOz hTO⟩, h1.at fun o e => hs'.extBut _ _ D.i1z e, h2.at fun o e => hs'.extBut _ _ D.i2z e,
      isTuple_at hl1 fun o e => hs'.extBut _ _ D.l1z e, isTuple_at hl2 fun o e => hs'.extBut _ _ D.l2z e⟩ fun c o hc e => hs'.extBut _ _ (fun x => hc (by simp [x])) e
  apart := fun i T h hm hT => by
    obtain ⟨_, _, _, _, _, _, _, t1, t2, t3, t4⟩ := hm
    simp at hT
    rcases hT with rfl | rfl | rfl | rfl
    · exact t1 rfl
    · exact t2 rfl
    · exact t3 rfl
    · exact t4 rfl
  done := fun s Q E hst hQ => by
    obtain ⟨hz, hTI, ⟨a, b, hTO⟩, h1, h2, hl1, hl2⟩ := hst
    have hend : xs[min xs.size ys.size]? = none ∨ ys[min xs.size ys.size]? = none := by
      rcases Nat.le_total xs.size ys.size with h | h
      · exact .inl (by rw [Nat.min_eq_left h]; exact Array.getElem?_eq_none (Nat.le_refl _))
      · exact .inr (by rw [Nat.min_eq_right h]; exact Array.getElem?_eq_none (Nat.le_refl _))
    exact RZ.pyNext_zipT_end hh D hz hTI hTO h1 h2 hl1 hl2 hend fun h' hk => hQ h' s.toks fun c o hc e =>
      hk c o (fun x => hc (by simp [x])) (fun x => hc (by simp [x])) (fun x => hc (by simp [x])) (fun x => hc (by simp [x])) e
  self := fun i s Q E hst hQ => wpAny_pyIter_zip hst.1 hQ
theorem vals_get : ∀ {xs : List V} {us : List Value} {j : Nat} {u : Value}, Vals xs us → us[j]? = some u → ∃ x, xs[j]? = some x ∧ RelV x u
  | _, _, 0, _, .cons r _, e => by
    simp at e
    subst e
    exact ⟨_, rfl, r⟩
  | _, _, j + 1, _, .cons _ rr, e => by
    simp at e
    obtain ⟨x, hx, r⟩ := vals_get rr e
    exact ⟨x, by simpa using hx, r⟩
/-- the generator expression's own scope, two names -/
structure GenS2 (env : Env) (scope : Scope) (xa xb : Str) : Prop where
  kind : scope.kind = .function
  co : scope.isCoroutine = false
  cell : ∀ y ∈ scope.names, y.2 ≠ .cell
  dot : scope.names.lookup (".0" : Str) = some NameKind.local
  la : scope.names.lookup xa = some .local
  lb : scope.names.lookup xb = some .local
  free : ∀ y ∈ scope.names, y.2 = .free → ∃ c, env.cells.lookup y.1 = some c
/-- the element at two values: a test whose outcome is r -/
def EltZ (prog : Program) (w : World) (scope : Scope) (xa xb : Str) (elt : Expr) (U : Nat) (hb : Heap) (P : Addr) (x y : V) (r : Bool) : Prop :=
  ∀ (cenv : Env) (A' : Around) (E' : Value → Shared → Prop) (va vb : Value) (s₂ : Shared) (m₂ : Str → Option Value), cenv.scope = scope → A'.units ≤ U → s₂.heap.Ns cenv.locals m₂ → m₂ xa = some va → m₂ xb = some vb → RelV x va → RelV y vb →
    (∀ b o, b ≠ P → hb.get? b = some o → s₂.heap.get? b = some o) → wpAny (model prog w) A' (eval elt cenv) (fun v s₃ => v = .bool r ∧ Keeps s₂ s₃) E' s₂
def ReadyZ (X : Cx) (pins : List (Addr × Obj)) (σ : L2.St) (H1 : Hp) (P : Addr) (rs : List Bool) (g : Addr) (s5 : Shared) : Prop :=
  ∃ (fp wr : List Addr) (G : Array GenState → Array GenState → Prop) (n : Nat) (F : Nat → Value → Prop) (St : Nat → Shared → Prop),
    n = rs.length ∧ WalksS X.prog X.w X.A.in1 g fp wr G n F St ∧ St 0 s5 ∧
    TruthOf X.prog X.w X.A.in1 F (fun j => (rs[j]?).getD false) ∧
    ∀ s', Moved wr G s5 s' → ∃ H2, Tabbed P H1 H2 ∧ Inv X pins σ H2 s'
section
variable {X : Cx} {pins : List (Addr × Obj)} {σ : L2.St} {H : Hp} {s : Shared}
/-- what the test does at each pair, in any heap like H1 -/
def EltsZ (X : Cx) (scope : Scope) (xa xb : Str) (elt : Expr) (P : Addr) (H1 : Hp) (xs ys : List V) (rs : List Bool) : Prop :=
  rs.length = min xs.length ys.length ∧ ∀ (s : Shared) (pins : List (Addr × Obj)) (σ : L2.St), Inv X pins σ H1 s → ∀ (i : Nat) (x y : V) (r : Bool), xs[i]? = some x → ys[i]? = some y → rs[i]? = some r → EltZ X.prog X.w scope xa xb elt (X.A.units + 8) s.heap P x y r
theorem gen_zip {c P : Addr} {elt e e2 : Expr} {xa xb : Str} {pa pb pt pz cpos gpos : Pos} {kt : Nat} {scope : Scope} {ta : TA} {k : Nat} {Q' : Value → Shared → Prop} {R : List Bool → Hp → Prop}
    (hr : Room k X.A) (TB : TabB X.base X.mg c P) (hcode : X.env.code = .ref c) (S : GenS2 X.env scope xa xb) (hab : xa ≠ xb) (hg : Gl X "zip") (hm : X.mg "zip" = none) (ha : PA X [e, e2] ta)
    (hse : starEach [e, e2] X.env = (false, eval e X.env) :: starEach [e2] X.env) (hpl : (backTo cpos (starEach [e2] X.env)).any (·.1) = false)
    (hs : ∀ v, genFold (.Call (.Name "zip" pz) [e, e2] [] cpos) X.env v = pure v) (I : Inv X pins σ H s)
    (h : ta σ H fun vs H1 => ∃ a b xs ys rs, vs = [.ref a, .ref b] ∧ ((SqL X.K H1 a xs ∧ SqL X.K H1 b ys) ∨ (SqT X.K H1 a xs ∧ SqT X.K H1 b ys)) ∧ TabG H1 P ∧ EltsZ X scope xa xb elt P H1 xs ys rs ∧ R rs H1)
    (hQ : ∀ rs H1 g s5, R rs H1 → ReadyZ X pins σ H1 P rs g s5 → Q' (.ref g) s5) :
    wpAny (model X.prog X.w) X.A (eval (.GeneratorExp elt [⟨.Tuple [.Name xa pa, .Name xb pb] kt pt, .Call (.Name "zip" pz) [e, e2] [] cpos, [], 0⟩] scope gpos) X.env) Q' X.xe s := by
  refine wpAny_GeneratorExp_walksQTD hr.hd S.co (closure_ok S.free) S.cell S.dot S.la S.lb hab S.kind (by have := hr.dp; omega) ?_ hs
  refine Call_ (ld_blt I hg hm PyProof.Rows.boot_zip (PyProof.Rows.callWith_type1 (thn (ha.run cpos pins s σ H _ I h) fun us s1 ⟨vs, H1, I1, r1, q1⟩ => ?_) hse hpl))
  obtain ⟨a, b, xs, ys, rs, ex, hab2, ⟨ps, hP, ht⟩, ⟨hlen, hel⟩, q1⟩ := q1
  subst ex
  cases r1 with
  | cons r rr =>
  cases rr with
  | cons r' rr =>
  cases rr
  cases r
  cases r'
  have hPs : s1.heap.get? P = some { cls := .none, data := .fields ps } := I1.hok P _ hP
  have hPlt : P < s1.heap.objs.size := Heap.lt_size hPs
  -- from the zip object on, over lists or over tuples
  have go : ∀ (h' : Heap) (its its2 : List Value) (St₀ : Nat → Heap → Prop) (Mid : Nat → Addr → Heap → Prop), Vals xs its → Vals ys its2 → (∀ c o, s1.heap.get? c = some o → h'.get? c = some o) → h'.objs.size = s1.heap.objs.size + 5 →
      a < s1.heap.objs.size → b < s1.heap.objs.size → a ≠ P → b ≠ P →
      (∀ A' : Around, A'.handled = none → WalksU X.prog X.w A' (s1.heap.objs.size + 4) [s1.heap.objs.size + 4, s1.heap.objs.size + 2, s1.heap.objs.size + 3, s1.heap.objs.size, s1.heap.objs.size + 1, a, b] [s1.heap.objs.size + 4, s1.heap.objs.size + 3, s1.heap.objs.size, s1.heap.objs.size + 1] (min its.toArray.size its2.toArray.size)
        (fun i vals => ∃ x y, its.toArray[i]? = some x ∧ its2.toArray[i]? = some y ∧ vals = #[x, y]) St₀ Mid) → St₀ 0 h' →
      { s1 with heap := h' }.heap.NoLimit ∧
      wpAny (model X.prog X.w) X.A (genexprCode X.env gpos (X.env.qual ++ "<genexpr>") scope) (fun code s₃ => wpAny (model X.prog X.w) X.A (builtinsFor X.env.globals X.env.builtins) (fun bi s₄ =>
        ∃ Ia fp wr n₀ Pt St₀ Mid pz F, Value.ref (s1.heap.objs.size + 4) = .ref Ia ∧ (∀ A' : Around, A'.handled = none → WalksU X.prog X.w A' Ia fp wr n₀ Pt St₀ Mid) ∧ (∀ i vals, Pt i vals → ∃ va vb, vals = #[va, vb]) ∧ St₀ 0 s₄.heap ∧ (∀ b ∈ fp, b < s₄.heap.objs.size) ∧ s₄.heap.NoLimit ∧ cStatics ∉ wr ∧
          (∀ href : Heap, (∀ b o, s₄.heap.get? b = some o → href.get? b = some o) →
            QuietGenTD X.prog X.w (genEnv scope (cloFrom X.env.cells scope.names []) s₄.heap.objs.size code bi X.env) xa xb [] elt (List.range s₄.heap.objs.size) wr Pt pz F href (X.A.depth + 1) (X.A.units + 8)) ∧
          (∀ a h₅ tk gs, gs.bare = true → s₄.heap.objs.size < a → h₅.objs.size = a + 1 → (∀ b o, s₄.heap.get? b = some o → h₅.get? b = some o) →
            WalksS X.prog X.w X.A.in4 a (a :: s₄.heap.objs.size :: List.range s₄.heap.objs.size) (s₄.heap.objs.size :: wr) (GenOnlyQ s₄.gens.size) (passing pz n₀ 0).length
              (fun j y => ∃ i, (passing pz n₀ 0)[j]? = some i ∧ F i y) (GenAt X.prog X.w X.A.in4 a s₄.gens.size s₄.heap.objs.size (List.range s₄.heap.objs.size) wr pz n₀ F) →
            GenAt X.prog X.w X.A.in4 a s₄.gens.size s₄.heap.objs.size (List.range s₄.heap.objs.size) wr pz n₀ F 0 { s₄ with gens := s₄.gens.push gs, toks := tk, heap := h₅ } →
            Q' (.ref a) { s₄ with gens := s₄.gens.push gs, toks := tk, heap := h₅ })) X.xe s₃) X.xe { s1 with heap := h' } := by
    intro h' its its2 St Mid rv rv2 hk hsz' la lb aP bP W hst
    have l1 := rv.length
    have l2 := rv2.length
    have hP2 : h'.get? P = some { cls := .none, data := .fields ps } := hk _ _ hPs
    have cd : PySem.W.CodeHd h' c P := TB.code.keeps fun b u e => hk _ _ (I1.bk b u e)
    have lim2 : h'.NoLimit := I1.nolimit.keeps hk
    have cont : ∀ (code : Value) (h3 : Heap) (tk : Nat) (ps' : Array Value), Heap.ExtBut P h' h3 → h'.objs.size ≤ h3.objs.size → h3.get? P = some { cls := .none, data := .fields ps' } → (∃ more, ps' = ps ++ more) → TriplesOk ps'.toList →
        wpAny (model X.prog X.w) X.A (builtinsFor X.env.globals X.env.builtins) (fun bi s₄ =>
          ∃ Ia fp wr n₀ Pt St₀ Mid pz F, Value.ref (s1.heap.objs.size + 4) = .ref Ia ∧ (∀ A' : Around, A'.handled = none → WalksU X.prog X.w A' Ia fp wr n₀ Pt St₀ Mid) ∧ (∀ i vals, Pt i vals → ∃ va vb, vals = #[va, vb]) ∧ St₀ 0 s₄.heap ∧ (∀ b ∈ fp, b < s₄.heap.objs.size) ∧ s₄.heap.NoLimit ∧ cStatics ∉ wr ∧
          (∀ href : Heap, (∀ b o, s₄.heap.get? b = some o → href.get? b = some o) →
            QuietGenTD X.prog X.w (genEnv scope (cloFrom X.env.cells scope.names []) s₄.heap.objs.size code bi X.env) xa xb [] elt (List.range s₄.heap.objs.size) wr Pt pz F href (X.A.depth + 1) (X.A.units + 8)) ∧
          (∀ a h₅ tk gs, gs.bare = true → s₄.heap.objs.size < a → h₅.objs.size = a + 1 → (∀ b o, s₄.heap.get? b = some o → h₅.get? b = some o) →
            WalksS X.prog X.w X.A.in4 a (a :: s₄.heap.objs.size :: List.range s₄.heap.objs.size) (s₄.heap.objs.size :: wr) (GenOnlyQ s₄.gens.size) (passing pz n₀ 0).length
              (fun j y => ∃ i, (passing pz n₀ 0)[j]? = some i ∧ F i y) (GenAt X.prog X.w X.A.in4 a s₄.gens.size s₄.heap.objs.size (List.range s₄.heap.objs.size) wr pz n₀ F) →
            GenAt X.prog X.w X.A.in4 a s₄.gens.size s₄.heap.objs.size (List.range s₄.heap.objs.size) wr pz n₀ F 0 { s₄ with gens := s₄.gens.push gs, toks := tk, heap := h₅ } →
            Q' (.ref a) { s₄ with gens := s₄.gens.push gs, toks := tk, heap := h₅ })) X.xe { s1 with heap := h3, toks := tk } := by
      intro code h3 tk ps' hx hsz hP3 hmore ht3
      obtain ⟨bm, ob, e1, e2, e3, e4, e5, e6, e7, e8⟩ := TB.bm
      have hcP : cStatics ≠ P := fun e => by
        obtain ⟨_, hns, _⟩ := I1.nolimit
        obtain ⟨o', es, ep, ho, hd, _⟩ := hns
        rw [e, hPs] at ho
        cases ho
        cases hd
      have hcl : cStatics < s1.heap.objs.size := let ⟨_, hns, _⟩ := I1.nolimit; hns.lt
      have keep3 : ∀ b u, b ≠ P → s1.heap.get? b = some u → h3.get? b = some u := fun b u hb e => hx b u hb (hk _ _ e)
      refine wpAny_builtinsFor (m := X.mg) (by rw [I1.ok.glob]; exact ((I1.mod.glob.keeps I1.bk).keeps hk).extBut hx TB.gP) e1 e2 (keep3 _ _ e4 (I1.bk _ _ e5)) e6 e7 e8 ?_
      refine ⟨s1.heap.objs.size + 4, _, _, _, _, St, Mid, (fun _ => true), (fun i y => ∃ r, rs[i]? = some r ∧ y = .bool r), rfl, W, ?_, ?_, ?_, lim2.extBut hx hcP, ?_, ?_, ?_⟩
      · rintro i vals ⟨x, y, _, _, e⟩
        exact ⟨x, y, e⟩
      · refine (W X.A hr.hd).frame _ _ _ hst fun b' hb u e => hx b' u (fun z => ?_) e
        have : b' = s1.heap.objs.size + 4 ∨ b' = s1.heap.objs.size + 2 ∨ b' = s1.heap.objs.size + 3 ∨ b' = s1.heap.objs.size ∨ b' = s1.heap.objs.size + 1 ∨ b' = a ∨ b' = b := by simpa using hb
        rw [z] at this
        rcases this with q | q | q | q | q | q | q
        · exact absurd hPlt (by rw [q]; exact Nat.not_lt.mpr (Nat.le_add_right _ _))
        · exact absurd hPlt (by rw [q]; exact Nat.not_lt.mpr (Nat.le_add_right _ _))
        · exact absurd hPlt (by rw [q]; exact Nat.not_lt.mpr (Nat.le_add_right _ _))
        · exact absurd hPlt (by rw [q]; exact Nat.lt_irrefl _)
        · exact absurd hPlt (by rw [q]; exact Nat.not_lt.mpr (Nat.le_add_right _ _))
        · exact aP q.symm
        · exact bP q.symm
      · intro b' hb
        show b' < h3.objs.size
        have : b' = s1.heap.objs.size + 4 ∨ b' = s1.heap.objs.size + 2 ∨ b' = s1.heap.objs.size + 3 ∨ b' = s1.heap.objs.size ∨ b' = s1.heap.objs.size + 1 ∨ b' = a ∨ b' = b := by simpa using hb
        refine Nat.lt_of_lt_of_le ?_ (Nat.le_trans (Nat.le_of_eq hsz'.symm) hsz)
        rcases this with q | q | q | q | q | q | q
        · rw [q]; exact Nat.add_lt_add_left (by decide) _
        · rw [q]; exact Nat.add_lt_add_left (by decide) _
        · rw [q]; exact Nat.add_lt_add_left (by decide) _
        · rw [q]; exact Nat.lt_add_of_pos_right (by decide)
        · rw [q]; exact Nat.add_lt_add_left (by decide) _
        · rw [q]; exact Nat.lt_of_lt_of_le la (Nat.le_add_right _ _)
        · rw [q]; exact Nat.lt_of_lt_of_le lb (Nat.le_add_right _ _)
      · intro z
        have : cStatics = s1.heap.objs.size + 4 ∨ cStatics = s1.heap.objs.size + 3 ∨ cStatics = s1.heap.objs.size ∨ cStatics = s1.heap.objs.size + 1 := by simpa using z
        rcases this with q | q | q | q
        · exact absurd hcl (by rw [q]; exact Nat.not_lt.mpr (Nat.le_add_right _ _))
        · exact absurd hcl (by rw [q]; exact Nat.not_lt.mpr (Nat.le_add_right _ _))
        · exact absurd hcl (by rw [q]; exact Nat.lt_irrefl _)
        · exact absurd hcl (by rw [q]; exact Nat.not_lt.mpr (Nat.le_add_right _ _))
      · intro href hhref
        refine ⟨fun A' E' i va vb s₂ m₂ hA _ _ hPv hn hma hmb hkk => ?_, fun A' E' i va vb s₂ m₂ hA _ hu hPv hp hn hma hmb hkk => ?_⟩
        · simp only [List.forIn_nil]
          exact wpAny_pure ⟨rfl, keeps_refl _⟩
        · obtain ⟨x, y, hx', hy', ee⟩ := hPv
          have ea : va = x := by have := congrArg (fun z => z[0]?) ee; simpa using this
          have eb : vb = y := by have := congrArg (fun z => z[1]?) ee; simpa using this
          subst ea eb
          have hx2 : its[i]? = some va := by simpa using hx'
          have hy2 : its2[i]? = some vb := by simpa using hy'
          obtain ⟨x, hxx, rx⟩ := vals_get rv hx2
          obtain ⟨y, hyy, ry⟩ := vals_get rv2 hy2
          have hi : i < rs.length := by
            have h1 := (List.getElem?_eq_some_iff.mp hxx).1
            have h2 := (List.getElem?_eq_some_iff.mp hyy).1
            omega
          have hrr : rs[i]? = some rs[i] := List.getElem?_eq_getElem hi
          refine wpAny_mono (hel s1 pins σ I1 i x y _ hxx hyy hrr _ A' E' va vb s₂ m₂ rfl hu hn hma hmb rx ry fun b' o hb' e => ?_) (fun v s3 r => ⟨⟨_, hrr, r.1⟩, r.2⟩) fun _ _ e => e
          have e3 := keep3 b' o hb' e
          have lt := Heap.lt_size e
          refine hkk b' (List.mem_range.mpr (Nat.lt_of_lt_of_le lt (Nat.le_trans (by rw [hsz']; exact Nat.le_add_right _ _) hsz))) (fun hw => ?_) o (hhref _ _ e3)
          have : b' = s1.heap.objs.size + 4 ∨ b' = s1.heap.objs.size + 3 ∨ b' = s1.heap.objs.size ∨ b' = s1.heap.objs.size + 1 := by simpa using hw
          rcases this with q | q | q | q
          · exact absurd lt (by rw [q]; exact Nat.not_lt.mpr (Nat.le_add_right _ _))
          · exact absurd lt (by rw [q]; exact Nat.not_lt.mpr (Nat.le_add_right _ _))
          · exact absurd lt (by rw [q]; exact Nat.lt_irrefl _)
          · exact absurd lt (by rw [q]; exact Nat.not_lt.mpr (Nat.le_add_right _ _))
      · intro g h5 tk5 gs hgb hag hsz5 hk5 W5 hat
        simp only [GxR.passing_true, List.length_range] at W5
        have en : min its.toArray.size its2.toArray.size = rs.length := by rw [List.size_toArray, List.size_toArray, hlen, ← l1, ← l2]
        refine hQ rs H1 g _ q1 ⟨_, _, _, _, _, _, en, W5.in4_1, hat, ?_, fun s' hm => ?_⟩
        · intro j y sj Qj Ej hy hQj
          obtain ⟨i, hij, r, hrr, rfl⟩ := hy
          obtain ⟨hj, ej⟩ := List.getElem?_eq_some_iff.mp hij
          rw [List.getElem_range] at ej
          subst ej
          have hQ2 : Qj ((rs[j]?).getD false) sj := hQj
          rw [hrr] at hQ2
          exact wpAny_truthy_bool hQ2
        · obtain ⟨more, em⟩ := hmore
          have nwr : ∀ b' u, s1.heap.get? b' = some u → b' ∉ h3.objs.size :: [s1.heap.objs.size + 4, s1.heap.objs.size + 3, s1.heap.objs.size, s1.heap.objs.size + 1] := fun b' u e hb => by
            have hl := Heap.lt_size e
            have : b' = h3.objs.size ∨ b' = s1.heap.objs.size + 4 ∨ b' = s1.heap.objs.size + 3 ∨ b' = s1.heap.objs.size ∨ b' = s1.heap.objs.size + 1 := by simpa using hb
            rcases this with q | q | q | q | q
            · exact absurd hl (by rw [q]; exact Nat.not_lt.mpr (Nat.le_trans (by rw [hsz']; exact Nat.le_add_right _ _) hsz))
            · exact absurd hl (by rw [q]; exact Nat.not_lt.mpr (Nat.le_add_right _ _))
            · exact absurd hl (by rw [q]; exact Nat.not_lt.mpr (Nat.le_add_right _ _))
            · exact absurd hl (by rw [q]; exact Nat.lt_irrefl _)
            · exact absurd hl (by rw [q]; exact Nat.not_lt.mpr (Nat.le_add_right _ _))
          have J := inv_tab (more := more) (h' := s'.heap) (g' := s'.gens) (d' := s'.drawn) (t' := s'.toks) I1 hP (fun b' u hb e => hm.heap b' u (nwr b' u e) (hk5 b' u (keep3 b' u hb e)))
            (by rw [← em]; exact hm.heap P _ (nwr P _ hPs) (hk5 P _ hP3)) (AllBare.movedS (I1.bare.push hgb) hm)
          rw [sh_eta s1 s' hm.os] at J
          exact ⟨upd H1 P (.tbl (ps ++ more)), ⟨⟨ps ++ more, upd_same, by rw [← em]; exact ht3⟩, fun b hb => upd_ne hb⟩, J⟩
    refine ⟨lim2, ?_⟩
    cases hf : codeAmong gpos ps.toList with
    | none =>
      refine wpAny_genexprCodeX hcode (cd.code hP2 ht) (cd.tab hP2) hf fun c' h'' tk hx hge hlt hco' _ htab' _ => ?_
      obtain ⟨o1, vs, f1, tf, fl, tg, inF, tx, tt, op, _, _, _, _, _, _, _, _, _, htr, _⟩ := hco'
      exact cont _ h'' tk _ hx (Nat.le_trans hge (Nat.le_of_lt hlt)) htab'.2 ⟨_, rfl⟩ htr
    | some cv =>
      refine wpAny_genexprCode_hit hcode (cd.code hP2 ht) hf ?_
      exact cont cv h' s1.toks ps (Heap.ExtBut.refl _ _) (Nat.le_refl _) hP2 ⟨#[], by simp⟩ ht
  rcases hab2 with ⟨hqx, hqy⟩ | ⟨hqx, hqy⟩
  · obtain ⟨its, rv, p1, _⟩ := I1.list hqx
    obtain ⟨its2, rv2, p2, _⟩ := I1.list hqy
    refine call_zip_2 p1.isList p2.isList fun h' hz hTI hTO h1 h2 hsz hk => wpAny_pyIter_zip hz ?_
    refine go h' its its2 _ _ rv rv2 hk hsz p1.lt p2.lt ?_ ?_ (fun A' hA => walksU_zipL hA (zipApart_new p1.lt p2.lt) _ _) ⟨hz, hTI, ⟨_, _, hTO⟩, h1, h2, Heap.IsList.at p1.isList (fun o e => hk _ o e), Heap.IsList.at p2.isList (fun o e => hk _ o e)⟩
    · intro e; subst e
      obtain ⟨o, ho, hc, _⟩ := p1.isList
      rw [hPs] at ho; cases ho; cases hc
    · intro e; subst e
      obtain ⟨o, ho, hc, _⟩ := p2.isList
      rw [hPs] at ho; cases ho; cases hc
  · obtain ⟨its, rv, p1, _⟩ := I1.tuple hqx
    obtain ⟨its2, rv2, p2, _⟩ := I1.tuple hqy
    obtain ⟨o1, ho1, hc1, _⟩ := id p1
    obtain ⟨o2, ho2, hc2, _⟩ := id p2
    refine RZ.call_zipT (show s1.heap.IsTuple a its.toArray from p1) (show s1.heap.IsTuple b its2.toArray from p2) fun h' hz hTI hTO h1 h2 hsz hk => wpAny_pyIter_zip hz ?_
    refine go h' its its2 _ _ rv rv2 hk hsz (Heap.lt_size ho1) (Heap.lt_size ho2) ?_ ?_ (fun A' hA => walksU_zipT hA (zipApart_new (Heap.lt_size ho1) (Heap.lt_size ho2)) _ _) ⟨hz, hTI, ⟨_, _, hTO⟩, h1, h2, isTuple_at p1 (fun o e => hk _ o e), isTuple_at p2 (fun o e => hk _ o e)⟩
    · intro e; subst e
      rw [hPs] at ho1; cases ho1; cases hc1
    · intro e; subst e
      rw [hPs] at ho2; cases ho2; cases hc2
theorem all_getD (rs : List Bool) : (List.range rs.length).all (fun j => (rs[j]?).getD false) = rs.all id := by
  rw [Bool.eq_iff_iff, List.all_eq_true, List.all_eq_true]
  constructor
  · intro h b hb
    obtain ⟨j, hj, e⟩ := List.getElem_of_mem hb
    have q := h j (List.mem_range.mpr hj)
    rw [List.getElem?_eq_getElem hj, e] at q
    exact q
  · intro h j hj
    have hj' := List.mem_range.mp hj
    rw [List.getElem?_eq_getElem hj']
    exact h _ (List.getElem_mem hj')
/-- all(test for a, b in zip(x, y)), x and y two lists or two tuples; behind it the def's table may have grown -/
def tAllZ (X : Cx) (scope : Scope) (xa xb : Str) (elt : Expr) (P : Addr) (ta : TA) : TE := fun σ H Q => ta σ H fun vs H1 => ∃ a b xs ys rs, vs = [.ref a, .ref b] ∧ ((SqL X.K H1 a xs ∧ SqL X.K H1 b ys) ∨ (SqT X.K H1 a xs ∧ SqT X.K H1 b ys)) ∧ TabG H1 P ∧
  EltsZ X scope xa xb elt P H1 xs ys rs ∧ ∀ H2, Tabbed P H1 H2 → Q (.bl (rs.all id)) H2
theorem pe_allZ {c P : Addr} {elt e e2 : Expr} {xa xb : Str} {pa pb pt pz p pos cpos gpos : Pos} {kt : Nat} {scope : Scope} {ta : TA} {k : Nat}
    (hr : Room k X.A) (TB : TabB X.base X.mg c P) (hcode : X.env.code = .ref c) (S : GenS2 X.env scope xa xb) (hab : xa ≠ xb) (hg : Gl X "all") (hm : X.mg "all" = none) (hgz : Gl X "zip") (hmz : X.mg "zip" = none) (ha : PA X [e, e2] ta)
    (hb : bootBuiltins "all" = some (.builtin "all") := by decide +kernel)
    (hse : starEach [e, e2] X.env = (false, eval e X.env) :: starEach [e2] X.env := by rfl) (hpl : (backTo cpos (starEach [e2] X.env)).any (·.1) = false := by rfl)
    (hs : ∀ v, genFold (.Call (.Name "zip" pz) [e, e2] [] cpos) X.env v = pure v := by intro _; rfl)
    (he : starEach [.GeneratorExp elt [⟨.Tuple [.Name xa pa, .Name xb pb] kt pt, .Call (.Name "zip" pz) [e, e2] [] cpos, [], 0⟩] scope gpos] X.env = (false, eval (.GeneratorExp elt [⟨.Tuple [.Name xa pa, .Name xb pb] kt pt, .Call (.Name "zip" pz) [e, e2] [] cpos, [], 0⟩] scope gpos) X.env) :: starEach [] X.env := by rfl) :
    PE X (.Call (.Name "all" p) [.GeneratorExp elt [⟨.Tuple [.Name xa pa, .Name xb pb] kt pt, .Call (.Name "zip" pz) [e, e2] [] cpos, [], 0⟩] scope gpos] [] pos) (tAllZ X scope xa xb elt P ta) := by
  refine ⟨fun pins s σ H Q I h => ?_⟩
  refine wpAny_Call_Name_kw (ld_blt I hg hm hb ?_)
  refine PyProof.Rows.callWith_builtin1 ?_ he (by rfl)
  rw [he]
  show wpAny _ _ (spliced ((false, eval (.GeneratorExp elt [⟨.Tuple [.Name xa pa, .Name xb pb] kt pt, .Call (.Name "zip" pz) [e, e2] [] cpos, [], 0⟩] scope gpos) X.env) :: backTo pos (starEach [] X.env))) _ _ s
  refine Calls.spliced_cons (gen_zip (R := fun rs H1 => ∀ H2, Tabbed P H1 H2 → Q (.bl (rs.all id)) H2) hr TB hcode S hab hgz hmz ha hse hpl hs I h fun rs H1 g s5 hR hG => ?_)
  obtain ⟨fp, wr, G, n, F, St, hn, W, hst, htr, hI⟩ := hG
  refine Calls.spliced_nil ?_
  refine call_all_walkS (W.self 0 _ _ _ hst ⟨g, fp, wr, G, _, F, St, _, rfl, W, hst, htr, fun s' hmv => ?_⟩)
  obtain ⟨H2, hT, J⟩ := hI s' hmv
  refine ⟨.bl _, H2, J, rfl, ?_⟩
  rw [hn, all_getD rs]
  exact hR H2 hT
end
end Fw

set_option maxRecDepth 100000
set_option maxHeartbeats 4000000
/-! Sorting of triples of whole numbers, setdefault on tuple keys, tests within a generator. -/
namespace Fw
open PySem PySem.Spec PyProof.Rows L2 GxR
/-! ### triples -/
abbrev T3 := Int × Int × Int
def lex3 (p q : T3) : Bool := if p.1 = q.1 then (if p.2.1 = q.2.1 then decide (p.2.2 < q.2.2) else decide (p.2.1 < q.2.1)) else decide (p.1 < q.1)
def Lt3 (p q : T3) : Prop := p.1 < q.1 ∨ (p.1 = q.1 ∧ (p.2.1 < q.2.1 ∨ (p.2.1 = q.2.1 ∧ p.2.2 < q.2.2)))
theorem lex3_iff {p q : T3} : lex3 p q = true ↔ Lt3 p q := by
  unfold lex3 Lt3
  split
  · split
    · rw [decide_eq_true_eq]; omega
    · rw [decide_eq_true_eq]; omega
  · rw [decide_eq_true_eq]; omega
theorem lex3_no {p q : T3} : lex3 p q = false ↔ ¬ Lt3 p q := by
  rw [← lex3_iff]
  cases lex3 p q <;> simp
theorem swo3 {α : Type} (k : α → T3) : SrtO.Swo fun v u => lex3 (k v) (k u) := by
  refine ⟨fun x y h => ?_, fun x y z h1 h2 => ?_⟩
  · have a := lex3_iff.mp h
    refine lex3_no.mpr ?_
    unfold Lt3 at *
    omega
  · have a := lex3_no.mp h1
    have b := lex3_no.mp h2
    refine lex3_no.mpr ?_
    unfold Lt3 at *
    omega
def IsTrip (h : Heap) (v : Value) (x : T3) : Prop := ∃ a o t u r n, v = .ref a ∧ h.get? a = some o ∧ o.cls = .type "tuple" ∧ o.data = .seq #[.int x.1 t, .int x.2.1 u, .int x.2.2 r] n
theorem IsTrip.keeps {h h' : Heap} {v : Value} {x : T3} (p : IsTrip h v x) (k : ∀ b o, h.get? b = some o → o.cls = .type "tuple" → h'.get? b = some o) : IsTrip h' v x := by
  obtain ⟨a, o, t, u, r, n, e, ho, hc, hd⟩ := p
  exact ⟨a, o, t, u, r, n, e, k a o ho hc, hc, hd⟩
section
variable {prog : Program} {w : World} {A : Around} {E : Value → Shared → Prop} {s : Shared}
theorem trip_cmp {vs : List Value} {k : Value → T3} (hp : ∀ v ∈ vs, IsTrip s.heap v (k v)) : SrtO.Cmp prog w A s (PyProof.Rows.tuples' true) (fun p => p.1 ∈ vs) (SrtO.lt2 fun v u => lex3 (k v) (k u)) := by
  intro p q hm hm'
  have h1 := hp _ hm
  have h2 := hp _ hm'
  show wpAny (model prog w) A (keyLt' (PyProof.Rows.tuples' true) p.1 q.1) (fun r s' => s' = s ∧ r = lex3 (k p.1) (k q.1)) (fun _ _ => False) s
  unfold lex3
  generalize (k p.1) = x at h1 ⊢
  generalize (k q.1) = x' at h2 ⊢
  obtain ⟨x, y, z⟩ := x
  obtain ⟨x', y', z'⟩ := x'
  obtain ⟨a, o, t, u, r, n, e, ho, hc, hd⟩ := h1
  obtain ⟨a', o', t', u', r', n', e', ho', hc', hd'⟩ := h2
  rw [e, e']
  simp only at hd hd' ⊢
  refine PySem.W.kat_lt ho hd ho' hd' ?_
  show PySem.W.KatLex prog w A true (decide (3 < 3)) _ [(.int x t, .int x' t'), (.int y u, .int y' u'), (.int z r, .int z' r')] 0 s
  refine PySem.W.kat_cons (SeqAt.EqAt.int_int x t x' t' prog w _ _ ?_)
  refine PySem.W.kat_go (fun e1 => ?_) (fun e1 => ?_)
  · have ex : x = x' := by simpa using e1
    rw [if_pos ex]
    refine PySem.W.kat_yes (PySem.W.kat_cons (SeqAt.EqAt.int_int y u y' u' prog w _ _ ?_))
    refine PySem.W.kat_go (fun e2 => ?_) (fun e2 => ?_)
    · have ey : y = y' := by simpa using e2
      rw [if_pos ey]
      refine PySem.W.kat_yes (PySem.W.kat_cons (SeqAt.EqAt.int_int z r z' r' prog w _ _ ?_))
      refine PySem.W.kat_go (fun e3 => ?_) (fun e3 => ?_)
      · have ez : z = z' := by simpa using e3
        have e4 : decide (z < z') = false := by rw [ez]; exact decide_eq_false (Int.lt_irrefl _)
        rw [e4]
        exact PySem.W.kat_yes (PySem.W.kat_nil ⟨rfl, rfl⟩)
      · refine PySem.W.kat_no (PySem.W.kat_one _ _ (PyProof.Rows.lt_int ?_))
        exact (show s = s ∧ decide (z < z') = decide (z < z') from ⟨rfl, rfl⟩)
    · have ey : ¬ y = y' := by simpa using e2
      rw [if_neg ey]
      refine PySem.W.kat_no (PySem.W.kat_one _ _ (PyProof.Rows.lt_int ?_))
      exact (show s = s ∧ decide (y < y') = decide (y < y') from ⟨rfl, rfl⟩)
  · have ex : ¬ x = x' := by simpa using e1
    rw [if_neg ex]
    exact PySem.W.kat_no (PyProof.Rows.oneLt_int ⟨rfl, rfl⟩)
theorem firsts3 {h : Heap} {k : Value → T3} : ∀ {vs : List Value}, (∀ v ∈ vs, IsTrip h v (k v)) → ∃ fs : List Value, PySem.W.KatTups h vs fs ∧ fs.length = vs.length ∧ ∀ f ∈ fs, ∃ x t, f = Value.int x t
  | [], _ => ⟨[], PySem.W.KatTups.nil, rfl, fun _ hm => by simp at hm⟩
  | v :: vs, hp => by
    obtain ⟨fs, h1, h2, h3⟩ := firsts3 (vs := vs) fun v' hm => hp v' (List.mem_cons_of_mem _ hm)
    obtain ⟨a, o, t, u, r, n, e, ho, hc, hd⟩ := hp v (List.mem_cons_self ..)
    refine ⟨.int (k v).1 t :: fs, ?_, by rw [List.length_cons, List.length_cons, h2], fun f hm => ?_⟩
    · generalize k v = kv at hd ⊢
      subst e
      exact PySem.W.KatTups.cons ho hc hd rfl h1
    · rcases List.mem_cons.mp hm with rfl | hm
      · exact ⟨_, t, rfl⟩
      · exact h3 f hm
theorem trips_sortableO {a : Addr} {vs : List Value} {k : Value → T3} (h0 : 0 < vs.length) (hp : ∀ v ∈ vs, IsTrip s.heap v (k v)) (ha : ∀ o, s.heap.get? a = some o → o.cls ≠ .type "tuple") : SrtO.SortableO prog w A s a vs fun v u => lex3 (k v) (k u) := by
  intro h' keep
  have hp' : ∀ v ∈ vs, IsTrip h' v (k v) := fun v hm => (hp v hm).keeps fun b o e c => keep b o (fun z => by subst z; exact ha o e c) e
  obtain ⟨fs, h1, h2, h3⟩ := firsts3 hp'
  refine ⟨PyProof.Rows.tuples' true, fun Q E hq => ?_, trip_cmp hp'⟩
  refine PySem.W.kat_kind (T := .type "int") h1 (by omega) (fun f hm => ?_) (by rfl) ?_
  · obtain ⟨x, t, rfl⟩ := h3 f hm
    exact PySem.W.Looks.now
  · have e : (Value.type "int" != Value.type "tuple") = true := by first | decide +kernel | rfl | decide
    rw [e]
    exact hq
theorem sorted_trips {l : Addr} {vs : List Value} {k : Value → T3} {Q : Value → Shared → Prop} (hl : s.heap.IsList l vs.toArray) (hz : vs.length ≤ sizeLine) (hp : ∀ v ∈ vs, IsTrip s.heap v (k v))
    (h : ∀ (h' : Heap) (d : Addr) (out : List Value), SrtO.Srtd (fun v u => lex3 (k v) (k u)) out → SrtO.Stb (fun v u => lex3 (k v) (k u)) out vs → (∀ b o, s.heap.get? b = some o → h'.get? b = some o) → s.heap.objs.size ≤ d → (∃ n, h'.get? d = some (seqObj "list" out.toArray n)) → Q (.ref d) { s with heap := h' }) :
    wpAny (model prog w) A (call (.builtin "sorted") [.ref l]) Q E s := by
  refine SrtO.sorted_ord (swo3 k) hl hz (fun h2 h₁ a ha kk => ?_) fun out hs hb => ?_
  · refine trips_sortableO (s := { s with heap := h₁ }) (by omega) (fun v hm => (hp v hm).keeps fun b o e _ => (kk b o e).2) fun o e => ?_
    have e' : some o = some (seqObj "list" vs.toArray 0) := e.symm.trans ha
    cases e'
    intro c
    exact absurd (Value.type.inj c) (by decide)
  · exact h _ _ out hs hb (fun b o e => sortedAll_old e) (Nat.le_succ _) (sortedAll_at s.heap vs out.toArray)
end
/-- sorted(xs), xs a list of triples of ints (k says which): a new list, sorted, equal ones in their order -/
def rSorted3 (K : PySem.W.Frag) : List V → Hp → VK → Prop := fun vs H Q => ∃ (a : Addr) (xs : List V) (k : V → T3), vs = [V.ref a] ∧ SqL K H a xs ∧ (∀ x ∈ xs, ∃ t, x = V.ref t ∧ H t = some (.tup [.int (k x).1, .int (k x).2.1, .int (k x).2.2])) ∧
  ∀ ys p, SrtO.Srtd (fun x y => lex3 (k x) (k y)) ys → SrtO.Stb (fun x y => lex3 (k x) (k y)) ys xs → H p = none → Q (.ref p) (upd H p (.lst ys))
section
variable {X : Cx}
theorem vals3 {x y z : V} {its : List Value} (r : Vals [x, y, z] its) : ∃ u1 u2 u3, its = [u1, u2, u3] ∧ RelV x u1 ∧ RelV y u2 ∧ RelV z u3 := by
  cases r with
  | cons a r => cases r with
    | cons b r => cases r with
      | cons c r => cases r; exact ⟨_, _, _, rfl, a, b, c⟩
theorem cr_sorted3 : CallR X (.builtin "sorted") (rSorted3 X.K) := by
  intro pins s σ H vs us Q I r h
  obtain ⟨a, xs, k, rfl, hs, hx, q⟩ := h
  obtain ⟨its, rv, hl, hz⟩ := I.list hs
  obtain ⟨u, rfl, ru⟩ := vals1 r
  obtain rfl : u = Value.ref a := ru
  obtain ⟨e1, e2⟩ := refs_back rv fun x m => by
    obtain ⟨t, e, _⟩ := hx x m
    exact ⟨t, e⟩
  refine sorted_trips (k := fun u => k (backV u)) hl.isList (by rw [← rv.length]; exact hz) (fun v hv => ?_) fun h' d out h1 h2 kp hd hn => ?_
  · obtain ⟨t, rfl⟩ := e2 v hv
    have hm : V.ref t ∈ xs := by rw [e1]; exact List.mem_map.mpr ⟨_, hv, rfl⟩
    obtain ⟨t', e, ht⟩ := hx _ hm
    cases e
    obtain ⟨_, its2, r2, o, ho, hc, n, hd⟩ := I.hok _ _ ht
    obtain ⟨u1, u2, u3, rfl, ri, rj, rk⟩ := vals3 r2
    obtain ⟨t1, rfl⟩ := ri
    obtain ⟨t2, rfl⟩ := rj
    obtain ⟨t3, rfl⟩ := rk
    exact ⟨t, o, t1, t2, t3, n, rfl, ho, hc, hd⟩
  · have h3 : ∀ u ∈ out, ∃ a, u = Value.ref a := fun u hu => e2 u (h2.perm.mem_iff.mp hu)
    obtain ⟨n, hn⟩ := hn
    have hb : SrtO.Stb (fun x y => lex3 (k x) (k y)) (out.map backV) xs := by
      rw [e1]
      exact SrtO.Stb.map (swo3 k) backV h2
    refine ⟨.ref d, upd H d (.lst (out.map backV)), I.laid (t' := s.toks) kp hd ⟨?_, out, n, vals_back h3, hn⟩, rfl, q _ d (SrtO.srtd_map h1) hb (I.hok.fresh hd)⟩
    rw [hb.len]
    exact hz
end
/-! ### d.setdefault(k, z), k a tuple -/
section
variable {X : Cx} {pins : List (Addr × Obj)} {σ : L2.St} {H : Hp} {s : Shared} {a b : Addr} {r : Value} {d : V} {k : List Key} {A : Around} {E : Value → Shared → Prop}
theorem d_setdT {kvs : List (List Key × V)} {Q : Value → Shared → Prop} (hu : A.units + 1 < cLine) (I : Inv X pins σ H s) (e : H a = some (.dT kvs)) (eb : H b = some (.tup (k.map kV))) (rd : RelV d r) (hl : kvs.length < sizeLine)
    (h1 : ∀ v, valV kvs k = some v → ∀ (w' : Value) (s' : Shared), Inv X pins σ H s' → RelV v w' → Q w' s') (h2 : valV kvs k = none → ∀ (w' : Value) (s' : Shared), Inv X pins σ (upd H a (.dT (putK kvs k d))) s' → RelV d w' → Q w' s') :
    wpAny (model X.prog X.w) A (call (.builtin "dict.setdefault") [.ref a, .ref b, r]) Q E s := by
  obtain ⟨z, hd, xs, rel, dd⟩ := dt_of I.hok e
  have hz : xs.length ≤ sizeLine := by rw [← Paired.length rel]; exact z
  have hl2 : (putK kvs k d).length ≤ sizeLine := by have := length_putK kvs k d; omega
  refine call_setdefault_heap (hsz := hz) (tupleKind_room_in1 hu) (key_of I.hok eb) hd dd (fun p hp => ?_) fun hn h' dd' hs => ?_
  · have q := rel.val k
    rw [hp] at q
    cases q0 : valV kvs k with
    | none =>
      rw [q0] at q
      exact (show False from q).elim
    | some v0 =>
      rw [q0] at q
      exact h1 v0 q0 _ _ (I.tok _) q
  · have q := rel.val k
    rw [hn] at q
    cases q0 : valV kvs k with
    | some v0 =>
      rw [q0] at q
      exact (show False from q).elim
    | none =>
      obtain ⟨q, es, ep, hq, h2', h3, h4, _, h5⟩ := dd'
      refine h2 q0 _ _ (d_write (t' := s.toks + _) I (by rw [e]; exact True.intro) hs ⟨q, hq⟩ ⟨hl2, hd, _, (rel.put k eb rd).keeps fun c ys ec => ?_, q, es, ep, hq, h2', h3, h4, h5⟩) rd
      rw [upd_ne (ne_of ec e (fun z => nomatch z))]
      exact ec
end
def tDSetdT (td ty tx : TE) : TE := fun σ H Q => td σ H fun x H1 => ∃ a, x = .ref a ∧ IsD H1 a ∧ ty σ H1 fun y H2 => tx σ H2 fun z H3 => ∃ (kvs : List (List Key × V)) (k : List Key) (b : Addr), H3 a = some (.dT kvs) ∧ y = .ref b ∧ H3 b = some (.tup (k.map kV)) ∧ kvs.length < sizeLine ∧
  (∀ v, valV kvs k = some v → Q v H3) ∧ (valV kvs k = none → Q z (upd H3 a (.dT (putK kvs k z))))
section
variable {X : Cx} {o e f : Expr} {td ty tx : TE} {apos cpos : Pos}
theorem pe_dsetdT (hu : X.A.units + 1 < cLine) (ho : PE X o td) (he : PE X e ty) (hf : PE X f tx) (m : M2 X o "setdefault" apos e f cpos) : PE X (.Call (.Attribute o "setdefault" apos) [e, f] [] cpos) (tDSetdT td ty tx) := by
  refine ⟨fun pins s σ H Q I h => ?_⟩
  refine wpAny_Call_method m.base m.few m.line PySem.F.plainAttrs_dict PySem.F.slot_dict_setdefault PySem.F.type_dict_setdefault (thn (ho.run pins s σ H _ I h) fun u s1 ⟨x, H1, I1, rx, a, ex, d, q1⟩ => ?_)
  subst ex
  obtain rfl : u = Value.ref a := rx
  obtain ⟨t1, t2, _⟩ := isD_at I1 d
  refine ⟨t1, t2, ?_⟩
  rw [m.trees]
  refine Calls.callWith_builtin rfl (Calls.evalArgs_plain (Calls.spliced_cons (thn (he.run pins s1 σ H1 _ I1 q1) fun iv s2 ⟨y, H2, I2, ry, q2⟩ =>
    Calls.spliced_cons (thn (hf.run pins s2 σ H2 _ I2 q2) fun fv s3 ⟨z, H3, I3, rz, kvs, k, b, ea, ey, eb, hl, q3, q4⟩ => Calls.spliced_nil ?_))))
  subst ey
  obtain rfl : iv = Value.ref b := ry
  exact d_setdT hu I3 ea eb rz hl (fun v hv w' s4 I4 rw' => ⟨v, _, I4, rw', q3 v hv⟩) fun hn w' s4 I4 rw' => ⟨z, _, I4, rw', q4 hn⟩
end
/-! ### tests within a generator -/
theorem eltZ_lt_int {prog : Program} {w : World} {scope : Scope} {xa xb : Str} {U : Nat} {hb : Heap} {P : Addr} {p1 p2 p3 : Pos} (a b : Int) (hk : scope.kind = .function) (la : scope.names.lookup xa = some .local) (lb : scope.names.lookup xb = some .local)
    (da : (xa == ("__debug__" : Str)) = false := by decide) (db : (xb == ("__debug__" : Str)) = false := by decide) :
    EltZ prog w scope xa xb (.Compare (.Name xa p1) [.Lt] [.Name xb p2] p3) U hb P (.int a) (.int b) (decide (a < b)) := by
  intro cenv A' E' va vb s₂ m₂ hs _ hn hma hmb ra rb _
  obtain ⟨t, rfl⟩ := ra
  obtain ⟨u, rfl⟩ := rb
  refine wpAny_Compare1 ?_
  refine wpAny_Name (wpAny_loadName_local (by rw [hs]; exact hk) (show cenv.scope.names.lookup xa = some .local by rw [hs]; exact la) hn hma ?_) da
  refine wpAny_Name (wpAny_loadName_local (by rw [hs]; exact hk) (show cenv.scope.names.lookup xb = some .local by rw [hs]; exact lb) hn hmb ?_) db
  exact PyProof.Rows.lt_int ⟨rfl, keeps_refl _⟩
theorem lexLt3 (p q : T3) : HT.lexLt [p.1, p.2.1, p.2.2] [q.1, q.2.1, q.2.2] = lex3 p q := by
  unfold lex3
  rw [HT.lexLt_cons, HT.lexLt_cons, HT.lexLt_cons, HT.lexLt_nil_nil]
  by_cases h : p.1 = q.1
  · rw [if_pos h, if_pos h]
    by_cases h2 : p.2.1 = q.2.1
    · rw [if_pos h2, if_pos h2]
      by_cases h3 : p.2.2 = q.2.2
      · rw [if_pos h3, h3]
        exact (decide_eq_false (Int.lt_irrefl _)).symm
      · rw [if_neg h3]
    · rw [if_neg h2, if_neg h2]
  · rw [if_neg h, if_neg h]
theorem eltZ_lt_trip {X : Cx} {pins : List (Addr × Obj)} {σ : L2.St} {H1 : Hp} {s : Shared} {scope : Scope} {xa xb : Str} {U : Nat} {P : Addr} {p1 p2 p3 : Pos} (I : Inv X pins σ H1 s) (hP : TabG H1 P) (hU : U < cLine) {t u : Addr} {p q : T3}
    (ht : H1 t = some (.tup [.int p.1, .int p.2.1, .int p.2.2])) (hu : H1 u = some (.tup [.int q.1, .int q.2.1, .int q.2.2])) (hk : scope.kind = .function) (la : scope.names.lookup xa = some .local) (lb : scope.names.lookup xb = some .local)
    (da : (xa == ("__debug__" : Str)) = false := by decide) (db : (xb == ("__debug__" : Str)) = false := by decide) :
    EltZ X.prog X.w scope xa xb (.Compare (.Name xa p1) [.Lt] [.Name xb p2] p3) U s.heap P (.ref t) (.ref u) (lex3 p q) := by
  intro cenv A' E' va vb s₂ m₂ hs hA hn hma hmb ra rb hkp
  cases ra
  cases rb
  obtain ⟨ps, hP, _⟩ := hP
  have nP : ∀ {b : Addr} {xs : List V}, H1 b = some (.tup xs) → b ≠ P := fun e z => by rw [z, hP] at e; cases e
  have tup : ∀ {b : Addr} {p : T3}, H1 b = some (.tup [.int p.1, .int p.2.1, .int p.2.2]) → ∃ its : Array Value, IsTup s₂.heap b its ∧ IntsAre its.toList [p.1, p.2.1, p.2.2] := fun {b p} e => by
    obtain ⟨_, its2, r2, o, ho, hc, n, hd⟩ := I.hok _ _ e
    obtain ⟨u1, u2, u3, rfl, ri, rj, rk⟩ := vals3 r2
    obtain ⟨t1, rfl⟩ := ri
    obtain ⟨t2, rfl⟩ := rj
    obtain ⟨t3, rfl⟩ := rk
    exact ⟨_, ⟨o, hkp b o (nP e) ho, hc, n, hd⟩, .cons _ _ (.cons _ _ (.cons _ _ .nil))⟩
  obtain ⟨its, T1, i1⟩ := tup ht
  obtain ⟨its2, T2, i2⟩ := tup hu
  refine wpAny_Compare1 ?_
  refine wpAny_Name (wpAny_loadName_local (by rw [hs]; exact hk) (show cenv.scope.names.lookup xa = some .local by rw [hs]; exact la) hn hma ?_) da
  refine wpAny_Name (wpAny_loadName_local (by rw [hs]; exact hk) (show cenv.scope.names.lookup xb = some .local by rw [hs]; exact lb) hn hmb ?_) db
  refine HT.lt_tupInts T1 T2 i1 i2 (Nat.lt_of_le_of_lt hA hU) ?_
  rw [lexLt3]
  exact ⟨rfl, keeps_refl _⟩
end Fw

/-! What a class of worlds asks of numbers, rows and steps: pure mathematics. -/
namespace Fw
def asc {α : Type} (lt : α → α → Bool) : List α → Bool
  | [] => true
  | [_] => true
  | x :: y :: l => lt x y && asc lt (y :: l)
def adj {α : Type} (lt : α → α → Bool) (l : List α) : List Bool := (l.zip l.tail).map fun p => lt p.1 p.2
theorem adj_len {α : Type} (lt : α → α → Bool) (l : List α) : (adj lt l).length = min l.length l.tail.length := by
  unfold adj
  rw [List.length_map, List.length_zip]
theorem adj_get {α : Type} {lt : α → α → Bool} {l : List α} {i : Nat} {r : Bool} (h : (adj lt l)[i]? = some r) : ∃ x y, l[i]? = some x ∧ l.tail[i]? = some y ∧ r = lt x y := by
  unfold adj at h
  rw [List.getElem?_map] at h
  cases e : (l.zip l.tail)[i]? with
  | none => rw [e] at h; cases h
  | some p =>
    rw [e] at h
    have := List.getElem?_zip_eq_some.mp e
    exact ⟨p.1, p.2, this.1, this.2, (Option.some.inj h).symm⟩
theorem adj_asc {α : Type} (lt : α → α → Bool) : ∀ l : List α, (adj lt l).all id = asc lt l
  | [] => rfl
  | [_] => rfl
  | x :: y :: l => by
    have ih := adj_asc lt (y :: l)
    show (id (lt x y) && (adj lt (y :: l)).all id) = (lt x y && asc lt (y :: l))
    rw [ih]
    rfl
theorem asc_pair {α : Type} {lt : α → α → Bool} (tr : ∀ x y z, lt x y = true → lt y z = true → lt x z = true) : ∀ {l : List α}, asc lt l = true ↔ l.Pairwise fun x y => lt x y = true
  | [] => ⟨fun _ => .nil, fun _ => rfl⟩
  | [x] => ⟨fun _ => List.pairwise_singleton _ _, fun _ => rfl⟩
  | x :: y :: l => by
    have ih := asc_pair tr (l := y :: l)
    unfold asc
    rw [Bool.and_eq_true, ih, List.pairwise_cons (a := x)]
    constructor
    · rintro ⟨h1, h2⟩
      refine ⟨fun z hz => ?_, h2⟩
      rcases List.mem_cons.mp hz with rfl | hz
      · exact h1
      · exact tr _ _ _ h1 ((List.pairwise_cons.mp h2).1 z hz)
    · rintro ⟨h1, h2⟩
      exact ⟨h1 y List.mem_cons_self, h2⟩
def ltI (x y : Int) : Bool := decide (x < y)
theorem ltI_tr (x y z : Int) (h1 : ltI x y = true) (h2 : ltI y z = true) : ltI x z = true := by
  unfold ltI at *
  rw [decide_eq_true_eq] at *
  omega
theorem lex3_tr (x y z : T3) (h1 : lex3 x y = true) (h2 : lex3 y z = true) : lex3 x z = true := by
  rw [lex3_iff] at *
  unfold Lt3 at *
  omega
theorem lex3_irr (x : T3) : lex3 x x = false := by
  rw [lex3_no]
  unfold Lt3
  omega
theorem lex3_anti {x y : T3} (h1 : lex3 x y = false) (h2 : lex3 y x = false) : x = y := by
  rw [lex3_no] at *
  unfold Lt3 at *
  obtain ⟨a, b, c⟩ := x
  obtain ⟨a', b', c'⟩ := y
  simp only at *
  have : a = a' ∧ b = b' ∧ c = c' := by omega
  obtain ⟨rfl, rfl, rfl⟩ := this
  rfl
theorem lex3_as {x y : T3} (h : lex3 x y = true) : lex3 y x = false := by
  rw [lex3_no]
  rw [lex3_iff] at h
  unfold Lt3 at *
  omega
/-- one order alone of the same triples, none twice -/
theorem sorted_one : ∀ {a b : List T3}, (a.Pairwise fun x y => lex3 y x = false) → (b.Pairwise fun x y => lex3 x y = true) → a.Perm b → a = b
  | [], b, _, _, h => (List.Perm.nil_eq h)
  | x :: a, [], _, _, h => by have := h.length_eq; cases this
  | x :: a, y :: b, ha, hb, h => by
    have ha' := List.pairwise_cons.mp ha
    have hb' := List.pairwise_cons.mp hb
    have e : x = y := by
      rcases List.mem_cons.mp (h.mem_iff.mp List.mem_cons_self) with q | q
      · exact q
      · rcases List.mem_cons.mp (h.mem_iff.mpr (List.mem_cons_self (a := y) (l := b))) with r | r
        · exact r.symm
        · exact lex3_anti (lex3_as (hb'.1 x q) |> fun z => by
            have z1 := ha'.1 y r
            have z2 := hb'.1 x q
            rw [z1] at z2
            cases z2) (ha'.1 y r)
    subst e
    rw [sorted_one ha'.2 hb'.2 h.cons_inv]
def okNums (l f : Int) : Bool := (decide (1 ≤ l) && decide (l ≤ 3)) && (decide (0 ≤ f) && decide (f ≤ 6))
def okRow (f : Int) (X : List Int) : Bool := X.all (fun x => decide (0 ≤ x) && decide (x ≤ f - 1)) && asc ltI X
def okRows (f : Int) (Xs : List (List Int)) : Bool := (decide (1 ≤ (Xs.length : Int)) && decide ((Xs.length : Int) ≤ 400)) && Xs.all (okRow f)
def okStep (l : Int) (n : Nat) (p : T3) : Bool := (decide (0 ≤ p.2.1) && decide (p.2.1 ≤ l - 1)) && ((decide (0 ≤ p.1) && decide (p.1 ≤ (n : Int) - 1)) && (decide (0 ≤ p.2.2) && decide (p.2.2 ≤ (n : Int) - 1)))
def okSteps (l : Int) (n : Nat) (ss : List T3) : Bool := ss.all (okStep l n) && asc lex3 ss
/-- the ends of the steps from s with l -/
def begS (ss : List T3) (s l : Int) : List Int := (ss.filter fun p => decide (p.1 = s) && decide (p.2.1 = l)).map fun p => p.2.2
theorem begS_snoc (ps : List T3) (p : T3) (s l : Int) : begS (ps ++ [p]) s l = begS ps s l ++ (if (decide (p.1 = s) && decide (p.2.1 = l)) = true then [p.2.2] else []) := by
  unfold begS
  rw [List.filter_append, List.map_append]
  congr 1
  cases c : decide (p.1 = s) && decide (p.2.1 = l)
  · simp [c]
  · simp [c]
theorem beh_begS (W : Wd) (s l : Int) : W.beh s l = begS W.steps s l := rfl
/-- in order they ascend -/
theorem begS_up {ss : List T3} (h : ss.Pairwise fun x y => lex3 x y = true) (s l : Int) : (begS ss s l).Pairwise (· < ·) := by
  unfold begS
  rw [List.pairwise_map]
  have h2 := List.Pairwise.sublist (List.filter_sublist (p := fun p : T3 => decide (p.1 = s) && decide (p.2.1 = l)) (l := ss)) h
  refine h2.imp_of_mem fun {a b} ha hb hab => ?_
  have pa := (List.mem_filter.mp ha).2
  have pb := (List.mem_filter.mp hb).2
  rw [Bool.and_eq_true, decide_eq_true_eq, decide_eq_true_eq] at pa pb
  rw [lex3_iff] at hab
  unfold Lt3 at hab
  omega
end Fw

/-! Parts of worlds: what is true in one that lies in another. Pure mathematics. -/
namespace Fw
def Le (X Y : List Int) : Prop := ∀ s, sIn X s = true → sIn Y s = true
theorem Le.refl (X : List Int) : Le X X := fun _ h => h
/-- in order, of states alone -/
def Norm (n : Nat) (X : List Int) : Prop := X = flt n (sIn X)
theorem filter_sub {α : Type} {p q : α → Bool} (h : ∀ x, p x = true → q x = true) : ∀ l : List α, (l.filter p).Sublist (l.filter q)
  | [] => List.Sublist.slnil
  | x :: l => by
    have ih := filter_sub h l
    cases c : p x with
    | true =>
      rw [List.filter_cons_of_pos c, List.filter_cons_of_pos (h x c)]
      exact ih.cons₂ x
    | false =>
      rw [List.filter_cons_of_neg (by rw [c]; exact Bool.false_ne_true)]
      cases c2 : q x with
      | true => rw [List.filter_cons_of_pos c2]; exact ih.cons x
      | false => rw [List.filter_cons_of_neg (by rw [c2]; exact Bool.false_ne_true)]; exact ih
theorem flt_norm (n : Nat) (p : Int → Bool) : Norm n (flt n p) := by
  unfold Norm
  exact flt_congr fun s h0 h1 => (sIn_flt h0 h1).symm
theorem norm_nil (n : Nat) : Norm n [] := by
  unfold Norm flt
  exact (List.filter_eq_nil_iff.mpr fun _ _ h => by cases h).symm
theorem norm_rng (n : Nat) : Norm n (rng n) := by rw [rng_flt]; exact flt_norm n _
theorem sIn_iff {X : List Int} {s : Int} : sIn X s = true ↔ s ∈ X := decide_eq_true_iff
theorem mem_flt {n : Nat} {p : Int → Bool} {s : Int} : s ∈ flt n p ↔ (0 ≤ s ∧ s < (n : Int)) ∧ p s = true := by
  unfold flt
  rw [List.mem_filter, rng_mem]
theorem Norm.mem {n : Nat} {X : List Int} (h : Norm n X) {s : Int} (hs : s ∈ X) : 0 ≤ s ∧ s < (n : Int) := by
  rw [h] at hs
  exact (mem_flt.mp hs).1
theorem Norm.sub {n : Nat} {X Y : List Int} (hX : Norm n X) (hY : Norm n Y) (h : Le X Y) : X.Sublist Y := by
  rw [hX, hY]
  exact filter_sub h _
theorem Norm.eq {n : Nat} {X Y : List Int} (hX : Norm n X) (hY : Norm n Y) (h : ∀ s, s ∈ X ↔ s ∈ Y) : X = Y := by
  rw [hX, hY]
  exact flt_congr fun s _ _ => by
    cases e : sIn Y s with
    | true => exact sIn_iff.mpr ((h s).mpr (sIn_iff.mp e))
    | false =>
      cases e2 : sIn X s with
      | false => rfl
      | true => rw [sIn_iff.mpr ((h s).mp (sIn_iff.mp e2))] at e; cases e
theorem Norm.len {n : Nat} {X : List Int} (h : Norm n X) : X.length ≤ n := by
  rw [h]
  refine Nat.le_trans (List.length_filter_le _ _) ?_
  rw [rng_len]
  exact Nat.le_refl _
theorem fv_one' {k : One} {x : Int} {f : F} (hk : k.bind = true) {y : Int} (hy : y ∈ fv f) (hn : y ≠ x) : y ∈ fv (.one k x f) := by
  simp only [fv, if_pos hk, List.mem_filter, decide_eq_true_eq]
  exact ⟨hy, hn⟩
theorem setE_same {e : Int → List Int} {x : Int} {X : List Int} : setE e x X x = X := if_pos rfl
theorem setE_ne {e : Int → List Int} {x y : Int} {X : List Int} (h : y ≠ x) : setE e x X y = e y := if_neg h
theorem iter_norm {n : Nat} {f : List Int → List Int} (hf : ∀ X, Norm n X → Norm n (f X)) {X : List Int} (hX : Norm n X) : ∀ k, Norm n (iter f k X)
  | 0 => hX
  | k + 1 => hf _ (iter_norm hf hX k)
theorem val_norm {W : Wd} : ∀ (t : F) (e : Int → List Int), (∀ x ∈ fv t, Norm W.n (e x)) → Norm W.n (val W t e)
  | .nul b, e, h => by
    show Norm W.n (if b = true then rng W.n else [])
    split
    · exact norm_rng _
    · exact norm_nil _
  | .leaf .has n, e, h => flt_norm _ _
  | .leaf .lacks n, e, h => flt_norm _ _
  | .leaf .var x, e, h => h x (List.mem_singleton.mpr rfl)
  | .two b f g, e, h => by
    show Norm W.n (if b = true then flt _ _ else flt _ _)
    split <;> exact flt_norm _ _
  | .one .some l f, e, h => flt_norm _ _
  | .one .all l f, e, h => flt_norm _ _
  | .one .least x f, e, h => iter_norm (fun X hX => val_norm f _ fun y hy => by
      by_cases c : y = x
      · rw [c, setE_same]; exact hX
      · rw [setE_ne c]; exact h y (fv_one' rfl hy c)) (norm_nil _) _
  | .one .most x f, e, h => iter_norm (fun X hX => val_norm f _ fun y hy => by
      by_cases c : y = x
      · rw [c, setE_same]; exact hX
      · rw [setE_ne c]; exact h y (fv_one' rfl hy c)) (norm_rng _) _
theorem Le.flt {n : Nat} {p q : Int → Bool} (h : ∀ s, p s = true → q s = true) : Le (flt n p) (flt n q) := fun s hs => by
  rw [sIn_iff, mem_flt] at hs ⊢
  exact ⟨hs.1, h s hs.2⟩
theorem iter_le {f g : List Int → List Int} (h : ∀ X Y, Le X Y → Le (f X) (g Y)) {X Y : List Int} (hX : Le X Y) : ∀ k, Le (iter f k X) (iter g k Y)
  | 0 => hX
  | k + 1 => h _ _ (iter_le h hX k)
theorem len_filter_le {α : Type} {p q : α → Bool} (h : ∀ x, p x = true → q x = true) (l : List α) : (l.filter p).length ≤ (l.filter q).length :=
  (filter_sub h l).length_le
theorem val_le {W : Wd} : ∀ (t : F) (e e' : Int → List Int), (∀ x ∈ fv t, Le (e x) (e' x)) → Le (val W t e) (val W t e')
  | .nul b, e, e', h => Le.refl _
  | .leaf .has n, e, e', h => Le.refl _
  | .leaf .lacks n, e, e', h => Le.refl _
  | .leaf .var x, e, e', h => h x (List.mem_singleton.mpr rfl)
  | .two b f g, e, e', h => by
    have hf := val_le (W := W) f e e' fun x hx => h x (List.mem_append_left _ hx)
    have hg := val_le (W := W) g e e' fun x hx => h x (List.mem_append_right _ hx)
    show Le (if b = true then Fw.flt _ _ else Fw.flt _ _) (if b = true then Fw.flt _ _ else Fw.flt _ _)
    cases b
    · rw [if_neg Bool.false_ne_true, if_neg Bool.false_ne_true]
      refine Le.flt fun s hs => ?_
      rw [Bool.or_eq_true] at hs ⊢
      exact hs.imp (hg s) (hf s)
    · rw [if_pos rfl, if_pos rfl]
      refine Le.flt fun s hs => ?_
      rw [Bool.and_eq_true] at hs ⊢
      exact ⟨hg s hs.1, hf s hs.2⟩
  | .one .some l f, e, e', h => by
    have hf := val_le (W := W) f e e' h
    refine Le.flt fun s hs => ?_
    rw [decide_eq_true_eq] at hs ⊢
    have := len_filter_le (fun x => hf x) (W.beh s l)
    omega
  | .one .all l f, e, e', h => by
    have hf := val_le (W := W) f e e' h
    refine Le.flt fun s hs => ?_
    rw [decide_eq_true_eq] at hs ⊢
    have := len_filter_le (p := fun k => !sIn (val W f e') k) (q := fun k => !sIn (val W f e) k) (fun x hx => by
      cases c : sIn (val W f e) x with
      | false => rfl
      | true => rw [hf x c] at hx; cases hx) (W.beh s l)
    omega
  | .one .least x f, e, e', h => iter_le (fun X Y hXY => val_le f _ _ fun y hy => by
      by_cases c : y = x
      · rw [c, setE_same, setE_same]; exact hXY
      · rw [setE_ne c, setE_ne c]; exact h y (fv_one' rfl hy c)) (Le.refl _) _
  | .one .most x f, e, e', h => iter_le (fun X Y hXY => val_le f _ _ fun y hy => by
      by_cases c : y = x
      · rw [c, setE_same, setE_same]; exact hXY
      · rw [setE_ne c, setE_ne c]; exact h y (fv_one' rfl hy c)) (Le.refl _) _
/-! ### a chain comes to rest -/
theorem iter_rest {f : List Int → List Int} {X : List Int} {j : Nat} (h : iter f (j + 1) X = iter f j X) : ∀ i, iter f (j + i) X = iter f j X
  | 0 => rfl
  | i + 1 => by
    show f (iter f (j + i) X) = _
    rw [iter_rest h i]
    exact h
theorem rest_of {f : List Int → List Int} {X : List Int} {n : Nat} (h : ∃ j, j ≤ n ∧ iter f (j + 1) X = iter f j X) {k : Nat} (hk : n ≤ k) : iter f k X = iter f n X := by
  obtain ⟨j, hj, e⟩ := h
  have h1 := iter_rest e (k - j)
  have h2 := iter_rest e (n - j)
  rw [show j + (k - j) = k by omega] at h1
  rw [show j + (n - j) = n by omega] at h2
  rw [h1, h2]
theorem rest_up {f : List Int → List Int} {X : List Int} {n : Nat} (hn : ∀ k, Norm n (iter f k X)) (hs : ∀ k, Le (iter f k X) (iter f (k + 1) X)) : ∃ j, j ≤ n ∧ iter f (j + 1) X = iter f j X := by
  apply Classical.byContradiction
  intro no
  have up : ∀ j, j ≤ n + 1 → j ≤ (iter f j X).length := fun j => by
    induction j with
    | zero => intro _; exact Nat.zero_le _
    | succ j ih =>
      intro hj
      have sub := (hn j).sub (hn (j + 1)) (hs j)
      have ne : (iter f j X).length ≠ (iter f (j + 1) X).length := fun e => no ⟨j, by omega, (sub.eq_of_length e).symm⟩
      have := sub.length_le
      have := ih (by omega)
      omega
  have := up (n + 1) (Nat.le_refl _)
  have := (hn (n + 1)).len
  omega
theorem rest_dn {f : List Int → List Int} {X : List Int} {n : Nat} (hn : ∀ k, Norm n (iter f k X)) (hs : ∀ k, Le (iter f (k + 1) X) (iter f k X)) : ∃ j, j ≤ n ∧ iter f (j + 1) X = iter f j X := by
  apply Classical.byContradiction
  intro no
  have dn : ∀ j, j ≤ n + 1 → (iter f j X).length + j ≤ n := fun j => by
    induction j with
    | zero => intro _; exact (hn 0).len
    | succ j ih =>
      intro hj
      have sub := (hn (j + 1)).sub (hn j) (hs j)
      have ne : (iter f (j + 1) X).length ≠ (iter f j X).length := fun e => no ⟨j, by omega, sub.eq_of_length e⟩
      have := sub.length_le
      have := ih (by omega)
      omega
  have := dn (n + 1) (Nat.le_refl _)
  omega
theorem least_rest {W : Wd} {f : F} {x : Int} {e : Int → List Int} (h : ∀ y ∈ fv (.one .least x f), Norm W.n (e y)) {k : Nat} (hk : W.n ≤ k) :
    iter (fun X => val W f (setE e x X)) k [] = iter (fun X => val W f (setE e x X)) (W.n + 1) [] := by
  have N := iter_norm (n := W.n) (f := fun X => val W f (setE e x X)) (fun X hX => val_norm f _ fun y hy => by
      by_cases c : y = x
      · rw [c, setE_same]; exact hX
      · rw [setE_ne c]; exact h y (fv_one' rfl hy c)) (norm_nil _)
  have M : ∀ X Y, Le X Y → Le (val W f (setE e x X)) (val W f (setE e x Y)) := fun X Y hXY => val_le f _ _ fun y hy => by
      by_cases c : y = x
      · rw [c, setE_same, setE_same]; exact hXY
      · rw [setE_ne c, setE_ne c]; exact Le.refl _
  have S : ∀ k, Le (iter (fun X => val W f (setE e x X)) k []) (iter (fun X => val W f (setE e x X)) (k + 1) []) := fun k => by
    induction k with
    | zero => exact fun s hs => by cases hs
    | succ k ih => exact M _ _ ih
  have R := rest_up N S
  rw [rest_of R hk, rest_of R (Nat.le_succ _)]
theorem most_rest {W : Wd} {f : F} {x : Int} {e : Int → List Int} (h : ∀ y ∈ fv (.one .most x f), Norm W.n (e y)) {k : Nat} (hk : W.n ≤ k) :
    iter (fun X => val W f (setE e x X)) k (rng W.n) = iter (fun X => val W f (setE e x X)) (W.n + 1) (rng W.n) := by
  have N := iter_norm (n := W.n) (f := fun X => val W f (setE e x X)) (fun X hX => val_norm f _ fun y hy => by
      by_cases c : y = x
      · rw [c, setE_same]; exact hX
      · rw [setE_ne c]; exact h y (fv_one' rfl hy c)) (norm_rng _)
  have M : ∀ X Y, Le X Y → Le (val W f (setE e x X)) (val W f (setE e x Y)) := fun X Y hXY => val_le f _ _ fun y hy => by
      by_cases c : y = x
      · rw [c, setE_same, setE_same]; exact hXY
      · rw [setE_ne c, setE_ne c]; exact Le.refl _
  have S : ∀ k, Le (iter (fun X => val W f (setE e x X)) (k + 1) (rng W.n)) (iter (fun X => val W f (setE e x X)) k (rng W.n)) := fun k => by
    induction k with
    | zero => exact fun s hs => sIn_iff.mpr (rng_mem.mpr ((N 1).mem (sIn_iff.mp hs)))
    | succ k ih => exact M _ _ ih
  have R := rest_dn N S
  rw [rest_of R hk, rest_of R (Nat.le_succ _)]
/-! ### a world that lies in another -/
def pull (m : Nat) (g : Int → Int) (X : List Int) : List Int := flt m fun k => sIn X (g k)
structure Emb (V W : Wd) (g : Int → Int) : Prop where
  to : ∀ k : Int, 0 ≤ k → k < V.n → 0 ≤ g k ∧ g k < W.n
  fa : ∀ k : Int, 0 ≤ k → k < V.n → ∀ x, sIn (V.at k) x = sIn (W.at (g k)) x
  fo : ∀ k : Int, 0 ≤ k → k < V.n → ∀ l j, j ∈ V.beh k l → 0 ≤ j ∧ j < V.n ∧ g j ∈ W.beh (g k) l
  ba : ∀ k : Int, 0 ≤ k → k < V.n → ∀ l y, y ∈ W.beh (g k) l → ∃ j, j ∈ V.beh k l ∧ g j = y
theorem filter_pos {α : Type} {p : α → Bool} {l : List α} : 0 < ((l.filter p).length : Int) ↔ ∃ x ∈ l, p x = true := by
  constructor
  · intro h
    have : 0 < (l.filter p).length := by omega
    obtain ⟨x, hx⟩ := List.exists_mem_of_length_pos this
    exact ⟨x, (List.mem_filter.mp hx).1, (List.mem_filter.mp hx).2⟩
  · rintro ⟨x, hx, px⟩
    have : x ∈ l.filter p := List.mem_filter.mpr ⟨hx, px⟩
    have := List.length_pos_of_mem this
    omega
theorem filter_zero {α : Type} {p : α → Bool} {l : List α} : ((l.filter p).length : Int) = 0 ↔ ∀ x ∈ l, p x = false := by
  constructor
  · intro h x hx
    have : (l.filter p) = [] := List.length_eq_zero_iff.mp (by omega)
    have := List.filter_eq_nil_iff.mp this x hx
    cases c : p x with
    | false => rfl
    | true => exact absurd c this
  · intro h
    rw [List.filter_eq_nil_iff.mpr fun x hx => by rw [h x hx]; exact Bool.false_ne_true]
    rfl
theorem sIn_pull {m : Nat} {g : Int → Int} {X : List Int} {k : Int} (h0 : 0 ≤ k) (h1 : k < (m : Int)) : sIn (pull m g X) k = sIn X (g k) := sIn_flt h0 h1
theorem val_emb {V W : Wd} {g : Int → Int} (E : Emb V W g) : ∀ (t : F) (d e : Int → List Int), (∀ x ∈ fv t, Norm W.n (e x)) → (∀ x ∈ fv t, d x = pull V.n g (e x)) → val V t d = pull V.n g (val W t e)
  | .nul b, d, e, hn, h => by
    show (if b = true then rng V.n else []) = pull V.n g (if b = true then rng W.n else [])
    cases b
    · rw [if_neg Bool.false_ne_true, if_neg Bool.false_ne_true]
      exact (List.filter_eq_nil_iff.mpr fun _ _ h => by cases h).symm
    · rw [if_pos rfl, if_pos rfl, rng_flt]
      exact flt_congr fun s h0 h1 => (sIn_iff.mpr (rng_mem.mpr (E.to s h0 h1))).symm
  | .leaf .has n, d, e, hn, h => by
    show flt V.n _ = pull V.n g (flt W.n _)
    exact flt_congr fun s h0 h1 => by rw [sIn_flt (E.to s h0 h1).1 (E.to s h0 h1).2, E.fa s h0 h1]
  | .leaf .lacks n, d, e, hn, h => by
    show flt V.n _ = pull V.n g (flt W.n _)
    exact flt_congr fun s h0 h1 => by rw [sIn_flt (E.to s h0 h1).1 (E.to s h0 h1).2, E.fa s h0 h1]
  | .leaf .var x, d, e, hn, h => h x (List.mem_singleton.mpr rfl)
  | .two b f t, d, e, hn, h => by
    have hf := val_emb E f d e (fun x hx => hn x (List.mem_append_left _ hx)) fun x hx => h x (List.mem_append_left _ hx)
    have ht := val_emb E t d e (fun x hx => hn x (List.mem_append_right _ hx)) fun x hx => h x (List.mem_append_right _ hx)
    show (if b = true then flt _ _ else flt _ _) = pull V.n g (if b = true then flt _ _ else flt _ _)
    rw [hf, ht]
    cases b
    · rw [if_neg Bool.false_ne_true, if_neg Bool.false_ne_true]
      exact flt_congr fun s h0 h1 => by rw [sIn_flt (E.to s h0 h1).1 (E.to s h0 h1).2, sIn_pull h0 h1, sIn_pull h0 h1]
    · rw [if_pos rfl, if_pos rfl]
      exact flt_congr fun s h0 h1 => by rw [sIn_flt (E.to s h0 h1).1 (E.to s h0 h1).2, sIn_pull h0 h1, sIn_pull h0 h1]
  | .one .some l f, d, e, hn, h => by
    have hf := val_emb E f d e hn h
    show flt V.n _ = pull V.n g (flt W.n _)
    rw [hf]
    refine flt_congr fun s h0 h1 => ?_
    rw [sIn_flt (E.to s h0 h1).1 (E.to s h0 h1).2]
    refine decide_eq_decide.mpr ?_
    rw [filter_pos, filter_pos]
    constructor
    · rintro ⟨j, hj, pj⟩
      obtain ⟨j0, j1, jg⟩ := E.fo s h0 h1 l j hj
      exact ⟨g j, jg, by rw [sIn_pull j0 j1] at pj; exact pj⟩
    · rintro ⟨y, hy, py⟩
      obtain ⟨j, hj, rfl⟩ := E.ba s h0 h1 l y hy
      obtain ⟨j0, j1, jg⟩ := E.fo s h0 h1 l j hj
      exact ⟨j, hj, by rw [sIn_pull j0 j1]; exact py⟩
  | .one .all l f, d, e, hn, h => by
    have hf := val_emb E f d e hn h
    show flt V.n _ = pull V.n g (flt W.n _)
    rw [hf]
    refine flt_congr fun s h0 h1 => ?_
    rw [sIn_flt (E.to s h0 h1).1 (E.to s h0 h1).2]
    refine decide_eq_decide.mpr ?_
    rw [filter_zero, filter_zero]
    constructor
    · intro q y hy
      obtain ⟨j, hj, rfl⟩ := E.ba s h0 h1 l y hy
      obtain ⟨j0, j1, jg⟩ := E.fo s h0 h1 l j hj
      have := q j hj
      rw [sIn_pull j0 j1] at this
      exact this
    · intro q j hj
      obtain ⟨j0, j1, jg⟩ := E.fo s h0 h1 l j hj
      rw [sIn_pull j0 j1]
      exact q _ jg
  | .one .least x f, d, e, hn, h => by
    have dn : ∀ y ∈ fv (.one .least x f), Norm V.n (d y) := fun y hy => by rw [h y hy]; exact flt_norm _ _
    have N := iter_norm (n := W.n) (f := fun X => val W f (setE e x X)) (fun X hX => val_norm f _ fun y hy => by
      by_cases c : y = x
      · rw [c, setE_same]; exact hX
      · rw [setE_ne c]; exact hn y (fv_one' rfl hy c)) (norm_nil _)
    have key : ∀ k, iter (fun X => val V f (setE d x X)) k [] = pull V.n g (iter (fun X => val W f (setE e x X)) k []) := fun k => by
      induction k with
      | zero => exact (List.filter_eq_nil_iff.mpr fun _ _ h => by cases h).symm
      | succ k ih =>
        show val V f (setE d x _) = pull V.n g (val W f (setE e x _))
        refine val_emb E f _ _ (fun y hy => ?_) fun y hy => ?_
        · by_cases c : y = x
          · rw [c, setE_same]; exact N k
          · rw [setE_ne c]; exact hn y (fv_one' rfl hy c)
        · by_cases c : y = x
          · rw [c, setE_same, setE_same]; exact ih
          · rw [setE_ne c, setE_ne c]; exact h y (fv_one' rfl hy c)
    show iter (fun X => val V f (setE d x X)) (V.n + 1) [] = pull V.n g (iter (fun X => val W f (setE e x X)) (W.n + 1) [])
    rw [← least_rest dn (show V.n ≤ V.n + W.n by omega), ← least_rest hn (show W.n ≤ V.n + W.n by omega)]
    exact key _
  | .one .most x f, d, e, hn, h => by
    have dn : ∀ y ∈ fv (.one .most x f), Norm V.n (d y) := fun y hy => by rw [h y hy]; exact flt_norm _ _
    have N := iter_norm (n := W.n) (f := fun X => val W f (setE e x X)) (fun X hX => val_norm f _ fun y hy => by
      by_cases c : y = x
      · rw [c, setE_same]; exact hX
      · rw [setE_ne c]; exact hn y (fv_one' rfl hy c)) (norm_rng _)
    have key : ∀ k, iter (fun X => val V f (setE d x X)) k (rng V.n) = pull V.n g (iter (fun X => val W f (setE e x X)) k (rng W.n)) := fun k => by
      induction k with
      | zero =>
        show rng V.n = flt V.n _
        rw [rng_flt]
        exact flt_congr fun s h0 h1 => (sIn_iff.mpr (show g s ∈ rng W.n from rng_mem.mpr (E.to s h0 h1))).symm
      | succ k ih =>
        show val V f (setE d x _) = pull V.n g (val W f (setE e x _))
        refine val_emb E f _ _ (fun y hy => ?_) fun y hy => ?_
        · by_cases c : y = x
          · rw [c, setE_same]; exact N k
          · rw [setE_ne c]; exact hn y (fv_one' rfl hy c)
        · by_cases c : y = x
          · rw [c, setE_same, setE_same]; exact ih
          · rw [setE_ne c, setE_ne c]; exact h y (fv_one' rfl hy c)
    show iter (fun X => val V f (setE d x X)) (V.n + 1) (rng V.n) = pull V.n g (iter (fun X => val W f (setE e x X)) (W.n + 1) (rng W.n))
    rw [← most_rest dn (show V.n ≤ V.n + W.n by omega), ← most_rest hn (show W.n ≤ V.n + W.n by omega)]
    exact key _
end Fw

/-! Rows of steps without end, and the fixed points that tell them. Pure mathematics. -/
namespace Fw
inductive RIn (W : Wd) (l : Int) (X : List Int) : Int → Int → Prop
  | here {s : Int} : s ∈ X → RIn W l X s s
  | step {s u t : Int} : s ∈ X → u ∈ W.beh s l → RIn W l X u t → RIn W l X s t
theorem RIn.src {W : Wd} {l : Int} {X : List Int} {s t : Int} (h : RIn W l X s t) : s ∈ X := by cases h <;> assumption
theorem RIn.tgt {W : Wd} {l : Int} {X : List Int} {s t : Int} (h : RIn W l X s t) : t ∈ X := by
  induction h with
  | here h => exact h
  | step _ _ _ ih => exact ih
theorem RIn.trans {W : Wd} {l : Int} {X : List Int} {s t u : Int} (h : RIn W l X s t) (k : RIn W l X t u) : RIn W l X s u := by
  induction h with
  | here _ => exact k
  | step a b _ ih => exact .step a b (ih k)
theorem RIn.snoc {W : Wd} {l : Int} {X : List Int} {s t u : Int} (h : RIn W l X s t) (k : u ∈ W.beh t l) (hu : u ∈ X) : RIn W l X s u := h.trans (.step h.tgt k (.here hu))
theorem RIn.mono {W : Wd} {l : Int} {X Y : List Int} (z : ∀ s ∈ X, s ∈ Y) {s t : Int} (h : RIn W l X s t) : RIn W l Y s t := by
  induction h with
  | here h => exact .here (z _ h)
  | step a b _ ih => exact .step (z _ a) b ih
open Classical in
noncomputable def cyc (W : Wd) (l : Int) (X : List Int) (s : Int) : Bool := decide (∃ u ∈ W.beh s l, RIn W l X u s)
noncomputable def cycL (W : Wd) (l : Int) (X : List Int) : List Int := X.filter (cyc W l X)
open Classical in
noncomputable def lead (W : Wd) (l : Int) (G : List Int) (s : Int) : Bool := decide (∃ t ∈ G, RIn W l (rng W.n) s t)
noncomputable def leadL (W : Wd) (l : Int) (G : List Int) : List Int := flt W.n (lead W l G)
open Classical in
theorem cyc_iff {W : Wd} {l : Int} {X : List Int} {s : Int} : cyc W l X s = true ↔ ∃ u ∈ W.beh s l, RIn W l X u s := by unfold cyc; exact decide_eq_true_iff
open Classical in
theorem lead_iff {W : Wd} {l : Int} {X : List Int} {s : Int} : lead W l X s = true ↔ ∃ t ∈ X, RIn W l (rng W.n) s t := by unfold lead; exact decide_eq_true_iff
theorem mem_leadL {W : Wd} {l : Int} {X : List Int} {s : Int} : s ∈ leadL W l X ↔ ∃ t ∈ X, RIn W l (rng W.n) s t := by
  unfold leadL
  rw [mem_flt, lead_iff]
  constructor
  · exact fun h => h.2
  · rintro ⟨t, h1, h2⟩
    exact ⟨rng_mem.mp h2.src, t, h1, h2⟩
/-! ### least and greatest fixed points of operators on lists -/
structure Op (n : Nat) (f : List Int → List Int) : Prop where
  norm : ∀ X, Norm n X → Norm n (f X)
  mono : ∀ X Y, Le X Y → Le (f X) (f Y)
theorem Le.mem {X Y : List Int} (h : Le X Y) {s : Int} (hs : s ∈ X) : s ∈ Y := sIn_iff.mp (h s (sIn_iff.mpr hs))
theorem Le.of {X Y : List Int} (h : ∀ s ∈ X, s ∈ Y) : Le X Y := fun s hs => sIn_iff.mpr (h s (sIn_iff.mp hs))
theorem lfp_fix {n : Nat} {f : List Int → List Int} (O : Op n f) : f (iter f (n + 1) []) = iter f (n + 1) [] := by
  have N := iter_norm O.norm (norm_nil n)
  have S : ∀ k, Le (iter f k []) (iter f (k + 1) []) := fun k => by
    induction k with
    | zero => exact fun s hs => by cases hs
    | succ k ih => exact O.mono _ _ ih
  have R := rest_up N S
  show iter f (n + 2) [] = _
  rw [rest_of R (show n ≤ n + 2 by omega), rest_of R (Nat.le_succ n)]
theorem lfp_least {n : Nat} {f : List Int → List Int} (O : Op n f) {S : List Int} (h : Le (f S) S) : ∀ k, Le (iter f k []) S
  | 0 => fun s hs => by cases hs
  | k + 1 => fun s hs => h s (O.mono _ _ (lfp_least O h k) s hs)
theorem gfp_fix {n : Nat} {f : List Int → List Int} (O : Op n f) : f (iter f (n + 1) (rng n)) = iter f (n + 1) (rng n) := by
  have N := iter_norm O.norm (norm_rng n)
  have S : ∀ k, Le (iter f (k + 1) (rng n)) (iter f k (rng n)) := fun k => by
    induction k with
    | zero => exact fun s hs => sIn_iff.mpr (rng_mem.mpr ((N 1).mem (sIn_iff.mp hs)))
    | succ k ih => exact O.mono _ _ ih
  have R := rest_dn N S
  show iter f (n + 2) (rng n) = _
  rw [rest_of R (show n ≤ n + 2 by omega), rest_of R (Nat.le_succ n)]
theorem gfp_most {n : Nat} {f : List Int → List Int} (O : Op n f) {S : List Int} (hS : ∀ s ∈ S, 0 ≤ s ∧ s < (n : Int)) (h : Le S (f S)) : ∀ k, Le S (iter f k (rng n))
  | 0 => fun s hs => sIn_iff.mpr (rng_mem.mpr (hS s (sIn_iff.mp hs)))
  | k + 1 => fun s hs => O.mono _ _ (gfp_most O hS h k) s (h s hs)
/-! ### what is read off the parts -/
theorem val_closed {W : Wd} {t : F} (h : fv t = []) (e e' : Int → List Int) : val W t e = val W t e' := by
  have n1 := val_norm (W := W) t e (fun x hx => by rw [h] at hx; cases hx)
  have n2 := val_norm (W := W) t e' (fun x hx => by rw [h] at hx; cases hx)
  have l1 := val_le (W := W) t e e' (fun x hx => by rw [h] at hx; cases hx)
  have l2 := val_le (W := W) t e' e (fun x hx => by rw [h] at hx; cases hx)
  exact n1.eq n2 fun s => ⟨l1.mem, l2.mem⟩
theorem mem_some {W : Wd} {l : Int} {f : F} {e : Int → List Int} {s : Int} : s ∈ val W (.one .some l f) e ↔ (0 ≤ s ∧ s < (W.n : Int)) ∧ ∃ u ∈ W.beh s l, u ∈ val W f e := by
  show s ∈ flt W.n _ ↔ _
  rw [mem_flt, decide_eq_true_eq, filter_pos]
  constructor
  · rintro ⟨h, u, h1, h2⟩
    exact ⟨h, u, h1, sIn_iff.mp h2⟩
  · rintro ⟨h, u, h1, h2⟩
    exact ⟨h, u, h1, sIn_iff.mpr h2⟩
theorem mem_and {W : Wd} {f g : F} {e : Int → List Int} {s : Int} : s ∈ val W (.two true f g) e ↔ (0 ≤ s ∧ s < (W.n : Int)) ∧ s ∈ val W f e ∧ s ∈ val W g e := by
  show s ∈ (if true = true then flt W.n (fun s => sIn (val W g e) s && sIn (val W f e) s) else _) ↔ _
  rw [if_pos rfl, mem_flt, Bool.and_eq_true, sIn_iff, sIn_iff]
  exact ⟨fun h => ⟨h.1, h.2.2, h.2.1⟩, fun h => ⟨h.1, h.2.2, h.2.1⟩⟩
theorem mem_or {W : Wd} {f g : F} {e : Int → List Int} {s : Int} : s ∈ val W (.two false f g) e ↔ (0 ≤ s ∧ s < (W.n : Int)) ∧ (s ∈ val W f e ∨ s ∈ val W g e) := by
  show s ∈ (if false = true then _ else flt W.n (fun s => sIn (val W g e) s || sIn (val W f e) s)) ↔ _
  rw [if_neg Bool.false_ne_true, mem_flt, Bool.or_eq_true, sIn_iff, sIn_iff]
  exact ⟨fun h => ⟨h.1, h.2.symm⟩, fun h => ⟨h.1, h.2.symm⟩⟩
theorem op_val {W : Wd} {f : F} {x : Int} {e : Int → List Int} (h : ∀ y ∈ fv f, y ≠ x → Norm W.n (e y)) : Op W.n (fun X => val W f (setE e x X)) where
  norm X hX := val_norm f _ fun y hy => by
    by_cases c : y = x
    · rw [c, setE_same]; exact hX
    · rw [setE_ne c]; exact h y hy c
  mono X Y hXY := val_le f _ _ fun y hy => by
    by_cases c : y = x
    · rw [c, setE_same, setE_same]; exact hXY
    · rw [setE_ne c, setE_ne c]; exact Le.refl _
theorem beh_in {W : Wd} (G : W.Good) {s l u : Int} (h : u ∈ W.beh s l) : 0 ≤ u ∧ u < (W.n : Int) := by
  obtain ⟨p, hp, rfl⟩ := List.mem_map.mp h
  exact G p (List.mem_filter.mp hp).1
/-! ### a row that comes back -/
open Classical in
theorem comes {W : Wd} {l : Int} {X : List Int} {Z : Int → Prop} {g : Int → Prop} (hX : ∀ s ∈ X, 0 ≤ s ∧ s < (W.n : Int)) (hz : ∀ z, Z z → ∃ c u, RIn W l X z c ∧ g c ∧ u ∈ W.beh c l ∧ u ∈ X ∧ Z u) :
    ∀ z, Z z → ∃ c, RIn W l X z c ∧ g c ∧ ∃ u ∈ W.beh c l, RIn W l X u c := by
  have key : ∀ (m : Nat) (z : Int), ((rng W.n).filter fun t => decide (RIn W l X z t)).length ≤ m → Z z → ∃ c, RIn W l X z c ∧ g c ∧ ∃ u ∈ W.beh c l, RIn W l X u c := by
    intro m
    induction m with
    | zero =>
      intro z hm Zz
      obtain ⟨c, u, h1, _⟩ := hz z Zz
      have : z ∈ (rng W.n).filter fun t => decide (RIn W l X z t) := List.mem_filter.mpr ⟨rng_mem.mpr (hX z h1.src), decide_eq_true (.here h1.src)⟩
      have := List.length_pos_of_mem this
      omega
    | succ m ih =>
      intro z hm Zz
      obtain ⟨c, u, h1, h2, h3, h4, h5⟩ := hz z Zz
      by_cases back : RIn W l X u c
      · exact ⟨c, h1, h2, u, h3, back⟩
      · have zu : RIn W l X z u := h1.snoc h3 h4
        have sub : ((rng W.n).filter fun t => decide (RIn W l X u t)).Sublist ((rng W.n).filter fun t => decide (RIn W l X z t)) :=
          filter_sub (fun t ht => decide_eq_true (zu.trans (of_decide_eq_true ht))) _
        have ne : ((rng W.n).filter fun t => decide (RIn W l X u t)).length ≠ ((rng W.n).filter fun t => decide (RIn W l X z t)).length := fun e => by
          have e2 := sub.eq_of_length e
          have hc : c ∈ (rng W.n).filter fun t => decide (RIn W l X z t) := List.mem_filter.mpr ⟨rng_mem.mpr (hX c h1.tgt), decide_eq_true h1⟩
          rw [← e2] at hc
          exact back (of_decide_eq_true (List.mem_filter.mp hc).2)
        have := sub.length_le
        obtain ⟨c', q1, q2, q3⟩ := ih u (by omega) h5
        exact ⟨c', zu.trans q1, q2, q3⟩
  exact fun z => key _ z (Nat.le_refl _)
/-! ### the four statements -/
def metF (l : Int) (t : F) : F := .two true t (.one .some l (.leaf .var 0))
def agF (l : Int) (t : F) : F := .one .most 0 (.one .least 1 (.two false (metF l t) (.one .some l (.leaf .var 1))))
def onF (l : Int) (t : F) : F := .one .most 1 (.two true t (.one .some l (.leaf .var 1)))
def laF (l : Int) (t : F) : F := .one .least 0 (.two false (onF l t) (.one .some l (.leaf .var 0)))
theorem fv_agF {l : Int} {t : F} (h : fv t = []) : fv (agF l t) = [] := by
  simp [agF, metF, fv, h, One.bind]
theorem fv_laF {l : Int} {t : F} (h : fv t = []) : fv (laF l t) = [] := by
  simp [laF, onF, fv, h, One.bind]
theorem val_ag {W : Wd} (G : W.Good) {l : Int} {t : F} (h : fv t = []) (e : Int → List Int) : val W (agF l t) e = leadL W l ((cycL W l (rng W.n)).filter (sIn (val W t e))) := by
  have Nt : Norm W.n (val W t e) := val_norm t e (fun x hx => by rw [h] at hx; cases hx)
  have inner : ∀ Z Y : List Int, ∀ s, s ∈ val W (.two false (metF l t) (.one .some l (.leaf .var 1))) (setE (setE e 0 Z) 1 Y) ↔
      (0 ≤ s ∧ s < (W.n : Int)) ∧ ((s ∈ val W t e ∧ ∃ u ∈ W.beh s l, u ∈ Z) ∨ ∃ u ∈ W.beh s l, u ∈ Y) := fun Z Y s => by
    rw [mem_or]
    unfold metF
    rw [mem_and, mem_some, mem_some, val_closed h _ e]
    have z0 : val W (.leaf .var 0) (setE (setE e 0 Z) 1 Y) = Z := by show setE (setE e 0 Z) 1 Y 0 = Z; rw [setE_ne (by decide), setE_same]
    have z1 : val W (.leaf .var 1) (setE (setE e 0 Z) 1 Y) = Y := setE_same
    rw [z0, z1]
    constructor
    · rintro ⟨a, (⟨_, b, _, c⟩ | ⟨_, c⟩)⟩
      · exact ⟨a, .inl ⟨b, c⟩⟩
      · exact ⟨a, .inr c⟩
    · rintro ⟨a, (⟨b, c⟩ | c)⟩
      · exact ⟨a, .inl ⟨a, b, a, c⟩⟩
      · exact ⟨a, .inr ⟨a, c⟩⟩
  have vars : ∀ y ∈ fv (F.two false (metF l t) (.one .some l (.leaf .var 1))), y ≠ 1 → y = 0 := fun y hy n1 => by
    simp [metF, fv, h, One.bind] at hy
    exact hy.resolve_right n1
  have Oi : ∀ Z, Norm W.n Z → Op W.n (fun Y => val W (.two false (metF l t) (.one .some l (.leaf .var 1))) (setE (setE e 0 Z) 1 Y)) := fun Z nZ =>
    op_val fun y hy n1 => by
      rw [vars y hy n1, setE_same]
      exact nZ
  have Oo : Op W.n (fun Z => val W (.one .least 1 (.two false (metF l t) (.one .some l (.leaf .var 1)))) (setE e 0 Z)) := op_val fun y hy n0 => by
    exfalso
    rw [fv_bind' rfl] at hy
    have q := List.mem_filter.mp hy
    exact n0 (vars y q.1 (by simpa using q.2))
  have nG : Norm W.n (val W (agF l t) e) := iter_norm Oo.norm (norm_rng _) _
  refine nG.eq (flt_norm _ _) fun s => ?_
  rw [mem_leadL]
  have fixo : val W (.one .least 1 (.two false (metF l t) (.one .some l (.leaf .var 1)))) (setE e 0 (val W (agF l t) e)) = val W (agF l t) e := gfp_fix Oo
  constructor
  · intro hs
    have reach : ∀ z, z ∈ val W (agF l t) e → ∃ c u, RIn W l (rng W.n) z c ∧ c ∈ val W t e ∧ u ∈ W.beh c l ∧ u ∈ rng W.n ∧ u ∈ val W (agF l t) e := by
      open Classical in
      intro z hzz
      rw [← fixo] at hzz
      have least := lfp_least (Oi _ nG) (S := flt W.n fun s => decide (∃ c u, RIn W l (rng W.n) s c ∧ c ∈ val W t e ∧ u ∈ W.beh c l ∧ u ∈ rng W.n ∧ u ∈ val W (agF l t) e)) (Le.of fun s hs => ?_) (W.n + 1)
      · have := least.mem hzz
        exact of_decide_eq_true (mem_flt.mp this).2
      · rw [inner] at hs
        obtain ⟨rs, (⟨h1, u, h2, h3⟩ | ⟨u, h2, h3⟩)⟩ := hs
        · exact mem_flt.mpr ⟨rs, decide_eq_true ⟨s, u, .here (rng_mem.mpr rs), h1, h2, rng_mem.mpr (beh_in G h2), h3⟩⟩
        · obtain ⟨c, v, q1, q2⟩ := of_decide_eq_true (mem_flt.mp h3).2
          exact mem_flt.mpr ⟨rs, decide_eq_true ⟨c, v, .step (rng_mem.mpr rs) h2 q1, q2⟩⟩
    obtain ⟨c, h1, h2, u, h3, h4⟩ := comes (X := rng W.n) (Z := fun z => z ∈ val W (agF l t) e) (g := fun c => c ∈ val W t e) (fun s hs => rng_mem.mp hs) reach s hs
    exact ⟨c, List.mem_filter.mpr ⟨List.mem_filter.mpr ⟨h1.tgt, cyc_iff.mpr ⟨u, h3, h4⟩⟩, sIn_iff.mpr h2⟩, h1⟩
  · intro hs
    have most := gfp_most Oo (S := leadL W l ((cycL W l (rng W.n)).filter (sIn (val W t e)))) (fun s hs => (mem_flt.mp hs).1) (Le.of fun s hs => ?_) (W.n + 1)
    · exact most.mem (mem_leadL.mpr hs)
    · obtain ⟨c, hc, path⟩ := mem_leadL.mp hs
      obtain ⟨h1, h2⟩ := List.mem_filter.mp hc
      obtain ⟨h3, h4⟩ := List.mem_filter.mp h1
      obtain ⟨u, h5, h6⟩ := cyc_iff.mp h4
      have nS : Norm W.n (leadL W l ((cycL W l (rng W.n)).filter (sIn (val W t e)))) := flt_norm _ _
      have fixi := lfp_fix (Oi _ nS)
      show s ∈ val W (.one .least 1 (.two false (metF l t) (.one .some l (.leaf .var 1)))) (setE e 0 (leadL W l ((cycL W l (rng W.n)).filter (sIn (val W t e)))))
      show s ∈ iter (fun Y => val W (.two false (metF l t) (.one .some l (.leaf .var 1))) (setE (setE e 0 (leadL W l ((cycL W l (rng W.n)).filter (sIn (val W t e))))) 1 Y)) (W.n + 1) []
      induction path with
      | here hx =>
        rw [← fixi, inner]
        exact ⟨rng_mem.mp h3, .inl ⟨sIn_iff.mp h2, u, h5, mem_leadL.mpr ⟨_, hc, h6⟩⟩⟩
      | step a b p ih =>
        rw [← fixi, inner]
        exact ⟨rng_mem.mp a, .inr ⟨_, b, ih (mem_leadL.mpr ⟨_, hc, p⟩) hc h1 h2 h3 h4 h5 h6⟩⟩
where
  fv_bind' {k : One} {x : Int} {f : F} (hk : k.bind = true) : fv (.one k x f) = (fv f).filter (fun y => y ≠ x) := by simp only [fv, if_pos hk]
theorem val_la {W : Wd} (G : W.Good) {l : Int} {t : F} (h : fv t = []) (e : Int → List Int) : val W (laF l t) e = leadL W l (cycL W l (val W t e)) := by
  have Nt : Norm W.n (val W t e) := val_norm t e (fun x hx => by rw [h] at hx; cases hx)
  have inner : ∀ (e' : Int → List Int) (Y : List Int), ∀ s, s ∈ val W (.two true t (.one .some l (.leaf .var 1))) (setE e' 1 Y) ↔ (0 ≤ s ∧ s < (W.n : Int)) ∧ s ∈ val W t e ∧ ∃ u ∈ W.beh s l, u ∈ Y := fun e' Y s => by
    rw [mem_and, mem_some, val_closed h _ e]
    have z1 : val W (.leaf .var 1) (setE e' 1 Y) = Y := setE_same
    rw [z1]
    exact ⟨fun q => ⟨q.1, q.2.1, q.2.2.2⟩, fun q => ⟨q.1, q.2.1, q.1, q.2.2⟩⟩
  have Oi : ∀ e' : Int → List Int, Op W.n (fun Y => val W (.two true t (.one .some l (.leaf .var 1))) (setE e' 1 Y)) := fun e' => op_val fun y hy n1 => by
    exfalso
    simp [fv, h, One.bind] at hy
    exact n1 hy
  have cl : fv (onF l t) = [] := by simp [onF, fv, h, One.bind]
  have onE : ∀ e', val W (onF l t) e' = val W (onF l t) e := fun e' => val_closed cl _ _
  have outer : ∀ X, ∀ s, s ∈ val W (.two false (onF l t) (.one .some l (.leaf .var 0))) (setE e 0 X) ↔ (0 ≤ s ∧ s < (W.n : Int)) ∧ (s ∈ val W (onF l t) e ∨ ∃ u ∈ W.beh s l, u ∈ X) := fun X s => by
    rw [mem_or, mem_some, onE]
    have z0 : val W (.leaf .var 0) (setE e 0 X) = X := setE_same
    rw [z0]
    constructor
    · rintro ⟨a, (b | ⟨_, c⟩)⟩
      · exact ⟨a, .inl b⟩
      · exact ⟨a, .inr c⟩
    · rintro ⟨a, (b | c)⟩
      · exact ⟨a, .inl b⟩
      · exact ⟨a, .inr ⟨a, c⟩⟩
  have Oo : Op W.n (fun X => val W (.two false (onF l t) (.one .some l (.leaf .var 0))) (setE e 0 X)) := op_val fun y hy n0 => by
    exfalso
    rw [show fv (F.two false (onF l t) (.one .some l (.leaf .var 0))) = fv (onF l t) ++ [0] from rfl, cl] at hy
    exact n0 (List.mem_singleton.mp hy)
  have non : Norm W.n (val W (onF l t) e) := iter_norm (Oi e).norm (norm_rng _) _
  have fixi : val W (.two true t (.one .some l (.leaf .var 1))) (setE e 1 (val W (onF l t) e)) = val W (onF l t) e := gfp_fix (Oi e)
  have nG : Norm W.n (val W (laF l t) e) := iter_norm Oo.norm (norm_nil _) _
  have fixo : val W (.two false (onF l t) (.one .some l (.leaf .var 0))) (setE e 0 (val W (laF l t) e)) = val W (laF l t) e := lfp_fix Oo
  have gin : ∀ s ∈ val W t e, s ∈ rng W.n := fun s hs => rng_mem.mpr (Nt.mem hs)
  refine nG.eq (flt_norm _ _) fun s => ?_
  constructor
  · intro hs
    have least := lfp_least Oo (S := leadL W l (cycL W l (val W t e))) (Le.of fun s hs => ?_) (W.n + 1)
    · exact least.mem hs
    · rw [outer] at hs
      obtain ⟨rs, (h1 | ⟨u, h2, h3⟩)⟩ := hs
      · obtain ⟨c, q1, q2, u, q3, q4⟩ := comes (W := W) (l := l) (X := val W t e) (Z := fun z => z ∈ val W (onF l t) e) (g := fun _ => True) (fun s hs => Nt.mem hs) (fun z hz => by
          rw [← fixi, inner] at hz
          obtain ⟨_, a, u, b, c⟩ := hz
          have c' := c
          rw [← fixi, inner] at c'
          exact ⟨z, u, .here a, trivial, b, c'.2.1, c⟩) s h1
        exact mem_leadL.mpr ⟨c, List.mem_filter.mpr ⟨q1.tgt, cyc_iff.mpr ⟨u, q3, q4⟩⟩, q1.mono gin⟩
      · obtain ⟨c, q1, q2⟩ := mem_leadL.mp h3
        exact mem_leadL.mpr ⟨c, q1, .step (rng_mem.mpr rs) h2 q2⟩
  · intro hs
    obtain ⟨c, hc, path⟩ := mem_leadL.mp hs
    obtain ⟨h1, h2⟩ := List.mem_filter.mp hc
    obtain ⟨u, h3, h4⟩ := cyc_iff.mp h2
    have conW : c ∈ val W (onF l t) e := by
      open Classical in
      have most := gfp_most (Oi e) (S := flt W.n fun s => decide (RIn W l (val W t e) s c)) (fun s hs => (mem_flt.mp hs).1) (Le.of fun s hs => ?_) (W.n + 1)
      · exact most.mem (mem_flt.mpr ⟨Nt.mem h1, decide_eq_true (.here h1)⟩)
      · obtain ⟨rs, q⟩ := mem_flt.mp hs
        rw [inner]
        have q' := of_decide_eq_true q
        refine ⟨rs, q'.src, ?_⟩
        cases q' with
        | here _ => exact ⟨u, h3, mem_flt.mpr ⟨beh_in G h3, decide_eq_true h4⟩⟩
        | step a b p => exact ⟨_, b, mem_flt.mpr ⟨beh_in G b, decide_eq_true p⟩⟩
    induction path with
    | here hx =>
      rw [← fixo, outer]
      exact ⟨rng_mem.mp hx, .inl conW⟩
    | step a b p ih =>
      rw [← fixo, outer]
      exact ⟨rng_mem.mp a, .inr ⟨_, b, ih (mem_leadL.mpr ⟨_, hc, p⟩) hc h1 h2 h3 h4 conW⟩⟩
/-- of opposites -/
theorem val_oppC {W : Wd} (G : W.Good) {t : F} (h : fv t = []) (e e' : Int → List Int) : val W (opp t) e = co W.n (val W t e') := by
  rw [← val_opp G t e']
  exact val_closed (by rw [opp_fv]; exact h) _ _
end Fw

set_option maxRecDepth 100000
set_option maxHeartbeats 2000000
namespace Fw
open PySem PySem.Spec PyProof.Rows L2
/-! ### the text by places -/
def top (i : Nat) : Stmt := PySem.Challenge.pw_fixworlds_k40_again.main.body.getD i (.Pass ⟨0, 0, 0, 0⟩)
abbrev s_Part_init : Stmt := inClass (top 6) 0
abbrev s_head_of : Stmt := top 7
abbrev s_parts_of : Stmt := top 8
abbrev s_built : Stmt := top 9
abbrev s_nearest_around : Stmt := top 10
abbrev s_binder_places : Stmt := top 11
abbrev s_free_variables : Stmt := top 14
abbrev s_ensure_closed : Stmt := top 15
abbrev s_opposite : Stmt := top 16
abbrev s_exchanged : Stmt := top 17
abbrev s_again_somewhere : Stmt := top 21
abbrev s_again_everywhere : Stmt := top 22
abbrev s_last_somewhere : Stmt := top 23
abbrev s_last_everywhere : Stmt := top 24
abbrev s_law_draws : Stmt := top 26
abbrev s_law_take : Stmt := top 27
abbrev s_law_is_integer : Stmt := top 28
abbrev s_law_inner : Stmt := top 29
abbrev s_law_atom : Stmt := top 30
abbrev s_law_statement : Stmt := top 31
abbrev s_law_closed : Stmt := top 32
abbrev s_law_free : Stmt := top 33
abbrev s_law_world : Stmt := top 34
abbrev s_law_behind : Stmt := top 35
abbrev s_law_value : Stmt := top 36
abbrev s_law_truth : Stmt := top 37
abbrev s_law_is_statement : Stmt := top 38
abbrev s_law_reached : Stmt := top 39
abbrev s_law_coming_back : Stmt := top 40
abbrev s_law_leading : Stmt := top 41
abbrev s_law : Stmt := top 42
abbrev n_Part_init : List Str := ["self", "head", "around"]
abbrev a_Part_init : List Str := ["self", "head", "around"]
theorem sc_Part_init : FnScope n_Part_init a_Part_init (defScope s_Part_init) := ⟨rfl, rfl, rfl, by decide +kernel, rfl, by decide +kernel, by decide +kernel⟩
abbrev n_head_of : List Str := ["statement"]
abbrev a_head_of : List Str := ["statement"]
theorem sc_head_of : FnScope n_head_of a_head_of (defScope s_head_of) := ⟨rfl, rfl, rfl, by decide +kernel, rfl, by decide +kernel, by decide +kernel⟩
abbrev n_parts_of : List Str := ["statement", "parts", "waiting", "told", "around", "head", "at", "within"]
abbrev a_parts_of : List Str := ["statement"]
theorem sc_parts_of : FnScope n_parts_of a_parts_of (defScope s_parts_of) := ⟨rfl, rfl, rfl, by decide +kernel, rfl, by decide +kernel, by decide +kernel⟩
abbrev n_built : List Str := ["parts", "heads", "made", "at", "place"]
abbrev a_built : List Str := ["parts", "heads"]
theorem sc_built : FnScope n_built a_built (defScope s_built) := ⟨rfl, rfl, rfl, by decide +kernel, rfl, by decide +kernel, by decide +kernel⟩
abbrev n_nearest_around : List Str := ["parts", "words", "nearest", "part", "around"]
abbrev a_nearest_around : List Str := ["parts", "words"]
theorem sc_nearest_around : FnScope n_nearest_around a_nearest_around (defScope s_nearest_around) := ⟨rfl, rfl, rfl, by decide +kernel, rfl, by decide +kernel, by decide +kernel⟩
abbrev n_binder_places : List Str := ["parts", "nearest", "places", "at", "part", "place"]
abbrev a_binder_places : List Str := ["parts"]
theorem sc_binder_places : FnScope n_binder_places a_binder_places (defScope s_binder_places) := ⟨rfl, rfl, rfl, by decide +kernel, rfl, by decide +kernel, by decide +kernel⟩
abbrev n_free_variables : List Str := ["statement", "parts", "places", "part", "place"]
abbrev a_free_variables : List Str := ["statement"]
theorem sc_free_variables : FnScope n_free_variables a_free_variables (defScope s_free_variables) := ⟨rfl, rfl, rfl, by decide +kernel, rfl, by decide +kernel, by decide +kernel⟩
abbrev n_ensure_closed : List Str := ["statement"]
abbrev a_ensure_closed : List Str := ["statement"]
theorem sc_ensure_closed : FnScope n_ensure_closed a_ensure_closed (defScope s_ensure_closed) := ⟨rfl, rfl, rfl, by decide +kernel, rfl, by decide +kernel, by decide +kernel⟩
abbrev n_opposite : List Str := ["statement"]
abbrev a_opposite : List Str := ["statement"]
theorem sc_opposite : FnScope n_opposite a_opposite (defScope s_opposite) := ⟨rfl, rfl, rfl, by decide +kernel, rfl, by decide +kernel, by decide +kernel⟩
abbrev n_exchanged : List Str := ["statement", "parts", "heads", "part"]
abbrev a_exchanged : List Str := ["statement"]
theorem sc_exchanged : FnScope n_exchanged a_exchanged (defScope s_exchanged) := ⟨rfl, rfl, rfl, by decide +kernel, rfl, by decide +kernel, by decide +kernel⟩
abbrev n_again_somewhere : List Str := ["label", "statement", "met"]
abbrev a_again_somewhere : List Str := ["label", "statement"]
theorem sc_again_somewhere : FnScope n_again_somewhere a_again_somewhere (defScope s_again_somewhere) := ⟨rfl, rfl, rfl, by decide +kernel, rfl, by decide +kernel, by decide +kernel⟩
abbrev n_again_everywhere : List Str := ["label", "statement"]
abbrev a_again_everywhere : List Str := ["label", "statement"]
theorem sc_again_everywhere : FnScope n_again_everywhere a_again_everywhere (defScope s_again_everywhere) := ⟨rfl, rfl, rfl, by decide +kernel, rfl, by decide +kernel, by decide +kernel⟩
abbrev n_last_somewhere : List Str := ["label", "statement", "onward"]
abbrev a_last_somewhere : List Str := ["label", "statement"]
theorem sc_last_somewhere : FnScope n_last_somewhere a_last_somewhere (defScope s_last_somewhere) := ⟨rfl, rfl, rfl, by decide +kernel, rfl, by decide +kernel, by decide +kernel⟩
abbrev n_last_everywhere : List Str := ["label", "statement"]
abbrev a_last_everywhere : List Str := ["label", "statement"]
theorem sc_last_everywhere : FnScope n_last_everywhere a_last_everywhere (defScope s_last_everywhere) := ⟨rfl, rfl, rfl, by decide +kernel, rfl, by decide +kernel, by decide +kernel⟩
abbrev n_law_draws : List Str := ["script", "count", "cells", "found", "mixed", "k", "j", "cell", "again"]
abbrev a_law_draws : List Str := ["script", "count"]
theorem sc_law_draws : FnScope n_law_draws a_law_draws (defScope s_law_draws) := ⟨rfl, rfl, rfl, by decide +kernel, rfl, by decide +kernel, by decide +kernel⟩
abbrev n_law_take : List Str := ["draws", "limit"]
abbrev a_law_take : List Str := ["draws", "limit"]
theorem sc_law_take : FnScope n_law_take a_law_take (defScope s_law_take) := ⟨rfl, rfl, rfl, by decide +kernel, rfl, by decide +kernel, by decide +kernel⟩
abbrev n_law_is_integer : List Str := ["actual"]
abbrev a_law_is_integer : List Str := ["actual"]
theorem sc_law_is_integer : FnScope n_law_is_integer a_law_is_integer (defScope s_law_is_integer) := ⟨rfl, rfl, rfl, by decide +kernel, rfl, by decide +kernel, by decide +kernel⟩
abbrev n_law_inner : List Str := ["statement", "part"]
abbrev a_law_inner : List Str := ["statement"]
theorem sc_law_inner : FnScope n_law_inner a_law_inner (defScope s_law_inner) := ⟨rfl, rfl, rfl, by decide +kernel, rfl, by decide +kernel, by decide +kernel⟩
abbrev n_law_atom : List Str := ["draws", "ready", "kind"]
abbrev a_law_atom : List Str := ["draws", "ready"]
theorem sc_law_atom : FnScope n_law_atom a_law_atom (defScope s_law_atom) := ⟨rfl, rfl, rfl, by decide +kernel, rfl, by decide +kernel, by decide +kernel⟩
abbrev n_law_statement : List Str := ["draws", "depth", "waiting", "ready", "loose", "kind", "first", "label", "variable", "later", "usable", "other"]
abbrev a_law_statement : List Str := ["draws", "depth", "waiting", "ready", "loose"]
theorem sc_law_statement : FnScope n_law_statement a_law_statement (defScope s_law_statement) := ⟨rfl, rfl, rfl, by decide +kernel, rfl, by decide +kernel, by decide +kernel⟩
abbrev n_law_closed : List Str := ["draws", "depth"]
abbrev a_law_closed : List Str := ["draws", "depth"]
theorem sc_law_closed : FnScope n_law_closed a_law_closed (defScope s_law_closed) := ⟨rfl, rfl, rfl, by decide +kernel, rfl, by decide +kernel, by decide +kernel⟩
abbrev n_law_free : List Str := ["statement", "bound", "found", "part"]
abbrev a_law_free : List Str := ["statement", "bound"]
theorem sc_law_free : FnScope n_law_free a_law_free (defScope s_law_free) := ⟨rfl, rfl, rfl, by decide +kernel, rfl, by decide +kernel, by decide +kernel⟩
abbrev n_law_world : List Str := ["draws", "most", "facts", "size", "state", "states", "steps", "label", "other", "fact"]
abbrev a_law_world : List Str := ["draws", "most", "facts"]
theorem sc_law_world : FnScope n_law_world a_law_world (defScope s_law_world) := ⟨rfl, rfl, rfl, by decide +kernel, rfl, by decide +kernel, by decide +kernel⟩
abbrev n_law_behind : List Str := ["world", "state", "label", "step"]
abbrev a_law_behind : List Str := ["world", "state", "label"]
theorem sc_law_behind : FnScope n_law_behind a_law_behind (defScope s_law_behind) := ⟨rfl, rfl, rfl, by decide +kernel, rfl, by decide +kernel, by decide +kernel⟩
abbrev n_law_value : List Str := ["world", "statement", "sets", "states", "kind", "now", "turn", "inner", "name", "first", "second", "state", "k"]
abbrev a_law_value : List Str := ["world", "statement", "sets"]
theorem sc_law_value : FnScope n_law_value a_law_value (defScope s_law_value) := ⟨rfl, rfl, rfl, by decide +kernel, rfl, by decide +kernel, by decide +kernel⟩
abbrev n_law_truth : List Str := ["world", "statement"]
abbrev a_law_truth : List Str := ["world", "statement"]
theorem sc_law_truth : FnScope n_law_truth a_law_truth (defScope s_law_truth) := ⟨rfl, rfl, rfl, by decide +kernel, rfl, by decide +kernel, by decide +kernel⟩
abbrev n_law_is_statement : List Str := ["actual", "depth", "sizes", "inner", "part"]
abbrev a_law_is_statement : List Str := ["actual", "depth"]
theorem sc_law_is_statement : FnScope n_law_is_statement a_law_is_statement (defScope s_law_is_statement) := ⟨rfl, rfl, rfl, by decide +kernel, rfl, by decide +kernel, by decide +kernel⟩
abbrev n_law_reached : List Str := ["world", "label", "starts", "inside", "found", "at", "state", "k"]
abbrev a_law_reached : List Str := ["world", "label", "starts", "inside"]
theorem sc_law_reached : FnScope n_law_reached a_law_reached (defScope s_law_reached) := ⟨rfl, rfl, rfl, by decide +kernel, rfl, by decide +kernel, by decide +kernel⟩
abbrev n_law_coming_back : List Str := ["world", "label", "inside", "found", "state", "ahead", "k"]
abbrev a_law_coming_back : List Str := ["world", "label", "inside"]
theorem sc_law_coming_back : FnScope n_law_coming_back a_law_coming_back (defScope s_law_coming_back) := ⟨rfl, rfl, rfl, by decide +kernel, rfl, by decide +kernel, by decide +kernel⟩
abbrev n_law_leading : List Str := ["world", "label", "goals", "states", "state", "k"]
abbrev a_law_leading : List Str := ["world", "label", "goals"]
theorem sc_law_leading : FnScope n_law_leading a_law_leading (defScope s_law_leading) := ⟨rfl, rfl, rfl, by decide +kernel, rfl, by decide +kernel, by decide +kernel⟩
abbrev n_law : List Str := ["script", "draws", "world", "statement", "label", "states", "good", "bad", "again", "last", "never", "gone", "due", "found", "k", "state"]
abbrev a_law : List Str := ["script"]
theorem sc_law : FnScope n_law a_law (defScope s_law) := ⟨rfl, rfl, rfl, by decide +kernel, rfl, by decide +kernel, by decide +kernel⟩
/-! ### calls -/
def Has (P : Program) (w : World) (K : PySem.W.Frag) (mg : Str → Option Value) (base : Heap) (x : Str) (k : Nat) (ps : List Str) (sp : Sp) : Prop :=
  ∃ f fd, mg x = some (.ref f) ∧ PySem.W.keepIn K (.ref f) = true ∧ Binds K fd ps [] ∧ FnOk P w K mg base CX0 k f fd ps sp
theorem pe_callH {X : Cx} {x : Str} {k : Nat} {ps : List Str} {sp : Sp} {e : Expr} {es : List Expr} {t : TA} {p pos : Pos} (h : Has X.prog X.w X.K X.mg X.base x k ps sp) (hr : Room k X.A) (ha : PA X (e :: es) t) (hg : Gl X x := by rfl)
    (hdb : (x == ("__debug__" : Str)) = false := by decide) (he : starEach (e :: es) X.env = (false, eval e X.env) :: starEach es X.env := by rfl) (hpl : (backTo pos (starEach es X.env)).any (·.1) = false := by rfl) :
    PE X (.Call (.Name x p) (e :: es) [] pos) (tCall sp [] E0 t) := by
  obtain ⟨f, fd, m, kp, b, G⟩ := h
  exact pe_call G hr hg m kp b .nil pass0 ha hdb he hpl
/-- .. of a def that may raise -/
def HasX (P : Program) (w : World) (K : PySem.W.Frag) (mg : Str → Option Value) (base : Heap) (x : Str) (k : Nat) (ps : List Str) (sp : Sp) : Prop :=
  ∃ f fd, mg x = some (.ref f) ∧ PySem.W.keepIn K (.ref f) = true ∧ Binds K fd ps [] ∧ FnOk P w K mg base (L2.CX P w) k f fd ps sp
theorem pe_callX {X : Cx} {W : WX} {x : Str} {k : Nat} {ps : List Str} {sp : Sp} {e : Expr} {es : List Expr} {t : TA} {p pos : Pos} (h : HasX X.prog X.w X.K X.mg X.base x k ps sp) (hr : Room k X.A) (tk : Takes X W) (ha : PA X (e :: es) t) (hg : Gl X x := by rfl)
    (hdb : (x == ("__debug__" : Str)) = false := by decide) (he : starEach (e :: es) X.env = (false, eval e X.env) :: starEach es X.env := by rfl) (hpl : (backTo pos (starEach es X.env)).any (·.1) = false := by rfl) :
    PE X (.Call (.Name x p) (e :: es) [] pos) (tCallS sp (WE W) t) := by
  obtain ⟨f, fd, m, kp, b, G⟩ := h
  exact pe_callS G hr hg m kp b (fun σ => passAt tk σ) ha hdb he hpl
theorem pe_callL {X : Cx} {x : Str} {k : Nat} {ps : List Str} {sp : Sp} {e : Expr} {es : List Expr} {t : TA} {p pos : Pos} (h : HasX X.prog X.w X.K X.mg X.base x k ps sp) (hr : Room k X.A) (ha : PA X (e :: es) t) (hg : Gl X x := by rfl)
    (hdb : (x == ("__debug__" : Str)) = false := by decide) (he : starEach (e :: es) X.env = (false, eval e X.env) :: starEach es X.env := by rfl) (hpl : (backTo pos (starEach es X.env)).any (·.1) = false := by rfl) :
    PE X (.Call (.Name x p) (e :: es) [] pos) (tCall sp [] E0 t) := by
  obtain ⟨f, fd, m, kp, b, G⟩ := h
  exact pe_call G hr hg m kp b .nil passL ha hdb he hpl
theorem pss_when {X : Cx} {sts : List Stmt} {t : TS} {p : Prop} (h : p → PSs X sts t) : PSs X sts (fun D σ H => p ∧ t D σ H) :=
  ⟨fun pins s σ H D I q => (h q.1).run pins s σ H D I q.2⟩
def HasC (P : Program) (w : World) (K : PySem.W.Frag) (mg : Str → Option Value) (base : Heap) (x : Str) (C : Addr) (k : Nat) (ps : List Str) (sp : Sp) : Prop :=
  ∃ f fd, mg x = some (.ref C) ∧ Mk K C f ∧ Binds K fd ps [] ∧ FnOk P w K mg base CX0 k f fd ps sp
theorem pe_makeH {X : Cx} {x : Str} {C : Addr} {k : Nat} {ps : List Str} {sp : Sp} {e : Expr} {es : List Expr} {t : TA} {p pos : Pos} (h : HasC X.prog X.w X.K X.mg X.base x C k ps sp) (hr : Room (k + 1) X.A) (ha : PA X (e :: es) t) (hg : Gl X x := by rfl)
    (hdb : (x == ("__debug__" : Str)) = false := by decide) (he : starEach (e :: es) X.env = (false, eval e X.env) :: starEach es X.env := by rfl) (hpl : (backTo pos (starEach es X.env)).any (·.1) = false := by rfl) :
    PE X (.Call (.Name x p) (e :: es) [] pos) (tMake C sp [] E0 t) := by
  obtain ⟨f, fd, m, M, b, G⟩ := h
  exact pe_make M G hr hg m b .nil pass0 ha hdb he hpl
/-! ### statements in memory -/
def wN (b : Bool) : Str := if b then "true" else "false"
def wT (b : Bool) : Str := if b then "and" else "or"
def wL : Leaf → Str
  | .has => "has"
  | .lacks => "lacks"
  | .var => "var"
def wO : One → Str
  | .some => "some"
  | .all => "all"
  | .least => "least"
  | .most => "most"
def hv : Hd → List V
  | .nul b => [.str (wN b)]
  | .leaf k n => [.str (wL k), .int n]
  | .two b => [.str (wT b)]
  | .one k n => [.str (wO k), .int n]
def hw : Hd → Str
  | .nul b => wN b
  | .leaf k _ => wL k
  | .two b => wT b
  | .one k _ => wO k
inductive IsF (K : PySem.W.Frag) (H : Hp) : V → F → Prop
  | nul {a : Addr} {b : Bool} : SqT K H a (hv (.nul b)) → IsF K H (.ref a) (.nul b)
  | leaf {a : Addr} {k : Leaf} {n : Int} : SqT K H a (hv (.leaf k n)) → IsF K H (.ref a) (.leaf k n)
  | two {a : Addr} {b : Bool} {x y : V} {f g : F} : SqT K H a (hv (.two b) ++ [x, y]) → IsF K H x f → IsF K H y g → IsF K H (.ref a) (.two b f g)
  | one {a : Addr} {k : One} {n : Int} {x : V} {f : F} : SqT K H a (hv (.one k n) ++ [x]) → IsF K H x f → IsF K H (.ref a) (.one k n f)
/-- all but what stands at d is as it was -/
def But (d : Addr) (H H' : Hp) : Prop := ∀ b o, b ≠ d → H b = some o → H' b = some o
theorem Same.but {d : Addr} {H H' : Hp} (s : Same H H') : But d H H' := fun b o _ e => s b o e
theorem But.refl (d : Addr) (H : Hp) : But d H H := fun _ _ _ e => e
theorem But.trans {d : Addr} {H H1 H2 : Hp} (a : But d H H1) (b : But d H1 H2) : But d H H2 := fun c o n e => b c o n (a c o n e)
theorem But.upd {d : Addr} {H : Hp} {o : HO} : But d H (upd H d o) := fun b u n e => by rw [upd_ne n]; exact e
theorem Same.new {H : Hp} {p : Addr} {o : HO} (h : H p = none) : Same H (upd H p o) := fun b u e => by rw [upd_ne (ne_of_none e h)]; exact e
theorem SqT.keepAt {K : PySem.W.Frag} {H H' : Hp} {a : Addr} {xs : List V} (k : ∀ o, H a = some o → H' a = some o) (h : SqT K H a xs) : SqT K H' a xs := by
  rcases h with h | h
  · rcases h with h | ⟨u, h⟩
    · exact .inl (.inl (k _ h))
    · exact .inl (.inr ⟨u, k _ h⟩)
  · exact .inr h
theorem SqL.keepAt {K : PySem.W.Frag} {H H' : Hp} {a : Addr} {xs : List V} (k : ∀ o, H a = some o → H' a = some o) (h : SqL K H a xs) : SqL K H' a xs := by
  rcases h with h | h
  · rcases h with h | ⟨u, h⟩
    · exact .inl (.inl (k _ h))
    · exact .inl (.inr ⟨u, k _ h⟩)
  · exact .inr h
theorem SqT.same {K : PySem.W.Frag} {H H' : Hp} {a : Addr} {xs : List V} (s : Same H H') (h : SqT K H a xs) : SqT K H' a xs := SqT.keepAt (fun o e => s a o e) h
/-- what stands at d is a list: tuples are elsewhere -/
def IsLst (H : Hp) (d : Addr) : Prop := ∃ xs, H d = some (.lst xs)
theorem SqT.but {K : PySem.W.Frag} {H H' : Hp} {a d : Addr} {xs : List V} (hd : IsLst H d) (s : But d H H') (h : SqT K H a xs) : SqT K H' a xs := by
  rcases h with h | h
  · obtain ⟨ys, e⟩ := hd
    rcases h with h | ⟨u, h⟩
    · exact .inl (.inl (s _ _ (ne_of h e (by intro z; cases z)) h))
    · exact .inl (.inr ⟨u, s _ _ (ne_of h e (by intro z; cases z)) h⟩)
  · exact .inr h
theorem IsF.map {K : PySem.W.Frag} {H H' : Hp} (s : ∀ a xs, SqT K H a xs → SqT K H' a xs) {v : V} {t : F} (h : IsF K H v t) : IsF K H' v t := by
  induction h with
  | nul h => exact .nul (s _ _ h)
  | leaf h => exact .leaf (s _ _ h)
  | two h _ _ f g => exact .two (s _ _ h) f g
  | one h _ f => exact .one (s _ _ h) f
theorem IsF.same {K : PySem.W.Frag} {H H' : Hp} (s : Same H H') {v : V} {t : F} (h : IsF K H v t) : IsF K H' v t := h.map fun _ _ => SqT.same s
theorem IsF.but {K : PySem.W.Frag} {H H' : Hp} {d : Addr} (hd : IsLst H d) (s : But d H H') {v : V} {t : F} (h : IsF K H v t) : IsF K H' v t := h.map fun _ _ => SqT.but hd s
inductive AllF (K : PySem.W.Frag) (H : Hp) : List V → List F → Prop
  | nil : AllF K H [] []
  | cons {x : V} {f : F} {xs : List V} {fs : List F} : IsF K H x f → AllF K H xs fs → AllF K H (x :: xs) (f :: fs)
theorem IsF.open {K : PySem.W.Frag} {H : Hp} {v : V} {t : F} (h : IsF K H v t) : ∃ a ks, v = .ref a ∧ SqT K H a (hv t.hd ++ ks) ∧ AllF K H ks t.kids := by
  cases h with
  | nul h => exact ⟨_, [], rfl, by simpa [F.hd] using h, .nil⟩
  | leaf h => exact ⟨_, [], rfl, by simpa [F.hd] using h, .nil⟩
  | two h f g => exact ⟨_, _, rfl, h, .cons f (.cons g .nil)⟩
  | one h f => exact ⟨_, _, rfl, h, .cons f .nil⟩
theorem IsF.close {K : PySem.W.Frag} {H : Hp} {a : Addr} {t : F} {ks : List V} (h : SqT K H a (hv t.hd ++ ks)) (hk : AllF K H ks t.kids) : IsF K H (.ref a) t := by
  cases t with
  | nul b =>
    cases hk
    exact .nul (by simpa [F.hd] using h)
  | leaf k n =>
    cases hk
    exact .leaf (by simpa [F.hd] using h)
  | two b f g =>
    cases hk with
    | cons x hk =>
      cases hk with
      | cons y hk =>
        cases hk
        exact .two h x y
  | one k n f =>
    cases hk with
    | cons x hk =>
      cases hk
      exact .one h x
theorem hv_len (h : Hd) : (hv h).length = 1 ∨ (hv h).length = 2 := by cases h <;> simp [hv]
theorem hv_head (h : Hd) : (hv h)[0]? = some (.str (hw h)) := by cases h <;> rfl
def isTwo : Hd → Bool
  | .two _ => true
  | _ => false
theorem in_joins (h : Hd) : inV (.str (hw h)) [.str "and", .str "or"] = isTwo h := by
  cases h with
  | nul b => cases b <;> rfl
  | leaf k n => cases k <;> rfl
  | two b => cases b <;> rfl
  | one k n => cases k <;> rfl
def isBH : Hd → Bool
  | .one k _ => k.bind
  | _ => false
theorem in_binders (h : Hd) : inV (.str (hw h)) [.str "least", .str "most"] = isBH h := by
  cases h with
  | nul b => cases b <;> rfl
  | leaf k n => cases k <;> rfl
  | two b => cases b <;> rfl
  | one k n => cases k <;> rfl
/-! ### what the top has written -/
structure Txt (K : PySem.W.Frag) (mg : Str → Option Value) (C J B : Addr) : Prop where
  z_bool : mg "bool" = none
  z_enumerate : mg "enumerate" = none
  z_int : mg "int" = none
  z_isinstance : mg "isinstance" = none
  z_len : mg "len" = none
  z_list : mg "list" = none
  z_range : mg "range" = none
  z_reversed : mg "reversed" = none
  z_sorted : mg "sorted" = none
  z_tuple : mg "tuple" = none
  z_zip : mg "zip" = none
  m_JOINS : mg "JOINS" = some (.ref J)
  c_JOINS : ∀ H, SqT K H J [.str "and", .str "or"]
  m_BINDERS : mg "BINDERS" = some (.ref B)
  c_BINDERS : ∀ H, SqT K H B [.str "least", .str "most"]
  cl : Cls K C
  nH : NoAttr K C "head"
  nA : NoAttr K C "around"
  nI : NoAttr K C "inner"
/-- what it has written of the errors -/
structure TxtE (K : PySem.W.Frag) (mg : Str → Option Value) (NC FE : Addr) : Prop where
  gC : mg "NotClosed" = some (.ref NC)
  gF : mg "FixError" = some (.ref FE)
  xC : PySem.W.excIn K NC [.type "ValueError", .type "Exception", .type "BaseException", .type "object"] "ValueError.__new__" = true
  kC : PySem.W.keepIn K (.ref NC) = true
  bC : PySem.W.subIn K (.ref NC) (.type "BaseException") = some true
  tC : PySem.W.typeIn K (.ref NC) = some (.type "type")
  eC : PySem.W.exmOne K (.ref NC) (.ref NC) = some true
  is : ExcC K NC
  kF : PySem.W.kitOne K (.ref NC) (.ref FE) = some true
  kV : PySem.W.kitOne K (.ref NC) (.type "ValueError") = some true
def pf (h : V) (a : Int) (l : Addr) : List (Str × V) := [("head", h), ("around", .int a), ("inner", .ref l)]
theorem pf_make (h : V) (a : Int) (l : Addr) : putF "inner" (.ref l) (putF "around" (.int a) (putF "head" h [])) = pf h a l := by rfl
theorem join {c : Bool} {A : Prop} {C : Hp → Prop} {G : Hp} (Fa : Hp → Prop) (hr : ∀ G5, Fa G5 → C G5) (h1 : c = true → (∀ G5, Fa G5 → C G5) → A) (h2 : c = false → Fa G) : if c = true then A else C G := by
  cases c with
  | true => exact h1 rfl hr
  | false => exact hr _ (h2 rfl)
section
variable {P : Program} {w : World} {K : PySem.W.Frag} {mg : Str → Option Value} {base : Heap} {C J B : Addr}
/-! ### Part -/
def spPart (K : PySem.W.Frag) (C : Addr) : Sp := fun vs H Q _ => ∃ (p dx : Addr) (h : V) (a : Int), vs = [.ref p, h, .int a] ∧ H p = some (.ins C dx []) ∧
  ∀ l H', H l = none → H' p = some (.ins C dx (pf h a l)) → H' l = some (.lst []) → But p H H' → Q .non H'
theorem ok_Part {f : Addr} {fd : FuncData} (FF : Fun K "__init__" "Part.__init__" s_Part_init f fd) (T : Txt K mg C J B) : FnOk P w K mg base CX0 1 f fd a_Part_init (spPart K C) := by
  refine FF.ok sc_Part_init (fun vs H Q E h => ?_) (fun cdv A outer s H vs Q E hr h => ?_)
  · obtain ⟨p, dx, h, a, rfl, _⟩ := h
    rfl
  · obtain ⟨p, dx, h, a, rfl, hp, k⟩ := h
    refine ⟨_, (pss_cons (ps_fld (pv 0) (pv 1) rfl)
      (pss_cons (ps_fld (pv 0) (pv 2) rfl)
      (pss_one (ps_fld (pv 0) (pe_lst pa_nil) rfl)))), ?_⟩
    refine ⟨_, rfl, _, rfl, p, C, dx, [], rfl, hp, T.cl, T.nH, by show 0 < 1000; decide, ?_⟩
    refine ⟨_, rfl, _, rfl, p, C, dx, _, rfl, upd_same, T.cl, T.nA, by show 1 < 1000; decide, ?_⟩
    refine ⟨Nat.zero_le _, fun l hl => ?_⟩
    have pl : p ≠ l := fun e => by
      rw [e, upd_same] at hl
      cases hl
    refine ⟨_, rfl, p, C, dx, _, rfl, by rw [upd_ne pl, upd_same], T.cl, T.nI, by show 2 < 1000; decide, ?_⟩
    rw [upd_ne pl.symm, upd_ne pl.symm] at hl
    refine k l _ hl (by rw [upd_same, pf_make]) (by rw [upd_ne pl.symm, upd_same]) fun b o nb e => ?_
    rw [upd_ne nb, upd_ne (ne_of_none e hl), upd_ne nb, upd_ne nb]
    exact e
/-! ### head_of -/
def spHead (K : PySem.W.Frag) : Sp := fun vs H Q _ => ∃ (v : V) (t : F), vs = [v] ∧ IsF K H v t ∧ ∀ h H', Same H H' → SqT K H' h (hv t.hd) → Q (.ref h) H'
theorem ok_head_of {f : Addr} {fd : FuncData} (FF : Fun K "head_of" "head_of" s_head_of f fd) (T : Txt K mg C J B) : FnOk P w K mg base CX0 1 f fd a_head_of (spHead K) := by
  refine FF.ok sc_head_of (fun vs H Q E h => ?_) (fun cdv A outer s H vs Q E hr h => ?_)
  · obtain ⟨v, t, rfl, _⟩ := h
    rfl
  · obtain ⟨v, t, rfl, ht, k⟩ := h
    obtain ⟨a, ks, rfl, sq, ak⟩ := ht.open
    refine ⟨_, (pss_cons (ps_if (pt_cmpR op_in_seq (pe_ix ix_tup (pv 0) pe_int (fun _ _ => rfl)) (pe_glob rfl T.m_JOINS (show RelV (.ref _) _ from rfl)) (by rfl)) (pss_one (ps_ret (pe_slice sl_tupA (pv 0) po_none (po_some pe_int)))) pss_nil)
      (pss_one (ps_ret (pe_slice sl_tupA (pv 0) po_none (po_some pe_int))))), ?_⟩
    have at0 : atI (hv t.hd ++ ks) 0 = some (.str (hw t.hd)) := atI_nat (j := 0) (by rw [List.getElem?_append_left (by rcases hv_len t.hd with e | e <;> omega)]; exact hv_head _)
    refine ⟨_, rfl, a, _, _, _, rfl, rfl, sq, at0, J, _, rfl, .inr (T.c_JOINS H), rfl, rfl, _, rfl, ?_⟩
    rw [if_neg Bool.false_ne_true, in_joins]
    have both : ∀ n : Nat, cutV (hv t.hd ++ ks) none (some (n : Int)) = (hv t.hd ++ ks).take n := fun n => by
      unfold cutV
      rw [HT.sIx_none, HT.sIx_nat, List.drop_zero, Nat.sub_zero]
      rcases Nat.le_total n (hv t.hd ++ ks).length with h | h
      · rw [Nat.min_eq_left h]
      · rw [Nat.min_eq_right h, List.take_of_length_le (Nat.le_refl _), List.take_of_length_le h]
    have fin : ∀ n : Nat, (hv t.hd ++ ks).take n = hv t.hd → rSlA K (.ref a) none (some (n : Int)) H Q := fun n e => by
      refine ⟨a, _, rfl, sq, fun whole => ?_, fun _ p hp => ?_⟩
      · refine k a H (Same.refl H) ?_
        rw [← e]
        rw [HT.sIx_none, HT.sIx_nat] at whole
        rw [List.take_of_length_le (by omega)]
        exact sq
      · refine k p _ (Same.new hp) (SqT.of ?_)
        rw [upd_same, both, e]
    cases h2 : isTwo t.hd
    · refine iteF ?_
      refine ⟨_, rfl, 2, rfl, fin 2 ?_⟩
      cases t with
      | two b f g => cases h2
      | nul b =>
        cases ak
        rfl
      | leaf kd n => rfl
      | one kd n f => rfl
    · refine iteT ?_
      refine ⟨_, rfl, 1, rfl, fin 1 ?_⟩
      cases t with
      | two b f g => rfl
      | nul b => cases h2
      | leaf kd n => cases h2
      | one kd n f => cases h2
end
end Fw

set_option maxRecDepth 100000
set_option maxHeartbeats 2000000
namespace Fw
open PySem PySem.Spec PyProof.Rows L2
/-! ### parts in memory -/
/-- all but what stands at the addresses of X is as it was -/
def Kp (X : List Addr) (H H' : Hp) : Prop := ∀ b o, b ∉ X → H b = some o → H' b = some o
/-- all but lists is as it was -/
def LKp (H H' : Hp) : Prop := ∀ b o, (∀ xs, o ≠ .lst xs) → H b = some o → H' b = some o
theorem LKp.refl (H : Hp) : LKp H H := fun _ _ _ e => e
theorem LKp.trans {H H1 H2 : Hp} (a : LKp H H1) (b : LKp H1 H2) : LKp H H2 := fun c o n e => b c o n (a c o n e)
theorem LKp.same {H H' : Hp} (s : Same H H') : LKp H H' := fun b o _ e => s b o e
theorem LKp.upd {H : Hp} {d : Addr} {xs : List V} {o : HO} (h : H d = some (.lst xs)) : LKp H (upd H d o) := fun b u n e => by
  rw [upd_ne (ne_of e h (n xs))]
  exact e
theorem SqT.lk {K : PySem.W.Frag} {H H' : Hp} {a : Addr} {xs : List V} (s : LKp H H') (h : SqT K H a xs) : SqT K H' a xs := by
  rcases h with h | h
  · rcases h with h | ⟨u, h⟩
    · exact .inl (.inl (s _ _ (by intro xs z; cases z) h))
    · exact .inl (.inr ⟨u, s _ _ (by intro xs z; cases z) h⟩)
  · exact .inr h
theorem IsF.lk {K : PySem.W.Frag} {H H' : Hp} (s : LKp H H') {v : V} {t : F} (h : IsF K H v t) : IsF K H' v t := h.map fun _ _ => SqT.lk s
theorem AllF.lk {K : PySem.W.Frag} {H H' : Hp} (s : LKp H H') {vs : List V} {ts : List F} (h : AllF K H vs ts) : AllF K H' vs ts := by
  induction h with
  | nil => exact .nil
  | cons a _ ih => exact .cons (a.lk s) ih
theorem AllF.len {K : PySem.W.Frag} {H : Hp} {vs : List V} {ts : List F} (h : AllF K H vs ts) : vs.length = ts.length := by
  induction h with
  | nil => rfl
  | cons _ _ ih => simp [ih]
theorem AllF.get {K : PySem.W.Frag} {H : Hp} {vs : List V} {ts : List F} (h : AllF K H vs ts) : ∀ {m : Nat} {y : V} {f : F}, vs[m]? = some y → ts[m]? = some f → IsF K H y f := by
  induction h with
  | nil => intro m y f e _; cases e
  | cons a _ ih =>
    intro m y f e1 e2
    cases m with
    | zero =>
      cases e1
      cases e2
      exact a
    | succ m => exact ih e1 e2
structure PRec where
  p : Addr
  l : Addr
  dx : Addr
  h : Addr
structure PartIs (K : PySem.W.Frag) (C : Addr) (H : Hp) (pr : PRec) (hd : Hd) (a : Int) (ks : List Nat) : Prop where
  ob : H pr.p = some (.ins C pr.dx (pf (.ref pr.h) a pr.l))
  hd : SqT K H pr.h (hv hd)
  inn : H pr.l = some (.lst (ks.map fun n => V.int (n : Nat)))
def Parts (K : PySem.W.Frag) (C : Addr) (H : Hp) (R : List PRec) (L : List (Hd × Int)) : Prop :=
  R.length = L.length ∧ ∀ i pr hd a, R[i]? = some pr → L[i]? = some (hd, a) → PartIs K C H pr hd a (kidsFrom (L.map (·.2)) 0 i)
def PartsAt (K : PySem.W.Frag) (C : Addr) (H : Hp) (pa : Addr) (L : List (Hd × Int)) : Prop :=
  ∃ R : List PRec, SqL K H pa (R.map fun r => V.ref r.p) ∧ Parts K C H R L
theorem PartIs.same {K : PySem.W.Frag} {C : Addr} {H H' : Hp} {pr : PRec} {hd : Hd} {a : Int} {ks : List Nat} (s : Same H H') (h : PartIs K C H pr hd a ks) : PartIs K C H' pr hd a ks :=
  ⟨s _ _ h.ob, SqT.same s h.hd, s _ _ h.inn⟩
theorem PartsAt.same {K : PySem.W.Frag} {C : Addr} {H H' : Hp} {pa : Addr} {L : List (Hd × Int)} (s : Same H H') (h : PartsAt K C H pa L) : PartsAt K C H' pa L := by
  obtain ⟨R, h1, h2, h3⟩ := h
  exact ⟨R, s.seq h1, h2, fun i pr hd a e1 e2 => (h3 i pr hd a e1 e2).same s⟩
/-- what waits: bottom first in memory, top first in the list -/
inductive SA (K : PySem.W.Frag) (H : Hp) : List V → List (F × Int) → Prop
  | nil : SA K H [] []
  | snoc {ws : List V} {st : List (F × Int)} {q : Addr} {x : V} {t : F} {a : Int} : SA K H ws st → SqT K H q [x, .int a] → IsF K H x t → SA K H (ws ++ [.ref q]) ((t, a) :: st)
theorem SA.lk {K : PySem.W.Frag} {H H' : Hp} (s : LKp H H') {ws : List V} {st : List (F × Int)} (h : SA K H ws st) : SA K H' ws st := by
  induction h with
  | nil => exact .nil
  | snoc _ b c ih => exact .snoc ih (SqT.lk s b) (c.lk s)
theorem SA.len {K : PySem.W.Frag} {H : Hp} {ws : List V} {st : List (F × Int)} (h : SA K H ws st) : ws.length = st.length := by
  induction h with
  | nil => rfl
  | snoc _ _ _ ih => simp [ih]
theorem kids_snoc (L : List (Hd × Int)) (h : Hd) (a : Int) (i : Nat) :
    kidsFrom ((L ++ [(h, a)]).map (·.2)) 0 i = kidsFrom (L.map (·.2)) 0 i ++ if a = (i : Int) then [L.length] else [] := by
  rw [List.map_append, kids_app]
  simp only [List.map_cons, List.map_nil, kidsFrom, Nat.zero_add, List.length_map]
theorem kids_out : ∀ (A : List Int) (j i : Nat), (∀ a ∈ A, a < (i : Int)) → kidsFrom A j i = [] := fun A j i h => kids_none A j i fun a ha => by have := h a ha; omega
theorem Parts.more {K : PySem.W.Frag} {C : Addr} {G G5 : Hp} {R : List PRec} {L : List (Hd × Int)} {n : PRec} {hd : Hd} {a : Int} (PR : Parts K C G R L) (lk : LKp G G5)
    (hin : ∀ i pr, R[i]? = some pr → G5 pr.l = some (.lst ((kidsFrom (L.map (·.2)) 0 i ++ if a = (i : Int) then [L.length] else []).map fun n => V.int (n : Nat))))
    (Lb : ∀ x ∈ L, x.2 < (L.length : Int)) (ha : a < (L.length : Int)) (new : PartIs K C G5 n hd a []) : Parts K C G5 (R ++ [n]) (L ++ [(hd, a)]) := by
  obtain ⟨len, h⟩ := PR
  refine ⟨by simp [len], fun i pr hd' a' e1 e2 => ?_⟩
  rw [kids_snoc]
  by_cases lt : i < R.length
  · rw [List.getElem?_append_left lt] at e1
    rw [List.getElem?_append_left (by omega)] at e2
    have z := h i pr hd' a' e1 e2
    exact ⟨lk _ _ (by intro xs q; cases q) z.ob, SqT.lk lk z.hd, hin i pr e1⟩
  · have ei : i = R.length := by
      have q := (List.getElem?_eq_some_iff.mp e1).1
      rw [List.length_append, List.length_singleton] at q
      omega
    subst ei
    rw [List.getElem?_append_right (Nat.le_refl _), Nat.sub_self] at e1
    rw [List.getElem?_append_right (by omega), len, Nat.sub_self] at e2
    cases e1
    cases e2
    have none : kidsFrom (L.map (·.2)) 0 R.length = [] := by
      refine kids_out _ _ _ fun b hb => ?_
      obtain ⟨x, hx, rfl⟩ := List.mem_map.mp hb
      rw [len]
      exact Lb x hx
    rw [none, if_neg (by rw [len]; omega)]
    exact new
section
variable {P : Program} {w : World} {K : PySem.W.Frag} {mg : Str → Option Value} {base : Heap} {C J B : Addr}
def spParts (K : PySem.W.Frag) (C : Addr) : Sp := fun vs H Q _ => ∃ (v : V) (t : F), vs = [v] ∧ IsF K H v t ∧ t.size ≤ 1000 ∧
  ∀ pa H', Same H H' → PartsAt K C H' pa (pre t (-1) 0) → Q (.ref pa) H'
theorem ok_parts_of {f : Addr} {fd : FuncData} (FF : Fun K "parts_of" "parts_of" s_parts_of f fd) (T : Txt K mg C J B)
    (h_head_of : Has P w K mg base "head_of" 1 a_head_of (spHead K)) (h_Part : HasC P w K mg base "Part" C 1 a_Part_init (spPart K C)) : FnOk P w K mg base CX0 3 f fd a_parts_of (spParts K C) := by
  refine FF.ok sc_parts_of (fun vs H Q E h => ?_) (fun cdv A outer s H vs Q E hr h => ?_)
  · obtain ⟨v, t, rfl, _⟩ := h
    rfl
  · obtain ⟨v, t, rfl, ht, hsz, k⟩ := h
    refine ⟨_, (pss_cons (ps_set (i := 1) sc_parts_of.nd rfl (.inl rfl) (pe_lst pa_nil))
      (pss_cons (ps_set (i := 2) sc_parts_of.nd rfl (.inl rfl) (pe_lst (pa_cons (pe_tup (pa_cons (pv 0) (pa_cons (pe_un un_neg pe_int) pa_nil))) pa_nil)))
      (pss_cons (ps_while PassesOwn.never (pt_truth (pv 2) (by intro _; rfl)) (pss_cons (ps_asg (pe_bm0 PySem.F.plainAttrs_list PySem.F.slot_list_pop PySem.F.type_list_pop mt_pop (pv 2)) (pg_tup rfl (pgs_cons (pg_name (i := 3) sc_parts_of.nd rfl (.inl rfl)) (pgs_cons (pg_name (i := 4) sc_parts_of.nd rfl (.inl rfl)) pgs_nil))))
      (pss_cons (ps_set (i := 5) sc_parts_of.nd rfl (.inl rfl) (pe_callH h_head_of (hr.mono (by omega)) (pa_cons (pv 3) pa_nil)))
      (pss_cons (ps_set (i := 6) sc_parts_of.nd rfl (.inl rfl) (pe_callB call_len_seq rfl T.z_len (by decide +kernel) (pa_cons (pv 1) pa_nil)))
      (pss_cons (ps_expr (pe_bm PySem.F.plainAttrs_list PySem.F.slot_list_append PySem.F.type_list_append mt_append (pv 1) (pa_cons (pe_makeH h_Part (hr.mono (by omega)) (pa_cons (pv 5) (pa_cons (pv 4) pa_nil))) pa_nil)))
      (pss_cons (ps_if (pt_cmpR op_ge (pv 4) pe_int (nomark _)) (pss_one (ps_expr (pe_bm PySem.F.plainAttrs_list PySem.F.slot_list_append PySem.F.type_list_append mt_append (pe_fld (pe_ix ix_list (pv 1) (pv 4) (fun _ _ => rfl)) rfl) (pa_cons (pv 6) pa_nil)))) pss_nil)
      (pss_one (ps_for PassesOwn.never rfl (RT.pi_revA rfl T.z_reversed (pe_slice sl_tupA (pv 3) (po_some (pe_callB call_len_seq rfl T.z_len (by decide +kernel) (pa_cons (pv 5) pa_nil))) po_none)) (pg_name (i := 7) sc_parts_of.nd rfl (.inl rfl)) (pss_one (ps_expr (pe_bm PySem.F.plainAttrs_list PySem.F.slot_list_append PySem.F.type_list_append mt_append (pv 2) (pa_cons (pe_tup (pa_cons (pv 7) (pa_cons (pv 6) pa_nil))) pa_nil))))))))))))
      (pss_one (ps_ret (pv 1)))))), ?_⟩
    refine ⟨Nat.zero_le _, fun pa hpa => ?_⟩
    refine ⟨v, rfl, _, rfl, by show 2 ≤ sizeLine; decide, fun q0 hq0 => ?_⟩
    refine ⟨by show 1 ≤ sizeLine; decide, fun wa hwa => ?_⟩
    have paq : pa ≠ q0 := fun e => by rw [e, upd_same] at hq0; cases hq0
    have hq0' : H q0 = none := by rw [upd_ne paq.symm] at hq0; exact hq0
    have wq : wa ≠ q0 := fun e => by rw [e, upd_same] at hwa; cases hwa
    have wpa : wa ≠ pa := fun e => by rw [e, upd_ne paq, upd_same] at hwa; cases hwa
    have hwa' : H wa = none := by rw [upd_ne wq, upd_ne wpa] at hwa; exact hwa
    have s1 : Same H (upd H pa (.lst [])) := Same.new hpa
    have s2 : Same (upd H pa (.lst [])) (upd (upd H pa (.lst [])) q0 (.tup [v, .int (-1)])) := Same.new hq0
    have s3 : Same (upd (upd H pa (.lst [])) q0 (.tup [v, .int (-1)])) (upd (upd (upd H pa (.lst [])) q0 (.tup [v, .int (-1)])) wa (.lst [.ref q0])) := Same.new hwa
    have s123 := s1.trans (s2.trans s3)
    generalize hH0 : upd (upd (upd H pa (.lst [])) q0 (.tup [v, .int (-1)])) wa (.lst [.ref q0]) = H0 at s3 s123
    have w0 : H0 wa = some (.lst [.ref q0]) := by rw [← hH0, upd_same]
    have p0 : H0 pa = some (.lst []) := by rw [← hH0, upd_ne wpa.symm, upd_ne paq, upd_same]
    have t0 : SqT K H0 q0 [v, .int (-1)] := SqT.of (by rw [← hH0, upd_ne wq.symm, upd_same])
    clear hH0 hq0
    refine ⟨fun m σ G => ∃ (R : List PRec) (L : List (Hd × Int)) (ws : List V) (st : List (F × Int)) (y3 y4 y5 y6 y7 : Option V),
      σ = [some v, some (.ref pa), some (.ref wa), y3, y4, y5, y6, y7] ∧ Same H G ∧ G pa = some (.lst (R.map fun r => V.ref r.p)) ∧ G wa = some (.lst ws) ∧ SA K G ws st ∧
      Parts K C G R L ∧ (R.map PRec.l).Nodup ∧ (∀ r ∈ R, H r.l = none ∧ r.l ≠ pa ∧ r.l ≠ wa) ∧ (∀ x ∈ st, x.2 < (L.length : Int) ∧ -1 ≤ x.2) ∧ (∀ x ∈ L, x.2 < (L.length : Int)) ∧
      m = stSize st ∧ L.length + m = t.size ∧ fin L st = pre t (-1) 0,
      ⟨t.size, [], [], [.ref q0], [(t, -1)], none, none, none, none, none, rfl, s123, p0, w0, .snoc .nil t0 (ht.same s123), ⟨rfl, by simp⟩, by simp, by simp, by simp, by simp, by simp [stSize], by simp, by simp [fin, pre]⟩, ?_⟩
    rintro m σ G ⟨R, L, ws, st, y3, y4, y5, y6, y7, rfl, sG, gpa, gwa, sa, PR, nd, lfr, stb, Lb, rfl, cnt, hfin⟩
    refine ⟨.ref wa, rfl, !ws.isEmpty, .inl ⟨ws, SqL.of gwa, rfl⟩, ?_⟩
    cases sa with
    | nil =>
      -- nothing waits
      refine iteF ?_
      refine ⟨_, rfl, ?_⟩
      refine k pa G sG ⟨R, SqL.of gpa, ?_⟩
      rw [← hfin]
      exact PR
    | @snoc ws' st' q x u a sa' hq hx =>
      have e1 : (!(ws' ++ [V.ref q]).isEmpty) = true := by simp
      rw [e1]
      refine iteT ?_
      refine ⟨_, fun σ' H' z => z, ?_⟩
      have szu : 0 < u.size := F.size_pos u
      have lst' : st'.length ≤ stSize st' := st_len st'
      have cnt' : L.length + (u.size + stSize st') = t.size := cnt
      have hwl := sa'.len
      have small : ∀ n : Nat, n ≤ 1000 → n < sizeLine := fun n hn => small1000 hn
      -- told, around = waiting.pop()
      refine ⟨.ref wa, rfl, .inl ⟨rfl, _, SqL.of gwa⟩, wa, _, .ref q, rfl, rfl, gwa, by simp, ?_⟩
      rw [List.dropLast_concat]
      generalize hG1 : upd G wa (.lst ws') = G1
      have l1 : LKp G G1 := by rw [← hG1]; exact LKp.upd gwa
      have w1 : G1 wa = some (.lst ws') := by rw [← hG1, upd_same]
      have k1 : ∀ b o, b ≠ wa → G b = some o → G1 b = some o := fun b o nb e => by rw [← hG1, upd_ne nb]; exact e
      clear hG1
      refine ⟨q, _, rfl, SqT.lk l1 hq, rfl, x, _, rfl, .int a, _, rfl, rfl, ?_⟩
      -- head = head_of(told)
      refine ⟨x, rfl, x, u, rfl, hx.lk l1, fun h G2 s2 hh => ?_⟩
      have w2 := s2 _ _ w1
      have pw : pa ≠ wa := wpa.symm
      have p2 := s2 _ _ (k1 _ _ pw gpa)
      -- at = len(parts)
      refine ⟨.ref pa, rfl, pa, _, rfl, .inl (SqL.of p2), ?_⟩
      rw [List.length_map, PR.1]
      -- parts.append(Part(head, around))
      refine ⟨.ref pa, rfl, .inl ⟨rfl, _, SqL.of p2⟩, .ref h, rfl, .int a, rfl, fun x1 dx nx ndx nex => ⟨x1, dx, .ref h, a, rfl, upd_same, fun l G3 hl hx1 hl3 b3 => ⟨rfl, ?_⟩⟩⟩
      have nx1 : l ≠ x1 := fun e => by rw [e, upd_same] at hl; cases hl
      have hl2 : G2 l = none := by
        rw [upd_ne nx1] at hl
        by_cases e : l = dx
        · rw [e, upd_same] at hl
          cases hl
        · rw [upd_ne e] at hl
          exact hl
      have s3' : Same G2 G3 := fun b o e => by
        refine b3 b o (ne_of_none e nx) ?_
        rw [upd_ne (ne_of_none e nx), upd_ne (ne_of_none e ndx)]
        exact e
      have p3 := s3' _ _ p2
      have w3 := s3' _ _ w2
      have lpa : l ≠ pa := (ne_of_none p2 hl2).symm
      have lwa : l ≠ wa := (ne_of_none w2 hl2).symm
      refine ⟨pa, _, .ref x1, rfl, rfl, p3, by rw [List.length_map, PR.1]; exact small _ (by omega), ?_⟩
      generalize hG4 : upd G3 pa (.lst (R.map (fun r => V.ref r.p) ++ [V.ref x1])) = G4
      have l4 : LKp G3 G4 := by rw [← hG4]; exact LKp.upd p3
      have k4 : ∀ b o, b ≠ pa → G3 b = some o → G4 b = some o := fun b o nb e => by rw [← hG4, upd_ne nb]; exact e
      have p4 : G4 pa = some (.lst (R.map (fun r => V.ref r.p) ++ [V.ref x1])) := by rw [← hG4, upd_same]
      clear hG4
      have w4 := k4 _ _ wpa w3
      have L14 : LKp G G4 := l1.trans ((LKp.same s2).trans ((LKp.same s3').trans l4))
      have K14 : ∀ b o, b ≠ wa → b ≠ pa → G b = some o → G4 b = some o := fun b o n1 n2 e => k4 _ _ n2 (s3' _ _ (s2 _ _ (k1 _ _ n1 e)))
      have ob4 : G4 x1 = some (.ins C dx (pf (.ref h) a l)) := l4 _ _ (by intro xs z; cases z) hx1
      have hd4 : SqT K G4 h (hv u.hd) := SqT.lk l4 (SqT.same s3' hh)
      have ln4 : G4 l = some (.lst []) := k4 _ _ lpa hl3
      have nfresh : H l = none := sG.free (by
        cases e : G l with
        | none => rfl
        | some o =>
          have := s2 _ _ (k1 _ _ lwa e)
          rw [hl2] at this
          cases this)
      have lnew : ∀ pr ∈ R, pr.l ≠ l := fun pr hpr e => by
        obtain ⟨i, hi⟩ := List.mem_iff_getElem?.mp hpr
        obtain ⟨⟨hd', a'⟩, hi2⟩ : ∃ y, L[i]? = some y := ⟨L[i]'(by have := (List.getElem?_eq_some_iff.mp hi).1; rw [PR.1] at this; exact this), by simp⟩
        have z := (PR.2 i pr hd' a' hi hi2).inn
        have z2 := s2 _ _ (k1 _ _ (lfr pr hpr).2.2 z)
        rw [e, hl2] at z2
        cases z2
      have sb := stb (u, a) List.mem_cons_self
      refine ⟨.int a, rfl, _, _, rfl, rfl, _, rfl, ?_⟩
      refine join (G := G4) (fun G5 => LKp G G5 ∧ (∀ b o, b ≠ wa → b ≠ pa → (∀ r ∈ R, b ≠ r.l) → G b = some o → G5 b = some o) ∧ G5 wa = some (.lst ws') ∧
        G5 pa = some (.lst (R.map (fun r => V.ref r.p) ++ [V.ref x1])) ∧ SqT K G5 h (hv u.hd) ∧ Parts K C G5 (R ++ [⟨x1, l, dx, h⟩]) (L ++ [(u.hd, a)])) ?_ ?_ ?_
      · rintro G5 ⟨l5, k5, w5, p5, hd5, PR5⟩
        obtain ⟨ua, ks, rfl, squ, ak⟩ := (hx.lk l5).open
        -- reversed(told[len(head):])
        have hn : ∃ n : Nat, (hv u.hd).length = n ∧ 1 ≤ n := ⟨_, rfl, by rcases hv_len u.hd with e | e <;> omega⟩
        obtain ⟨n, hvn, n1⟩ := hn
        refine ⟨.ref ua, rfl, .ref h, rfl, h, _, rfl, .inr hd5, _, rfl, ua, _, rfl, squ, fun whole => ?_, fun _ z hz => ?_⟩
        · exfalso
          rw [HT.sIx_nat, List.length_append] at whole
          omega
        have cut : cutV (hv u.hd ++ ks) (some ((hv u.hd).length : Nat)) none = ks := by
          unfold cutV
          rw [HT.sIx_nat, HT.sIx_none, Nat.min_eq_left (by rw [List.length_append]; omega), List.drop_left, List.take_of_length_le]
          rw [List.length_append]
          omega
        rw [cut]
        generalize hG6 : upd G5 z (.tup ks) = G6
        have s6 : Same G5 G6 := by rw [← hG6]; exact Same.new hz
        have sq6 : SqT K G6 z ks := SqT.of (by rw [← hG6, upd_same])
        clear hG6 hz
        have hn : ks.length = u.kids.length := ak.len
        refine ⟨z, ks, rfl, .inr ⟨sq6, ?_⟩⟩
        have sG6 : Same H G6 := fun b o e => s6 _ _ (k5 b o (fun q => by rw [q, hwa'] at e; cases e) (fun q => by rw [q, hpa] at e; cases e) (fun r hr' q => by rw [q, (lfr r hr').1] at e; cases e) (sG b o e))
        have szk := stSize_kids u (L.length : Int)
        have lk := st_len (u.kids.map fun f => (f, (L.length : Int)))
        refine RT.for_ItvT (fun i σ G7 => ∃ (ws7 : List V) (y : Option V), σ = [some v, some (.ref pa), some (.ref wa), some (.ref ua), some (.int a), some (.ref h), some (.int (L.length : Nat)), y] ∧
            LKp G6 G7 ∧ (∀ b o, b ≠ wa → G6 b = some o → G7 b = some o) ∧ G7 wa = some (.lst ws7) ∧ SA K G7 ws7 ((u.kids.drop (ks.length - i)).map (fun f => (f, (L.length : Int))) ++ st')) ?_ ?_ ?_ ?_
        · refine ⟨ws', y7, rfl, LKp.refl _, fun _ _ _ e => e, s6 _ _ w5, ?_⟩
          rw [Nat.sub_zero, hn, List.drop_length]
          exact sa'.lk (l5.trans (LKp.same s6))
        · rintro i σ G7 ⟨ws7, y, rfl, l7, _, _, _⟩
          exact SqT.lk l7 sq6
        · rintro i y σ G7 hi hy ⟨ws7, y', rfl, l7, k7, w7, sa7⟩
          obtain ⟨kf, hkf⟩ : ∃ kf, u.kids[ks.length - 1 - i]? = some kf := ⟨u.kids[ks.length - 1 - i]'(by omega), by simp⟩
          have isk : IsF K G7 y kf := ((ak.lk (LKp.same s6)).lk l7).get hy hkf
          refine ⟨.ref wa, rfl, .inl ⟨rfl, _, SqL.of w7⟩, y, rfl, .int (L.length : Nat), rfl, by show 2 ≤ sizeLine; decide, fun p hp => ?_⟩
          have s8 : Same G7 (upd G7 p (.tup [y, .int (L.length : Nat)])) := Same.new hp
          have lw7 := sa7.len
          rw [List.length_append, List.length_map, List.length_drop] at lw7
          rw [List.length_map] at lk
          refine ⟨wa, _, .ref p, rfl, rfl, s8 _ _ w7, small _ (by omega), ?_⟩
          have l9 : LKp (upd G7 p (.tup [y, .int (L.length : Nat)])) (upd (upd G7 p (.tup [y, .int (L.length : Nat)])) wa (.lst (ws7 ++ [.ref p]))) := LKp.upd (s8 _ _ w7)
          refine ⟨_, some y, rfl, l7.trans ((LKp.same s8).trans l9), fun b o nb e => ?_, upd_same, ?_⟩
          · rw [upd_ne nb]
            exact s8 _ _ (k7 b o nb e)
          · have e2 : u.kids.drop (ks.length - (i + 1)) = kf :: u.kids.drop (ks.length - i) := by
              have lt : ks.length - 1 - i < u.kids.length := by omega
              rw [show ks.length - (i + 1) = ks.length - 1 - i by omega, List.drop_eq_getElem_cons lt, show ks.length - 1 - i + 1 = ks.length - i by omega]
              congr 1
              exact Option.some.inj ((List.getElem?_eq_getElem lt).symm.trans hkf)
            rw [e2]
            exact .snoc (sa7.lk ((LKp.same s8).trans l9)) (SqT.lk l9 (SqT.of upd_same)) (isk.lk ((LKp.same s8).trans l9))
        · rintro σ G7 ⟨ws7, y, rfl, l7, k7, w7, sa7⟩
          rw [Nat.sub_self, List.drop_zero] at sa7
          have zst : stSize (u.kids.map (fun f => (f, (L.length : Int))) ++ st') + 1 = u.size + stSize st' := by
            rw [stSize_app]
            omega
          have PR7 : Parts K C G7 (R ++ [⟨x1, l, dx, h⟩]) (L ++ [(u.hd, a)]) := by
            refine ⟨PR5.1, fun i pr hd' a' e1 e2 => ?_⟩
            have z := (PR5.2 i pr hd' a' e1 e2).same s6
            have nw : pr.l ≠ wa := by
              rcases List.mem_append.mp (List.mem_of_getElem? e1) with m | m
              · exact (lfr pr m).2.2
              · rw [List.mem_singleton.mp m]
                exact lwa
            exact ⟨l7 _ _ (by intro xs q; cases q) z.ob, SqT.lk l7 z.hd, k7 _ _ nw z.inn⟩
          refine ⟨stSize (u.kids.map (fun f => (f, (L.length : Int))) ++ st'), by show _ < u.size + stSize st'; omega, R ++ [⟨x1, l, dx, h⟩], L ++ [(u.hd, a)], ws7, _, _, _, _, _, _, rfl, fun b o e => ?_, ?_, w7, sa7, PR7, ?_, ?_, ?_, ?_, rfl, ?_, ?_⟩
          · exact k7 b o (fun q => by rw [q, hwa'] at e; cases e) (sG6 b o e)
          · rw [List.map_append]
            exact k7 _ _ wpa.symm (s6 _ _ p5)
          · rw [List.map_append, List.nodup_append]
            refine ⟨nd, by simp, fun a' ha b hb => ?_⟩
            obtain ⟨r, hr', rfl⟩ := List.mem_map.mp ha
            rw [List.map_cons, List.map_nil, List.mem_singleton] at hb
            subst hb
            exact lnew r hr'
          · intro r hr'
            rcases List.mem_append.mp hr' with m | m
            · exact lfr r m
            · rw [List.mem_singleton.mp m]
              exact ⟨nfresh, lpa, lwa⟩
          · intro y hy
            rw [List.length_append, List.length_singleton]
            rcases List.mem_append.mp hy with m | m
            · obtain ⟨f', _, rfl⟩ := List.mem_map.mp m
              show (L.length : Int) < ((L.length + 1 : Nat) : Int) ∧ -1 ≤ (L.length : Int)
              omega
            · have := stb y (List.mem_cons_of_mem _ m)
              omega
          · intro y hy
            rw [List.length_append, List.length_singleton]
            rcases List.mem_append.mp hy with m | m
            · have := Lb y m
              omega
            · rw [List.mem_singleton.mp m]
              show a < _
              have := sb.1
              have e : (((u, a) : F × Int).2) = a := rfl
              omega
          · rw [List.length_append, List.length_singleton]
            omega
          · rw [← hfin, fin_step]
      · intro c rest
        have ha : 0 ≤ a := of_decide_eq_true c
        have hal : a < (L.length : Int) := sb.1
        obtain ⟨m, rfl⟩ : ∃ m : Nat, a = (m : Int) := ⟨a.toNat, by omega⟩
        have hm : m < R.length := by rw [PR.1]; omega
        obtain ⟨pr, hpr⟩ : ∃ pr, R[m]? = some pr := ⟨R[m], by simp [hm]⟩
        obtain ⟨⟨hd', a'⟩, hlr⟩ : ∃ y, L[m]? = some y := ⟨L[m]'(by omega), by simp⟩
        have z := PR.2 m pr hd' a' hpr hlr
        have prm := List.mem_of_getElem? hpr
        have ob := L14 _ _ (by intro xs q; cases q) z.ob
        have inn := K14 _ _ (lfr pr prm).2.2 (lfr pr prm).2.1 z.inn
        -- parts[around].inner.append(at)
        refine ⟨.ref pa, rfl, .int (m : Nat), rfl, pa, _, _, .ref pr.p, rfl, rfl, SqL.of p4, atI_nat (j := m) ?_, pr.p, C, pr.dx, _, .ref pr.l, rfl, ob, T.cl, T.nI, rfl, .inl ⟨rfl, _, SqL.of inn⟩, .int (L.length : Nat), rfl, pr.l, _, _, rfl, rfl, inn, ?_, ?_⟩
        · rw [List.getElem?_append_left (by rw [List.length_map]; exact hm), List.getElem?_map, hpr]
          rfl
        · rw [List.length_map]
          refine small _ ?_
          have : ∀ (A : List Int) (j i : Nat), (kidsFrom A j i).length ≤ A.length := by
            intro A
            induction A with
            | nil => intro j i; exact Nat.le_refl _
            | cons b A ih =>
              intro j i
              have := ih (j + 1) i
              simp only [kidsFrom]
              split <;> simp only [List.length_cons] <;> omega
          have := this (L.map (·.2)) 0 m
          rw [List.length_map] at this
          omega
        · have l5 : LKp G4 (upd G4 pr.l (.lst ((kidsFrom (L.map (·.2)) 0 m).map (fun n => V.int (n : Nat)) ++ [.int (L.length : Nat)]))) := LKp.upd inn
          refine rest _ ⟨L14.trans l5, fun b o n1 n2 n3 e => ?_, ?_, ?_, SqT.lk l5 hd4, ?_⟩
          · rw [upd_ne (n3 pr prm)]
            exact K14 b o n1 n2 e
          · rw [upd_ne (lfr pr prm).2.2.symm]
            exact w4
          · rw [upd_ne (lfr pr prm).2.1.symm]
            exact p4
          · refine Parts.more PR (L14.trans l5) (fun i pr' hi => ?_) Lb sb.1 ⟨l5 _ _ (by intro xs q; cases q) ob4, SqT.lk l5 hd4, ?_⟩
            · obtain ⟨⟨hd2, a2⟩, hl2'⟩ : ∃ y, L[i]? = some y := ⟨L[i]'(by have := (List.getElem?_eq_some_iff.mp hi).1; rw [PR.1] at this; exact this), by simp⟩
              by_cases e : i = m
              · subst e
                rw [hpr] at hi
                cases hi
                rw [upd_same, if_pos rfl, List.map_append]
                rfl
              · have nl : pr'.l ≠ pr.l := fun q => e (nd_ix nd (x := pr.l) (by rw [List.getElem?_map, hi, Option.map_some, q]) (by rw [List.getElem?_map, hpr]; rfl))
                rw [upd_ne nl, if_neg (by omega), List.append_nil]
                have pm' := List.mem_of_getElem? hi
                exact K14 _ _ (lfr pr' pm').2.2 (lfr pr' pm').2.1 (PR.2 i pr' hd2 a2 hi hl2').inn
            · rw [upd_ne (lnew pr prm).symm]
              exact ln4
      · intro c
        have ha : ¬ 0 ≤ a := of_decide_eq_false c
        refine ⟨L14, fun b o n1 n2 _ e => K14 b o n1 n2 e, w4, p4, hd4, ?_⟩
        refine Parts.more PR L14 (fun i pr' hi => ?_) Lb sb.1 ⟨ob4, hd4, ln4⟩
        obtain ⟨⟨hd2, a2⟩, hl2'⟩ : ∃ y, L[i]? = some y := ⟨L[i]'(by have := (List.getElem?_eq_some_iff.mp hi).1; rw [PR.1] at this; exact this), by simp⟩
        rw [if_neg (by omega), List.append_nil]
        have pm' := List.mem_of_getElem? hi
        exact K14 _ _ (lfr pr' pm').2.2 (lfr pr' pm').2.1 (PR.2 i pr' hd2 a2 hi hl2').inn
end
end Fw

set_option maxRecDepth 100000
set_option maxHeartbeats 2000000
namespace Fw
open PySem PySem.Spec PyProof.Rows L2
def HeadsAt (K : PySem.W.Frag) (H : Hp) (ha : Addr) (l : List Hd) : Prop :=
  ∃ hs : List Addr, SqL K H ha (hs.map V.ref) ∧ hs.length = l.length ∧ ∀ (i : Nat) (h : Addr) (hd : Hd), hs[i]? = some h → l[i]? = some hd → SqT K H h (hv hd)
theorem HeadsAt.same {K : PySem.W.Frag} {H H' : Hp} {ha : Addr} {l : List Hd} (s : Same H H') (h : HeadsAt K H ha l) : HeadsAt K H' ha l := by
  obtain ⟨hs, h1, h2, h3⟩ := h
  exact ⟨hs, s.seq h1, h2, fun i h hd e1 e2 => SqT.same s (h3 i h hd e1 e2)⟩
theorem no_get {α : Type} (m : Nat) (v : α) : ¬ ([] : List α)[m]? = some v := by simp
theorem pre_aro (t : F) : (pre t (-1) 0).map (·.2) = arounds (infos t) := by simp [pre, arounds, Function.comp_def]
section
variable {P : Program} {w : World} {K : PySem.W.Frag} {mg : Str → Option Value} {base : Heap} {C J B : Addr}
/-! ### built -/
def spBuilt (K : PySem.W.Frag) (C : Addr) : Sp := fun vs H Q _ => ∃ (pa ha : Addr) (L : List (Hd × Int)) (t : F), vs = [.ref pa, .ref ha] ∧ PartsAt K C H pa L ∧ L.map (·.2) = arounds (infos t) ∧
  HeadsAt K H ha ((infos t).map fun r => r.sub.hd) ∧ t.size ≤ 1000 ∧ ∀ v H', Same H H' → IsF K H' v t → Q v H'
theorem ok_built {f : Addr} {fd : FuncData} (FF : Fun K "built" "built" s_built f fd) (T : Txt K mg C J B) : FnOk P w K mg base CX0 1 f fd a_built (spBuilt K C) := by
  refine FF.ok sc_built (fun vs H Q E h => ?_) (fun cdv A outer s H vs Q E hr h => ?_)
  · obtain ⟨pa, ha, L, t, rfl, _⟩ := h
    rfl
  · obtain ⟨pa, ha, L, t, rfl, ⟨R, hR, lenR, PR⟩, aro, ⟨hs, hH, lenH, HH⟩, hsz, k⟩ := h
    have lenI : (infos t).length = t.size := info_len _ _ _ _
    have lenL : L.length = t.size := by
      have := congrArg List.length aro
      rw [List.length_map, arounds, List.length_map, lenI] at this
      exact this
    rw [List.length_map, lenI] at lenH
    have RL : (R.map fun r => V.ref r.p).length = t.size := by rw [List.length_map, lenR, lenL]
    have small : ∀ n : Nat, n ≤ 1000 → n < sizeLine := fun n hn => small1000 hn
    refine ⟨_, (pss_cons (ps_set (i := 2) sc_built.nd rfl (.inr rfl) (pe_op op_rep (pe_lst (pa_cons (pe_tup pa_nil) pa_nil)) (pe_callB call_len_seq rfl T.z_len (by decide +kernel) (pa_cons (pv 0) pa_nil))))
      (pss_cons (ps_for PassesOwn.never rfl (pi_revR rfl T.z_reversed (prg_1 rfl T.z_range (pe_callB call_len_seq rfl T.z_len (by decide +kernel) (pa_cons (pv 0) pa_nil)))) (pg_name (i := 3) sc_built.nd rfl (.inl rfl)) (pss_one (ps_asg (pe_op op_catA (pe_ix ix_list (pv 1) (pv 3) (fun _ _ => rfl)) (pe_callTy call_tuple_of rfl T.z_tuple (by decide +kernel) (pa_cons (pe_lc (own := [("place", 4)]) (g := gName 4) rfl sc_built.nd (pi_list (pe_fld (pe_ix ix_list (pv 0) (pv 3) (fun _ _ => rfl)) rfl)) (blkOk_by (own := [("place", 4)]) (N := n_built) (sc := defScope s_built) (by decide +kernel)) (fun _ _ _ _ _ => (pg_name (i := 4) sc_built.nd rfl (.inl rfl))) (fun _ _ _ _ _ => pts_nil) (fun _ _ _ _ _ => (pe_ix (@id (IxR _ (rIxL K)) ix_list) (pv 2) (pv 4) (fun _ _ => rfl)))) pa_nil))) (pg_sub (pv 2) (pv 3) set_list))))
      (pss_one (ps_ret (pe_ix ix_list (pv 2) pe_int (fun _ _ => rfl)))))), ?_⟩
    refine ⟨by show 0 ≤ sizeLine; decide, fun u hu0 => ⟨by show 1 ≤ sizeLine; decide, fun o ho => ?_⟩⟩
    have su := Same.new (o := .tup []) hu0
    have so := Same.new (o := .lst [V.ref u]) ho
    have suo := su.trans so
    refine ⟨.ref pa, rfl, pa, _, rfl, .inl (suo.seq hR), ?_⟩
    rw [RL]
    refine ⟨o, (t.size : Nat), _, rfl, rfl, upd_same, by omega, by omega, ?_, fun ma hma => ?_⟩
    · rw [List.length_singleton, Nat.one_mul, Int.toNat_natCast]
      exact Nat.le_of_lt (small _ hsz)
    generalize hM : (List.replicate ((t.size : Nat) : Int).toNat [V.ref u]).flatten = M
    have lenM : M.length = t.size := by
      rw [← hM, List.length_flatten, List.map_replicate, List.sum_replicate_nat]
      simp
    have sm := Same.new (o := .lst M) hma
    have s0 := suo.trans sm
    have hma0 : H ma = none := suo.free hma
    generalize hG : upd (upd (upd H u (.tup [])) o (.lst [V.ref u])) ma (.lst M) = G0 at sm s0
    have m0 : G0 ma = some (.lst M) := by rw [← hG, upd_same]
    clear hG sm so
    refine ⟨.ref pa, rfl, pa, _, rfl, .inl (s0.seq hR), (t.size : Nat), by rw [RL], by omega, by omega, by omega, by omega, ?_⟩
    refine for_rangeC (fun i σ G => ∃ (ms : List V) (y : Option V), σ = [some (.ref pa), some (.ref ha), some (.ref ma), y, none] ∧ Same H G ∧ G ma = some (.lst ms) ∧ ms.length = t.size ∧
      ∀ j r, t.size - i ≤ j → (infos t)[j]? = some r → ∃ v, ms[j]? = some v ∧ IsF K G v r.sub) ⟨M, none, rfl, s0, m0, lenM, fun j r hj hjr => ?_⟩ ?_ ?_
    · have := (List.getElem?_eq_some_iff.mp hjr).1
      omega
    · rintro i σ G hi ⟨ms, y, rfl, sG, gm, lm, inv⟩
      have hi' : i < t.size := by omega
      obtain ⟨j, hj⟩ : ∃ j : Nat, j = t.size - 1 - i := ⟨_, rfl⟩
      have ej : (0 : Int) + (((t.size : Nat) : Int) - 0).toNat - 1 + (i : Nat) * (-1) = (j : Nat) := by omega
      rw [ej]
      have jlt : j < t.size := by omega
      obtain ⟨r, hr'⟩ : ∃ r, (infos t)[j]? = some r := ⟨(infos t)[j]'(by omega), by simp⟩
      obtain ⟨h, hh⟩ : ∃ h, hs[j]? = some h := ⟨hs[j]'(by omega), by simp⟩
      obtain ⟨pr, hpr⟩ : ∃ pr, R[j]? = some pr := ⟨R[j]'(by omega), by simp⟩
      obtain ⟨⟨hd', a'⟩, hl⟩ : ∃ y, L[j]? = some y := ⟨L[j]'(by omega), by simp⟩
      have hdT := SqT.same sG (HH j h r.sub.hd hh (by rw [List.getElem?_map, hr']; rfl))
      have z := (PR j pr hd' a' hpr hl).same sG
      rw [aro, kids_at hr'] at z
      obtain ⟨kl, kr⟩ := kids_recs hr'
      -- heads[at]
      refine ⟨.ref ha, rfl, .int (j : Nat), rfl, ha, _, _, .ref h, rfl, rfl, sG.seq hH, atI_nat (j := j) (by rw [List.getElem?_map, hh]; rfl), ?_⟩
      -- parts[at].inner
      refine ⟨.ref pa, rfl, .int (j : Nat), rfl, pa, _, _, .ref pr.p, rfl, rfl, sG.seq hR, atI_nat (j := j) (by rw [List.getElem?_map, hpr]; rfl), pr.p, C, pr.dx, _, .ref pr.l, rfl, z.ob, T.cl, T.nI, rfl, pr.l, rfl, ⟨_, SqL.of z.inn⟩, fun D hD => ?_⟩
      refine lc_list (xs := (inPlaces r.sub j).map fun n => V.int (n : Nat)) (fun m G2 => Same G (G2) ∧ ∃ acc : List V, G2 D = some (.lst acc) ∧ acc.length = m ∧
        ∀ m' v, acc[m']? = some v → ∃ f, r.sub.kids[m']? = some f ∧ IsF K G v f) ⟨Same.new hD, [], upd_same, rfl, fun m' v e => absurd e (no_get m' v)⟩ (fun m G2 _ q => SqL.of (q.1 _ _ z.inn)) ?_ ?_
      · rintro m x G2 hx ⟨s2, acc, hacc, lacc, iacc⟩
        rw [List.getElem?_map] at hx
        obtain ⟨p, hp, rfl⟩ : ∃ p, (inPlaces r.sub j)[m]? = some p ∧ x = V.int (p : Nat) := by
          cases e : (inPlaces r.sub j)[m]? with
          | none => rw [e] at hx; cases hx
          | some p => rw [e] at hx; exact ⟨p, rfl, (Option.some.inj hx).symm⟩
        obtain ⟨r', h1, h2, h3⟩ := kr m p hp
        obtain ⟨v, hv1, hv2⟩ := inv p r' (by omega) h1
        refine ⟨rfl, .ref ma, rfl, .int (p : Nat), rfl, ma, _, _, v, rfl, rfl, SqL.of (s2 _ _ gm), atI_nat (j := p) hv1, acc, hacc, ?_, ?_⟩
        · have : m < (inPlaces r.sub j).length := (List.getElem?_eq_some_iff.mp hp).1
          have l2 : (inPlaces r.sub j).length ≤ 2 := by
            rw [kl]
            exact F.kids_le r.sub
          exact small _ (by omega)
        · have dn : ∀ b o, G b = some o → b ≠ D := fun b o e => ne_of_none e hD
          refine ⟨fun b o e => by rw [upd_ne (dn b o e)]; exact s2 b o e, acc ++ [v], upd_same, (by rw [List.length_append, List.length_singleton, lacc]), fun m' v' e => ?_⟩
          by_cases lt : m' < acc.length
          · rw [List.getElem?_append_left lt] at e
            exact iacc m' v' e
          · have : m' = acc.length := by
              have := (List.getElem?_eq_some_iff.mp e).1
              rw [List.length_append, List.length_singleton] at this
              omega
            subst this
            rw [List.getElem?_append_right (Nat.le_refl _), Nat.sub_self] at e
            cases e
            rw [lacc]
            exact ⟨r'.sub, h2, hv2⟩
      · rintro G2 ⟨s2, acc, hacc, lacc, iacc⟩
        rw [List.length_map] at lacc
        -- tuple(..)
        refine ⟨D, acc, rfl, .inl ⟨SqL.of hacc, fun tp htp => ?_⟩⟩
        have s3 := Same.new (o := .tup acc) htp
        have s23 := s2.trans s3
        generalize hG3 : upd G2 tp (.tup acc) = G3 at s3 s23
        have tpT : G3 tp = some (.tup acc) := by rw [← hG3, upd_same]
        have allf : AllF K G acc r.sub.kids := by
          have len : acc.length = r.sub.kids.length := by rw [lacc, kl]
          generalize r.sub.kids = ts at len iacc
          clear lacc hacc tpT hG3
          induction acc generalizing ts with
          | nil =>
            cases ts with
            | nil => exact .nil
            | cons _ _ => simp at len
          | cons v acc ih =>
            cases ts with
            | nil => simp at len
            | cons f ts =>
              obtain ⟨f', e1, e2⟩ := iacc 0 v rfl
              cases e1
              exact .cons e2 (ih ts (by simpa using len) fun m' v' e => iacc (m' + 1) v' e)
        have fin : ∀ (b : Addr) (G4 : Hp), Same G3 G4 → SqT K G4 b (hv r.sub.hd ++ acc) → G4 ma = some (.lst ms) → ∃ (ms' : List V) (y : Option V), ([some (.ref pa), some (.ref ha), some (.ref ma), some (.int (j : Nat)), none] : List (Option V)) = [some (.ref pa), some (.ref ha), some (.ref ma), y, none] ∧
            Same H (upd G4 ma (.lst (ms.set j (.ref b)))) ∧ (upd G4 ma (.lst (ms.set j (.ref b)))) ma = some (.lst ms') ∧ ms'.length = t.size ∧ ∀ j' r, t.size - (i + 1) ≤ j' → (infos t)[j']? = some r → ∃ v, ms'[j']? = some v ∧ IsF K (upd G4 ma (.lst (ms.set j (.ref b)))) v r.sub := by
          intro b G4 s4 sq4 gm4
          have l5 : LKp G4 (upd G4 ma (.lst (ms.set j (.ref b)))) := LKp.upd gm4
          have l45 : LKp G (upd G4 ma (.lst (ms.set j (.ref b)))) := (LKp.same (s23.trans s4)).trans l5
          refine ⟨_, _, rfl, fun c o e => ?_, upd_same, by rw [List.length_set]; exact lm, fun j' r2 hj' hr2 => ?_⟩
          · rw [upd_ne (fun q => by rw [q, hma0] at e; cases e)]
            exact s4 _ _ (s23 _ _ (sG _ _ e))
          · by_cases e : j' = j
            · subst e
              rw [hr'] at hr2
              cases hr2
              refine ⟨.ref b, by rw [List.getElem?_set_self (by omega)], IsF.close (SqT.lk l5 sq4) (allf.lk l45)⟩
            · obtain ⟨v, e1, e2⟩ := inv j' r2 (by omega) hr2
              exact ⟨v, by rw [List.getElem?_set_ne (fun q => e q.symm)]; exact e1, e2.lk l45⟩
        have nz : hv r.sub.hd ≠ [] := fun q => by have := hv_len r.sub.hd; rw [q] at this; simp at this
        have gm3 := s23 _ _ gm
        have ixj : ixN ms.length ((j : Nat) : Int) = some j := by
          unfold ixN
          rw [if_pos (by omega), if_pos (by omega), Int.toNat_natCast]
        refine ⟨h, tp, _, _, rfl, rfl, SqT.same s23 hdT, SqT.of tpT, ?_, fun q => absurd q nz, fun _ e => ?_, fun _ _ p hp => ?_⟩
        · have := hv_len r.sub.hd
          have l2 := F.kids_le r.sub
          rw [allf.len]
          exact Nat.le_of_lt (small _ (by omega))
        · refine ⟨.ref ma, rfl, .int (j : Nat), rfl, ma, _, _, j, rfl, rfl, gm3, ixj, ?_⟩
          exact fin h G3 (Same.refl _) (by rw [e, List.append_nil]; exact SqT.same s23 hdT) gm3
        · have s4 := Same.new (o := .tup (hv r.sub.hd ++ acc)) hp
          refine ⟨.ref ma, rfl, .int (j : Nat), rfl, ma, _, _, j, rfl, rfl, s4 _ _ gm3, ixj, ?_⟩
          exact fin p _ s4 (SqT.of upd_same) (s4 _ _ gm3)
    · rintro σ G ⟨ms, y, rfl, sG, gm, lm, inv⟩
      obtain ⟨v, hv1, hv2⟩ := inv 0 ⟨t, -1, []⟩ (by omega) (info_head _ _ _ _)
      refine ⟨.ref ma, rfl, ma, _, 0, v, rfl, rfl, SqL.of gm, atI_nat (j := 0) hv1, ?_⟩
      exact k v G sG hv2
end
end Fw

set_option maxRecDepth 100000
set_option maxHeartbeats 2000000
namespace Fw
open PySem PySem.Spec PyProof.Rows L2
theorem pre_get {t : F} {i : Nat} {r : Rec} (h : (infos t)[i]? = some r) : (pre t (-1) 0)[i]? = some (r.sub.hd, r.aro) := by
  rw [pre, List.getElem?_map, h]
  rfl
theorem isB_hd (s : F) : isBH s.hd = isB s := by cases s <;> rfl
def nearL (t : F) : List Int := (infos t).map fun r => topPos r.stk
def placeOf (r : Rec) : Int := match r.sub with
  | .leaf .var x => posOf x r.stk
  | _ => -1
def placeL (t : F) : List Int := (infos t).map placeOf
/-- the i-th part and what is known of it -/
theorem PartsAt.nth {K : PySem.W.Frag} {C : Addr} {H : Hp} {pa : Addr} {t : F} {R : List PRec} (PR : Parts K C H R (pre t (-1) 0)) {i : Nat} (hi : i < t.size) :
    ∃ r pr, (infos t)[i]? = some r ∧ R[i]? = some pr ∧ PartIs K C H pr r.sub.hd r.aro (inPlaces r.sub i) := by
  have lenI : (infos t).length = t.size := info_len _ _ _ _
  have lenR : R.length = t.size := by rw [PR.1, pre_len]
  obtain ⟨r, hr⟩ : ∃ r, (infos t)[i]? = some r := ⟨(infos t)[i]'(by omega), by simp⟩
  obtain ⟨pr, hpr⟩ : ∃ pr, R[i]? = some pr := ⟨R[i]'(by omega), by simp⟩
  have z := PR.2 i pr _ _ hpr (pre_get hr)
  rw [pre_aro, kids_at hr] at z
  exact ⟨r, pr, hr, hpr, z⟩
theorem nv_N : ∀ b : Bool, V.str (wN b) ≠ V.str "var"
  | true => by decide +kernel
  | false => by decide +kernel
theorem nv_T : ∀ b : Bool, V.str (wT b) ≠ V.str "var"
  | true => by decide +kernel
  | false => by decide +kernel
theorem nv_O : ∀ k : One, V.str (wO k) ≠ V.str "var"
  | .some => by decide +kernel
  | .all => by decide +kernel
  | .least => by decide +kernel
  | .most => by decide +kernel
theorem nv_has : V.str (wL .has) ≠ V.str "var" := by decide +kernel
theorem nv_lacks : V.str (wL .lacks) ≠ V.str "var" := by decide +kernel
theorem hd_at0 (hd : Hd) : atI (hv hd) 0 = some (.str (hw hd)) := atI_nat (j := 0) (hv_head hd)
theorem fld_head (h : V) (a : Int) (l : Addr) : (pf h a l).lookup ("head" : Str) = some h := rfl
theorem fld_around (h : V) (a : Int) (l : Addr) : (pf h a l).lookup ("around" : Str) = some (.int a) := rfl
section
variable {P : Program} {w : World} {K : PySem.W.Frag} {mg : Str → Option Value} {base : Heap} {C J B : Addr}
def spNear (K : PySem.W.Frag) (C B : Addr) : Sp := fun vs H Q _ => ∃ (pa : Addr) (t : F), vs = [.ref pa, .ref B] ∧ PartsAt K C H pa (pre t (-1) 0) ∧ t.size ≤ 1000 ∧
  ∀ na H', Same H H' → H' na = some (.lst ((nearL t).map V.int)) → Q (.ref na) H'
theorem ok_nearest_around {f : Addr} {fd : FuncData} (FF : Fun K "nearest_around" "nearest_around" s_nearest_around f fd) (T : Txt K mg C J B) : FnOk P w K mg base CX0 1 f fd a_nearest_around (spNear K C B) := by
  refine FF.ok sc_nearest_around (fun vs H Q E h => ?_) (fun cdv A outer s H vs Q E hr h => ?_)
  · obtain ⟨pa, t, rfl, _⟩ := h
    rfl
  · obtain ⟨pa, t, rfl, ⟨R, hR, PR⟩, hsz, k⟩ := h
    have small : ∀ n : Nat, n ≤ 1000 → n < sizeLine := fun n hn => small1000 hn
    have lenR : R.length = t.size := by rw [PR.1, pre_len]
    have lenI : (infos t).length = t.size := info_len _ _ _ _
    refine ⟨_, (pss_cons (ps_set (i := 2) sc_nearest_around.nd rfl (.inl rfl) (pe_lst pa_nil))
      (pss_cons (ps_for PassesOwn.never rfl (pi_list (pv 0)) (pg_name (i := 3) sc_nearest_around.nd rfl (.inl rfl)) (pss_cons (ps_set (i := 4) sc_nearest_around.nd rfl (.inl rfl) (pe_fld (pv 3) rfl))
      (pss_cons (ps_if (PW.pt (pw_and (pt_cmpR op_ge (pv 4) pe_int (nomark _)) (pw_and1 (pt_cmpR op_notIn_seq (pe_ix ix_tup (pe_fld (pe_ix ix_list (pv 0) (pv 4) (fun _ _ => rfl)) rfl) pe_int (fun _ _ => rfl)) (pv 1) (by rfl))))) (pss_one (ps_set (i := 4) sc_nearest_around.nd rfl (.inl rfl) (pe_ix ix_list (pv 2) (pv 4) (fun _ _ => rfl)))) pss_nil)
      (pss_one (ps_expr (pe_bm PySem.F.plainAttrs_list PySem.F.slot_list_append PySem.F.type_list_append mt_append (pv 2) (pa_cons (pv 4) pa_nil)))))))
      (pss_one (ps_ret (pv 2))))), ?_⟩
    refine ⟨Nat.zero_le _, fun na hna => ?_⟩
    refine ⟨.ref pa, rfl, pa, rfl, ⟨_, (Same.new hna).seq hR⟩, for_list (xs := R.map fun (r : PRec) => V.ref r.p) (fun i σ G => ∃ (y3 y4 : Option V), σ = [some (.ref pa), some (.ref B), some (.ref na), y3, y4] ∧ Same H G ∧ G na = some (.lst (((nearL t).take i).map V.int)))
      ⟨none, none, rfl, Same.new hna, upd_same⟩ (fun i σ G _ ⟨_, _, _, sG, _⟩ => sG.seq hR) ?_ ?_⟩
    · rintro i x σ G hx ⟨y3, y4, rfl, sG, gn⟩
      have hi : i < t.size := by
        have := (List.getElem?_eq_some_iff.mp hx).1
        rw [List.length_map] at this
        omega
      obtain ⟨r, pr, hr', hpr, z0⟩ := PartsAt.nth (pa := pa) PR hi
      have z := z0.same sG
      rw [List.getElem?_map, hpr] at hx
      cases hx
      -- around = part.around
      refine ⟨.ref pr.p, rfl, pr.p, C, pr.dx, _, _, rfl, z.ob, T.cl, T.nA, fld_around _ _ _, ?_⟩
      have nlen : (nearL t).length = t.size := by rw [nearL, List.length_map, lenI]
      have nget : (nearL t)[i]? = some (topPos r.stk) := by rw [nearL, List.getElem?_map, hr']; rfl
      have fin : ∀ (a : Int) (y : Option V), a = topPos r.stk → ∃ (y3 y4 : Option V), ([some (.ref pa), some (.ref B), some (.ref na), some (.ref pr.p), some (.int a)] : List (Option V)) = [some (.ref pa), some (.ref B), some (.ref na), y3, y4] ∧
          Same H (upd G na (.lst (((nearL t).take i).map V.int ++ [.int a]))) ∧ (upd G na (.lst (((nearL t).take i).map V.int ++ [.int a]))) na = some (.lst (((nearL t).take (i + 1)).map V.int)) := by
        intro a y e
        subst e
        refine ⟨_, _, rfl, fun b o e => ?_, ?_⟩
        · rw [upd_ne (ne_of_none e hna)]
          exact sG b o e
        · rw [upd_same, List.take_add_one, nget, List.map_append]
          rfl
      have nsz : (((nearL t).take i).map V.int).length < sizeLine := by
        rw [List.length_map, List.length_take]
        exact small _ (by omega)
      refine ⟨.int r.aro, rfl, _, _, rfl, rfl, _, rfl, ?_⟩
      rcases top_step hr' with ⟨e1, e2, _⟩ | ⟨p, r', hp, e3, e1, e2⟩
      · refine ite2 (fun c => ?_) (fun c => ?_)
        · have := of_decide_eq_true c
          omega
        · refine iteF ?_
          refine ⟨.ref na, rfl, .inl ⟨rfl, _, SqL.of gn⟩, .int r.aro, rfl, na, _, _, rfl, rfl, gn, nsz, ?_⟩
          exact fin r.aro none (by rw [e1, e2])
      · refine ite2 (fun c => ?_) (fun c => ?_)
        · obtain ⟨r2, pr', hr2, hpr', z1⟩ := PartsAt.nth (pa := pa) PR (show p < t.size by omega)
          rw [e3] at hr2
          cases hr2
          have z' := z1.same sG
          refine ⟨.ref pa, rfl, .int r.aro, rfl, pa, _, _, .ref pr'.p, rfl, rfl, sG.seq hR, ?_, pr'.p, C, pr'.dx, _, .ref pr'.h, rfl, z'.ob, T.cl, T.nH, fld_head _ _ _, pr'.h, _, _, _, rfl, rfl, z'.hd, hd_at0 _, .ref B, rfl, B, _, rfl, .inr (T.c_BINDERS _), rfl, rfl, _, rfl, ?_⟩
          · rw [e1]
            exact atI_nat (j := p) (by rw [List.getElem?_map, hpr']; rfl)
          rw [if_pos rfl, in_binders, isB_hd]
          cases hb : isB r'.sub with
          | true =>
            refine iteF ?_
            refine ⟨.ref na, rfl, .inl ⟨rfl, _, SqL.of gn⟩, .int r.aro, rfl, na, _, _, rfl, rfl, gn, nsz, ?_⟩
            exact fin r.aro none (by rw [e2, hb, if_pos rfl, e1])
          | false =>
            refine iteT ?_
            refine ⟨.ref na, rfl, .int r.aro, rfl, na, _, _, .int (topPos r'.stk), rfl, rfl, SqL.of gn, ?_, ?_⟩
            · rw [e1]
              refine atI_nat (j := p) ?_
              rw [List.getElem?_map, List.getElem?_take, if_pos hp, nearL, List.getElem?_map, e3]
              rfl
            · refine ⟨.ref na, rfl, .inl ⟨rfl, _, SqL.of gn⟩, .int (topPos r'.stk), rfl, na, _, _, rfl, rfl, gn, nsz, ?_⟩
              exact fin (topPos r'.stk) none (by rw [e2, hb]; rfl)
        · have := of_decide_eq_false (Bool.eq_false_iff.mpr c)
          omega
    · rintro σ G ⟨y3, y4, rfl, sG, gn⟩
      refine ⟨_, rfl, k na G sG ?_⟩
      rw [gn, List.length_map, lenR, List.take_of_length_le (by rw [nearL, List.length_map, lenI]; exact Nat.le_refl _)]
/-! ### binder_places -/
def spPlaces (K : PySem.W.Frag) (C : Addr) : Sp := fun vs H Q _ => ∃ (pa : Addr) (t : F), vs = [.ref pa] ∧ PartsAt K C H pa (pre t (-1) 0) ∧ t.size ≤ 1000 ∧
  ∀ la H', Same H H' → H' la = some (.lst ((placeL t).map V.int)) → Q (.ref la) H'
theorem ok_binder_places {f : Addr} {fd : FuncData} (FF : Fun K "binder_places" "binder_places" s_binder_places f fd) (T : Txt K mg C J B)
    (h_nearest_around : Has P w K mg base "nearest_around" 1 a_nearest_around (spNear K C B)) : FnOk P w K mg base CX0 2 f fd a_binder_places (spPlaces K C) := by
  refine FF.ok sc_binder_places (fun vs H Q E h => ?_) (fun cdv A outer s H vs Q E hr h => ?_)
  · obtain ⟨pa, t, rfl, _⟩ := h
    rfl
  · obtain ⟨pa, t, rfl, PA, hsz, k⟩ := h
    obtain ⟨R, hR, PR⟩ := id PA
    have small : ∀ n : Nat, n ≤ 1000 → n < sizeLine := fun n hn => small1000 hn
    have lenR : R.length = t.size := by rw [PR.1, pre_len]
    have lenI : (infos t).length = t.size := info_len _ _ _ _
    have plen : (placeL t).length = t.size := by rw [placeL, List.length_map, lenI]
    refine ⟨_, (pss_cons (ps_set (i := 1) sc_binder_places.nd rfl (.inl rfl) (pe_callH h_nearest_around (hr.mono (by omega)) (pa_cons (pv 0) (pa_cons (pe_glob rfl T.m_BINDERS (show RelV (.ref _) _ from rfl)) pa_nil))))
      (pss_cons (ps_set (i := 2) sc_binder_places.nd rfl (.inl rfl) (pe_lst pa_nil))
      (pss_cons (ps_for PassesOwn.never rfl (pi_enum rfl T.z_enumerate (pa_cons (pv 0) pa_nil)) (pg_tup rfl (pgs_cons (pg_name (i := 3) sc_binder_places.nd rfl (.inl rfl)) (pgs_cons (pg_name (i := 4) sc_binder_places.nd rfl (.inl rfl)) pgs_nil))) (pss_cons (ps_set (i := 5) sc_binder_places.nd rfl (.inl rfl) (pe_un un_neg pe_int))
      (pss_cons (ps_if (pt_cmpR op_eq (pe_ix ix_tup (pe_fld (pv 4) rfl) pe_int (fun _ _ => rfl)) pe_str (nomark _)) (pss_cons (ps_set (i := 5) sc_binder_places.nd rfl (.inl rfl) (pe_ix ix_list (pv 1) (pv 3) (fun _ _ => rfl)))
      (pss_one (ps_while PassesOwn.never (PW.pt (pw_and (pt_cmpR op_ge (pv 5) pe_int (nomark _)) (pw_and1 (pt_cmpR op_ne (pe_ix ix_tup (pe_fld (pe_ix ix_list (pv 0) (pv 5) (fun _ _ => rfl)) rfl) pe_int (fun _ _ => rfl)) (pe_ix ix_tup (pe_fld (pv 4) rfl) pe_int (fun _ _ => rfl)) (nomark _))))) (pss_one (ps_set (i := 5) sc_binder_places.nd rfl (.inl rfl) (pe_ix ix_list (pv 1) (pv 5) (fun _ _ => rfl))))))) pss_nil)
      (pss_one (ps_expr (pe_bm PySem.F.plainAttrs_list PySem.F.slot_list_append PySem.F.type_list_append mt_append (pv 2) (pa_cons (pv 5) pa_nil)))))))
      (pss_one (ps_ret (pv 2)))))), ?_⟩
    refine ⟨.ref pa, rfl, pa, t, rfl, PA, hsz, fun na H1 s1 n1 => ?_⟩
    refine ⟨Nat.zero_le _, fun la hla => ?_⟩
    have s2 := Same.new (o := .lst []) hla
    have hla0 := s1.free hla
    refine ⟨.ref pa, rfl, pa, _, rfl, (s1.trans s2).seq hR, for_it (walk_enum (xs := R.map fun (r : PRec) => V.ref r.p)) (fun i σ G => ∃ (y3 y4 y5 : Option V), σ = [some (.ref pa), some (.ref na), some (.ref la), y3, y4, y5] ∧ Same H G ∧
      G na = some (.lst ((nearL t).map V.int)) ∧ G la = some (.lst (((placeL t).take i).map V.int)))
      ⟨none, none, none, rfl, s1.trans s2, s2 _ _ n1, upd_same⟩ (fun i σ G _ ⟨_, _, _, _, sG, _⟩ => sG.seq hR) ?_ ?_⟩
    · rintro i x σ G H' hi ⟨y3, y4, y5, rfl, sG, gn, gl⟩ ⟨tp, x1, x2, rfl, htp, rfl, e1, e2⟩
      rw [List.length_map, lenR] at hi
      obtain ⟨r, pr, hr', hpr, z0⟩ := PartsAt.nth (pa := pa) PR hi
      have e2' : (R.map fun (r : PRec) => V.ref r.p)[i]? = some x2 := e2
      rw [List.getElem?_map, hpr] at e2'
      cases e1
      cases e2'
      have st := Same.new (o := .tup [.int (i : Nat), .ref pr.p]) htp
      have sG' := sG.trans st
      have z := z0.same sG'
      have gn' := st _ _ gn
      have gl' := st _ _ gl
      have tT : SqT K (upd G tp (.tup [.int (i : Nat), .ref pr.p])) tp [.int (i : Nat), .ref pr.p] := SqT.of upd_same
      generalize upd G tp (.tup [.int (i : Nat), .ref pr.p]) = G1 at st sG' z gn' gl' tT
      refine ⟨tp, _, rfl, tT, rfl, .int (i : Nat), _, rfl, .ref pr.p, _, rfl, rfl, 1, rfl, ?_⟩
      have fin : ∀ (a : Int) (y : Option V), a = placeOf r → ∃ (y3 y4 y5 : Option V), ([some (.ref pa), some (.ref na), some (.ref la), some (.int (i : Nat)), some (.ref pr.p), some (.int a)] : List (Option V)) = [some (.ref pa), some (.ref na), some (.ref la), y3, y4, y5] ∧
          Same H (upd G1 la (.lst (((placeL t).take i).map V.int ++ [.int a]))) ∧ (upd G1 la (.lst (((placeL t).take i).map V.int ++ [.int a]))) na = some (.lst ((nearL t).map V.int)) ∧
          (upd G1 la (.lst (((placeL t).take i).map V.int ++ [.int a]))) la = some (.lst (((placeL t).take (i + 1)).map V.int)) := by
        intro a y e
        subst e
        refine ⟨_, _, _, rfl, fun b o e => ?_, ?_, ?_⟩
        · rw [upd_ne (ne_of_none e hla0)]
          exact sG' b o e
        · rw [upd_ne (ne_of_none n1 hla)]
          exact gn'
        · rw [upd_same, List.take_add_one, show (placeL t)[i]? = some (placeOf r) by rw [placeL, List.getElem?_map, hr']; rfl, List.map_append]
          rfl
      have lsz : (((placeL t).take i).map V.int).length < sizeLine := by
        rw [List.length_map, List.length_take]
        exact small _ (by omega)
      refine ⟨.ref pr.p, rfl, pr.p, C, pr.dx, _, .ref pr.h, rfl, z.ob, T.cl, T.nH, fld_head _ _ _, pr.h, _, _, _, rfl, rfl, z.hd, hd_at0 _, rfl, _, rfl, ?_⟩
      have other : (∀ x, r.sub ≠ .leaf .var x) → V.str (hw r.sub.hd) ≠ V.str "var" ∧ placeOf r = -1 := fun nv => by
        obtain ⟨sb, a, stk⟩ := r
        cases sb with
        | nul b => exact ⟨nv_N b, rfl⟩
        | two b _ _ => exact ⟨nv_T b, rfl⟩
        | one k _ _ => exact ⟨nv_O k, rfl⟩
        | leaf k x =>
          cases k with
          | var => exact absurd rfl (nv x)
          | has => exact ⟨nv_has, rfl⟩
          | lacks => exact ⟨nv_lacks, rfl⟩
      by_cases hv' : ∃ x, r.sub = .leaf .var x
      · obtain ⟨x, hx⟩ := hv'
        have zh := z.hd
        rw [hx] at zh
        rw [hx]
        refine (if_pos (decide_eq_true rfl)).mpr ?_
        have nget : (nearL t)[i]? = some (topPos r.stk) := by rw [nearL, List.getElem?_map, hr']; rfl
        refine ⟨.ref na, rfl, .int (i : Nat), rfl, na, _, _, .int (topPos r.stk), rfl, rfl, SqL.of gn', atI_nat (j := i) (by rw [List.getElem?_map, nget]; rfl), ?_⟩
        have fin' := fin (posOf x r.stk) none (by unfold placeOf; rw [hx])
        refine ⟨fun m σ G' => ∃ (st' : Stk) (j0 : Nat) (r0 : Rec), σ = [some (.ref pa), some (.ref na), some (.ref la), some (.int (i : Nat)), some (.ref pr.p), some (.int (topPos st'))] ∧ G' = G1 ∧ posOf x st' = posOf x r.stk ∧
          (infos t)[j0]? = some r0 ∧ r0.stk = st' ∧ m = st'.length, ⟨_, r.stk, i, r, rfl, rfl, rfl, hr', rfl, rfl⟩, ?_⟩
        rintro m σ G' ⟨st', j0, r0, rfl, rfl, hpos, hr0, rfl, rfl⟩
        refine ⟨.int (topPos r0.stk), rfl, _, _, rfl, rfl, _, rfl, ?_⟩
        have out : ∀ a : Int, a = posOf x r.stk → ∀ σ : L2.St, σ = [some (.ref pa), some (.ref na), some (.ref la), some (.int (i : Nat)), some (.ref pr.p), some (.int a)] → σ = [some (.ref pa), some (.ref na), some (.ref la), some (.int (i : Nat)), some (.ref pr.p), some (.int (posOf x r.stk))] := fun a e σ es => by rw [es, e]
        cases hst : r0.stk with
        | nil =>
          rw [hst] at hpos
          refine iteF (iteF ?_)
          refine ⟨.ref la, rfl, .inl ⟨rfl, _, SqL.of gl'⟩, .int (-1), rfl, la, _, _, rfl, rfl, gl', lsz, ?_⟩
          have e : (-1 : Int) = posOf x r.stk := hpos
          rw [← e] at fin'
          exact fin'
        | cons yp rest =>
          obtain ⟨y, p⟩ := yp
          rw [hst] at hpos
          obtain ⟨hp, kd, f, a, hrp, hk⟩ := infos_stk j0 j0 r0 y p rest (Nat.le_refl _) hr0 hst
          have j0lt : j0 < t.size := by
            have := (List.getElem?_eq_some_iff.mp hr0).1
            omega
          obtain ⟨r2, pr', hr2, hpr', z1⟩ := PartsAt.nth (pa := pa) PR (show p < t.size by omega)
          rw [hrp] at hr2
          cases hr2
          have z' := z1.same sG'
          refine (if_pos (decide_eq_true (Int.natCast_nonneg p))).mpr ?_
          refine ⟨.ref pa, rfl, .int (p : Nat), rfl, pa, _, _, .ref pr'.p, rfl, rfl, sG'.seq hR, atI_nat (j := p) (by rw [List.getElem?_map, hpr']; rfl), pr'.p, C, pr'.dx, _, .ref pr'.h, rfl, z'.ob, T.cl, T.nH, fld_head _ _ _, pr'.h, _, 1, .int y, rfl, rfl, z'.hd, atI_nat (j := 1) rfl, ?_⟩
          refine ⟨.ref pr.p, rfl, pr.p, C, pr.dx, _, .ref pr.h, rfl, z.ob, T.cl, T.nH, fld_head _ _ _, pr.h, _, 1, .int x, rfl, rfl, zh, atI_nat (j := 1) rfl, rfl, _, rfl, ?_⟩
          by_cases e : y = x
          · subst e
            rw [decide_eq_true (rfl : V.int y = V.int y)]
            refine iteF ?_
            refine ⟨.ref la, rfl, .inl ⟨rfl, _, SqL.of gl'⟩, .int (p : Nat), rfl, la, _, _, rfl, rfl, gl', lsz, ?_⟩
            have e : ((p : Nat) : Int) = posOf y r.stk := by rw [← hpos]; simp [posOf]
            rw [← e] at fin'
            exact fin'
          · rw [decide_eq_false (fun q : V.int y = V.int x => e (V.int.inj q))]
            refine iteT ⟨_, fun σ' H' z => z, ?_⟩
            refine ⟨.ref na, rfl, .int (p : Nat), rfl, na, _, _, .int (topPos rest), rfl, rfl, SqL.of gn', atI_nat (j := p) (by rw [List.getElem?_map, nearL, List.getElem?_map, hrp]; rfl), ?_⟩
            refine ⟨rest.length, Nat.lt_succ_self _, rest, p, _, rfl, rfl, ?_, hrp, rfl, rfl⟩
            rw [← hpos]
            simp only [posOf]
            rw [if_neg e]
      · obtain ⟨n1', n2'⟩ := other fun x e => hv' ⟨x, e⟩
        refine (if_neg (by rw [decide_eq_false n1']; exact Bool.false_ne_true)).mpr ?_
        refine ⟨.ref la, rfl, .inl ⟨rfl, _, SqL.of gl'⟩, .int (-1), rfl, la, _, _, rfl, rfl, gl', lsz, ?_⟩
        exact fin (-1) none n2'.symm
    · rintro σ G ⟨y3, y4, y5, rfl, sG, gn, gl⟩
      refine ⟨_, rfl, k la G sG ?_⟩
      rw [gl, List.length_map, lenR, List.take_of_length_le (by omega)]
end
end Fw

set_option maxRecDepth 100000
set_option maxHeartbeats 2000000
namespace Fw
open PySem PySem.Spec PyProof.Rows L2
theorem filter_more {S : Int → Bool} {k : Int} : ∀ {l : List Int}, l.Nodup → k ∈ l → (l.filter fun j => S j || decide (j = k)).length = if S k = true then (l.filter S).length else (l.filter S).length + 1
  | [], _, h => by cases h
  | a :: l, nd, h => by
    have nd' := List.nodup_cons.mp nd
    by_cases e : a = k
    · subst e
      have same : (l.filter fun j => S j || decide (j = a)) = l.filter S := by
        refine List.filter_congr fun x hx => ?_
        have : x ≠ a := fun q => nd'.1 (q ▸ hx)
        simp [this]
      by_cases hs : S a = true
      · simp [List.filter_cons, hs, same]
      · simp [List.filter_cons, hs, same]
    · have hk : k ∈ l := (List.mem_cons.mp h).resolve_left fun q => e q.symm
      have ih := filter_more (S := S) nd'.2 hk
      by_cases ha : S a = true
      · simp only [List.filter_cons, ha, Bool.true_or, if_true, List.length_cons, ih]
        split <;> rfl
      · have ha' : S a = false := by simpa using ha
        simp only [List.filter_cons, ha', Bool.false_or, decide_eq_false e, Bool.false_eq_true, if_false, ih]
theorem none_len (l : List Int) : 0 = (l.filter fun _ => false).length := by
  induction l with
  | nil => rfl
  | cons a l ih => simpa [List.filter_cons] using ih
theorem none_yet {I : List Rec} {x : Int} : false = true ↔ ∃ (j : Nat) (r : Rec), j < 0 ∧ I[j]? = some r ∧ r.sub = .leaf .var x ∧ x ∉ r.stk.map (·.1) :=
  ⟨fun e => (Bool.false_ne_true e).elim, fun ⟨_, _, h, _⟩ => absurd h (Nat.not_lt_zero _)⟩
section
variable {P : Program} {w : World} {K : PySem.W.Frag} {mg : Str → Option Value} {base : Heap} {C J B : Addr}
/-! ### free_variables -/
def spFree (K : PySem.W.Frag) : Sp := fun vs H Q _ => ∃ (v : V) (t : F) (Vs : List Int), vs = [v] ∧ IsF K H v t ∧ t.size ≤ 1000 ∧ Vs.Nodup ∧ Vs.length < 64 ∧ (∀ x ∈ freeL t [], x ∈ Vs) ∧
  ∀ (ns : List Int) p H', Same H H' → ns.Pairwise (· < ·) → (∀ x, x ∈ ns ↔ x ∈ freeL t []) → H' p = some (.lst (ns.map V.int)) → Q (.ref p) H'
theorem ok_free_variables {f : Addr} {fd : FuncData} (FF : Fun K "free_variables" "free_variables" s_free_variables f fd) (T : Txt K mg C J B)
    (h_parts_of : Has P w K mg base "parts_of" 3 a_parts_of (spParts K C)) (h_binder_places : Has P w K mg base "binder_places" 2 a_binder_places (spPlaces K C)) : FnOk P w K mg base CX0 4 f fd a_free_variables (spFree K) := by
  refine FF.ok sc_free_variables (fun vs H Q E h => ?_) (fun cdv A outer s H vs Q E hr h => ?_)
  · obtain ⟨v, t, Vs, rfl, _⟩ := h
    rfl
  · obtain ⟨v, t, Vs, rfl, ht, hsz, nd, l64, sub, k⟩ := h
    have lenI : (infos t).length = t.size := info_len _ _ _ _
    refine ⟨_, (pss_cons (ps_set (i := 1) sc_free_variables.nd rfl (.inl rfl) (pe_callH h_parts_of (hr.mono (by omega)) (pa_cons (pv 0) pa_nil)))
      (pss_cons (ps_set (i := 2) sc_free_variables.nd rfl (.inl rfl) (pe_callH h_binder_places (hr.mono (by omega)) (pa_cons (pv 1) pa_nil)))
      (pss_one (ps_ret (pe_callB (cr_sortedSet rfl) rfl T.z_sorted (by decide +kernel) (pa_cons (pe_sci (own := [("part", 3), ("place", 4)]) rfl sc_free_variables.nd (pi_zip rfl T.z_zip (pa_cons (pv 1) (pa_cons (pv 2) pa_nil))) (blkOk_by (own := [("part", 3), ("place", 4)]) (N := n_free_variables) (sc := defScope s_free_variables) (by decide +kernel)) (fun _ _ _ _ _ => (show PG _ _ (gTup K 2 _) from pg_tup rfl (pgs_cons (pg_name (i := 3) sc_free_variables.nd rfl (.inl rfl)) (pgs_cons (pg_name (i := 4) sc_free_variables.nd rfl (.inl rfl)) pgs_nil)))) (fun _ _ _ _ _ => (pts_one (PW.pt (pw_and (pt_cmpR op_eq (pe_ix (@id (IxR _ (rIxT K)) ix_tup) (show PE _ _ (tFld K _ "head") from pe_fld (pv 3) rfl) pe_int (fun _ _ => rfl)) pe_str (nomark _)) (pw_and1 (pt_cmpR op_lt (pv 4) pe_int (nomark _))))))) (fun _ _ _ _ _ => (pe_ix (@id (IxR _ (rIxT K)) ix_tup) (show PE _ _ (tFld K _ "head") from pe_fld (pv 3) rfl) pe_int (fun _ _ => rfl)))) pa_nil)))))), ?_⟩
    refine ⟨v, rfl, v, t, rfl, ht, hsz, fun pa H1 s1 PA => ?_⟩
    refine ⟨.ref pa, rfl, pa, t, rfl, PA, hsz, fun la H2 s2 hl => ?_⟩
    obtain ⟨R, hR, PR⟩ := id (PA.same s2)
    have lenR : R.length = t.size := by rw [PR.1, pre_len]
    refine ⟨.ref pa, rfl, .ref la, rfl, pa, la, _, _, rfl, hR, SqL.of hl, fun D hD => ?_⟩
    refine sci_it (walk_zip (n := t.size) (xs := R.map fun (r : PRec) => V.ref r.p) (ys := (placeL t).map V.int) (by rw [List.length_map, List.length_map, placeL, List.length_map, lenI, lenR, Nat.min_self]))
      (fun i G => Same H2 G ∧ ∃ S n, G D = some (SetO w D S n) ∧ n = (Vs.filter S).length ∧ ∀ x, S x = true ↔ ∃ (j : Nat) (r : Rec), j < i ∧ (infos t)[j]? = some r ∧ r.sub = .leaf .var x ∧ x ∉ r.stk.map (·.1))
      ⟨Same.new hD, fun _ => false, 0, upd_same, none_len Vs, fun x => none_yet⟩ (fun i G _ q => ⟨q.1.seq hR, SqL.of (q.1 _ _ hl)⟩) ?_ ?_
    · rintro i x G G' hi ⟨sG, S, n, hS, rfl, hSx⟩ ⟨tp, x1, x2, rfl, htp, rfl, e1, e2⟩
      obtain ⟨r, pr, hr', hpr, z0⟩ := PartsAt.nth (pa := pa) PR hi
      have e1' : (R.map fun (r : PRec) => V.ref r.p)[i]? = some x1 := e1
      have e2' : ((placeL t).map V.int)[i]? = some x2 := e2
      rw [List.getElem?_map, hpr] at e1'
      rw [List.getElem?_map, placeL, List.getElem?_map, hr'] at e2'
      cases e1'
      cases e2'
      have st := Same.new (o := .tup [.ref pr.p, .int (placeOf r)]) htp
      have sG' := sG.trans st
      have z := z0.same sG'
      have hS' := st _ _ hS
      have tT : SqT K (upd G tp (.tup [.ref pr.p, .int (placeOf r)])) tp [.ref pr.p, .int (placeOf r)] := SqT.of upd_same
      generalize upd G tp (.tup [.ref pr.p, .int (placeOf r)]) = G1 at st sG' z hS' tT
      refine ⟨tp, _, rfl, tT, rfl, .ref pr.p, _, rfl, .int (placeOf r), _, rfl, rfl, rfl, ?_⟩
      have noteq : (∀ x, ¬ (r.sub = .leaf .var x ∧ x ∉ r.stk.map (·.1))) → ∀ x, S x = true ↔ ∃ (j : Nat) (r : Rec), j < i + 1 ∧ (infos t)[j]? = some r ∧ r.sub = .leaf .var x ∧ x ∉ r.stk.map (·.1) := by
        intro hno x
        rw [hSx x]
        constructor
        · rintro ⟨j, r', h1, h2⟩
          exact ⟨j, r', by omega, h2⟩
        · rintro ⟨j, r', h1, h2, h3⟩
          by_cases e : j = i
          · subst e
            rw [hr'] at h2
            cases h2
            exact absurd h3 (hno x)
          · exact ⟨j, r', by omega, h2, h3⟩
      refine ⟨.ref pr.p, rfl, pr.p, C, pr.dx, _, .ref pr.h, rfl, z.ob, T.cl, T.nH, fld_head _ _ _, pr.h, _, _, _, rfl, rfl, z.hd, hd_at0 _, rfl, _, rfl, ?_⟩
      have ie : ∀ x y : Int, r.sub = .leaf .var x → F.leaf .var x = .leaf .var y → x = y := fun x y _ e => by injection e
      by_cases hv' : ∃ x, r.sub = .leaf .var x
      · obtain ⟨x, hx⟩ := hv'
        have zh := z.hd
        have hp : placeOf r = posOf x r.stk := by unfold placeOf; rw [hx]
        rw [hx] at zh
        rw [hx]
        refine (if_pos (decide_eq_true rfl)).mpr ?_
        refine ⟨.int (placeOf r), rfl, _, _, rfl, rfl, _, rfl, ?_⟩
        refine ite2 (fun c => ?_) (fun c => ?_)
        · have hneg : x ∉ r.stk.map (·.1) := (posOf_neg x r.stk).mp (by rw [← hp]; exact of_decide_eq_true c)
          have hxV : x ∈ Vs := sub x ((free_iff x t [] (-1) 0 [] (by simp)).mpr ⟨r, List.mem_of_getElem? hr', hx, hneg⟩)
          refine ⟨.ref pr.p, rfl, pr.p, C, pr.dx, _, .ref pr.h, rfl, z.ob, T.cl, T.nH, fld_head _ _ _, pr.h, _, 1, .int x, rfl, rfl, zh, atI_nat (j := 1) rfl, x, S, _, rfl, hS', ?_, ?_⟩
          · have := List.length_filter_le S Vs
            exact Nat.lt_of_le_of_lt (show _ ≤ 64 by omega) (by decide)
          · refine ⟨fun b o e => by rw [upd_ne (ne_of_none e hD)]; exact sG' b o e, _, _, upd_same, (filter_more nd hxV).symm, fun y => ?_⟩
            rw [Bool.or_eq_true, decide_eq_true_eq, hSx y]
            constructor
            · rintro (⟨j, r', h1, h2⟩ | rfl)
              · exact ⟨j, r', by omega, h2⟩
              · exact ⟨i, r, by omega, hr', hx, hneg⟩
            · rintro ⟨j, r', h1, h2, h3⟩
              by_cases e : j = i
              · subst e
                rw [hr'] at h2
                cases h2
                rw [hx] at h3
                exact .inr (ie x y hx h3.1).symm
              · exact .inl ⟨j, r', by omega, h2, h3⟩
        · refine ⟨sG', S, _, hS', rfl, noteq fun y q => ?_⟩
          rw [hx] at q
          have exy := ie x y hx q.1
          subst exy
          exact c (decide_eq_true (by rw [hp]; exact (posOf_neg x r.stk).mpr q.2))
      · have n1' : V.str (hw r.sub.hd) ≠ V.str "var" := by
          cases hs : r.sub with
          | nul b => exact nv_N b
          | two b _ _ => exact nv_T b
          | one k _ _ => exact nv_O k
          | leaf k x =>
            cases k with
            | var => exact absurd ⟨x, hs⟩ hv'
            | has => exact nv_has
            | lacks => exact nv_lacks
        refine (if_neg (by rw [decide_eq_false n1']; exact Bool.false_ne_true)).mpr ?_
        exact ⟨sG', S, _, hS', rfl, noteq fun y q => hv' ⟨y, q.1⟩⟩
    · rintro G ⟨sG, S, n, hS, rfl, hSx⟩
      refine ⟨D, S, _, rfl, hS, Nat.lt_of_le_of_lt (List.length_filter_le _ _) l64, fun ns p pw mem len hp => ?_⟩
      refine k ns p _ (s1.trans (s2.trans (sG.trans (Same.new hp)))) pw (fun x => ?_) upd_same
      rw [mem x, hSx x, free_iff x t [] (-1) 0 [] (by simp)]
      constructor
      · rintro ⟨j, r, h1, h2, h3⟩
        exact ⟨r, List.mem_of_getElem? h2, h3⟩
      · rintro ⟨r, h1, h2⟩
        obtain ⟨j, hj⟩ := List.mem_iff_getElem?.mp h1
        have := (List.getElem?_eq_some_iff.mp hj).1
        exact ⟨j, r, by rw [info_len] at this; exact this, hj, h2⟩
end
end Fw

set_option maxRecDepth 100000
set_option maxHeartbeats 2000000
namespace Fw
open PySem PySem.Spec PyProof.Rows L2
theorem SqT.butD {K : PySem.W.Frag} {G1 G2 : Hp} {a d : Addr} {xs : List V} {kvs : List (Key × V)} (hd : G1 d = some (.dK kvs)) (s : ∀ b o, b ≠ d → G1 b = some o → G2 b = some o) (h : SqT K G1 a xs) : SqT K G2 a xs := by
  rcases h with h | h
  · rcases h with h | ⟨u, h⟩
    · exact .inl (.inl (s _ _ (ne_of h hd (by intro z; cases z)) h))
    · exact .inl (.inr ⟨u, s _ _ (ne_of h hd (by intro z; cases z)) h⟩)
  · exact .inr h
section
variable {P : Program} {w : World} {K : PySem.W.Frag} {mg : Str → Option Value} {base : Heap} {C J B NC FE : Addr}
/-- a statement whose free variables are few -/
def Few (t : F) : Prop := ∃ Vs : List Int, Vs.Nodup ∧ Vs.length < 64 ∧ ∀ x ∈ freeL t [], x ∈ Vs
theorem Few.closed {t : F} (h : Closed t) : Few t := ⟨[], List.nodup_nil, by decide, fun x hx => by rw [closed_iff.mpr h] at hx; exact hx⟩
/-! ### ensure_closed -/
def spEnsure (K : PySem.W.Frag) (NC : Addr) : Sp := fun vs H Q E => ∃ (v : V) (t : F), vs = [v] ∧ IsF K H v t ∧ t.size ≤ 1000 ∧ Few t ∧
  (Closed t → ∀ H', Same H H' → Q .non H') ∧ (¬ Closed t → ∀ H', Same H H' → E (.ref NC) none H')
theorem ok_ensure_closed {f : Addr} {fd : FuncData} (FF : Fun K "ensure_closed" "ensure_closed" s_ensure_closed f fd) (T : Txt K mg C J B) (TE : TxtE K mg NC FE)
    (h_free_variables : Has P w K mg base "free_variables" 4 a_free_variables (spFree K)) : FnOk P w K mg base (L2.CX P w) 5 f fd a_ensure_closed (spEnsure K NC) := by
  refine FF.okX sc_ensure_closed (fun vs H Q E h => ?_) (fun cdv A outer s H vs Q E hr h => ?_)
  · obtain ⟨v, t, rfl, _⟩ := h
    rfl
  · obtain ⟨v, t, rfl, ht, hsz, ⟨Vs, nd, l64, sub⟩, k1, k2⟩ := h
    refine ⟨_, (pss_one (ps_if (pt_truth (pe_callH h_free_variables (hr.mono (by omega)) (pa_cons (pv 0) pa_nil)) (by intro _; rfl)) (pss_one (ps_raise rfl (takes_of rfl rfl rfl rfl) (pmk_own PySem.F.excBase_ValueError TE.xC TE.gC TE.kC (raises_own TE.bC TE.tC) (by exact rfl)))) pss_nil)), ?_⟩
    refine ⟨v, rfl, v, t, Vs, rfl, ht, hsz, nd, l64, sub, fun ns p H' s1 pw mem hp => ?_⟩
    refine ⟨!(ns.map V.int).isEmpty, .inl ⟨_, SqL.of hp, rfl⟩, ?_⟩
    cases ns with
    | nil =>
      refine iteF ?_
      exact k1 (closed_iff.mp (List.eq_nil_iff_forall_not_mem.mpr fun x hx => by have := (mem x).mpr hx; cases this)) H' s1
    | cons x ns =>
      refine iteT ?_
      refine k2 (fun c => ?_) H' s1
      have := (mem x).mp List.mem_cons_self
      rw [closed_iff.mpr c] at this
      cases this
abbrev nm0 : Int → Int := fun _ => 0
end
end Fw

set_option maxRecDepth 100000
set_option maxHeartbeats 2000000
namespace Fw
open PySem PySem.Spec PyProof.Rows L2
structure TxtO (K : PySem.W.Frag) (mg : Str → Option Value) (w : World) (OD : Addr) : Prop where
  m_OPPOSITES : mg "OPPOSITES" = some (.ref OD)
  at_ : ∀ h : Hd, KDct K w OD (hw h) (.str (hw (oppH h)))
theorem hv_opp (h : Hd) : [V.str (hw (oppH h))] ++ (hv h).drop 1 = hv (oppH h) := by cases h <;> rfl
theorem hv_one (h : Hd) : (hv h).drop 1 = [] ∨ ∃ n, (hv h).drop 1 = [.int n] := by
  cases h with
  | nul b => exact .inl rfl
  | leaf k n => exact .inr ⟨n, rfl⟩
  | two b => exact .inl rfl
  | one k n => exact .inr ⟨n, rfl⟩
theorem cutV_one (xs : List V) : cutV xs (some 1) none = xs.drop 1 := by
  unfold cutV
  rw [show HT.sIx xs.length 0 (some 1) = min 1 xs.length from HT.sIx_nat _ _ 1, HT.sIx_none]
  rcases Nat.le_total 1 xs.length with h | h
  · rw [Nat.min_eq_left h, List.take_of_length_le (by rw [List.length_drop]; exact Nat.le_refl _)]
  · rw [Nat.min_eq_right h, List.drop_length, List.drop_eq_nil_of_le h]
    simp
section
variable {P : Program} {w : World} {K : PySem.W.Frag} {mg : Str → Option Value} {base : Heap} {C J B NC FE OD : Addr}
def spOpp (K : PySem.W.Frag) (NC : Addr) : Sp := fun vs H Q E => ∃ (v : V) (t : F), vs = [v] ∧ IsF K H v t ∧ t.size ≤ 1000 ∧ Few t ∧
  (Closed t → ∀ v' H', Same H H' → IsF K H' v' (opp t) → Q v' H') ∧ (¬ Closed t → ∀ H', Same H H' → E (.ref NC) none H')
def spExch (K : PySem.W.Frag) : Sp := fun vs H Q _ => ∃ (v : V) (t : F), vs = [v] ∧ IsF K H v t ∧ t.size ≤ 1000 ∧ ∀ v' H', Same H H' → IsF K H' v' (opp t) → Q v' H'
theorem ok_exchanged {f : Addr} {fd : FuncData} (FF : Fun K "exchanged" "exchanged" s_exchanged f fd) (T : Txt K mg C J B) (TO : TxtO K mg w OD) (h_parts_of : Has P w K mg base "parts_of" 3 a_parts_of (spParts K C))
    (h_built : Has P w K mg base "built" 1 a_built (spBuilt K C)) : FnOk P w K mg base CX0 4 f fd a_exchanged (spExch K) := by
  refine FF.ok sc_exchanged (fun vs H Q E h => ?_) (fun cdv A outer s H vs Q E hr h => ?_)
  · obtain ⟨v, t, rfl, _⟩ := h
    rfl
  · obtain ⟨v, t, rfl, ht, hsz, k1⟩ := h
    have lenI : (infos t).length = t.size := info_len _ _ _ _
    refine ⟨_, (pss_cons (ps_set (i := 1) sc_exchanged.nd rfl (.inl rfl) (pe_callH h_parts_of (hr.mono (by omega)) (pa_cons (pv 0) pa_nil)))
      (pss_cons (ps_setLc (i := 2) (own := [("part", 3)]) (g := gName 3) rfl sc_exchanged.nd rfl rfl (sw_true rfl rfl rfl (by decide +kernel)) (pi_list (pv 1)) (blkOk_by (own := [("part", 3)]) (N := n_exchanged) (sc := defScope s_exchanged) (by decide +kernel)) (fun _ _ _ _ _ => (pg_name (i := 3) sc_exchanged.nd rfl (.inl rfl))) (fun _ _ _ _ _ => pts_nil) (fun _ _ _ _ _ => (pe_op (@id (OpR _ _ (rCatA K)) op_catA) (pe_tup (pa_cons (pe_ix (show IxR _ (rIxD K w) from ix_kdict) (pe_glob rfl TO.m_OPPOSITES (show RelV (.ref _) _ from rfl)) (pe_ix (@id (IxR _ (rIxT K)) ix_tup) (show PE _ _ (tFld K _ "head") from pe_fld (pv 3) rfl) pe_int (fun _ _ => rfl)) (fun _ _ => rfl)) pa_nil)) (pe_slice (@id (SlR _ (rSlA K)) sl_tupA) (show PE _ _ (tFld K _ "head") from pe_fld (pv 3) rfl) (po_some pe_int) po_none))))
      (pss_one (ps_ret (pe_callH h_built (hr.mono (by omega)) (pa_cons (pv 1) (pa_cons (pv 2) pa_nil))))))), ?_⟩
    refine ⟨v, rfl, v, t, rfl, ht, hsz, fun pa H2 s2 PA => ?_⟩
    obtain ⟨R, hR, PR⟩ := id PA
    have lenR : R.length = t.size := by rw [PR.1, pre_len]
    refine ⟨.ref pa, rfl, pa, rfl, ⟨_, hR⟩, fun D hD => ?_⟩
    refine lc_list (xs := R.map fun (r : PRec) => V.ref r.p) (fun i G => Same H2 G ∧ ∃ hs : List Addr, G D = some (.lst (hs.map V.ref)) ∧ hs.length = i ∧
      ∀ (j : Nat) (h : Addr) (r : Rec), hs[j]? = some h → (infos t)[j]? = some r → SqT K G h (hv (oppH r.sub.hd))) ⟨Same.new hD, [], by rw [upd_same]; rfl, rfl, fun j h r e => absurd e (no_get j h)⟩ (fun i G _ q => q.1.seq hR) ?_ ?_
    · rintro i x G hx ⟨sG, hs, gD, lhs, hh⟩
      have hi : i < t.size := by
        have := (List.getElem?_eq_some_iff.mp hx).1
        rw [List.length_map] at this
        omega
      obtain ⟨r, pr, hr', hpr, z0⟩ := PartsAt.nth (pa := pa) PR hi
      rw [List.getElem?_map, hpr] at hx
      cases hx
      have z := z0.same sG
      refine ⟨rfl, ?_⟩
      refine ⟨.ref pr.p, rfl, pr.p, C, pr.dx, _, .ref pr.h, rfl, z.ob, T.cl, T.nH, fld_head _ _ _, pr.h, _, _, _, rfl, rfl, z.hd, hd_at0 _, OD, hw r.sub.hd, _, rfl, rfl, TO.at_ r.sub.hd, by show 1 ≤ sizeLine; decide, fun p hp => ?_⟩
      have s1' := Same.new (o := .tup [.str (hw (oppH r.sub.hd))]) hp
      have z1 := z.same s1'
      have pT : SqT K (upd G p (.tup [.str (hw (oppH r.sub.hd))])) p [.str (hw (oppH r.sub.hd))] := SqT.of upd_same
      generalize upd G p (.tup [.str (hw (oppH r.sub.hd))]) = G1 at s1' z1 pT
      have fin : ∀ (b : Addr) (G4 : Hp), Same G G4 → SqT K G4 b (hv (oppH r.sub.hd)) → ∃ acc, G4 D = some (.lst acc) ∧ acc.length < sizeLine ∧ Same H2 (upd G4 D (.lst (acc ++ [.ref b]))) ∧
          ∃ hs : List Addr, (upd G4 D (.lst (acc ++ [.ref b]))) D = some (.lst (hs.map V.ref)) ∧ hs.length = i + 1 ∧ ∀ (j : Nat) (h : Addr) (r : Rec), hs[j]? = some h → (infos t)[j]? = some r → SqT K (upd G4 D (.lst (acc ++ [.ref b]))) h (hv (oppH r.sub.hd)) := by
        intro b G4 s4 sq
        have gD4 := s4 _ _ gD
        have lk : LKp G4 (upd G4 D (.lst (hs.map V.ref ++ [.ref b]))) := LKp.upd gD4
        refine ⟨_, gD4, by rw [List.length_map]; exact small1000 (by omega), fun c o e => ?_, hs ++ [b], by rw [upd_same, List.map_append]; rfl, by rw [List.length_append, lhs]; rfl, fun j h' r2 e1 e2 => ?_⟩
        · rw [upd_ne (ne_of_none e hD)]
          exact s4 _ _ (sG _ _ e)
        · by_cases lt : j < hs.length
          · rw [List.getElem?_append_left lt] at e1
            exact SqT.lk lk (SqT.same s4 (hh j h' r2 e1 e2))
          · have ej : j = hs.length := by
              have := (List.getElem?_eq_some_iff.mp e1).1
              rw [List.length_append, List.length_singleton] at this
              omega
            subst ej
            rw [List.getElem?_append_right (Nat.le_refl _), Nat.sub_self] at e1
            cases e1
            rw [lhs, hr'] at e2
            cases e2
            exact SqT.lk lk sq
      refine ⟨.ref pr.p, rfl, pr.p, C, pr.dx, _, .ref pr.h, rfl, z1.ob, T.cl, T.nH, fld_head _ _ _, 1, rfl, pr.h, _, rfl, z1.hd, fun whole => ?_, fun _ q hq => ?_⟩
      · exfalso
        rw [show HT.sIx (hv r.sub.hd).length 0 (some 1) = min 1 (hv r.sub.hd).length from HT.sIx_nat _ _ 1] at whole
        rcases hv_len r.sub.hd with e | e <;> omega
      rw [cutV_one]
      have s2' := Same.new (o := .tup ((hv r.sub.hd).drop 1)) hq
      have qT : SqT K (upd G1 q (.tup ((hv r.sub.hd).drop 1))) q ((hv r.sub.hd).drop 1) := SqT.of upd_same
      have pT2 := SqT.same s2' pT
      generalize upd G1 q (.tup ((hv r.sub.hd).drop 1)) = G2 at s2' qT pT2
      have sG2 := s1'.trans s2'
      have hvo := hv_opp r.sub.hd
      refine ⟨p, q, _, _, rfl, rfl, pT2, qT, ?_, (fun e => by cases e), fun _ e => ?_, fun _ _ u hu0 => ?_⟩
      · have := hv_len r.sub.hd
        rw [List.length_singleton, List.length_drop]
        exact Nat.le_of_lt (small1000 (by omega))
      · refine fin p G2 sG2 ?_
        rw [← hvo, e, List.append_nil]
        exact pT2
      · refine fin u _ (sG2.trans (Same.new hu0)) ?_
        rw [← hvo]
        exact SqT.of upd_same
    · rintro G ⟨sG, hs, gD, lhs, hh⟩
      rw [List.length_map, lenR] at lhs
      have sk := opp_skel t
      have lenT : (infos (opp t)).length = t.size := by rw [info_len]; exact same_size sk
      refine ⟨.ref pa, rfl, .ref D, rfl, pa, D, _, opp t, rfl, PA.same sG, by rw [pre_aro]; exact same_aro sk.symm, ⟨hs, SqL.of gD, by rw [List.length_map, lhs, lenT], fun j h hd e1 e2 => ?_⟩, by rw [same_size sk]; exact hsz, fun v' H' s' hv' => ?_⟩
      · obtain ⟨r, hr'⟩ : ∃ r, (infos t)[j]? = some r := ⟨(infos t)[j]'(by have := (List.getElem?_eq_some_iff.mp e1).1; omega), by simp⟩
        rw [opp_heads t (-1) 0 [] [], List.getElem?_map, hr'] at e2
        cases e2
        exact hh j h r e1 hr'
      · exact k1 v' H' (s2.trans (sG.trans s')) hv'
theorem ok_opposite {f : Addr} {fd : FuncData} (FF : Fun K "opposite" "opposite" s_opposite f fd) (T : Txt K mg C J B)
    (h_ensure_closed : HasX P w K mg base "ensure_closed" 5 a_ensure_closed (spEnsure K NC)) (h_exchanged : Has P w K mg base "exchanged" 4 a_exchanged (spExch K)) : FnOk P w K mg base (L2.CX P w) 6 f fd a_opposite (spOpp K NC) := by
  refine FF.okX sc_opposite (fun vs H Q E h => ?_) (fun cdv A outer s H vs Q E hr h => ?_)
  · obtain ⟨v, t, rfl, _⟩ := h
    rfl
  · obtain ⟨v, t, rfl, ht, hsz, few, k1, k2⟩ := h
    refine ⟨_, (pss_cons (ps_expr (pe_callX h_ensure_closed (hr.mono (by omega)) (takes_of rfl rfl rfl rfl) (pa_cons (pv 0) pa_nil)))
      (PSs.nox (pss_one (ps_ret (pe_callH h_exchanged (hr.mono (by omega)) (pa_cons (pv 0) pa_nil)))))), ?_⟩
    exact ⟨v, rfl, v, t, rfl, ht, hsz, few, fun hc H1 s1 => ⟨v, rfl, v, t, rfl, ht.same s1, hsz, fun v' H' s' hv' => k1 hc v' H' (s1.trans s') hv'⟩, fun hc H1 s1 => k2 hc H1 s1⟩
end
end Fw

set_option maxRecDepth 100000
set_option maxHeartbeats 2000000
namespace Fw
open PySem PySem.Spec PyProof.Rows L2
def Draws (H : Hp) (d : Addr) : Prop := ∃ ds : List Int, H d = some (.lst (ds.map V.int))
theorem Draws.lst {H : Hp} {d : Addr} (h : Draws H d) : IsLst H d := by
  obtain ⟨ds, e⟩ := h
  exact ⟨_, e⟩
theorem fmod_in {a b : Int} (h : 0 < b) : 0 ≤ a.fmod b ∧ a.fmod b < b := by
  rw [Int.fmod_eq_emod_of_nonneg a (Int.le_of_lt h)]
  exact ⟨Int.emod_nonneg a (by omega), Int.emod_lt_of_pos a h⟩
theorem nz1 : (1000 : Int) ≠ 0 := by decide
theorem nz2 : (2147483647 : Int) ≠ 0 := by decide
theorem nz3 : (1000003 : Int) ≠ 0 := by decide
theorem sq_small {m : Int} (h0 : 0 ≤ m) (h1 : m < 2147483647) : -(2 ^ 64) < m ∧ m < 2 ^ 64 := ⟨by omega, by omega⟩
theorem isTup {K : PySem.W.Frag} {H : Hp} {a : Addr} {xs : List V} (h : SqT K H a xs) : TyX K H (.ref a) (.type "tuple") := by
  rcases h with h | ⟨o, _, _, e, c, _⟩
  · rcases h with h | ⟨u, h⟩
    · exact .base (.tup h)
    · exact .fTuple h
  · exact .kTuple e c
theorem IsF.ty {K : PySem.W.Frag} {H : Hp} {v : V} {t : F} (h : IsF K H v t) : TyX K H v (.type "tuple") := by
  obtain ⟨a, ks, rfl, sq, _⟩ := h.open
  exact isTup sq
section
variable {P : Program} {w : World} {K : PySem.W.Frag} {mg : Str → Option Value} {base : Heap} {C J B NC FE : Addr}
/-! ### the law's draws -/
def spDraws (K : PySem.W.Frag) : Sp := fun vs H Q _ => ∃ (a : Addr) (ns : List Int) (c : Int), vs = [.ref a, .int c] ∧ SqL K H a (ns.map V.int) ∧ ns.length ≤ 63 ∧ 0 ≤ c ∧ c ≤ 1000 ∧
  ∀ d H', Same H H' → H d = none → Draws H' d → Q (.ref d) H'
theorem ok_law_draws {f : Addr} {fd : FuncData} (FF : Fun K "_law_draws" "_law_draws" s_law_draws f fd) (T : Txt K mg C J B) : FnOk P w K mg base CX0 1 f fd a_law_draws (spDraws K) := by
  refine FF.ok sc_law_draws (fun vs H Q E h => ?_) (fun cdv A outer s H vs Q E hr h => ?_)
  · obtain ⟨a, ns, c, rfl, _⟩ := h
    rfl
  · obtain ⟨a, ns, c, rfl, hS, hlen, c0, c1, k⟩ := h
    refine ⟨_, (pss_cons (ps_set (i := 2) sc_law_draws.nd rfl (.inl rfl) (pe_callTy call_list_of rfl T.z_list (by decide +kernel) (pa_cons (pv 0) pa_nil)))
      (pss_cons (ps_if (pt_cmpR op_eq (pe_callB call_len_seq rfl T.z_len (by decide +kernel) (pa_cons (pv 2) pa_nil)) pe_int (nomark _)) (pss_one (ps_set (i := 2) sc_law_draws.nd rfl (.inl rfl) (pe_lst (pa_cons pe_int pa_nil)))) pss_nil)
      (pss_cons (ps_set (i := 3) sc_law_draws.nd rfl (.inl rfl) (pe_lst pa_nil))
      (pss_cons (ps_set (i := 4) sc_law_draws.nd rfl (.inl rfl) pe_int)
      (pss_cons (ps_for PassesOwn.never rfl (pi_range1 rfl T.z_range (pa_cons (pv 1) pa_nil)) (pg_name (i := 5) sc_law_draws.nd rfl (.inl rfl)) (pss_cons (ps_set (i := 6) sc_law_draws.nd rfl (.inl rfl) (pe_op op_modN (pv 5) (pe_callB call_len_seq rfl T.z_len (by decide +kernel) (pa_cons (pv 2) pa_nil))))
      (pss_cons (ps_set (i := 7) sc_law_draws.nd rfl (.inl rfl) (pe_ix ix_list (pv 2) (pv 6) (fun _ _ => rfl)))
      (pss_cons (ps_set (i := 4) sc_law_draws.nd rfl (.inl rfl) (pe_op op_modN (pe_callTy call_int1 rfl T.z_int (by decide +kernel) (pa_cons (pe_op op_add (pe_op op_add (pe_op op_add (pe_op op_mul (pv 4) pe_int) (pe_op op_mul (pe_op op_modN (pe_callTy call_int1 rfl T.z_int (by decide +kernel) (pa_cons (pv 7) pa_nil)) pe_int) pe_int)) (pe_op op_mul (pv 5) pe_int)) pe_int) pa_nil)) pe_int))
      (pss_cons (ps_set (i := 8) sc_law_draws.nd rfl (.inl rfl) (pe_op op_modN (pe_callTy call_int1 rfl T.z_int (by decide +kernel) (pa_cons (pe_op op_add (pe_op op_add (pe_op op_mul (pv 4) (pv 4)) (pe_op op_mul pe_int (pv 4))) (pv 5)) pa_nil)) pe_int))
      (pss_one (ps_if (pt_cmpR op_ge (pv 7) (pe_op op_pow pe_int pe_int) (nomark _)) (pss_cons (ps_expr (pe_bm PySem.F.plainAttrs_list PySem.F.slot_list_append PySem.F.type_list_append mt_append (pv 3) (pa_cons (pe_op op_modN (pe_callTy call_int1 rfl T.z_int (by decide +kernel) (pa_cons (pv 7) pa_nil)) pe_int) pa_nil)))
      (pss_one (ps_asg (pe_op op_fdivN (pv 7) pe_int) (pg_sub (pv 2) (pv 6) set_list)))) (pss_one (ps_expr (pe_bm PySem.F.plainAttrs_list PySem.F.slot_list_append PySem.F.type_list_append mt_append (pv 3) (pa_cons (pe_op op_modN (pe_callTy call_int1 rfl T.z_int (by decide +kernel) (pa_cons (pv 8) pa_nil)) pe_int) pa_nil)))))))))))
      (pss_cons (ps_expr (pe_bm0 PySem.F.plainAttrs_list PySem.F.slot_list_reverse PySem.F.type_list_reverse mt_reverse (pv 3)))
      (pss_one (ps_ret (pv 3))))))))), ?_⟩
    refine ⟨.ref a, rfl, a, _, rfl, .inl hS, fun ca hca => ?_⟩
    have s1 := Same.new (o := .lst (ns.map V.int)) hca
    refine ⟨.ref ca, rfl, ca, _, rfl, .inl (SqL.of upd_same), rfl, _, rfl, ?_⟩
    have fresh : H ca = none := hca
    have goal : ∀ (cb : Addr) (cs : List Int) (G0 : Hp), Same H G0 → H cb = none → G0 cb = some (.lst (cs.map V.int)) → cs ≠ [] → cs.length ≤ 63 → True := fun _ _ _ _ _ _ _ _ => trivial
    refine ite2 (fun c => ?_) (fun c => ?_)
    · refine ⟨by show 1 ≤ sizeLine; decide, fun cb hcb => ?_⟩
      have s2 := Same.new (o := .lst [V.int 7]) hcb
      have sG0 := s1.trans s2
      have hcb0 := s1.free hcb
      have gcb : (upd (upd H ca (.lst (ns.map V.int))) cb (.lst [V.int 7])) cb = some (.lst (([7] : List Int).map V.int)) := upd_same
      generalize upd (upd H ca (.lst (ns.map V.int))) cb (.lst [V.int 7]) = G0 at sG0 gcb
      have hne : ([7] : List Int) ≠ [] := by simp
      have hl63 : ([7] : List Int).length ≤ 63 := by decide
      generalize ([7] : List Int) = cs at gcb hne hl63
      clear s2 s1 hca fresh hcb c goal hlen hS
      refine ⟨Nat.zero_le _, fun fa hfa => ?_⟩
      have s3 := Same.new (o := .lst []) hfa
      have hfa0 := sG0.free hfa
      have fcb : fa ≠ cb := fun e => by rw [e, gcb] at hfa; cases hfa
      refine ⟨.int c, rfl, c, rfl, by omega, by omega, ?_⟩
      refine for_range (lo := 0) (n := c.toNat) (fun i σ G => ∃ (cs' ds : List Int) (m : Int) (y5 y6 y7 y8 : Option V), σ = [some (.ref a), some (.int c), some (.ref cb), some (.ref fa), some (.int m), y5, y6, y7, y8] ∧ Same H G ∧
          G cb = some (.lst (cs'.map V.int)) ∧ cs'.length = cs.length ∧ G fa = some (.lst (ds.map V.int)) ∧ ds.length = i ∧ 0 ≤ m ∧ m < 2147483647)
        ⟨cs, [], 12345, none, none, none, none, rfl, sG0.trans s3, s3 _ _ gcb, rfl, upd_same, rfl, by decide, by decide⟩ ?_ ?_
      · rintro i σ G hi ⟨cs', ds, m, y5, y6, y7, y8, rfl, sG, gc, lc, gf, ld, m0, m1⟩
        have hic : (i : Int) < c := by omega
        rw [Int.zero_add]
        have lpos : 0 < cs'.length := by rw [lc]; exact List.length_pos_iff.mpr hne
        have lmap : ((cs'.map V.int).length : Int) = (cs'.length : Int) := by rw [List.length_map]
        -- j = k % len(cells)
        refine ⟨.int (i : Nat), rfl, .ref cb, rfl, cb, _, rfl, .inl (SqL.of gc), _, _, rfl, rfl, by rw [lmap]; omega, ?_⟩
        rw [lmap]
        have hj := fmod_in (a := (i : Int)) (b := (cs'.length : Int)) (by omega)
        obtain ⟨j, hJ⟩ : ∃ j : Nat, (i : Int).fmod (cs'.length : Int) = (j : Int) := ⟨((i : Int).fmod (cs'.length : Int)).toNat, by omega⟩
        rw [hJ] at hj
        have hjl : j < cs'.length := by omega
        obtain ⟨x, hx⟩ : ∃ x, cs'[j]? = some x := ⟨cs'[j], by simp [hjl]⟩
        -- cell = cells[j]
        refine ⟨.ref cb, rfl, _, rfl, cb, _, _, .int x, rfl, rfl, SqL.of gc, by rw [hJ]; exact atI_nat (j := j) (by rw [List.getElem?_map, hx]; rfl), ?_⟩
        -- mixed
        have x3 := fmod_in (a := x) (b := 1000003) (by decide)
        refine ⟨.int m, rfl, m, 48271, rfl, rfl, .inl (sq_small m0 m1), .int x, rfl, .inl ⟨x, rfl, x, 1000003, rfl, rfl, nz3, x.fmod 1000003, 69621, rfl, rfl, .inl ⟨by omega, by omega⟩, _, _, rfl, rfl, .int (i : Nat), rfl, (i : Int), 7919, rfl, rfl, .inl ⟨by omega, by omega⟩, _, _, rfl, rfl, _, 11, rfl, rfl, .inl ⟨_, rfl, _, 2147483647, rfl, rfl, nz2, ?_⟩⟩⟩
        have mm := fmod_in (a := m * 48271 + x.fmod 1000003 * 69621 + (i : Int) * 7919 + 11) (b := 2147483647) (by decide)
        -- again
        refine ⟨_, rfl, _, rfl, _, _, rfl, rfl, .inl (sq_small mm.1 mm.2), _, rfl, 31, _, rfl, rfl, .inl ⟨by decide, by decide⟩, _, _, rfl, rfl, _, rfl, _, _, rfl, rfl, .inl ⟨_, rfl, _, 1000003, rfl, rfl, nz3, ?_⟩⟩
        -- if cell >= 10 ** 18
        refine ⟨.int x, rfl, 10, 18, rfl, rfl, ⟨by decide, by decide, by decide⟩, _, _, rfl, rfl, _, rfl, ite2 (fun _ => ?_) (fun _ => ?_)⟩
        · refine ⟨.ref fa, rfl, .inl ⟨rfl, _, SqL.of gf⟩, .int x, rfl, .inl ⟨x, rfl, x, 1000, rfl, rfl, nz1, fa, _, _, rfl, rfl, gf, by rw [List.length_map]; exact small1000 (by omega), ?_⟩⟩
          have gc2 : (upd G fa (.lst (ds.map V.int ++ [V.int (x.fmod 1000)]))) cb = some (.lst (cs'.map V.int)) := by rw [upd_ne fcb.symm]; exact gc
          refine ⟨.int x, rfl, x, 1000, rfl, rfl, ⟨by decide, by decide⟩, .ref cb, rfl, _, rfl, cb, _, _, j, rfl, rfl, gc2, by rw [hJ]; unfold ixN; rw [if_pos (by omega), if_pos (by rw [List.length_map]; omega), Int.toNat_natCast], ?_⟩
          refine ⟨cs'.set j (x.fdiv 1000), ds ++ [x.fmod 1000], _, _, _, _, _, rfl, fun b o e => ?_, ?_, by rw [List.length_set]; exact lc, ?_, by rw [List.length_append, ld]; rfl, mm.1, mm.2⟩
          · rw [upd_ne (ne_of_none e hcb0), upd_ne (ne_of_none e hfa0)]
            exact sG b o e
          · rw [upd_same, List.map_set]
          · rw [upd_ne fcb, upd_same, List.map_append]
            rfl
        · refine ⟨.ref fa, rfl, .inl ⟨rfl, _, SqL.of gf⟩, _, rfl, .inl ⟨_, rfl, _, 1000, rfl, rfl, nz1, fa, _, _, rfl, rfl, gf, by rw [List.length_map]; exact small1000 (by omega), ?_⟩⟩
          obtain ⟨ag, hag⟩ : ∃ ag : Int, ag = (((m * 48271 + x.fmod 1000003 * 69621 + (i : Int) * 7919 + 11).fmod 2147483647 * (m * 48271 + x.fmod 1000003 * 69621 + (i : Int) * 7919 + 11).fmod 2147483647 + 31 * (m * 48271 + x.fmod 1000003 * 69621 + (i : Int) * 7919 + 11).fmod 2147483647 + (i : Int)).fmod 1000003).fmod 1000 := ⟨_, rfl⟩
          refine ⟨cs', ds ++ [ag], _, _, _, _, _, rfl, fun b o e => ?_, ?_, lc, ?_, by rw [List.length_append, ld]; rfl, mm.1, mm.2⟩
          · rw [upd_ne (ne_of_none e hfa0)]
            exact sG b o e
          · rw [upd_ne fcb.symm]
            exact gc
          · rw [upd_same, List.map_append, hag]
            rfl
      · rintro σ G ⟨cs', ds, m, y5, y6, y7, y8, rfl, sG, gc, lc, gf, ld, m0, m1⟩
        refine ⟨.ref fa, rfl, .inl ⟨rfl, _, SqL.of gf⟩, fa, _, rfl, rfl, gf, .ref fa, rfl, ?_⟩
        refine k fa _ (fun b o e => ?_) hfa0 ⟨ds.reverse, by rw [upd_same, List.map_reverse]⟩
        rw [upd_ne (ne_of_none e hfa0)]
        exact sG b o e
    · have hne : ns ≠ [] := fun e => c (decide_eq_true (by rw [e]; rfl))
      have sG0 := s1
      have hcb0 := fresh
      have gcb : (upd H ca (.lst (ns.map V.int))) ca = some (.lst (ns.map V.int)) := upd_same
      generalize upd H ca (.lst (ns.map V.int)) = G0 at sG0 gcb
      have hl63 := hlen
      clear s1 hca fresh c goal hlen hS
      obtain ⟨cb, ecb⟩ : ∃ cb : Addr, cb = ca := ⟨_, rfl⟩
      obtain ⟨cs, ecs⟩ : ∃ cs : List Int, cs = ns := ⟨_, rfl⟩
      subst ecb
      subst ecs
      refine ⟨Nat.zero_le _, fun fa hfa => ?_⟩
      have s3 := Same.new (o := .lst []) hfa
      have hfa0 := sG0.free hfa
      have fcb : fa ≠ cb := fun e => by rw [e, gcb] at hfa; cases hfa
      refine ⟨.int c, rfl, c, rfl, by omega, by omega, ?_⟩
      refine for_range (lo := 0) (n := c.toNat) (fun i σ G => ∃ (cs' ds : List Int) (m : Int) (y5 y6 y7 y8 : Option V), σ = [some (.ref a), some (.int c), some (.ref cb), some (.ref fa), some (.int m), y5, y6, y7, y8] ∧ Same H G ∧
          G cb = some (.lst (cs'.map V.int)) ∧ cs'.length = cs.length ∧ G fa = some (.lst (ds.map V.int)) ∧ ds.length = i ∧ 0 ≤ m ∧ m < 2147483647)
        ⟨cs, [], 12345, none, none, none, none, rfl, sG0.trans s3, s3 _ _ gcb, rfl, upd_same, rfl, by decide, by decide⟩ ?_ ?_
      · rintro i σ G hi ⟨cs', ds, m, y5, y6, y7, y8, rfl, sG, gc, lc, gf, ld, m0, m1⟩
        have hic : (i : Int) < c := by omega
        rw [Int.zero_add]
        have lpos : 0 < cs'.length := by rw [lc]; exact List.length_pos_iff.mpr hne
        have lmap : ((cs'.map V.int).length : Int) = (cs'.length : Int) := by rw [List.length_map]
        -- j = k % len(cells)
        refine ⟨.int (i : Nat), rfl, .ref cb, rfl, cb, _, rfl, .inl (SqL.of gc), _, _, rfl, rfl, by rw [lmap]; omega, ?_⟩
        rw [lmap]
        have hj := fmod_in (a := (i : Int)) (b := (cs'.length : Int)) (by omega)
        obtain ⟨j, hJ⟩ : ∃ j : Nat, (i : Int).fmod (cs'.length : Int) = (j : Int) := ⟨((i : Int).fmod (cs'.length : Int)).toNat, by omega⟩
        rw [hJ] at hj
        have hjl : j < cs'.length := by omega
        obtain ⟨x, hx⟩ : ∃ x, cs'[j]? = some x := ⟨cs'[j], by simp [hjl]⟩
        -- cell = cells[j]
        refine ⟨.ref cb, rfl, _, rfl, cb, _, _, .int x, rfl, rfl, SqL.of gc, by rw [hJ]; exact atI_nat (j := j) (by rw [List.getElem?_map, hx]; rfl), ?_⟩
        -- mixed
        have x3 := fmod_in (a := x) (b := 1000003) (by decide)
        refine ⟨.int m, rfl, m, 48271, rfl, rfl, .inl (sq_small m0 m1), .int x, rfl, .inl ⟨x, rfl, x, 1000003, rfl, rfl, nz3, x.fmod 1000003, 69621, rfl, rfl, .inl ⟨by omega, by omega⟩, _, _, rfl, rfl, .int (i : Nat), rfl, (i : Int), 7919, rfl, rfl, .inl ⟨by omega, by omega⟩, _, _, rfl, rfl, _, 11, rfl, rfl, .inl ⟨_, rfl, _, 2147483647, rfl, rfl, nz2, ?_⟩⟩⟩
        have mm := fmod_in (a := m * 48271 + x.fmod 1000003 * 69621 + (i : Int) * 7919 + 11) (b := 2147483647) (by decide)
        -- again
        refine ⟨_, rfl, _, rfl, _, _, rfl, rfl, .inl (sq_small mm.1 mm.2), _, rfl, 31, _, rfl, rfl, .inl ⟨by decide, by decide⟩, _, _, rfl, rfl, _, rfl, _, _, rfl, rfl, .inl ⟨_, rfl, _, 1000003, rfl, rfl, nz3, ?_⟩⟩
        -- if cell >= 10 ** 18
        refine ⟨.int x, rfl, 10, 18, rfl, rfl, ⟨by decide, by decide, by decide⟩, _, _, rfl, rfl, _, rfl, ite2 (fun _ => ?_) (fun _ => ?_)⟩
        · refine ⟨.ref fa, rfl, .inl ⟨rfl, _, SqL.of gf⟩, .int x, rfl, .inl ⟨x, rfl, x, 1000, rfl, rfl, nz1, fa, _, _, rfl, rfl, gf, by rw [List.length_map]; exact small1000 (by omega), ?_⟩⟩
          have gc2 : (upd G fa (.lst (ds.map V.int ++ [V.int (x.fmod 1000)]))) cb = some (.lst (cs'.map V.int)) := by rw [upd_ne fcb.symm]; exact gc
          refine ⟨.int x, rfl, x, 1000, rfl, rfl, ⟨by decide, by decide⟩, .ref cb, rfl, _, rfl, cb, _, _, j, rfl, rfl, gc2, by rw [hJ]; unfold ixN; rw [if_pos (by omega), if_pos (by rw [List.length_map]; omega), Int.toNat_natCast], ?_⟩
          refine ⟨cs'.set j (x.fdiv 1000), ds ++ [x.fmod 1000], _, _, _, _, _, rfl, fun b o e => ?_, ?_, by rw [List.length_set]; exact lc, ?_, by rw [List.length_append, ld]; rfl, mm.1, mm.2⟩
          · rw [upd_ne (ne_of_none e hcb0), upd_ne (ne_of_none e hfa0)]
            exact sG b o e
          · rw [upd_same, List.map_set]
          · rw [upd_ne fcb, upd_same, List.map_append]
            rfl
        · refine ⟨.ref fa, rfl, .inl ⟨rfl, _, SqL.of gf⟩, _, rfl, .inl ⟨_, rfl, _, 1000, rfl, rfl, nz1, fa, _, _, rfl, rfl, gf, by rw [List.length_map]; exact small1000 (by omega), ?_⟩⟩
          obtain ⟨ag, hag⟩ : ∃ ag : Int, ag = (((m * 48271 + x.fmod 1000003 * 69621 + (i : Int) * 7919 + 11).fmod 2147483647 * (m * 48271 + x.fmod 1000003 * 69621 + (i : Int) * 7919 + 11).fmod 2147483647 + 31 * (m * 48271 + x.fmod 1000003 * 69621 + (i : Int) * 7919 + 11).fmod 2147483647 + (i : Int)).fmod 1000003).fmod 1000 := ⟨_, rfl⟩
          refine ⟨cs', ds ++ [ag], _, _, _, _, _, rfl, fun b o e => ?_, ?_, lc, ?_, by rw [List.length_append, ld]; rfl, mm.1, mm.2⟩
          · rw [upd_ne (ne_of_none e hfa0)]
            exact sG b o e
          · rw [upd_ne fcb.symm]
            exact gc
          · rw [upd_same, List.map_append, hag]
            rfl
      · rintro σ G ⟨cs', ds, m, y5, y6, y7, y8, rfl, sG, gc, lc, gf, ld, m0, m1⟩
        refine ⟨.ref fa, rfl, .inl ⟨rfl, _, SqL.of gf⟩, fa, _, rfl, rfl, gf, .ref fa, rfl, ?_⟩
        refine k fa _ (fun b o e => ?_) hfa0 ⟨ds.reverse, by rw [upd_same, List.map_reverse]⟩
        rw [upd_ne (ne_of_none e hfa0)]
        exact sG b o e
/-! ### one draw -/
def spTake : Sp := fun vs H Q _ => ∃ (d : Addr) (lim : Int), vs = [.ref d, .int lim] ∧ Draws H d ∧ 0 < lim ∧ ∀ v H', 0 ≤ v → v < lim → But d H H' → Draws H' d → Q (.int v) H'
theorem ok_law_take {f : Addr} {fd : FuncData} (FF : Fun K "_law_take" "_law_take" s_law_take f fd) (T : Txt K mg C J B) : FnOk P w K mg base CX0 1 f fd a_law_take spTake := by
  refine FF.ok sc_law_take (fun vs H Q E h => ?_) (fun cdv A outer s H vs Q E hr h => ?_)
  · obtain ⟨d, lim, rfl, _⟩ := h
    rfl
  · obtain ⟨d, lim, rfl, ⟨ds, hd⟩, hl, k⟩ := h
    refine ⟨_, (pss_cons (ps_if (pt_cmpR op_eq (pe_callB call_len_seq rfl T.z_len (by decide +kernel) (pa_cons (pv 0) pa_nil)) pe_int (nomark _)) (pss_one (ps_ret pe_int)) pss_nil)
      (pss_one (ps_ret (pe_op op_modN (pe_callTy call_int1 rfl T.z_int (by decide +kernel) (pa_cons (pe_bm0 PySem.F.plainAttrs_list PySem.F.slot_list_pop PySem.F.type_list_pop mt_pop (pv 0)) pa_nil)) (pv 1))))), ?_⟩
    refine ⟨.ref d, rfl, d, _, rfl, .inl (SqL.of hd), rfl, _, rfl, ite2 (fun c => ?_) (fun c => ?_)⟩
    · exact k 0 H (Int.le_refl 0) hl (But.refl _ _) ⟨ds, hd⟩
    · have ne : ds ≠ [] := fun e => c (decide_eq_true (by rw [e]; rfl))
      obtain ⟨l, x, rfl⟩ : ∃ l x, ds = l ++ [x] := ⟨ds.dropLast, ds.getLast ne, (List.dropLast_concat_getLast ne).symm⟩
      refine ⟨.ref d, rfl, .inl ⟨rfl, _, SqL.of hd⟩, d, _, .int x, rfl, rfl, hd, by simp, .inl ⟨x, rfl, ?_⟩⟩
      have := fmod_in (a := x) hl
      refine ⟨.int lim, rfl, x, lim, rfl, rfl, by omega, ?_⟩
      refine k _ _ this.1 this.2 (fun b o nb e => by rw [upd_ne nb]; exact e) ⟨l, ?_⟩
      rw [upd_same]
      simp
/-! ### the statements in one -/
def spInner (K : PySem.W.Frag) : Sp := fun vs H Q _ => ∃ (v : V) (t : F), vs = [v] ∧ IsF K H v t ∧ ∀ l ks H', Same H H' → H' l = some (.lst ks) → AllF K H' ks t.kids → Q (.ref l) H'
theorem cut_one (xs : List V) : cutV xs (some 1) none = xs.drop 1 := by
  unfold cutV
  rw [show HT.sIx xs.length 0 (some 1) = min 1 xs.length from HT.sIx_nat _ _ 1, HT.sIx_none]
  rcases Nat.le_total 1 xs.length with h | h
  · rw [Nat.min_eq_left h, List.take_of_length_le (by rw [List.length_drop]; exact Nat.le_refl _)]
  · rw [Nat.min_eq_right h, List.drop_length, List.drop_eq_nil_of_le h]
    simp
theorem ok_law_inner {f : Addr} {fd : FuncData} (FF : Fun K "_law_inner" "_law_inner" s_law_inner f fd) (T : Txt K mg C J B) : FnOk P w K mg base CX0 1 f fd a_law_inner (spInner K) := by
  refine FF.ok sc_law_inner (fun vs H Q E h => ?_) (fun cdv A outer s H vs Q E hr h => ?_)
  · obtain ⟨v, t, rfl, _⟩ := h
    rfl
  · obtain ⟨v, t, rfl, ht, k⟩ := h
    obtain ⟨a, ks, rfl, sq, ak⟩ := ht.open
    refine ⟨_, (pss_one (ps_ret (pe_lc (own := [("part", 1)]) (g := gName 1) rfl sc_law_inner.nd (pi_tup (pe_slice sl_tupA (pv 0) (po_some pe_int) po_none)) (blkOk_by (own := [("part", 1)]) (N := n_law_inner) (sc := defScope s_law_inner) (by decide +kernel)) (fun _ _ _ _ _ => (pg_name (i := 1) sc_law_inner.nd rfl (.inl rfl))) (fun _ _ _ _ _ => (pts_one (pt_val (pe_callB (@id (CallR _ _ (rIsi K)) call_isi) rfl T.z_isinstance (by decide +kernel) (pa_cons (pv 1) (pa_cons (pe_bltn (v := .ty "tuple") (u := .type "tuple") rfl T.z_tuple (by decide +kernel) rfl) pa_nil)))))) (fun _ _ _ _ _ => (pv 1))))), ?_⟩
    have hl := hv_len t.hd
    refine ⟨.ref a, rfl, 1, rfl, a, _, rfl, sq, fun whole => ?_, fun _ z hz => ?_⟩
    · exfalso
      rw [show HT.sIx (hv t.hd ++ ks).length 0 (some 1) = min 1 (hv t.hd ++ ks).length from HT.sIx_nat _ _ 1, List.length_append] at whole
      omega
    rw [cut_one]
    have s1 := Same.new (o := .tup ((hv t.hd ++ ks).drop 1)) hz
    have zT : SqT K (upd H z (.tup ((hv t.hd ++ ks).drop 1))) z ((hv t.hd ++ ks).drop 1) := SqT.of upd_same
    generalize upd H z (.tup ((hv t.hd ++ ks).drop 1)) = H1 at s1 zT
    have ak1 := ak.lk (LKp.same s1)
    -- the numbers ahead of the statements
    obtain ⟨ns, hns, nsi⟩ : ∃ ns : List V, (hv t.hd ++ ks).drop 1 = ns ++ ks ∧ ∀ x ∈ ns, ∃ n, x = V.int n := by
      cases t with
      | nul b => exact ⟨[], rfl, by simp⟩
      | leaf k n => exact ⟨[.int n], rfl, by simp⟩
      | two b f g => exact ⟨[], rfl, by simp⟩
      | one k n f => exact ⟨[.int n], rfl, by simp⟩
    rw [hns] at zT
    refine ⟨z, rfl, ⟨_, zT⟩, fun D hD => ?_⟩
    refine lc_tup (xs := ns ++ ks) (fun i G => Same H1 G ∧ G D = some (.lst ((ns ++ ks).take i |>.drop ns.length))) ⟨Same.new hD, by rw [upd_same]; simp⟩ (fun i G _ q => SqT.same q.1 zT) ?_ ?_
    · rintro i x G hx ⟨sG, gD⟩
      have nd : ∀ b o, H1 b = some o → b ≠ D := fun b o e => ne_of_none e hD
      have e1 : (ns ++ ks).take (i + 1) = (ns ++ ks).take i ++ [x] := by
        rw [List.take_add_one, hx]
        rfl
      have il := (List.getElem?_eq_some_iff.mp hx).1
      rw [List.length_append] at il
      by_cases lt : i < ns.length
      · obtain ⟨n, rfl⟩ := nsi x (by rw [List.getElem?_append_left lt] at hx; exact List.mem_of_getElem? hx)
        refine ⟨rfl, .int n, rfl, .int n, .ty "tuple", .type "int", .type "tuple", false, rfl, ?_, .base (.int n), kit_ty (by decide +kernel), false, rfl, ?_⟩
        · exact .ty "tuple"
        · refine ⟨sG, ?_⟩
          rw [gD, e1, List.drop_append, List.drop_eq_nil_of_le (by rw [List.length_take]; omega), List.length_take, List.nil_append, List.drop_eq_nil_of_le (by simp; omega)]
      · obtain ⟨f, hf⟩ : ∃ f, t.kids[i - ns.length]? = some f := ⟨t.kids[i - ns.length]'(by rw [← ak.len]; omega), by simp⟩
        have ty := (ak1.get (by rw [List.getElem?_append_right (by omega)] at hx; exact hx) hf).lk (LKp.same sG) |>.ty
        refine ⟨rfl, x, rfl, x, .ty "tuple", .type "tuple", .type "tuple", true, rfl, .ty "tuple", ty, kit_ty (by decide +kernel), true, rfl, ?_⟩
        refine ⟨x, rfl, _, gD, ?_, ?_⟩
        · have := F.kids_le t
          have := ak.len
          rw [List.length_drop, List.length_take, List.length_append]
          exact small1000 (by omega)
        · refine ⟨fun b o e => by rw [upd_ne (nd b o e)]; exact sG b o e, ?_⟩
          rw [upd_same, e1, List.drop_append, List.length_take, List.length_append]
          congr 2
          rw [show ns.length - min i (ns.length + ks.length) = 0 by omega]
          rfl
    · rintro G ⟨sG, gD⟩
      refine k D ks G (s1.trans sG) ?_ (ak1.lk (LKp.same sG))
      rw [gD, List.take_of_length_le (Nat.le_refl _), List.drop_left]
end
end Fw

set_option maxRecDepth 100000
set_option maxHeartbeats 2000000
namespace Fw
open PySem PySem.Spec PyProof.Rows L2
theorem iteF_out {A B : Prop} (h : if false = true then A else B) : B := by
  rw [if_neg Bool.false_ne_true] at h
  exact h
theorem iteT_out {A B : Prop} (h : if true = true then A else B) : A := by
  rw [if_pos rfl] at h
  exact h
theorem Draws.but {d : Addr} {H H' : Hp} (s : ∀ o, H d = some o → H' d = some o) (h : Draws H d) : Draws H' d := by
  obtain ⟨ds, e⟩ := h
  exact ⟨ds, s _ e⟩
theorem Draws.same {d : Addr} {H H' : Hp} (s : Same H H') (h : Draws H d) : Draws H' d := h.but fun o e => s d o e
theorem SqL.but {K : PySem.W.Frag} {H H' : Hp} {a d : Addr} {xs : List V} (n : a ≠ d) (s : But d H H') (h : SqL K H a xs) : SqL K H' a xs := SqL.keepAt (fun o e => s a o n e) h
theorem two_at {α : Type} {x y : α} {v : Int} (h0 : 0 ≤ v) (h2 : v < 2) : ∃ b : Bool, atI [x, y] v = some (if b = true then x else y) := by
  have : v = 0 ∨ v = 1 := by omega
  rcases this with rfl | rfl
  · exact ⟨true, rfl⟩
  · exact ⟨false, rfl⟩
section
variable {P : Program} {w : World} {K : PySem.W.Frag} {mg : Str → Option Value} {base : Heap} {C J B NC FE : Addr}
def spAtom (K : PySem.W.Frag) : Sp := fun vs H Q _ => ∃ (d ra : Addr) (R : List Int), vs = [.ref d, .ref ra] ∧ Draws H d ∧ SqL K H ra (R.map V.int) ∧ ra ≠ d ∧ R.length ≤ 100 ∧ (∀ x ∈ R, x ∈ V4) ∧
  ∀ v t H', But d H H' → Draws H' d → IsF K H' v t → Gen 0 [] R t → Q v H'
theorem ok_law_atom {f : Addr} {fd : FuncData} (FF : Fun K "_law_atom" "_law_atom" s_law_atom f fd) (T : Txt K mg C J B) (h_law_take : Has P w K mg base "_law_take" 1 a_law_take spTake) : FnOk P w K mg base CX0 2 f fd a_law_atom (spAtom K) := by
  refine FF.ok sc_law_atom (fun vs H Q E h => ?_) (fun cdv A outer s H vs Q E hr h => ?_)
  · obtain ⟨d, ra, R, rfl, _⟩ := h
    rfl
  · obtain ⟨d, ra, R, rfl, hd, hR, nrd, hlen, hV, k⟩ := h
    refine ⟨_, (pss_cons (ps_set (i := 2) sc_law_atom.nd rfl (.inl rfl) (pe_callH h_law_take (hr.mono (by omega)) (pa_cons (pv 0) (pa_cons pe_int pa_nil))))
      (pss_cons (ps_if (PW.pt (pw_and (pt_cmpR op_gt (pe_callB call_len_seq rfl T.z_len (by decide +kernel) (pa_cons (pv 1) pa_nil)) pe_int (nomark _)) (pw_and1 (pt_cmpR op_lt (pv 2) pe_int (nomark _))))) (pss_one (ps_ret (pe_tup (pa_cons pe_str (pa_cons (pe_ix ix_list (pv 1) (pe_callH h_law_take (hr.mono (by omega)) (pa_cons (pv 0) (pa_cons (pe_callB call_len_seq rfl T.z_len (by decide +kernel) (pa_cons (pv 1) pa_nil)) pa_nil))) (fun _ _ => rfl)) pa_nil))))) pss_nil)
      (pss_cons (ps_if (pt_cmpR op_eq (pv 2) pe_int (nomark _)) (pss_one (ps_ret (pe_ix ix_list (pe_lst (pa_cons (pe_tup (pa_cons pe_str pa_nil)) (pa_cons (pe_tup (pa_cons pe_str pa_nil)) pa_nil))) (pe_callH h_law_take (hr.mono (by omega)) (pa_cons (pv 0) (pa_cons pe_int pa_nil))) (fun _ _ => rfl)))) pss_nil)
      (pss_one (ps_ret (pe_tup (pa_cons (pe_ix ix_list (pe_lst (pa_cons pe_str (pa_cons pe_str pa_nil))) (pe_callH h_law_take (hr.mono (by omega)) (pa_cons (pv 0) (pa_cons pe_int pa_nil))) (fun _ _ => rfl)) (pa_cons (pe_callH h_law_take (hr.mono (by omega)) (pa_cons (pv 0) (pa_cons pe_int pa_nil))) pa_nil)))))))), ?_⟩
    refine ⟨.ref d, rfl, d, 8, rfl, hd, by decide, fun v1 H1 v10 v18 b1 d1 => ?_⟩
    have hR1 := SqL.but nrd b1 hR
    refine ⟨.ref ra, rfl, ra, _, rfl, .inl hR1, _, _, rfl, rfl, _, rfl, ?_⟩
    rw [List.length_map]
    have nR : ∀ b o, H1 b = some o → ∀ q, H1 q = none → b ≠ q := fun b o e q hq => ne_of_none e hq
    refine ite2 (fun c => ?_) (fun c => ?_)
    · refine ⟨.int v1, rfl, _, _, rfl, rfl, _, rfl, ite2 (fun c2 => ?_) (fun c2 => ?_)⟩
      · -- a variable
        have pos : 0 < (R.length : Int) := of_decide_eq_true c
        refine ⟨.ref ra, rfl, .ref d, rfl, .ref ra, rfl, ra, _, rfl, .inl hR1, d, (R.length : Nat), by rw [List.length_map]; rfl, d1, pos, fun v2 H2 v20 v2r b2 d2 => ?_⟩
        have hR2 := SqL.but nrd b2 hR1
        obtain ⟨m, rfl⟩ : ∃ m : Nat, v2 = (m : Int) := ⟨v2.toNat, by omega⟩
        obtain ⟨x, hx⟩ : ∃ x, R[m]? = some x := ⟨R[m]'(by omega), by simp⟩
        refine ⟨ra, _, _, .int x, rfl, rfl, hR2, atI_nat (j := m) (by rw [List.getElem?_map, hx]; rfl), by show 2 ≤ sizeLine; decide, fun p hp => ?_⟩
        have s3 := Same.new (o := .tup [.str "var", .int x]) hp
        have xm := List.mem_of_getElem? hx
        exact k _ (.leaf .var x) _ ((b1.trans b2).trans (Same.but s3)) (d2.same s3) (.leaf (SqT.of upd_same)) ⟨Nat.le_refl 1, hV x xm, fun y hy => .inr (by rw [List.mem_singleton.mp hy]; exact xm)⟩
      · skip
        refine ⟨.int v1, rfl, rfl, _, rfl, ite2 (fun c3 => ?_) (fun c3 => ?_)⟩
        · refine ⟨by show 1 ≤ sizeLine; decide, fun p hp => ⟨by show 1 ≤ sizeLine; decide, fun q hq => ⟨by show 2 ≤ sizeLine; decide, fun l hl => ?_⟩⟩⟩
          have s2 := Same.new (o := .tup [.str "true"]) hp
          have s3 := Same.new (o := .tup [.str "false"]) hq
          have s4 := Same.new (o := .lst [.ref p, .ref q]) hl
          have p4 := s4 _ _ (s3 _ _ (upd_same (H := H1) (a := p) (o := .tup [.str "true"])))
          have q4 := s4 _ _ (upd_same (H := upd H1 p (.tup [.str "true"])) (a := q) (o := .tup [.str "false"]))
          have l4 := upd_same (H := upd (upd H1 p (.tup [.str "true"])) q (.tup [.str "false"])) (a := l) (o := .lst [.ref p, .ref q])
          have s14 := s2.trans (s3.trans s4)
          have ld : l ≠ d := fun e => by
            obtain ⟨ds, e2⟩ := d1
            have := (s2.trans s3) _ _ e2
            rw [← e, hl] at this
            cases this
          refine ⟨.ref d, rfl, d, 2, rfl, d1.same s14, by decide, fun v2 H2 v20 v22 b2 d2 => ?_⟩
          obtain ⟨b, hb⟩ := two_at (x := V.ref p) (y := V.ref q) v20 v22
          have l5 := b2 _ _ ld l4
          have keepT : ∀ (a : Addr) (xs : List V), SqT K _ a xs → SqT K H2 a xs := fun a xs h => SqT.but (d1.same s14).lst b2 h
          refine ⟨l, _, _, _, rfl, rfl, SqL.of l5, hb, ?_⟩
          have B2 := (b1.trans (Same.but s14)).trans b2
          cases b with
          | true => exact k _ (.nul true) _ B2 d2 (.nul (keepT _ _ (SqT.of p4))) ⟨Nat.le_refl 1, trivial, fun y hy => by cases hy⟩
          | false => exact k _ (.nul false) _ B2 d2 (.nul (keepT _ _ (SqT.of q4))) ⟨Nat.le_refl 1, trivial, fun y hy => by cases hy⟩
        · refine ⟨by show 2 ≤ sizeLine; decide, fun l hl => ?_⟩
          have s2 := Same.new (o := .lst [.str "has", .str "lacks"]) hl
          have l2 := upd_same (H := H1) (a := l) (o := .lst [.str "has", .str "lacks"])
          have ld : l ≠ d := fun e => by
            obtain ⟨ds, e2⟩ := d1
            rw [← e, hl] at e2
            cases e2
          refine ⟨.ref d, rfl, d, 2, rfl, d1.same s2, by decide, fun v2 H2 v20 v22 b2 d2 => ?_⟩
          obtain ⟨b, hb⟩ := two_at (x := V.str "has") (y := V.str "lacks") v20 v22
          refine ⟨l, _, _, _, rfl, rfl, SqL.of (b2 _ _ ld l2), hb, ?_⟩
          refine ⟨.ref d, rfl, d, 2, rfl, d2, by decide, fun v3 H3 v30 v32 b3 d3 => ?_⟩
          refine ⟨by show 2 ≤ sizeLine; decide, fun p hp => ?_⟩
          have B3 := ((b1.trans (Same.but s2)).trans b2).trans b3
          cases b with
          | true =>
            have s4 := Same.new (o := .tup [.str "has", .int v3]) hp
            exact k _ (.leaf .has v3) _ (B3.trans (Same.but s4)) (d3.same s4) (.leaf (SqT.of upd_same)) ⟨Nat.le_refl 1, ⟨v30, v32⟩, fun y hy => by cases hy⟩
          | false =>
            have s4 := Same.new (o := .tup [.str "lacks", .int v3]) hp
            exact k _ (.leaf .lacks v3) _ (B3.trans (Same.but s4)) (d3.same s4) (.leaf (SqT.of upd_same)) ⟨Nat.le_refl 1, ⟨v30, v32⟩, fun y hy => by cases hy⟩
    · refine iteF ?_
      refine ⟨.int v1, rfl, rfl, _, rfl, ite2 (fun c3 => ?_) (fun c3 => ?_)⟩
      · refine ⟨by show 1 ≤ sizeLine; decide, fun p hp => ⟨by show 1 ≤ sizeLine; decide, fun q hq => ⟨by show 2 ≤ sizeLine; decide, fun l hl => ?_⟩⟩⟩
        have s2 := Same.new (o := .tup [.str "true"]) hp
        have s3 := Same.new (o := .tup [.str "false"]) hq
        have s4 := Same.new (o := .lst [.ref p, .ref q]) hl
        have p4 := s4 _ _ (s3 _ _ (upd_same (H := H1) (a := p) (o := .tup [.str "true"])))
        have q4 := s4 _ _ (upd_same (H := upd H1 p (.tup [.str "true"])) (a := q) (o := .tup [.str "false"]))
        have l4 := upd_same (H := upd (upd H1 p (.tup [.str "true"])) q (.tup [.str "false"])) (a := l) (o := .lst [.ref p, .ref q])
        have s14 := s2.trans (s3.trans s4)
        have ld : l ≠ d := fun e => by
          obtain ⟨ds, e2⟩ := d1
          have := (s2.trans s3) _ _ e2
          rw [← e, hl] at this
          cases this
        refine ⟨.ref d, rfl, d, 2, rfl, d1.same s14, by decide, fun v2 H2 v20 v22 b2 d2 => ?_⟩
        obtain ⟨b, hb⟩ := two_at (x := V.ref p) (y := V.ref q) v20 v22
        have l5 := b2 _ _ ld l4
        have keepT : ∀ (a : Addr) (xs : List V), SqT K _ a xs → SqT K H2 a xs := fun a xs h => SqT.but (d1.same s14).lst b2 h
        refine ⟨l, _, _, _, rfl, rfl, SqL.of l5, hb, ?_⟩
        have B2 := (b1.trans (Same.but s14)).trans b2
        cases b with
        | true => exact k _ (.nul true) _ B2 d2 (.nul (keepT _ _ (SqT.of p4))) ⟨Nat.le_refl 1, trivial, fun y hy => by cases hy⟩
        | false => exact k _ (.nul false) _ B2 d2 (.nul (keepT _ _ (SqT.of q4))) ⟨Nat.le_refl 1, trivial, fun y hy => by cases hy⟩
      · refine ⟨by show 2 ≤ sizeLine; decide, fun l hl => ?_⟩
        have s2 := Same.new (o := .lst [.str "has", .str "lacks"]) hl
        have l2 := upd_same (H := H1) (a := l) (o := .lst [.str "has", .str "lacks"])
        have ld : l ≠ d := fun e => by
          obtain ⟨ds, e2⟩ := d1
          rw [← e, hl] at e2
          cases e2
        refine ⟨.ref d, rfl, d, 2, rfl, d1.same s2, by decide, fun v2 H2 v20 v22 b2 d2 => ?_⟩
        obtain ⟨b, hb⟩ := two_at (x := V.str "has") (y := V.str "lacks") v20 v22
        refine ⟨l, _, _, _, rfl, rfl, SqL.of (b2 _ _ ld l2), hb, ?_⟩
        refine ⟨.ref d, rfl, d, 2, rfl, d2, by decide, fun v3 H3 v30 v32 b3 d3 => ?_⟩
        refine ⟨by show 2 ≤ sizeLine; decide, fun p hp => ?_⟩
        have B3 := ((b1.trans (Same.but s2)).trans b2).trans b3
        cases b with
        | true =>
          have s4 := Same.new (o := .tup [.str "has", .int v3]) hp
          exact k _ (.leaf .has v3) _ (B3.trans (Same.but s4)) (d3.same s4) (.leaf (SqT.of upd_same)) ⟨Nat.le_refl 1, ⟨v30, v32⟩, fun y hy => by cases hy⟩
        | false =>
          have s4 := Same.new (o := .tup [.str "lacks", .int v3]) hp
          exact k _ (.leaf .lacks v3) _ (B3.trans (Same.but s4)) (d3.same s4) (.leaf (SqT.of upd_same)) ⟨Nat.le_refl 1, ⟨v30, v32⟩, fun y hy => by cases hy⟩
end
end Fw

set_option maxRecDepth 100000
set_option maxHeartbeats 4000000
namespace Fw
open PySem PySem.Spec PyProof.Rows L2
theorem Draws.ne {H : Hp} {d q : Addr} (h : Draws H d) (hq : H q = none) : q ≠ d := fun e => by
  obtain ⟨ds, z⟩ := h
  rw [← e, hq] at z
  cases z
theorem four_at {v : Int} (h0 : 0 ≤ v) (h4 : v < 4) : ∃ x ∈ V4, atI [V.int 0, V.int 1, V.int 2, V.int 7] v = some (.int x) := by
  have : v = 0 ∨ v = 1 ∨ v = 2 ∨ v = 3 := by omega
  rcases this with rfl | rfl | rfl | rfl
  · exact ⟨0, by decide, rfl⟩
  · exact ⟨1, by decide, rfl⟩
  · exact ⟨2, by decide, rfl⟩
  · exact ⟨7, by decide, rfl⟩
theorem V4_nonneg {x : Int} (h : x ∈ V4) : 0 ≤ x ∧ x < 8 := by
  simp only [List.mem_cons, List.not_mem_nil, or_false] at h
  omega
def ofB (b : Bool) : Int := if b = true then 1 else 0
abbrev IL (H : Hp) (a : Addr) (xs : List Int) : Prop := H a = some (.lst (xs.map V.int))
def spS (K : PySem.W.Frag) : Nat → Sp
  | 0 => fun _ _ _ _ => False
  | n + 1 => fun vs H Q _ => ∃ (d wa ra : Addr) (W R : List Int), vs = [.ref d, .int (n : Nat), .ref wa, .ref ra, .bl true] ∧ Draws H d ∧ IL H wa W ∧ IL H ra R ∧ wa ≠ d ∧ ra ≠ d ∧ W.length + R.length + n ≤ 20 ∧ (∀ x ∈ W, x ∈ V4) ∧ (∀ x ∈ R, x ∈ V4) ∧
    ∀ v t H', But d H H' → Draws H' d → IsF K H' v t → Gen n W R t → Q v H'
section
variable {P : Program} {w : World} {K : PySem.W.Frag} {mg : Str → Option Value} {base : Heap} {C J B NC FE : Addr}
theorem ok_law_statement {f : Addr} {fd : FuncData} (n : Nat) (FF : Fun K "_law_statement" "_law_statement" s_law_statement f fd) (T : Txt K mg C J B) (h_law_take : Has P w K mg base "_law_take" 1 a_law_take spTake)
    (h_law_atom : Has P w K mg base "_law_atom" 2 a_law_atom (spAtom K)) (h_law_statement : Has P w K mg base "_law_statement" (n + 2) a_law_statement (spS K n)) : FnOk P w K mg base CX0 (n + 3) f fd a_law_statement (spS K (n + 1)) := by
  refine FF.ok sc_law_statement (fun vs H Q E h => ?_) (fun cdv A outer s H vs Q E hr h => ?_)
  · obtain ⟨d, wa, ra, W, R, rfl, _⟩ := h
    rfl
  · obtain ⟨d, wa, ra, W, R, rfl, hd, hW, hR, nwd, nrd, hsz, hVW, hVR, k⟩ := h
    refine ⟨_, (pss_cons (ps_set (i := 5) sc_law_statement.nd rfl (.inl rfl) (pe_callH h_law_take (hr.mono (by omega)) (pa_cons (pv 0) (pa_cons pe_int pa_nil))))
      (pss_cons (ps_if (PW.pt (pw_or (pt_cmpR op_eq (pv 1) pe_int (nomark _)) (pw_or1 (pt_cmpR op_eq (pv 5) pe_int (nomark _))))) (pss_one (ps_ret (pe_callH h_law_atom (hr.mono (by omega)) (pa_cons (pv 0) (pa_cons (pv 3) pa_nil))))) pss_nil)
      (pss_cons (ps_if (pt_cmpR op_lt (pv 5) pe_int (nomark _)) (pss_cons (ps_set (i := 6) sc_law_statement.nd rfl (.inl rfl) (pe_callH h_law_statement (hr.mono (by omega)) (pa_cons (pv 0) (pa_cons (pe_op op_sub (pv 1) pe_int) (pa_cons (pv 2) (pa_cons (pv 3) (pa_cons (pv 4) pa_nil)))))))
      (pss_one (ps_ret (pe_tup (pa_cons (pe_ix ix_list (pe_lst (pa_cons pe_str (pa_cons pe_str pa_nil))) (pe_callTy call_int1 rfl T.z_int (by decide +kernel) (pa_cons (pe_cmpR op_gt (pv 5) pe_int (nomark _)) pa_nil)) (fun _ _ => rfl)) (pa_cons (pv 6) (pa_cons (pe_callH h_law_statement (hr.mono (by omega)) (pa_cons (pv 0) (pa_cons (pe_op op_sub (pv 1) pe_int) (pa_cons (pv 2) (pa_cons (pv 3) (pa_cons (pv 4) pa_nil)))))) pa_nil))))))) pss_nil)
      (pss_cons (ps_if (pt_cmpR op_lt (pv 5) pe_int (nomark _)) (pss_cons (ps_set (i := 7) sc_law_statement.nd rfl (.inl rfl) (pe_op op_fdivN (pe_callH h_law_take (hr.mono (by omega)) (pa_cons (pv 0) (pa_cons pe_int pa_nil))) pe_int))
      (pss_one (ps_ret (pe_tup (pa_cons (pe_ix ix_list (pe_lst (pa_cons pe_str (pa_cons pe_str pa_nil))) (pe_callH h_law_take (hr.mono (by omega)) (pa_cons (pv 0) (pa_cons pe_int pa_nil))) (fun _ _ => rfl)) (pa_cons (pv 7) (pa_cons (pe_callH h_law_statement (hr.mono (by omega)) (pa_cons (pv 0) (pa_cons (pe_op op_sub (pv 1) pe_int) (pa_cons (pe_lst pa_nil) (pa_cons (pe_op op_cat (pv 3) (pv 2)) (pa_cons (pv 4) pa_nil)))))) pa_nil))))))) pss_nil)
      (pss_cons (ps_set (i := 8) sc_law_statement.nd rfl (.inr rfl) (pe_ix ix_list (pe_lst (pa_cons pe_int (pa_cons pe_int (pa_cons pe_int (pa_cons pe_int pa_nil))))) (pe_callH h_law_take (hr.mono (by omega)) (pa_cons (pv 0) (pa_cons pe_int pa_nil))) (fun _ _ => rfl)))
      (pss_cons (ps_setLc (i := 9) (own := [("other", 11)]) (g := gName 11) rfl sc_law_statement.nd rfl rfl (sw_true rfl rfl rfl (by decide +kernel)) (pi_list (pv 2)) (blkOk_by (own := [("other", 11)]) (N := n_law_statement) (sc := defScope s_law_statement) (by decide +kernel)) (fun _ _ _ _ _ => (pg_name (i := 11) sc_law_statement.nd rfl (.inl rfl))) (fun _ _ _ _ _ => (pts_one (pt_cmpR op_ne (pv 11) (pv 8) (nomark _)))) (fun _ _ _ _ _ => (pv 11)))
      (pss_cons (ps_setLc (i := 10) (own := [("other", 11)]) (g := gName 11) rfl sc_law_statement.nd rfl rfl (sw_true rfl rfl rfl (by decide +kernel)) (pi_list (pv 3)) (blkOk_by (own := [("other", 11)]) (N := n_law_statement) (sc := defScope s_law_statement) (by decide +kernel)) (fun _ _ _ _ _ => (pg_name (i := 11) sc_law_statement.nd rfl (.inl rfl))) (fun _ _ _ _ _ => (pts_one (pt_cmpR op_ne (pv 11) (pv 8) (nomark _)))) (fun _ _ _ _ _ => (pv 11)))
      (pss_cons (ps_if (PW.pt (pw_and (pt_val (pv 4)) (pw_and1 (pt_cmpR op_eq (pe_callH h_law_take (hr.mono (by omega)) (pa_cons (pv 0) (pa_cons pe_int pa_nil))) pe_int (nomark _))))) (pss_one (ps_set (i := 10) sc_law_statement.nd rfl (.inl rfl) (pe_op op_cat (pv 10) (pe_lst (pa_cons (pv 8) pa_nil))))) (pss_one (ps_set (i := 9) sc_law_statement.nd rfl (.inl rfl) (pe_op op_cat (pv 9) (pe_lst (pa_cons (pv 8) pa_nil))))))
      (pss_one (ps_ret (pe_tup (pa_cons (pe_ix ix_list (pe_lst (pa_cons pe_str (pa_cons pe_str pa_nil))) (pe_callH h_law_take (hr.mono (by omega)) (pa_cons (pv 0) (pa_cons pe_int pa_nil))) (fun _ _ => rfl)) (pa_cons (pv 8) (pa_cons (pe_callH h_law_statement (hr.mono (by omega)) (pa_cons (pv 0) (pa_cons (pe_op op_sub (pv 1) pe_int) (pa_cons (pv 9) (pa_cons (pv 10) (pa_cons (pv 4) pa_nil)))))) pa_nil)))))))))))))), ?_⟩
    refine ⟨.ref d, rfl, d, 12, rfl, hd, by decide, fun v1 H1 v10 v112 b1 d1 => ?_⟩
    refine ⟨.int (n : Nat), rfl, rfl, _, rfl, ite2 (fun c => ?_) (fun c => ?_)⟩
    · refine iteT ?_
      refine ⟨.ref d, rfl, .ref ra, rfl, d, ra, R, rfl, d1, SqL.of (b1 _ _ nrd hR), nrd, by omega, hVR, fun v t H2 b2 d2 ht g => ?_⟩
      exact k v t H2 (b1.trans b2) d2 ht ⟨Nat.le_trans g.dep (by omega), g.ok, fun x hx => (g.fr x hx).elim (fun z => by cases z) .inr⟩
    refine ⟨.int v1, rfl, rfl, _, rfl, ite2 (fun c1 => ?_) (fun c1 => ?_)⟩
    · skip
      refine ⟨.ref d, rfl, .ref ra, rfl, d, ra, R, rfl, d1, SqL.of (b1 _ _ nrd hR), nrd, by omega, hVR, fun v t H2 b2 d2 ht g => ?_⟩
      exact k v t H2 (b1.trans b2) d2 ht ⟨Nat.le_trans g.dep (by omega), g.ok, fun x hx => (g.fr x hx).elim (fun z => by cases z) .inr⟩
    obtain ⟨m, rfl⟩ : ∃ m, n = m + 1 := by
      cases n with
      | zero => exact absurd (decide_eq_true rfl) c
      | succ m => exact ⟨m, rfl⟩
    have hW1 := b1 _ _ nwd hW
    have hR1 := b1 _ _ nrd hR
    have em : V.int (((m + 1 : Nat) : Int) - 1) = V.int (m : Nat) := by congr 1; omega
    refine ⟨.int v1, rfl, _, _, rfl, rfl, _, rfl, ite2 (fun c2 => ?_) (fun c2 => ?_)⟩
    · -- and, or
      refine ⟨.ref d, rfl, .int ((m + 1 : Nat) : Int), rfl, _, 1, rfl, rfl, .ref wa, rfl, .ref ra, rfl, .bl true, rfl, d, wa, ra, W, R, by show [V.ref d, V.int (((m + 1 : Nat) : Int) - 1), _, _, _] ++ [] = _; rw [em]; rfl, d1, hW1, hR1, nwd, nrd, by omega, hVW, hVR, fun vf tf H2 b2 d2 hf gf => ?_⟩
      refine ⟨by show 2 ≤ sizeLine; decide, fun l hl => ?_⟩
      have s3 := Same.new (o := .lst [.str "and", .str "or"]) hl
      have l3 := upd_same (H := H2) (a := l) (o := .lst [.str "and", .str "or"])
      have hW3 := s3 _ _ (b2 _ _ nwd hW1)
      have hR3 := s3 _ _ (b2 _ _ nrd hR1)
      have b3 := b1.trans (b2.trans (Same.but s3))
      have d3 := d2.same s3
      have hf3 := hf.same s3
      have word : ∃ b : Bool, atI [V.str "and", V.str "or"] (if decide (2 < v1) = true then 1 else 0) = some (.str (wT b)) := by
        by_cases q : 2 < v1
        · exact ⟨false, by rw [if_pos (decide_eq_true q)]; rfl⟩
        · exact ⟨true, by rw [if_neg (by rw [decide_eq_false q]; exact Bool.false_ne_true)]; rfl⟩
      obtain ⟨b, hb⟩ := word
      refine ⟨.int v1, rfl, _, _, rfl, rfl, .inr ⟨_, rfl, l, _, _, _, rfl, rfl, SqL.of l3, hb, ?_⟩⟩
      refine ⟨vf, rfl, ?_⟩
      refine ⟨.ref d, rfl, .int ((m + 1 : Nat) : Int), rfl, _, 1, rfl, rfl, .ref wa, rfl, .ref ra, rfl, .bl true, rfl, d, wa, ra, W, R, by show [V.ref d, V.int (((m + 1 : Nat) : Int) - 1), _, _, _] ++ [] = _; rw [em]; rfl, d3, hW3, hR3, nwd, nrd, by omega, hVW, hVR, fun vg tg H4 b4 d4 hg gg => ?_⟩
      refine ⟨by show 3 ≤ sizeLine; decide, fun p hp => ?_⟩
      have s5 := Same.new (o := .tup [.str (wT b), vf, vg]) hp
      refine k _ (.two b tf tg) _ ((b3.trans b4).trans (Same.but s5)) (d4.same s5) (.two (SqT.of upd_same) ((hf3.but d3.lst b4).same s5) (hg.same s5)) ⟨by show max tf.depth tg.depth + 1 ≤ _; have := gf.dep; have := gg.dep; omega, ⟨gf.ok, gg.ok⟩, fun y hy => ?_⟩
      rcases List.mem_append.mp (show y ∈ fv tf ++ fv tg from hy) with z | z
      · exact gf.fr y z
      · exact gg.fr y z
    refine ⟨.int v1, rfl, _, _, rfl, rfl, _, rfl, ite2 (fun c3 => ?_) (fun c3 => ?_)⟩
    · -- some, all
      refine ⟨.ref d, rfl, d, 3, rfl, d1, by decide, fun v2 H2 v20 v23 b2 d2 => ⟨v2, 2, rfl, rfl, ⟨by decide, by decide⟩, ?_⟩⟩
      have lab : 0 ≤ v2.fdiv 2 ∧ v2.fdiv 2 < 2 := by
        have : v2 = 0 ∨ v2 = 1 ∨ v2 = 2 := by omega
        rcases this with rfl | rfl | rfl <;> decide
      refine ⟨by show 2 ≤ sizeLine; decide, fun l hl => ?_⟩
      have s3 := Same.new (o := .lst [.str "some", .str "all"]) hl
      have l3 := upd_same (H := H2) (a := l) (o := .lst [.str "some", .str "all"])
      have ld := d2.ne hl
      refine ⟨.ref d, rfl, d, 2, rfl, d2.same s3, by decide, fun v4 H4 v40 v42 b4 d4 => ?_⟩
      obtain ⟨b, hb⟩ := two_at (x := V.str "some") (y := V.str "all") v40 v42
      refine ⟨l, _, _, _, rfl, rfl, SqL.of (b4 _ _ ld l3), hb, _, rfl, ?_⟩
      have hW4 := b4 _ _ nwd (s3 _ _ (b2 _ _ nwd hW1))
      have hR4 := b4 _ _ nrd (s3 _ _ (b2 _ _ nrd hR1))
      refine ⟨.ref d, rfl, .int ((m + 1 : Nat) : Int), rfl, _, 1, rfl, rfl, Nat.zero_le _, fun e he => ?_⟩
      have s5 := Same.new (o := .lst []) he
      refine ⟨.ref ra, rfl, .ref wa, rfl, ra, wa, _, _, rfl, rfl, s5 _ _ hR4, s5 _ _ hW4, by rw [List.length_map, List.length_map]; exact Nat.le_of_lt (small1000 (by omega)), fun q hq => ?_⟩
      have s6 := Same.new (o := .lst (R.map V.int ++ W.map V.int)) hq
      have ed := d4.ne he
      have qd := (d4.same s5).ne hq
      refine ⟨.bl true, rfl, d, e, q, [], R ++ W, by show [V.ref d, V.int (((m + 1 : Nat) : Int) - 1), _, _, _] ++ [] = _; rw [em]; rfl, (d4.same s5).same s6, s6 _ _ upd_same, by show _ = _; rw [upd_same, List.map_append], ed, qd, by simp; omega, by simp, fun x hx => (List.mem_append.mp hx).elim (hVR x) (hVW x), fun v f H7 b7 d7 hf g => ?_⟩
      refine ⟨by show 3 ≤ sizeLine; decide, fun p hp => ?_⟩
      have BB := (((b1.trans (b2.trans ((Same.but s3).trans b4))).trans (Same.but s5)).trans (Same.but s6)).trans b7
      have fr' : ∀ y ∈ fv f, y ∈ W ∨ y ∈ R := fun y hy => (g.fr y hy).elim (fun z => by cases z) fun z => (List.mem_append.mp z).symm
      cases b with
      | true =>
        have s9 := Same.new (o := .tup [.str "some", .int (v2.fdiv 2), v]) hp
        exact k _ (.one .some (v2.fdiv 2) f) _ (BB.trans (Same.but s9)) (d7.same s9) (.one (SqT.of upd_same) (hf.same s9)) ⟨by show f.depth + 1 ≤ _; have := g.dep; omega, ⟨by rw [if_neg (by decide)]; exact lab, g.ok⟩, fr'⟩
      | false =>
        have s9 := Same.new (o := .tup [.str "all", .int (v2.fdiv 2), v]) hp
        exact k _ (.one .all (v2.fdiv 2) f) _ (BB.trans (Same.but s9)) (d7.same s9) (.one (SqT.of upd_same) (hf.same s9)) ⟨by show f.depth + 1 ≤ _; have := g.dep; omega, ⟨by rw [if_neg (by decide)]; exact lab, g.ok⟩, fr'⟩
    -- least, most
    refine ⟨by show 4 ≤ sizeLine; decide, fun l hl => ?_⟩
    have s2 := Same.new (o := .lst [V.int 0, V.int 1, V.int 2, V.int 7]) hl
    have l2 := upd_same (H := H1) (a := l) (o := .lst [V.int 0, V.int 1, V.int 2, V.int 7])
    have ld := d1.ne hl
    refine ⟨.ref d, rfl, d, 4, rfl, d1.same s2, by decide, fun v3 H3 v30 v34 b3 d3 => ?_⟩
    obtain ⟨x, hx4, hx⟩ := four_at v30 v34
    refine ⟨l, _, _, _, rfl, rfl, SqL.of (b3 _ _ ld l2), hx, ?_⟩
    have hW3 := b3 _ _ nwd (s2 _ _ hW1)
    have hR3 := b3 _ _ nrd (s2 _ _ hR1)
    have B3 := b1.trans ((Same.but s2).trans b3)
    -- later, usable
    refine ⟨.ref wa, rfl, wa, rfl, ⟨_, SqL.of hW3⟩, fun la hla => ?_⟩
    refine lc_list (xs := W.map V.int) (fun i G => Same H3 G ∧ G la = some (.lst (((W.take i).filter (fun y => y ≠ x)).map V.int))) ⟨Same.new hla, upd_same⟩ (fun i G _ q => SqL.of (q.1 _ _ hW3)) ?_ ?_
    · rintro i y G hy ⟨sG, gl⟩
      obtain ⟨z, hz, rfl⟩ : ∃ z, W[i]? = some z ∧ y = V.int z := by
        rw [List.getElem?_map] at hy
        cases e : W[i]? with
        | none => rw [e] at hy; cases hy
        | some z => rw [e] at hy; exact ⟨z, rfl, (Option.some.inj hy).symm⟩
      refine ⟨rfl, .int z, rfl, .int x, rfl, rfl, _, rfl, ?_⟩
      have e1 : W.take (i + 1) = W.take i ++ [z] := by rw [List.take_add_one, hz]; rfl
      by_cases e : z = x
      · rw [show (!decide (V.int z = V.int x)) = false by rw [e, decide_eq_true rfl]; rfl]
        refine iteF ⟨sG, ?_⟩
        rw [gl, e1, List.filter_append, e]
        simp
      · rw [show (!decide (V.int z = V.int x)) = true by rw [decide_eq_false (fun q => e (V.int.inj q))]; rfl]
        refine iteT ⟨.int z, rfl, _, gl, ?_, fun b o e2 => by rw [upd_ne (ne_of_none e2 hla)]; exact sG b o e2, ?_⟩
        · rw [List.length_map]
          have := List.length_filter_le (fun y => decide (y ≠ x)) (W.take i)
          rw [List.length_take] at this
          exact small1000 (by omega)
        · rw [upd_same, e1, List.filter_append, List.map_append]
          simp [e]
    rintro G4 ⟨s4, gla⟩
    rw [List.length_map, List.take_length] at gla
    have hR4 := s4 _ _ hR3
    have d4 := d3.same s4
    have lad := d3.ne hla
    refine ⟨.ref ra, rfl, ra, rfl, ⟨_, SqL.of hR4⟩, fun ua hua => ?_⟩
    refine lc_list (xs := R.map V.int) (fun i G => Same G4 G ∧ G ua = some (.lst (((R.take i).filter (fun y => y ≠ x)).map V.int))) ⟨Same.new hua, upd_same⟩ (fun i G _ q => SqL.of (q.1 _ _ hR4)) ?_ ?_
    · rintro i y G hy ⟨sG, gl⟩
      obtain ⟨z, hz, rfl⟩ : ∃ z, R[i]? = some z ∧ y = V.int z := by
        rw [List.getElem?_map] at hy
        cases e : R[i]? with
        | none => rw [e] at hy; cases hy
        | some z => rw [e] at hy; exact ⟨z, rfl, (Option.some.inj hy).symm⟩
      refine ⟨rfl, .int z, rfl, .int x, rfl, rfl, _, rfl, ?_⟩
      have e1 : R.take (i + 1) = R.take i ++ [z] := by rw [List.take_add_one, hz]; rfl
      by_cases e : z = x
      · rw [show (!decide (V.int z = V.int x)) = false by rw [e, decide_eq_true rfl]; rfl]
        refine iteF ⟨sG, ?_⟩
        rw [gl, e1, List.filter_append, e]
        simp
      · rw [show (!decide (V.int z = V.int x)) = true by rw [decide_eq_false (fun q => e (V.int.inj q))]; rfl]
        refine iteT ⟨.int z, rfl, _, gl, ?_, fun b o e2 => by rw [upd_ne (ne_of_none e2 hua)]; exact sG b o e2, ?_⟩
        · rw [List.length_map]
          have := List.length_filter_le (fun y => decide (y ≠ x)) (R.take i)
          rw [List.length_take] at this
          exact small1000 (by omega)
        · rw [upd_same, e1, List.filter_append, List.map_append]
          simp [e]
    rintro G5 ⟨s5, gua⟩
    rw [List.length_map, List.take_length] at gua
    have gla5 := s5 _ _ gla
    have d5 := d4.same s5
    have uad := d4.ne hua
    have B5 := B3.trans ((Same.but s4).trans (Same.but s5))
    have hWl := List.length_filter_le (fun y => decide (y ≠ x)) W
    have hRl := List.length_filter_le (fun y => decide (y ≠ x)) R
    have hWm : ∀ y ∈ W.filter (fun y => y ≠ x), y ∈ W := fun y hy => (List.mem_filter.mp hy).1
    have hRm : ∀ y ∈ R.filter (fun y => y ≠ x), y ∈ R := fun y hy => (List.mem_filter.mp hy).1
    generalize W.filter (fun y => decide (y ≠ x)) = W2 at gla5 gla hWl hWm
    generalize R.filter (fun y => decide (y ≠ x)) = R2 at gua hRl hRm
    -- if loose and a draw is 0
    refine ⟨.bl true, rfl, true, rfl, iteT ?_⟩
    refine ⟨.ref d, rfl, d, 3, rfl, d5, by decide, fun v6 H6 v60 v63 b6 d6 => ⟨rfl, _, rfl, ite2 (fun c4 => ?_) (fun c4 => ?_)⟩⟩
    · have gla6 := b6 _ _ lad gla5
      have gua6 := b6 _ _ uad gua
      refine ⟨.ref ua, rfl, .int x, rfl, by show 1 ≤ sizeLine; decide, fun p hp => ?_⟩
      have s7 := Same.new (o := .lst [V.int x]) hp
      refine ⟨ua, p, _, _, rfl, rfl, s7 _ _ gua6, upd_same, by rw [List.length_map]; exact Nat.le_of_lt (small1000 (by show _ + 1 ≤ 1000; omega)), fun ua' hua' => ?_⟩
      have s8' := Same.new (o := .lst (R2.map V.int ++ [V.int x])) hua'
      have hl' := s8' _ _ (s7 _ _ gla6)
      have hu' : IL (upd (upd H6 p (.lst [V.int x])) ua' (.lst (R2.map V.int ++ [V.int x]))) ua' (R2 ++ [x]) := by show _ = _; rw [upd_same, List.map_append]; rfl
      have gd := (d6.same s7).same s8'
      have nu' := (d6.same s7).ne hua'
      have B : But d H (upd (upd H6 p (.lst [V.int x])) ua' (.lst (R2.map V.int ++ [V.int x]))) := (B5.trans b6).trans ((Same.but s7).trans (Same.but s8'))
      generalize upd (upd H6 p (.lst [V.int x])) ua' (.lst (R2.map V.int ++ [V.int x])) = G at hl' hu' gd B
      have nl' := lad
      have hsz' : W2.length + (R2 ++ [x]).length + m ≤ 20 := by rw [List.length_append, List.length_singleton]; omega
      have hVW' : ∀ y ∈ W2, y ∈ V4 := fun y hy => hVW y (hWm y hy)
      have hVR' : ∀ y ∈ R2 ++ [x], y ∈ V4 := fun y hy => (List.mem_append.mp hy).elim (fun z => hVR y (hRm y z)) fun z => by rw [List.mem_singleton.mp z]; exact hx4
      have hsub : ∀ y, (y ∈ W2 ∨ y ∈ R2 ++ [x]) → y ≠ x → y ∈ W ∨ y ∈ R := fun y hy ne => hy.elim (fun z => .inl (hWm y z)) fun z => (List.mem_append.mp z).elim (fun q => .inr (hRm y q)) fun q => absurd (List.mem_singleton.mp q) ne
      obtain ⟨la', ela⟩ : ∃ la' : Addr, la' = la := ⟨_, rfl⟩
      subst ela
      obtain ⟨W', eW⟩ : ∃ W' : List Int, W' = W2 := ⟨_, rfl⟩
      subst eW
      obtain ⟨R', eR⟩ : ∃ R' : List Int, R' = R2 ++ [x] := ⟨_, rfl⟩
      rw [← eR] at hu' hsz' hVR' hsub
      -- the binder: lists W' at la', R' at ua', in G
      refine ⟨by show 2 ≤ sizeLine; decide, fun l hl => ?_⟩
      have s8 := Same.new (o := .lst [.str "least", .str "most"]) hl
      have ld := gd.ne hl
      have l8 := upd_same (H := G) (a := l) (o := .lst [.str "least", .str "most"])
      refine ⟨.ref d, rfl, d, 2, rfl, gd.same s8, by decide, fun v8 H8 v80 v82 b8 d8 => ?_⟩
      obtain ⟨bb, hbb⟩ := two_at (x := V.str "least") (y := V.str "most") v80 v82
      refine ⟨l, _, _, _, rfl, rfl, SqL.of (b8 _ _ ld l8), hbb, .int x, rfl, ?_⟩
      refine ⟨.ref d, rfl, .int ((m + 1 : Nat) : Int), rfl, _, 1, rfl, rfl, .ref la', rfl, .ref ua', rfl, .bl true, rfl, d, la', ua', W', R', by rw [Int.natCast_add]; show [V.ref d, V.int ((m : Int) + 1 - 1), _, _, _] ++ [] = _; rw [Int.add_sub_cancel]; rfl, d8, b8 _ _ nl' (s8 _ _ hl'), b8 _ _ nu' (s8 _ _ hu'), nl', nu', hsz', hVW', hVR', fun v f H9 b9 d9 hf g => ?_⟩
      refine ⟨by show 3 ≤ sizeLine; decide, fun p hp => ?_⟩
      have BB := ((B.trans (Same.but s8)).trans b8).trans b9
      have fr' : ∀ y ∈ fv f, y ≠ x → y ∈ W ∨ y ∈ R := fun y hy ne => (g.fr y hy).elim (fun z => hsub y (.inl z) ne) fun z => hsub y (.inr z) ne
      cases bb with
      | true =>
        have s9 := Same.new (o := .tup [.str "least", .int x, v]) hp
        refine k _ (.one .least x f) _ (BB.trans (Same.but s9)) (d9.same s9) (.one (SqT.of upd_same) (hf.same s9)) ⟨by show f.depth + 1 ≤ _; have := g.dep; omega, ⟨(if_pos (show One.least.bind = true from rfl)).mpr hx4, g.ok⟩, fun y hy => ?_⟩
        have z := List.mem_filter.mp (show y ∈ (fv f).filter (fun y => y ≠ x) from hy)
        exact fr' y z.1 (by simpa using z.2)
      | false =>
        have s9 := Same.new (o := .tup [.str "most", .int x, v]) hp
        refine k _ (.one .most x f) _ (BB.trans (Same.but s9)) (d9.same s9) (.one (SqT.of upd_same) (hf.same s9)) ⟨by show f.depth + 1 ≤ _; have := g.dep; omega, ⟨(if_pos (show One.most.bind = true from rfl)).mpr hx4, g.ok⟩, fun y hy => ?_⟩
        have z := List.mem_filter.mp (show y ∈ (fv f).filter (fun y => y ≠ x) from hy)
        exact fr' y z.1 (by simpa using z.2)
    · have gla6 := b6 _ _ lad gla5
      have gua6 := b6 _ _ uad gua
      refine ⟨.ref la, rfl, .int x, rfl, by show 1 ≤ sizeLine; decide, fun p hp => ?_⟩
      have s7 := Same.new (o := .lst [V.int x]) hp
      refine ⟨la, p, _, _, rfl, rfl, s7 _ _ gla6, upd_same, by rw [List.length_map]; exact Nat.le_of_lt (small1000 (by show _ + 1 ≤ 1000; omega)), fun la' hla' => ?_⟩
      have s8' := Same.new (o := .lst (W2.map V.int ++ [V.int x])) hla'
      have hu' := s8' _ _ (s7 _ _ gua6)
      have hl' : IL (upd (upd H6 p (.lst [V.int x])) la' (.lst (W2.map V.int ++ [V.int x]))) la' (W2 ++ [x]) := by show _ = _; rw [upd_same, List.map_append]; rfl
      have gd := (d6.same s7).same s8'
      have nl' := (d6.same s7).ne hla'
      have B : But d H (upd (upd H6 p (.lst [V.int x])) la' (.lst (W2.map V.int ++ [V.int x]))) := (B5.trans b6).trans ((Same.but s7).trans (Same.but s8'))
      generalize upd (upd H6 p (.lst [V.int x])) la' (.lst (W2.map V.int ++ [V.int x])) = G at hl' hu' gd B
      have nu' := uad
      have hsz' : (W2 ++ [x]).length + R2.length + m ≤ 20 := by rw [List.length_append, List.length_singleton]; omega
      have hVR' : ∀ y ∈ R2, y ∈ V4 := fun y hy => hVR y (hRm y hy)
      have hVW' : ∀ y ∈ W2 ++ [x], y ∈ V4 := fun y hy => (List.mem_append.mp hy).elim (fun z => hVW y (hWm y z)) fun z => by rw [List.mem_singleton.mp z]; exact hx4
      have hsub : ∀ y, (y ∈ W2 ++ [x] ∨ y ∈ R2) → y ≠ x → y ∈ W ∨ y ∈ R := fun y hy ne => hy.elim (fun z => (List.mem_append.mp z).elim (fun q => .inl (hWm y q)) fun q => absurd (List.mem_singleton.mp q) ne) fun z => .inr (hRm y z)
      obtain ⟨ua', eua⟩ : ∃ ua' : Addr, ua' = ua := ⟨_, rfl⟩
      subst eua
      obtain ⟨R', eR⟩ : ∃ R' : List Int, R' = R2 := ⟨_, rfl⟩
      subst eR
      obtain ⟨W', eW⟩ : ∃ W' : List Int, W' = W2 ++ [x] := ⟨_, rfl⟩
      rw [← eW] at hl' hsz' hVW' hsub
      -- the binder: lists W' at la', R' at ua', in G
      refine ⟨by show 2 ≤ sizeLine; decide, fun l hl => ?_⟩
      have s8 := Same.new (o := .lst [.str "least", .str "most"]) hl
      have ld := gd.ne hl
      have l8 := upd_same (H := G) (a := l) (o := .lst [.str "least", .str "most"])
      refine ⟨.ref d, rfl, d, 2, rfl, gd.same s8, by decide, fun v8 H8 v80 v82 b8 d8 => ?_⟩
      obtain ⟨bb, hbb⟩ := two_at (x := V.str "least") (y := V.str "most") v80 v82
      refine ⟨l, _, _, _, rfl, rfl, SqL.of (b8 _ _ ld l8), hbb, .int x, rfl, ?_⟩
      refine ⟨.ref d, rfl, .int ((m + 1 : Nat) : Int), rfl, _, 1, rfl, rfl, .ref la', rfl, .ref ua', rfl, .bl true, rfl, d, la', ua', W', R', by rw [Int.natCast_add]; show [V.ref d, V.int ((m : Int) + 1 - 1), _, _, _] ++ [] = _; rw [Int.add_sub_cancel]; rfl, d8, b8 _ _ nl' (s8 _ _ hl'), b8 _ _ nu' (s8 _ _ hu'), nl', nu', hsz', hVW', hVR', fun v f H9 b9 d9 hf g => ?_⟩
      refine ⟨by show 3 ≤ sizeLine; decide, fun p hp => ?_⟩
      have BB := ((B.trans (Same.but s8)).trans b8).trans b9
      have fr' : ∀ y ∈ fv f, y ≠ x → y ∈ W ∨ y ∈ R := fun y hy ne => (g.fr y hy).elim (fun z => hsub y (.inl z) ne) fun z => hsub y (.inr z) ne
      cases bb with
      | true =>
        have s9 := Same.new (o := .tup [.str "least", .int x, v]) hp
        refine k _ (.one .least x f) _ (BB.trans (Same.but s9)) (d9.same s9) (.one (SqT.of upd_same) (hf.same s9)) ⟨by show f.depth + 1 ≤ _; have := g.dep; omega, ⟨(if_pos (show One.least.bind = true from rfl)).mpr hx4, g.ok⟩, fun y hy => ?_⟩
        have z := List.mem_filter.mp (show y ∈ (fv f).filter (fun y => y ≠ x) from hy)
        exact fr' y z.1 (by simpa using z.2)
      | false =>
        have s9 := Same.new (o := .tup [.str "most", .int x, v]) hp
        refine k _ (.one .most x f) _ (BB.trans (Same.but s9)) (d9.same s9) (.one (SqT.of upd_same) (hf.same s9)) ⟨by show f.depth + 1 ≤ _; have := g.dep; omega, ⟨(if_pos (show One.most.bind = true from rfl)).mpr hx4, g.ok⟩, fun y hy => ?_⟩
        have z := List.mem_filter.mp (show y ∈ (fv f).filter (fun y => y ≠ x) from hy)
        exact fr' y z.1 (by simpa using z.2)
end
end Fw

set_option maxRecDepth 100000
set_option maxHeartbeats 4000000
namespace Fw
open PySem PySem.Spec PyProof.Rows L2
theorem in_ints (x : Int) : ∀ bs : List Int, inV (.int x) (bs.map V.int) = decide (x ∈ bs)
  | [] => by simp [inV]
  | b :: bs => by
    have ih := in_ints x bs
    unfold inV at ih ⊢
    rw [List.map_cons, List.any_cons, ih]
    have e : eqV (V.int b) (V.int x) = decide (x = b) := by
      show _ = _
      by_cases c : x = b
      · subst c
        simp [eqV]
      · simp [eqV, c]
        exact fun q => c q.symm
    rw [e]
    simp
theorem flat_ints (bs : List Int) : (bs.map V.int).all flatV = true := by
  induction bs with
  | nil => rfl
  | cons b bs ih => simpa [flatV] using ih
def spClosed (K : PySem.W.Frag) (n : Nat) : Sp := fun vs H Q _ => ∃ (d : Addr), vs = [.ref d, .int (n : Nat)] ∧ Draws H d ∧ n ≤ 10 ∧ ∀ v t H', But d H H' → Draws H' d → IsF K H' v t → Gen n [] [] t → Q v H'
def spFr (K : PySem.W.Frag) : Nat → Sp
  | 0 => fun _ _ _ _ => False
  | n + 1 => fun vs H Q _ => ∃ (v : V) (t : F) (ba : Addr) (bs : List Int), vs = [v, .ref ba] ∧ IsF K H v t ∧ t.depth ≤ n + 1 ∧ t.size ≤ 1000 ∧ IL H ba bs ∧ bs.length + n ≤ 100 ∧ ∀ l H', Same H H' → IL H' l (freeL t bs) → Q (.ref l) H'
theorem free_len : ∀ (t : F) (b : List Int), (freeL t b).length ≤ t.size
  | .nul _, _ => Nat.zero_le _
  | .leaf .has _, _ => Nat.zero_le _
  | .leaf .lacks _, _ => Nat.zero_le _
  | .leaf .var x, b => by
    simp only [freeL, F.size]
    split <;> simp
  | .two _ f g, b => by
    have := free_len f b
    have := free_len g b
    simp only [freeL, F.size, List.length_append]
    omega
  | .one k x f, b => by
    have h1 := free_len f (b ++ [x])
    have h2 := free_len f b
    simp only [freeL, F.size]
    split <;> omega
/-- the kids' free variables, one behind the other -/
def freeK (bs : List Int) : List F → List Int
  | [] => []
  | f :: fs => freeL f bs ++ freeK bs fs
theorem freeK_snoc (bs : List Int) : ∀ (fs : List F) (f : F), freeK bs (fs ++ [f]) = freeK bs fs ++ freeL f bs
  | [], f => by simp [freeK]
  | g :: fs, f => by simp [freeK, freeK_snoc bs fs f]
theorem freeK_kids {t : F} {bs : List Int} (nv : ∀ x, t ≠ .leaf .var x) (nb : isB t = false) : freeK bs t.kids = freeL t bs := by
  cases t with
  | nul b => rfl
  | leaf k n =>
    cases k with
    | var => exact absurd rfl (nv n)
    | has => rfl
    | lacks => rfl
  | two b f g => simp [F.kids, freeK, freeL]
  | one k n f =>
    have hk : ¬ k.bind = true := by rw [show k.bind = false from nb]; exact Bool.false_ne_true
    simp only [F.kids, freeK, freeL, if_neg hk, List.append_nil]
theorem var_word {hd : Hd} (nv : ∀ x, hd ≠ .leaf .var x) : V.str (hw hd) ≠ V.str "var" := by
  cases hd with
  | nul b => exact nv_N b
  | two b => exact nv_T b
  | one k _ => exact nv_O k
  | leaf k x =>
    cases k with
    | var => exact absurd rfl (nv x)
    | has => exact nv_has
    | lacks => exact nv_lacks
theorem kid_small {t f : F} (h : f ∈ t.kids) : f.depth + 1 ≤ t.depth ∧ f.size + 1 ≤ t.size := by
  cases t with
  | nul b => cases h
  | leaf k n => cases h
  | two b x y =>
    simp only [F.kids, List.mem_cons, List.not_mem_nil, or_false] at h
    simp only [F.depth, F.size]
    rcases h with rfl | rfl <;> omega
  | one k n x =>
    simp only [F.kids, List.mem_cons, List.not_mem_nil, or_false] at h
    subst h
    simp [F.depth, F.size]
section
variable {P : Program} {w : World} {K : PySem.W.Frag} {mg : Str → Option Value} {base : Heap} {C J B NC FE : Addr}
theorem noneOk {f : Addr} {fd : FuncData} {k : Nat} {ps : List Str} : FnOk P w K mg base CX0 k f fd ps (fun _ _ _ _ => False) :=
  ⟨fun _ _ _ _ h => h.elim, fun _ _ _ _ _ _ _ _ _ _ _ _ _ h => h.elim⟩
theorem all_statement {f : Addr} {fd : FuncData} (FF : Fun K "_law_statement" "_law_statement" s_law_statement f fd) (b : Binds K fd a_law_statement []) (m : mg "_law_statement" = some (.ref f)) (T : Txt K mg C J B)
    (h_law_take : Has P w K mg base "_law_take" 1 a_law_take spTake) (h_law_atom : Has P w K mg base "_law_atom" 2 a_law_atom (spAtom K)) : ∀ n, Has P w K mg base "_law_statement" (n + 2) a_law_statement (spS K n)
  | 0 => ⟨f, fd, m, FF.kp, b, noneOk⟩
  | n + 1 => ⟨f, fd, m, FF.kp, b, ok_law_statement n FF T h_law_take h_law_atom (all_statement FF b m T h_law_take h_law_atom n)⟩
theorem ok_law_closed {f : Addr} {fd : FuncData} (n : Nat) (FF : Fun K "_law_closed" "_law_closed" s_law_closed f fd) (h_law_statement : Has P w K mg base "_law_statement" (n + 3) a_law_statement (spS K (n + 1))) : FnOk P w K mg base CX0 (n + 4) f fd a_law_closed (spClosed K n) := by
  refine FF.ok sc_law_closed (fun vs H Q E h => ?_) (fun cdv A outer s H vs Q E hr h => ?_)
  · obtain ⟨d, rfl, _⟩ := h
    rfl
  · obtain ⟨d, rfl, hd, hn, k⟩ := h
    refine ⟨_, (pss_one (ps_ret (pe_callH h_law_statement (hr.mono (by omega)) (pa_cons (pv 0) (pa_cons (pv 1) (pa_cons (pe_lst pa_nil) (pa_cons (pe_lst pa_nil) (pa_cons pe_bl pa_nil)))))))), ?_⟩
    refine ⟨.ref d, rfl, .int (n : Nat), rfl, Nat.zero_le _, fun wa hwa => ⟨Nat.zero_le _, fun ra hra => ?_⟩⟩
    have s1 := Same.new (o := .lst []) hwa
    have s2 := Same.new (o := .lst []) hra
    have d1 := hd.same s1
    exact ⟨d, wa, ra, [], [], rfl, d1.same s2, s2 _ _ upd_same, upd_same, hd.ne hwa, d1.ne hra, by simp; omega, by simp, by simp, fun v t H' b dd ht g => k v t H' (((Same.but s1).trans (Same.but s2)).trans b) dd ht g⟩
theorem ok_law_free {f : Addr} {fd : FuncData} (n : Nat) (FF : Fun K "_law_free" "_law_free" s_law_free f fd) (T : Txt K mg C J B) (h_law_inner : Has P w K mg base "_law_inner" 1 a_law_inner (spInner K))
    (h_law_free : Has P w K mg base "_law_free" (n + 1) a_law_free (spFr K n)) : FnOk P w K mg base CX0 (n + 2) f fd a_law_free (spFr K (n + 1)) := by
  refine FF.ok sc_law_free (fun vs H Q E h => ?_) (fun cdv A outer s H vs Q E hr h => ?_)
  · obtain ⟨v, t, ba, bs, rfl, _⟩ := h
    rfl
  · obtain ⟨v, t, ba, bs, rfl, ht, hdep, hsz, hB, hbl, k⟩ := h
    refine ⟨_, (pss_cons (ps_if (pt_cmpR op_eq (pe_ix ix_tup (pv 0) pe_int (fun _ _ => rfl)) pe_str (nomark _)) (pss_one (ps_ret (pe_ifExp (pt_cmpR op_notIn_seq (pe_ix ix_tup (pv 0) pe_int (fun _ _ => rfl)) (pv 1) (by rfl)) (pe_lst (pa_cons (pe_ix ix_tup (pv 0) pe_int (fun _ _ => rfl)) pa_nil)) (pe_lst pa_nil)))) pss_nil)
      (pss_cons (ps_if (pt_cmpR op_in_seq (pe_ix ix_tup (pv 0) pe_int (fun _ _ => rfl)) (pe_tup (pa_cons pe_str (pa_cons pe_str pa_nil))) (by rfl)) (pss_one (ps_ret (pe_callH h_law_free (hr.mono (by omega)) (pa_cons (pe_ix ix_tup (pv 0) pe_int (fun _ _ => rfl)) (pa_cons (pe_op op_cat (pv 1) (pe_lst (pa_cons (pe_ix ix_tup (pv 0) pe_int (fun _ _ => rfl)) pa_nil))) pa_nil))))) pss_nil)
      (pss_cons (ps_set (i := 2) sc_law_free.nd rfl (.inl rfl) (pe_lst pa_nil))
      (pss_cons (ps_for PassesOwn.never rfl (pi_list (pe_callH h_law_inner (hr.mono (by omega)) (pa_cons (pv 0) pa_nil))) (pg_name (i := 3) sc_law_free.nd rfl (.inl rfl)) (pss_one (ps_set (i := 2) sc_law_free.nd rfl (.inl rfl) (pe_op op_cat (pv 2) (pe_callH h_law_free (hr.mono (by omega)) (pa_cons (pv 3) (pa_cons (pv 1) pa_nil)))))))
      (pss_one (ps_ret (pv 2))))))), ?_⟩
    obtain ⟨a, ks, rfl, sq, ak⟩ := ht.open
    have at0 : atI (hv t.hd ++ ks) 0 = some (.str (hw t.hd)) := atI_nat (j := 0) (by rw [List.getElem?_append_left (by rcases hv_len t.hd with e | e <;> omega)]; exact hv_head _)
    refine ⟨.ref a, rfl, a, _, _, _, rfl, rfl, sq, at0, rfl, _, rfl, ?_⟩
    by_cases hvar : ∃ x, t = .leaf .var x
    · obtain ⟨x, rfl⟩ := hvar
      cases ak
      have at1 : atI (hv (F.leaf .var x).hd ++ []) 1 = some (.int x) := rfl
      refine (if_pos (decide_eq_true rfl)).mpr ?_
      refine ⟨.ref a, rfl, a, _, 1, .int x, rfl, rfl, sq, at1, .ref ba, rfl, ba, _, rfl, .inl (SqL.of hB), rfl, flat_ints bs, _, rfl, ?_⟩
      rw [if_pos rfl, in_ints]
      by_cases c : x ∈ bs
      · rw [decide_eq_true c]
        refine iteF ⟨Nat.zero_le _, fun p hp => ?_⟩
        refine k p _ (Same.new hp) ?_
        show _ = _
        rw [upd_same, freeL, if_pos c]
        rfl
      · rw [decide_eq_false c]
        refine iteT ⟨.ref a, rfl, a, _, 1, .int x, rfl, rfl, sq, at1, by show 1 ≤ sizeLine; decide, fun p hp => ?_⟩
        refine k p _ (Same.new hp) ?_
        show _ = _
        rw [upd_same, freeL, if_neg c]
        rfl
    · refine (if_neg (by rw [decide_eq_false (var_word (hd := t.hd) fun x e => hvar ⟨x, by cases t <;> cases e; rfl⟩)]; exact Bool.false_ne_true)).mpr ?_
      refine ⟨.ref a, rfl, a, _, _, _, rfl, rfl, sq, at0, by show 2 ≤ sizeLine; decide, fun p hp => ⟨p, _, rfl, .inr (SqT.of upd_same), rfl, rfl, _, rfl, ?_⟩⟩
      rw [if_neg Bool.false_ne_true, in_binders, isB_hd]
      have s1 := Same.new (o := .tup [.str "least", .str "most"]) hp
      generalize upd H p (.tup [.str "least", .str "most"]) = H1 at s1
      have sq1 := SqT.same s1 sq
      have ak1 := ak.lk (LKp.same s1)
      have hB1 := s1 _ _ hB
      cases hb : isB t with
      | true =>
        refine iteT ?_
        obtain ⟨kd, x, f, rfl⟩ : ∃ kd x f, t = .one kd x f := by
          cases t with
          | one kd x f => exact ⟨kd, x, f, rfl⟩
          | _ => cases hb
        have hk : kd.bind = true := hb
        cases ak1 with
        | cons hf hn =>
          rename_i vf _
          cases hn
          have fd := F.size_pos f
          obtain ⟨m, rfl⟩ : ∃ m, n = m + 1 := by
            cases n with
            | zero => exact absurd hdep (by have : 0 < f.depth := (by cases f <;> simp [F.depth]); simp only [F.depth]; omega)
            | succ m => exact ⟨m, rfl⟩
          have at1 : atI (hv (F.one kd x f).hd ++ [vf]) 1 = some (.int x) := rfl
          have at2 : atI (hv (F.one kd x f).hd ++ [vf]) 2 = some vf := rfl
          refine ⟨.ref a, rfl, a, _, 2, vf, rfl, rfl, sq1, at2, .ref ba, rfl, .ref a, rfl, a, _, 1, .int x, rfl, rfl, sq1, at1, by show 1 ≤ sizeLine; decide, fun q hq => ?_⟩
          have s2 := Same.new (o := .lst [V.int x]) hq
          refine ⟨ba, q, _, _, rfl, rfl, s2 _ _ hB1, upd_same, by rw [List.length_map]; exact Nat.le_of_lt (small1000 (by show _ + 1 ≤ 1000; omega)), fun r hr => ?_⟩
          have s3 := Same.new (o := .lst (bs.map V.int ++ [V.int x])) hr
          refine ⟨vf, f, r, bs ++ [x], rfl, (hf.same s2).same s3, ?_, ?_, ?_, ?_, fun l H' s4 hl => ?_⟩
          · simp only [F.depth] at hdep
            omega
          · simp only [F.size] at hsz
            omega
          · show _ = _
            rw [upd_same, List.map_append]
            rfl
          · rw [List.length_append, List.length_singleton]
            omega
          · refine k l H' (s1.trans (s2.trans (s3.trans s4))) ?_
            rw [show freeL (.one kd x f) bs = freeL f (bs ++ [x]) by simp only [freeL, if_pos hk]]
            exact hl
      | false =>
        refine iteF ?_
        have hfk := freeK_kids (t := t) (bs := bs) (fun x e => hvar ⟨x, e⟩) hb
        refine ⟨Nat.zero_le _, fun fo hfo => ?_⟩
        have s2 := Same.new (o := .lst []) hfo
        refine ⟨.ref a, rfl, .ref a, t, rfl, (ht.same s1).same s2, fun l ks' H3 s3 hl ak3 => ⟨l, rfl, ⟨_, SqL.of hl⟩, ?_⟩⟩
        have s123 := s1.trans (s2.trans s3)
        have lk3 := ak3.len
        refine for_list (xs := ks') (fun i σ G => ∃ (fo' : Addr) (y3 : Option V), σ = [some (.ref a), some (.ref ba), some (.ref fo'), y3] ∧ Same H3 G ∧ IL G fo' (freeK bs (t.kids.take i)))
          ⟨fo, none, rfl, Same.refl _, s3 _ _ (by rw [upd_same]; rfl)⟩ (fun i σ G _ ⟨_, _, _, sG, _⟩ => SqL.of (sG _ _ hl)) ?_ ?_
        · rintro i x σ G hx ⟨fo', y3, rfl, sG, gf⟩
          have il := (List.getElem?_eq_some_iff.mp hx).1
          obtain ⟨f, hf⟩ : ∃ f, t.kids[i]? = some f := ⟨t.kids[i]'(by omega), by simp⟩
          have fm := kid_small (List.mem_of_getElem? hf)
          obtain ⟨m, rfl⟩ : ∃ m, n = m + 1 := by
            cases n with
            | zero => exact absurd hdep (by have : 0 < f.depth := (by cases f <;> simp [F.depth]); omega)
            | succ m => exact ⟨m, rfl⟩
          have isf := (ak3.get hx hf).same sG
          have fkl : (freeK bs (t.kids.take i)).length + (freeL f bs).length ≤ t.size + t.size := by
            have h1 : ∀ fs : List F, (freeK bs fs).length ≤ (fs.map F.size).sum := by
              intro fs
              induction fs with
              | nil => exact Nat.le_refl _
              | cons g fs ih =>
                have := free_len g bs
                simp only [freeK, List.length_append, List.map_cons, List.sum_cons]
                omega
            have h2 : ((t.kids.take i).map F.size).sum ≤ t.size := by
              cases t with
              | nul b => simp [F.kids]
              | leaf k n => simp [F.kids]
              | two b f g =>
                match i with
                | 0 => simp [F.kids]
                | 1 => simp only [F.kids, F.size, List.take_succ_cons, List.take_zero, List.map_cons, List.map_nil, List.sum_cons, List.sum_nil]; omega
                | i + 2 => simp only [F.kids, F.size, List.take_succ_cons, List.take_nil, List.map_cons, List.map_nil, List.sum_cons, List.sum_nil]; omega
              | one k n f =>
                match i with
                | 0 => simp [F.kids]
                | i + 1 => simp [F.kids, F.size]
            have := h1 (t.kids.take i)
            have := free_len f bs
            omega
          refine ⟨.ref fo', rfl, x, rfl, .ref ba, rfl, x, f, ba, bs, rfl, isf, by omega, by omega, sG _ _ (s3 _ _ (s2 _ _ hB1)), by omega, fun l2 H5 s5 hl2 => ?_⟩
          refine ⟨fo', l2, _, _, rfl, rfl, s5 _ _ gf, hl2, ?_, fun q hq => ?_⟩
          · rw [List.length_map, List.length_map]
            exact Nat.le_of_lt (Nat.lt_of_le_of_lt (show _ ≤ 2000 by omega) (by decide))
          · refine ⟨q, _, rfl, sG.trans (s5.trans (Same.new hq)), ?_⟩
            show _ = _
            rw [upd_same, List.take_add_one, hf, Option.toList_some, freeK_snoc, List.map_append]
        · rintro σ G ⟨fo', y3, rfl, sG, gf⟩
          refine ⟨_, rfl, k fo' G (s123.trans sG) ?_⟩
          rw [← hfk, show t.kids = t.kids.take ks'.length by rw [List.take_of_length_le (by omega)]]
          exact gf
end
end Fw

set_option maxRecDepth 100000
set_option maxHeartbeats 4000000
namespace Fw
open PySem PySem.Spec PyProof.Rows L2
/-! ### statements as data -/
def dV : V → PyData
  | .str z => .str z
  | .int i => .int i
  | _ => .none
def dF : F → PyData
  | .nul b => .tuple ((hv (.nul b)).map dV)
  | .leaf k n => .tuple ((hv (.leaf k n)).map dV)
  | .two b f g => .tuple ((hv (.two b)).map dV ++ [dF f, dF g])
  | .one k n f => .tuple ((hv (.one k n)).map dV ++ [dF f])
theorem dp_F {K : PySem.W.Frag} {H : Hp} {v : V} {t : F} (h : IsF K H v t) : Dp K H v (dF t) := by
  induction h with
  | nul h => exact .tup h (.cons (.str _) .nil)
  | leaf h => exact .tup h (.cons (.str _) (.cons (.int _) .nil))
  | two h _ _ f g => exact .tup h (.cons (.str _) (.cons f (.cons g .nil)))
  | one h _ f => exact .tup h (.cons (.str _) (.cons (.int _) (.cons f .nil)))
theorem ok_hw (h : Hd) : PyData.strOk (hw h) = true := by
  cases h with
  | nul b => cases b <;> decide +kernel
  | leaf k n =>
    show PyData.strOk (wL k) = true
    cases k <;> decide +kernel
  | two b => cases b <;> decide +kernel
  | one k n =>
    show PyData.strOk (wO k) = true
    cases k <;> decide +kernel
theorem dF_lay : ∀ t : F, (dF t).canLay0 = true
  | .nul b => by
    have := ok_hw (.nul b)
    simp only [hw] at this
    simp [dF, hv, dV, PyData.canLay0, PyData.canLayAll0, this]
  | .leaf k n => by
    have := ok_hw (.leaf k n)
    simp only [hw] at this
    simp [dF, hv, dV, PyData.canLay0, PyData.canLayAll0, this]
  | .two b f g => by
    have := ok_hw (.two b)
    simp only [hw] at this
    simp [dF, hv, dV, PyData.canLay0, PyData.canLayAll0, this, dF_lay f, dF_lay g]
  | .one k n f => by
    have := ok_hw (.one k n)
    simp only [hw] at this
    simp [dF, hv, dV, PyData.canLay0, PyData.canLayAll0, this, dF_lay f]
theorem dF_depth : ∀ t : F, (dF t).depth ≤ t.depth
  | .nul b => by simp [dF, hv, dV, PyData.depth, PyData.depthAll, F.depth]
  | .leaf k n => by simp [dF, hv, dV, PyData.depth, PyData.depthAll, F.depth]
  | .two b f g => by
    have := dF_depth f
    have := dF_depth g
    simp [dF, hv, dV, PyData.depth, PyData.depthAll, F.depth]
    omega
  | .one k n f => by
    have := dF_depth f
    simp [dF, hv, dV, PyData.depth, PyData.depthAll, F.depth]
    omega
theorem dF_shaped {t : F} (h : t.depth ≤ 64) : SeqAt.shaped (dF t) = true := by
  unfold SeqAt.shaped
  rw [dF_lay, decide_eq_true (Nat.le_trans (dF_depth t) h)]
  rfl
theorem dF_same (t : F) : PyData.eqv (dF t) (dF t) = true := SeqAt.eqv_refl _ (dF_lay t)
theorem dp_ints {K : PySem.W.Frag} {H : Hp} : ∀ ns : List Int, DpAll K H (ns.map V.int) (ns.map PyData.int)
  | [] => .nil
  | n :: ns => .cons (.int n) (dp_ints ns)
theorem ints_lay : ∀ ns : List Int, PyData.canLayAll0 (ns.map PyData.int) = true
  | [] => by simp [PyData.canLayAll0]
  | n :: ns => by simp [PyData.canLayAll0, PyData.canLay0, ints_lay ns]
theorem ints_depth : ∀ ns : List Int, PyData.depthAll (ns.map PyData.int) = 0
  | [] => by simp [PyData.depthAll]
  | n :: ns => by simp [PyData.depthAll, PyData.depth, ints_depth ns]
theorem ints_shaped (ns : List Int) : SeqAt.shaped (.list (ns.map PyData.int)) = true := by
  unfold SeqAt.shaped
  simp [PyData.canLay0, PyData.depth, ints_lay, ints_depth]
theorem ints_same (ns : List Int) : PyData.eqv (.list (ns.map PyData.int)) (.list (ns.map PyData.int)) = true := SeqAt.eqv_refl _ (by simp [PyData.canLay0, ints_lay])
/-- two rising lists of the same members are one -/
theorem rising_one : ∀ {a b : List Int}, a.Pairwise (· < ·) → b.Pairwise (· < ·) → (∀ x, x ∈ a ↔ x ∈ b) → a = b
  | [], [], _, _, _ => rfl
  | [], y :: b, _, _, h => by have := (h y).mpr List.mem_cons_self; cases this
  | x :: a, [], _, _, h => by have := (h x).mp List.mem_cons_self; cases this
  | x :: a, y :: b, ha, hb, h => by
    have ha' := List.pairwise_cons.mp ha
    have hb' := List.pairwise_cons.mp hb
    have e : x = y := by
      rcases List.mem_cons.mp ((h x).mp List.mem_cons_self) with q | q
      · exact q
      · rcases List.mem_cons.mp ((h y).mpr List.mem_cons_self) with r | r
        · exact r.symm
        · have := ha'.1 y r
          have := hb'.1 x q
          omega
    subst e
    congr 1
    refine rising_one ha'.2 hb'.2 fun z => ?_
    constructor
    · intro hz
      rcases List.mem_cons.mp ((h z).mp (List.mem_cons_of_mem _ hz)) with q | q
      · have := ha'.1 z hz
        omega
      · exact q
    · intro hz
      rcases List.mem_cons.mp ((h z).mpr (List.mem_cons_of_mem _ hz)) with q | q
      · have := hb'.1 z hz
        omega
      · exact q
def isOneH : Hd → Bool
  | .one _ _ => true
  | _ => false
theorem in_four (h : Hd) : inV (.str (hw h)) [.str "least", .str "most", .str "some", .str "all"] = isOneH h := by
  cases h with
  | nul b => cases b <;> rfl
  | leaf k n => cases k <;> rfl
  | two b => cases b <;> rfl
  | one k n => cases k <;> rfl
section
variable {P : Program} {w : World} {K : PySem.W.Frag} {mg : Str → Option Value} {base : Heap} {C J B NC FE : Addr}
theorem all_free {f : Addr} {fd : FuncData} (FF : Fun K "_law_free" "_law_free" s_law_free f fd) (b : Binds K fd a_law_free []) (m : mg "_law_free" = some (.ref f)) (T : Txt K mg C J B)
    (h_law_inner : Has P w K mg base "_law_inner" 1 a_law_inner (spInner K)) : ∀ n, Has P w K mg base "_law_free" (n + 1) a_law_free (spFr K n)
  | 0 => ⟨f, fd, m, FF.kp, b, noneOk⟩
  | n + 1 => ⟨f, fd, m, FF.kp, b, ok_law_free n FF T h_law_inner (all_free FF b m T h_law_inner n)⟩
end
end Fw

set_option maxRecDepth 100000
set_option maxHeartbeats 4000000
namespace Fw
open PySem PySem.Spec PyProof.Rows L2
abbrev rLenS (K : PySem.W.Frag) : List V → Hp → VK → Prop := fun xs H Q => ∃ p ys, xs = [.ref p] ∧ (SqL K H p ys ∨ SqT K H p ys) ∧ Q (.int ys.length) H
section
variable {P : Program} {w : World} {K : PySem.W.Frag} {mg : Str → Option Value} {base : Heap} {C J B NC FE OD : Addr}
def spIsInt : Sp := fun vs H Q _ => ∃ n : Int, vs = [.int n] ∧ Q (.bl true) H
theorem ok_law_is_integer {f : Addr} {fd : FuncData} (FF : Fun K "_law_is_integer" "_law_is_integer" s_law_is_integer f fd) (T : Txt K mg C J B) : FnOk P w K mg base CX0 1 f fd a_law_is_integer spIsInt := by
  refine FF.ok sc_law_is_integer (fun vs H Q E h => ?_) (fun cdv A outer s H vs Q E hr h => ?_)
  · obtain ⟨n, rfl, _⟩ := h
    rfl
  · obtain ⟨n, rfl, k⟩ := h
    refine ⟨_, (pss_one (ps_ret (pe_and (pe_callB call_isi rfl T.z_isinstance (by decide +kernel) (pa_cons (pv 0) (pa_cons (pe_bltn (v := .ty "int") (u := .type "int") rfl T.z_int (by decide +kernel) rfl) pa_nil))) (pe_one (pe_not (pe_callB call_isi rfl T.z_isinstance (by decide +kernel) (pa_cons (pv 0) (pa_cons (pe_bltn (v := .ty "bool") (u := .type "bool") rfl T.z_bool (by decide +kernel) rfl) pa_nil)))))))), ?_⟩
    refine ⟨.int n, rfl, .int n, .ty "int", .type "int", .type "int", true, rfl, .ty "int", .base (.int n), kit_ty (by decide +kernel), true, rfl, iteT ?_⟩
    exact ⟨.int n, rfl, .int n, .ty "bool", .type "int", .type "bool", false, rfl, .ty "bool", .base (.int n), kit_ty (by decide +kernel), false, rfl, k⟩
def spSz (K : PySem.W.Frag) : Nat → Sp
  | 0 => fun _ _ _ _ => False
  | n + 1 => fun vs H Q _ => ∃ (v : V) (t : F), vs = [v] ∧ IsF K H v t ∧ t.depth ≤ n + 1 ∧ ∀ H', Same H H' → Q (.int (t.size : Nat)) H'
theorem kids_size (t : F) : (t.kids.map F.size).sum + 1 = t.size := by cases t <;> simp [F.kids, F.size]
theorem sum_cast : ∀ l : List Nat, (l.map fun (n : Nat) => (n : Int)).sum = (l.sum : Nat)
  | [] => rfl
  | a :: l => by simp [sum_cast l]
/-! ### is it a statement -/
def NN : F → Prop
  | .nul _ => True
  | .leaf _ n => 0 ≤ n
  | .two _ f g => NN f ∧ NN g
  | .one _ n f => 0 ≤ n ∧ NN f
theorem NN.kid {t f : F} (h : NN t) (hf : f ∈ t.kids) : NN f := by
  cases t with
  | nul b => cases hf
  | leaf k n => cases hf
  | two b x y =>
    simp only [F.kids, List.mem_cons, List.not_mem_nil, or_false] at hf
    rcases hf with rfl | rfl
    · exact h.1
    · exact h.2
  | one k n x =>
    simp only [F.kids, List.mem_cons, List.not_mem_nil, or_false] at hf
    subst hf
    exact h.2
def arity : Hd → Int
  | .nul _ => 1
  | .leaf _ _ => 2
  | .two _ => 3
  | .one _ _ => 3
def isNum : Hd → Bool
  | .leaf _ _ => true
  | .one _ _ => true
  | _ => false
theorem in_seven (h : Hd) : inV (.str (hw h)) [.str "has", .str "lacks", .str "var", .str "some", .str "all", .str "least", .str "most"] = isNum h := by
  cases h with
  | nul b => cases b <;> rfl
  | leaf k n => cases k <;> rfl
  | two b => cases b <;> rfl
  | one k n => cases k <;> rfl
abbrev sizesK : List (Key × V) := mergeK [] [(Sum.inr "true", V.int 1), (Sum.inr "false", V.int 1), (Sum.inr "has", V.int 2), (Sum.inr "lacks", V.int 2), (Sum.inr "var", V.int 2), (Sum.inr "and", V.int 3), (Sum.inr "or", V.int 3), (Sum.inr "some", V.int 3), (Sum.inr "all", V.int 3), (Sum.inr "least", V.int 3), (Sum.inr "most", V.int 3)]
theorem sizes_at (h : Hd) : valV sizesK (Sum.inr (hw h)) = some (.int (arity h)) := by
  cases h with
  | nul b => cases b <;> rfl
  | leaf k n => cases k <;> rfl
  | two b => cases b <;> rfl
  | one k n => cases k <;> rfl
def spIs (K : PySem.W.Frag) : Nat → Sp
  | 0 => fun _ _ _ _ => False
  | n + 1 => fun vs H Q _ => ∃ (v : V) (t : F) (d : Int), vs = [v, .int d] ∧ IsF K H v t ∧ t.depth ≤ n + 1 ∧ (t.depth : Int) ≤ d ∧ NN t ∧ ∀ H', Same H H' → Q (.bl true) H'
theorem ok_law_is_statement {f : Addr} {fd : FuncData} (n : Nat) (FF : Fun K "_law_is_statement" "_law_is_statement" s_law_is_statement f fd) (T : Txt K mg C J B) (h_law_is_integer : Has P w K mg base "_law_is_integer" 1 a_law_is_integer spIsInt)
    (h_law_is_statement : Has P w K mg base "_law_is_statement" (n + 1) a_law_is_statement (spIs K n)) : FnOk P w K mg base CX0 (n + 2) f fd a_law_is_statement (spIs K (n + 1)) := by
  refine FF.ok sc_law_is_statement (fun vs H Q E h => ?_) (fun cdv A outer s H vs Q E hr h => ?_)
  · obtain ⟨v, t, d, rfl, _⟩ := h
    rfl
  · obtain ⟨v, t, d, rfl, ht, hdep, hd, nn, k⟩ := h
    have hu := hu_of hr
    refine ⟨_, (pss_cons (ps_if (PW.pt (pw_or (pt_not (pt_val (pe_callB call_isi rfl T.z_isinstance (by decide +kernel) (pa_cons (pv 0) (pa_cons (pe_bltn (v := .ty "tuple") (u := .type "tuple") rfl T.z_tuple (by decide +kernel) rfl) pa_nil))))) (pw_or (pt_cmpR op_eq (pe_callB call_len_seq rfl T.z_len (by decide +kernel) (pa_cons (pv 0) pa_nil)) pe_int (nomark _)) (pw_or1 (pt_cmpR op_eq (pv 1) pe_int (nomark _)))))) (pss_one (ps_ret pe_bl)) pss_nil)
      (pss_cons (ps_set (i := 2) sc_law_is_statement.nd rfl (.inl rfl) (pe_disp (pps_cons pe_str pe_int (pps_cons pe_str pe_int (pps_cons pe_str pe_int (pps_cons pe_str pe_int (pps_cons pe_str pe_int (pps_cons pe_str pe_int (pps_cons pe_str pe_int (pps_cons pe_str pe_int (pps_cons pe_str pe_int (pps_cons pe_str pe_int (pps_cons pe_str pe_int pps_nil))))))))))) (by rfl) (by rfl) (fun z => by cases z) (by decide)))
      (pss_cons (ps_if (PW.pt (pw_or (pt_cmp (pc_dnotin hu (pe_ix ix_tup (pv 0) pe_int (fun _ _ => rfl)) (pv 2))) (pw_or1 (pt_cmpR op_ne (pe_callB call_len_seq rfl T.z_len (by decide +kernel) (pa_cons (pv 0) pa_nil)) (pe_dget hu (pv 2) (pe_ix ix_tup (pv 0) pe_int (fun _ _ => rfl)) (fun _ _ => rfl)) (nomark _))))) (pss_one (ps_ret pe_bl)) pss_nil)
      (pss_cons (ps_set (i := 3) sc_law_is_statement.nd rfl (.inl rfl) (pe_slice sl_tupA (pv 0) (po_some pe_int) po_none))
      (pss_cons (ps_if (pt_cmpR op_in_seq (pe_ix ix_tup (pv 0) pe_int (fun _ _ => rfl)) (pe_tup (pa_cons pe_str (pa_cons pe_str (pa_cons pe_str (pa_cons pe_str (pa_cons pe_str (pa_cons pe_str (pa_cons pe_str pa_nil)))))))) (by rfl)) (pss_cons (ps_if (PW.pt (pw_or (pt_not (pt_val (pe_callH h_law_is_integer (hr.mono (by omega)) (pa_cons (pe_ix ix_tup (pv 0) pe_int (fun _ _ => rfl)) pa_nil)))) (pw_or1 (pt_cmpR op_lt (pe_ix ix_tup (pv 0) pe_int (fun _ _ => rfl)) pe_int (nomark _))))) (pss_one (ps_ret pe_bl)) pss_nil)
      (pss_one (ps_set (i := 3) sc_law_is_statement.nd rfl (.inl rfl) (pe_slice sl_tupA (pv 0) (po_some pe_int) po_none)))) pss_nil)
      (pss_one (ps_ret (pe_cmpR op_eq (pe_callB call_len_seq rfl T.z_len (by decide +kernel) (pa_cons (pe_lc (own := [("part", 4)]) (g := gName 4) rfl sc_law_is_statement.nd (pi_tup (pv 3)) (blkOk_by (own := [("part", 4)]) (N := n_law_is_statement) (sc := defScope s_law_is_statement) (by decide +kernel)) (fun _ _ _ _ _ => (pg_name (i := 4) sc_law_is_statement.nd rfl (.inl rfl))) (fun _ _ _ _ _ => (pts_one (pt_not (pt_val (pe_callH h_law_is_statement (hr.mono (by omega)) (pa_cons (pv 4) (pa_cons (pe_op op_sub (pv 1) pe_int) pa_nil))))))) (fun _ _ _ _ _ => (pv 4))) pa_nil)) pe_int (nomark _))))))))), ?_⟩
    obtain ⟨a, ks, rfl, sq, ak⟩ := ht.open
    have hl := hv_len t.hd
    have al := ak.len
    have klen : t.kids.length + (hv t.hd).length = (arity t.hd).toNat ∧ 0 < arity t.hd := by cases t <;> simp [F.kids, F.hd, hv, arity]
    have at0 : atI (hv t.hd ++ ks) 0 = some (.str (hw t.hd)) := atI_nat (j := 0) (by rw [List.getElem?_append_left (by rcases hv_len t.hd with e | e <;> omega)]; exact hv_head _)
    have dpos : 0 < t.depth := by cases t <;> simp [F.depth]
    have len : ((hv t.hd ++ ks).length : Int) = arity t.hd := by rw [List.length_append]; omega
    -- the first test
    refine ⟨.ref a, rfl, .ref a, .ty "tuple", .type "tuple", .type "tuple", true, rfl, .ty "tuple", isTup sq, kit_ty (by decide +kernel), true, rfl, iteF ?_⟩
    refine ⟨.ref a, rfl, a, _, rfl, .inr sq, rfl, _, rfl, ?_⟩
    rw [len]
    refine (if_neg (by rw [decide_eq_false (fun e : V.int (arity t.hd) = V.int 0 => by have := V.int.inj e; omega)]; exact Bool.false_ne_true)).mpr ?_
    refine ⟨.int d, rfl, rfl, _, rfl, ?_⟩
    refine (if_neg (by rw [decide_eq_false (fun e : V.int d = V.int 0 => by have := V.int.inj e; omega)]; exact Bool.false_ne_true)).mpr ?_
    -- sizes
    intro p hp
    refine ⟨upd_same, [(Sum.inr "true", V.int 1), (Sum.inr "false", V.int 1), (Sum.inr "has", V.int 2), (Sum.inr "lacks", V.int 2), (Sum.inr "var", V.int 2), (Sum.inr "and", V.int 3), (Sum.inr "or", V.int 3), (Sum.inr "some", V.int 3), (Sum.inr "all", V.int 3), (Sum.inr "least", V.int 3), (Sum.inr "most", V.int 3)], rfl, by decide, ?_⟩
    have s1 : Same H (upd (upd H p (.dK [])) p (.dK sizesK)) := fun b o e => by
      rw [upd_ne (ne_of_none e hp), upd_ne (ne_of_none e hp)]
      exact e
    have hD : (upd (upd H p (.dK [])) p (.dK sizesK)) p = some (.dK sizesK) := upd_same
    generalize upd (upd H p (.dK [])) p (.dK sizesK) = H1 at s1 hD
    have sq1 := SqT.same s1 sq
    have hget := DGet.k (k := Sum.inr (hw t.hd)) hD
    rw [sizes_at] at hget
    refine ⟨.ref a, rfl, a, _, _, _, rfl, rfl, sq1, at0, .ref p, rfl, p, _, rfl, hget, _, rfl, iteF ?_⟩
    refine ⟨.ref a, rfl, a, _, rfl, .inr sq1, .ref p, rfl, .ref a, rfl, a, _, _, _, rfl, rfl, sq1, at0, p, _, rfl, hget, rfl, _, rfl, ?_⟩
    rw [len]
    refine (if_neg (by rw [decide_eq_true (rfl : V.int (arity t.hd) = V.int (arity t.hd))]; exact Bool.false_ne_true)).mpr ?_
    -- inner = actual[1:]
    refine ⟨.ref a, rfl, 1, rfl, a, _, rfl, sq1, fun whole => ?_, fun _ ia1 hia1 => ?_⟩
    · exfalso
      rw [show HT.sIx (hv t.hd ++ ks).length 0 (some 1) = min 1 (hv t.hd ++ ks).length from HT.sIx_nat _ _ 1, List.length_append] at whole
      omega
    rw [cutV_one]
    have s2 := Same.new (o := .tup ((hv t.hd ++ ks).drop 1)) hia1
    have iT : SqT K (upd H1 ia1 (.tup ((hv t.hd ++ ks).drop 1))) ia1 ((hv t.hd ++ ks).drop 1) := SqT.of upd_same
    generalize upd H1 ia1 (.tup ((hv t.hd ++ ks).drop 1)) = H2 at s2 iT
    have sq2 := SqT.same s2 sq1
    refine ⟨.ref a, rfl, a, _, _, _, rfl, rfl, sq2, at0, by show 7 ≤ sizeLine; decide, fun p3 hp3 => ⟨p3, _, rfl, .inr (SqT.of upd_same), rfl, rfl, _, rfl, ?_⟩⟩
    rw [if_neg Bool.false_ne_true, in_seven]
    have s3 := Same.new (o := .tup [.str "has", .str "lacks", .str "var", .str "some", .str "all", .str "least", .str "most"]) hp3
    have iT3 := SqT.same s3 iT
    generalize upd H2 p3 (.tup [.str "has", .str "lacks", .str "var", .str "some", .str "all", .str "least", .str "most"]) = H3 at s3 iT3
    have sq3 := SqT.same s3 sq2
    have s123 := s1.trans (s2.trans s3)
    cases hn : isNum t.hd with
    | false =>
      refine iteF ?_
      have ed : (hv t.hd ++ ks).drop 1 = ks := by
        cases t with
        | nul b => rfl
        | two b f g => rfl
        | leaf k n => cases hn
        | one k n f => cases hn
      rw [ed] at iT3
      obtain ⟨ia, eia⟩ : ∃ ia : Addr, ia = ia1 := ⟨_, rfl⟩
      subst eia
      have sG := s123
      have iG := iT3
      generalize H3 = G at sG iG
      refine ⟨.ref ia, rfl, ia, rfl, ⟨_, iG⟩, fun D hD => ?_⟩
      have akG := ak.lk (LKp.same sG)
      refine lc_tup (xs := ks) (fun i G' => Same G G' ∧ G' D = some (.lst [])) ⟨Same.new hD, upd_same⟩ (fun i G' _ q => SqT.same q.1 iG) ?_ ?_
      · rintro i x G' hx ⟨sG', gD⟩
        have il := (List.getElem?_eq_some_iff.mp hx).1
        obtain ⟨f, hf⟩ : ∃ f, t.kids[i]? = some f := ⟨t.kids[i]'(by omega), by simp⟩
        have fmem := List.mem_of_getElem? hf
        have fm := kid_small fmem
        obtain ⟨m', rfl⟩ : ∃ m', n = m' + 1 := by
          cases n with
          | zero => exact absurd hdep (by have : 0 < f.depth := (by cases f <;> simp [F.depth]); omega)
          | succ m' => exact ⟨m', rfl⟩
        refine ⟨rfl, x, rfl, .int d, rfl, d, 1, rfl, rfl, x, f, d - 1, rfl, (akG.get hx hf).same sG', by omega, by omega, nn.kid fmem, fun H' s' => ⟨true, rfl, ?_⟩⟩
        refine iteF ⟨sG'.trans s', s' _ _ gD⟩
      · rintro G' ⟨sG', gD⟩
        refine ⟨D, _, rfl, .inl (SqL.of gD), rfl, ?_⟩
        exact k G' (sG.trans sG')
    | true =>
      refine iteT ?_
      have num : ∃ m : Int, atI (hv t.hd ++ ks) 1 = some (.int m) ∧ 0 ≤ m ∧ (hv t.hd ++ ks).drop 2 = ks ∧ 2 ≤ (hv t.hd).length := by
        cases t with
        | nul b => cases hn
        | two b f g => cases hn
        | leaf k m => exact ⟨m, atI_nat (j := 1) rfl, nn, rfl, Nat.le_refl 2⟩
        | one k m f => exact ⟨m, atI_nat (j := 1) rfl, nn.1, rfl, Nat.le_refl 2⟩
      obtain ⟨m, at1, m0, ed, l2⟩ := num
      refine ⟨.ref a, rfl, a, _, 1, .int m, rfl, rfl, sq3, at1, m, rfl, true, rfl, iteF ?_⟩
      refine ⟨.ref a, rfl, a, _, 1, .int m, rfl, rfl, sq3, at1, _, _, rfl, rfl, _, rfl, ?_⟩
      refine (if_neg (by rw [decide_eq_false (show ¬ m < 0 by omega)]; exact Bool.false_ne_true)).mpr ?_
      refine ⟨.ref a, rfl, 2, rfl, a, _, rfl, sq3, fun whole => ?_, fun _ ia hia => ?_⟩
      · exfalso
        rw [show HT.sIx (hv t.hd ++ ks).length 0 (some 2) = min 2 (hv t.hd ++ ks).length from HT.sIx_nat _ _ 2, List.length_append] at whole
        omega
      have e2 : cutV (hv t.hd ++ ks) (some 2) none = ks := by
        unfold cutV
        rw [show HT.sIx (hv t.hd ++ ks).length 0 (some 2) = min 2 (hv t.hd ++ ks).length from HT.sIx_nat _ _ 2, HT.sIx_none, Nat.min_eq_left (by rw [List.length_append]; omega), List.take_of_length_le (by rw [List.length_drop]; exact Nat.le_refl _)]
        exact ed
      rw [e2]
      have s4 := Same.new (o := .tup ks) hia
      have iG : SqT K (upd H3 ia (.tup ks)) ia ks := SqT.of upd_same
      have sG := s123.trans s4
      generalize upd H3 ia (.tup ks) = G at sG iG
      refine ⟨.ref ia, rfl, ia, rfl, ⟨_, iG⟩, fun D hD => ?_⟩
      have akG := ak.lk (LKp.same sG)
      refine lc_tup (xs := ks) (fun i G' => Same G G' ∧ G' D = some (.lst [])) ⟨Same.new hD, upd_same⟩ (fun i G' _ q => SqT.same q.1 iG) ?_ ?_
      · rintro i x G' hx ⟨sG', gD⟩
        have il := (List.getElem?_eq_some_iff.mp hx).1
        obtain ⟨f, hf⟩ : ∃ f, t.kids[i]? = some f := ⟨t.kids[i]'(by omega), by simp⟩
        have fmem := List.mem_of_getElem? hf
        have fm := kid_small fmem
        obtain ⟨m', rfl⟩ : ∃ m', n = m' + 1 := by
          cases n with
          | zero => exact absurd hdep (by have : 0 < f.depth := (by cases f <;> simp [F.depth]); omega)
          | succ m' => exact ⟨m', rfl⟩
        refine ⟨rfl, x, rfl, .int d, rfl, d, 1, rfl, rfl, x, f, d - 1, rfl, (akG.get hx hf).same sG', by omega, by omega, nn.kid fmem, fun H' s' => ⟨true, rfl, ?_⟩⟩
        refine iteF ⟨sG'.trans s', s' _ _ gD⟩
      · rintro G' ⟨sG', gD⟩
        refine ⟨D, _, rfl, .inl (SqL.of gD), rfl, ?_⟩
        exact k G' (sG.trans sG')
theorem all_is {f : Addr} {fd : FuncData} (FF : Fun K "_law_is_statement" "_law_is_statement" s_law_is_statement f fd) (b : Binds K fd a_law_is_statement []) (m : mg "_law_is_statement" = some (.ref f)) (T : Txt K mg C J B)
    (h : Has P w K mg base "_law_is_integer" 1 a_law_is_integer spIsInt) : ∀ n, Has P w K mg base "_law_is_statement" (n + 1) a_law_is_statement (spIs K n)
  | 0 => ⟨f, fd, m, FF.kp, b, noneOk⟩
  | n + 1 => ⟨f, fd, m, FF.kp, b, ok_law_is_statement n FF T h (all_is FF b m T h n)⟩
end
end Fw

set_option maxRecDepth 100000
set_option maxHeartbeats 4000000
namespace Fw
open PySem PySem.Spec PyProof.Rows L2
def FAt (H : Hp) (as : List Addr) (Xs : List (List Int)) : Prop := as.length = Xs.length ∧ ∀ (i : Nat) (a : Addr) (X : List Int), as[i]? = some a → Xs[i]? = some X → IL H a X
def PAt (H : Hp) (as : List Addr) (ps : List (Int × Int × Int)) : Prop := as.length = ps.length ∧ ∀ (i : Nat) (a : Addr) (p : Int × Int × Int), as[i]? = some a → ps[i]? = some p → H a = some (.tup [.int p.1, .int p.2.1, .int p.2.2])
structure WAx (H : Hp) (wa sa pa : Addr) (fas pas : List Addr) (W : Wd) : Prop where
  w : H wa = some (.tup [.ref sa, .ref pa])
  s : H sa = some (.lst (fas.map V.ref))
  p : H pa = some (.lst (pas.map V.ref))
  f : FAt H fas W.facts
  t : PAt H pas W.steps
def WAt (H : Hp) (v : V) (W : Wd) : Prop := ∃ (wa sa pa : Addr) (fas pas : List Addr), v = .ref wa ∧ WAx H wa sa pa fas pas W
theorem WAx.same {H H' : Hp} {wa sa pa : Addr} {fas pas : List Addr} {W : Wd} (z : Same H H') (h : WAx H wa sa pa fas pas W) : WAx H' wa sa pa fas pas W :=
  ⟨z _ _ h.w, z _ _ h.s, z _ _ h.p, ⟨h.f.1, fun i a X e1 e2 => z _ _ (h.f.2 i a X e1 e2)⟩, ⟨h.t.1, fun i a X e1 e2 => z _ _ (h.t.2 i a X e1 e2)⟩⟩
theorem WAt.same {H H' : Hp} {v : V} {W : Wd} (z : Same H H') (h : WAt H v W) : WAt H' v W := by
  obtain ⟨wa, sa, pa, fas, pas, e, x⟩ := h
  exact ⟨wa, sa, pa, fas, pas, e, x.same z⟩
/-- the world's size fits -/
structure Wd.Fit (W : Wd) : Prop where
  good : W.Good
  one : 1 ≤ W.n
  n8 : W.n ≤ 8
  st : W.steps.length ≤ 200
  fc : ∀ X ∈ W.facts, X.length ≤ 8
theorem FAt.nil (H : Hp) : FAt H [] [] := ⟨rfl, fun i a X e _ => by cases e⟩
theorem PAt.nil (H : Hp) : PAt H [] [] := ⟨rfl, fun i a X e _ => by cases e⟩
theorem FAt.map {H H' : Hp} {as : List Addr} {Xs : List (List Int)} (h : FAt H as Xs) (z : ∀ a o, a ∈ as → H a = some o → H' a = some o) : FAt H' as Xs :=
  ⟨h.1, fun i a X e1 e2 => z _ _ (List.mem_of_getElem? e1) (h.2 i a X e1 e2)⟩
theorem PAt.map {H H' : Hp} {as : List Addr} {Xs : List (Int × Int × Int)} (h : PAt H as Xs) (z : ∀ a o, a ∈ as → H a = some o → H' a = some o) : PAt H' as Xs :=
  ⟨h.1, fun i a X e1 e2 => z _ _ (List.mem_of_getElem? e1) (h.2 i a X e1 e2)⟩
theorem get_snoc {α : Type} {l : List α} {x : α} {i : Nat} {y : α} (h : (l ++ [x])[i]? = some y) : l[i]? = some y ∨ (i = l.length ∧ x = y) := by
  by_cases lt : i < l.length
  · rw [List.getElem?_append_left lt] at h
    exact .inl h
  · have e : i = l.length := by
      have := (List.getElem?_eq_some_iff.mp h).1
      rw [List.length_append, List.length_singleton] at this
      omega
    subst e
    rw [List.getElem?_append_right (Nat.le_refl _), Nat.sub_self] at h
    exact .inr ⟨rfl, Option.some.inj h⟩
theorem get_len {α : Type} {l : List α} {i : Nat} {y : α} (h : l[i]? = some y) : i < l.length := (List.getElem?_eq_some_iff.mp h).1
theorem FAt.snoc {H : Hp} {as : List Addr} {Xs : List (List Int)} {a : Addr} {X : List Int} (h : FAt H as Xs) (z : IL H a X) : FAt H (as ++ [a]) (Xs ++ [X]) :=
  ⟨by rw [List.length_append, List.length_append, h.1]; rfl, fun i b Y e1 e2 => by
    rcases get_snoc e1 with e1' | ⟨q, rfl⟩
    · rcases get_snoc e2 with e2' | ⟨q, rfl⟩
      · exact h.2 i b Y e1' e2'
      · have := get_len e1'; rw [h.1] at this; omega
    · rcases get_snoc e2 with e2' | ⟨q2, rfl⟩
      · have := get_len e2'; rw [← h.1] at this; omega
      · exact z⟩
theorem PAt.snoc {H : Hp} {as : List Addr} {Xs : List (Int × Int × Int)} {a : Addr} {p : Int × Int × Int} (h : PAt H as Xs) (z : H a = some (.tup [.int p.1, .int p.2.1, .int p.2.2])) : PAt H (as ++ [a]) (Xs ++ [p]) :=
  ⟨by rw [List.length_append, List.length_append, h.1]; rfl, fun i b Y e1 e2 => by
    rcases get_snoc e1 with e1' | ⟨q, rfl⟩
    · rcases get_snoc e2 with e2' | ⟨q, rfl⟩
      · exact h.2 i b Y e1' e2'
      · have := get_len e1'; rw [h.1] at this; omega
    · rcases get_snoc e2 with e2' | ⟨q2, rfl⟩
      · have := get_len e2'; rw [← h.1] at this; omega
      · exact z⟩
section
variable {P : Program} {w : World} {K : PySem.W.Frag} {mg : Str → Option Value} {base : Heap} {C J B NC FE OD : Addr}
def RowUp (f : Int) (X : List Int) : Prop := X.Pairwise (· < ·) ∧ ∀ x ∈ X, 0 ≤ x ∧ x < f
def StUp (n : Nat) (q p : T3) : Prop := 0 ≤ p.1 ∧ p.1 < (n : Int) ∧ 0 ≤ p.2.1 ∧ p.2.1 < 2 ∧ 0 ≤ p.2.2 ∧ p.2.2 < (n : Int) ∧ lex3 p q = true
theorem StUp.up {n : Nat} {q q' p : T3} (h : StUp n q p) (z : Lt3 p q → Lt3 p q') : StUp n q' p := by
  obtain ⟨a, b, c, d, e, f, g⟩ := h
  exact ⟨a, b, c, d, e, f, lex3_iff.mpr (z (lex3_iff.mp g))⟩
/-- its rows ascend, and its steps -/
structure Wd.Up (W : Wd) (f : Int) : Prop where
  rows : ∀ X ∈ W.facts, RowUp f X
  steps : W.steps.Pairwise fun x y => lex3 x y = true
  in_ : ∀ p ∈ W.steps, StUp W.n (W.n, 0, 0) p
def spWorld : Sp := fun vs H Q _ => ∃ (d : Addr) (mo fc : Int), vs = [.ref d, .int mo, .int fc] ∧ Draws H d ∧ 1 ≤ mo ∧ mo ≤ 8 ∧ 0 ≤ fc ∧ fc ≤ 8 ∧
  ∀ (wa sa pa : Addr) (fas pas : List Addr) W H', But d H H' → Draws H' d → WAx H' wa sa pa fas pas W → sa ≠ d → pa ≠ d → (∀ a ∈ fas, a ≠ d) → W.Fit → W.Up fc → (W.n : Int) ≤ mo → Q (.ref wa) H'
theorem ok_law_world {f : Addr} {fd : FuncData} (FF : Fun K "_law_world" "_law_world" s_law_world f fd) (T : Txt K mg C J B) (h_law_take : Has P w K mg base "_law_take" 1 a_law_take spTake) : FnOk P w K mg base CX0 2 f fd a_law_world spWorld := by
  refine FF.ok sc_law_world (fun vs H Q E h => ?_) (fun cdv A outer s H vs Q E hr h => ?_)
  · obtain ⟨d, mo, fc, rfl, _⟩ := h
    rfl
  · obtain ⟨d, mo, fc, rfl, hd, m1, m8, f0, f8, k⟩ := h
    refine ⟨_, (pss_cons (ps_set (i := 3) sc_law_world.nd rfl (.inl rfl) (pe_op op_add pe_int (pe_callH h_law_take (hr.mono (by omega)) (pa_cons (pv 0) (pa_cons (pv 1) pa_nil)))))
      (pss_cons (ps_setLc (i := 5) (own := [("state", 4)]) (g := gName 4) rfl sc_law_world.nd rfl rfl (sw_true rfl rfl rfl (by decide +kernel)) (pi_range1 rfl T.z_range (pa_cons (pv 3) pa_nil)) (blkOk_by (own := [("state", 4)]) (N := n_law_world) (sc := defScope s_law_world) (by decide +kernel)) (fun _ _ _ _ _ => (pg_name (i := 4) sc_law_world.nd rfl (.inl rfl))) (fun _ _ _ _ _ => pts_nil) (fun _ _ _ _ _ => (pe_lc (own := [("fact", 9)]) (g := gName 9) rfl sc_law_world.nd (pi_range1 rfl T.z_range (pa_cons (pv 2) pa_nil)) (blkOk_by (own := [("fact", 9)]) (N := n_law_world) (sc := { kind := PySem.ScopeKind.function, names := [ (PySem.Str.ofString ".0", PySem.NameKind.local), (PySem.Str.ofString "state", PySem.NameKind.local), (PySem.Str.ofString "range", PySem.NameKind.globalImplicit), (PySem.Str.ofString "draws", PySem.NameKind.cell), (PySem.Str.ofString "facts", PySem.NameKind.cell)], isGenerator := false, isCoroutine := false, more := [] : PySem.Scope }) (by decide +kernel)) (fun _ _ _ _ _ => (pg_name (i := 9) sc_law_world.nd rfl (.inl rfl))) (fun _ _ _ _ _ => (pts_one (pt_cmpR op_eq (pe_callH h_law_take (hr.mono (by omega)) (pa_cons (pv 0) (pa_cons pe_int pa_nil))) pe_int (nomark _)))) (fun _ _ _ _ _ => (pv 9)))))
      (pss_cons (ps_set (i := 6) sc_law_world.nd rfl (.inl rfl) (pe_lst pa_nil))
      (pss_cons (ps_for PassesOwn.never rfl (pi_range1 rfl T.z_range (pa_cons (pv 3) pa_nil)) (pg_name (i := 4) sc_law_world.nd rfl (.inl rfl)) (pss_one (ps_for PassesOwn.never rfl (pi_range1 rfl T.z_range (pa_cons pe_int pa_nil)) (pg_name (i := 7) sc_law_world.nd rfl (.inl rfl)) (pss_one (ps_for PassesOwn.never rfl (pi_range1 rfl T.z_range (pa_cons (pv 3) pa_nil)) (pg_name (i := 8) sc_law_world.nd rfl (.inl rfl)) (pss_one (ps_if (pt_cmpR op_lt (pe_callH h_law_take (hr.mono (by omega)) (pa_cons (pv 0) (pa_cons (pe_op op_add pe_int (pv 3)) pa_nil))) pe_int (nomark _)) (pss_one (ps_expr (pe_bm PySem.F.plainAttrs_list PySem.F.slot_list_append PySem.F.type_list_append mt_append (pv 6) (pa_cons (pe_tup (pa_cons (pv 4) (pa_cons (pv 7) (pa_cons (pv 8) pa_nil)))) pa_nil)))) pss_nil)))))))
      (pss_one (ps_ret (pe_tup (pa_cons (pv 5) (pa_cons (pv 6) pa_nil))))))))), ?_⟩
    refine ⟨.ref d, rfl, .int mo, rfl, d, mo, rfl, hd, by omega, fun v1 H1 v10 v1m b1 d1 => ⟨1, v1, rfl, rfl, ?_⟩⟩
    obtain ⟨n, hn⟩ : ∃ n : Nat, 1 + v1 = (n : Int) := ⟨(1 + v1).toNat, by omega⟩
    show gName 3 (V.int (1 + v1)) _ _ _
    rw [hn]
    have n1 : 1 ≤ n := by omega
    have n8 : n ≤ 8 := by omega
    refine ⟨.int (n : Nat), rfl, (n : Nat), rfl, by omega, by omega, fun D hD => ?_⟩
    have dD : D ≠ d := d1.ne hD
    refine lc_range (lo := 0) (n := ((n : Int)).toNat) (fun i G => But d H1 G ∧ Draws G d ∧ ∃ (fas : List Addr) (Xs : List (List Int)), G D = some (.lst (fas.map V.ref)) ∧ fas.length = i ∧ FAt G fas Xs ∧ (∀ a ∈ fas, a ≠ d ∧ a ≠ D) ∧ ∀ X ∈ Xs, X.length ≤ 8 ∧ RowUp fc X)
      ⟨Same.but (Same.new hD), d1.same (Same.new hD), [], [], upd_same, rfl, FAt.nil _, fun a h => (by cases h), fun X h => (by cases h)⟩ ?_ ?_
    · rintro i G hi ⟨bG, dG, fas, Xs, gD, li, fa, ne, x8⟩
      rw [Int.toNat_natCast] at hi
      refine ⟨rfl, ?_⟩
      refine ⟨.int fc, rfl, fc, rfl, by omega, by omega, fun D2 hD2 => ?_⟩
      have dD2 : D2 ≠ d := dG.ne hD2
      have dDD : D2 ≠ D := fun e => by rw [e, gD] at hD2; cases hD2
      refine lc_range (lo := 0) (n := fc.toNat) (fun j G2 => But d G G2 ∧ Draws G2 d ∧ ∃ X : List Int, IL G2 D2 X ∧ X.length ≤ j ∧ RowUp j X)
        ⟨Same.but (Same.new hD2), dG.same (Same.new hD2), [], upd_same, Nat.le_refl 0, List.Pairwise.nil, fun x hx => (by cases hx)⟩ ?_ ?_
      · rintro j G2 hj ⟨bG2, dG2, X, gD2, lX, rX⟩
        refine ⟨rfl, ?_⟩
        refine ⟨.ref d, rfl, d, 2, rfl, dG2, by decide, fun v2 H2 v20 v22 b2 d2 => ⟨rfl, _, rfl, ?_⟩⟩
        have gD2' := b2 _ _ dD2 gD2
        refine ite2 (fun c => ?_) (fun c => ?_)
        · refine ⟨_, rfl, _, gD2', by rw [List.length_map]; exact small1000 (by omega), fun b o nb e => ?_, ?_, X ++ [0 + (j : Int)], ?_, by rw [List.length_append]; exact Nat.succ_le_succ lX, ?_⟩
          · rw [upd_ne (ne_of_none e hD2)]
            exact b2 _ _ nb (bG2 _ _ nb e)
          · obtain ⟨ds, e⟩ := d2
            exact ⟨ds, by rw [upd_ne dD2.symm]; exact e⟩
          · show _ = _
            rw [upd_same, List.map_append]
            rfl
          · refine ⟨List.pairwise_append.mpr ⟨rX.1, List.pairwise_singleton _ _, fun a ha b hb => ?_⟩, fun x hx => ?_⟩
            · rw [List.mem_singleton.mp hb]
              have := (rX.2 a ha).2
              omega
            · rcases List.mem_append.mp hx with hx | hx
              · have := rX.2 x hx
                omega
              · rw [List.mem_singleton.mp hx]
                omega
        · exact ⟨bG2.trans b2, d2, X, gD2', Nat.le_succ_of_le lX, rX.1, fun x hx => by have := rX.2 x hx; omega⟩
      · rintro G2 ⟨bG2, dG2, X, gD2, lX, rX⟩
        have gD' := bG2 _ _ dD gD
        refine ⟨_, gD', by rw [List.length_map]; exact small1000 (by omega), fun b o nb e => ?_, ?_, fas ++ [D2], Xs ++ [X], by rw [upd_same, List.map_append]; rfl, by rw [List.length_append, li]; rfl, FAt.snoc (fa.map fun a o ha e => ?_) ?_, fun a ha => ?_, fun Y hY => ?_⟩
        · rw [upd_ne (ne_of_none e hD)]
          exact bG2 _ _ nb (bG _ _ nb e)
        · obtain ⟨ds, e⟩ := dG2
          exact ⟨ds, by rw [upd_ne dD.symm]; exact e⟩
        · rw [upd_ne (ne a ha).2]
          exact bG2 _ _ (ne a ha).1 e
        · show _ = _
          rw [upd_ne dDD]
          exact gD2
        · rcases List.mem_append.mp ha with ha | ha
          · exact ne a ha
          · rw [List.mem_singleton.mp ha]
            exact ⟨dD2, dDD⟩
        · rcases List.mem_append.mp hY with hY | hY
          · exact x8 Y hY
          · rw [List.mem_singleton.mp hY]
            refine ⟨by omega, rX.1, fun x hx => ?_⟩
            have := rX.2 x hx
            omega
    · rintro G0 ⟨bG0, dG0, fas, Xs, gD, li, fa, ne, x8⟩
      rw [Int.toNat_natCast] at li
      refine ⟨Nat.zero_le _, fun L hL => ?_⟩
      have s2 := Same.new (o := .lst []) hL
      have dL : L ≠ d := dG0.ne hL
      have bH := bG0.trans (Same.but s2)
      refine ⟨.int (n : Nat), rfl, (n : Nat), rfl, by omega, by omega, ?_⟩
      refine for_range (lo := 0) (n := ((n : Int)).toNat) (fun i σ G => ∃ (y4 y7 y8 y9 : Option V) (pas : List Addr) (ps : List (Int × Int × Int)), σ = [some (.ref d), some (.int mo), some (.int fc), some (.int (n : Nat)), y4, some (.ref D), some (.ref L), y7, y8, y9] ∧
          But d G0 G ∧ Draws G d ∧ G L = some (.lst (pas.map V.ref)) ∧ PAt G pas ps ∧ (∀ a ∈ pas, a ≠ d ∧ a ≠ L) ∧ ps.length ≤ i * 16 ∧ ps.Pairwise (fun x y => lex3 x y = true) ∧ ∀ p ∈ ps, StUp n ((i : Int), 0, 0) p)
        ⟨_, _, _, _, [], [], rfl, Same.but s2, dG0.same s2, upd_same, PAt.nil _, fun a h => (by cases h), Nat.zero_le _, List.Pairwise.nil, fun p h => (by cases h)⟩ ?_ ?_
      · rintro i σ G hi ⟨y4, y7, y8, y9, pas, ps, rfl, bG, dG, gL, pAt, ne2, pl, pw, pg⟩
        rw [Int.toNat_natCast] at hi
        refine ⟨2, rfl, by omega, by omega, ?_⟩
        refine for_range (lo := 0) (n := 2) (fun j σ G => ∃ (y7 y8 y9 : Option V) (pas : List Addr) (ps : List (Int × Int × Int)), σ = [some (.ref d), some (.int mo), some (.int fc), some (.int (n : Nat)), some (.int (0 + (i : Int))), some (.ref D), some (.ref L), y7, y8, y9] ∧
            But d G0 G ∧ Draws G d ∧ G L = some (.lst (pas.map V.ref)) ∧ PAt G pas ps ∧ (∀ a ∈ pas, a ≠ d ∧ a ≠ L) ∧ ps.length ≤ i * 16 + j * 8 ∧ ps.Pairwise (fun x y => lex3 x y = true) ∧ ∀ p ∈ ps, StUp n ((i : Int), (j : Int), 0) p)
          ⟨_, _, _, pas, ps, rfl, bG, dG, gL, pAt, ne2, pl, pw, pg⟩ ?_ ?_
        · clear bG dG gL pAt ne2 pl pw pg
          rintro j σ G hj ⟨y7, y8, y9, pas, ps, rfl, bG, dG, gL, pAt, ne2, pl, pw, pg⟩
          refine ⟨.int (n : Nat), rfl, (n : Nat), rfl, by omega, by omega, ?_⟩
          refine for_range (lo := 0) (n := ((n : Int)).toNat) (fun o σ G => ∃ (y8 y9 : Option V) (pas : List Addr) (ps : List (Int × Int × Int)), σ = [some (.ref d), some (.int mo), some (.int fc), some (.int (n : Nat)), some (.int (0 + (i : Int))), some (.ref D), some (.ref L), some (.int (0 + (j : Int))), y8, y9] ∧
              But d G0 G ∧ Draws G d ∧ G L = some (.lst (pas.map V.ref)) ∧ PAt G pas ps ∧ (∀ a ∈ pas, a ≠ d ∧ a ≠ L) ∧ ps.length ≤ i * 16 + j * 8 + o ∧ ps.Pairwise (fun x y => lex3 x y = true) ∧ ∀ p ∈ ps, StUp n ((i : Int), (j : Int), (o : Int)) p)
            ⟨_, _, pas, ps, rfl, bG, dG, gL, pAt, ne2, pl, pw, pg⟩ ?_ ?_
          · clear bG dG gL pAt ne2 pl pw pg
            rintro o σ G ho ⟨y8, y9, pas, ps, rfl, bG, dG, gL, pAt, ne2, pl, pw, pg⟩
            rw [Int.toNat_natCast] at ho
            refine ⟨.ref d, rfl, .int (n : Nat), rfl, 2, _, rfl, rfl, d, _, rfl, dG, by omega, fun v3 H3 v30 v3m b3 d3 => ⟨_, _, rfl, rfl, _, rfl, ?_⟩⟩
            have gL3 := b3 _ _ dL gL
            refine ite2 (fun c => ?_) (fun c => ?_)
            · refine ⟨.ref L, rfl, .inl ⟨rfl, _, SqL.of gL3⟩, _, rfl, _, rfl, _, rfl, by show 3 ≤ sizeLine; decide, fun p hp => ?_⟩
              have s4 := Same.new (o := .tup [.int (0 + (i : Int)), .int (0 + (j : Int)), .int (0 + (o : Int))]) hp
              have gL4 := s4 _ _ gL3
              have pd : p ≠ d := d3.ne hp
              have pL : p ≠ L := fun e => by rw [e, gL3] at hp; cases hp
              refine ⟨L, _, _, rfl, rfl, gL4, by rw [List.length_map, pAt.1]; exact small1000 (by omega), ?_⟩
              refine ⟨_, _, pas ++ [p], ps ++ [(0 + (i : Int), 0 + (j : Int), 0 + (o : Int))], rfl, fun b u nb e => ?_, ?_, by rw [upd_same, List.map_append]; rfl, PAt.snoc (pAt.map fun a u ha e => ?_) ?_, fun a ha => ?_, by rw [List.length_append, List.length_singleton]; omega, ?_, fun q hq => ?_⟩
              · rw [upd_ne (ne_of_none e hL)]
                exact s4 _ _ (b3 _ _ nb (bG _ _ nb e))
              · obtain ⟨ds, e⟩ := d3.same s4
                exact ⟨ds, by rw [upd_ne dL.symm]; exact e⟩
              · rw [upd_ne (ne2 a ha).2]
                exact s4 _ _ (b3 _ _ (ne2 a ha).1 e)
              · rw [upd_ne pL]
                exact upd_same
              · rcases List.mem_append.mp ha with ha | ha
                · exact ne2 a ha
                · rw [List.mem_singleton.mp ha]
                  exact ⟨pd, pL⟩
              · refine List.pairwise_append.mpr ⟨pw, List.pairwise_singleton _ _, fun a ha b hb => ?_⟩
                rw [List.mem_singleton.mp hb, Int.zero_add, Int.zero_add, Int.zero_add]
                exact (pg a ha).2.2.2.2.2.2
              · rcases List.mem_append.mp hq with hq | hq
                · exact (pg q hq).up fun z => by unfold Lt3 at *; simp only at *; omega
                · rw [List.mem_singleton.mp hq, Int.zero_add, Int.zero_add, Int.zero_add]
                  refine ⟨by simp only; omega, by simp only; omega, by simp only; omega, by simp only; omega, by simp only; omega, by simp only; omega, lex3_iff.mpr ?_⟩
                  exact .inr ⟨rfl, .inr ⟨rfl, by show (o : Int) < ((o + 1 : Nat) : Int); omega⟩⟩
            · exact ⟨_, _, pas, ps, rfl, bG.trans b3, d3, gL3, pAt.map fun a u ha e => b3 _ _ (ne2 a ha).1 e, ne2, by omega, pw, fun q hq => (pg q hq).up fun z => by unfold Lt3 at *; simp only at *; omega⟩
          · rintro σ G ⟨y8, y9, pas, ps, rfl, bG, dG, gL, pAt, ne2, pl, pw, pg⟩
            rw [Int.toNat_natCast] at pl pg
            exact ⟨_, _, _, pas, ps, rfl, bG, dG, gL, pAt, ne2, by omega, pw, fun q hq => (pg q hq).up fun z => by unfold Lt3 at *; simp only at *; omega⟩
        · rintro σ G ⟨y7, y8, y9, pas, ps, rfl, bG, dG, gL, pAt, ne2, pl, pw, pg⟩
          exact ⟨_, _, _, _, pas, ps, rfl, bG, dG, gL, pAt, ne2, by omega, pw, fun q hq => (pg q hq).up fun z => by have := (pg q hq).2.2.2.1; unfold Lt3 at *; simp only at *; omega⟩
      · rintro σ G ⟨y4, y7, y8, y9, pas, ps, rfl, bG, dG, gL, pAt, ne2, pl, pw, pg⟩
        rw [Int.toNat_natCast] at pl pg
        refine ⟨_, rfl, _, rfl, by show 2 ≤ sizeLine; decide, fun p hp => ?_⟩
        have s5 := Same.new (o := .tup [.ref D, .ref L]) hp
        have eL : Xs.length = n := by rw [← fa.1]; exact li
        refine k p D L fas pas ⟨Xs, ps⟩ _ (b1.trans ((bG0.trans bG).trans (Same.but s5))) (dG.same s5) ⟨upd_same, s5 _ _ (bG _ _ dD gD), s5 _ _ gL, fa.map fun a u ha e => s5 _ _ (bG _ _ (ne a ha).1 e), pAt.map fun a u _ e => s5 _ _ e⟩ dD dL (fun a ha => (ne a ha).1) ⟨?_, ?_, ?_, ?_, fun X hX => (x8 X hX).1⟩ ⟨fun X hX => (x8 X hX).2, pw, fun q hq => ?_⟩ (by show ((Xs.length : Nat) : Int) ≤ mo; omega)
        · intro q hq
          show 0 ≤ q.2.2 ∧ q.2.2 < ((Xs.length : Nat) : Int)
          rw [eL]
          have := pg q hq
          exact ⟨this.2.2.2.2.1, this.2.2.2.2.2.1⟩
        · show 1 ≤ Xs.length
          omega
        · show Xs.length ≤ 8
          omega
        · show ps.length ≤ 200
          omega
        · show StUp Xs.length (((Xs.length : Nat) : Int), 0, 0) q
          rw [eL]
          exact pg q hq
/-! ### where the steps lead -/
def spBehind (K : PySem.W.Frag) : Sp := fun vs H Q _ => ∃ (v : V) (W : Wd) (s l : Int), vs = [v, .int s, .int l] ∧ WAt H v W ∧ W.steps.length ≤ 200 ∧
  ∀ (b : Addr) H', Same H H' → H b = none → IL H' b (W.beh s l) → Q (.ref b) H'
theorem beh_snoc (ps : List (Int × Int × Int)) (p : Int × Int × Int) (s l : Int) :
    ((ps ++ [p]).filter fun p => decide (p.1 = s) && decide (p.2.1 = l)).map (fun p => p.2.2) = (ps.filter fun p => decide (p.1 = s) && decide (p.2.1 = l)).map (fun p => p.2.2) ++ (if (decide (p.1 = s) && decide (p.2.1 = l)) = true then [p.2.2] else []) := by
  rw [List.filter_append, List.map_append]
  congr 1
  cases c : decide (p.1 = s) && decide (p.2.1 = l)
  · simp [c]
  · simp [c]
theorem ok_law_behind {f : Addr} {fd : FuncData} (FF : Fun K "_law_behind" "_law_behind" s_law_behind f fd) (T : Txt K mg C J B) : FnOk P w K mg base CX0 1 f fd a_law_behind (spBehind K) := by
  refine FF.ok sc_law_behind (fun vs H Q E h => ?_) (fun cdv A outer s H vs Q E hr h => ?_)
  · obtain ⟨v, W, s, l, rfl, _⟩ := h
    rfl
  · obtain ⟨v, W, x, l, rfl, hW, hs, k⟩ := h
    refine ⟨_, (pss_one (ps_ret (pe_lc (own := [("step", 3)]) (g := gName 3) rfl sc_law_behind.nd (pi_list (pe_ix ix_tup (pv 0) pe_int (fun _ _ => rfl))) (blkOk_by (own := [("step", 3)]) (N := n_law_behind) (sc := defScope s_law_behind) (by decide +kernel)) (fun _ _ _ _ _ => (pg_name (i := 3) sc_law_behind.nd rfl (.inl rfl))) (fun _ _ _ _ _ => (pts_one (PW.pt (pw_and (pt_cmpR op_eq (pe_ix (@id (IxR _ (rIxT K)) ix_tup) (pv 3) pe_int (fun _ _ => rfl)) (pv 1) (nomark _)) (pw_and1 (pt_cmpR op_eq (pe_ix (@id (IxR _ (rIxT K)) ix_tup) (pv 3) pe_int (fun _ _ => rfl)) (pv 2) (nomark _))))))) (fun _ _ _ _ _ => (pe_ix (@id (IxR _ (rIxT K)) ix_tup) (pv 3) pe_int (fun _ _ => rfl)))))), ?_⟩
    obtain ⟨wa, sa, pa, fas, pas, rfl, X⟩ := hW
    refine ⟨.ref wa, rfl, wa, _, _, .ref pa, rfl, rfl, SqT.of X.w, rfl, pa, rfl, ⟨_, SqL.of X.p⟩, fun D hD => ?_⟩
    refine lc_list (xs := pas.map V.ref) (fun i G => Same H G ∧ IL G D (((W.steps.take i).filter fun p => decide (p.1 = x) && decide (p.2.1 = l)).map fun p => p.2.2)) ⟨Same.new hD, upd_same⟩ (fun i G _ q => SqL.of (q.1 _ _ X.p)) ?_ ?_
    · rintro i y G hy ⟨sG, gD⟩
      have XG := X.same sG
      obtain ⟨a, ha, rfl⟩ : ∃ a, pas[i]? = some a ∧ V.ref a = y := by
        rw [List.getElem?_map] at hy
        cases e : pas[i]? with
        | none => rw [e] at hy; cases hy
        | some a => rw [e] at hy; exact ⟨a, rfl, Option.some.inj hy⟩
      have il : i < W.steps.length := by rw [← X.t.1]; exact get_len ha
      obtain ⟨p, hp⟩ : ∃ p, W.steps[i]? = some p := ⟨W.steps[i], by simp [il]⟩
      have at_ := XG.t.2 i a p ha hp
      have nx : (W.steps.take (i + 1)) = W.steps.take i ++ [p] := by rw [List.take_add_one, hp]; rfl
      have sz : (((W.steps.take i).filter fun p => decide (p.1 = x) && decide (p.2.1 = l)).map fun p => p.2.2).length ≤ 200 := by
        rw [List.length_map]
        refine Nat.le_trans (List.length_filter_le _ _) ?_
        rw [List.length_take]
        omega
      rw [nx, beh_snoc]
      refine ⟨rfl, ?_⟩
      refine ⟨.ref a, rfl, a, _, _, _, rfl, rfl, SqT.of at_, rfl, .int x, rfl, rfl, _, rfl, ?_⟩
      by_cases c1 : p.1 = x
      · refine (if_pos (decide_eq_true (congrArg V.int c1))).mpr ?_
        refine ⟨.ref a, rfl, a, _, _, _, rfl, rfl, SqT.of at_, rfl, .int l, rfl, rfl, _, rfl, ?_⟩
        by_cases c2 : p.2.1 = l
        · refine (if_pos (decide_eq_true (congrArg V.int c2))).mpr ?_
          refine ⟨.ref a, rfl, a, _, _, _, rfl, rfl, SqT.of at_, rfl, _, gD, by rw [List.length_map]; exact small1000 (by omega), fun b o e => by rw [upd_ne (ne_of_none e hD)]; exact sG b o e, ?_⟩
          show _ = _
          rw [upd_same, decide_eq_true c1, decide_eq_true c2, List.map_append]
          rfl
        · refine (if_neg (by rw [decide_eq_false (fun e : V.int p.2.1 = V.int l => c2 (by injection e))]; exact Bool.false_ne_true)).mpr ?_
          refine ⟨sG, ?_⟩
          rw [decide_eq_false c2, Bool.and_false, if_neg Bool.false_ne_true, List.append_nil]
          exact gD
      · refine (if_neg (by rw [decide_eq_false (fun e : V.int p.1 = V.int x => c1 (by injection e))]; exact Bool.false_ne_true)).mpr ?_
        refine ⟨sG, ?_⟩
        rw [decide_eq_false c1, Bool.false_and, if_neg Bool.false_ne_true, List.append_nil]
        exact gD
    · rintro G ⟨sG, gD⟩
      rw [List.length_map, X.t.1, List.take_length] at gD
      exact k D G sG hD gD
end
theorem PAt.butD {H H' : Hp} {d : Addr} {as : List Addr} {ts : List T3} (dr : Draws H d) (b : But d H H') (h : PAt H as ts) : PAt H' as ts := by
  obtain ⟨ds, q⟩ := dr
  exact ⟨h.1, fun i a p e1 e2 => b _ _ (ne_of (h.2 i a p e1 e2) q (by intro z; cases z)) (h.2 i a p e1 e2)⟩
theorem WAx.butD {H H' : Hp} {d wa sa pa : Addr} {fas pas : List Addr} {W : Wd} (dr : Draws H d) (b : But d H H') (n1 : sa ≠ d) (n2 : pa ≠ d) (n3 : ∀ a ∈ fas, a ≠ d) (h : WAx H wa sa pa fas pas W) : WAx H' wa sa pa fas pas W := by
  have pt := h.t.butD dr b
  obtain ⟨ds, q⟩ := dr
  exact ⟨b _ _ (ne_of h.w q (by intro z; cases z)) h.w, b _ _ n1 h.s, b _ _ n2 h.p, h.f.map fun a o ha e => b _ _ (n3 a ha) e, pt⟩
end Fw

set_option maxRecDepth 100000
set_option maxHeartbeats 8000000
namespace Fw
open PySem PySem.Spec PyProof.Rows L2
theorem nd_putW {kvs : List (Key × V)} {k : Key} {v : V} (h : (kvs.map (·.1)).Nodup) : ((putK kvs k v).map (·.1)).Nodup := by
  cases e : valV kvs k with
  | none => exact nd_putK v h e
  | some u =>
    have : (putK kvs k v).map (·.1) = kvs.map (·.1) := by
      unfold putK
      rw [valV_any, e]
      simp only [Option.isSome_some, if_true, List.map_map]
      refine List.map_congr_left fun x _ => ?_
      simp only [Function.comp]
      split <;> rfl
    rw [this]
    exact h
theorem valV_atW : ∀ {kvs : List (Key × V)} {i : Nat} {k : Key} {v : V}, (kvs.map (·.1)).Nodup → kvs[i]? = some (k, v) → valV kvs k = some v ∧ valV (kvs.take i) k = none
  | [], i, k, v, _, h => by simp at h
  | p :: r, 0, k, v, _, h => by
    cases h
    exact ⟨valV_pos rfl, rfl⟩
  | p :: r, i + 1, k, v, nd, h => by
    have nd' := List.nodup_cons.mp (show (p.1 :: r.map (·.1)).Nodup from nd)
    have ih := valV_atW nd'.2 (show r[i]? = some (k, v) from h)
    have ne : ¬ p.1 = k := fun e => nd'.1 (by rw [e]; exact List.mem_map.mpr ⟨(k, v), List.mem_of_getElem? (show r[i]? = some (k, v) from h), rfl⟩)
    exact ⟨by rw [valV_neg ne]; exact ih.1, by rw [List.take_succ_cons, valV_neg ne]; exact ih.2⟩
theorem rgV_rng (n : Nat) : rgV 0 (n : Int) = (rng n).map V.int := by
  unfold rgV rng
  rw [Int.sub_zero, Int.toNat_natCast, List.map_map]
  refine List.map_congr_left fun i _ => ?_
  show V.int (0 + (i : Int)) = V.int (i : Int)
  rw [Int.zero_add]
theorem kF {a b : Str} {A B : Prop} (n : a ≠ b) (h : B) : if decide (V.str a = V.str b) = true then A else B :=
  (if_neg (by rw [decide_eq_false (fun e : V.str a = V.str b => n (by injection e))]; exact Bool.false_ne_true)).mpr h
theorem kT {a : Str} {A B : Prop} (h : A) : if decide (V.str a = V.str a) = true then A else B := (if_pos (decide_eq_true rfl)).mpr h
/-- a list of those items of a list of numbers that a test takes -/
theorem lc_fil {K : PySem.W.Frag} {la : Addr} {X : List Int} {g : TG} {tt : TT} {te : TE} {vs : List Nat} {σ : L2.St} {H0 : Hp} {D : Addr} {Qd : Hp → Prop} (p : Int → Bool)
    (hl : IL H0 la X) (hD : H0 D = none) (hX : X.length ≤ 200)
    (hs : ∀ x ∈ X, ∀ (G : Hp) (Y : VK) (N : Hp → Prop), Same H0 G → (p x = true → ∀ G', Same G G' → Y (.int x) G') → (p x = false → ∀ G', Same G G' → N G') →
      g (.int x) (wipe σ vs) G fun σ2 H2 => wipe σ2 vs = wipe σ vs ∧ tt σ2 H2 fun b H3 => if b = true then te σ2 H3 Y else N H3)
    (hd : ∀ G, Same H0 G → IL G D (X.filter p) → Qd G) :
    ∃ Wm : Nat → Nat → Hp → Prop, (∃ k, Wm 0 k (upd H0 D (.lst []))) ∧ ∀ i k G, Wm i k G →
      ((Itl K la).stop i G ∧ Qd G) ∨
      ((Itl K la).go i G ∧ ∃ Nn : Hp → Prop, (∀ G', Nn G' → ∃ k', k' < k ∧ Wm (i + 1) k' G') ∧ ∀ x G', (Itl K la).yld i G x G' →
        g x (wipe σ vs) G' fun σ2 G2 => wipe σ2 vs = wipe σ vs ∧ tt σ2 G2 fun b G3 =>
          if b = true then te σ2 G3 fun y G4 => ∃ ys, G4 D = some (.lst ys) ∧ ys.length < sizeLine ∧ Nn (upd G4 D (.lst (ys ++ [y])))
          else Nn G3) := by
  refine lc_list (xs := X.map V.int) (fun i G => Same H0 G ∧ IL G D ((X.take i).filter p)) ⟨Same.new hD, upd_same⟩ (fun i G _ q => SqL.of (q.1 _ _ hl)) ?_ ?_
  · rintro i y G hy ⟨sG, gD⟩
    obtain ⟨x, hx, rfl⟩ : ∃ x, X[i]? = some x ∧ V.int x = y := by
      rw [List.getElem?_map] at hy
      cases e : X[i]? with
      | none => rw [e] at hy; cases hy
      | some x => rw [e] at hy; exact ⟨x, rfl, Option.some.inj hy⟩
    have nx : X.take (i + 1) = X.take i ++ [x] := by rw [List.take_add_one, hx]; rfl
    have sz : ((X.take i).filter p).length ≤ 200 := by
      refine Nat.le_trans (List.length_filter_le _ _) ?_
      rw [List.length_take]
      omega
    refine hs x (List.mem_of_getElem? hx) G _ _ sG (fun c G' s' => ⟨_, s' _ _ gD, by rw [List.length_map]; exact small1000 (by omega), fun b o e => by rw [upd_ne (ne_of_none e hD)]; exact s' _ _ (sG b o e), ?_⟩) (fun c G' s' => ⟨sG.trans s', ?_⟩)
    · show _ = _
      rw [upd_same, nx, List.filter_append, List.map_append, List.filter_cons_of_pos c]
      rfl
    · rw [nx, List.filter_append, List.filter_cons_of_neg (by rw [c]; exact Bool.false_ne_true)]
      rw [show List.filter p [] = [] from rfl, List.append_nil]
      exact s' _ _ gD
  · rintro G ⟨sG, gD⟩
    rw [List.length_map, List.take_length] at gD
    exact hd G sG gD
def spVal (K : PySem.W.Frag) : Nat → Sp
  | 0 => fun _ _ _ _ => False
  | n + 1 => fun vs H Q _ => ∃ (v sv : V) (W : Wd) (t : F) (na : Addr) (kvs : List (Key × V)) (e : Int → List Int), vs = [v, sv, .ref na] ∧ WAt H v W ∧ W.Fit ∧ IsF K H sv t ∧ t.depth ≤ n + 1 ∧ H na = some (.dK kvs) ∧ kvs.length + n ≤ 100 ∧ (kvs.map (·.1)).Nodup ∧
      (∀ x ∈ fv t, ∃ a, valV kvs (Sum.inl x) = some (.ref a) ∧ IL H a (e x)) ∧
      ∀ (a : Addr) H', Same H H' → IL H' a (val W t e) → Q (.ref a) H'
section
variable {P : Program} {w : World} {K : PySem.W.Frag} {mg : Str → Option Value} {base : Heap} {C J B NC FE OD : Addr}
theorem ok_law_value {f : Addr} {fd : FuncData} (n : Nat) (FF : Fun K "_law_value" "_law_value" s_law_value f fd) (T : Txt K mg C J B) (h_law_behind : Has P w K mg base "_law_behind" 1 a_law_behind (spBehind K))
    (h_law_value : Has P w K mg base "_law_value" (n + 2) a_law_value (spVal K n)) : FnOk P w K mg base CX0 (n + 3) f fd a_law_value (spVal K (n + 1)) := by
  refine FF.ok sc_law_value (fun vs H Q E h => ?_) (fun cdv A outer s H vs Q E hr h => ?_)
  · obtain ⟨v, sv, W, t, na, kvs, e, rfl, _⟩ := h
    rfl
  · obtain ⟨v, sv, W, t, na, kvs, e, rfl, hW, fit, ht, hdep, hN, hkl, hnd, henv, k⟩ := h
    have hu := hu_of hr
    refine ⟨_, (pss_cons (ps_set (i := 3) sc_law_value.nd rfl (.inl rfl) (pe_listRg rfl rfl T.z_list (prg_1 rfl T.z_range (pe_callB call_len_seq rfl T.z_len (by decide +kernel) (pa_cons (pe_ix ix_tup (pv 0) pe_int (fun _ _ => rfl)) pa_nil)))))
      (pss_cons (ps_set (i := 4) sc_law_value.nd rfl (.inl rfl) (pe_ix ix_tup (pv 1) pe_int (fun _ _ => rfl)))
      (pss_cons (ps_if (pt_cmpR op_eq (pv 4) pe_str (nomark _)) (pss_one (ps_ret (pv 3))) pss_nil)
      (pss_cons (ps_if (pt_cmpR op_eq (pv 4) pe_str (nomark _)) (pss_one (ps_ret (pe_lst pa_nil))) pss_nil)
      (pss_cons (ps_if (pt_cmpR op_eq (pv 4) pe_str (nomark _)) (pss_one (ps_ret (pe_lc (own := [("state", 11)]) (g := gName 11) rfl sc_law_value.nd (pi_list (pv 3)) (blkOk_by (own := [("state", 11)]) (N := n_law_value) (sc := defScope s_law_value) (by decide +kernel)) (fun _ _ _ _ _ => (pg_name (i := 11) sc_law_value.nd rfl (.inl rfl))) (fun _ _ _ _ _ => (pts_one (pt_cmpR (@id (OpR _ _ (rIn K false)) op_in_seq) (pe_ix (@id (IxR _ (rIxT K)) ix_tup) (pv 1) pe_int (fun _ _ => rfl)) (pe_ix (@id (IxR _ (rIxL K)) ix_list) (pe_ix (@id (IxR _ (rIxT K)) ix_tup) (pv 0) pe_int (fun _ _ => rfl)) (pv 11) (fun _ _ => rfl)) (by rfl)))) (fun _ _ _ _ _ => (pv 11))))) pss_nil)
      (pss_cons (ps_if (pt_cmpR op_eq (pv 4) pe_str (nomark _)) (pss_one (ps_ret (pe_lc (own := [("state", 11)]) (g := gName 11) rfl sc_law_value.nd (pi_list (pv 3)) (blkOk_by (own := [("state", 11)]) (N := n_law_value) (sc := defScope s_law_value) (by decide +kernel)) (fun _ _ _ _ _ => (pg_name (i := 11) sc_law_value.nd rfl (.inl rfl))) (fun _ _ _ _ _ => (pts_one (pt_cmpR (@id (OpR _ _ (rIn K true)) op_notIn_seq) (pe_ix (@id (IxR _ (rIxT K)) ix_tup) (pv 1) pe_int (fun _ _ => rfl)) (pe_ix (@id (IxR _ (rIxL K)) ix_list) (pe_ix (@id (IxR _ (rIxT K)) ix_tup) (pv 0) pe_int (fun _ _ => rfl)) (pv 11) (fun _ _ => rfl)) (by rfl)))) (fun _ _ _ _ _ => (pv 11))))) pss_nil)
      (pss_cons (ps_if (pt_cmpR op_eq (pv 4) pe_str (nomark _)) (pss_one (ps_ret (pe_dget hu (pv 2) (pe_ix ix_tup (pv 1) pe_int (fun _ _ => rfl)) (fun _ _ => rfl)))) pss_nil)
      (pss_cons (ps_if (pt_cmpR op_in_seq (pv 4) (pe_tup (pa_cons pe_str (pa_cons pe_str pa_nil))) (by rfl)) (pss_cons (ps_set (i := 5) sc_law_value.nd rfl (.inl rfl) (pe_lst pa_nil))
      (pss_cons (ps_if (pt_cmpR op_eq (pv 4) pe_str (nomark _)) (pss_one (ps_set (i := 5) sc_law_value.nd rfl (.inl rfl) (pe_callTy call_list_of rfl T.z_list (by decide +kernel) (pa_cons (pv 3) pa_nil)))) pss_nil)
      (pss_cons (ps_for PassesOwn.never rfl (pi_range1 rfl T.z_range (pa_cons (pe_op op_add (pe_callB call_len_seq rfl T.z_len (by decide +kernel) (pa_cons (pe_ix ix_tup (pv 0) pe_int (fun _ _ => rfl)) pa_nil)) pe_int) pa_nil)) (pg_name (i := 6) sc_law_value.nd rfl (.inl rfl)) (pss_cons (ps_set (i := 7) sc_law_value.nd rfl (.inl rfl) pe_dnewK)
      (pss_cons (ps_lock (ps_for PassesOwn.never rfl (pi_keys (pv 2)) (pg_name (i := 8) sc_law_value.nd rfl (.inl rfl)) (pss_one (ps_dput hu (pv 7) (pv 8) (pe_dget hu (pv 2) (pv 8) (fun _ _ => rfl)) rfl))))
      (pss_cons (ps_dput hu (pv 7) (pe_ix ix_tup (pv 1) pe_int (fun _ _ => rfl)) (pv 5) rfl)
      (pss_one (ps_set (i := 5) sc_law_value.nd rfl (.inl rfl) (pe_callH h_law_value (hr.mono (by omega)) (pa_cons (pv 0) (pa_cons (pe_ix ix_tup (pv 1) pe_int (fun _ _ => rfl)) (pa_cons (pv 7) pa_nil))))))))))
      (pss_one (ps_ret (pv 5)))))) pss_nil)
      (pss_cons (ps_set (i := 9) sc_law_value.nd rfl (.inr rfl) (pe_callH h_law_value (hr.mono (by omega)) (pa_cons (pv 0) (pa_cons (pe_ix ix_tup (pv 1) (pe_op op_sub (pe_callB call_len_seq rfl T.z_len (by decide +kernel) (pa_cons (pv 1) pa_nil)) pe_int) (fun _ _ => rfl)) (pa_cons (pv 2) pa_nil)))))
      (pss_cons (ps_if (pt_cmpR op_eq (pv 4) pe_str (nomark _)) (pss_one (ps_ret (pe_lc (own := [("state", 11)]) (g := gName 11) rfl sc_law_value.nd (pi_list (pv 3)) (blkOk_by (own := [("state", 11)]) (N := n_law_value) (sc := defScope s_law_value) (by decide +kernel)) (fun _ _ _ _ _ => (pg_name (i := 11) sc_law_value.nd rfl (.inl rfl))) (fun _ _ _ _ _ => (pts_one (pt_cmpR op_gt (pe_callB (@id (CallR _ _ (rLenS K)) call_len_seq) rfl T.z_len (by decide +kernel) (pa_cons (pe_lc (own := [("k", 12)]) (g := gName 12) rfl sc_law_value.nd (@id (PI _ _ _ (iList K _)) (pi_list (pe_callH h_law_behind (hr.mono (by omega)) (pa_cons (pv 0) (pa_cons (pv 11) (pa_cons (pe_ix (@id (IxR _ (rIxT K)) ix_tup) (pv 1) pe_int (fun _ _ => rfl)) pa_nil)))))) (blkOk_by (own := [("k", 12)]) (N := n_law_value) (sc := { kind := PySem.ScopeKind.function, names := [ (PySem.Str.ofString ".0", PySem.NameKind.local), (PySem.Str.ofString "state", PySem.NameKind.local), (PySem.Str.ofString "len", PySem.NameKind.globalImplicit), (PySem.Str.ofString "_law_behind", PySem.NameKind.globalImplicit), (PySem.Str.ofString "first", PySem.NameKind.cell), (PySem.Str.ofString "statement", PySem.NameKind.cell), (PySem.Str.ofString "world", PySem.NameKind.cell)], isGenerator := false, isCoroutine := false, more := [] : PySem.Scope }) (by decide +kernel)) (fun _ _ _ _ _ => (pg_name (i := 12) sc_law_value.nd rfl (.inl rfl))) (fun _ _ _ _ _ => (pts_one (pt_cmpR (@id (OpR _ _ (rIn K false)) op_in_seq) (pv 12) (pv 9) (by rfl)))) (fun _ _ _ _ _ => (pv 12))) pa_nil)) pe_int (nomark _)))) (fun _ _ _ _ _ => (pv 11))))) pss_nil)
      (pss_cons (ps_if (pt_cmpR op_eq (pv 4) pe_str (nomark _)) (pss_one (ps_ret (pe_lc (own := [("state", 11)]) (g := gName 11) rfl sc_law_value.nd (pi_list (pv 3)) (blkOk_by (own := [("state", 11)]) (N := n_law_value) (sc := defScope s_law_value) (by decide +kernel)) (fun _ _ _ _ _ => (pg_name (i := 11) sc_law_value.nd rfl (.inl rfl))) (fun _ _ _ _ _ => (pts_one (pt_cmpR op_eq (pe_callB (@id (CallR _ _ (rLenS K)) call_len_seq) rfl T.z_len (by decide +kernel) (pa_cons (pe_lc (own := [("k", 12)]) (g := gName 12) rfl sc_law_value.nd (@id (PI _ _ _ (iList K _)) (pi_list (pe_callH h_law_behind (hr.mono (by omega)) (pa_cons (pv 0) (pa_cons (pv 11) (pa_cons (pe_ix (@id (IxR _ (rIxT K)) ix_tup) (pv 1) pe_int (fun _ _ => rfl)) pa_nil)))))) (blkOk_by (own := [("k", 12)]) (N := n_law_value) (sc := { kind := PySem.ScopeKind.function, names := [ (PySem.Str.ofString ".0", PySem.NameKind.local), (PySem.Str.ofString "state", PySem.NameKind.local), (PySem.Str.ofString "len", PySem.NameKind.globalImplicit), (PySem.Str.ofString "_law_behind", PySem.NameKind.globalImplicit), (PySem.Str.ofString "first", PySem.NameKind.cell), (PySem.Str.ofString "statement", PySem.NameKind.cell), (PySem.Str.ofString "world", PySem.NameKind.cell)], isGenerator := false, isCoroutine := false, more := [] : PySem.Scope }) (by decide +kernel)) (fun _ _ _ _ _ => (pg_name (i := 12) sc_law_value.nd rfl (.inl rfl))) (fun _ _ _ _ _ => (pts_one (pt_cmpR (@id (OpR _ _ (rIn K true)) op_notIn_seq) (pv 12) (pv 9) (by rfl)))) (fun _ _ _ _ _ => (pv 12))) pa_nil)) pe_int (nomark _)))) (fun _ _ _ _ _ => (pv 11))))) pss_nil)
      (pss_cons (ps_set (i := 10) sc_law_value.nd rfl (.inr rfl) (pe_callH h_law_value (hr.mono (by omega)) (pa_cons (pv 0) (pa_cons (pe_ix ix_tup (pv 1) pe_int (fun _ _ => rfl)) (pa_cons (pv 2) pa_nil)))))
      (pss_cons (ps_if (pt_cmpR op_eq (pv 4) pe_str (nomark _)) (pss_one (ps_ret (pe_lc (own := [("state", 11)]) (g := gName 11) rfl sc_law_value.nd (pi_list (pv 3)) (blkOk_by (own := [("state", 11)]) (N := n_law_value) (sc := defScope s_law_value) (by decide +kernel)) (fun _ _ _ _ _ => (pg_name (i := 11) sc_law_value.nd rfl (.inl rfl))) (fun _ _ _ _ _ => (pts_one (PW.pt (pw_and (pt_cmpR (@id (OpR _ _ (rIn K false)) op_in_seq) (pv 11) (pv 9) (by rfl)) (pw_and1 (pt_cmpR (@id (OpR _ _ (rIn K false)) op_in_seq) (pv 11) (pv 10) (by rfl))))))) (fun _ _ _ _ _ => (pv 11))))) pss_nil)
      (pss_one (ps_ret (pe_lc (own := [("state", 11)]) (g := gName 11) rfl sc_law_value.nd (pi_list (pv 3)) (blkOk_by (own := [("state", 11)]) (N := n_law_value) (sc := defScope s_law_value) (by decide +kernel)) (fun _ _ _ _ _ => (pg_name (i := 11) sc_law_value.nd rfl (.inl rfl))) (fun _ _ _ _ _ => (pts_one (PW.pt (pw_or (pt_cmpR (@id (OpR _ _ (rIn K false)) op_in_seq) (pv 11) (pv 9) (by rfl)) (pw_or1 (pt_cmpR (@id (OpR _ _ (rIn K false)) op_in_seq) (pv 11) (pv 10) (by rfl))))))) (fun _ _ _ _ _ => (pv 11)))))))))))))))))), ?_⟩
    obtain ⟨a, ks, rfl, sq, ak⟩ := ht.open
    have at0 : atI (hv t.hd ++ ks) 0 = some (.str (hw t.hd)) := atI_nat (j := 0) (by rw [List.getElem?_append_left (by rcases hv_len t.hd with e | e <;> omega)]; exact hv_head _)
    obtain ⟨wa, sa, pa, fas, pas, rfl, X⟩ := hW
    have nW : ((fas.map V.ref).length : Int) = (W.n : Int) := by rw [List.length_map, X.f.1]; rfl
    refine ⟨.ref wa, rfl, wa, _, _, .ref sa, rfl, rfl, SqT.of X.w, rfl, sa, _, rfl, .inl (SqL.of X.s), _, rfl, ?_⟩
    rw [nW]
    refine ⟨.of_le (Int.le_refl 0) (by have := fit.n8; omega) (by omega) (by omega), fun la hla => ?_⟩
    rw [rgV_rng]
    have s1 := Same.new (o := .lst ((rng W.n).map V.int)) hla
    have gl1 : IL (upd H la (.lst ((rng W.n).map V.int))) la (rng W.n) := upd_same
    generalize upd H la (.lst ((rng W.n).map V.int)) = H1 at s1 gl1
    have X1 := X.same s1
    have sq1 := SqT.same s1 sq
    have ak1 := ak.lk (LKp.same s1)
    have hN1 := s1 _ _ hN
    have henv1 : ∀ x ∈ fv t, ∃ a, valV kvs (Sum.inl x) = some (.ref a) ∧ IL H1 a (e x) := fun x hx => by
      obtain ⟨b, b1, b2⟩ := henv x hx
      exact ⟨b, b1, s1 _ _ b2⟩
    have k1 : ∀ (a : Addr) H', Same H1 H' → IL H' a (val W t e) → Q (.ref a) H' := fun b H' s' g => k b H' (s1.trans s') g
    clear k henv hN sq X s1 hla ht ak
    refine ⟨.ref a, rfl, a, _, _, _, rfl, rfl, sq1, at0, ?_⟩
    cases t with
    | nul b =>
      cases b with
      | true =>
        refine ⟨.str "true", rfl, rfl, _, rfl, kT ?_⟩
        exact ⟨.ref la, rfl, k1 la _ (Same.refl _) gl1⟩
      | false =>
        refine ⟨.str "false", rfl, rfl, _, rfl, kF (by decide) ?_⟩
        refine ⟨.str "false", rfl, rfl, _, rfl, kT ?_⟩
        exact ⟨Nat.zero_le _, fun p hp => k1 p _ (Same.new hp) upd_same⟩
    | leaf kd x =>
      cases ak1
      have at1 : atI (hv (F.leaf kd x).hd ++ []) 1 = some (.int x) := atI_nat (j := 1) rfl
      cases kd with
      | has =>
        refine ⟨.str "has", rfl, rfl, _, rfl, kF (by decide) ?_⟩
        refine ⟨.str "has", rfl, rfl, _, rfl, kF (by decide) ?_⟩
        refine ⟨.str "has", rfl, rfl, _, rfl, kT ?_⟩
        refine ⟨.ref la, rfl, la, rfl, ⟨_, SqL.of gl1⟩, fun D hD => ?_⟩
        refine lc_fil (fun s => sIn (W.at s) x) gl1 hD (by rw [rng_len]; have := fit.n8; omega) (fun s hs G Y N sG hY hN' => ?_) (fun G sG g => k1 D G sG g)
        obtain ⟨j, hj, rfl⟩ : ∃ j : Nat, j < W.n ∧ s = (j : Int) := by
          have := rng_mem.mp hs
          exact ⟨s.toNat, by omega, by omega⟩
        obtain ⟨fa, hfa, hfx⟩ : ∃ fa, fas[j]? = some fa ∧ IL H1 fa (W.at (j : Int)) := by
          have jl : j < fas.length := by rw [X1.f.1]; exact hj
          refine ⟨fas[j], by simp [jl], ?_⟩
          refine X1.f.2 j _ _ (by simp [jl]) ?_
          unfold Wd.at
          rw [Int.toNat_natCast, List.getElem?_eq_getElem (by exact hj)]
          rfl
        refine ⟨rfl, .ref a, rfl, a, _, _, .int x, rfl, rfl, SqT.same sG sq1, at1, .ref wa, rfl, wa, _, _, .ref sa, rfl, rfl, SqT.of (sG _ _ X1.w), rfl, .int (j : Nat), rfl, sa, _, _, .ref fa, rfl, rfl, SqL.of (sG _ _ X1.s), atI_nat (j := j) (by rw [List.getElem?_map, hfa]; rfl), fa, _, rfl, .inl (SqL.of (sG _ _ hfx)), rfl, flat_ints _, _, rfl, ?_⟩
        rw [if_neg Bool.false_ne_true, in_ints]
        cases c : sIn (W.at (j : Int)) x with
        | true =>
          refine (if_pos c).mpr ?_
          exact ⟨_, rfl, hY c _ (Same.refl _)⟩
        | false =>
          refine (if_neg (by rw [show decide (x ∈ W.at (j : Int)) = false from c]; exact Bool.false_ne_true)).mpr ?_
          exact hN' c _ (Same.refl _)
      | lacks =>
        refine ⟨.str "lacks", rfl, rfl, _, rfl, kF (by decide) ?_⟩
        refine ⟨.str "lacks", rfl, rfl, _, rfl, kF (by decide) ?_⟩
        refine ⟨.str "lacks", rfl, rfl, _, rfl, kF (by decide) ?_⟩
        refine ⟨.str "lacks", rfl, rfl, _, rfl, kT ?_⟩
        refine ⟨.ref la, rfl, la, rfl, ⟨_, SqL.of gl1⟩, fun D hD => ?_⟩
        refine lc_fil (fun s => !sIn (W.at s) x) gl1 hD (by rw [rng_len]; have := fit.n8; omega) (fun s hs G Y N sG hY hN' => ?_) (fun G sG g => k1 D G sG g)
        obtain ⟨j, hj, rfl⟩ : ∃ j : Nat, j < W.n ∧ s = (j : Int) := by
          have := rng_mem.mp hs
          exact ⟨s.toNat, by omega, by omega⟩
        obtain ⟨fa, hfa, hfx⟩ : ∃ fa, fas[j]? = some fa ∧ IL H1 fa (W.at (j : Int)) := by
          have jl : j < fas.length := by rw [X1.f.1]; exact hj
          refine ⟨fas[j], by simp [jl], ?_⟩
          refine X1.f.2 j _ _ (by simp [jl]) ?_
          unfold Wd.at
          rw [Int.toNat_natCast, List.getElem?_eq_getElem (by exact hj)]
          rfl
        refine ⟨rfl, .ref a, rfl, a, _, _, .int x, rfl, rfl, SqT.same sG sq1, at1, .ref wa, rfl, wa, _, _, .ref sa, rfl, rfl, SqT.of (sG _ _ X1.w), rfl, .int (j : Nat), rfl, sa, _, _, .ref fa, rfl, rfl, SqL.of (sG _ _ X1.s), atI_nat (j := j) (by rw [List.getElem?_map, hfa]; rfl), fa, _, rfl, .inl (SqL.of (sG _ _ hfx)), rfl, flat_ints _, _, rfl, ?_⟩
        rw [if_pos rfl, in_ints]
        show if (!sIn (W.at (j : Int)) x) = true then _ else _
        cases c : !sIn (W.at (j : Int)) x with
        | true => exact iteT ⟨_, rfl, hY c _ (Same.refl _)⟩
        | false => exact iteF (hN' c _ (Same.refl _))
      | var =>
        refine ⟨.str "var", rfl, rfl, _, rfl, kF (by decide) ?_⟩
        refine ⟨.str "var", rfl, rfl, _, rfl, kF (by decide) ?_⟩
        refine ⟨.str "var", rfl, rfl, _, rfl, kF (by decide) ?_⟩
        refine ⟨.str "var", rfl, rfl, _, rfl, kF (by decide) ?_⟩
        refine ⟨.str "var", rfl, rfl, _, rfl, kT ?_⟩
        obtain ⟨b, hb, hx⟩ := henv1 x (List.mem_singleton.mpr rfl)
        have hget := DGet.k (k := Sum.inl x) hN1
        rw [hb] at hget
        exact ⟨.ref na, rfl, .ref a, rfl, a, _, 1, .int x, rfl, rfl, sq1, at1, na, _, rfl, hget, k1 b _ (Same.refl _) hx⟩
    | two b f g =>
      cases ak1 with
      | cons hf hn =>
      cases hn with
      | cons hg hn =>
      cases hn
      rename_i vf vg
      obtain ⟨m, rfl⟩ : ∃ m, n = m + 1 := by
        cases n with
        | zero => exact absurd hdep (by have : 0 < f.depth := (by cases f <;> simp [F.depth]); simp only [F.depth]; omega)
        | succ m => exact ⟨m, rfl⟩
      simp only [F.depth] at hdep
      cases b with
      | true =>
        refine ⟨.str "and", rfl, rfl, _, rfl, kF (by decide) ?_⟩
        refine ⟨.str "and", rfl, rfl, _, rfl, kF (by decide) ?_⟩
        refine ⟨.str "and", rfl, rfl, _, rfl, kF (by decide) ?_⟩
        refine ⟨.str "and", rfl, rfl, _, rfl, kF (by decide) ?_⟩
        refine ⟨.str "and", rfl, rfl, _, rfl, kF (by decide) ?_⟩
        refine ⟨.str "and", rfl, by show 2 ≤ sizeLine; decide, fun p hp => ⟨p, _, rfl, .inr (SqT.of upd_same), rfl, rfl, _, rfl, ?_⟩⟩
        have s2 := Same.new (o := .tup [.str "least", .str "most"]) hp
        generalize upd H1 p (.tup [.str "least", .str "most"]) = H2 at s2
        have X2 := X1.same s2
        have sq2 := SqT.same s2 sq1
        have hN2 := s2 _ _ hN1
        refine iteF ?_
        have at1 : atI (hv (F.two true f g).hd ++ [vf, vg]) 1 = some vf := atI_nat (j := 1) rfl
        have at2 : atI (hv (F.two true f g).hd ++ [vf, vg]) ((((hv (F.two true f g).hd ++ [vf, vg]).length : Nat) : Int) - 1) = some vg := atI_nat (j := 2) rfl
        refine ⟨.ref wa, rfl, .ref a, rfl, .ref a, rfl, a, _, rfl, .inr sq2, _, 1, rfl, rfl, a, _, _, vg, rfl, rfl, sq2, at2, .ref na, rfl, .ref wa, vg, W, g, na, kvs, e, rfl, ⟨wa, sa, pa, fas, pas, rfl, X2⟩, fit, hg.same s2, by omega, hN2, by omega, hnd, fun x hx => ?_, fun ra H3 s3 hra => ?_⟩
        · obtain ⟨b, b1, b2⟩ := henv1 x (List.mem_append_right _ hx)
          exact ⟨b, b1, s2 _ _ b2⟩
        refine ⟨.str "and", rfl, rfl, _, rfl, kF (by decide) ?_⟩
        refine ⟨.str "and", rfl, rfl, _, rfl, kF (by decide) ?_⟩
        have X3 := X2.same s3
        have sq3 := SqT.same s3 sq2
        have hN3 := s3 _ _ hN2
        refine ⟨.ref wa, rfl, .ref a, rfl, a, _, 1, vf, rfl, rfl, sq3, at1, .ref na, rfl, .ref wa, vf, W, f, na, kvs, e, rfl, ⟨wa, sa, pa, fas, pas, rfl, X3⟩, fit, (hf.same s2).same s3, by omega, hN3, by omega, hnd, fun x hx => ?_, fun rb H4 s4 hrb4 => ?_⟩
        · obtain ⟨b, b1, b2⟩ := henv1 x (List.mem_append_left _ hx)
          exact ⟨b, b1, s3 _ _ (s2 _ _ b2)⟩
        have hra4 := s4 _ _ hra
        have gl5 : IL H4 la (rng W.n) := s4 _ _ (s3 _ _ (s2 _ _ gl1))
        refine ⟨.str "and", rfl, rfl, _, rfl, kT ?_⟩
        refine ⟨.ref la, rfl, la, rfl, ⟨_, SqL.of gl5⟩, fun D hD => ?_⟩
        refine lc_fil (fun s => sIn (val W g e) s && sIn (val W f e) s) gl5 hD (by rw [rng_len]; have := fit.n8; omega) (fun s hs G Y N sG hY hN' => ?_) (fun G sG gg => k1 D G ((s2.trans (s3.trans s4)).trans sG) gg)
        refine ⟨rfl, .int s, rfl, .ref ra, rfl, ra, _, rfl, .inl (SqL.of (sG _ _ hra4)), rfl, flat_ints _, _, rfl, ?_⟩
        rw [if_neg Bool.false_ne_true, in_ints]
        show if sIn (val W g e) s = true then _ else _
        cases c1 : sIn (val W g e) s with
        | false => exact iteF (hN' (by rw [c1]; rfl) _ (Same.refl _))
        | true =>
          refine iteT ⟨.int s, rfl, .ref rb, rfl, rb, _, rfl, .inl (SqL.of (sG _ _ hrb4)), rfl, flat_ints _, _, rfl, ?_⟩
          rw [if_neg Bool.false_ne_true, in_ints]
          show if sIn (val W f e) s = true then _ else _
          cases c2 : sIn (val W f e) s with
          | false => exact iteF (hN' (by rw [c1, c2]; rfl) _ (Same.refl _))
          | true => exact iteT ⟨_, rfl, hY (by rw [c1, c2]; rfl) _ (Same.refl _)⟩
      | false =>
        refine ⟨.str "or", rfl, rfl, _, rfl, kF (by decide) ?_⟩
        refine ⟨.str "or", rfl, rfl, _, rfl, kF (by decide) ?_⟩
        refine ⟨.str "or", rfl, rfl, _, rfl, kF (by decide) ?_⟩
        refine ⟨.str "or", rfl, rfl, _, rfl, kF (by decide) ?_⟩
        refine ⟨.str "or", rfl, rfl, _, rfl, kF (by decide) ?_⟩
        refine ⟨.str "or", rfl, by show 2 ≤ sizeLine; decide, fun p hp => ⟨p, _, rfl, .inr (SqT.of upd_same), rfl, rfl, _, rfl, ?_⟩⟩
        have s2 := Same.new (o := .tup [.str "least", .str "most"]) hp
        generalize upd H1 p (.tup [.str "least", .str "most"]) = H2 at s2
        have X2 := X1.same s2
        have sq2 := SqT.same s2 sq1
        have hN2 := s2 _ _ hN1
        refine iteF ?_
        have at1 : atI (hv (F.two false f g).hd ++ [vf, vg]) 1 = some vf := atI_nat (j := 1) rfl
        have at2 : atI (hv (F.two false f g).hd ++ [vf, vg]) ((((hv (F.two false f g).hd ++ [vf, vg]).length : Nat) : Int) - 1) = some vg := atI_nat (j := 2) rfl
        refine ⟨.ref wa, rfl, .ref a, rfl, .ref a, rfl, a, _, rfl, .inr sq2, _, 1, rfl, rfl, a, _, _, vg, rfl, rfl, sq2, at2, .ref na, rfl, .ref wa, vg, W, g, na, kvs, e, rfl, ⟨wa, sa, pa, fas, pas, rfl, X2⟩, fit, hg.same s2, by omega, hN2, by omega, hnd, fun x hx => ?_, fun ra H3 s3 hra => ?_⟩
        · obtain ⟨b, b1, b2⟩ := henv1 x (List.mem_append_right _ hx)
          exact ⟨b, b1, s2 _ _ b2⟩
        refine ⟨.str "or", rfl, rfl, _, rfl, kF (by decide) ?_⟩
        refine ⟨.str "or", rfl, rfl, _, rfl, kF (by decide) ?_⟩
        have X3 := X2.same s3
        have sq3 := SqT.same s3 sq2
        have hN3 := s3 _ _ hN2
        refine ⟨.ref wa, rfl, .ref a, rfl, a, _, 1, vf, rfl, rfl, sq3, at1, .ref na, rfl, .ref wa, vf, W, f, na, kvs, e, rfl, ⟨wa, sa, pa, fas, pas, rfl, X3⟩, fit, (hf.same s2).same s3, by omega, hN3, by omega, hnd, fun x hx => ?_, fun rb H4 s4 hrb4 => ?_⟩
        · obtain ⟨b, b1, b2⟩ := henv1 x (List.mem_append_left _ hx)
          exact ⟨b, b1, s3 _ _ (s2 _ _ b2)⟩
        have hra4 := s4 _ _ hra
        have gl5 : IL H4 la (rng W.n) := s4 _ _ (s3 _ _ (s2 _ _ gl1))
        refine ⟨.str "or", rfl, rfl, _, rfl, kF (by decide) ?_⟩
        refine ⟨.ref la, rfl, la, rfl, ⟨_, SqL.of gl5⟩, fun D hD => ?_⟩
        refine lc_fil (fun s => sIn (val W g e) s || sIn (val W f e) s) gl5 hD (by rw [rng_len]; have := fit.n8; omega) (fun s hs G Y N sG hY hN' => ?_) (fun G sG gg => k1 D G ((s2.trans (s3.trans s4)).trans sG) gg)
        refine ⟨rfl, .int s, rfl, .ref ra, rfl, ra, _, rfl, .inl (SqL.of (sG _ _ hra4)), rfl, flat_ints _, _, rfl, ?_⟩
        rw [if_neg Bool.false_ne_true, in_ints]
        show if sIn (val W g e) s = true then _ else _
        cases c1 : sIn (val W g e) s with
        | true => exact iteT ⟨_, rfl, hY (by rw [c1]; rfl) _ (Same.refl _)⟩
        | false =>
          refine iteF ⟨.int s, rfl, .ref rb, rfl, rb, _, rfl, .inl (SqL.of (sG _ _ hrb4)), rfl, flat_ints _, _, rfl, ?_⟩
          rw [if_neg Bool.false_ne_true, in_ints]
          show if sIn (val W f e) s = true then _ else _
          cases c2 : sIn (val W f e) s with
          | false => exact iteF (hN' (by rw [c1, c2]; rfl) _ (Same.refl _))
          | true => exact iteT ⟨_, rfl, hY (by rw [c1, c2]; rfl) _ (Same.refl _)⟩
    | one kd x f =>
      cases ak1 with
      | cons hf hn =>
      cases hn
      rename_i vf
      obtain ⟨m, rfl⟩ : ∃ m, n = m + 1 := by
        cases n with
        | zero => exact absurd hdep (by have : 0 < f.depth := (by cases f <;> simp [F.depth]); simp only [F.depth]; omega)
        | succ m => exact ⟨m, rfl⟩
      simp only [F.depth] at hdep
      cases kd with
      | some =>
        refine ⟨.str "some", rfl, rfl, _, rfl, kF (by decide) ?_⟩
        refine ⟨.str "some", rfl, rfl, _, rfl, kF (by decide) ?_⟩
        refine ⟨.str "some", rfl, rfl, _, rfl, kF (by decide) ?_⟩
        refine ⟨.str "some", rfl, rfl, _, rfl, kF (by decide) ?_⟩
        refine ⟨.str "some", rfl, rfl, _, rfl, kF (by decide) ?_⟩
        refine ⟨.str "some", rfl, by show 2 ≤ sizeLine; decide, fun p hp => ⟨p, _, rfl, .inr (SqT.of upd_same), rfl, rfl, _, rfl, ?_⟩⟩
        have s2 := Same.new (o := .tup [.str "least", .str "most"]) hp
        generalize upd H1 p (.tup [.str "least", .str "most"]) = H2 at s2
        have X2 := X1.same s2
        have sq2 := SqT.same s2 sq1
        have hN2 := s2 _ _ hN1
        have at1 : atI (hv (F.one .some x f).hd ++ [vf]) 1 = some (.int x) := atI_nat (j := 1) rfl
        have at2 : atI (hv (F.one .some x f).hd ++ [vf]) 2 = some vf := atI_nat (j := 2) rfl
        refine iteF ?_
        have at3 : atI (hv (F.one .some x f).hd ++ [vf]) ((((hv (F.one .some x f).hd ++ [vf]).length : Nat) : Int) - 1) = some vf := atI_nat (j := 2) rfl
        refine ⟨.ref wa, rfl, .ref a, rfl, .ref a, rfl, a, _, rfl, .inr sq2, _, 1, rfl, rfl, a, _, _, vf, rfl, rfl, sq2, at3, .ref na, rfl, .ref wa, vf, W, f, na, kvs, e, rfl, ⟨wa, sa, pa, fas, pas, rfl, X2⟩, fit, hf.same s2, by omega, hN2, by omega, hnd, fun y hy => ?_, fun ra H3 s3 hra => ?_⟩
        · obtain ⟨b, b1, b2⟩ := henv1 y hy
          exact ⟨b, b1, s2 _ _ b2⟩
        have X3 := X2.same s3
        have sq3 := SqT.same s3 sq2
        have gl3 : IL H3 la (rng W.n) := s3 _ _ (s2 _ _ gl1)
        refine ⟨.str "some", rfl, rfl, _, rfl, kT ?_⟩
        refine ⟨.ref la, rfl, la, rfl, ⟨_, SqL.of gl3⟩, fun D hD => ?_⟩
        refine lc_fil (fun s => decide (0 < (((W.beh s x).filter (sIn (val W f e))).length : Int))) gl3 hD (by rw [rng_len]; have := fit.n8; omega) (fun s hs G Y N sG hY hN' => ?_) (fun G sG gg => k1 D G ((s2.trans s3).trans sG) gg)
        refine ⟨rfl, .ref wa, rfl, .int s, rfl, .ref a, rfl, a, _, _, .int x, rfl, rfl, SqT.same sG sq3, at1, .ref wa, W, s, x, rfl, ⟨wa, sa, pa, fas, pas, rfl, X3.same sG⟩, fit.st, fun b G2 sb nb hb => ?_⟩
        refine ⟨b, rfl, ⟨_, SqL.of hb⟩, fun D2 hD2 => ?_⟩
        have hra2 := sb _ _ (sG _ _ hra)
        refine lc_fil (sIn (val W f e)) hb hD2 (by unfold Wd.beh; rw [List.length_map]; exact Nat.le_trans (List.length_filter_le _ _) fit.st) (fun j hj G3 Y3 N3 s3' hY3 hN3 => ?_) (fun G3 s3' g3 => ?_)
        · refine ⟨rfl, .int j, rfl, .ref ra, rfl, ra, _, rfl, .inl (SqL.of (s3' _ _ hra2)), rfl, flat_ints _, _, rfl, ?_⟩
          rw [if_neg Bool.false_ne_true, in_ints]
          show if sIn (val W f e) j = true then _ else _
          cases c : sIn (val W f e) j with
          | true => exact iteT ⟨_, rfl, hY3 c _ (Same.refl _)⟩
          | false => exact iteF (hN3 c _ (Same.refl _))
        · refine ⟨D2, _, rfl, .inl (SqL.of g3), _, _, rfl, rfl, _, rfl, ite2 (fun c => ?_) (fun c => ?_)⟩
          · exact ⟨_, rfl, hY (by rw [List.length_map] at c; exact c) _ (sb.trans s3')⟩
          · exact hN' (by rw [List.length_map] at c; exact Bool.eq_false_iff.mpr c) _ (sb.trans s3')
      | all =>
        refine ⟨.str "all", rfl, rfl, _, rfl, kF (by decide) ?_⟩
        refine ⟨.str "all", rfl, rfl, _, rfl, kF (by decide) ?_⟩
        refine ⟨.str "all", rfl, rfl, _, rfl, kF (by decide) ?_⟩
        refine ⟨.str "all", rfl, rfl, _, rfl, kF (by decide) ?_⟩
        refine ⟨.str "all", rfl, rfl, _, rfl, kF (by decide) ?_⟩
        refine ⟨.str "all", rfl, by show 2 ≤ sizeLine; decide, fun p hp => ⟨p, _, rfl, .inr (SqT.of upd_same), rfl, rfl, _, rfl, ?_⟩⟩
        have s2 := Same.new (o := .tup [.str "least", .str "most"]) hp
        generalize upd H1 p (.tup [.str "least", .str "most"]) = H2 at s2
        have X2 := X1.same s2
        have sq2 := SqT.same s2 sq1
        have hN2 := s2 _ _ hN1
        have at1 : atI (hv (F.one .all x f).hd ++ [vf]) 1 = some (.int x) := atI_nat (j := 1) rfl
        have at2 : atI (hv (F.one .all x f).hd ++ [vf]) 2 = some vf := atI_nat (j := 2) rfl
        refine iteF ?_
        have at3 : atI (hv (F.one .all x f).hd ++ [vf]) ((((hv (F.one .all x f).hd ++ [vf]).length : Nat) : Int) - 1) = some vf := atI_nat (j := 2) rfl
        refine ⟨.ref wa, rfl, .ref a, rfl, .ref a, rfl, a, _, rfl, .inr sq2, _, 1, rfl, rfl, a, _, _, vf, rfl, rfl, sq2, at3, .ref na, rfl, .ref wa, vf, W, f, na, kvs, e, rfl, ⟨wa, sa, pa, fas, pas, rfl, X2⟩, fit, hf.same s2, by omega, hN2, by omega, hnd, fun y hy => ?_, fun ra H3 s3 hra => ?_⟩
        · obtain ⟨b, b1, b2⟩ := henv1 y hy
          exact ⟨b, b1, s2 _ _ b2⟩
        have X3 := X2.same s3
        have sq3 := SqT.same s3 sq2
        have gl3 : IL H3 la (rng W.n) := s3 _ _ (s2 _ _ gl1)
        refine ⟨.str "all", rfl, rfl, _, rfl, kF (by decide) ?_⟩
        refine ⟨.str "all", rfl, rfl, _, rfl, kT ?_⟩
        refine ⟨.ref la, rfl, la, rfl, ⟨_, SqL.of gl3⟩, fun D hD => ?_⟩
        refine lc_fil (fun s => decide ((((W.beh s x).filter (fun k => !sIn (val W f e) k)).length : Int) = 0)) gl3 hD (by rw [rng_len]; have := fit.n8; omega) (fun s hs G Y N sG hY hN' => ?_) (fun G sG gg => k1 D G ((s2.trans s3).trans sG) gg)
        refine ⟨rfl, .ref wa, rfl, .int s, rfl, .ref a, rfl, a, _, _, .int x, rfl, rfl, SqT.same sG sq3, at1, .ref wa, W, s, x, rfl, ⟨wa, sa, pa, fas, pas, rfl, X3.same sG⟩, fit.st, fun b G2 sb nb hb => ?_⟩
        refine ⟨b, rfl, ⟨_, SqL.of hb⟩, fun D2 hD2 => ?_⟩
        have hra2 := sb _ _ (sG _ _ hra)
        refine lc_fil (fun k => !sIn (val W f e) k) hb hD2 (by unfold Wd.beh; rw [List.length_map]; exact Nat.le_trans (List.length_filter_le _ _) fit.st) (fun j hj G3 Y3 N3 s3' hY3 hN3 => ?_) (fun G3 s3' g3 => ?_)
        · refine ⟨rfl, .int j, rfl, .ref ra, rfl, ra, _, rfl, .inl (SqL.of (s3' _ _ hra2)), rfl, flat_ints _, _, rfl, ?_⟩
          rw [if_pos rfl, in_ints]
          show if (!sIn (val W f e) j) = true then _ else _
          cases c : (!sIn (val W f e) j) with
          | true => exact iteT ⟨_, rfl, hY3 c _ (Same.refl _)⟩
          | false => exact iteF (hN3 c _ (Same.refl _))
        · refine ⟨D2, _, rfl, .inl (SqL.of g3), rfl, _, rfl, ite2 (fun c => ?_) (fun c => ?_)⟩
          · exact ⟨_, rfl, hY (by rw [List.length_map] at c; exact decide_eq_true (by have := of_decide_eq_true c; injection this)) _ (sb.trans s3')⟩
          · exact hN' (by rw [List.length_map] at c; exact decide_eq_false (fun z => c (decide_eq_true (congrArg V.int z)))) _ (sb.trans s3')
      | least =>
        refine ⟨.str "least", rfl, rfl, _, rfl, kF (by decide) ?_⟩
        refine ⟨.str "least", rfl, rfl, _, rfl, kF (by decide) ?_⟩
        refine ⟨.str "least", rfl, rfl, _, rfl, kF (by decide) ?_⟩
        refine ⟨.str "least", rfl, rfl, _, rfl, kF (by decide) ?_⟩
        refine ⟨.str "least", rfl, rfl, _, rfl, kF (by decide) ?_⟩
        refine ⟨.str "least", rfl, by show 2 ≤ sizeLine; decide, fun p hp => ⟨p, _, rfl, .inr (SqT.of upd_same), rfl, rfl, _, rfl, ?_⟩⟩
        have s2 := Same.new (o := .tup [.str "least", .str "most"]) hp
        generalize upd H1 p (.tup [.str "least", .str "most"]) = H2 at s2
        have X2 := X1.same s2
        have sq2 := SqT.same s2 sq1
        have hN2 := s2 _ _ hN1
        have at1 : atI (hv (F.one .least x f).hd ++ [vf]) 1 = some (.int x) := atI_nat (j := 1) rfl
        have at2 : atI (hv (F.one .least x f).hd ++ [vf]) 2 = some vf := atI_nat (j := 2) rfl
        refine iteT ?_
        refine ⟨Nat.zero_le _, fun q0 hq0 => ?_⟩
        have s3 := Same.new (o := .lst []) hq0
        have gq0 : IL (upd H2 q0 (.lst [])) q0 [] := upd_same
        generalize upd H2 q0 (.lst []) = H3 at s3 gq0
        refine ⟨.str "least", rfl, rfl, _, rfl, kF (by decide) ?_⟩
        have s23 := s2.trans s3
        have X3 := X1.same s23
        refine ⟨.ref wa, rfl, wa, _, _, .ref sa, rfl, rfl, SqT.of X3.w, rfl, sa, _, rfl, .inl (SqL.of X3.s), _, 1, rfl, rfl, _, rfl, ?_⟩
        rw [nW]
        refine ⟨by have := fit.n8; omega, by have := fit.n8; omega, ?_⟩
        refine for_range (lo := 0) (n := (((W.n : Nat) : Int) + 1).toNat) (fun i σ G => ∃ (y6 y7 y8 : Option V) (q : Addr), σ = [some (.ref wa), some (.ref a), some (.ref na), some (.ref la), some (.str "least"), some (.ref q), y6, y7, y8, none, none, none, none] ∧ Same H1 G ∧ IL G q (iter (fun X => val W f (setE e x X)) i []))
          ⟨_, _, _, _, rfl, s23, gq0⟩ ?_ ?_
        · clear X3 s23 gq0 s3 s2 sq2 hN2 X2
          rintro i σ G hi ⟨y6, y7, y8, q, rfl, sG, gq⟩
          have X3 := X1.same sG
          have sq3 := SqT.same sG sq1
          have hN3 := sG _ _ hN1
          intro na2 hna2
          have s2 := Same.new (o := .dK []) hna2
          have nn : na ≠ na2 := ne_of_none hN3 hna2
          refine ⟨na, _, s2 _ _ hN3, trivial, fun od => ?_⟩
          refine ⟨.ref na, rfl, na, od, rfl, .inl ⟨kvs, upd_same, ?_⟩⟩
          refine for_it (walk_keys (d := na) (o := od) (kvs := kvs)) (fun j σ G' => ∃ (y8 : Option V), σ = [some (.ref wa), some (.ref a), some (.ref na), some (.ref la), some (.str "least"), some (.ref q), some (.int (0 + (i : Int))), some (.ref na2), y8, none, none, none, none] ∧ G' na = some (.frz od (.dK kvs)) ∧ G' na2 = some (.dK (kvs.take j)) ∧
              ∀ b o, b ≠ na → b ≠ na2 → G b = some o → G' b = some o)
            ⟨_, rfl, upd_same, by rw [upd_ne nn.symm, upd_same]; rfl, fun b o n1 n2 e => by rw [upd_ne n1, upd_ne n2]; exact e⟩ (fun i σ G _ ⟨_, _, g, _⟩ => g) ?_ ?_
          · rintro j x0 σ G1 G2 hj ⟨y8, rfl, gN, gI, gK⟩ ⟨rfl, kk, vv, hkv, rfl⟩
            obtain ⟨v1, v2⟩ := valV_atW hnd hkv
            refine ⟨.ref na, rfl, kV kk, rfl, na, vv, rfl, .inl ⟨kvs, kk, .inr ⟨od, gN⟩, rfl, v1.symm⟩, .ref na2, rfl, kV kk, rfl, na2, _, rfl, DPut.k (k := kk) gI (by rw [List.length_take]; exact small1000 (by omega)), ?_⟩
            refine ⟨_, rfl, by rw [upd_ne nn]; exact gN, ?_, fun b o n1 n2 e => by rw [upd_ne n2]; exact gK b o n1 n2 e⟩
            rw [upd_same, putK_new _ v2, List.take_add_one, hkv]
            rfl
          · rintro σ G1 ⟨y8, rfl, gN, gI, gK⟩
            rw [List.take_length] at gI
            refine ⟨gN, ?_⟩
            have s3 : Same G (upd G1 na (.dK kvs)) := fun b o e => by
              by_cases e1 : b = na
              · subst e1
                rw [hN3] at e
                cases e
                exact upd_same
              · rw [upd_ne e1]
                exact gK b o e1 (ne_of_none e hna2) e
            have gI3 : (upd G1 na (.dK kvs)) na2 = some (.dK kvs) := by rw [upd_ne nn.symm]; exact gI
            generalize upd G1 na (.dK kvs) = G3 at s3 gI3
            refine ⟨.ref q, rfl, .ref na2, rfl, .ref a, rfl, a, _, 1, .int x, rfl, rfl, SqT.same s3 sq3, at1, na2, _, rfl, DPut.k (k := Sum.inl x) gI3 (small1000 (by omega)), ?_⟩
            have s4 : Same G (upd G3 na2 (.dK (putK kvs (Sum.inl x) (.ref q)))) := fun b o e => by
              rw [upd_ne (ne_of_none e hna2)]
              exact s3 b o e
            have gI4 : (upd G3 na2 (.dK (putK kvs (Sum.inl x) (.ref q)))) na2 = some (.dK (putK kvs (Sum.inl x) (.ref q))) := upd_same
            generalize upd G3 na2 (.dK (putK kvs (Sum.inl x) (.ref q))) = G4 at s4 gI4
            have lp := length_putK kvs (Sum.inl x) (V.ref q)
            have sG4 := sG.trans s4
            refine ⟨.ref wa, rfl, .ref a, rfl, a, _, 2, vf, rfl, rfl, SqT.same s4 sq3, at2, .ref na2, rfl, .ref wa, vf, W, f, na2, putK kvs (Sum.inl x) (.ref q), setE e x (iter (fun X => val W f (setE e x X)) i []), rfl, ⟨wa, sa, pa, fas, pas, rfl, X3.same s4⟩, fit, hf.same sG4, by omega, gI4, by omega, nd_putW hnd, fun y hy => ?_, fun ra H5 s5 hra => ⟨_, _, _, ra, rfl, sG4.trans s5, hra⟩⟩
            rw [valV_put]
            unfold setE
            by_cases c : y = x
            · rw [if_pos (by rw [c]), if_pos c]
              exact ⟨q, rfl, s4 _ _ gq⟩
            · rw [if_neg (fun z => c (by injection z)), if_neg c]
              obtain ⟨b, b1, b2⟩ := henv1 y (by simp only [fv, if_pos (show One.least.bind = true from rfl), List.mem_filter, decide_eq_true_eq]; exact ⟨hy, c⟩)
              exact ⟨b, b1, sG4 _ _ b2⟩
        · rintro σ G ⟨y6, y7, y8, q, rfl, sG, gq⟩
          refine ⟨.ref q, rfl, k1 q _ sG ?_⟩
          have : (((W.n : Nat) : Int) + 1).toNat = W.n + 1 := by omega
          rw [this] at gq
          exact gq
      | most =>
        refine ⟨.str "most", rfl, rfl, _, rfl, kF (by decide) ?_⟩
        refine ⟨.str "most", rfl, rfl, _, rfl, kF (by decide) ?_⟩
        refine ⟨.str "most", rfl, rfl, _, rfl, kF (by decide) ?_⟩
        refine ⟨.str "most", rfl, rfl, _, rfl, kF (by decide) ?_⟩
        refine ⟨.str "most", rfl, rfl, _, rfl, kF (by decide) ?_⟩
        refine ⟨.str "most", rfl, by show 2 ≤ sizeLine; decide, fun p hp => ⟨p, _, rfl, .inr (SqT.of upd_same), rfl, rfl, _, rfl, ?_⟩⟩
        have s2 := Same.new (o := .tup [.str "least", .str "most"]) hp
        generalize upd H1 p (.tup [.str "least", .str "most"]) = H2 at s2
        have X2 := X1.same s2
        have sq2 := SqT.same s2 sq1
        have hN2 := s2 _ _ hN1
        have at1 : atI (hv (F.one .most x f).hd ++ [vf]) 1 = some (.int x) := atI_nat (j := 1) rfl
        have at2 : atI (hv (F.one .most x f).hd ++ [vf]) 2 = some vf := atI_nat (j := 2) rfl
        refine iteT ?_
        refine ⟨Nat.zero_le _, fun q0 hq0 => ?_⟩
        have s3 := Same.new (o := .lst []) hq0
        have gq0 : IL (upd H2 q0 (.lst [])) q0 [] := upd_same
        generalize upd H2 q0 (.lst []) = H3 at s3 gq0
        refine ⟨.str "most", rfl, rfl, _, rfl, kT ?_⟩
        have gl3 : IL H3 la (rng W.n) := s3 _ _ (s2 _ _ gl1)
        refine ⟨.ref la, rfl, la, _, rfl, .inl (SqL.of gl3), fun q1 hq1 => ?_⟩
        have s3b := Same.new (o := .lst ((rng W.n).map V.int)) hq1
        replace s3 := s3.trans s3b
        replace gq0 : IL (upd H3 q1 (.lst ((rng W.n).map V.int))) q1 (rng W.n) := upd_same
        generalize upd H3 q1 (.lst ((rng W.n).map V.int)) = H4 at s3 gq0
        have s23 := s2.trans s3
        have X3 := X1.same s23
        refine ⟨.ref wa, rfl, wa, _, _, .ref sa, rfl, rfl, SqT.of X3.w, rfl, sa, _, rfl, .inl (SqL.of X3.s), _, 1, rfl, rfl, _, rfl, ?_⟩
        rw [nW]
        refine ⟨by have := fit.n8; omega, by have := fit.n8; omega, ?_⟩
        refine for_range (lo := 0) (n := (((W.n : Nat) : Int) + 1).toNat) (fun i σ G => ∃ (y6 y7 y8 : Option V) (q : Addr), σ = [some (.ref wa), some (.ref a), some (.ref na), some (.ref la), some (.str "most"), some (.ref q), y6, y7, y8, none, none, none, none] ∧ Same H1 G ∧ IL G q (iter (fun X => val W f (setE e x X)) i (rng W.n)))
          ⟨_, _, _, _, rfl, s23, gq0⟩ ?_ ?_
        · clear X3 s23 gq0 s3 s2 sq2 hN2 X2
          rintro i σ G hi ⟨y6, y7, y8, q, rfl, sG, gq⟩
          have X3 := X1.same sG
          have sq3 := SqT.same sG sq1
          have hN3 := sG _ _ hN1
          intro na2 hna2
          have s2 := Same.new (o := .dK []) hna2
          have nn : na ≠ na2 := ne_of_none hN3 hna2
          refine ⟨na, _, s2 _ _ hN3, trivial, fun od => ?_⟩
          refine ⟨.ref na, rfl, na, od, rfl, .inl ⟨kvs, upd_same, ?_⟩⟩
          refine for_it (walk_keys (d := na) (o := od) (kvs := kvs)) (fun j σ G' => ∃ (y8 : Option V), σ = [some (.ref wa), some (.ref a), some (.ref na), some (.ref la), some (.str "most"), some (.ref q), some (.int (0 + (i : Int))), some (.ref na2), y8, none, none, none, none] ∧ G' na = some (.frz od (.dK kvs)) ∧ G' na2 = some (.dK (kvs.take j)) ∧
              ∀ b o, b ≠ na → b ≠ na2 → G b = some o → G' b = some o)
            ⟨_, rfl, upd_same, by rw [upd_ne nn.symm, upd_same]; rfl, fun b o n1 n2 e => by rw [upd_ne n1, upd_ne n2]; exact e⟩ (fun i σ G _ ⟨_, _, g, _⟩ => g) ?_ ?_
          · rintro j x0 σ G1 G2 hj ⟨y8, rfl, gN, gI, gK⟩ ⟨rfl, kk, vv, hkv, rfl⟩
            obtain ⟨v1, v2⟩ := valV_atW hnd hkv
            refine ⟨.ref na, rfl, kV kk, rfl, na, vv, rfl, .inl ⟨kvs, kk, .inr ⟨od, gN⟩, rfl, v1.symm⟩, .ref na2, rfl, kV kk, rfl, na2, _, rfl, DPut.k (k := kk) gI (by rw [List.length_take]; exact small1000 (by omega)), ?_⟩
            refine ⟨_, rfl, by rw [upd_ne nn]; exact gN, ?_, fun b o n1 n2 e => by rw [upd_ne n2]; exact gK b o n1 n2 e⟩
            rw [upd_same, putK_new _ v2, List.take_add_one, hkv]
            rfl
          · rintro σ G1 ⟨y8, rfl, gN, gI, gK⟩
            rw [List.take_length] at gI
            refine ⟨gN, ?_⟩
            have s3 : Same G (upd G1 na (.dK kvs)) := fun b o e => by
              by_cases e1 : b = na
              · subst e1
                rw [hN3] at e
                cases e
                exact upd_same
              · rw [upd_ne e1]
                exact gK b o e1 (ne_of_none e hna2) e
            have gI3 : (upd G1 na (.dK kvs)) na2 = some (.dK kvs) := by rw [upd_ne nn.symm]; exact gI
            generalize upd G1 na (.dK kvs) = G3 at s3 gI3
            refine ⟨.ref q, rfl, .ref na2, rfl, .ref a, rfl, a, _, 1, .int x, rfl, rfl, SqT.same s3 sq3, at1, na2, _, rfl, DPut.k (k := Sum.inl x) gI3 (small1000 (by omega)), ?_⟩
            have s4 : Same G (upd G3 na2 (.dK (putK kvs (Sum.inl x) (.ref q)))) := fun b o e => by
              rw [upd_ne (ne_of_none e hna2)]
              exact s3 b o e
            have gI4 : (upd G3 na2 (.dK (putK kvs (Sum.inl x) (.ref q)))) na2 = some (.dK (putK kvs (Sum.inl x) (.ref q))) := upd_same
            generalize upd G3 na2 (.dK (putK kvs (Sum.inl x) (.ref q))) = G4 at s4 gI4
            have lp := length_putK kvs (Sum.inl x) (V.ref q)
            have sG4 := sG.trans s4
            refine ⟨.ref wa, rfl, .ref a, rfl, a, _, 2, vf, rfl, rfl, SqT.same s4 sq3, at2, .ref na2, rfl, .ref wa, vf, W, f, na2, putK kvs (Sum.inl x) (.ref q), setE e x (iter (fun X => val W f (setE e x X)) i (rng W.n)), rfl, ⟨wa, sa, pa, fas, pas, rfl, X3.same s4⟩, fit, hf.same sG4, by omega, gI4, by omega, nd_putW hnd, fun y hy => ?_, fun ra H5 s5 hra => ⟨_, _, _, ra, rfl, sG4.trans s5, hra⟩⟩
            rw [valV_put]
            unfold setE
            by_cases c : y = x
            · rw [if_pos (by rw [c]), if_pos c]
              exact ⟨q, rfl, s4 _ _ gq⟩
            · rw [if_neg (fun z => c (by injection z)), if_neg c]
              obtain ⟨b, b1, b2⟩ := henv1 y (by simp only [fv, if_pos (show One.most.bind = true from rfl), List.mem_filter, decide_eq_true_eq]; exact ⟨hy, c⟩)
              exact ⟨b, b1, sG4 _ _ b2⟩
        · rintro σ G ⟨y6, y7, y8, q, rfl, sG, gq⟩
          refine ⟨.ref q, rfl, k1 q _ sG ?_⟩
          have : (((W.n : Nat) : Int) + 1).toNat = W.n + 1 := by omega
          rw [this] at gq
          exact gq
end
end Fw

set_option maxRecDepth 100000
set_option maxHeartbeats 4000000
namespace Fw
open PySem PySem.Spec PyProof.Rows L2
theorem ok_nn : ∀ {t : F}, Ok t → NN t
  | .nul _, _ => trivial
  | .leaf .has _, h => h.1
  | .leaf .lacks _, h => h.1
  | .leaf .var _, h => (V4_nonneg h).1
  | .two _ f g, h => ⟨ok_nn h.1, ok_nn h.2⟩
  | .one k n f, h => ⟨by
      have := h.1
      split at this
      · exact (V4_nonneg this).1
      · exact this.1, ok_nn h.2⟩
theorem nn_opp : ∀ {t : F}, NN t → NN (opp t)
  | .nul _, _ => trivial
  | .leaf _ _, h => h
  | .two _ f g, h => ⟨nn_opp h.1, nn_opp h.2⟩
  | .one _ _ f, h => ⟨h.1, nn_opp h.2⟩
section
variable {P : Program} {w : World} {K : PySem.W.Frag} {mg : Str → Option Value} {base : Heap} {C J B NC FE OD : Addr}
theorem all_value {f : Addr} {fd : FuncData} (FF : Fun K "_law_value" "_law_value" s_law_value f fd) (b : Binds K fd a_law_value []) (m : mg "_law_value" = some (.ref f)) (T : Txt K mg C J B)
    (h_law_behind : Has P w K mg base "_law_behind" 1 a_law_behind (spBehind K)) : ∀ n, Has P w K mg base "_law_value" (n + 2) a_law_value (spVal K n)
  | 0 => ⟨f, fd, m, FF.kp, b, noneOk⟩
  | n + 1 => ⟨f, fd, m, FF.kp, b, ok_law_value n FF T h_law_behind (all_value FF b m T h_law_behind n)⟩
def spTruth (K : PySem.W.Frag) : Sp := fun vs H Q _ => ∃ (v sv : V) (W : Wd) (t : F) (e : Int → List Int), vs = [v, sv] ∧ WAt H v W ∧ W.Fit ∧ IsF K H sv t ∧ t.depth ≤ 20 ∧ fv t = [] ∧
  ∀ (a : Addr) H', Same H H' → IL H' a (val W t e) → Q (.ref a) H'
theorem ok_law_truth {f : Addr} {fd : FuncData} (FF : Fun K "_law_truth" "_law_truth" s_law_truth f fd) (T : Txt K mg C J B) (h_law_value : Has P w K mg base "_law_value" 22 a_law_value (spVal K 20)) : FnOk P w K mg base CX0 23 f fd a_law_truth (spTruth K) := by
  refine FF.ok sc_law_truth (fun vs H Q E h => ?_) (fun cdv A outer s H vs Q E hr h => ?_)
  · obtain ⟨v, sv, W, t, e, rfl, _⟩ := h
    rfl
  · obtain ⟨v, sv, W, t, e, rfl, hW, fit, ht, hdep, hc, k⟩ := h
    refine ⟨_, (pss_one (ps_ret (pe_callH h_law_value (hr.mono (by omega)) (pa_cons (pv 0) (pa_cons (pv 1) (pa_cons pe_dnewK pa_nil)))))), ?_⟩
    refine ⟨v, rfl, sv, rfl, fun na hna => ⟨v, sv, W, t, na, [], e, rfl, hW.same (Same.new hna), fit, ht.same (Same.new hna), hdep, upd_same, by simp, List.nodup_nil, fun x hx => ?_, fun a H' s' ha => ?_⟩⟩
    · rw [hc] at hx
      cases hx
    · exact k a H' ((Same.new hna).trans s') ha
end
end Fw

set_option maxRecDepth 100000
set_option maxHeartbeats 4000000
namespace Fw
open PySem PySem.Spec PyProof.Rows L2
structure TxtA (K : PySem.W.Frag) (mg : Str → Option Value) (JO JI : Addr) : Prop where
  m_OUTER : mg "OUTER" = some (.ref JO)
  m_INNER : mg "INNER" = some (.ref JI)
  c_OUTER : ∀ H, SqT K H JO [.str "var", .int 0]
  c_INNER : ∀ H, SqT K H JI [.str "var", .int 1]
theorem beh_nodup {W : Wd} {f : Int} (U : W.Up f) (s l : Int) : (W.beh s l).Nodup := by
  unfold Wd.beh
  have h := U.steps.filter (fun p => decide (p.1 = s) && decide (p.2.1 = l))
  have m : ∀ p ∈ W.steps.filter (fun p => decide (p.1 = s) && decide (p.2.1 = l)), p.1 = s ∧ p.2.1 = l := fun p hp => by
    have := (List.mem_filter.mp hp).2
    rw [Bool.and_eq_true, decide_eq_true_eq, decide_eq_true_eq] at this
    exact this
  generalize W.steps.filter (fun p => decide (p.1 = s) && decide (p.2.1 = l)) = L at h m
  induction h with
  | nil => exact List.nodup_nil
  | @cons p L a _ ih =>
    rw [List.map_cons, List.nodup_cons]
    refine ⟨fun hp => ?_, ih fun q hq => m q (List.mem_cons_of_mem _ hq)⟩
    obtain ⟨q, hq, e⟩ := List.mem_map.mp hp
    have lt := lex3_iff.mp (a q hq)
    have m1 := m p List.mem_cons_self
    have m2 := m q (List.mem_cons_of_mem _ hq)
    unfold Lt3 at lt
    have e' : q.2.2 = p.2.2 := e
    omega
section
variable {P : Program} {w : World} {K : PySem.W.Frag} {mg : Str → Option Value} {base : Heap} {C J B NC FE OD JO JI : Addr}
/-! ### the four statements -/
def spAgS (K : PySem.W.Frag) (g : Int → F → F) : Sp := fun vs H Q _ => ∃ (l : Int) (v : V) (t : F), vs = [.int l, v] ∧ IsF K H v t ∧ ∀ v' H', Same H H' → IsF K H' v' (g l t) → Q v' H'
theorem ok_again_somewhere {f : Addr} {fd : FuncData} (FF : Fun K "again_somewhere" "again_somewhere" s_again_somewhere f fd) (TA : TxtA K mg JO JI) : FnOk P w K mg base CX0 1 f fd a_again_somewhere (spAgS K agF) := by
  refine FF.ok sc_again_somewhere (fun vs H Q E h => ?_) (fun cdv A outer s H vs Q E hr h => ?_)
  · obtain ⟨l, v, t, rfl, _⟩ := h
    rfl
  · obtain ⟨l, v, t, rfl, ht, k⟩ := h
    refine ⟨_, (pss_cons (ps_set (i := 2) sc_again_somewhere.nd rfl (.inl rfl) (pe_tup (pa_cons pe_str (pa_cons (pv 1) (pa_cons (pe_tup (pa_cons pe_str (pa_cons (pv 0) (pa_cons (pe_glob rfl TA.m_OUTER (show RelV (.ref _) _ from rfl)) pa_nil)))) pa_nil)))))
      (pss_one (ps_ret (pe_tup (pa_cons pe_str (pa_cons pe_int (pa_cons (pe_tup (pa_cons pe_str (pa_cons pe_int (pa_cons (pe_tup (pa_cons pe_str (pa_cons (pv 2) (pa_cons (pe_tup (pa_cons pe_str (pa_cons (pv 0) (pa_cons (pe_glob rfl TA.m_INNER (show RelV (.ref _) _ from rfl)) pa_nil)))) pa_nil)))) pa_nil)))) pa_nil))))))), ?_⟩
    have h3 : 3 ≤ sizeLine := by decide
    refine ⟨v, rfl, .int l, rfl, h3, fun p1 hp1 => ⟨h3, fun p2 hp2 => ?_⟩⟩
    have s1 := Same.new (o := .tup [.str "some", .int l, .ref JO]) hp1
    have s2 := Same.new (o := .tup [.str "and", v, .ref p1]) hp2
    refine ⟨.ref p2, rfl, .int l, rfl, h3, fun p3 hp3 => ⟨h3, fun p4 hp4 => ⟨h3, fun p5 hp5 => ⟨h3, fun p6 hp6 => ?_⟩⟩⟩⟩
    have s3 := Same.new (o := .tup [.str "some", .int l, .ref JI]) hp3
    have s4 := Same.new (o := .tup [.str "or", .ref p2, .ref p3]) hp4
    have s5 := Same.new (o := .tup [.str "least", .int 1, .ref p4]) hp5
    have s6 := Same.new (o := .tup [.str "most", .int 0, .ref p5]) hp6
    have s46 := s4.trans (s5.trans s6)
    have s36 := s3.trans s46
    refine k (.ref p6) _ (s1.trans (s2.trans s36)) ?_
    refine .one (SqT.of upd_same) (.one (SqT.of (s6 _ _ upd_same)) (.two (SqT.of ((s5.trans s6) _ _ upd_same)) (.two (SqT.of (s36 _ _ upd_same)) (ht.same (s1.trans (s2.trans s36))) (.one (SqT.of ((s2.trans s36) _ _ upd_same)) (.leaf (TA.c_OUTER _)))) (.one (SqT.of (s46 _ _ upd_same)) (.leaf (TA.c_INNER _)))))
theorem ok_last_somewhere {f : Addr} {fd : FuncData} (FF : Fun K "last_somewhere" "last_somewhere" s_last_somewhere f fd) (TA : TxtA K mg JO JI) : FnOk P w K mg base CX0 1 f fd a_last_somewhere (spAgS K laF) := by
  refine FF.ok sc_last_somewhere (fun vs H Q E h => ?_) (fun cdv A outer s H vs Q E hr h => ?_)
  · obtain ⟨l, v, t, rfl, _⟩ := h
    rfl
  · obtain ⟨l, v, t, rfl, ht, k⟩ := h
    refine ⟨_, (pss_cons (ps_set (i := 2) sc_last_somewhere.nd rfl (.inl rfl) (pe_tup (pa_cons pe_str (pa_cons pe_int (pa_cons (pe_tup (pa_cons pe_str (pa_cons (pv 1) (pa_cons (pe_tup (pa_cons pe_str (pa_cons (pv 0) (pa_cons (pe_glob rfl TA.m_INNER (show RelV (.ref _) _ from rfl)) pa_nil)))) pa_nil)))) pa_nil)))))
      (pss_one (ps_ret (pe_tup (pa_cons pe_str (pa_cons pe_int (pa_cons (pe_tup (pa_cons pe_str (pa_cons (pv 2) (pa_cons (pe_tup (pa_cons pe_str (pa_cons (pv 0) (pa_cons (pe_glob rfl TA.m_OUTER (show RelV (.ref _) _ from rfl)) pa_nil)))) pa_nil)))) pa_nil))))))), ?_⟩
    have h3 : 3 ≤ sizeLine := by decide
    refine ⟨v, rfl, .int l, rfl, h3, fun p1 hp1 => ⟨h3, fun p2 hp2 => ⟨h3, fun p3 hp3 => ?_⟩⟩⟩
    have s1 := Same.new (o := .tup [.str "some", .int l, .ref JI]) hp1
    have s2 := Same.new (o := .tup [.str "and", v, .ref p1]) hp2
    have s3 := Same.new (o := .tup [.str "most", .int 1, .ref p2]) hp3
    refine ⟨.ref p3, rfl, .int l, rfl, h3, fun p4 hp4 => ⟨h3, fun p5 hp5 => ⟨h3, fun p6 hp6 => ?_⟩⟩⟩
    have s4 := Same.new (o := .tup [.str "some", .int l, .ref JO]) hp4
    have s5 := Same.new (o := .tup [.str "or", .ref p3, .ref p4]) hp5
    have s6 := Same.new (o := .tup [.str "least", .int 0, .ref p5]) hp6
    have s46 := s4.trans (s5.trans s6)
    have s36 := s3.trans s46
    refine k (.ref p6) _ (s1.trans (s2.trans s36)) ?_
    refine .one (SqT.of upd_same) (.two (SqT.of (s6 _ _ upd_same)) (.one (SqT.of (s46 _ _ upd_same)) (.two (SqT.of (s36 _ _ upd_same)) (ht.same (s1.trans (s2.trans s36))) (.one (SqT.of ((s2.trans s36) _ _ upd_same)) (.leaf (TA.c_INNER _))))) (.one (SqT.of ((s5.trans s6) _ _ upd_same)) (.leaf (TA.c_OUTER _))))
def spAgE (K : PySem.W.Frag) (g : Int → F → F) : Sp := fun vs H Q _ => ∃ (l : Int) (v : V) (t : F), vs = [.int l, v] ∧ IsF K H v t ∧ t.size ≤ 900 ∧ fv t = [] ∧ ∀ v' H', Same H H' → IsF K H' v' (opp (g l (opp t))) → Q v' H'
theorem ok_again_everywhere {f : Addr} {fd : FuncData} (FF : Fun K "again_everywhere" "again_everywhere" s_again_everywhere f fd) (h_opposite : HasX P w K mg base "opposite" 6 a_opposite (spOpp K NC))
    (h_last_somewhere : Has P w K mg base "last_somewhere" 1 a_last_somewhere (spAgS K laF)) : FnOk P w K mg base (L2.CX P w) 7 f fd a_again_everywhere (spAgE K laF) := by
  refine FF.okX sc_again_everywhere (fun vs H Q E h => ?_) (fun cdv A outer s H vs Q E hr h => ?_)
  · obtain ⟨l, v, t, rfl, _⟩ := h
    rfl
  · obtain ⟨l, v, t, rfl, ht, hsz, hc, k⟩ := h
    refine ⟨_, (pss_one (ps_ret (pe_callX h_opposite (hr.mono (by omega)) (takes_of rfl rfl rfl rfl) (pa_cons (pe_callH h_last_somewhere (hr.mono (by omega)) (pa_cons (pv 0) (pa_cons (pe_callX h_opposite (hr.mono (by omega)) (takes_of rfl rfl rfl rfl) (pa_cons (pv 1) pa_nil)) pa_nil))) pa_nil)))), ?_⟩
    have c1 : fv (opp t) = [] := by rw [opp_fv]; exact hc
    have c2 : fv (laF l (opp t)) = [] := fv_laF c1
    refine ⟨.int l, rfl, v, rfl, v, t, rfl, ht, by omega, Few.closed (closed_fv.mp hc), fun _ v1 H1 s1 h1 => ?_, fun q => absurd (closed_fv.mp hc) q⟩
    refine ⟨l, v1, opp t, rfl, h1, fun v2 H2 s2 h2 => ?_⟩
    refine ⟨v2, laF l (opp t), rfl, h2, ?_, Few.closed (closed_fv.mp c2), fun _ v3 H3 s3 h3 => k v3 H3 (s1.trans (s2.trans s3)) h3, fun q => absurd (closed_fv.mp c2) q⟩
    simp only [laF, onF, F.size, opp_size]
    omega
theorem ok_last_everywhere {f : Addr} {fd : FuncData} (FF : Fun K "last_everywhere" "last_everywhere" s_last_everywhere f fd) (h_opposite : HasX P w K mg base "opposite" 6 a_opposite (spOpp K NC))
    (h_again_somewhere : Has P w K mg base "again_somewhere" 1 a_again_somewhere (spAgS K agF)) : FnOk P w K mg base (L2.CX P w) 7 f fd a_last_everywhere (spAgE K agF) := by
  refine FF.okX sc_last_everywhere (fun vs H Q E h => ?_) (fun cdv A outer s H vs Q E hr h => ?_)
  · obtain ⟨l, v, t, rfl, _⟩ := h
    rfl
  · obtain ⟨l, v, t, rfl, ht, hsz, hc, k⟩ := h
    refine ⟨_, (pss_one (ps_ret (pe_callX h_opposite (hr.mono (by omega)) (takes_of rfl rfl rfl rfl) (pa_cons (pe_callH h_again_somewhere (hr.mono (by omega)) (pa_cons (pv 0) (pa_cons (pe_callX h_opposite (hr.mono (by omega)) (takes_of rfl rfl rfl rfl) (pa_cons (pv 1) pa_nil)) pa_nil))) pa_nil)))), ?_⟩
    have c1 : fv (opp t) = [] := by rw [opp_fv]; exact hc
    have c2 : fv (agF l (opp t)) = [] := fv_agF c1
    refine ⟨.int l, rfl, v, rfl, v, t, rfl, ht, by omega, Few.closed (closed_fv.mp hc), fun _ v1 H1 s1 h1 => ?_, fun q => absurd (closed_fv.mp hc) q⟩
    refine ⟨l, v1, opp t, rfl, h1, fun v2 H2 s2 h2 => ?_⟩
    refine ⟨v2, agF l (opp t), rfl, h2, ?_, Few.closed (closed_fv.mp c2), fun _ v3 H3 s3 h3 => k v3 H3 (s1.trans (s2.trans s3)) h3, fun q => absurd (closed_fv.mp c2) q⟩
    simp only [agF, metF, F.size, opp_size]
    omega
/-! ### what is reached -/
def spReach (K : PySem.W.Frag) : Sp := fun vs H Q _ => ∃ (v : V) (W : Wd) (l : Int) (sa ia : Addr) (S X : List Int), vs = [v, .int l, .ref sa, .ref ia] ∧ WAt H v W ∧ W.Fit ∧ (∀ s, (W.beh s l).Nodup) ∧ IL H sa S ∧ IL H ia X ∧ S.Nodup ∧ S.length ≤ 200 ∧ (∀ s ∈ X, s ∈ rng W.n) ∧
  ∀ (r : Addr) (R : List Int) H', Same H H' → IL H' r R → R.length ≤ 8 → (∀ t, t ∈ R ↔ ∃ s ∈ S, RIn W l X s t) → Q (.ref r) H'
theorem ok_law_reached {f : Addr} {fd : FuncData} (FF : Fun K "_law_reached" "_law_reached" s_law_reached f fd) (T : Txt K mg C J B) (h_law_behind : Has P w K mg base "_law_behind" 1 a_law_behind (spBehind K)) : FnOk P w K mg base CX0 2 f fd a_law_reached (spReach K) := by
  refine FF.ok sc_law_reached (fun vs H Q E h => ?_) (fun cdv A outer s H vs Q E hr h => ?_)
  · obtain ⟨v, W, l, sa, ia, S, X, rfl, _⟩ := h
    rfl
  · obtain ⟨v, W, l, sa, ia, S, X, rfl, hW, fit, bn, hS, hX, nd, s200, xin, k⟩ := h
    refine ⟨_, (pss_cons (ps_set (i := 4) sc_law_reached.nd rfl (.inr rfl) (pe_lc (own := [("state", 6)]) (g := gName 6) rfl sc_law_reached.nd (pi_list (pv 2)) (blkOk_by (own := [("state", 6)]) (N := n_law_reached) (sc := defScope s_law_reached) (by decide +kernel)) (fun _ _ _ _ _ => (pg_name (i := 6) sc_law_reached.nd rfl (.inl rfl))) (fun _ _ _ _ _ => (pts_one (pt_cmpR (@id (OpR _ _ (rIn K false)) op_in_seq) (pv 6) (pv 3) (by rfl)))) (fun _ _ _ _ _ => (pv 6))))
      (pss_cons (ps_for PassesOwn.never rfl (pi_range1 rfl T.z_range (pa_cons pe_int pa_nil)) (pg_name (i := 5) sc_law_reached.nd rfl (.inl rfl)) (pss_one (ps_if (pt_cmpR op_lt (pv 5) (pe_callB call_len_seq rfl T.z_len (by decide +kernel) (pa_cons (pv 4) pa_nil)) (nomark _)) (pss_one (ps_set (i := 4) sc_law_reached.nd rfl (.inr rfl) (pe_op op_cat (pv 4) (pe_lc (own := [("k", 7)]) (g := gName 7) rfl sc_law_reached.nd (pi_list (pe_callH h_law_behind (hr.mono (by omega)) (pa_cons (pv 0) (pa_cons (pe_ix ix_list (pv 4) (pv 5) (fun _ _ => rfl)) (pa_cons (pv 1) pa_nil))))) (blkOk_by (own := [("k", 7)]) (N := n_law_reached) (sc := defScope s_law_reached) (by decide +kernel)) (fun _ _ _ _ _ => (pg_name (i := 7) sc_law_reached.nd rfl (.inl rfl))) (fun _ _ _ _ _ => (pts_one (PW.pt (pw_and (pt_cmpR (@id (OpR _ _ (rIn K false)) op_in_seq) (pv 7) (pv 3) (by rfl)) (pw_and1 (pt_cmpR (@id (OpR _ _ (rIn K true)) op_notIn_seq) (pv 7) (pv 4) (by rfl))))))) (fun _ _ _ _ _ => (pv 7)))))) pss_nil)))
      (pss_one (ps_ret (pv 4))))), ?_⟩
    refine ⟨.ref sa, rfl, sa, rfl, ⟨_, SqL.of hS⟩, fun D hD => ?_⟩
    refine lc_fil (sIn X) hS hD s200 (fun s hs G Y N sG hY hN' => ?_) (fun G sG gD => ?_)
    · refine ⟨rfl, .int s, rfl, .ref ia, rfl, ia, _, rfl, .inl (SqL.of (sG _ _ hX)), rfl, flat_ints _, _, rfl, ?_⟩
      rw [if_neg Bool.false_ne_true, in_ints]
      show if sIn X s = true then _ else _
      cases c : sIn X s with
      | true => exact iteT ⟨_, rfl, hY c _ (Same.refl _)⟩
      | false => exact iteF (hN' c _ (Same.refl _))
    · have len8 : ∀ F : List Int, F.Nodup → (∀ t ∈ F, t ∈ X) → F.length ≤ 8 := fun F h1 h2 => by
        have := nodup_le (Vs := rng W.n) h1 fun t ht => xin t (h2 t ht)
        rw [rng_len] at this
        have := fit.n8
        omega
      refine ⟨8, rfl, by decide, by decide, for_range (lo := 0) (n := 8) (fun i σ G2 => ∃ (fo : Addr) (F : List Int) (y5 : Option V), σ = [some v, some (.int l), some (.ref sa), some (.ref ia), some (.ref fo), y5, none, none] ∧ Same G G2 ∧ IL G2 fo F ∧ F.Nodup ∧ (∀ t ∈ F, t ∈ X ∧ ∃ s ∈ S, RIn W l X s t) ∧
        (∀ s ∈ S, s ∈ X → s ∈ F) ∧ ∀ j, j < i → ∀ u, F[j]? = some u → ∀ x ∈ W.beh u l, x ∈ X → x ∈ F)
        ⟨D, _, none, rfl, Same.refl _, gD, nd.filter _, fun t ht => ?_, fun s hs hx => List.mem_filter.mpr ⟨hs, sIn_iff.mpr hx⟩, fun j hj => absurd hj (Nat.not_lt_zero _)⟩ ?_ ?_⟩
      · obtain ⟨h1, h2⟩ := List.mem_filter.mp ht
        have h2' := sIn_iff.mp h2
        exact ⟨h2', t, h1, .here h2'⟩
      · rintro i σ G2 hi ⟨fo, F, y5, rfl, s2, gF, ndF, sound, start, clos⟩
        rw [Int.zero_add]
        have l8 := len8 F ndF fun t ht => (sound t ht).1
        refine ⟨.int (i : Nat), rfl, .ref fo, rfl, fo, _, rfl, .inl (SqL.of gF), _, _, rfl, rfl, _, rfl, ?_⟩
        rw [List.length_map]
        refine ite2 (fun c => ?_) (fun c => ?_)
        · have lt : (i : Int) < (F.length : Int) := of_decide_eq_true c
          have lt' : i < F.length := by omega
          obtain ⟨u, hu⟩ : ∃ u, F[i]? = some u := ⟨F[i], by simp [lt']⟩
          refine ⟨.ref fo, rfl, v, rfl, .ref fo, rfl, .int (i : Nat), rfl, fo, _, _, .int u, rfl, rfl, SqL.of gF, atI_nat (j := i) (by rw [List.getElem?_map, hu]; rfl), .int l, rfl, v, W, u, l, rfl, hW.same (sG.trans s2), fit.st, fun b G3 s3 nb hb => ⟨b, rfl, ⟨_, SqL.of hb⟩, fun D2 hD2 => ?_⟩⟩
          have gF3 : IL G3 fo F := s3 _ _ gF
          have hX3 : IL G3 ia X := s3 _ _ (s2 _ _ (sG _ _ hX))
          refine lc_fil (fun x => sIn X x && !sIn F x) hb hD2 (by unfold Wd.beh; rw [List.length_map]; exact Nat.le_trans (List.length_filter_le _ _) fit.st) (fun x hx G4 Y N s4 hY hN' => ?_) (fun G4 s4 g4 => ?_)
          · refine ⟨rfl, .int x, rfl, .ref ia, rfl, ia, _, rfl, .inl (SqL.of (s4 _ _ hX3)), rfl, flat_ints _, _, rfl, ?_⟩
            rw [if_neg Bool.false_ne_true, in_ints]
            show if sIn X x = true then _ else _
            cases c1 : sIn X x with
            | false => exact iteF (iteF (hN' (by rw [c1]; rfl) _ (Same.refl _)))
            | true =>
              refine iteT ⟨.int x, rfl, .ref fo, rfl, fo, _, rfl, .inl (SqL.of (s4 _ _ gF3)), rfl, flat_ints _, _, rfl, ?_⟩
              rw [if_pos rfl, in_ints]
              show if (!sIn F x) = true then _ else _
              cases c2 : sIn F x with
              | true => exact iteF (hN' (by rw [c1, c2]; rfl) _ (Same.refl _))
              | false => exact iteT ⟨_, rfl, hY (by rw [c1, c2]; rfl) _ (Same.refl _)⟩
          · obtain ⟨M, eM⟩ : ∃ M, M = (W.beh u l).filter (fun x => sIn X x && !sIn F x) := ⟨_, rfl⟩
            rw [← eM] at g4
            have memM : ∀ x, x ∈ M ↔ x ∈ W.beh u l ∧ x ∈ X ∧ x ∉ F := fun x => by
              rw [eM, List.mem_filter, Bool.and_eq_true, sIn_iff, Bool.not_eq_true', ← Bool.not_eq_true, sIn_iff]
            have ndM : M.Nodup := by rw [eM]; exact (bn u).filter _
            have um := List.mem_of_getElem? hu
            have ndFM : (F ++ M).Nodup := List.nodup_append.mpr ⟨ndF, ndM, fun a ha b hb e => ((memM b).mp hb).2.2 (by rw [← e]; exact ha)⟩
            have snd2 : ∀ t ∈ F ++ M, t ∈ X ∧ ∃ s ∈ S, RIn W l X s t := fun t ht => by
              rcases List.mem_append.mp ht with ht | ht
              · exact sound t ht
              · obtain ⟨h1, h2, _⟩ := (memM t).mp ht
                obtain ⟨_, s, hs, p⟩ := sound u um
                exact ⟨h2, s, hs, p.snoc h1 h2⟩
            have l82 := len8 _ ndFM fun t ht => (snd2 t ht).1
            rw [List.length_append] at l82
            refine ⟨fo, D2, _, _, rfl, rfl, s4 _ _ gF3, g4, by rw [List.length_map, List.length_map]; exact Nat.le_of_lt (small1000 (by omega)), fun q hq => ?_⟩
            have s5 := Same.new (o := .lst (F.map V.int ++ M.map V.int)) hq
            refine ⟨q, F ++ M, _, rfl, s2.trans (s3.trans (s4.trans s5)), by show _ = _; rw [upd_same, List.map_append], ndFM, snd2, fun s hs hx => List.mem_append_left _ (start s hs hx), fun j hj y hy x hx xX => ?_⟩
            rw [List.getElem?_append_left (by omega)] at hy
            by_cases e : j = i
            · subst e
              rw [hu] at hy
              cases hy
              by_cases xF : x ∈ F
              · exact List.mem_append_left _ xF
              · exact List.mem_append_right _ ((memM x).mpr ⟨hx, xX, xF⟩)
            · exact List.mem_append_left _ (clos j (by omega) y hy x hx xX)
        · have ge : ¬ (i : Int) < (F.length : Int) := fun q => c (decide_eq_true q)
          refine ⟨fo, F, _, rfl, s2, gF, ndF, sound, start, fun j hj y hy x hx xX => ?_⟩
          have := (List.getElem?_eq_some_iff.mp hy).1
          exact clos j (by omega) y hy x hx xX
      · rintro σ G2 ⟨fo, F, y5, rfl, s2, gF, ndF, sound, start, clos⟩
        have l8 := len8 F ndF fun t ht => (sound t ht).1
        refine ⟨_, rfl, k fo F G2 (sG.trans s2) gF l8 fun t => ⟨fun ht => (sound t ht).2, ?_⟩⟩
        rintro ⟨s, hs, path⟩
        have go : ∀ {s t : Int}, RIn W l X s t → s ∈ F → t ∈ F := fun {s t} p => by
          induction p with
          | here _ => exact id
          | step a b r ih =>
            intro hF
            obtain ⟨j, hj⟩ := List.mem_iff_getElem?.mp hF
            have jl := (List.getElem?_eq_some_iff.mp hj).1
            exact ih (clos j (by omega) _ hj _ b r.src)
        exact go path (start s hs path.src)
/-! ### what comes back -/
def spBack (K : PySem.W.Frag) : Sp := fun vs H Q _ => ∃ (v : V) (W : Wd) (l : Int) (ia : Addr) (X : List Int), vs = [v, .int l, .ref ia] ∧ WAt H v W ∧ W.Fit ∧ (∀ s, (W.beh s l).Nodup) ∧ IL H ia X ∧ X.length ≤ 8 ∧ (∀ s ∈ X, s ∈ rng W.n) ∧
  ∀ (r : Addr) H', Same H H' → IL H' r (cycL W l X) → Q (.ref r) H'
theorem ok_law_coming_back {f : Addr} {fd : FuncData} (FF : Fun K "_law_coming_back" "_law_coming_back" s_law_coming_back f fd) (T : Txt K mg C J B) (h_law_behind : Has P w K mg base "_law_behind" 1 a_law_behind (spBehind K))
    (h_law_reached : Has P w K mg base "_law_reached" 2 a_law_reached (spReach K)) : FnOk P w K mg base CX0 3 f fd a_law_coming_back (spBack K) := by
  refine FF.ok sc_law_coming_back (fun vs H Q E h => ?_) (fun cdv A outer s H vs Q E hr h => ?_)
  · obtain ⟨v, W, l, ia, X, rfl, _⟩ := h
    rfl
  · obtain ⟨v, W, l, ia, X, rfl, hW, fit, bn, hX, x8, xin, k⟩ := h
    refine ⟨_, (pss_cons (ps_set (i := 3) sc_law_coming_back.nd rfl (.inl rfl) (pe_lst pa_nil))
      (pss_cons (ps_for PassesOwn.never rfl (pi_list (pv 2)) (pg_name (i := 4) sc_law_coming_back.nd rfl (.inl rfl)) (pss_cons (ps_setLc (i := 5) (own := [("k", 6)]) (g := gName 6) rfl sc_law_coming_back.nd rfl rfl (sw_true rfl rfl rfl (by decide +kernel)) (pi_list (pe_callH h_law_behind (hr.mono (by omega)) (pa_cons (pv 0) (pa_cons (pv 4) (pa_cons (pv 1) pa_nil))))) (blkOk_by (own := [("k", 6)]) (N := n_law_coming_back) (sc := defScope s_law_coming_back) (by decide +kernel)) (fun _ _ _ _ _ => (pg_name (i := 6) sc_law_coming_back.nd rfl (.inl rfl))) (fun _ _ _ _ _ => (pts_one (pt_cmpR (@id (OpR _ _ (rIn K false)) op_in_seq) (pv 6) (pv 2) (by rfl)))) (fun _ _ _ _ _ => (pv 6)))
      (pss_one (ps_if (pt_cmpR op_in_seq (pv 4) (pe_callH h_law_reached (hr.mono (by omega)) (pa_cons (pv 0) (pa_cons (pv 1) (pa_cons (pv 5) (pa_cons (pv 2) pa_nil))))) (by rfl)) (pss_one (ps_expr (pe_bm PySem.F.plainAttrs_list PySem.F.slot_list_append PySem.F.type_list_append mt_append (pv 3) (pa_cons (pv 4) pa_nil)))) pss_nil))))
      (pss_one (ps_ret (pv 3))))), ?_⟩
    refine ⟨Nat.zero_le _, fun fo hfo => ?_⟩
    have s0 := Same.new (o := .lst []) hfo
    have hX0 : IL (upd H fo (.lst [])) ia X := s0 _ _ hX
    refine ⟨.ref ia, rfl, ia, rfl, ⟨_, SqL.of hX0⟩, for_list (xs := X.map V.int) (fun i σ G => ∃ (y4 y5 : Option V), σ = [some v, some (.int l), some (.ref ia), some (.ref fo), y4, y5, none] ∧ Same H G ∧ IL G fo ((X.take i).filter (cyc W l X)))
      ⟨none, none, rfl, s0, upd_same⟩ (fun i σ G _ ⟨_, _, _, sG, _⟩ => SqL.of (sG _ _ hX)) ?_ ?_⟩
    · rintro i y σ G hy ⟨y4, y5, rfl, sG, gF⟩
      obtain ⟨s, hs, rfl⟩ : ∃ s, X[i]? = some s ∧ V.int s = y := by
        rw [List.getElem?_map] at hy
        cases e : X[i]? with
        | none => rw [e] at hy; cases hy
        | some s => rw [e] at hy; exact ⟨s, rfl, Option.some.inj hy⟩
      refine ⟨v, rfl, .int s, rfl, .int l, rfl, v, W, s, l, rfl, hW.same sG, fit.st, fun b G2 s2 nb hb => ⟨b, rfl, ⟨_, SqL.of hb⟩, fun D hD => ?_⟩⟩
      have hX2 : IL G2 ia X := s2 _ _ (sG _ _ hX)
      refine lc_fil (sIn X) hb hD (by unfold Wd.beh; rw [List.length_map]; exact Nat.le_trans (List.length_filter_le _ _) fit.st) (fun x hx G3 Y N s3 hY hN' => ?_) (fun G3 s3 g3 => ?_)
      · refine ⟨rfl, .int x, rfl, .ref ia, rfl, ia, _, rfl, .inl (SqL.of (s3 _ _ hX2)), rfl, flat_ints _, _, rfl, ?_⟩
        rw [if_neg Bool.false_ne_true, in_ints]
        show if sIn X x = true then _ else _
        cases c : sIn X x with
        | true => exact iteT ⟨_, rfl, hY c _ (Same.refl _)⟩
        | false => exact iteF (hN' c _ (Same.refl _))
      · have s23 := sG.trans (s2.trans s3)
        refine ⟨.int s, rfl, v, rfl, .int l, rfl, .ref D, rfl, .ref ia, rfl, v, W, l, D, ia, _, X, rfl, hW.same s23, fit, bn, g3, s23 _ _ hX, (bn s).filter _, ?_, xin, fun r R G4 s4 hR lR mR => ?_⟩
        · refine Nat.le_trans (List.length_filter_le _ _) ?_
          unfold Wd.beh
          rw [List.length_map]
          exact Nat.le_trans (List.length_filter_le _ _) fit.st
        · refine ⟨r, _, rfl, .inl (SqL.of hR), rfl, flat_ints _, _, rfl, ?_⟩
          rw [if_neg Bool.false_ne_true, in_ints]
          have nx : X.take (i + 1) = X.take i ++ [s] := by rw [List.take_add_one, hs]; rfl
          have e : decide (s ∈ R) = cyc W l X s := by
            refine Bool.eq_iff_iff.mpr ?_
            rw [decide_eq_true_eq, mR, cyc_iff]
            constructor
            · rintro ⟨u, hu, p⟩
              exact ⟨u, (List.mem_filter.mp hu).1, p⟩
            · rintro ⟨u, hu, p⟩
              exact ⟨u, List.mem_filter.mpr ⟨hu, sIn_iff.mpr p.src⟩, p⟩
          rw [e]
          have s34 := s2.trans (s3.trans s4)
          have gF4 : IL G4 fo ((X.take i).filter (cyc W l X)) := s34 _ _ gF
          cases c : cyc W l X s with
          | true =>
            refine iteT ⟨.ref fo, rfl, .inl ⟨rfl, _, SqL.of gF4⟩, .int s, rfl, fo, _, _, rfl, rfl, gF4, ?_, ?_⟩
            · have := List.length_filter_le (cyc W l X) (X.take i)
              rw [List.length_take] at this
              rw [List.length_map]
              exact small1000 (by omega)
            · refine ⟨_, _, rfl, fun b o q => ?_, ?_⟩
              · rw [upd_ne (ne_of_none q hfo)]
                exact s34 _ _ (sG _ _ q)
              · show _ = _
                rw [upd_same, nx, List.filter_append, List.map_append, List.filter_cons_of_pos c]
                rfl
          | false =>
            refine iteF ⟨_, _, rfl, sG.trans s34, ?_⟩
            rw [nx, List.filter_append, List.filter_cons_of_neg (by rw [c]; exact Bool.false_ne_true)]
            rw [show List.filter (cyc W l X) [] = [] from rfl, List.append_nil]
            exact gF4
    · rintro σ G ⟨y4, y5, rfl, sG, gF⟩
      rw [List.length_map, List.take_length] at gF
      exact ⟨_, rfl, k fo G sG gF⟩
/-! ### what leads there -/
def spLead (K : PySem.W.Frag) : Sp := fun vs H Q _ => ∃ (v : V) (W : Wd) (l : Int) (ga : Addr) (Gs : List Int), vs = [v, .int l, .ref ga] ∧ WAt H v W ∧ W.Fit ∧ (∀ s, (W.beh s l).Nodup) ∧ IL H ga Gs ∧
  ∀ (r : Addr) H', Same H H' → IL H' r (leadL W l Gs) → Q (.ref r) H'
theorem ok_law_leading {f : Addr} {fd : FuncData} (FF : Fun K "_law_leading" "_law_leading" s_law_leading f fd) (T : Txt K mg C J B)
    (h_law_reached : Has P w K mg base "_law_reached" 2 a_law_reached (spReach K)) : FnOk P w K mg base CX0 3 f fd a_law_leading (spLead K) := by
  refine FF.ok sc_law_leading (fun vs H Q E h => ?_) (fun cdv A outer s H vs Q E hr h => ?_)
  · obtain ⟨v, W, l, ga, Gs, rfl, _⟩ := h
    rfl
  · obtain ⟨v, W, l, ga, Gs, rfl, hW, fit, bn, hG, k⟩ := h
    refine ⟨_, (pss_cons (ps_set (i := 3) sc_law_leading.nd rfl (.inr rfl) (pe_listRg rfl rfl T.z_list (prg_1 rfl T.z_range (pe_callB call_len_seq rfl T.z_len (by decide +kernel) (pa_cons (pe_ix ix_tup (pv 0) pe_int (fun _ _ => rfl)) pa_nil)))))
      (pss_one (ps_ret (pe_lc (own := [("state", 4)]) (g := gName 4) rfl sc_law_leading.nd (pi_list (pv 3)) (blkOk_by (own := [("state", 4)]) (N := n_law_leading) (sc := defScope s_law_leading) (by decide +kernel)) (fun _ _ _ _ _ => (pg_name (i := 4) sc_law_leading.nd rfl (.inl rfl))) (fun _ _ _ _ _ => (pts_one (pt_cmpR op_gt (pe_callB (@id (CallR _ _ (rLenS K)) call_len_seq) rfl T.z_len (by decide +kernel) (pa_cons (pe_lc (own := [("k", 5)]) (g := gName 5) rfl sc_law_leading.nd (@id (PI _ _ _ (iList K _)) (pi_list (pe_callH h_law_reached (hr.mono (by omega)) (pa_cons (pv 0) (pa_cons (pv 1) (pa_cons (pe_lst (pa_cons (pv 4) pa_nil)) (pa_cons (pv 3) pa_nil))))))) (blkOk_by (own := [("k", 5)]) (N := n_law_leading) (sc := { kind := PySem.ScopeKind.function, names := [ (PySem.Str.ofString ".0", PySem.NameKind.local), (PySem.Str.ofString "state", PySem.NameKind.local), (PySem.Str.ofString "len", PySem.NameKind.globalImplicit), (PySem.Str.ofString "_law_reached", PySem.NameKind.globalImplicit), (PySem.Str.ofString "goals", PySem.NameKind.cell), (PySem.Str.ofString "label", PySem.NameKind.cell), (PySem.Str.ofString "states", PySem.NameKind.cell), (PySem.Str.ofString "world", PySem.NameKind.cell)], isGenerator := false, isCoroutine := false, more := [] : PySem.Scope }) (by decide +kernel)) (fun _ _ _ _ _ => (pg_name (i := 5) sc_law_leading.nd rfl (.inl rfl))) (fun _ _ _ _ _ => (pts_one (pt_cmpR (@id (OpR _ _ (rIn K false)) op_in_seq) (pv 5) (pv 2) (by rfl)))) (fun _ _ _ _ _ => (pv 5))) pa_nil)) pe_int (nomark _)))) (fun _ _ _ _ _ => (pv 4)))))), ?_⟩
    obtain ⟨wa, sa, pa, fas, pas, rfl, X⟩ := id hW
    have nW : ((fas.map V.ref).length : Int) = (W.n : Int) := by rw [List.length_map, X.f.1]; rfl
    refine ⟨.ref wa, rfl, wa, _, _, .ref sa, rfl, rfl, SqT.of X.w, rfl, sa, _, rfl, .inl (SqL.of X.s), _, rfl, ?_⟩
    rw [nW]
    refine ⟨.of_le (Int.le_refl 0) (by have := fit.n8; omega) (by omega) (by omega), fun la hla => ?_⟩
    rw [rgV_rng]
    have s1 := Same.new (o := .lst ((rng W.n).map V.int)) hla
    have gl1 : IL (upd H la (.lst ((rng W.n).map V.int))) la (rng W.n) := upd_same
    generalize upd H la (.lst ((rng W.n).map V.int)) = H1 at s1 gl1
    refine ⟨.ref la, rfl, la, rfl, ⟨_, SqL.of gl1⟩, fun D hD => ?_⟩
    refine lc_fil (lead W l Gs) gl1 hD (by rw [rng_len]; have := fit.n8; omega) (fun s hs G Y N sG hY hN' => ?_) (fun G sG gg => k D G (s1.trans sG) gg)
    have s1G := s1.trans sG
    refine ⟨rfl, .ref wa, rfl, .int l, rfl, .int s, rfl, by show 1 ≤ sizeLine; decide, fun q hq => ?_⟩
    have s2 := Same.new (o := .lst [V.int s]) hq
    refine ⟨.ref la, rfl, .ref wa, W, l, q, la, [s], rng W.n, rfl, hW.same (s1G.trans s2), fit, bn, upd_same, s2 _ _ (sG _ _ gl1), by simp, by show 1 ≤ 200; decide, fun x hx => hx, fun r R G3 s3 hR lR mR => ⟨r, rfl, ⟨_, SqL.of hR⟩, fun D2 hD2 => ?_⟩⟩
    have hG3 : IL G3 ga Gs := s3 _ _ (s2 _ _ (s1G _ _ hG))
    refine lc_fil (sIn Gs) hR hD2 (by omega) (fun x hx G4 Y4 N4 s4 hY4 hN4 => ?_) (fun G4 s4 g4 => ?_)
    · refine ⟨rfl, .int x, rfl, .ref ga, rfl, ga, _, rfl, .inl (SqL.of (s4 _ _ hG3)), rfl, flat_ints _, _, rfl, ?_⟩
      rw [if_neg Bool.false_ne_true, in_ints]
      show if sIn Gs x = true then _ else _
      cases c : sIn Gs x with
      | true => exact iteT ⟨_, rfl, hY4 c _ (Same.refl _)⟩
      | false => exact iteF (hN4 c _ (Same.refl _))
    · have e : (0 : Int) < (((R.filter (sIn Gs)).map V.int).length : Int) ↔ lead W l Gs s = true := by
        rw [List.length_map, filter_pos, lead_iff]
        constructor
        · rintro ⟨x, hx, px⟩
          obtain ⟨s', hs', p⟩ := (mR x).mp hx
          rw [List.mem_singleton.mp hs'] at p
          exact ⟨x, sIn_iff.mp px, p⟩
        · rintro ⟨x, hx, p⟩
          exact ⟨x, (mR x).mpr ⟨s, List.mem_singleton.mpr rfl, p⟩, sIn_iff.mpr hx⟩
      have s24 := s2.trans (s3.trans s4)
      refine ⟨D2, _, rfl, .inl (SqL.of g4), _, _, rfl, rfl, _, rfl, ite2 (fun c => ?_) (fun c => ?_)⟩
      · exact ⟨_, rfl, hY (e.mp (of_decide_eq_true c)) _ s24⟩
      · refine hN' ?_ _ s24
        cases q : lead W l Gs s with
        | false => rfl
        | true => exact absurd (decide_eq_true (e.mpr q)) c
end
end Fw

set_option maxRecDepth 100000
set_option maxHeartbeats 4000000
namespace Fw
open PySem PySem.Spec PyProof.Rows L2
theorem size_le40 {t : F} (h : t.depth ≤ 3) : t.size ≤ 100 := by
  have := F.size_depth t
  have : 2 ^ t.depth ≤ 2 ^ 3 := Nat.pow_le_pow_right (by decide) h
  omega
theorem four_of {α : Type} {i : Nat} (hi : i < 4) {a b c d : α} {p : Nat → α → Prop} (h0 : p 0 a) (h1 : p 1 b) (h2 : p 2 c) (h3 : p 3 d) : ∃ x, [a, b, c, d][i]? = some x ∧ p i x := by
  match i, hi with
  | 0, _ => exact ⟨a, rfl, h0⟩
  | 1, _ => exact ⟨b, rfl, h1⟩
  | 2, _ => exact ⟨c, rfl, h2⟩
  | 3, _ => exact ⟨d, rfl, h3⟩
structure Fine (K : PySem.W.Frag) (W : Wd) (H : Hp) (v : V) (a : Addr) (t : F) (X : List Int) : Prop where
  isf : IsF K H v t
  dep : t.depth ≤ 20
  siz : t.size ≤ 1000
  cl : fv t = []
  nn : NN t
  il : IL H a X
  eq : ∀ e, val W t e = X
section
variable {P : Program} {w : World} {K : PySem.W.Frag} {mg : Str → Option Value} {base : Heap} {C J B NC FE OD JO JI : Addr}
def spLaw (K : PySem.W.Frag) : Sp := fun vs H Q _ => ∃ (a : Addr) (ns : List Int), vs = [.ref a] ∧ SqL K H a (ns.map V.int) ∧ ns.length ≤ 63 ∧ ∀ H', Q (.bl true) H'
theorem ok_law {f : Addr} {fd : FuncData} (FF : Fun K "law" "law" s_law f fd) (T : Txt K mg C J B) (h_law_draws : Has P w K mg base "_law_draws" 1 a_law_draws (spDraws K)) (h_law_closed : Has P w K mg base "_law_closed" 6 a_law_closed (spClosed K 2))
    (h_law_take : Has P w K mg base "_law_take" 1 a_law_take spTake) (h_law_free : Has P w K mg base "_law_free" 21 a_law_free (spFr K 20)) (h_law_world : Has P w K mg base "_law_world" 2 a_law_world spWorld)
    (h_law_is_statement : Has P w K mg base "_law_is_statement" 21 a_law_is_statement (spIs K 20)) (h_law_truth : Has P w K mg base "_law_truth" 23 a_law_truth (spTruth K))
    (h_law_coming_back : Has P w K mg base "_law_coming_back" 3 a_law_coming_back (spBack K)) (h_law_leading : Has P w K mg base "_law_leading" 3 a_law_leading (spLead K))
    (h_again_somewhere : Has P w K mg base "again_somewhere" 1 a_again_somewhere (spAgS K agF)) (h_last_somewhere : Has P w K mg base "last_somewhere" 1 a_last_somewhere (spAgS K laF))
    (h_again_everywhere : HasX P w K mg base "again_everywhere" 7 a_again_everywhere (spAgE K laF)) (h_last_everywhere : HasX P w K mg base "last_everywhere" 7 a_last_everywhere (spAgE K agF)) : FnOk P w K mg base CX0 24 f fd a_law (spLaw K) := by
  refine FF.ok sc_law (fun vs H Q E h => ?_) (fun cdv A outer s H vs Q E hr h => ?_)
  · obtain ⟨a, ns, rfl, _⟩ := h
    rfl
  · obtain ⟨a, ns, rfl, hS, hlen, k⟩ := h
    refine ⟨_, (pss_cons (ps_set (i := 1) sc_law.nd rfl (.inl rfl) (pe_callH h_law_draws (hr.mono (by omega)) (pa_cons (pv 0) (pa_cons pe_int pa_nil))))
      (pss_cons (ps_set (i := 2) sc_law.nd rfl (.inl rfl) (pe_callH h_law_world (hr.mono (by omega)) (pa_cons (pv 1) (pa_cons pe_int (pa_cons pe_int pa_nil)))))
      (pss_cons (ps_set (i := 3) sc_law.nd rfl (.inl rfl) (pe_callH h_law_closed (hr.mono (by omega)) (pa_cons (pv 1) (pa_cons pe_int pa_nil))))
      (pss_cons (ps_set (i := 4) sc_law.nd rfl (.inl rfl) (pe_callH h_law_take (hr.mono (by omega)) (pa_cons (pv 1) (pa_cons pe_int pa_nil))))
      (pss_cons (ps_set (i := 5) sc_law.nd rfl (.inl rfl) (pe_listRg rfl rfl T.z_list (prg_1 rfl T.z_range (pe_callB call_len_seq rfl T.z_len (by decide +kernel) (pa_cons (pe_ix ix_tup (pv 2) pe_int (fun _ _ => rfl)) pa_nil)))))
      (pss_cons (ps_set (i := 6) sc_law.nd rfl (.inr rfl) (pe_callH h_law_truth (hr.mono (by omega)) (pa_cons (pv 2) (pa_cons (pv 3) pa_nil))))
      (pss_cons (ps_set (i := 7) sc_law.nd rfl (.inr rfl) (pe_lc (own := [("state", 15)]) (g := gName 15) rfl sc_law.nd (pi_list (pv 5)) (blkOk_by (own := [("state", 15)]) (N := n_law) (sc := defScope s_law) (by decide +kernel)) (fun _ _ _ _ _ => (pg_name (i := 15) sc_law.nd rfl (.inl rfl))) (fun _ _ _ _ _ => (pts_one (pt_cmpR (@id (OpR _ _ (rIn K true)) op_notIn_seq) (pv 15) (pv 6) (by rfl)))) (fun _ _ _ _ _ => (pv 15))))
      (pss_cons (ps_set (i := 8) sc_law.nd rfl (.inl rfl) (pe_callH h_law_leading (hr.mono (by omega)) (pa_cons (pv 2) (pa_cons (pv 4) (pa_cons (pe_lc (own := [("state", 15)]) (g := gName 15) rfl sc_law.nd (pi_list (pe_callH h_law_coming_back (hr.mono (by omega)) (pa_cons (pv 2) (pa_cons (pv 4) (pa_cons (pv 5) pa_nil))))) (blkOk_by (own := [("state", 15)]) (N := n_law) (sc := defScope s_law) (by decide +kernel)) (fun _ _ _ _ _ => (pg_name (i := 15) sc_law.nd rfl (.inl rfl))) (fun _ _ _ _ _ => (pts_one (pt_cmpR (@id (OpR _ _ (rIn K false)) op_in_seq) (pv 15) (pv 6) (by rfl)))) (fun _ _ _ _ _ => (pv 15))) pa_nil)))))
      (pss_cons (ps_set (i := 9) sc_law.nd rfl (.inl rfl) (pe_callH h_law_leading (hr.mono (by omega)) (pa_cons (pv 2) (pa_cons (pv 4) (pa_cons (pe_callH h_law_coming_back (hr.mono (by omega)) (pa_cons (pv 2) (pa_cons (pv 4) (pa_cons (pv 6) pa_nil)))) pa_nil)))))
      (pss_cons (ps_set (i := 10) sc_law.nd rfl (.inr rfl) (pe_callH h_law_leading (hr.mono (by omega)) (pa_cons (pv 2) (pa_cons (pv 4) (pa_cons (pe_lc (own := [("state", 15)]) (g := gName 15) rfl sc_law.nd (pi_list (pe_callH h_law_coming_back (hr.mono (by omega)) (pa_cons (pv 2) (pa_cons (pv 4) (pa_cons (pv 5) pa_nil))))) (blkOk_by (own := [("state", 15)]) (N := n_law) (sc := defScope s_law) (by decide +kernel)) (fun _ _ _ _ _ => (pg_name (i := 15) sc_law.nd rfl (.inl rfl))) (fun _ _ _ _ _ => (pts_one (pt_cmpR (@id (OpR _ _ (rIn K false)) op_in_seq) (pv 15) (pv 7) (by rfl)))) (fun _ _ _ _ _ => (pv 15))) pa_nil)))))
      (pss_cons (ps_set (i := 11) sc_law.nd rfl (.inr rfl) (pe_callH h_law_leading (hr.mono (by omega)) (pa_cons (pv 2) (pa_cons (pv 4) (pa_cons (pe_callH h_law_coming_back (hr.mono (by omega)) (pa_cons (pv 2) (pa_cons (pv 4) (pa_cons (pv 7) pa_nil)))) pa_nil)))))
      (pss_cons (ps_set (i := 12) sc_law.nd rfl (.inl rfl) (pe_lst (pa_cons (pv 8) (pa_cons (pv 9) (pa_cons (pe_lc (own := [("state", 15)]) (g := gName 15) rfl sc_law.nd (pi_list (pv 5)) (blkOk_by (own := [("state", 15)]) (N := n_law) (sc := defScope s_law) (by decide +kernel)) (fun _ _ _ _ _ => (pg_name (i := 15) sc_law.nd rfl (.inl rfl))) (fun _ _ _ _ _ => (pts_one (pt_cmpR (@id (OpR _ _ (rIn K true)) op_notIn_seq) (pv 15) (pv 11) (by rfl)))) (fun _ _ _ _ _ => (pv 15))) (pa_cons (pe_lc (own := [("state", 15)]) (g := gName 15) rfl sc_law.nd (pi_list (pv 5)) (blkOk_by (own := [("state", 15)]) (N := n_law) (sc := defScope s_law) (by decide +kernel)) (fun _ _ _ _ _ => (pg_name (i := 15) sc_law.nd rfl (.inl rfl))) (fun _ _ _ _ _ => (pts_one (pt_cmpR (@id (OpR _ _ (rIn K true)) op_notIn_seq) (pv 15) (pv 10) (by rfl)))) (fun _ _ _ _ _ => (pv 15))) pa_nil))))))
      (pss_cons (ps_set (i := 13) sc_law.nd rfl (.inl rfl) (pe_lst (pa_cons (pe_callH h_again_somewhere (hr.mono (by omega)) (pa_cons (pv 4) (pa_cons (pv 3) pa_nil))) (pa_cons (pe_callH h_last_somewhere (hr.mono (by omega)) (pa_cons (pv 4) (pa_cons (pv 3) pa_nil))) pa_nil))))
      (pss_cons (ps_set (i := 13) sc_law.nd rfl (.inl rfl) (pe_op op_cat (pv 13) (pe_lst (pa_cons (pe_callL h_again_everywhere (hr.mono (by omega)) (pa_cons (pv 4) (pa_cons (pv 3) pa_nil))) (pa_cons (pe_callL h_last_everywhere (hr.mono (by omega)) (pa_cons (pv 4) (pa_cons (pv 3) pa_nil))) pa_nil)))))
      (pss_cons (ps_for PassesOwn.never rfl (pi_range1 rfl T.z_range (pa_cons pe_int pa_nil)) (pg_name (i := 14) sc_law.nd rfl (.inl rfl)) (pss_cons (ps_if (PW.pt (pw_or (pt_not (pt_val (pe_callH h_law_is_statement (hr.mono (by omega)) (pa_cons (pe_ix ix_list (pv 13) (pv 14) (fun _ _ => rfl)) (pa_cons pe_int pa_nil))))) (pw_or1 (pt_cmpR op_gt (pe_callB call_len_seq rfl T.z_len (by decide +kernel) (pa_cons (pe_callH h_law_free (hr.mono (by omega)) (pa_cons (pe_ix ix_list (pv 13) (pv 14) (fun _ _ => rfl)) (pa_cons (pe_lst pa_nil) pa_nil))) pa_nil)) pe_int (nomark _))))) (pss_one (ps_ret pe_bl)) pss_nil)
      (pss_one (ps_if (pt_cmpR (op_neD hr.units) (pe_callH h_law_truth (hr.mono (by omega)) (pa_cons (pv 2) (pa_cons (pe_ix ix_list (pv 13) (pv 14) (fun _ _ => rfl)) pa_nil))) (pe_ix ix_list (pv 12) (pv 14) (fun _ _ => rfl)) (nomark _)) (pss_one (ps_ret pe_bl)) pss_nil))))
      (pss_one (ps_ret pe_bl))))))))))))))))), ?_⟩
    refine ⟨.ref a, rfl, a, ns, 250, rfl, hS, hlen, by decide, by decide, fun d H1 s1 hd0 d1 => ?_⟩
    refine ⟨.ref d, rfl, d, 5, 2, rfl, d1, by decide, by decide, by decide, by decide, fun wa sa pa fas pas W H2 b2 d2 X nsd npd nfd fit up n5 => ?_⟩
    refine ⟨.ref d, rfl, d, rfl, d2, by decide, fun v t H3 b3 d3 ht g => ?_⟩
    have X3 := X.butD d2 b3 nsd npd nfd
    have hfv : fv t = [] := List.eq_nil_iff_forall_not_mem.mpr fun x hx => (g.fr x hx).elim (fun z => by cases z) fun z => by cases z
    have dep : t.depth ≤ 3 := g.dep
    have hsz := size_le40 dep
    have nn0 := ok_nn g.ok
    refine ⟨.ref d, rfl, d, 2, rfl, d3, by decide, fun l H4 l0 l2 b4 d4 => ?_⟩
    have X4 := X3.butD d3 b4 nsd npd nfd
    have ht4 := ht.but d3.lst b4
    have bn : ∀ s, (W.beh s l).Nodup := fun s => beh_nodup up s l
    clear X X3 ht b2 b3 b4 d1 d2 d3 s1 hd0
    have nW : ((fas.map V.ref).length : Int) = (W.n : Int) := by rw [List.length_map, X4.f.1]; rfl
    refine ⟨.ref wa, rfl, wa, _, _, .ref sa, rfl, rfl, SqT.of X4.w, rfl, sa, _, rfl, .inl (SqL.of X4.s), _, rfl, ?_⟩
    rw [nW]
    refine ⟨.of_le (Int.le_refl 0) (by have := fit.n8; omega) (by omega) (by omega), fun la hla => ?_⟩
    rw [rgV_rng]
    have S5' := Same.new (o := .lst ((rng W.n).map V.int)) hla
    have gl5 : IL (upd H4 la (.lst ((rng W.n).map V.int))) la (rng W.n) := upd_same
    generalize upd H4 la (.lst ((rng W.n).map V.int)) = H5 at S5' gl5
    -- good
    obtain ⟨good, egood⟩ : ∃ q, q = val W t fun _ => [] := ⟨_, rfl⟩
    have gq : ∀ e, val W t e = good := fun e => by rw [egood]; exact val_closed hfv _ _
    refine ⟨.ref wa, rfl, v, rfl, .ref wa, v, W, t, fun _ => [], rfl, ⟨wa, sa, pa, fas, pas, rfl, X4.same S5'⟩, fit, ht4.same S5', by omega, hfv, fun ga H6 s6 hga => ?_⟩
    rw [gq] at hga
    have n8 : W.n ≤ 8 := fit.n8
    have Ng : Norm W.n good := by rw [egood]; exact val_norm t _ (fun x hx => by rw [hfv] at hx; cases hx)
    -- bad
    have gl6 := s6 _ _ gl5
    refine ⟨.ref la, rfl, la, rfl, ⟨_, SqL.of gl6⟩, fun ba hba => ?_⟩
    refine lc_fil (fun s => !sIn good s) gl6 hba (by rw [rng_len]; omega) (fun s hs G Y N sG hY hN' => ?_) (fun H7 s7 hbad => ?_)
    · refine ⟨rfl, .int s, rfl, .ref ga, rfl, ga, _, rfl, .inl (SqL.of (sG _ _ hga)), rfl, flat_ints _, _, rfl, ?_⟩
      rw [if_pos rfl, in_ints]
      show if (!sIn good s) = true then _ else _
      cases c : (!sIn good s) with
      | true => exact iteT ⟨_, rfl, hY c _ (Same.refl _)⟩
      | false => exact iteF (hN' c _ (Same.refl _))
    obtain ⟨bad, ebad⟩ : ∃ q, q = co W.n good := ⟨_, rfl⟩
    have hbad : IL H7 ba bad := by rw [ebad]; exact hbad
    have Nb : Norm W.n bad := by rw [ebad]; exact flt_norm _ _
    have hg7 := s7 _ _ hga
    have S5 : Same H5 H7 := s6.trans s7
    have S : Same H4 H7 := S5'.trans S5
    clear s6 s7 gl6 hga hba H6
    -- again
    have hF := hg7
    refine ⟨.ref wa, rfl, .int l, rfl, .ref wa, rfl, .int l, rfl, .ref la, rfl, .ref wa, W, l, la, rng W.n, rfl, ⟨wa, sa, pa, fas, pas, rfl, X4.same S⟩, fit, bn, S5 _ _ gl5, by rw [rng_len]; exact fit.n8, fun s hs => hs, fun cr Hc sc hcr => ⟨cr, rfl, ⟨_, SqL.of hcr⟩, fun D hD => ?_⟩⟩
    have hFa := sc _ _ hF
    refine lc_fil (sIn good) hcr hD (Nat.le_trans (List.length_filter_le _ _) (by rw [rng_len]; have := fit.n8; omega)) (fun s hs G Y N sG hY hN' => ?_) (fun Gr sGr gDr => ?_)
    · refine ⟨rfl, .int s, rfl, .ref ga, rfl, ga, _, rfl, .inl (SqL.of (sG _ _ hFa)), rfl, flat_ints _, _, rfl, ?_⟩
      rw [if_neg Bool.false_ne_true, in_ints]
      show if sIn good s = true then _ else _
      cases c : sIn good s with
      | true => exact iteT ⟨_, rfl, hY c _ (Same.refl _)⟩
      | false => exact iteF (hN' c _ (Same.refl _))
    have S8 := sc.trans sGr
    refine ⟨.ref wa, W, l, D, _, rfl, ⟨wa, sa, pa, fas, pas, rfl, X4.same (S.trans S8)⟩, fit, bn, gDr, fun aga H9 s9 hag => ?_⟩
    have S79 := S8.trans s9
    clear hFa hF gDr hcr hD D S8 s9 sGr sc
    -- last
    have hg9 := S79 _ _ hg7
    refine ⟨.ref wa, rfl, .int l, rfl, .ref wa, rfl, .int l, rfl, .ref ga, rfl, .ref wa, W, l, ga, good, rfl, ⟨wa, sa, pa, fas, pas, rfl, X4.same (S.trans S79)⟩, fit, bn, hg9, Nat.le_trans Ng.len n8, fun s hs => rng_mem.mpr (Ng.mem hs), fun cr2 Hc2 sc2 hcr2 => ?_⟩
    refine ⟨.ref wa, W, l, cr2, _, rfl, ⟨wa, sa, pa, fas, pas, rfl, X4.same (S.trans (S79.trans sc2))⟩, fit, bn, hcr2, fun lsa H10 s10 hls => ?_⟩
    have S710 := S79.trans (sc2.trans s10)
    have hag10 := (sc2.trans s10) _ _ hag
    clear hg9 hcr2 sc2 s10 Hc2 cr2 hag
    have Sk := S.trans S710
    have S5k := S5.trans S710
    have hg10 := S710 _ _ hg7
    have hb10 := S710 _ _ hbad
    clear S S5 S79 S710 hg7 hbad H9
    have S := Sk
    have S5 := S5k
    clear Sk S5k
    -- never
    have hF := hb10
    refine ⟨.ref wa, rfl, .int l, rfl, .ref wa, rfl, .int l, rfl, .ref la, rfl, .ref wa, W, l, la, rng W.n, rfl, ⟨wa, sa, pa, fas, pas, rfl, X4.same S⟩, fit, bn, S5 _ _ gl5, by rw [rng_len]; exact fit.n8, fun s hs => hs, fun cr Hc sc hcr => ⟨cr, rfl, ⟨_, SqL.of hcr⟩, fun D hD => ?_⟩⟩
    have hFa := sc _ _ hF
    refine lc_fil (sIn bad) hcr hD (Nat.le_trans (List.length_filter_le _ _) (by rw [rng_len]; have := fit.n8; omega)) (fun s hs G Y N sG hY hN' => ?_) (fun Gr sGr gDr => ?_)
    · refine ⟨rfl, .int s, rfl, .ref ba, rfl, ba, _, rfl, .inl (SqL.of (sG _ _ hFa)), rfl, flat_ints _, _, rfl, ?_⟩
      rw [if_neg Bool.false_ne_true, in_ints]
      show if sIn bad s = true then _ else _
      cases c : sIn bad s with
      | true => exact iteT ⟨_, rfl, hY c _ (Same.refl _)⟩
      | false => exact iteF (hN' c _ (Same.refl _))
    have S8 := sc.trans sGr
    refine ⟨.ref wa, W, l, D, _, rfl, ⟨wa, sa, pa, fas, pas, rfl, X4.same (S.trans S8)⟩, fit, bn, gDr, fun nva H11 s11 hnv => ?_⟩
    have S1011 := S8.trans s11
    clear hFa hF gDr hcr hD D S8 s11 sGr sc
    -- gone
    have hb11 := S1011 _ _ hb10
    refine ⟨.ref wa, rfl, .int l, rfl, .ref wa, rfl, .int l, rfl, .ref ba, rfl, .ref wa, W, l, ba, bad, rfl, ⟨wa, sa, pa, fas, pas, rfl, X4.same (S.trans S1011)⟩, fit, bn, hb11, Nat.le_trans Nb.len n8, fun s hs => rng_mem.mpr (Nb.mem hs), fun cr3 Hc3 sc3 hcr3 => ?_⟩
    refine ⟨.ref wa, W, l, cr3, _, rfl, ⟨wa, sa, pa, fas, pas, rfl, X4.same (S.trans (S1011.trans sc3))⟩, fit, bn, hcr3, fun goa H12 s12 hgo => ?_⟩
    have S1112 := sc3.trans s12
    have S1012 := S1011.trans S1112
    have hag12 := S1012 _ _ hag10
    have hls12 := S1012 _ _ hls
    have hnv12 := S1112 _ _ hnv
    have S12 := S.trans S1012
    have gl12 := (S5.trans S1012) _ _ gl5
    clear hb11 hcr3 sc3 s12 Hc3 cr3 hag10 hls hnv S S5 S1011 S1112 S1012 hg10 hb10
    -- due
    refine ⟨.ref aga, rfl, .ref lsa, rfl, .ref la, rfl, la, rfl, ⟨_, SqL.of gl12⟩, fun d3a hd3 => ?_⟩
    refine lc_fil (fun s => !sIn (leadL W l (cycL W l bad)) s) gl12 hd3 (by rw [rng_len]; omega) (fun s hs G Y N sG hY hN' => ?_) (fun H13 s13 h3d => ?_)
    · refine ⟨rfl, .int s, rfl, .ref goa, rfl, goa, _, rfl, .inl (SqL.of (sG _ _ hgo)), rfl, flat_ints _, _, rfl, ?_⟩
      rw [if_pos rfl, in_ints]
      show if (!sIn (leadL W l (cycL W l bad)) s) = true then _ else _
      cases c : (!sIn (leadL W l (cycL W l bad)) s) with
      | true => exact iteT ⟨_, rfl, hY c _ (Same.refl _)⟩
      | false => exact iteF (hN' c _ (Same.refl _))
    have gl13 := s13 _ _ gl12
    have hnv13 := s13 _ _ hnv12
    refine ⟨.ref la, rfl, la, rfl, ⟨_, SqL.of gl13⟩, fun d4a hd4 => ?_⟩
    refine lc_fil (fun s => !sIn (leadL W l ((cycL W l (rng W.n)).filter (sIn bad))) s) gl13 hd4 (by rw [rng_len]; omega) (fun s hs G Y N sG hY hN' => ?_) (fun H14 s14 h4d => ?_)
    · refine ⟨rfl, .int s, rfl, .ref nva, rfl, nva, _, rfl, .inl (SqL.of (sG _ _ hnv13)), rfl, flat_ints _, _, rfl, ?_⟩
      rw [if_pos rfl, in_ints]
      show if (!sIn (leadL W l ((cycL W l (rng W.n)).filter (sIn bad))) s) = true then _ else _
      cases c : (!sIn (leadL W l ((cycL W l (rng W.n)).filter (sIn bad))) s) with
      | true => exact iteT ⟨_, rfl, hY c _ (Same.refl _)⟩
      | false => exact iteF (hN' c _ (Same.refl _))
    refine ⟨by show 4 ≤ sizeLine; decide, fun du hdu => ?_⟩
    have s15 := Same.new (o := .lst [V.ref aga, .ref lsa, .ref d3a, .ref d4a]) hdu
    have gdu : (upd H14 du (.lst [V.ref aga, .ref lsa, .ref d3a, .ref d4a])) du = some (.lst [V.ref aga, .ref lsa, .ref d3a, .ref d4a]) := upd_same
    have q1 := s15 _ _ (s14 _ _ (s13 _ _ hag12))
    have q2 := s15 _ _ (s14 _ _ (s13 _ _ hls12))
    have q3 := s15 _ _ (s14 _ _ h3d)
    have q4 := s15 _ _ h4d
    have S15 := S12.trans (s13.trans (s14.trans s15))
    generalize upd H14 du (.lst [V.ref aga, .ref lsa, .ref d3a, .ref d4a]) = H15 at gdu q1 q2 q3 q4 S15
    clear hnv12 hnv13 gl12 gl13 h3d h4d hag12 hls12 s13 s14 S12 hgo
    have ht15 := ht4.same S15
    -- found
    refine ⟨.int l, rfl, v, rfl, l, v, t, rfl, ht15, fun v1 H16 s16 h1 => ⟨.int l, rfl, v, rfl, l, v, t, rfl, ht15.same s16, fun v2 H17 s17 h2 => ⟨by show 2 ≤ sizeLine; decide, fun fa hfa => ?_⟩⟩⟩
    have s18 := Same.new (o := .lst [v1, v2]) hfa
    have gfa : (upd H17 fa (.lst [v1, v2])) fa = some (.lst [v1, v2]) := upd_same
    have S1518 := s16.trans (s17.trans s18)
    have h1' := h1.same (s17.trans s18)
    have h2' := h2.same s18
    generalize upd H17 fa (.lst [v1, v2]) = H18 at gfa S1518 h1' h2'
    clear h1 h2 s16 s17 s18
    refine ⟨.ref fa, rfl, .int l, rfl, v, rfl, l, v, t, rfl, ht15.same S1518, by omega, hfv, fun v3 H19 s19 h3 => ⟨.int l, rfl, v, rfl, l, v, t, rfl, (ht15.same S1518).same s19, by omega, hfv, fun v4 H20 s20 h4 => ⟨by show 2 ≤ sizeLine; decide, fun fb hfb => ?_⟩⟩⟩
    have s21 := Same.new (o := .lst [v3, v4]) hfb
    have S1821 := s19.trans (s20.trans s21)
    refine ⟨fa, fb, _, _, rfl, rfl, S1821 _ _ gfa, upd_same, by show 4 ≤ sizeLine; decide, fun fc hfc => ?_⟩
    have s22 := Same.new (o := .lst ([v1, v2] ++ [v3, v4])) hfc
    have gfc : (upd (upd H20 fb (.lst [v3, v4])) fc (.lst ([v1, v2] ++ [v3, v4]))) fc = some (.lst [v1, v2, v3, v4]) := upd_same
    have S1822 := S1821.trans s22
    have h1f := h1'.same S1822
    have h2f := h2'.same S1822
    have h3f := ((h3.same s20).same s21).same s22
    have h4f := (h4.same s21).same s22
    have S1522 := S1518.trans S1822
    generalize upd (upd H20 fb (.lst [v3, v4])) fc (.lst ([v1, v2] ++ [v3, v4])) = H22 at gfc S1822 h1f h2f h3f h4f S1522
    have S22 := S15.trans S1522
    have gdu22 := S1522 _ _ gdu
    have cA := fv_agF (l := l) hfv
    have cL := fv_laF (l := l) hfv
    have hfo : fv (opp t) = [] := by rw [opp_fv]; exact hfv
    have cAo := fv_agF (l := l) hfo
    have cLo := fv_laF (l := l) hfo
    have bq : ∀ e, val W (opp t) e = bad := fun e => by rw [val_oppC fit.good hfv e (fun _ => []), gq, ebad]
    have dA : ∀ u : F, u.depth ≤ 3 → (agF l u).depth ≤ 20 := fun u h => by simp only [agF, metF, F.depth]; omega
    have dL : ∀ u : F, u.depth ≤ 3 → (laF l u).depth ≤ 20 := fun u h => by simp only [laF, onF, F.depth]; omega
    have zA : ∀ u : F, u.size ≤ 100 → (agF l u).size ≤ 1000 := fun u h => by simp only [agF, metF, F.size]; omega
    have zL : ∀ u : F, u.size ≤ 100 → (laF l u).size ≤ 1000 := fun u h => by simp only [laF, onF, F.size]; omega
    have nA : ∀ u : F, NN u → NN (agF l u) := fun u h => ⟨by decide, by decide, ⟨h, l0, by show (0 : Int) ≤ 0; decide⟩, l0, by show (0 : Int) ≤ 1; decide⟩
    have nL : ∀ u : F, NN u → NN (laF l u) := fun u h => ⟨by decide, ⟨by decide, h, l0, by show (0 : Int) ≤ 1; decide⟩, l0, by show (0 : Int) ≤ 0; decide⟩
    have od : (opp t).depth ≤ 3 := by rw [opp_depth]; exact dep
    have oz : (opp t).size ≤ 100 := by rw [opp_size]; exact hsz
    have on' : NN (opp t) := nn_opp nn0
    have F1 : Fine K W H22 v1 aga (agF l t) (leadL W l ((cycL W l (rng W.n)).filter (sIn good))) := ⟨h1f, dA t dep, zA t hsz, cA, nA t nn0, S1522 _ _ q1, fun e => by rw [val_ag fit.good hfv, gq]⟩
    have F2 : Fine K W H22 v2 lsa (laF l t) (leadL W l (cycL W l good)) := ⟨h2f, dL t dep, zL t hsz, cL, nL t nn0, S1522 _ _ q2, fun e => by rw [val_la fit.good hfv, gq]⟩
    have F3 : Fine K W H22 v3 d3a (opp (laF l (opp t))) (co W.n (leadL W l (cycL W l bad))) := ⟨h3f, by rw [opp_depth]; exact dL _ od, by rw [opp_size]; exact zL _ oz, by rw [opp_fv]; exact cLo, nn_opp (nL _ on'), S1522 _ _ q3, fun e => by rw [val_oppC fit.good cLo e (fun _ => []), val_la fit.good hfo, bq]⟩
    have F4 : Fine K W H22 v4 d4a (opp (agF l (opp t))) (co W.n (leadL W l ((cycL W l (rng W.n)).filter (sIn bad)))) := ⟨h4f, by rw [opp_depth]; exact dA _ od, by rw [opp_size]; exact zA _ oz, by rw [opp_fv]; exact cAo, nn_opp (nA _ on'), S1522 _ _ q4, fun e => by rw [val_oppC fit.good cAo e (fun _ => []), val_ag fit.good hfo, bq]⟩
    refine ⟨4, rfl, by decide, by decide, for_range (lo := 0) (n := 4) (fun i σ G => ∃ (y14 : Option V), σ = [some (.ref a), some (.ref d), some (.ref wa), some v, some (.int l), some (.ref la), some (.ref ga), some (.ref ba), some (.ref aga), some (.ref lsa), some (.ref nva), some (.ref goa), some (.ref du), some (.ref fc), y14, none] ∧ Same H22 G) ⟨none, rfl, Same.refl _⟩ ?_ ?_⟩
    · rintro i σ G hi ⟨y14, rfl, sG⟩
      rw [Int.zero_add]
      obtain ⟨⟨x, b⟩, e1, u, Xu, fine⟩ : ∃ p : V × Addr, [(v1, aga), (v2, lsa), (v3, d3a), (v4, d4a)][i]? = some p ∧ ∃ u Xu, Fine K W H22 p.1 p.2 u Xu :=
        four_of (p := fun (_ : Nat) (p : V × Addr) => ∃ u Xu, Fine K W H22 p.1 p.2 u Xu) hi ⟨_, _, F1⟩ ⟨_, _, F2⟩ ⟨_, _, F3⟩ ⟨_, _, F4⟩
      have ex : [v1, v2, v3, v4][i]? = some x := by
        have := congrArg (Option.map Prod.fst) e1
        rw [← List.getElem?_map] at this
        exact this
      have eb : [V.ref aga, .ref lsa, .ref d3a, .ref d4a][i]? = some (.ref b) := by
        have := congrArg (Option.map fun p : V × Addr => V.ref p.2) e1
        rw [← List.getElem?_map] at this
        exact this
      refine ⟨.ref fc, rfl, .int (i : Nat), rfl, fc, _, _, x, rfl, rfl, SqL.of (sG _ _ gfc), atI_nat (j := i) ex, ?_⟩
      refine ⟨x, u, 60, rfl, fine.isf.same sG, fine.dep, by have := fine.dep; omega, fine.nn, fun G1 z1 => ⟨true, rfl, iteF ?_⟩⟩
      have sG1 := sG.trans z1
      refine ⟨.ref fc, rfl, .int (i : Nat), rfl, fc, _, _, x, rfl, rfl, SqL.of (sG1 _ _ gfc), atI_nat (j := i) ex, Nat.zero_le _, fun ea hea => ?_⟩
      have z2 := Same.new (o := .lst []) hea
      refine ⟨x, u, ea, [], rfl, (fine.isf.same sG1).same z2, fine.dep, fine.siz, upd_same, by decide, fun fl G3 z3 hfl => ?_⟩
      rw [closed_iff.mpr (closed_fv.mp fine.cl)] at hfl
      refine ⟨fl, _, rfl, .inl (SqL.of hfl), _, _, rfl, rfl, _, rfl, iteF ?_⟩
      have sG3 := sG1.trans (z2.trans z3)
      refine ⟨.ref wa, rfl, .ref fc, rfl, .int (i : Nat), rfl, fc, _, _, x, rfl, rfl, SqL.of (sG3 _ _ gfc), atI_nat (j := i) ex, ?_⟩
      refine ⟨.ref wa, x, W, u, fun _ => [], rfl, ⟨wa, sa, pa, fas, pas, rfl, X4.same (S22.trans sG3)⟩, fit, fine.isf.same sG3, fine.dep, fine.cl, fun ta G4 z4 hta => ?_⟩
      rw [fine.eq] at hta
      have sG4 := sG3.trans z4
      refine ⟨.ref du, rfl, .int (i : Nat), rfl, du, _, _, .ref b, rfl, rfl, SqL.of (sG4 _ _ gdu22), atI_nat (j := i) eb, ?_⟩
      refine ⟨_, _, .lst (SqL.of hta) (dp_ints _), .lst (SqL.of (sG4 _ _ fine.il)) (dp_ints _), ints_shaped _, ints_shaped _, _, rfl, ?_⟩
      rw [ints_same]
      refine iteF ?_
      exact ⟨_, rfl, sG4⟩
    · rintro σ G ⟨y14, rfl, sG⟩
      exact k _
end
end Fw

set_option maxRecDepth 100000
set_option maxHeartbeats 4000000
namespace Fw
open PySem PySem.Spec PyProof.Rows L2
theorem exm_own {K : PySem.W.Frag} {S : Addr} (h1 : PySem.W.subIn K (.ref S) (.type "BaseException") = some true) (h2 : PySem.W.hasDictIn K S = true) (h3 : PySem.W.typeIn K (.ref S) = some (.type "type")) (h4 : PySem.W.subIn K (.ref S) (.ref S) = some true) :
    PySem.W.exmOne K (.ref S) (.ref S) = some true := PySem.W.exm_ref h1 h2 h3 h4
theorem pairK {K : PySem.W.Frag} {J : Addr} {d : Option Addr} {n : Nat} {sl : Array (Option Value)} {t1 t2 : Tok} {x y : Str} (l : K.lookup J = some ⟨.type "tuple", d, .seq #[.str x t1, .str y t2] n, sl⟩) (H : Hp) : SqT K H J [.str x, .str y] :=
  .inr ⟨_, #[.str x t1, .str y t2], n, l, rfl, rfl, by show 2 ≤ sizeLine; decide, .cons ⟨t1, rfl⟩ (.cons ⟨t2, rfl⟩ .nil)⟩
theorem pairI {K : PySem.W.Frag} {J : Addr} {d : Option Addr} {n : Nat} {sl : Array (Option Value)} {t1 t2 : Tok} {x : Str} {y : Int} (l : K.lookup J = some ⟨.type "tuple", d, .seq #[.str x t1, .int y t2] n, sl⟩) (H : Hp) : SqT K H J [.str x, .int y] :=
  .inr ⟨_, #[.str x t1, .int y t2], n, l, rfl, rfl, by show 2 ≤ sizeLine; decide, .cons ⟨t1, rfl⟩ (.cons ⟨t2, rfl⟩ .nil)⟩
theorem all_mk {P : Program} {w : World} {K : PySem.W.Frag} {h : Heap} {mg : Str → Option Value} {NC FE : Addr}
    {C_Part : Addr}
    {fa f0 f1 f2 f3 f4 f5 f6 f7 f8 f9 f10 f11 f12 f13 f14 f15 f16 f17 f18 f19 f20 f21 f22 f23 f24 f25 f26 f27 f28 f29 f30 : Addr}
    {od0 an0 od1 an1 od2 an2 od3 an3 od4 an4 od5 an5 od6 an6 od7 an7 od8 an8 od9 an9 od10 an10 od11 an11 od12 an12 od13 an13 od14 an14 od15 an15 od16 an16 od17 an17 od18 an18 od19 an19 od20 an20 od21 an21 od22 an22 od23 an23 od24 an24 od25 an25 od26 an26 od27 an27 od28 an28 od29 an29 od30 an30 : Option Addr} {sl0 sl1 sl2 sl3 sl4 sl5 sl6 sl7 sl8 sl9 sl10 sl11 sl12 sl13 sl14 sl15 sl16 sl17 sl18 sl19 sl20 sl21 sl22 sl23 sl24 sl25 sl26 sl27 sl28 sl29 sl30 : Array (Option Value)} {oc0 kV0 dc0 pm0 cd0 ct0 oc1 kV1 dc1 pm1 cd1 ct1 oc2 kV2 dc2 pm2 cd2 ct2 oc3 kV3 dc3 pm3 cd3 ct3 oc4 kV4 dc4 pm4 cd4 ct4 oc5 kV5 dc5 pm5 cd5 ct5 oc6 kV6 dc6 pm6 cd6 ct6 oc7 kV7 dc7 pm7 cd7 ct7 oc8 kV8 dc8 pm8 cd8 ct8 oc9 kV9 dc9 pm9 cd9 ct9 oc10 kV10 dc10 pm10 cd10 ct10 oc11 kV11 dc11 pm11 cd11 ct11 oc12 kV12 dc12 pm12 cd12 ct12 oc13 kV13 dc13 pm13 cd13 ct13 oc14 kV14 dc14 pm14 cd14 ct14 oc15 kV15 dc15 pm15 cd15 ct15 oc16 kV16 dc16 pm16 cd16 ct16 oc17 kV17 dc17 pm17 cd17 ct17 oc18 kV18 dc18 pm18 cd18 ct18 oc19 kV19 dc19 pm19 cd19 ct19 oc20 kV20 dc20 pm20 cd20 ct20 oc21 kV21 dc21 pm21 cd21 ct21 oc22 kV22 dc22 pm22 cd22 ct22 oc23 kV23 dc23 pm23 cd23 ct23 oc24 kV24 dc24 pm24 cd24 ct24 oc25 kV25 dc25 pm25 cd25 ct25 oc26 kV26 dc26 pm26 cd26 ct26 oc27 kV27 dc27 pm27 cd27 ct27 oc28 kV28 dc28 pm28 cd28 ct28 oc29 kV29 dc29 pm29 cd29 ct29 oc30 kV30 dc30 pm30 cd30 ct30 : Value}
    {J_BINDERS : Addr} {dJ_BINDERS : Option Addr} {nJ_BINDERS : Nat} {sJ_BINDERS : Array (Option Value)} {t_BINDERS_0 t_BINDERS_1 : Tok}
    {J_JOINS : Addr} {dJ_JOINS : Option Addr} {nJ_JOINS : Nat} {sJ_JOINS : Array (Option Value)} {t_JOINS_0 t_JOINS_1 : Tok}
    {D_OPPOSITES : Addr} {eD_OPPOSITES : Array DictEntry} {nD_OPPOSITES : Nat} {t_OPPOSITES_0 t_OPPOSITES_1 t_OPPOSITES_2 t_OPPOSITES_3 t_OPPOSITES_4 t_OPPOSITES_5 t_OPPOSITES_6 t_OPPOSITES_7 t_OPPOSITES_8 t_OPPOSITES_9 t_OPPOSITES_10 : Tok}
    {J_OUTER : Addr} {dJ_OUTER : Option Addr} {nJ_OUTER : Nat} {sJ_OUTER : Array (Option Value)} {t_OUTER_0 t_OUTER_1 : Tok}
    {J_INNER : Addr} {dJ_INNER : Option Addr} {nJ_INNER : Nat} {sJ_INNER : Array (Option Value)} {t_INNER_0 t_INNER_1 : Tok}
    (X : K.In h) (G : h.Ns mainGlobals mg) (hfa : mg "law" = some (.ref fa))
    (aC_Part : PySem.W.nsIn K mainGlobals "Part" = some (some (.ref C_Part)))
    (a0 : PySem.W.findIn K (.ref C_Part) "__init__" = some (some (.ref f0)))
    (i0 : PySem.W.isFn K (.ref f0) = true)
    (l0 : K.lookup f0 = some ⟨oc0, od0, .func (PySem.W.fnOf "__init__" "Part.__init__" (defArgs s_Part_init) (defBody s_Part_init) (defScope s_Part_init) .none kV0 dc0 pm0 an0 cd0 ct0), sl0⟩)
    (c0 : PySem.W.codeIn K cd0 "Part.__init__" = true)
    (k0 : PySem.W.keepIn K (.ref f0) = true)
    (a1 : PySem.W.nsIn K mainGlobals "head_of" = some (some (.ref f1)))
    (l1 : K.lookup f1 = some ⟨oc1, od1, .func (PySem.W.fnOf "head_of" "head_of" (defArgs s_head_of) (defBody s_head_of) (defScope s_head_of) .none kV1 dc1 pm1 an1 cd1 ct1), sl1⟩)
    (c1 : PySem.W.codeIn K cd1 "head_of" = true)
    (k1 : PySem.W.keepIn K (.ref f1) = true)
    (a2 : PySem.W.nsIn K mainGlobals "parts_of" = some (some (.ref f2)))
    (l2 : K.lookup f2 = some ⟨oc2, od2, .func (PySem.W.fnOf "parts_of" "parts_of" (defArgs s_parts_of) (defBody s_parts_of) (defScope s_parts_of) .none kV2 dc2 pm2 an2 cd2 ct2), sl2⟩)
    (c2 : PySem.W.codeIn K cd2 "parts_of" = true)
    (k2 : PySem.W.keepIn K (.ref f2) = true)
    (a3 : PySem.W.nsIn K mainGlobals "built" = some (some (.ref f3)))
    (l3 : K.lookup f3 = some ⟨oc3, od3, .func (PySem.W.fnOf "built" "built" (defArgs s_built) (defBody s_built) (defScope s_built) .none kV3 dc3 pm3 an3 cd3 ct3), sl3⟩)
    (c3 : PySem.W.codeIn K cd3 "built" = true)
    (k3 : PySem.W.keepIn K (.ref f3) = true)
    (a4 : PySem.W.nsIn K mainGlobals "nearest_around" = some (some (.ref f4)))
    (l4 : K.lookup f4 = some ⟨oc4, od4, .func (PySem.W.fnOf "nearest_around" "nearest_around" (defArgs s_nearest_around) (defBody s_nearest_around) (defScope s_nearest_around) .none kV4 dc4 pm4 an4 cd4 ct4), sl4⟩)
    (c4 : PySem.W.codeIn K cd4 "nearest_around" = true)
    (k4 : PySem.W.keepIn K (.ref f4) = true)
    (a5 : PySem.W.nsIn K mainGlobals "binder_places" = some (some (.ref f5)))
    (l5 : K.lookup f5 = some ⟨oc5, od5, .func (PySem.W.fnOf "binder_places" "binder_places" (defArgs s_binder_places) (defBody s_binder_places) (defScope s_binder_places) .none kV5 dc5 pm5 an5 cd5 ct5), sl5⟩)
    (c5 : PySem.W.codeIn K cd5 "binder_places" = true)
    (k5 : PySem.W.keepIn K (.ref f5) = true)
    (a6 : PySem.W.nsIn K mainGlobals "free_variables" = some (some (.ref f6)))
    (l6 : K.lookup f6 = some ⟨oc6, od6, .func (PySem.W.fnOf "free_variables" "free_variables" (defArgs s_free_variables) (defBody s_free_variables) (defScope s_free_variables) .none kV6 dc6 pm6 an6 cd6 ct6), sl6⟩)
    (c6 : PySem.W.codeIn K cd6 "free_variables" = true)
    (k6 : PySem.W.keepIn K (.ref f6) = true)
    (a7 : PySem.W.nsIn K mainGlobals "ensure_closed" = some (some (.ref f7)))
    (l7 : K.lookup f7 = some ⟨oc7, od7, .func (PySem.W.fnOf "ensure_closed" "ensure_closed" (defArgs s_ensure_closed) (defBody s_ensure_closed) (defScope s_ensure_closed) .none kV7 dc7 pm7 an7 cd7 ct7), sl7⟩)
    (c7 : PySem.W.codeIn K cd7 "ensure_closed" = true)
    (k7 : PySem.W.keepIn K (.ref f7) = true)
    (a8 : PySem.W.nsIn K mainGlobals "opposite" = some (some (.ref f8)))
    (l8 : K.lookup f8 = some ⟨oc8, od8, .func (PySem.W.fnOf "opposite" "opposite" (defArgs s_opposite) (defBody s_opposite) (defScope s_opposite) .none kV8 dc8 pm8 an8 cd8 ct8), sl8⟩)
    (c8 : PySem.W.codeIn K cd8 "opposite" = true)
    (k8 : PySem.W.keepIn K (.ref f8) = true)
    (a9 : PySem.W.nsIn K mainGlobals "exchanged" = some (some (.ref f9)))
    (l9 : K.lookup f9 = some ⟨oc9, od9, .func (PySem.W.fnOf "exchanged" "exchanged" (defArgs s_exchanged) (defBody s_exchanged) (defScope s_exchanged) .none kV9 dc9 pm9 an9 cd9 ct9), sl9⟩)
    (c9 : PySem.W.codeIn K cd9 "exchanged" = true)
    (k9 : PySem.W.keepIn K (.ref f9) = true)
    (a10 : PySem.W.nsIn K mainGlobals "again_somewhere" = some (some (.ref f10)))
    (l10 : K.lookup f10 = some ⟨oc10, od10, .func (PySem.W.fnOf "again_somewhere" "again_somewhere" (defArgs s_again_somewhere) (defBody s_again_somewhere) (defScope s_again_somewhere) .none kV10 dc10 pm10 an10 cd10 ct10), sl10⟩)
    (c10 : PySem.W.codeIn K cd10 "again_somewhere" = true)
    (k10 : PySem.W.keepIn K (.ref f10) = true)
    (a11 : PySem.W.nsIn K mainGlobals "again_everywhere" = some (some (.ref f11)))
    (l11 : K.lookup f11 = some ⟨oc11, od11, .func (PySem.W.fnOf "again_everywhere" "again_everywhere" (defArgs s_again_everywhere) (defBody s_again_everywhere) (defScope s_again_everywhere) .none kV11 dc11 pm11 an11 cd11 ct11), sl11⟩)
    (c11 : PySem.W.codeIn K cd11 "again_everywhere" = true)
    (k11 : PySem.W.keepIn K (.ref f11) = true)
    (a12 : PySem.W.nsIn K mainGlobals "last_somewhere" = some (some (.ref f12)))
    (l12 : K.lookup f12 = some ⟨oc12, od12, .func (PySem.W.fnOf "last_somewhere" "last_somewhere" (defArgs s_last_somewhere) (defBody s_last_somewhere) (defScope s_last_somewhere) .none kV12 dc12 pm12 an12 cd12 ct12), sl12⟩)
    (c12 : PySem.W.codeIn K cd12 "last_somewhere" = true)
    (k12 : PySem.W.keepIn K (.ref f12) = true)
    (a13 : PySem.W.nsIn K mainGlobals "last_everywhere" = some (some (.ref f13)))
    (l13 : K.lookup f13 = some ⟨oc13, od13, .func (PySem.W.fnOf "last_everywhere" "last_everywhere" (defArgs s_last_everywhere) (defBody s_last_everywhere) (defScope s_last_everywhere) .none kV13 dc13 pm13 an13 cd13 ct13), sl13⟩)
    (c13 : PySem.W.codeIn K cd13 "last_everywhere" = true)
    (k13 : PySem.W.keepIn K (.ref f13) = true)
    (a14 : PySem.W.nsIn K mainGlobals "_law_draws" = some (some (.ref f14)))
    (l14 : K.lookup f14 = some ⟨oc14, od14, .func (PySem.W.fnOf "_law_draws" "_law_draws" (defArgs s_law_draws) (defBody s_law_draws) (defScope s_law_draws) .none kV14 dc14 pm14 an14 cd14 ct14), sl14⟩)
    (c14 : PySem.W.codeIn K cd14 "_law_draws" = true)
    (k14 : PySem.W.keepIn K (.ref f14) = true)
    (a15 : PySem.W.nsIn K mainGlobals "_law_take" = some (some (.ref f15)))
    (l15 : K.lookup f15 = some ⟨oc15, od15, .func (PySem.W.fnOf "_law_take" "_law_take" (defArgs s_law_take) (defBody s_law_take) (defScope s_law_take) .none kV15 dc15 pm15 an15 cd15 ct15), sl15⟩)
    (c15 : PySem.W.codeIn K cd15 "_law_take" = true)
    (k15 : PySem.W.keepIn K (.ref f15) = true)
    (a16 : PySem.W.nsIn K mainGlobals "_law_is_integer" = some (some (.ref f16)))
    (l16 : K.lookup f16 = some ⟨oc16, od16, .func (PySem.W.fnOf "_law_is_integer" "_law_is_integer" (defArgs s_law_is_integer) (defBody s_law_is_integer) (defScope s_law_is_integer) .none kV16 dc16 pm16 an16 cd16 ct16), sl16⟩)
    (c16 : PySem.W.codeIn K cd16 "_law_is_integer" = true)
    (k16 : PySem.W.keepIn K (.ref f16) = true)
    (a17 : PySem.W.nsIn K mainGlobals "_law_inner" = some (some (.ref f17)))
    (l17 : K.lookup f17 = some ⟨oc17, od17, .func (PySem.W.fnOf "_law_inner" "_law_inner" (defArgs s_law_inner) (defBody s_law_inner) (defScope s_law_inner) .none kV17 dc17 pm17 an17 cd17 ct17), sl17⟩)
    (c17 : PySem.W.codeIn K cd17 "_law_inner" = true)
    (k17 : PySem.W.keepIn K (.ref f17) = true)
    (a18 : PySem.W.nsIn K mainGlobals "_law_atom" = some (some (.ref f18)))
    (l18 : K.lookup f18 = some ⟨oc18, od18, .func (PySem.W.fnOf "_law_atom" "_law_atom" (defArgs s_law_atom) (defBody s_law_atom) (defScope s_law_atom) .none kV18 dc18 pm18 an18 cd18 ct18), sl18⟩)
    (c18 : PySem.W.codeIn K cd18 "_law_atom" = true)
    (k18 : PySem.W.keepIn K (.ref f18) = true)
    (a19 : PySem.W.nsIn K mainGlobals "_law_statement" = some (some (.ref f19)))
    (l19 : K.lookup f19 = some ⟨oc19, od19, .func (PySem.W.fnOf "_law_statement" "_law_statement" (defArgs s_law_statement) (defBody s_law_statement) (defScope s_law_statement) .none kV19 dc19 pm19 an19 cd19 ct19), sl19⟩)
    (c19 : PySem.W.codeIn K cd19 "_law_statement" = true)
    (k19 : PySem.W.keepIn K (.ref f19) = true)
    (a20 : PySem.W.nsIn K mainGlobals "_law_closed" = some (some (.ref f20)))
    (l20 : K.lookup f20 = some ⟨oc20, od20, .func (PySem.W.fnOf "_law_closed" "_law_closed" (defArgs s_law_closed) (defBody s_law_closed) (defScope s_law_closed) .none kV20 dc20 pm20 an20 cd20 ct20), sl20⟩)
    (c20 : PySem.W.codeIn K cd20 "_law_closed" = true)
    (k20 : PySem.W.keepIn K (.ref f20) = true)
    (a21 : PySem.W.nsIn K mainGlobals "_law_free" = some (some (.ref f21)))
    (l21 : K.lookup f21 = some ⟨oc21, od21, .func (PySem.W.fnOf "_law_free" "_law_free" (defArgs s_law_free) (defBody s_law_free) (defScope s_law_free) .none kV21 dc21 pm21 an21 cd21 ct21), sl21⟩)
    (c21 : PySem.W.codeIn K cd21 "_law_free" = true)
    (k21 : PySem.W.keepIn K (.ref f21) = true)
    (a22 : PySem.W.nsIn K mainGlobals "_law_world" = some (some (.ref f22)))
    (l22 : K.lookup f22 = some ⟨oc22, od22, .func (PySem.W.fnOf "_law_world" "_law_world" (defArgs s_law_world) (defBody s_law_world) (defScope s_law_world) .none kV22 dc22 pm22 an22 cd22 ct22), sl22⟩)
    (c22 : PySem.W.codeIn K cd22 "_law_world" = true)
    (k22 : PySem.W.keepIn K (.ref f22) = true)
    (a23 : PySem.W.nsIn K mainGlobals "_law_behind" = some (some (.ref f23)))
    (l23 : K.lookup f23 = some ⟨oc23, od23, .func (PySem.W.fnOf "_law_behind" "_law_behind" (defArgs s_law_behind) (defBody s_law_behind) (defScope s_law_behind) .none kV23 dc23 pm23 an23 cd23 ct23), sl23⟩)
    (c23 : PySem.W.codeIn K cd23 "_law_behind" = true)
    (k23 : PySem.W.keepIn K (.ref f23) = true)
    (a24 : PySem.W.nsIn K mainGlobals "_law_value" = some (some (.ref f24)))
    (l24 : K.lookup f24 = some ⟨oc24, od24, .func (PySem.W.fnOf "_law_value" "_law_value" (defArgs s_law_value) (defBody s_law_value) (defScope s_law_value) .none kV24 dc24 pm24 an24 cd24 ct24), sl24⟩)
    (c24 : PySem.W.codeIn K cd24 "_law_value" = true)
    (k24 : PySem.W.keepIn K (.ref f24) = true)
    (a25 : PySem.W.nsIn K mainGlobals "_law_truth" = some (some (.ref f25)))
    (l25 : K.lookup f25 = some ⟨oc25, od25, .func (PySem.W.fnOf "_law_truth" "_law_truth" (defArgs s_law_truth) (defBody s_law_truth) (defScope s_law_truth) .none kV25 dc25 pm25 an25 cd25 ct25), sl25⟩)
    (c25 : PySem.W.codeIn K cd25 "_law_truth" = true)
    (k25 : PySem.W.keepIn K (.ref f25) = true)
    (a26 : PySem.W.nsIn K mainGlobals "_law_is_statement" = some (some (.ref f26)))
    (l26 : K.lookup f26 = some ⟨oc26, od26, .func (PySem.W.fnOf "_law_is_statement" "_law_is_statement" (defArgs s_law_is_statement) (defBody s_law_is_statement) (defScope s_law_is_statement) .none kV26 dc26 pm26 an26 cd26 ct26), sl26⟩)
    (c26 : PySem.W.codeIn K cd26 "_law_is_statement" = true)
    (k26 : PySem.W.keepIn K (.ref f26) = true)
    (a27 : PySem.W.nsIn K mainGlobals "_law_reached" = some (some (.ref f27)))
    (l27 : K.lookup f27 = some ⟨oc27, od27, .func (PySem.W.fnOf "_law_reached" "_law_reached" (defArgs s_law_reached) (defBody s_law_reached) (defScope s_law_reached) .none kV27 dc27 pm27 an27 cd27 ct27), sl27⟩)
    (c27 : PySem.W.codeIn K cd27 "_law_reached" = true)
    (k27 : PySem.W.keepIn K (.ref f27) = true)
    (a28 : PySem.W.nsIn K mainGlobals "_law_coming_back" = some (some (.ref f28)))
    (l28 : K.lookup f28 = some ⟨oc28, od28, .func (PySem.W.fnOf "_law_coming_back" "_law_coming_back" (defArgs s_law_coming_back) (defBody s_law_coming_back) (defScope s_law_coming_back) .none kV28 dc28 pm28 an28 cd28 ct28), sl28⟩)
    (c28 : PySem.W.codeIn K cd28 "_law_coming_back" = true)
    (k28 : PySem.W.keepIn K (.ref f28) = true)
    (a29 : PySem.W.nsIn K mainGlobals "_law_leading" = some (some (.ref f29)))
    (l29 : K.lookup f29 = some ⟨oc29, od29, .func (PySem.W.fnOf "_law_leading" "_law_leading" (defArgs s_law_leading) (defBody s_law_leading) (defScope s_law_leading) .none kV29 dc29 pm29 an29 cd29 ct29), sl29⟩)
    (c29 : PySem.W.codeIn K cd29 "_law_leading" = true)
    (k29 : PySem.W.keepIn K (.ref f29) = true)
    (a30 : PySem.W.nsIn K mainGlobals "law" = some (some (.ref f30)))
    (l30 : K.lookup f30 = some ⟨oc30, od30, .func (PySem.W.fnOf "law" "law" (defArgs s_law) (defBody s_law) (defScope s_law) .none kV30 dc30 pm30 an30 cd30 ct30), sl30⟩)
    (c30 : PySem.W.codeIn K cd30 "law" = true)
    (k30 : PySem.W.keepIn K (.ref f30) = true)
    (pg_Part : PySem.W.plainGet K C_Part Str.empty = true)
    (hd_Part : PySem.W.hasDictIn K C_Part = true)
    (po_Part : PySem.W.plainOver K C_Part = true)
    (sa_Part : PySem.W.findIn K (.ref C_Part) "__setattr__" = some (some (.builtin "object.__setattr__")))
    (mk_Part : PySem.W.makesIn K C_Part = true)
    (kc_Part : PySem.W.keepIn K (.ref C_Part) = true)
    (n_Part_head : PySem.W.findIn K (.ref C_Part) "head" = some none)
    (n_Part_around : PySem.W.findIn K (.ref C_Part) "around" = some none)
    (n_Part_inner : PySem.W.findIn K (.ref C_Part) "inner" = some none)
    (z_bool : PySem.W.nsIn K mainGlobals "bool" = some none)
    (z_enumerate : PySem.W.nsIn K mainGlobals "enumerate" = some none)
    (z_int : PySem.W.nsIn K mainGlobals "int" = some none)
    (z_isinstance : PySem.W.nsIn K mainGlobals "isinstance" = some none)
    (z_len : PySem.W.nsIn K mainGlobals "len" = some none)
    (z_list : PySem.W.nsIn K mainGlobals "list" = some none)
    (z_range : PySem.W.nsIn K mainGlobals "range" = some none)
    (z_reversed : PySem.W.nsIn K mainGlobals "reversed" = some none)
    (z_sorted : PySem.W.nsIn K mainGlobals "sorted" = some none)
    (z_tuple : PySem.W.nsIn K mainGlobals "tuple" = some none)
    (z_zip : PySem.W.nsIn K mainGlobals "zip" = some none)
    (aJ_BINDERS : PySem.W.nsIn K mainGlobals "BINDERS" = some (some (.ref J_BINDERS)))
    (lJ_BINDERS : K.lookup J_BINDERS = some ⟨.type "tuple", dJ_BINDERS, .seq #[.str "least" t_BINDERS_0, .str "most" t_BINDERS_1] nJ_BINDERS, sJ_BINDERS⟩)
    (aJ_JOINS : PySem.W.nsIn K mainGlobals "JOINS" = some (some (.ref J_JOINS)))
    (lJ_JOINS : K.lookup J_JOINS = some ⟨.type "tuple", dJ_JOINS, .seq #[.str "and" t_JOINS_0, .str "or" t_JOINS_1] nJ_JOINS, sJ_JOINS⟩)
    (aD_OPPOSITES : PySem.W.nsIn K mainGlobals "OPPOSITES" = some (some (.ref D_OPPOSITES)))
    (lD_OPPOSITES : K.lookup D_OPPOSITES = some ⟨.type "dict", none, .dict eD_OPPOSITES nD_OPPOSITES, #[]⟩)
    (kD_OPPOSITES : PySem.W.KeysLit w.params eD_OPPOSITES.toList)
    (iD_OPPOSITES_true : PySem.W.nsIn K D_OPPOSITES "true" = some (some (.str "false" t_OPPOSITES_0)))
    (iD_OPPOSITES_false : PySem.W.nsIn K D_OPPOSITES "false" = some (some (.str "true" t_OPPOSITES_1)))
    (iD_OPPOSITES_has : PySem.W.nsIn K D_OPPOSITES "has" = some (some (.str "lacks" t_OPPOSITES_2)))
    (iD_OPPOSITES_lacks : PySem.W.nsIn K D_OPPOSITES "lacks" = some (some (.str "has" t_OPPOSITES_3)))
    (iD_OPPOSITES_and : PySem.W.nsIn K D_OPPOSITES "and" = some (some (.str "or" t_OPPOSITES_4)))
    (iD_OPPOSITES_or : PySem.W.nsIn K D_OPPOSITES "or" = some (some (.str "and" t_OPPOSITES_5)))
    (iD_OPPOSITES_some : PySem.W.nsIn K D_OPPOSITES "some" = some (some (.str "all" t_OPPOSITES_6)))
    (iD_OPPOSITES_all : PySem.W.nsIn K D_OPPOSITES "all" = some (some (.str "some" t_OPPOSITES_7)))
    (iD_OPPOSITES_least : PySem.W.nsIn K D_OPPOSITES "least" = some (some (.str "most" t_OPPOSITES_8)))
    (iD_OPPOSITES_most : PySem.W.nsIn K D_OPPOSITES "most" = some (some (.str "least" t_OPPOSITES_9)))
    (iD_OPPOSITES_var : PySem.W.nsIn K D_OPPOSITES "var" = some (some (.str "var" t_OPPOSITES_10)))
    (aJ_OUTER : PySem.W.nsIn K mainGlobals "OUTER" = some (some (.ref J_OUTER)))
    (lJ_OUTER : K.lookup J_OUTER = some ⟨.type "tuple", dJ_OUTER, .seq #[.str "var" t_OUTER_0, .int 0 t_OUTER_1] nJ_OUTER, sJ_OUTER⟩)
    (aJ_INNER : PySem.W.nsIn K mainGlobals "INNER" = some (some (.ref J_INNER)))
    (lJ_INNER : K.lookup J_INNER = some ⟨.type "tuple", dJ_INNER, .seq #[.str "var" t_INNER_0, .int 1 t_INNER_1] nJ_INNER, sJ_INNER⟩)
    (e_gC : PySem.W.nsIn K mainGlobals "NotClosed" = some (some (.ref NC)))
    (e_gF : PySem.W.nsIn K mainGlobals "FixError" = some (some (.ref FE)))
    (e_xC : PySem.W.excIn K NC [.type "ValueError", .type "Exception", .type "BaseException", .type "object"] "ValueError.__new__" = true)
    (e_kC : PySem.W.keepIn K (.ref NC) = true)
    (e_bC : PySem.W.subIn K (.ref NC) (.type "BaseException") = some true)
    (e_tC : PySem.W.typeIn K (.ref NC) = some (.type "type"))
    (e_iC : PySem.W.isClsIn K NC = true)
    (e_sC : PySem.W.subIn K (.ref NC) (.ref NC) = some true)
    (e_xg : PySem.W.findIn K (.ref NC) "__getattribute__" = some (some (.builtin "BaseException.__getattribute__")))
    (e_xk : PySem.W.findIn K (.ref NC) "__getattr__" = some none)
    (e_xd : PySem.W.hasDictIn K NC = true)
    (e_xa : PySem.W.findIn K (.ref NC) "__class__" = some (some (.builtin "object.__class__")))
    (e_xn : PySem.W.specialIn K (.builtin "object.__class__") "__get__" = some (some (.builtin "getset_descriptor.__get__")))
    (e_xt : PySem.W.takesIn K (.builtin "object.__class__") = some true)
    (e_xm : PySem.W.mroIn K NC (.type "object") = some true)
    (e_kF : PySem.W.kitOne K (.ref NC) (.ref FE) = some true)
    (e_kV : PySem.W.kitOne K (.ref NC) (.type "ValueError") = some true) :
    ∃ fd : FuncData, (∀ (s : Shared) (u : Value), BindsTo s fd ⟨[u], []⟩ [("script", u)]) ∧ ∀ base : Heap, K.In base → base.Ns mainGlobals mg → FnOk P w K mg base CX0 24 fa fd ["script"] (spLaw K) := by
  have e := hfa.symm.trans (PySem.W.mg_of X G a30)
  cases e
  have F_Part_init := fun_mk (st := s_Part_init) l0 c0 k0
  have b_Part_init := F_Part_init.binds (ps := a_Part_init) fun _ _ _ _ _ _ us hl => match us, hl with | [_, _, _], _ => rfl
  have F_head_of := fun_mk (st := s_head_of) l1 c1 k1
  have b_head_of := F_head_of.binds (ps := a_head_of) fun _ _ _ _ _ _ us hl => match us, hl with | [_], _ => rfl
  have m_head_of := PySem.W.mg_of X G a1
  have F_parts_of := fun_mk (st := s_parts_of) l2 c2 k2
  have b_parts_of := F_parts_of.binds (ps := a_parts_of) fun _ _ _ _ _ _ us hl => match us, hl with | [_], _ => rfl
  have m_parts_of := PySem.W.mg_of X G a2
  have F_built := fun_mk (st := s_built) l3 c3 k3
  have b_built := F_built.binds (ps := a_built) fun _ _ _ _ _ _ us hl => match us, hl with | [_, _], _ => rfl
  have m_built := PySem.W.mg_of X G a3
  have F_nearest_around := fun_mk (st := s_nearest_around) l4 c4 k4
  have b_nearest_around := F_nearest_around.binds (ps := a_nearest_around) fun _ _ _ _ _ _ us hl => match us, hl with | [_, _], _ => rfl
  have m_nearest_around := PySem.W.mg_of X G a4
  have F_binder_places := fun_mk (st := s_binder_places) l5 c5 k5
  have b_binder_places := F_binder_places.binds (ps := a_binder_places) fun _ _ _ _ _ _ us hl => match us, hl with | [_], _ => rfl
  have m_binder_places := PySem.W.mg_of X G a5
  have F_free_variables := fun_mk (st := s_free_variables) l6 c6 k6
  have b_free_variables := F_free_variables.binds (ps := a_free_variables) fun _ _ _ _ _ _ us hl => match us, hl with | [_], _ => rfl
  have m_free_variables := PySem.W.mg_of X G a6
  have F_ensure_closed := fun_mk (st := s_ensure_closed) l7 c7 k7
  have b_ensure_closed := F_ensure_closed.binds (ps := a_ensure_closed) fun _ _ _ _ _ _ us hl => match us, hl with | [_], _ => rfl
  have m_ensure_closed := PySem.W.mg_of X G a7
  have F_opposite := fun_mk (st := s_opposite) l8 c8 k8
  have b_opposite := F_opposite.binds (ps := a_opposite) fun _ _ _ _ _ _ us hl => match us, hl with | [_], _ => rfl
  have m_opposite := PySem.W.mg_of X G a8
  have F_exchanged := fun_mk (st := s_exchanged) l9 c9 k9
  have b_exchanged := F_exchanged.binds (ps := a_exchanged) fun _ _ _ _ _ _ us hl => match us, hl with | [_], _ => rfl
  have m_exchanged := PySem.W.mg_of X G a9
  have F_again_somewhere := fun_mk (st := s_again_somewhere) l10 c10 k10
  have b_again_somewhere := F_again_somewhere.binds (ps := a_again_somewhere) fun _ _ _ _ _ _ us hl => match us, hl with | [_, _], _ => rfl
  have m_again_somewhere := PySem.W.mg_of X G a10
  have F_again_everywhere := fun_mk (st := s_again_everywhere) l11 c11 k11
  have b_again_everywhere := F_again_everywhere.binds (ps := a_again_everywhere) fun _ _ _ _ _ _ us hl => match us, hl with | [_, _], _ => rfl
  have m_again_everywhere := PySem.W.mg_of X G a11
  have F_last_somewhere := fun_mk (st := s_last_somewhere) l12 c12 k12
  have b_last_somewhere := F_last_somewhere.binds (ps := a_last_somewhere) fun _ _ _ _ _ _ us hl => match us, hl with | [_, _], _ => rfl
  have m_last_somewhere := PySem.W.mg_of X G a12
  have F_last_everywhere := fun_mk (st := s_last_everywhere) l13 c13 k13
  have b_last_everywhere := F_last_everywhere.binds (ps := a_last_everywhere) fun _ _ _ _ _ _ us hl => match us, hl with | [_, _], _ => rfl
  have m_last_everywhere := PySem.W.mg_of X G a13
  have F_law_draws := fun_mk (st := s_law_draws) l14 c14 k14
  have b_law_draws := F_law_draws.binds (ps := a_law_draws) fun _ _ _ _ _ _ us hl => match us, hl with | [_, _], _ => rfl
  have m_law_draws := PySem.W.mg_of X G a14
  have F_law_take := fun_mk (st := s_law_take) l15 c15 k15
  have b_law_take := F_law_take.binds (ps := a_law_take) fun _ _ _ _ _ _ us hl => match us, hl with | [_, _], _ => rfl
  have m_law_take := PySem.W.mg_of X G a15
  have F_law_is_integer := fun_mk (st := s_law_is_integer) l16 c16 k16
  have b_law_is_integer := F_law_is_integer.binds (ps := a_law_is_integer) fun _ _ _ _ _ _ us hl => match us, hl with | [_], _ => rfl
  have m_law_is_integer := PySem.W.mg_of X G a16
  have F_law_inner := fun_mk (st := s_law_inner) l17 c17 k17
  have b_law_inner := F_law_inner.binds (ps := a_law_inner) fun _ _ _ _ _ _ us hl => match us, hl with | [_], _ => rfl
  have m_law_inner := PySem.W.mg_of X G a17
  have F_law_atom := fun_mk (st := s_law_atom) l18 c18 k18
  have b_law_atom := F_law_atom.binds (ps := a_law_atom) fun _ _ _ _ _ _ us hl => match us, hl with | [_, _], _ => rfl
  have m_law_atom := PySem.W.mg_of X G a18
  have F_law_statement := fun_mk (st := s_law_statement) l19 c19 k19
  have b_law_statement := F_law_statement.binds (ps := a_law_statement) fun _ _ _ _ _ _ us hl => match us, hl with | [_, _, _, _, _], _ => rfl
  have m_law_statement := PySem.W.mg_of X G a19
  have F_law_closed := fun_mk (st := s_law_closed) l20 c20 k20
  have b_law_closed := F_law_closed.binds (ps := a_law_closed) fun _ _ _ _ _ _ us hl => match us, hl with | [_, _], _ => rfl
  have m_law_closed := PySem.W.mg_of X G a20
  have F_law_free := fun_mk (st := s_law_free) l21 c21 k21
  have b_law_free := F_law_free.binds (ps := a_law_free) fun _ _ _ _ _ _ us hl => match us, hl with | [_, _], _ => rfl
  have m_law_free := PySem.W.mg_of X G a21
  have F_law_world := fun_mk (st := s_law_world) l22 c22 k22
  have b_law_world := F_law_world.binds (ps := a_law_world) fun _ _ _ _ _ _ us hl => match us, hl with | [_, _, _], _ => rfl
  have m_law_world := PySem.W.mg_of X G a22
  have F_law_behind := fun_mk (st := s_law_behind) l23 c23 k23
  have b_law_behind := F_law_behind.binds (ps := a_law_behind) fun _ _ _ _ _ _ us hl => match us, hl with | [_, _, _], _ => rfl
  have m_law_behind := PySem.W.mg_of X G a23
  have F_law_value := fun_mk (st := s_law_value) l24 c24 k24
  have b_law_value := F_law_value.binds (ps := a_law_value) fun _ _ _ _ _ _ us hl => match us, hl with | [_, _, _], _ => rfl
  have m_law_value := PySem.W.mg_of X G a24
  have F_law_truth := fun_mk (st := s_law_truth) l25 c25 k25
  have b_law_truth := F_law_truth.binds (ps := a_law_truth) fun _ _ _ _ _ _ us hl => match us, hl with | [_, _], _ => rfl
  have m_law_truth := PySem.W.mg_of X G a25
  have F_law_is_statement := fun_mk (st := s_law_is_statement) l26 c26 k26
  have b_law_is_statement := F_law_is_statement.binds (ps := a_law_is_statement) fun _ _ _ _ _ _ us hl => match us, hl with | [_, _], _ => rfl
  have m_law_is_statement := PySem.W.mg_of X G a26
  have F_law_reached := fun_mk (st := s_law_reached) l27 c27 k27
  have b_law_reached := F_law_reached.binds (ps := a_law_reached) fun _ _ _ _ _ _ us hl => match us, hl with | [_, _, _, _], _ => rfl
  have m_law_reached := PySem.W.mg_of X G a27
  have F_law_coming_back := fun_mk (st := s_law_coming_back) l28 c28 k28
  have b_law_coming_back := F_law_coming_back.binds (ps := a_law_coming_back) fun _ _ _ _ _ _ us hl => match us, hl with | [_, _, _], _ => rfl
  have m_law_coming_back := PySem.W.mg_of X G a28
  have F_law_leading := fun_mk (st := s_law_leading) l29 c29 k29
  have b_law_leading := F_law_leading.binds (ps := a_law_leading) fun _ _ _ _ _ _ us hl => match us, hl with | [_, _, _], _ => rfl
  have m_law_leading := PySem.W.mg_of X G a29
  have F_law := fun_mk (st := s_law) l30 c30 k30
  have T : Txt K mg C_Part J_JOINS J_BINDERS := ⟨PySem.W.mg_none_of X G z_bool, PySem.W.mg_none_of X G z_enumerate, PySem.W.mg_none_of X G z_int, PySem.W.mg_none_of X G z_isinstance, PySem.W.mg_none_of X G z_len, PySem.W.mg_none_of X G z_list, PySem.W.mg_none_of X G z_range, PySem.W.mg_none_of X G z_reversed, PySem.W.mg_none_of X G z_sorted, PySem.W.mg_none_of X G z_tuple, PySem.W.mg_none_of X G z_zip, PySem.W.mg_of X G aJ_JOINS, pairK lJ_JOINS, PySem.W.mg_of X G aJ_BINDERS, pairK lJ_BINDERS, ⟨pg_Part, hd_Part, po_Part, sa_Part⟩, n_Part_head, n_Part_around, n_Part_inner⟩
  have TE : TxtE K mg NC FE := ⟨PySem.W.mg_of X G e_gC, PySem.W.mg_of X G e_gF, e_xC, e_kC, e_bC, e_tC, exm_own e_bC e_xd e_tC e_sC, ⟨e_xg, e_xk, e_bC, e_xd, e_xa, e_xn, e_xt, e_xm⟩, e_kF, e_kV⟩
  have TO : TxtO K mg w D_OPPOSITES := ⟨PySem.W.mg_of X G aD_OPPOSITES, fun h => by
    have z : ∀ (x y : Str) (t : Tok), PySem.W.nsIn K D_OPPOSITES x = some (some (.str y t)) → KDct K w D_OPPOSITES x (.str y) := fun x y t e => ⟨_, _, _, lD_OPPOSITES, kD_OPPOSITES, e, ⟨t, rfl⟩⟩
    cases h with
    | nul b =>
      cases b
      · exact z _ _ _ iD_OPPOSITES_false
      · exact z _ _ _ iD_OPPOSITES_true
    | leaf k n =>
      cases k
      · exact z _ _ _ iD_OPPOSITES_has
      · exact z _ _ _ iD_OPPOSITES_lacks
      · exact z _ _ _ iD_OPPOSITES_var
    | two b =>
      cases b
      · exact z _ _ _ iD_OPPOSITES_or
      · exact z _ _ _ iD_OPPOSITES_and
    | one k n =>
      cases k
      · exact z _ _ _ iD_OPPOSITES_some
      · exact z _ _ _ iD_OPPOSITES_all
      · exact z _ _ _ iD_OPPOSITES_least
      · exact z _ _ _ iD_OPPOSITES_most⟩
  refine ⟨PySem.W.fnOf "law" "law" (defArgs s_law) (defBody s_law) (defScope s_law) .none kV30 dc30 pm30 an30 cd30 ct30, fun s u => .of_eq rfl, fun base _ _ => ?_⟩
  have h_Part : HasC P w K mg base "Part" C_Part 1 a_Part_init (spPart K C_Part) := ⟨_, _, PySem.W.mg_of X G aC_Part, ⟨mk_Part, a0, i0, kc_Part⟩, b_Part_init, ok_Part F_Part_init T⟩
  have h_head_of : Has P w K mg base "head_of" 1 a_head_of (spHead K) := ⟨_, _, m_head_of, F_head_of.kp, b_head_of, ok_head_of F_head_of T⟩
  have h_parts_of : Has P w K mg base "parts_of" 3 a_parts_of (spParts K C_Part) := ⟨_, _, m_parts_of, F_parts_of.kp, b_parts_of, ok_parts_of F_parts_of T h_head_of h_Part⟩
  have h_built : Has P w K mg base "built" 1 a_built (spBuilt K C_Part) := ⟨_, _, m_built, F_built.kp, b_built, ok_built F_built T⟩
  have h_near : Has P w K mg base "nearest_around" 1 a_nearest_around (spNear K C_Part J_BINDERS) := ⟨_, _, m_nearest_around, F_nearest_around.kp, b_nearest_around, ok_nearest_around F_nearest_around T⟩
  have h_places : Has P w K mg base "binder_places" 2 a_binder_places (spPlaces K C_Part) := ⟨_, _, m_binder_places, F_binder_places.kp, b_binder_places, ok_binder_places F_binder_places T h_near⟩
  have h_free : Has P w K mg base "free_variables" 4 a_free_variables (spFree K) := ⟨_, _, m_free_variables, F_free_variables.kp, b_free_variables, ok_free_variables F_free_variables T h_parts_of h_places⟩
  have h_ens : HasX P w K mg base "ensure_closed" 5 a_ensure_closed (spEnsure K NC) := ⟨_, _, m_ensure_closed, F_ensure_closed.kp, b_ensure_closed, ok_ensure_closed F_ensure_closed T TE h_free⟩
  have h_exch : Has P w K mg base "exchanged" 4 a_exchanged (spExch K) := ⟨_, _, m_exchanged, F_exchanged.kp, b_exchanged, ok_exchanged F_exchanged T TO h_parts_of h_built⟩
  have h_opp : HasX P w K mg base "opposite" 6 a_opposite (spOpp K NC) := ⟨_, _, m_opposite, F_opposite.kp, b_opposite, ok_opposite F_opposite T h_ens h_exch⟩
  have TA : TxtA K mg J_OUTER J_INNER := ⟨PySem.W.mg_of X G aJ_OUTER, PySem.W.mg_of X G aJ_INNER, fun H => pairI lJ_OUTER H, fun H => pairI lJ_INNER H⟩
  have h_as : Has P w K mg base "again_somewhere" 1 a_again_somewhere (spAgS K agF) := ⟨_, _, m_again_somewhere, F_again_somewhere.kp, b_again_somewhere, ok_again_somewhere F_again_somewhere TA⟩
  have h_ls : Has P w K mg base "last_somewhere" 1 a_last_somewhere (spAgS K laF) := ⟨_, _, m_last_somewhere, F_last_somewhere.kp, b_last_somewhere, ok_last_somewhere F_last_somewhere TA⟩
  have h_ae : HasX P w K mg base "again_everywhere" 7 a_again_everywhere (spAgE K laF) := ⟨_, _, m_again_everywhere, F_again_everywhere.kp, b_again_everywhere, ok_again_everywhere F_again_everywhere h_opp h_ls⟩
  have h_le : HasX P w K mg base "last_everywhere" 7 a_last_everywhere (spAgE K agF) := ⟨_, _, m_last_everywhere, F_last_everywhere.kp, b_last_everywhere, ok_last_everywhere F_last_everywhere h_opp h_as⟩
  have h_draws : Has P w K mg base "_law_draws" 1 a_law_draws (spDraws K) := ⟨_, _, m_law_draws, F_law_draws.kp, b_law_draws, ok_law_draws F_law_draws T⟩
  have h_take : Has P w K mg base "_law_take" 1 a_law_take spTake := ⟨_, _, m_law_take, F_law_take.kp, b_law_take, ok_law_take F_law_take T⟩
  have h_inner : Has P w K mg base "_law_inner" 1 a_law_inner (spInner K) := ⟨_, _, m_law_inner, F_law_inner.kp, b_law_inner, ok_law_inner F_law_inner T⟩
  have h_atom : Has P w K mg base "_law_atom" 2 a_law_atom (spAtom K) := ⟨_, _, m_law_atom, F_law_atom.kp, b_law_atom, ok_law_atom F_law_atom T h_take⟩
  have h_closed : Has P w K mg base "_law_closed" 6 a_law_closed (spClosed K 2) := ⟨_, _, m_law_closed, F_law_closed.kp, b_law_closed, ok_law_closed 2 F_law_closed (all_statement F_law_statement b_law_statement m_law_statement T h_take h_atom 3)⟩
  have h_lfree := all_free (P := P) (w := w) (base := base) F_law_free b_law_free m_law_free T h_inner 20
  have h_world : Has P w K mg base "_law_world" 2 a_law_world spWorld := ⟨_, _, m_law_world, F_law_world.kp, b_law_world, ok_law_world F_law_world T h_take⟩
  have h_behind : Has P w K mg base "_law_behind" 1 a_law_behind (spBehind K) := ⟨_, _, m_law_behind, F_law_behind.kp, b_law_behind, ok_law_behind F_law_behind T⟩
  have h_value := all_value (P := P) (w := w) (base := base) F_law_value b_law_value m_law_value T h_behind 20
  have h_truth : Has P w K mg base "_law_truth" 23 a_law_truth (spTruth K) := ⟨_, _, m_law_truth, F_law_truth.kp, b_law_truth, ok_law_truth F_law_truth T h_value⟩
  have h_int : Has P w K mg base "_law_is_integer" 1 a_law_is_integer spIsInt := ⟨_, _, m_law_is_integer, F_law_is_integer.kp, b_law_is_integer, ok_law_is_integer F_law_is_integer T⟩
  have h_is := all_is (P := P) (w := w) (base := base) F_law_is_statement b_law_is_statement m_law_is_statement T h_int 20
  have h_reached : Has P w K mg base "_law_reached" 2 a_law_reached (spReach K) := ⟨_, _, m_law_reached, F_law_reached.kp, b_law_reached, ok_law_reached F_law_reached T h_behind⟩
  have h_back : Has P w K mg base "_law_coming_back" 3 a_law_coming_back (spBack K) := ⟨_, _, m_law_coming_back, F_law_coming_back.kp, b_law_coming_back, ok_law_coming_back F_law_coming_back T h_behind h_reached⟩
  have h_lead : Has P w K mg base "_law_leading" 3 a_law_leading (spLead K) := ⟨_, _, m_law_leading, F_law_leading.kp, b_law_leading, ok_law_leading F_law_leading T h_reached⟩
  exact ok_law F_law T h_draws h_closed h_take h_lfree h_world h_is h_truth h_back h_lead h_as h_ls h_ae h_le
theorem walk {l : PySem.W.OpenLaw} {q : Program} {loose : List Str} {XP : (Str → Option Value) → Heap → Prop} {YP : World → Heap → Prop} {d : DefRec} {K : Params → PySem.W.Frag} (hn : l.most = some 63) (hdf : d.params.defaults = [])
    (hY : ∀ (w : World) (h : Heap), YP w h → (K w.params).In h)
    (F : ∀ (w : World) (mg : Str → Option Value) (fa : Addr) (h : Heap), (K w.params).In h → h.Ns mainGlobals mg → mg d.name = some (.ref fa) →
      ∃ fd : FuncData, (∀ (s : Shared) (u : Value), BindsTo s fd ⟨[u], []⟩ [("script", u)]) ∧ ∀ base : Heap, (K w.params).In base → base.Ns mainGlobals mg → FnOk l.prog w (K w.params) mg base CX0 24 fa fd ["script"] (spLaw (K w.params))) :
    PySem.W.WalkO q loose XP YP l.row.toRowW d [] (fun f vs => PySem.call f vs) :=
  L2.walk_of (n := 63) (k := 24) (x := "script") (CX := fun _ => CX0) (sp := fun w => spLaw (K w.params)) hn (by decide) hdf ⟨rfl, by decide, by decide⟩ hY F (fun _ _ a ns hl _ hS => ⟨a, ns, rfl, hS, hl, fun _ => rfl⟩) fun _ _ _ _ _ z => z
end Fw

set_option maxRecDepth 100000
open PySem PySem.W PyProof.Rows
set_option maxHeartbeats 0 in
theorem PySem.Challenge.cw_fixworlds_k40_again_holds : PySem.Challenge.rw_fixworlds_k40_again.Holds := by
  w_on; o_law; k_head; (case hw => w_witness2)
  k_fill
  refine Fw.walk (l := PySem.Challenge.rw_fixworlds_k40_again) rfl rfl (fun w h Y => PySem.W.kIn_of Y) ?F
  case F =>
    intro w mg fa h KX G hmg
    refine' Fw.all_mk KX G hmg ?aC_Part ?a0 ?i0 ?l0 ?c0 ?k0 ?a1 ?l1 ?c1 ?k1 ?a2 ?l2 ?c2 ?k2 ?a3 ?l3 ?c3 ?k3 ?a4 ?l4 ?c4 ?k4 ?a5 ?l5 ?c5 ?k5 ?a6 ?l6 ?c6 ?k6 ?a7 ?l7 ?c7 ?k7 ?a8 ?l8 ?c8 ?k8 ?a9 ?l9 ?c9 ?k9 ?a10 ?l10 ?c10 ?k10 ?a11 ?l11 ?c11 ?k11 ?a12 ?l12 ?c12 ?k12 ?a13 ?l13 ?c13 ?k13 ?a14 ?l14 ?c14 ?k14 ?a15 ?l15 ?c15 ?k15 ?a16 ?l16 ?c16 ?k16 ?a17 ?l17 ?c17 ?k17 ?a18 ?l18 ?c18 ?k18 ?a19 ?l19 ?c19 ?k19 ?a20 ?l20 ?c20 ?k20 ?a21 ?l21 ?c21 ?k21 ?a22 ?l22 ?c22 ?k22 ?a23 ?l23 ?c23 ?k23 ?a24 ?l24 ?c24 ?k24 ?a25 ?l25 ?c25 ?k25 ?a26 ?l26 ?c26 ?k26 ?a27 ?l27 ?c27 ?k27 ?a28 ?l28 ?c28 ?k28 ?a29 ?l29 ?c29 ?k29 ?a30 ?l30 ?c30 ?k30 ?pg_Part ?hd_Part ?po_Part ?sa_Part ?mk_Part ?kc_Part ?n_Part_head ?n_Part_around ?n_Part_inner ?z_bool ?z_enumerate ?z_int ?z_isinstance ?z_len ?z_list ?z_range ?z_reversed ?z_sorted ?z_tuple ?z_zip ?aJ_BINDERS ?lJ_BINDERS ?aJ_JOINS ?lJ_JOINS ?aD_OPPOSITES ?lD_OPPOSITES ?kD_OPPOSITES ?iD_OPPOSITES_true ?iD_OPPOSITES_false ?iD_OPPOSITES_has ?iD_OPPOSITES_lacks ?iD_OPPOSITES_and ?iD_OPPOSITES_or ?iD_OPPOSITES_some ?iD_OPPOSITES_all ?iD_OPPOSITES_least ?iD_OPPOSITES_most ?iD_OPPOSITES_var ?aJ_OUTER ?lJ_OUTER ?aJ_INNER ?lJ_INNER ?e_gC ?e_gF ?e_xC ?e_kC ?e_bC ?e_tC ?e_iC ?e_sC ?e_xg ?e_xk ?e_xd ?e_xa ?e_xn ?e_xt ?e_xm ?e_kF ?e_kV
    (case aC_Part => k_is)
    (case a0 => k_is)
    (case i0 => k_is)
    (case l0 => k_is)
    (case c0 => k_is)
    (case k0 => k_is)
    (case a1 => k_is)
    (case l1 => k_is)
    (case c1 => k_is)
    (case k1 => k_is)
    (case a2 => k_is)
    (case l2 => k_is)
    (case c2 => k_is)
    (case k2 => k_is)
    (case a3 => k_is)
    (case l3 => k_is)
    (case c3 => k_is)
    (case k3 => k_is)
    (case a4 => k_is)
    (case l4 => k_is)
    (case c4 => k_is)
    (case k4 => k_is)
    (case a5 => k_is)
    (case l5 => k_is)
    (case c5 => k_is)
    (case k5 => k_is)
    (case a6 => k_is)
    (case l6 => k_is)
    (case c6 => k_is)
    (case k6 => k_is)
    (case a7 => k_is)
    (case l7 => k_is)
    (case c7 => k_is)
    (case k7 => k_is)
    (case a8 => k_is)
    (case l8 => k_is)
    (case c8 => k_is)
    (case k8 => k_is)
    (case a9 => k_is)
    (case l9 => k_is)
    (case c9 => k_is)
    (case k9 => k_is)
    (case a10 => k_is)
    (case l10 => k_is)
    (case c10 => k_is)
    (case k10 => k_is)
    (case a11 => k_is)
    (case l11 => k_is)
    (case c11 => k_is)
    (case k11 => k_is)
    (case a12 => k_is)
    (case l12 => k_is)
    (case c12 => k_is)
    (case k12 => k_is)
    (case a13 => k_is)
    (case l13 => k_is)
    (case c13 => k_is)
    (case k13 => k_is)
    (case a14 => k_is)
    (case l14 => k_is)
    (case c14 => k_is)
    (case k14 => k_is)
    (case a15 => k_is)
    (case l15 => k_is)
    (case c15 => k_is)
    (case k15 => k_is)
    (case a16 => k_is)
    (case l16 => k_is)
    (case c16 => k_is)
    (case k16 => k_is)
    (case a17 => k_is)
    (case l17 => k_is)
    (case c17 => k_is)
    (case k17 => k_is)
    (case a18 => k_is)
    (case l18 => k_is)
    (case c18 => k_is)
    (case k18 => k_is)
    (case a19 => k_is)
    (case l19 => k_is)
    (case c19 => k_is)
    (case k19 => k_is)
    (case a20 => k_is)
    (case l20 => k_is)
    (case c20 => k_is)
    (case k20 => k_is)
    (case a21 => k_is)
    (case l21 => k_is)
    (case c21 => k_is)
    (case k21 => k_is)
    (case a22 => k_is)
    (case l22 => k_is)
    (case c22 => k_is)
    (case k22 => k_is)
    (case a23 => k_is)
    (case l23 => k_is)
    (case c23 => k_is)
    (case k23 => k_is)
    (case a24 => k_is)
    (case l24 => k_is)
    (case c24 => k_is)
    (case k24 => k_is)
    (case a25 => k_is)
    (case l25 => k_is)
    (case c25 => k_is)
    (case k25 => k_is)
    (case a26 => k_is)
    (case l26 => k_is)
    (case c26 => k_is)
    (case k26 => k_is)
    (case a27 => k_is)
    (case l27 => k_is)
    (case c27 => k_is)
    (case k27 => k_is)
    (case a28 => k_is)
    (case l28 => k_is)
    (case c28 => k_is)
    (case k28 => k_is)
    (case a29 => k_is)
    (case l29 => k_is)
    (case c29 => k_is)
    (case k29 => k_is)
    (case a30 => k_is)
    (case l30 => k_is)
    (case c30 => k_is)
    (case k30 => k_is)
    (case pg_Part => k_is)
    (case hd_Part => k_is)
    (case po_Part => k_is)
    (case sa_Part => k_is)
    (case mk_Part => k_is)
    (case kc_Part => k_is)
    (case n_Part_head => k_is)
    (case n_Part_around => k_is)
    (case n_Part_inner => k_is)
    (case z_bool => k_is)
    (case z_enumerate => k_is)
    (case z_int => k_is)
    (case z_isinstance => k_is)
    (case z_len => k_is)
    (case z_list => k_is)
    (case z_range => k_is)
    (case z_reversed => k_is)
    (case z_sorted => k_is)
    (case z_tuple => k_is)
    (case z_zip => k_is)
    (case aJ_BINDERS => k_is)
    (case lJ_BINDERS => k_is)
    (case aJ_JOINS => k_is)
    (case lJ_JOINS => k_is)
    (case aD_OPPOSITES => k_is)
    (case lD_OPPOSITES => k_is)
    (case kD_OPPOSITES => k_keys)
    (case iD_OPPOSITES_true => k_is)
    (case iD_OPPOSITES_false => k_is)
    (case iD_OPPOSITES_has => k_is)
    (case iD_OPPOSITES_lacks => k_is)
    (case iD_OPPOSITES_and => k_is)
    (case iD_OPPOSITES_or => k_is)
    (case iD_OPPOSITES_some => k_is)
    (case iD_OPPOSITES_all => k_is)
    (case iD_OPPOSITES_least => k_is)
    (case iD_OPPOSITES_most => k_is)
    (case iD_OPPOSITES_var => k_is)
    (case aJ_OUTER => k_is)
    (case lJ_OUTER => k_is)
    (case aJ_INNER => k_is)
    (case lJ_INNER => k_is)
    (case e_gC => k_is)
    (case e_gF => k_is)
    (case e_xC => k_exc)
    (case e_kC => k_is)
    (case e_bC => k_is)
    (case e_tC => k_is)
    (case e_iC => k_is)
    (case e_sC => first | rfl | k_is)
    (case e_xg => k_is)
    (case e_xk => k_is)
    (case e_xd => k_is)
    (case e_xa => k_is)
    (case e_xn => k_is)
    (case e_xt => k_is)
    (case e_xm => k_is)
    (case e_kF => first | rfl | k_is)
    (case e_kV => first | rfl | k_is)

