import PyProof.Rows.All
import Wide.All
import OpenK.AllK
import Wide.FinOn
import PyProof.EqAt
import PyProof.EqKinds
import PyProof.TupleCall
import HandS.ForMost
import HandS.ForExc
import HandS.Strs
import HandS.SetFor
import HandS.SetBool
import HandS.Walk
import HandS.TupAny
import HandS.Rev
import HandS.RevRange
import HandS.IsInst
import HandS.SortInts
import HandS.ExcIs
import HandS.Flow
import HandS.Text
import HandS.StrMore
import HandS.FStr
import HandS.More
import PySem.Challenge.RW_fixworlds_k05_texts
set_option Elab.async false
set_option linter.all false
set_option maxRecDepth 100000
set_option maxHeartbeats 4000000
/-! two rules for sets of ints: made of a list, and by a comprehension -/
namespace Fw
open PySem PySem.Spec PyProof.Rows L2
abbrev freshSet (w : World) : Obj :=
  { cls := .type "set", dict := none, data := .set #[] 0 (.fresh 0 0 (!w.params.followText "set-order")) }
section
variable {P : Program} {w : World} {A : Around} {E : Value → Shared → Prop} {s : Shared}
/-- set(xs), xs a list of ints -/
theorem setOfList {l : Addr} {its : Array Value} (ns : List Int) {Q : Value → Shared → Prop}
    (quiet : A.handled = none) (lst : s.heap.IsList l its) (iv : IntsAre its.toList ns) (few : ns.length + 1 < scanBound)
    (next : ∀ (h' : Heap) (tk c : Nat), SetR w h' s.heap.objs.size (fun j => decide (j ∈ ns)) c → c ≤ ns.length →
      (∀ b o, s.heap.get? b = some o → h'.get? b = some o) → Q (.ref s.heap.objs.size) { s with heap := h', toks := tk }) :
    wpAny (model P w) A (call (.type "set") [.ref l]) Q E s := by
  have many : its.size = ns.length := by
    rw [← Array.length_toList]
    exact IntsAre.length iv
  have f1 := F.called_set.mro
  obtain ⟨c, tl, hmro⟩ := f1
  have f2 := F.called_set.made
  have f3 := F.called_set.sub
  refine wpAny_call (codeAny_of_tree ?_)
  show wpAny _ _ (callAny (.type "set") _) _ _ _
  refine wpAny_pure ⟨Code.quiet_builtin _ (by decide +kernel), codeAny_builtin F.entry_type_call ?_⟩
  rw [Around.under_plain (weight_type_call_type "set" [.ref l] []) rfl]
  have f4 := F.called_set.notType
  have f5 := F.called_set.canCreate
  have f6 := F.typeCall_set_1 (.ref l)
  repeat (any_goals (first | assumption | wp_step))
  generalize hN : s.heap.objs.size = N
  refine codeAny_mono (code_set_led1 (.ref l) (E := E)
    (Q₁ := fun v t => v = .ref N ∧ t = { s with heap := s.heap.push (freshSet w) }) ⟨by rw [hN], rfl⟩) fun r s₁ hr => ?_
  rcases r with e | fl
  · exact hr
  · cases fl
    case ret v =>
      obtain ⟨rfl, rfl⟩ := hr
      have got : (s.heap.push (freshSet w)).get? N = some (freshSet w) := by
        rw [← hN]
        exact Heap.get?_push_size _ rfl
      have ty : Shared.TypeIs { s with heap := s.heap.push (freshSet w) } (.ref N) "set" := ⟨_, got, rfl⟩
      have g1 := F.called_set.init.lookup
      have g2 := F.called_set.init.bind (.ref N)
      repeat (any_goals (first | assumption | wp_step))
      refine codeAny_mono (codeAny_call_builtin (R := wants (fun v t => v = .none ∧ ∃ h' tk c, t = { s with heap := h', toks := tk } ∧
          SetR w h' N (fun j => decide (j ∈ ns)) c ∧ c ≤ ns.length ∧ (∀ b o, s.heap.get? b = some o → h'.get? b = some o)) E)
          F.called_set.init.plain F.entry_set_init (check_set_init_1 ty ?_)) fun r₂ s₂ hr₂ => ?_
      · obtain ⟨ol, hol, hcl, nl, hdl⟩ := lst
        obtain ⟨ocls, odict, odata, oslots⟩ := ol
        simp only at hcl hdl
        subst hcl
        subst hdl
        have hol' : (s.heap.push (freshSet w)).get? l = some { cls := .type "list", dict := odict, data := .seq its nl, slots := oslots } :=
          Heap.get?_push_of_some _ hol
        have k1 := F.sub_list_set
        have k2 := F.sub_list_frozenset
        have k3 : (Value.type "list" == Value.type "dict") = false := by decide
        have lst1 : (s.heap.push (freshSet w)).IsList l its := ⟨_, hol', rfl, nl, rfl⟩
        unfold Builtin.«set.__init__» noKeywords Builtin.Frozenset.updateFrom
        generalize hPI : pyIter = PI
        wp_walk
        subst hPI
        refine wpAny_pyIter_list lst1 (wpAny_bind (wpAny_runValue ?_))
        have lN : l < N := by
          rw [← hN]
          exact Heap.lt_size hol
        have quiet3 : A.in1.in1.in1.handled = none := by simp [quiet]
        have size1 : (s.heap.push (freshSet w)).objs.size = N + 1 := by rw [Heap.size_push, hN]
        have l1 : l ≠ (s.heap.push (freshSet w)).objs.size := by
          rw [size1]
          exact Nat.ne_of_lt (Nat.lt_succ_of_lt lN)
        have n1 : N ∉ [(s.heap.push (freshSet w)).objs.size, l] := by
          rw [size1]
          simp only [List.mem_cons, List.not_mem_nil, or_false, not_or]
          exact ⟨Nat.ne_of_lt (Nat.lt_succ_self _), Nat.ne_of_gt lN⟩
        refine set_update_ints ((Walks.list quiet3 _ l l1 its).toS) N n1 ns many few (fun i v hv => ?_) (its.size - 0) 0 _ (by omega) (Nat.zero_le _)
          ⟨⟨_, Heap.get?_push_size _ rfl, rfl, rfl⟩, lst1.push _⟩ ⟨0, Nat.le_refl 0, setR_new_at (Heap.get?_push_of_some _ got)⟩ fun s' c' hm hc' hS' => ?_
        · have hi : i < ns.length := by
            rw [← many]
            exact (Array.getElem?_eq_some_iff.mp hv).1
          obtain ⟨t, e⟩ := PyProof.Rows.IntsAre.int_at iv i v (by rw [Array.getElem?_toList]; exact hv)
          refine ⟨ns[i], t, List.getElem?_eq_getElem hi, ?_⟩
          rw [e, List.getD_eq_getElem?_getD, List.getElem?_eq_getElem hi]
          rfl
        · obtain ⟨h', g2, d', tk', os'⟩ := s'
          obtain rfl : g2 = s.gens := hm.gens
          obtain rfl : d' = s.drawn := hm.drawn
          obtain rfl : os' = s.os := hm.os
          show wpAny _ _ _ _ _ _
          refine wpAny_pure ?_
          show wpAny _ _ (ret Value.none) _ _ _
          rw [many] at hc'
          refine wpAny_pure ⟨rfl, h', tk', c', rfl, hS', hc', fun b o e => ?_⟩
          have bN : b < N := by
            rw [← hN]
            exact Heap.lt_size e
          refine hm.heap b o ?_ (Heap.get?_push_of_some _ (Heap.get?_push_of_some _ e))
          rw [size1]
          simp only [List.mem_cons, List.not_mem_nil, or_false, not_or]
          exact ⟨Nat.ne_of_lt bN, Nat.ne_of_lt (Nat.lt_succ_of_lt bN)⟩
      · rcases r₂ with e | fl₂
        · exact hr₂
        · cases fl₂
          case ret r =>
            obtain ⟨rfl, h', tk, c', rfl, hS', hc', hk'⟩ := hr₂
            repeat (any_goals (first | assumption | wp_step))
            subst hN
            exact next _ _ _ hS' hc' hk'
          all_goals exact hr₂.elim
    all_goals exact hr.elim
end
end Fw

set_option maxRecDepth 100000
set_option maxHeartbeats 4000000
namespace Fw
open PySem PySem.Spec PyProof.Rows L2
theorem intsOfVals : ∀ {ns : List Int} {us : List Value}, Vals (ns.map V.int) us → IntsAre us ns
  | [], _, .nil => .nil
  | k :: _, _, .cons r t => by
    obtain ⟨tk, rfl⟩ := r
    exact .cons k tk (intsOfVals t)
theorem nodup_le : ∀ {l Vs : List Int}, l.Nodup → (∀ x ∈ l, x ∈ Vs) → l.length ≤ Vs.length
  | [], Vs, _, _ => Nat.zero_le _
  | a :: l, Vs, nd, h => by
    have nd' := List.nodup_cons.mp nd
    have ha := h a List.mem_cons_self
    have ih := nodup_le (Vs := Vs.erase a) nd'.2 fun x hx =>
      (List.mem_erase_of_ne (fun e => nd'.1 (by rw [← e]; exact hx))).mpr (h x (List.mem_cons_of_mem _ hx))
    have := List.length_erase_of_mem ha
    have : 0 < Vs.length := List.length_pos_of_mem ha
    rw [List.length_cons]
    omega
section
variable {X : Cx}
/-- set(xs), xs a list of ints -/
def rSetL (K : PySem.W.Frag) (w : World) : List V → Hp → VK → Prop := fun vs H Q => ∃ (l : Addr) (ns : List Int),
  vs = [V.ref l] ∧ SqL K H l (ns.map V.int) ∧ ns.length ≤ 4000 ∧
  ∀ p c, H p = none → c ≤ ns.length → (∀ Vs : List Int, (∀ x ∈ ns, x ∈ Vs) → c ≤ Vs.length) → Q (.ref p) (upd H p (SetO w p (fun j => decide (j ∈ ns)) c))
theorem call_setL (quiet : X.calm = true) : CallR X (.type "set") (rSetL X.K X.w) := by
  intro pins s σ H vs us Q I r h
  obtain ⟨l, ns, rfl, hl, few, q⟩ := h
  obtain ⟨its, rv, pl, _⟩ := I.list hl
  rw [Vals.ref1 r]
  have iv := intsOfVals rv
  have isl : s.heap.IsList l its.toArray := by
    obtain ⟨o, n, e1, e2, e3, e4⟩ := pl
    exact ⟨o, e1, e2, n, e4⟩
  refine setOfList ns (I.ok.hd quiet) isl (by simpa using iv) (Nat.lt_of_le_of_lt (Nat.succ_le_succ few) (by decide)) fun h' tk c R hc kp => ?_
  have fr : H s.heap.objs.size = none := I.hok.fresh (Nat.le_refl _)
  refine ⟨.ref _, _, I.laid (t' := tk) kp (Nat.le_refl _) (setO_new R), rfl, q _ c fr hc fun Vs hV => ?_⟩
  obtain ⟨o, es, ep, t, _, _, _, _, nd, mem, _, _, size, _⟩ := R
  rw [← size, ← Array.length_toList, ← List.length_map (f := keyOf)]
  exact nodup_le nd fun x hx => hV x (of_decide_eq_true ((mem x).mpr hx))
/-- what a comprehension of ints into a set asks: W tells the turns, D is the new set -/
def tSci (w : World) (wi : TI) (g : TG) (tt : TT) (te : TE) (vs : List Nat) : TE := fun σ H Q => wi σ H fun J H1 => ∀ D, H1 D = none →
  ∃ W : Nat → Nat → Hp → Prop, (∃ m, W 0 m (upd H1 D (SetO w D (fun _ => false) 0))) ∧ ∀ i m H, W i m H →
    (J.stop i H ∧ Q (.ref D) H) ∨ (J.go i H ∧ ∃ Nx : Hp → Prop, (∀ H', Nx H' → ∃ m', m' < m ∧ W (i + 1) m' H') ∧
      ∀ x H', J.yld i H x H' → g x (wipe σ vs) H' fun σ2 H2 => wipe σ2 vs = wipe σ vs ∧ tt σ2 H2 fun b H3 =>
        if b = true then te σ2 H3 fun y H4 => ∃ (k : Int) (S : Int → Bool) (n : Nat), y = .int k ∧ H4 D = some (SetO w D S n) ∧ n + 1 < scanBound ∧
          Nx (upd H4 D (SetO w D (fun j => S j || decide (j = k)) (if S k = true then n else n + 1))) else Nx H3)
theorem addInt {pins : List (Addr × Obj)} {σ : L2.St} {H : Hp} {s : Shared} {E : Value → Shared → Prop} {D : Addr} {S : Int → Bool} {n : Nat} {k : Int} {tk : Tok} {Q : Value → Shared → Prop}
    (I : Inv X pins σ H s) (at_ : H D = some (SetO X.w D S n)) (room : n + 1 < scanBound)
    (next : ∀ s', Inv X pins σ (upd H D (SetO X.w D (fun j => S j || decide (j = k)) (if S k = true then n else n + 1))) s' → Q .none s') :
    wpAny (model X.prog X.w) X.A (call (.builtin "set.add") [.ref D, .int k tk]) Q E s := by
  refine setR_add (setO_get I at_) room fun h' sb R => next _ ?_
  have there : ∃ u, h'.get? D = some u := by
    obtain ⟨o, _, _, _, e, _⟩ := id R
    exact ⟨o, e⟩
  exact I.write (e := D) (t' := s.toks + 1) (by rw [at_]; trivial) (.inl rfl) (fun b u hb hu => (sb.2 b hb).trans hu) there (setO_new R)
abbrev inner (X : Cx) (s : Shared) (scope : Scope) : Env :=
  compEnvC scope (cellsFrom (s.heap.objs.size + 1) scope.names (cloFrom X.env.cells scope.names [])) s.heap.objs.size X.env
theorem setComp {pins : List (Addr × Obj)} {s : Shared} {σ : L2.St} {H : Hp} {Q : VK} {elt tg iter : Expr} {ifs : List Expr} {scope : Scope} {own : List (PySem.Str × Nat)} {pos pos' : Pos} {wi : TI} {g : TG} {tt : TT} {te : TE}
    {use : Option (Value → Sem Unit)} {Qf : Value → Shared → Prop}
    (quiet : X.calm = true) (nd : X.N.Nodup) (I : Inv X pins σ H s) (ii : PI X tg iter wi) (blk : BlkOk X.N X.env.scope scope own)
    (gg : ∀ s H C cl fp, PG (X.blk s H scope (compEnvC scope cl C X.env) fp) tg g)
    (tts : ∀ s H C cl fp, PTs (X.blk s H scope (compEnvC scope cl C X.env) fp) ifs tt)
    (ee : ∀ s H C cl fp, PE (X.blk s H scope (compEnvC scope cl C X.env) fp) elt te)
    (fold : ∀ x, foldedSetIterable iter X.env x = pure x) (h : tSci X.w wi g tt te (own.map (·.2)) σ H Q)
    (fin : ∀ D C s' m H', Inv X pins σ H' s' → Q (.ref D) H' → s'.heap.Ns C m → FpOk X pins H' C →
      compPost (model X.prog X.w) X.A X.xe use Qf (.ref D) C (.ok .next) s') :
    wpAny (model X.prog X.w) X.A (comprehension (.SetComp elt [⟨tg, iter, ifs, 0⟩] scope pos) scope X.env pos' (newSet (.type "set")) false (eval iter X.env) use) Qf X.xe s := by
  have clo : ∀ y ∈ scope.names, y.2 = .free → ∃ c, X.env.cells.lookup y.1 = some c := fun y hy e =>
    (blk.free y hy e).elim (fun k => I.ok.has _ (.inl k)) fun k => I.ok.has _ (.inr k)
  refine wpAny_comprehension_free (use := use) rfl fold (closure_ok clo) blk.kind (fun y hy e => by rw [blk.uniq y hy, e])
    (thn (ii.run pins s σ H _ I h) fun xv s1 hx => thn hx fun itv s2 h2 => ?_)
  obtain ⟨it, fp, tn, J, H2, rfl, I2, T, t0, fp2, q⟩ := h2
  refine PpSet.newSet_ok (newEnv_comp ?_)
  generalize eD : s2.heap.objs.size = D
  obtain ⟨W, ⟨m0, w0⟩, turn⟩ := q D (I2.hok.fresh (Nat.le_of_eq eD))
  generalize e3 : ({ s2 with heap := s2.heap.push (freshSet X.w) } : Shared) = s3
  have heap3 : s3.heap = s2.heap.push (freshSet X.w) := by rw [← e3]
  have up3 : ∀ b o, s2.heap.get? b = some o → s3.heap.get? b = some o := fun b o e => by
    rw [heap3]
    exact Heap.get?_push_of_some _ e
  generalize eH : upd H2 D (SetO X.w D (fun _ => false) 0) = H3 at w0
  have I3 : Inv X pins σ H3 s3 := by
    rw [← eH, ← e3, ← eD]
    exact I2.laid (t' := s2.toks) (fun b o e => Heap.get?_push_of_some _ e) (Nat.le_refl _) (setO_new (setR_fresh X.w))
  have fp3 : ∀ b ∈ fp, FpOk X pins H3 b ∧ b < s3.heap.objs.size := fun b hb => by
    obtain ⟨o, e, _⟩ := T.obj _ _ t0 b hb
    have lt := Heap.lt_size e
    refine ⟨⟨?_, (fp2 b hb).2⟩, ?_⟩
    · rw [← eH, upd_ne (show b ≠ D by rw [← eD]; exact Nat.ne_of_lt lt)]
      exact (fp2 b hb).1
    · rw [heap3, Heap.size_push]
      exact Nat.lt_succ_of_lt lt
  have t3 : tn 0 s3.heap := T.keep _ _ _ t0 fun b _ o e => up3 b o e
  have I4 := block_start I3 blk nd fp3
  have g4 := gg s3 H3 s3.heap.objs.size (cellsFrom (s3.heap.objs.size + 1) scope.names (cloFrom X.env.cells scope.names [])) fp
  have t4 := tts s3 H3 s3.heap.objs.size (cellsFrom (s3.heap.objs.size + 1) scope.names (cloFrom X.env.cells scope.names [])) fp
  have e4 := ee s3 H3 s3.heap.objs.size (cellsFrom (s3.heap.objs.size + 1) scope.names (cloFrom X.env.cells scope.names [])) fp
  show codeAny _ _ (.compStart (.SetComp elt [⟨tg, iter, ifs, 0⟩] scope pos) 0 (.ref it) (.ref D)
      (compEnvC scope (cellsFrom (s3.heap.objs.size + 1) scope.names (cloFrom X.env.cells scope.names [])) s3.heap.objs.size X.env))
    (compPost (model X.prog X.w) X.A X.xe use Qf (.ref D) s3.heap.objs.size) { s3 with heap := pushCells (s3.heap.push { cls := .type "dict", data := .dict #[] }) scope.names }
  generalize eC : compEnvC scope (cellsFrom (s3.heap.objs.size + 1) scope.names (cloFrom X.env.cells scope.names [])) s3.heap.objs.size X.env = ce at I4 g4 t4 e4 ⊢
  have locs : ce.locals = s3.heap.objs.size := by
    subst eC
    rfl
  generalize eS : ({ s3 with heap := pushCells (s3.heap.push { cls := .type "dict", data := .dict #[] }) scope.names } : Shared) = s4 at I4 ⊢
  have ts4 : tn 0 s4.heap := T.keep _ _ _ t3 fun b _ o e => by
    rw [← eS]
    exact pushCells_keeps _ _ _ _ (Heap.get?_push_of_some _ e)
  have held : ∀ {σ' : L2.St} {H' : Hp} {s' : Shared}, Inv (X.blk s3 H3 scope ce fp) [] σ' H' s' → (∀ b ∈ fp, H' b = none) →
      ∀ b ∈ fp, FpOk (X.blk s3 H3 scope ce fp) [] H' b := fun {σ' H' s'} I' hn b hb =>
    have x := I'.ok.exf b hb
    ⟨hn b hb, x.1, I'.ok.exfs b hb, .inl hb, fun y c e => x.2 y c e, fun p hp => by cases hp⟩
  have body : codeAny (model X.prog X.w) X.A (.compLoop (.SetComp elt [⟨tg, iter, ifs, 0⟩] scope pos) 0 (.ref it) (.ref D) ce)
      (compPost (model X.prog X.w) X.A X.xe use Qf (.ref D) s3.heap.objs.size) s4 := by
    refine PpSet.compLoopS_any (fun n t => ∃ i G, Inv (X.blk s3 H3 scope ce fp) [] (wipe σ (own.map (·.2))) G t ∧ tn i t.heap ∧ (∀ b ∈ fp, G b = none) ∧ W i n G)
      ?_ m0 ⟨0, H3, I4, ts4, fun b hb => (fp3 b hb).1.1, w0⟩
    rintro n s5 ⟨i, H5, I5, t5, free5, w5⟩
    rcases turn i n H5 w5 with ⟨stop, qq⟩ | ⟨go, Nx, dec, step⟩
    · refine thnF (T.done (X.blk s3 H3 scope ce fp) rfl rfl rfl quiet i [] s5 _ H5 (fun _ _ => False) I5 (held I5 free5) t5 stop) fun r s6 ⟨hr, I6⟩ => ?_
      subst hr
      have free6 : H5 ce.locals = none := I6.free
      obtain ⟨m, ns6, _⟩ := I6.loc
      have ns6' : s6.heap.Ns ce.locals m := ns6
      rw [locs] at free6 ns6'
      have I7 : Inv X pins σ H5 s6 := I3.call' (ch := fp) I6.os I6.base I6.hok I6.bare fun b hb =>
        have z := (fp3 b hb).1
        ⟨z.2.2.2.1, z.2.1, z.2.2.2.2.1, z.2.2.2.2.2⟩
      exact fin D s3.heap.objs.size s6 m H5 I7 qq ns6' (I3.fpOk (Nat.le_refl _) free6)
    · refine thnF (T.item (X.blk s3 H3 scope ce fp) rfl rfl rfl quiet i [] s5 _ H5 (fun _ _ => False) I5 (held I5 free5) t5 go) fun r s6 ⟨u, hr, h6⟩ => ?_
      subst hr
      refine thnF h6 fun _ s7 ⟨x, H7, I7, rx, y7, t7, free7⟩ => ?_
      refine thnF (g4.run _ s7 _ H7 x u _ (I7.pinned (held I7 free7) (T.obj _ _ t7)) rx (step x H7 y7)) fun _ s8 ⟨σ8, H8, I8, wi8, q8⟩ => ?_
      refine thnF (t4.run _ s8 σ8 H8 _ I8 q8) fun b s9 ⟨H9, I9, q9⟩ => ?_
      have over : ∀ {t : Shared} {G : Hp}, Inv (X.blk s3 H3 scope ce fp) ([] ++ pinsAt fp s7.heap) σ8 G t → Nx G →
          ∃ m, m < n ∧ ∃ i G, Inv (X.blk s3 H3 scope ce fp) [] (wipe σ (own.map (·.2))) G t ∧ tn i t.heap ∧ (∀ b ∈ fp, G b = none) ∧ W i m G := fun {t G} It nx => by
        obtain ⟨m', lt, w'⟩ := dec G nx
        have same : ∀ b ∈ fp, ∀ o, s7.heap.get? b = some o → t.heap.get? b = some o ∧ G b = none := fun b hb o e =>
          have z := It.pin (b, o) (List.mem_append_right _ (List.mem_append_right _ (mem_pinsAt hb e)))
          ⟨z.1, z.2.1⟩
        refine ⟨m', lt, i + 1, G, (It.unpinned (pins := [])).weak (by rw [← wi8, wipe_length]) (fun j v e => ?_), T.keep _ _ _ t7 fun b hb o e => (same b hb o e).1, fun b hb => ?_, w'⟩
        · rw [← wi8] at e
          exact (wipe_some e).1
        · obtain ⟨o, e, _⟩ := T.obj _ _ t7 b hb
          exact (same b hb o e).2
      cases b
      · simp only [Bool.false_eq_true, if_false] at q9 ⊢
        exact over I9 q9
      · simp only [if_true] at q9 ⊢
        refine thnF (e4.run _ s9 σ8 H9 _ I9 q9) fun z s10 ⟨yv, H10, I10, rz, k, S0, n0, ey, hD, room, nx⟩ => ?_
        subst ey
        obtain ⟨tk, rfl⟩ : ∃ tk, z = Value.int k tk := rz
        exact addInt (X := X.blk s3 H3 scope ce fp) I10 hD room fun s11 I11 => over I11 nx
  exact PpSet.codeAny_compStart_set body (T.self X.A 0 _ _ _ ts4 body)
/-- {e for target in iter if test}, e an int -/
theorem pe_sci {elt tg iter : Expr} {ifs : List Expr} {scope : Scope} {own : List (PySem.Str × Nat)} {pos : Pos} {wi : TI} {g : TG} {tt : TT} {te : TE} (quiet : X.calm = true) (nd : X.N.Nodup) (ii : PI X tg iter wi) (blk : BlkOk X.N X.env.scope scope own)
    (gg : ∀ (s : Shared) (H : Hp) (C : Addr) (cl : List (PySem.Str × Addr)) (fp : List Addr), PG (X.blk s H scope (compEnvC scope cl C X.env) fp) tg g)
    (tts : ∀ (s : Shared) (H : Hp) (C : Addr) (cl : List (PySem.Str × Addr)) (fp : List Addr), PTs (X.blk s H scope (compEnvC scope cl C X.env) fp) ifs tt)
    (ee : ∀ (s : Shared) (H : Hp) (C : Addr) (cl : List (PySem.Str × Addr)) (fp : List Addr), PE (X.blk s H scope (compEnvC scope cl C X.env) fp) elt te)
    (fold : ∀ x, foldedSetIterable iter X.env x = pure x := by intro _; rfl) :
    PE X (.SetComp elt [⟨tg, iter, ifs, 0⟩] scope pos) (tSci X.w wi g tt te (own.map (·.2))) := by
  constructor
  intro pins s σ H Q I h
  rw [PpSet.eval_SetComp]
  refine setComp quiet nd I ii blk gg tts ee fold h fun D C s' m H' I' q hn f => ⟨m, hn, fun h'' sb => ⟨.ref D, H', ?_, rfl, q⟩⟩
  exact I'.turned (t' := s'.toks) (fun b o hb e => (sb.2 b hb).trans e) f.1 f.2.1 f.2.2.2.1 f.2.2.2.2.1 f.2.2.2.2.2
end
/-- over any walk: Pv by the turn and the heap -/
theorem sci_it {J : It} {n : Nat} {G : Hp → Prop} {Y : Nat → Hp → V → Hp → Prop} (w : Walk J n G Y) {wd : World} {g : TG} {tt : TT} {te : TE} {vs : List Nat} {σ : L2.St} {H1 : Hp} {D : Addr} {Qd : Hp → Prop} (Pv : Nat → Hp → Prop)
    (h0 : Pv 0 (upd H1 D (SetO wd D (fun _ => false) 0))) (hG : ∀ i H, i ≤ n → Pv i H → G H)
    (hs : ∀ i x H H', i < n → Pv i H → Y i H x H' → g x (wipe σ vs) H' fun σ2 H2 => wipe σ2 vs = wipe σ vs ∧ tt σ2 H2 fun b H3 =>
      if b = true then te σ2 H3 fun y H4 => ∃ (k : Int) (S : Int → Bool) (m : Nat), y = .int k ∧ H4 D = some (SetO wd D S m) ∧ m + 1 < scanBound ∧
        Pv (i + 1) (upd H4 D (SetO wd D (fun j => S j || decide (j = k)) (if S k = true then m else m + 1))) else Pv (i + 1) H3) (hd : ∀ H, Pv n H → Qd H) :
    ∃ W : Nat → Nat → Hp → Prop, (∃ m, W 0 m (upd H1 D (SetO wd D (fun _ => false) 0))) ∧ ∀ i m H, W i m H →
      (J.stop i H ∧ Qd H) ∨ (J.go i H ∧ ∃ Nx : Hp → Prop, (∀ H', Nx H' → ∃ m', m' < m ∧ W (i + 1) m' H') ∧ ∀ x H', J.yld i H x H' → g x (wipe σ vs) H' fun σ2 H2 => wipe σ2 vs = wipe σ vs ∧ tt σ2 H2 fun b H3 =>
        if b = true then te σ2 H3 fun y H4 => ∃ (k : Int) (S : Int → Bool) (m : Nat), y = .int k ∧ H4 D = some (SetO wd D S m) ∧ m + 1 < scanBound ∧
          Nx (upd H4 D (SetO wd D (fun j => S j || decide (j = k)) (if S k = true then m else m + 1))) else Nx H3) := by
  refine ⟨fun i m H => m + i = n ∧ Pv i H, ⟨n, rfl, h0⟩, fun i m H hW => ?_⟩
  obtain ⟨e, p⟩ := hW
  have q := hG i H (by omega) p
  cases m with
  | zero =>
    have e2 : i = n := by omega
    subst e2
    exact .inl ⟨w.stops H q, hd H p⟩
  | succ m =>
    have lt : i < n := by omega
    exact .inr ⟨w.goes i H lt q, Pv (i + 1), fun H' p' => ⟨m, Nat.lt_succ_self m, by omega, p'⟩, fun x H' y => hs i x H H' lt p (w.yields i H x H' lt q y)⟩
end Fw

/-! Statements as trees, and what the passes over their parts find. Plain Lean. -/
namespace Fw
inductive Leaf | has | lacks | var
  deriving DecidableEq
inductive One | some | all | least | most
  deriving DecidableEq
def One.bind : One → Bool
  | .least => true
  | .most => true
  | _ => false
inductive F
  | nul (b : Bool)
  | leaf (k : Leaf) (n : Int)
  | two (b : Bool) (f g : F)
  | one (k : One) (n : Int) (f : F)
  deriving DecidableEq
inductive Hd
  | nul (b : Bool)
  | leaf (k : Leaf) (n : Int)
  | two (b : Bool)
  | one (k : One) (n : Int)
  deriving DecidableEq
def F.hd : F → Hd
  | .nul b => .nul b
  | .leaf k n => .leaf k n
  | .two b _ _ => .two b
  | .one k n _ => .one k n
def F.size : F → Nat
  | .nul _ => 1
  | .leaf _ _ => 1
  | .two _ f g => f.size + g.size + 1
  | .one _ _ f => f.size + 1
def F.depth : F → Nat
  | .nul _ => 1
  | .leaf _ _ => 1
  | .two _ f g => max f.depth g.depth + 1
  | .one _ _ f => f.depth + 1
theorem F.size_pos (t : F) : 0 < t.size := by cases t <;> simp [F.size]
theorem F.size_depth : ∀ t : F, t.size + 1 ≤ 2 ^ t.depth
  | .nul _ => by simp [F.size, F.depth]
  | .leaf _ _ => by simp [F.size, F.depth]
  | .two _ f g => by
    have h1 := F.size_depth f
    have h2 := F.size_depth g
    have m1 : 2 ^ f.depth ≤ 2 ^ max f.depth g.depth := Nat.pow_le_pow_right (by decide) (Nat.le_max_left _ _)
    have m2 : 2 ^ g.depth ≤ 2 ^ max f.depth g.depth := Nat.pow_le_pow_right (by decide) (Nat.le_max_right _ _)
    simp only [F.size, F.depth, Nat.pow_succ]
    omega
  | .one _ _ f => by
    have h1 := F.size_depth f
    have h2 := F.size_pos f
    simp only [F.size, F.depth, Nat.pow_succ]
    omega
abbrev Stk := List (Int × Nat)
structure Rec where
  sub : F
  aro : Int
  stk : Stk
def pushS : F → Nat → Stk → Stk
  | .one k n _, i, st => if k.bind then (n, i) :: st else st
  | _, _, st => st
def info : F → Int → Nat → Stk → List Rec
  | .nul b, a, _, st => [⟨.nul b, a, st⟩]
  | .leaf k n, a, _, st => [⟨.leaf k n, a, st⟩]
  | .two b f g, a, i, st => ⟨.two b f g, a, st⟩ :: (info f i (i + 1) st ++ info g i (i + 1 + f.size) st)
  | .one k n f, a, i, st => ⟨.one k n f, a, st⟩ :: info f i (i + 1) (if k.bind then (n, i) :: st else st)
theorem info_len : ∀ (t : F) (a : Int) (i : Nat) (st : Stk), (info t a i st).length = t.size
  | .nul _, _, _, _ => rfl
  | .leaf _ _, _, _, _ => rfl
  | .two _ f g, a, i, st => by simp [info, F.size, info_len f, info_len g]
  | .one k n f, a, i, st => by simp [info, F.size, info_len f]
theorem info_head : ∀ (t : F) (a : Int) (i : Nat) (st : Stk), (info t a i st)[0]? = some ⟨t, a, st⟩
  | .nul _, _, _, _ => rfl
  | .leaf _ _, _, _, _ => rfl
  | .two _ _ _, _, _, _ => rfl
  | .one _ _ _, _, _, _ => rfl
/-! ### a part's record and the one around it -/
theorem info_up : ∀ (t : F) (a : Int) (i : Nat) (st : Stk) (j : Nat) (r : Rec), (info t a i st)[j]? = some r →
    (j = 0 ∧ r = ⟨t, a, st⟩) ∨ ∃ p r', p < j ∧ (info t a i st)[p]? = some r' ∧ r.aro = ((i + p : Nat) : Int) ∧ r.stk = pushS r'.sub (i + p) r'.stk
  | .nul b, a, i, st, j, r, h => by
    cases j with
    | zero => exact .inl ⟨rfl, (Option.some.inj h).symm⟩
    | succ j => simp [info] at h
  | .leaf k n, a, i, st, j, r, h => by
    cases j with
    | zero => exact .inl ⟨rfl, (Option.some.inj h).symm⟩
    | succ j => simp [info] at h
  | .two b f g, a, i, st, j, r, h => by
    cases j with
    | zero => exact .inl ⟨rfl, (Option.some.inj h).symm⟩
    | succ j =>
      simp only [info, List.getElem?_cons_succ] at h
      by_cases lt : j < f.size
      · rw [List.getElem?_append_left (by rw [info_len]; exact lt)] at h
        rcases info_up f i (i + 1) st j r h with ⟨rfl, rfl⟩ | ⟨p, r', hp, e, e1, e2⟩
        · exact .inr ⟨0, ⟨.two b f g, a, st⟩, Nat.succ_pos _, rfl, by simp, rfl⟩
        · refine .inr ⟨p + 1, r', by omega, ?_, by rw [e1]; congr 1; omega, by rw [e2]; congr 1; omega⟩
          simp only [info, List.getElem?_cons_succ]
          rw [List.getElem?_append_left (by rw [info_len]; omega)]
          exact e
      · rw [List.getElem?_append_right (by rw [info_len]; omega), info_len] at h
        rcases info_up g i (i + 1 + f.size) st (j - f.size) r h with ⟨e0, rfl⟩ | ⟨p, r', hp, e, e1, e2⟩
        · exact .inr ⟨0, ⟨.two b f g, a, st⟩, Nat.succ_pos _, rfl, by simp, rfl⟩
        · refine .inr ⟨p + f.size + 1, r', by omega, ?_, by rw [e1]; congr 1; omega, by rw [e2]; congr 1; omega⟩
          simp only [info, List.getElem?_cons_succ]
          rw [List.getElem?_append_right (by rw [info_len]; omega), info_len, show p + f.size - f.size = p by omega]
          exact e
  | .one k n f, a, i, st, j, r, h => by
    cases j with
    | zero => exact .inl ⟨rfl, (Option.some.inj h).symm⟩
    | succ j =>
      simp only [info, List.getElem?_cons_succ] at h
      rcases info_up f i (i + 1) _ j r h with ⟨rfl, rfl⟩ | ⟨p, r', hp, e, e1, e2⟩
      · exact .inr ⟨0, ⟨.one k n f, a, st⟩, Nat.succ_pos _, rfl, by simp, rfl⟩
      · refine .inr ⟨p + 1, r', by omega, ?_, by rw [e1]; congr 1; omega, by rw [e2]; congr 1; omega⟩
        simp only [info, List.getElem?_cons_succ]
        exact e
/-- the whole, seen from its root -/
abbrev infos (t : F) : List Rec := info t (-1) 0 []
theorem infos_stk {t : F} : ∀ (m j : Nat) (r : Rec) (x : Int) (q : Nat) (rest : Stk), j ≤ m → (infos t)[j]? = some r → r.stk = (x, q) :: rest →
    q < j ∧ ∃ k f a, (infos t)[q]? = some ⟨.one k x f, a, rest⟩ ∧ k.bind = true := by
  intro m
  induction m with
  | zero =>
    intro j r x q rest hj h e
    have : j = 0 := by omega
    subst this
    rw [info_head] at h
    cases h
    cases e
  | succ m ih =>
    intro j r x q rest hj h e
    rcases info_up t (-1) 0 [] j r h with ⟨rfl, rfl⟩ | ⟨p, r', hp, e1, _, e2⟩
    · cases e
    · rw [Nat.zero_add] at e2
      obtain ⟨s, a', st'⟩ := r'
      have old : r.stk = st' → q < j ∧ ∃ k f a, (infos t)[q]? = some ⟨.one k x f, a, rest⟩ ∧ k.bind = true := fun e3 => by
        have z := ih p ⟨s, a', st'⟩ x q rest (by omega) e1 (by rw [← e3]; exact e)
        exact ⟨by omega, z.2⟩
      cases s with
      | nul b => exact old e2
      | leaf k n => exact old e2
      | two b f g => exact old e2
      | one k n f =>
        simp only [pushS] at e2
        by_cases hb : k.bind = true
        · rw [if_pos hb, e] at e2
          injection e2 with e3 e4
          injection e3 with e5 e6
          subst e5
          subst e6
          subst e4
          exact ⟨hp, k, f, a', e1, hb⟩
        · rw [if_neg hb] at e2
          exact old e2
/-! ### the parts directly in a part -/
def kidsFrom : List Int → Nat → Nat → List Nat
  | [], _, _ => []
  | a :: r, j, i => if a = (i : Int) then j :: kidsFrom r (j + 1) i else kidsFrom r (j + 1) i
theorem kids_app : ∀ (A B : List Int) (j i : Nat), kidsFrom (A ++ B) j i = kidsFrom A j i ++ kidsFrom B (j + A.length) i
  | [], _, _, _ => by simp [kidsFrom]
  | a :: A, B, j, i => by
    simp only [List.cons_append, kidsFrom, List.length_cons]
    rw [kids_app A B (j + 1) i, show j + 1 + A.length = j + (A.length + 1) by omega]
    split <;> simp
theorem kids_none : ∀ (A : List Int) (j i : Nat), (∀ a ∈ A, a ≠ (i : Int)) → kidsFrom A j i = []
  | [], _, _, _ => rfl
  | a :: A, j, i, h => by
    simp only [kidsFrom]
    rw [if_neg (h a List.mem_cons_self)]
    exact kids_none A _ _ fun b hb => h b (List.mem_cons_of_mem _ hb)
def arounds (I : List Rec) : List Int := I.map Rec.aro
theorem aro_range : ∀ (t : F) (a : Int) (i : Nat) (st : Stk) (x : Int), x ∈ arounds (info t a i st) → x = a ∨ ((i : Int) ≤ x ∧ x < ((i + t.size : Nat) : Int))
  | .nul _, a, i, st, x, h => by
    simp [arounds, info] at h
    exact .inl h
  | .leaf _ _, a, i, st, x, h => by
    simp [arounds, info] at h
    exact .inl h
  | .two b f g, a, i, st, x, h => by
    simp only [arounds, info, List.map_cons, List.map_append, List.mem_cons, List.mem_append] at h
    rcases h with h | h | h
    · exact .inl h
    · have := aro_range f i (i + 1) st x h
      simp only [F.size]
      omega
    · have := aro_range g i (i + 1 + f.size) st x h
      simp only [F.size]
      omega
  | .one k n f, a, i, st, x, h => by
    simp only [arounds, info, List.map_cons, List.mem_cons] at h
    rcases h with h | h
    · exact .inl h
    · have := aro_range f i (i + 1) _ x h
      simp only [F.size]
      omega
/-- where a part's own parts stand among all -/
def Sits (I : List Rec) (i j : Nat) (r : Rec) : Prop :=
  ∃ A B, I = A ++ info r.sub r.aro (i + j) r.stk ++ B ∧ A.length = j ∧ (∀ x ∈ arounds A, x ≠ ((i + j : Nat) : Int)) ∧ (∀ x ∈ arounds B, x < ((i + j : Nat) : Int) ∨ ((i + j + r.sub.size : Nat) : Int) ≤ x) ∧ r.aro < ((i + j : Nat) : Int) ∧
    (∀ x ∈ arounds A, x < ((i + j : Nat) : Int))
theorem info_sits : ∀ (t : F) (a : Int) (i : Nat) (st : Stk) (j : Nat) (r : Rec), a < (i : Int) → (info t a i st)[j]? = some r → Sits (info t a i st) i j r := by
  have zero : ∀ (t : F) (a : Int) (i : Nat) (st : Stk) (r : Rec), a < (i : Int) → (info t a i st)[0]? = some r → Sits (info t a i st) i 0 r := by
    intro t a i st r ha h
    rw [info_head] at h
    cases h
    exact ⟨[], [], by simp, rfl, by simp [arounds], by simp [arounds], by simpa using ha, by simp [arounds]⟩
  intro t
  induction t with
  | nul b =>
    intro a i st j r ha h
    cases j with
    | zero => exact zero _ _ _ _ _ ha h
    | succ j => simp [info] at h
  | leaf k n =>
    intro a i st j r ha h
    cases j with
    | zero => exact zero _ _ _ _ _ ha h
    | succ j => simp [info] at h
  | two b f g ihf ihg =>
    intro a i st j r ha h
    cases j with
    | zero => exact zero _ _ _ _ _ ha h
    | succ j =>
      simp only [info, List.getElem?_cons_succ] at h
      by_cases lt : j < f.size
      · rw [List.getElem?_append_left (by rw [info_len]; exact lt)] at h
        obtain ⟨A, B, e, eA, hA, hB, hr, hA2⟩ := ihf i (i + 1) st j r (by omega) h
        have ee : i + 1 + j = i + (j + 1) := by omega
        rw [ee] at e hA hB hr hA2
        have szr : r.sub.size + j ≤ f.size := by
          have z := congrArg List.length e
          simp only [info_len, List.length_append, eA] at z
          omega
        refine ⟨⟨.two b f g, a, st⟩ :: A, B ++ info g i (i + 1 + f.size) st, by simp [info, e], by simp [eA], ?_, ?_, hr, ?_⟩
        · intro x hx
          simp only [arounds, List.map_cons, List.mem_cons] at hx
          rcases hx with rfl | hx
          · omega
          · exact hA x hx
        · intro x hx
          simp only [arounds, List.map_append, List.mem_append] at hx
          rcases hx with hx | hx
          · exact hB x hx
          · have := aro_range g i (i + 1 + f.size) st x hx
            omega
        · intro x hx
          simp only [arounds, List.map_cons, List.mem_cons] at hx
          rcases hx with rfl | hx
          · omega
          · exact hA2 x hx
      · rw [List.getElem?_append_right (by rw [info_len]; omega), info_len] at h
        obtain ⟨A, B, e, eA, hA, hB, hr, hA2⟩ := ihg i (i + 1 + f.size) st (j - f.size) r (by omega) h
        have ee : i + 1 + f.size + (j - f.size) = i + (j + 1) := by omega
        rw [ee] at e hA hB hr hA2
        refine ⟨⟨.two b f g, a, st⟩ :: (info f i (i + 1) st ++ A), B, by simp [info, e], by simp [eA, info_len]; omega, ?_, hB, hr, ?_⟩
        · intro x hx
          simp only [arounds, List.map_cons, List.map_append, List.mem_cons, List.mem_append] at hx
          rcases hx with rfl | hx | hx
          · omega
          · have := aro_range f i (i + 1) st x hx
            omega
          · exact hA x hx
        · intro x hx
          simp only [arounds, List.map_cons, List.map_append, List.mem_cons, List.mem_append] at hx
          rcases hx with rfl | hx | hx
          · omega
          · have := aro_range f i (i + 1) st x hx
            omega
          · exact hA2 x hx
  | one k n f ih =>
    intro a i st j r ha h
    cases j with
    | zero => exact zero _ _ _ _ _ ha h
    | succ j =>
      simp only [info, List.getElem?_cons_succ] at h
      obtain ⟨A, B, e, eA, hA, hB, hr, hA2⟩ := ih i (i + 1) _ j r (by omega) h
      have ee : i + 1 + j = i + (j + 1) := by omega
      rw [ee] at e hA hB hr hA2
      refine ⟨⟨.one k n f, a, st⟩ :: A, B, by simp [info, e], by simp [eA], ?_, hB, hr, ?_⟩
      · intro x hx
        simp only [arounds, List.map_cons, List.mem_cons] at hx
        rcases hx with rfl | hx
        · omega
        · exact hA x hx
      · intro x hx
        simp only [arounds, List.map_cons, List.mem_cons] at hx
        rcases hx with rfl | hx
        · omega
        · exact hA2 x hx
/-- the places of the parts directly in one -/
def inPlaces : F → Nat → List Nat
  | .two _ f _, i => [i + 1, i + 1 + f.size]
  | .one _ _ _, i => [i + 1]
  | _, _ => []
theorem kids_own : ∀ (t : F) (a : Int) (i : Nat) (st : Stk), a < (i : Int) → kidsFrom (arounds (info t a i st)) i i = inPlaces t i
  | .nul _, a, i, st, ha => by
    simp only [arounds, info, List.map_cons, List.map_nil, kidsFrom, inPlaces]
    rw [if_neg (by omega)]
  | .leaf _ _, a, i, st, ha => by
    simp only [arounds, info, List.map_cons, List.map_nil, kidsFrom, inPlaces]
    rw [if_neg (by omega)]
  | .two b f g, a, i, st, ha => by
    have rest : ∀ (u : F) (j : Nat) (st : Stk), i < j → kidsFrom (arounds (info u i j st)) j i = [j] := by
      intro u j st hj
      have tail : ∀ (I : List Rec), (∀ x ∈ arounds I, (j : Int) ≤ x) → kidsFrom (arounds I) (j + 1) i = [] := fun I hI =>
        kids_none _ _ _ fun x hx => by have := hI x hx; omega
      cases u with
      | nul b => simp [arounds, info, kidsFrom]
      | leaf k n => simp [arounds, info, kidsFrom]
      | two b f g =>
        simp only [arounds, info, List.map_cons, kidsFrom, if_true]
        have := tail (info f j (j + 1) st ++ info g j (j + 1 + f.size) st) (fun x hx => by
          simp only [arounds, List.map_append, List.mem_append] at hx
          rcases hx with hx | hx
          · have := aro_range f j (j + 1) st x hx
            omega
          · have := aro_range g j (j + 1 + f.size) st x hx
            omega)
        rw [arounds] at this
        rw [this]
      | one k n f =>
        simp only [arounds, info, List.map_cons, kidsFrom, if_true]
        have := tail (info f j (j + 1) (if k.bind then (n, j) :: st else st)) (fun x hx => by
          have := aro_range f j (j + 1) _ x hx
          omega)
        rw [arounds] at this
        rw [this]
    have h1 := rest f (i + 1) st (by omega)
    have h2 := rest g (i + 1 + f.size) st (by omega)
    simp only [arounds] at h1 h2
    simp only [arounds, info, List.map_cons, List.map_append, kidsFrom, inPlaces]
    rw [if_neg (by omega), kids_app, h1, List.length_map, info_len, h2]
    rfl
  | .one k n f, a, i, st, ha => by
    have rest : ∀ (u : F) (j : Nat) (st : Stk), i < j → kidsFrom (arounds (info u i j st)) j i = [j] := by
      intro u j st hj
      have tail : ∀ (I : List Rec), (∀ x ∈ arounds I, (j : Int) ≤ x) → kidsFrom (arounds I) (j + 1) i = [] := fun I hI =>
        kids_none _ _ _ fun x hx => by have := hI x hx; omega
      cases u with
      | nul b => simp [arounds, info, kidsFrom]
      | leaf k n => simp [arounds, info, kidsFrom]
      | two b f g =>
        simp only [arounds, info, List.map_cons, kidsFrom, if_true]
        have := tail (info f j (j + 1) st ++ info g j (j + 1 + f.size) st) (fun x hx => by
          simp only [arounds, List.map_append, List.mem_append] at hx
          rcases hx with hx | hx
          · have := aro_range f j (j + 1) st x hx
            omega
          · have := aro_range g j (j + 1 + f.size) st x hx
            omega)
        rw [arounds] at this
        rw [this]
      | one k n f =>
        simp only [arounds, info, List.map_cons, kidsFrom, if_true]
        have := tail (info f j (j + 1) (if k.bind then (n, j) :: st else st)) (fun x hx => by
          have := aro_range f j (j + 1) _ x hx
          omega)
        rw [arounds] at this
        rw [this]
    have h1 := rest f (i + 1) (if k.bind then (n, i) :: st else st) (by omega)
    simp only [arounds] at h1
    simp only [arounds, info, List.map_cons, kidsFrom, inPlaces]
    rw [if_neg (by omega), h1]
theorem kids_at {t : F} {j : Nat} {r : Rec} (h : (infos t)[j]? = some r) : kidsFrom (arounds (infos t)) 0 j = inPlaces r.sub j := by
  obtain ⟨A, B, e, eA, hA, hB, hr, _⟩ := info_sits t (-1) 0 [] j r (by omega) h
  rw [Nat.zero_add] at e hA hB hr
  have ea : arounds (infos t) = arounds A ++ arounds (info r.sub r.aro j r.stk) ++ arounds B := by
    rw [show infos t = _ from e]
    simp [arounds]
  have lA : (arounds A).length = j := by simp [arounds, eA]
  rw [ea, kids_app, kids_app, kids_none _ _ _ hA, Nat.zero_add, lA, kids_own _ _ _ _ hr, kids_none (arounds B)]
  · simp
  · intro x hx
    have := hB x hx
    have := F.size_pos r.sub
    omega
/-- the parts of a part are among all, at their places -/
theorem sub_at {t : F} {j : Nat} {r : Rec} (h : (infos t)[j]? = some r) : ∀ (k : Nat) (q : Rec), (info r.sub r.aro j r.stk)[k]? = some q → (infos t)[j + k]? = some q := by
  intro k q hq
  obtain ⟨A, B, e, eA, _⟩ := info_sits t (-1) 0 [] j r (by omega) h
  rw [Nat.zero_add] at e
  have lt := (List.getElem?_eq_some_iff.mp hq).1
  rw [show infos t = _ from e, List.append_assoc, List.getElem?_append_right (by omega), eA, show j + k - j = k by omega, List.getElem?_append_left lt]
  exact hq

/-! ### the binder around, and the one of a variable -/
def topPos : Stk → Int
  | [] => -1
  | (_, p) :: _ => (p : Int)
def posOf (x : Int) : Stk → Int
  | [] => -1
  | (y, p) :: r => if y = x then (p : Int) else posOf x r
def isB : F → Bool
  | .one k _ _ => k.bind
  | _ => false
theorem pushS_top (s : F) (p : Nat) (st : Stk) : topPos (pushS s p st) = if isB s = true then (p : Int) else topPos st := by
  cases s with
  | one k n f => cases hk : k.bind <;> simp [pushS, isB, topPos, hk]
  | _ => rfl
theorem top_step {t : F} {j : Nat} {r : Rec} (h : (infos t)[j]? = some r) :
    (r.aro = -1 ∧ topPos r.stk = -1 ∧ j = 0) ∨ ∃ p r', p < j ∧ (infos t)[p]? = some r' ∧ r.aro = (p : Int) ∧ topPos r.stk = if isB r'.sub = true then (p : Int) else topPos r'.stk := by
  rcases info_up t (-1) 0 [] j r h with ⟨rfl, rfl⟩ | ⟨p, r', hp, e, e1, e2⟩
  · exact .inl ⟨rfl, rfl, rfl⟩
  · rw [Nat.zero_add] at e1 e2
    exact .inr ⟨p, r', hp, e, e1, by rw [e2, pushS_top]⟩
theorem posOf_ge (x : Int) : ∀ st : Stk, -1 ≤ posOf x st
  | [] => by simp [posOf]
  | (y, p) :: r => by
    simp only [posOf]
    split
    · omega
    · exact posOf_ge x r
theorem posOf_neg (x : Int) : ∀ st : Stk, posOf x st < 0 ↔ x ∉ st.map (·.1)
  | [] => by simp [posOf]
  | (y, p) :: r => by
    have ih := posOf_neg x r
    simp only [posOf, List.map_cons, List.mem_cons, not_or]
    split
    · rename_i e
      constructor
      · intro z
        omega
      · intro z
        exact absurd e.symm z.1
    · rename_i e
      rw [ih]
      constructor
      · exact fun z => ⟨fun q => e q.symm, z⟩
      · exact fun z => z.2
/-! ### free variables -/
def freeL : F → List Int → List Int
  | .nul _, _ => []
  | .leaf .var x, bound => if x ∈ bound then [] else [x]
  | .leaf _ _, _ => []
  | .two _ f g, bound => freeL f bound ++ freeL g bound
  | .one k x f, bound => if k.bind then freeL f (bound ++ [x]) else freeL f bound
theorem free_iff (x : Int) : ∀ (t : F) (bound : List Int) (a : Int) (i : Nat) (st : Stk), (∀ y, y ∈ bound ↔ y ∈ st.map (·.1)) →
    (x ∈ freeL t bound ↔ ∃ r ∈ info t a i st, r.sub = .leaf .var x ∧ x ∉ r.stk.map (·.1))
  | .nul b, bound, a, i, st, hb => by simp [freeL, info]
  | .leaf .has n, bound, a, i, st, hb => by simp [freeL, info]
  | .leaf .lacks n, bound, a, i, st, hb => by simp [freeL, info]
  | .leaf .var n, bound, a, i, st, hb => by
    simp only [freeL, info, List.mem_singleton]
    constructor
    · intro h
      split at h
      · cases h
      · rename_i hn
        rw [List.mem_singleton] at h
        subst h
        exact ⟨_, rfl, rfl, fun z => hn ((hb _).mpr z)⟩
    · rintro ⟨r, rfl, e, hn⟩
      injection e with _ e
      subst e
      rw [if_neg (fun z => hn ((hb _).mp z))]
      exact List.mem_singleton.mpr rfl
  | .two b f g, bound, a, i, st, hb => by
    simp only [freeL, info, List.mem_append, List.mem_cons]
    rw [free_iff x f bound i (i + 1) st hb, free_iff x g bound i (i + 1 + f.size) st hb]
    constructor
    · rintro (⟨r, h1, h2⟩ | ⟨r, h1, h2⟩)
      · exact ⟨r, .inr (.inl h1), h2⟩
      · exact ⟨r, .inr (.inr h1), h2⟩
    · rintro ⟨r, h1, h2, h3⟩
      rcases h1 with rfl | h1 | h1
      · cases h2
      · exact .inl ⟨r, h1, h2, h3⟩
      · exact .inr ⟨r, h1, h2, h3⟩
  | .one k n f, bound, a, i, st, hb => by
    simp only [freeL, info, List.mem_cons]
    have key : ∀ (bound' : List Int) (st' : Stk), (∀ y, y ∈ bound' ↔ y ∈ st'.map (·.1)) →
        (x ∈ freeL f bound' ↔ ∃ r, (r = ⟨.one k n f, a, st⟩ ∨ r ∈ info f i (i + 1) st') ∧ r.sub = .leaf .var x ∧ x ∉ r.stk.map (·.1)) := by
      intro bound' st' h'
      rw [free_iff x f bound' i (i + 1) st' h']
      constructor
      · rintro ⟨r, h1, h2⟩
        exact ⟨r, .inr h1, h2⟩
      · rintro ⟨r, h1, h2, h3⟩
        rcases h1 with rfl | h1
        · cases h2
        · exact ⟨r, h1, h2, h3⟩
    by_cases hk : k.bind = true
    · rw [if_pos hk, if_pos hk]
      refine key _ _ fun y => ?_
      simp only [List.mem_append, hb y, List.map_cons, List.mem_cons, List.not_mem_nil, or_false]
      exact Or.comm
    · rw [if_neg hk, if_neg hk]
      exact key _ _ hb
def Closed (t : F) : Prop := ∀ r ∈ infos t, ∀ x, r.sub = .leaf .var x → x ∈ r.stk.map (·.1)
theorem closed_iff {t : F} : freeL t [] = [] ↔ Closed t := by
  constructor
  · intro h r hr x e
    refine Classical.byContradiction fun hn => ?_
    have := (free_iff x t [] (-1) 0 [] (by simp)).mpr ⟨r, hr, e, hn⟩
    rw [h] at this
    cases this
  · intro h
    refine List.eq_nil_iff_forall_not_mem.mpr fun x hx => ?_
    obtain ⟨r, hr, e, hn⟩ := (free_iff x t [] (-1) 0 [] (by simp)).mp hx
    exact hn (h r hr x e)
/-! ### the same shape, the same places -/
def skel : F → F
  | .nul _ => .nul true
  | .leaf _ _ => .nul true
  | .two _ f g => .two true (skel f) (skel g)
  | .one _ _ f => .one .some 0 (skel f)
theorem skel_size : ∀ t : F, (skel t).size = t.size
  | .nul _ => rfl
  | .leaf _ _ => rfl
  | .two _ f g => by simp [skel, F.size, skel_size f, skel_size g]
  | .one _ _ f => by simp [skel, F.size, skel_size f]
theorem skel_depth : ∀ t : F, (skel t).depth = t.depth
  | .nul _ => rfl
  | .leaf _ _ => rfl
  | .two _ f g => by simp [skel, F.depth, skel_depth f, skel_depth g]
  | .one _ _ f => by simp [skel, F.depth, skel_depth f]
theorem skel_aro : ∀ (t : F) (a : Int) (i : Nat) (st : Stk), arounds (info t a i st) = arounds (info (skel t) a i [])
  | .nul _, _, _, _ => rfl
  | .leaf _ _, _, _, _ => rfl
  | .two _ f g, a, i, st => by
    have h1 := skel_aro f i (i + 1) st
    have h2 := skel_aro g i (i + 1 + f.size) st
    simp only [arounds] at h1 h2
    simp only [arounds, info, skel, List.map_cons, List.map_append, h1, h2, skel_size]
  | .one k n f, a, i, st => by
    have h1 := skel_aro f i (i + 1) (if k.bind then (n, i) :: st else st)
    simp only [arounds] at h1
    simp only [arounds, info, skel, List.map_cons]
    rw [h1]
    rfl
theorem same_aro {t u : F} (h : skel t = skel u) : arounds (infos t) = arounds (infos u) := by
  rw [skel_aro t, skel_aro u, h]
theorem same_size {t u : F} (h : skel t = skel u) : t.size = u.size := by rw [← skel_size t, h, skel_size]
/-! ### the tidy form -/
def tidyF : F → (Int → Int) → Int → F × Int
  | .nul b, _, n => (.nul b, n)
  | .leaf .var x, nm, n => (.leaf .var (nm x), n)
  | .leaf k x, _, n => (.leaf k x, n)
  | .two b f g, nm, n => (.two b (tidyF f nm n).1 (tidyF g nm (tidyF f nm n).2).1, (tidyF g nm (tidyF f nm n).2).2)
  | .one k x f, nm, n =>
    if k.bind then (.one k n (tidyF f (fun y => if y = x then n else nm y) (n + 1)).1, (tidyF f (fun y => if y = x then n else nm y) (n + 1)).2)
    else (.one k x (tidyF f nm n).1, (tidyF f nm n).2)
theorem tidy_skel : ∀ (t : F) (nm : Int → Int) (n : Int), skel (tidyF t nm n).1 = skel t
  | .nul _, _, _ => rfl
  | .leaf .var _, _, _ => rfl
  | .leaf .has _, _, _ => rfl
  | .leaf .lacks _, _, _ => rfl
  | .two _ f g, nm, n => by simp only [tidyF, skel, tidy_skel f, tidy_skel g]
  | .one k x f, nm, n => by
    simp only [tidyF]
    split <;> simp only [skel, tidy_skel f]
def cntB (I : List Rec) : Nat := (I.filter fun r => isB r.sub).length
theorem cntB_app (A B : List Rec) : cntB (A ++ B) = cntB A + cntB B := by simp [cntB]
theorem cntB_cons (r : Rec) (B : List Rec) : cntB (r :: B) = (if isB r.sub = true then 1 else 0) + cntB B := by
  simp only [cntB, List.filter_cons]
  split <;> simp <;> omega
def newHd (ρ : Nat → Int) (q : Nat) (r : Rec) : Hd :=
  match r.sub with
  | .leaf .var x => .leaf .var (ρ (posOf x r.stk).toNat)
  | .one k x _ => if k.bind then .one k (ρ q) else .one k x
  | s => s.hd
theorem tidy_heads (ρ : Nat → Int) : ∀ (t : F) (a : Int) (i : Nat) (st : Stk) (nm : Int → Int) (n : Int),
    (∀ r ∈ info t a i st, ∀ x, r.sub = .leaf .var x → x ∈ r.stk.map (·.1)) → (∀ x ∈ st.map (·.1), nm x = ρ (posOf x st).toNat) →
    (∀ j r, (info t a i st)[j]? = some r → isB r.sub = true → ρ (i + j) = n + (cntB ((info t a i st).take j) : Nat)) →
    (tidyF t nm n).2 = n + (cntB (info t a i st) : Nat) ∧
    ∀ (st' : Stk) (j : Nat) (r : Rec), (info t a i st)[j]? = some r → ((info (tidyF t nm n).1 a i st')[j]?).map (fun r => r.sub.hd) = some (newHd ρ (i + j) r)
  | .nul b, a, i, st, nm, n, hc, hs, hr => by
    refine ⟨by simp [tidyF, info, cntB, isB], fun st' j r h => ?_⟩
    cases j with
    | zero =>
      cases h
      rfl
    | succ j => simp [info] at h
  | .leaf .has b, a, i, st, nm, n, hc, hs, hr => by
    refine ⟨by simp [tidyF, info, cntB, isB], fun st' j r h => ?_⟩
    cases j with
    | zero =>
      cases h
      rfl
    | succ j => simp [info] at h
  | .leaf .lacks b, a, i, st, nm, n, hc, hs, hr => by
    refine ⟨by simp [tidyF, info, cntB, isB], fun st' j r h => ?_⟩
    cases j with
    | zero =>
      cases h
      rfl
    | succ j => simp [info] at h
  | .leaf .var x, a, i, st, nm, n, hc, hs, hr => by
    refine ⟨by simp [tidyF, info, cntB, isB], fun st' j r h => ?_⟩
    cases j with
    | zero =>
      cases h
      have hx : x ∈ st.map (·.1) := hc ⟨.leaf .var x, a, st⟩ (by simp [info]) x rfl
      simp only [tidyF, info, newHd, List.getElem?_cons_zero, Option.map_some, F.hd]
      rw [hs x hx]
    | succ j => simp [info] at h
  | .two b f g, a, i, st, nm, n, hc, hs, hr => by
    have If : ∀ j r, (info f i (i + 1) st)[j]? = some r → (info (.two b f g) a i st)[j + 1]? = some r := fun j r h => by
      simp only [info, List.getElem?_cons_succ]
      rw [List.getElem?_append_left (List.getElem?_eq_some_iff.mp h).1]
      exact h
    have Ig : ∀ j r, (info g i (i + 1 + f.size) st)[j]? = some r → (info (.two b f g) a i st)[f.size + j + 1]? = some r := fun j r h => by
      simp only [info, List.getElem?_cons_succ]
      rw [List.getElem?_append_right (by rw [info_len]; omega), info_len, show f.size + j - f.size = j by omega]
      exact h
    obtain ⟨f1, f2⟩ := tidy_heads ρ f i (i + 1) st nm n (fun r hr' => hc r (by simp [info, hr'])) hs (fun j r h hb => by
      have := hr (j + 1) r (If j r h) hb
      rw [show i + (j + 1) = i + 1 + j by omega] at this
      rw [this]
      simp only [info, List.take_succ_cons, cntB_cons, isB]
      rw [List.take_append_of_le_length (Nat.le_of_lt (List.getElem?_eq_some_iff.mp h).1)]
      simp)
    obtain ⟨g1, g2⟩ := tidy_heads ρ g i (i + 1 + f.size) st nm (tidyF f nm n).2 (fun r hr' => hc r (by simp [info, hr'])) hs (fun j r h hb => by
      have := hr (f.size + j + 1) r (Ig j r h) hb
      rw [show i + (f.size + j + 1) = i + 1 + f.size + j by omega] at this
      rw [this, f1]
      simp only [info, List.take_succ_cons, cntB_cons, isB]
      rw [List.take_append, info_len, List.take_of_length_le (by rw [info_len]; omega), show f.size + j - f.size = j by omega, cntB_app]
      simp
      omega)
    refine ⟨?_, fun st' j r h => ?_⟩
    · simp only [tidyF, info, cntB_cons, cntB_app, isB]
      rw [g1, f1]
      simp
      omega
    · have sz : (tidyF f nm n).1.size = f.size := same_size (tidy_skel f nm n)
      cases j with
      | zero =>
        cases h
        rfl
      | succ j =>
        simp only [info, List.getElem?_cons_succ] at h
        simp only [tidyF, info, List.getElem?_cons_succ]
        by_cases lt : j < f.size
        · rw [List.getElem?_append_left (by rw [info_len]; exact lt)] at h
          rw [List.getElem?_append_left (by rw [info_len, sz]; exact lt), f2 st' j r h, show i + 1 + j = i + (j + 1) by omega]
        · rw [List.getElem?_append_right (by rw [info_len]; omega), info_len] at h
          rw [List.getElem?_append_right (by rw [info_len, sz]; omega), info_len, sz, g2 st' (j - f.size) r h, show i + 1 + f.size + (j - f.size) = i + (j + 1) by omega]
  | .one k x f, a, i, st, nm, n, hc, hs, hr => by
    by_cases hk : k.bind = true
    · have If : ∀ j r, (info f i (i + 1) ((x, i) :: st))[j]? = some r → (info (.one k x f) a i st)[j + 1]? = some r := fun j r h => by
        simp only [info, List.getElem?_cons_succ, if_pos hk]
        exact h
      have ρi : ρ i = n := by
        have := hr 0 ⟨.one k x f, a, st⟩ rfl hk
        simpa [cntB] using this
      obtain ⟨f1, f2⟩ := tidy_heads ρ f i (i + 1) ((x, i) :: st) (fun y => if y = x then n else nm y) (n + 1) (fun r hr' => hc r (by simp [info, hk, hr'])) (fun y hy => by
        simp only [posOf]
        by_cases e : y = x
        · rw [if_pos e, if_pos e.symm]
          exact ρi.symm
        · rw [if_neg e, if_neg (fun z => e z.symm)]
          rw [List.map_cons, List.mem_cons] at hy
          exact hs y (hy.resolve_left e)) (fun j r h hb => by
        have := hr (j + 1) r (If j r h) hb
        rw [show i + (j + 1) = i + 1 + j by omega] at this
        rw [this]
        simp only [info, List.take_succ_cons, cntB_cons]
        rw [if_pos (show isB (F.one k x f) = true from hk), if_pos hk]
        omega)
      refine ⟨?_, fun st' j r h => ?_⟩
      · simp only [tidyF, info, cntB_cons]
        rw [if_pos (show isB (F.one k x f) = true from hk), if_pos hk, if_pos hk, f1]
        omega
      · cases j with
        | zero =>
          cases h
          simp only [tidyF, if_pos hk, info, newHd, List.getElem?_cons_zero, Option.map_some, F.hd]
          rw [Nat.add_zero, ρi]
        | succ j =>
          simp only [info, List.getElem?_cons_succ, if_pos hk] at h
          simp only [tidyF, if_pos hk, info, List.getElem?_cons_succ]
          rw [f2 _ j r h, show i + 1 + j = i + (j + 1) by omega]
    · have If : ∀ j r, (info f i (i + 1) st)[j]? = some r → (info (.one k x f) a i st)[j + 1]? = some r := fun j r h => by
        simp only [info, List.getElem?_cons_succ, if_neg hk]
        exact h
      obtain ⟨f1, f2⟩ := tidy_heads ρ f i (i + 1) st nm n (fun r hr' => hc r (by simp [info, hk, hr'])) hs (fun j r h hb => by
        have := hr (j + 1) r (If j r h) hb
        rw [show i + (j + 1) = i + 1 + j by omega] at this
        rw [this]
        simp only [info, List.take_succ_cons, cntB_cons]
        rw [if_neg (show ¬ isB (F.one k x f) = true from hk), if_neg hk]
        omega)
      refine ⟨?_, fun st' j r h => ?_⟩
      · simp only [tidyF, info, cntB_cons]
        rw [if_neg (show ¬ isB (F.one k x f) = true from hk), if_neg hk, if_neg hk, f1]
        omega
      · cases j with
        | zero =>
          cases h
          simp only [tidyF, if_neg hk, info, newHd, List.getElem?_cons_zero, Option.map_some, F.hd]
        | succ j =>
          simp only [info, List.getElem?_cons_succ, if_neg hk] at h
          simp only [tidyF, if_neg hk, info, List.getElem?_cons_succ]
          rw [f2 _ j r h, show i + 1 + j = i + (j + 1) by omega]
/-- of a closed one: the head of each part in the tidy form -/
def rankOf (t : F) (q : Nat) : Int := (cntB ((infos t).take q) : Nat)
theorem tidy_whole {t : F} (hc : Closed t) (nm : Int → Int) {j : Nat} {r : Rec} (h : (infos t)[j]? = some r) :
    ((infos (tidyF t nm 0).1)[j]?).map (fun r => r.sub.hd) = some (newHd (rankOf t) j r) := by
  have := (tidy_heads (rankOf t) t (-1) 0 [] nm 0 hc (by simp) (fun j r h hb => by simp [rankOf])).2 [] j r h
  rwa [Nat.zero_add] at this
/-! ### tidy twice -/
theorem tidy_again : ∀ (t : F) (nm nm2 : Int → Int) (n : Int), (∀ y, nm2 (nm y) = nm y) → tidyF (tidyF t nm n).1 nm2 n = tidyF t nm n
  | .nul _, _, _, _, _ => rfl
  | .leaf .has _, _, _, _, _ => rfl
  | .leaf .lacks _, _, _, _, _ => rfl
  | .leaf .var x, nm, nm2, n, h => by simp only [tidyF, h]
  | .two b f g, nm, nm2, n, h => by
    simp only [tidyF]
    rw [tidy_again f nm nm2 n h, tidy_again g nm nm2 _ h]
  | .one k x f, nm, nm2, n, h => by
    by_cases hk : k.bind = true
    · have ih := tidy_again f (fun y => if y = x then n else nm y) (fun y => if y = n then n else nm2 y) (n + 1) (fun y => by
        by_cases e : y = x
        · simp [e]
        · simp only [if_neg e]
          by_cases e2 : nm y = n
          · simp [e2]
          · rw [if_neg e2]
            exact h y)
      simp only [tidyF, if_pos hk, ih]
    · have ih := tidy_again f nm nm2 n h
      simp only [tidyF, if_neg hk, ih]
end Fw
namespace Fw
/-! ### taking a statement apart with a stack -/
def pre (t : F) (a : Int) (i : Nat) : List (Hd × Int) := (info t a i []).map fun r => (r.sub.hd, r.aro)
theorem pre_len (t : F) (a : Int) (i : Nat) : (pre t a i).length = t.size := by simp [pre, info_len]
theorem info_plain : ∀ (t : F) (a : Int) (i : Nat) (st : Stk), ((info t a i st).map fun r => (r.sub.hd, r.aro)) = pre t a i
  | .nul _, _, _, _ => rfl
  | .leaf _ _, _, _, _ => rfl
  | .two _ f g, a, i, st => by
    have h1 := info_plain f i (i + 1)
    have h2 := info_plain g i (i + 1 + f.size)
    simp only [pre, info, List.map_cons, List.map_append] at *
    rw [h1 st, h2 st]
  | .one k n f, a, i, st => by
    have h1 := info_plain f i (i + 1)
    simp only [pre, info, List.map_cons] at *
    rw [h1 (if k.bind then (n, i) :: st else st), h1 (if k.bind then [(n, i)] else [])]
def F.kids : F → List F
  | .two _ f g => [f, g]
  | .one _ _ f => [f]
  | _ => []
def fin (L : List (Hd × Int)) : List (F × Int) → List (Hd × Int)
  | [] => L
  | (t, a) :: r => fin (L ++ pre t a L.length) r
theorem fin_step (L : List (Hd × Int)) (t : F) (a : Int) (r : List (F × Int)) :
    fin L ((t, a) :: r) = fin (L ++ [(t.hd, a)]) (t.kids.map (fun f => (f, (L.length : Int))) ++ r) := by
  cases t with
  | nul b => rfl
  | leaf k n => rfl
  | two b f g =>
    have hf := info_plain f L.length (L.length + 1) []
    have hg := info_plain g L.length (L.length + 1 + f.size) []
    simp only [fin, F.kids, List.map_cons, List.map_nil, List.cons_append, List.nil_append, F.hd, List.length_append, List.length_cons, List.length_nil, pre_len]
    congr 1
    simp only [pre, info, List.map_cons, List.map_append, F.hd]
    simp
  | one k n f =>
    have hf := info_plain f L.length (L.length + 1) (if k.bind then [(n, L.length)] else [])
    simp only [fin, F.kids, List.map_cons, List.map_nil, List.cons_append, List.nil_append, F.hd, List.length_append, List.length_cons, List.length_nil]
    congr 1
    simp only [pre, info, List.map_cons, F.hd] at *
    rw [hf]
    simp
def stSize : List (F × Int) → Nat
  | [] => 0
  | (t, _) :: r => t.size + stSize r
theorem stSize_app : ∀ A B : List (F × Int), stSize (A ++ B) = stSize A + stSize B
  | [], B => by simp [stSize]
  | (t, a) :: A, B => by simp [stSize, stSize_app A B]; omega
theorem stSize_kids (t : F) (i : Int) : stSize (t.kids.map fun f => (f, i)) + 1 = t.size := by
  cases t <;> simp [F.kids, stSize, F.size]
theorem st_len : ∀ A : List (F × Int), A.length ≤ stSize A
  | [] => Nat.le_refl _
  | (t, a) :: A => by
    have := st_len A
    have := F.size_pos t
    simp only [List.length_cons, stSize]
    omega
theorem fin_len : ∀ (S : List (F × Int)) (L : List (Hd × Int)), (fin L S).length = L.length + stSize S
  | [], L => by simp [fin, stSize]
  | (t, a) :: S, L => by
    simp only [fin, stSize]
    rw [fin_len S, List.length_append, pre_len]
    omega
end Fw
namespace Fw
theorem kids_recs {t : F} {j : Nat} {r : Rec} (h : (infos t)[j]? = some r) :
    (inPlaces r.sub j).length = r.sub.kids.length ∧ ∀ (m p : Nat), (inPlaces r.sub j)[m]? = some p → ∃ r', (infos t)[p]? = some r' ∧ r.sub.kids[m]? = some r'.sub ∧ j < p := by
  have sa := sub_at h
  obtain ⟨s, a, st⟩ := r
  cases s with
  | nul b => exact ⟨rfl, fun m p e => by simp [inPlaces] at e⟩
  | leaf k n => exact ⟨rfl, fun m p e => by simp [inPlaces] at e⟩
  | two b f g =>
    refine ⟨rfl, fun m p e => ?_⟩
    match m, e with
    | 0, e =>
      cases e
      refine ⟨⟨f, j, st⟩, sa 1 _ ?_, rfl, by omega⟩
      simp only [info, List.getElem?_cons_succ]
      rw [List.getElem?_append_left (by rw [info_len]; exact F.size_pos f)]
      exact info_head _ _ _ _
    | 1, e =>
      cases e
      have z := sa (1 + f.size) ⟨g, j, st⟩ (by
        rw [Nat.add_comm 1]
        simp only [info, List.getElem?_cons_succ]
        rw [List.getElem?_append_right (by rw [info_len]; omega), info_len, Nat.sub_self]
        exact info_head _ _ _ _)
      rw [← Nat.add_assoc] at z
      exact ⟨_, z, rfl, by omega⟩
    | m + 2, e => simp [inPlaces] at e
  | one k n f =>
    refine ⟨rfl, fun m p e => ?_⟩
    match m, e with
    | 0, e =>
      cases e
      refine ⟨⟨f, j, if k.bind then (n, j) :: st else st⟩, sa 1 _ ?_, rfl, by omega⟩
      simp only [info, List.getElem?_cons_succ]
      exact info_head _ _ _ _
    | m + 1, e => simp [inPlaces] at e
end Fw
namespace Fw
theorem F.kids_le : ∀ t : F, t.kids.length ≤ 2
  | .nul _ => Nat.zero_le 2
  | .leaf _ _ => Nat.zero_le 2
  | .two _ _ _ => Nat.le_refl 2
  | .one _ _ _ => Nat.le_succ 1
end Fw
namespace Fw
theorem infos_pos {t : F} {x : Int} : ∀ (st : Stk) (j : Nat) (r : Rec), (infos t)[j]? = some r → r.stk = st → x ∈ st.map (·.1) →
    ∃ (p : Nat) (r' : Rec), posOf x st = (p : Int) ∧ p < j ∧ (infos t)[p]? = some r' ∧ isB r'.sub = true
  | [], _, _, _, _, h => by cases h
  | (y, q) :: rest, j, r, hr, e, h => by
    obtain ⟨hq, k, f, a, h2, h3⟩ := infos_stk j j r y q rest (Nat.le_refl _) hr e
    simp only [posOf]
    by_cases c : y = x
    · rw [if_pos c]
      exact ⟨q, _, rfl, hq, h2, h3⟩
    · rw [if_neg c]
      have h' : x ∈ rest.map (·.1) := by
        rw [List.map_cons, List.mem_cons] at h
        exact h.resolve_left fun z => c z.symm
      obtain ⟨p, r', e1, e2, e3⟩ := infos_pos rest q _ h2 rfl h'
      exact ⟨p, r', e1, by omega, e3⟩
end Fw
namespace Fw
/-! ### what the law draws -/
def fv : F → List Int
  | .nul _ => []
  | .leaf .var x => [x]
  | .leaf _ _ => []
  | .two _ f g => fv f ++ fv g
  | .one k x f => if k.bind then (fv f).filter (fun y => y ≠ x) else fv f
theorem free_fv (y : Int) : ∀ (t : F) (b : List Int), y ∈ freeL t b ↔ y ∈ fv t ∧ y ∉ b
  | .nul _, b => by simp [freeL, fv]
  | .leaf .has _, b => by simp [freeL, fv]
  | .leaf .lacks _, b => by simp [freeL, fv]
  | .leaf .var x, b => by
    simp only [freeL, fv, List.mem_singleton]
    split
    · rename_i h
      constructor
      · intro z
        cases z
      · rintro ⟨rfl, z⟩
        exact absurd h z
    · rename_i h
      rw [List.mem_singleton]
      constructor
      · rintro rfl
        exact ⟨rfl, h⟩
      · exact fun z => z.1
  | .two _ f g, b => by
    simp only [freeL, fv, List.mem_append, free_fv y f b, free_fv y g b]
    constructor
    · rintro (⟨h1, h2⟩ | ⟨h1, h2⟩)
      · exact ⟨.inl h1, h2⟩
      · exact ⟨.inr h1, h2⟩
    · rintro ⟨h1 | h1, h2⟩
      · exact .inl ⟨h1, h2⟩
      · exact .inr ⟨h1, h2⟩
  | .one k x f, b => by
    simp only [freeL, fv]
    by_cases hk : k.bind = true
    · rw [if_pos hk, if_pos hk, free_fv y f (b ++ [x])]
      simp only [List.mem_append, List.mem_singleton, not_or, List.mem_filter, decide_eq_true_eq]
      constructor
      · rintro ⟨h1, h2, h3⟩
        exact ⟨⟨h1, h3⟩, h2⟩
      · rintro ⟨⟨h1, h3⟩, h2⟩
        exact ⟨h1, h2, h3⟩
    · rw [if_neg hk, if_neg hk, free_fv y f b]
theorem closed_fv {t : F} : fv t = [] ↔ Closed t := by
  rw [← closed_iff]
  constructor
  · intro h
    refine List.eq_nil_iff_forall_not_mem.mpr fun x hx => ?_
    have := ((free_fv x t []).mp hx).1
    rw [h] at this
    cases this
  · intro h
    refine List.eq_nil_iff_forall_not_mem.mpr fun x hx => ?_
    have := (free_fv x t []).mpr ⟨hx, by simp⟩
    rw [h] at this
    cases this
abbrev V4 : List Int := [0, 1, 2, 7]
def Ok : F → Prop
  | .nul _ => True
  | .leaf .var x => x ∈ V4
  | .leaf _ n => 0 ≤ n ∧ n < 2
  | .two _ f g => Ok f ∧ Ok g
  | .one k n f => (if k.bind = true then n ∈ V4 else 0 ≤ n ∧ n < 2) ∧ Ok f
theorem ok_fv : ∀ {t : F}, Ok t → ∀ x ∈ fv t, x ∈ V4
  | .nul _, _, x, h => by cases h
  | .leaf .has _, _, x, h => by cases h
  | .leaf .lacks _, _, x, h => by cases h
  | .leaf .var y, o, x, h => by
    rw [show fv (.leaf .var y) = [y] from rfl, List.mem_singleton] at h
    subst h
    exact o
  | .two _ f g, o, x, h => by
    rcases List.mem_append.mp (show x ∈ fv f ++ fv g from h) with h | h
    · exact ok_fv o.1 x h
    · exact ok_fv o.2 x h
  | .one k n f, o, x, h => by
    refine ok_fv o.2 x ?_
    simp only [fv] at h
    split at h
    · exact (List.mem_filter.mp h).1
    · exact h
structure Gen (n : Nat) (W R : List Int) (t : F) : Prop where
  dep : t.depth ≤ n + 1
  ok : Ok t
  fr : ∀ x ∈ fv t, x ∈ W ∨ x ∈ R
end Fw
namespace Fw
theorem tidy_fv : ∀ (t : F) (nm : Int → Int) (n y : Int), y ∈ fv (tidyF t nm n).1 → ∃ x ∈ fv t, y = nm x
  | .nul _, _, _, _, h => by cases h
  | .leaf .has _, _, _, _, h => by cases h
  | .leaf .lacks _, _, _, _, h => by cases h
  | .leaf .var x, nm, n, y, h => ⟨x, List.mem_singleton.mpr rfl, List.mem_singleton.mp h⟩
  | .two b f g, nm, n, y, h => by
    rcases List.mem_append.mp (show y ∈ fv (tidyF f nm n).1 ++ fv (tidyF g nm (tidyF f nm n).2).1 from h) with h | h
    · obtain ⟨x, h1, h2⟩ := tidy_fv f nm n y h
      exact ⟨x, List.mem_append_left _ h1, h2⟩
    · obtain ⟨x, h1, h2⟩ := tidy_fv g nm _ y h
      exact ⟨x, List.mem_append_right _ h1, h2⟩
  | .one k z f, nm, n, y, h => by
    by_cases hk : k.bind = true
    · simp only [tidyF, if_pos hk, fv, List.mem_filter, decide_eq_true_eq] at h
      obtain ⟨x, h1, h2⟩ := tidy_fv f _ _ y h.1
      by_cases e : x = z
      · rw [if_pos e] at h2
        exact absurd h2 h.2
      · rw [if_neg e] at h2
        refine ⟨x, ?_, h2⟩
        simp only [fv, if_pos hk, List.mem_filter, decide_eq_true_eq]
        exact ⟨h1, e⟩
    · simp only [tidyF, if_neg hk, fv] at h
      obtain ⟨x, h1, h2⟩ := tidy_fv f nm n y h
      refine ⟨x, ?_, h2⟩
      simp only [fv, if_neg hk]
      exact h1
theorem tidy_closed {t : F} (nm : Int → Int) (n : Int) (h : Closed t) : Closed (tidyF t nm n).1 := by
  rw [← closed_fv] at h ⊢
  refine List.eq_nil_iff_forall_not_mem.mpr fun y hy => ?_
  obtain ⟨x, hx, _⟩ := tidy_fv t nm n y hy
  rw [h] at hx
  cases hx
end Fw

/-! Statements as texts: tokens, how they are printed, and the reading of them with two lists. Pure mathematics. -/
namespace Fw
inductive Tk
  | lp | rp | dot
  | sg (b : Bool)
  | bd (k : One)
  | pr (k : One) (n : Int)
  | nl (b : Bool)
  | lf (k : Leaf) (n : Int)
def dg (n : Int) : Nat := 48 + n.toNat
def tx : Tk → List Nat
  | .lp => [40]
  | .rp => [41]
  | .dot => [46]
  | .sg b => if b = true then [38] else [124]
  | .bd .least => [109, 117]
  | .bd _ => [110, 117]
  | .pr .some n => [60, dg n, 62]
  | .pr _ n => [91, dg n, 93]
  | .nl b => if b = true then [116, 114, 117, 101] else [102, 97, 108, 115, 101]
  | .lf .has n => [112, dg n]
  | .lf .lacks n => [33, 112, dg n]
  | .lf .var n => [120, dg n]
abbrev Its := List (Option Tk)
def own : F → Nat
  | .nul _ => 4
  | .leaf _ _ => 4
  | .two b _ _ => if b = true then 2 else 1
  | .one k _ _ => if k.bind = true then 0 else 3
def wrap (t : F) (l : Its) (r : Nat) : Its := if own t < r then [some .lp] ++ l ++ [some .rp] else l
def body : F → Its
  | .nul b => [some (.nl b)]
  | .leaf k n => [some (.lf k n)]
  | .two b f g => if b = true then wrap f (body f) 2 ++ [none, some (.sg b), none] ++ wrap g (body g) 3 else wrap f (body f) 1 ++ [none, some (.sg b), none] ++ wrap g (body g) 2
  | .one k n f => if k.bind = true then [some (.bd k), none, some (.lf .var n), some .dot, none] ++ wrap f (body f) 0 else [some (.pr k n), none] ++ wrap f (body f) 3
def toks (l : Its) : List Tk := l.filterMap id
def flat (l : Its) : List Nat := l.flatMap fun o => match o with | none => [32] | some t => tx t
theorem toks_app (a b : Its) : toks (a ++ b) = toks a ++ toks b := List.filterMap_append
theorem flat_app (a b : Its) : flat (a ++ b) = flat a ++ flat b := List.flatMap_append
theorem wrap_zero (t : F) (l : Its) : wrap t l 0 = l := if_neg (Nat.not_lt_zero _)
/-! ### the reading -/
inductive Pd
  | lp
  | bd (k : One) (n : Int)
  | pr (k : One) (n : Int)
  | sg (b : Bool)
def Pd.str : Pd → Nat
  | .lp => 0
  | .bd _ _ => 0
  | .sg b => if b = true then 2 else 1
  | .pr _ _ => 3
def joinP (l : Nat) : List Pd → List F → Option (List Pd × List F)
  | [], O => some ([], O)
  | .lp :: S, O => some (.lp :: S, O)
  | .bd k n :: S, O => if l ≤ 0 then (match O with
    | f :: O => joinP l S (.one k n f :: O)
    | _ => none) else some (.bd k n :: S, O)
  | .pr k n :: S, O => if l ≤ 3 then (match O with
    | f :: O => joinP l S (.one k n f :: O)
    | _ => none) else some (.pr k n :: S, O)
  | .sg b :: S, O => if l ≤ (Pd.sg b).str then (match O with
    | g :: f :: O => joinP l S (.two b f g :: O)
    | _ => none) else some (.sg b :: S, O)
inductive Md | B | E | A
structure Ms where
  m : Md
  S : List Pd
  O : List F
  ts : List Tk
def notBd : List Tk → Bool
  | .bd _ :: _ => false
  | _ => true
inductive Step : Ms → Ms → Prop
  | bd {k : One} {n : Int} {S O ts} : k.bind = true → Step ⟨.B, S, O, .bd k :: .lf .var n :: .dot :: ts⟩ ⟨.B, .bd k n :: S, O, ts⟩
  | be {S O ts} : notBd ts = true → Step ⟨.B, S, O, ts⟩ ⟨.E, S, O, ts⟩
  | pr {k n S O ts} : k.bind = false → Step ⟨.E, S, O, .pr k n :: ts⟩ ⟨.E, .pr k n :: S, O, ts⟩
  | lp {S O ts} : Step ⟨.E, S, O, .lp :: ts⟩ ⟨.B, .lp :: S, O, ts⟩
  | nl {b S O ts S' O'} : joinP 3 S (.nul b :: O) = some (S', O') → Step ⟨.E, S, O, .nl b :: ts⟩ ⟨.A, S', O', ts⟩
  | lf {k n S O ts S' O'} : joinP 3 S (.leaf k n :: O) = some (S', O') → Step ⟨.E, S, O, .lf k n :: ts⟩ ⟨.A, S', O', ts⟩
  | rp {S O ts S1 O1 S' O'} : joinP 0 S O = some (.lp :: S1, O1) → joinP 3 S1 O1 = some (S', O') → Step ⟨.A, S, O, .rp :: ts⟩ ⟨.A, S', O', ts⟩
  | sg {b S O ts S' O'} : joinP (Pd.sg b).str S O = some (S', O') → Step ⟨.A, S, O, .sg b :: ts⟩ ⟨.E, .sg b :: S', O', ts⟩
inductive Run : Ms → Ms → Prop
  | refl {x} : Run x x
  | step {x y z} : Step x y → Run y z → Run x z
theorem Run.trans {x y z : Ms} (a : Run x y) (b : Run y z) : Run x z := by
  induction a with
  | refl => exact b
  | step s _ ih => exact .step s (ih b)
theorem join_join {l m : Nat} (h : l ≤ m) : ∀ (S : List Pd) (O : List F) {S' : List Pd} {O' : List F}, joinP m S O = some (S', O') → joinP l S' O' = joinP l S O
  | [], O, S', O', e => by cases e; rfl
  | .lp :: S, O, S', O', e => by cases e; rfl
  | .bd k n :: S, O, S', O', e => by
    simp only [joinP] at e
    split at e
    · rename_i c
      cases O with
      | nil => cases e
      | cons f O =>
        rw [join_join h S _ e]
        simp only [joinP]
        rw [if_pos (by omega)]
    · cases e; rfl
  | .pr k n :: S, O, S', O', e => by
    simp only [joinP] at e
    split at e
    · rename_i c
      cases O with
      | nil => cases e
      | cons f O =>
        rw [join_join h S _ e]
        simp only [joinP]
        rw [if_pos (by omega)]
    · cases e; rfl
  | .sg b :: S, O, S', O', e => by
    simp only [joinP] at e
    split at e
    · rename_i c
      cases O with
      | nil => cases e
      | cons g O =>
        cases O with
        | nil => cases e
        | cons f O =>
          rw [join_join h S _ e]
          simp only [joinP]
          rw [if_pos (by omega)]
    · cases e; rfl
theorem join3_ok : ∀ (S : List Pd) (t : F) (O : List F), ∃ S' O', joinP 3 S (t :: O) = some (S', O')
  | [], t, O => ⟨_, _, rfl⟩
  | .lp :: S, t, O => ⟨_, _, rfl⟩
  | .bd k n :: S, t, O => ⟨.bd k n :: S, t :: O, if_neg (by decide)⟩
  | .pr k n :: S, t, O => join3_ok S (.one k n t) O
  | .sg b :: S, t, O => ⟨.sg b :: S, t :: O, if_neg (by cases b <;> decide)⟩
/-- what is pending holds less strongly -/
def Ctx (r : Nat) : List Pd → Prop
  | [] => True
  | .lp :: _ => True
  | p :: _ => p.str < r
theorem join_ctx {r : Nat} : ∀ {S : List Pd} (O : List F), Ctx r S → joinP r S O = some (S, O)
  | [], O, _ => rfl
  | .lp :: _, O, _ => rfl
  | .bd k n :: S, O, h => if_neg (by have : (0 : Nat) < r := h; omega)
  | .pr k n :: S, O, h => if_neg (by have : (3 : Nat) < r := h; omega)
  | .sg b :: S, O, h => if_neg (by have : (Pd.sg b).str < r := h; omega)
theorem Ctx.mono {r q : Nat} (h : r ≤ q) : ∀ {S : List Pd}, Ctx r S → Ctx q S
  | [], _ => trivial
  | .lp :: _, _ => trivial
  | .bd k n :: S, c => Nat.lt_of_lt_of_le c h
  | .pr k n :: S, c => Nat.lt_of_lt_of_le c h
  | .sg b :: S, c => Nat.lt_of_lt_of_le c h
theorem wrap_notBd {t : F} {l : Its} {r : Nat} (h : ∀ ts, 0 < own t → notBd (toks l ++ ts) = true) (hr : 0 < r) (ts : List Tk) : notBd (toks (wrap t l r) ++ ts) = true := by
  unfold wrap
  by_cases c : own t < r
  · rw [if_pos c]
    rfl
  · rw [if_neg c]
    exact h ts (by omega)
theorem body_notBd : ∀ (t : F) (ts : List Tk), 0 < own t → notBd (toks (body t) ++ ts) = true
  | .nul b, ts, _ => rfl
  | .leaf k n, ts, _ => rfl
  | .two b f g, ts, _ => by
    have ih := fun ts => body_notBd f ts
    cases b
    · show notBd (toks (wrap f (body f) 1 ++ [none, some (.sg false), none] ++ wrap g (body g) 2) ++ ts) = true
      rw [toks_app, toks_app, List.append_assoc, List.append_assoc]
      exact wrap_notBd (fun ts h => body_notBd f ts h) (by decide) _
    · show notBd (toks (wrap f (body f) 2 ++ [none, some (.sg true), none] ++ wrap g (body g) 3) ++ ts) = true
      rw [toks_app, toks_app, List.append_assoc, List.append_assoc]
      exact wrap_notBd (fun ts h => body_notBd f ts h) (by decide) _
  | .one k n f, ts, h => by
    cases k with
    | some => rfl
    | all => rfl
    | least => cases h
    | most => cases h
/-- read unwrapped, where an operand is due -/
def RA (t : F) : Prop := 0 < own t → ∀ (r : Nat) (S : List Pd) (O : List F) (rest : List Tk), r ≤ own t → (3 ≤ r ∨ Ctx r S) →
  ∃ S' O', Run ⟨.E, S, O, toks (body t) ++ rest⟩ ⟨.A, S', O', rest⟩ ∧ ∀ l, l ≤ 3 → l ≤ own t → joinP l S' O' = joinP l S (t :: O)
/-- read where binders may stand -/
def RB (t : F) : Prop := ∀ (S : List Pd) (O : List F) (rest : List Tk), Ctx 1 S → ∃ S' O', Run ⟨.B, S, O, toks (body t) ++ rest⟩ ⟨.A, S', O', rest⟩ ∧ joinP 0 S' O' = joinP 0 S (t :: O)
theorem rw_of {t : F} (a : RA t) (b : RB t) (r : Nat) (hr : 0 < r) (S : List Pd) (O : List F) (rest : List Tk) (c : 3 ≤ r ∨ Ctx r S) :
    ∃ S' O', Run ⟨.E, S, O, toks (wrap t (body t) r) ++ rest⟩ ⟨.A, S', O', rest⟩ ∧ ∀ l, l ≤ 3 → l ≤ r → joinP l S' O' = joinP l S (t :: O) := by
  unfold wrap
  by_cases h : own t < r
  · rw [if_pos h, toks_app, toks_app, List.append_assoc, List.append_assoc]
    obtain ⟨S1, O1, r1, j1⟩ := b (.lp :: S) O (.rp :: rest) trivial
    obtain ⟨S2, O2, j2⟩ := join3_ok S t O
    refine ⟨S2, O2, .step .lp (r1.trans (.step (.rp (j1.trans rfl) j2) .refl)), fun l hl _ => join_join hl _ _ j2⟩
  · rw [if_neg h]
    obtain ⟨S1, O1, r1, j1⟩ := a (by omega) r S O rest (by omega) c
    exact ⟨S1, O1, r1, fun l h1 h2 => j1 l h1 (by omega)⟩
theorem read_both : ∀ t : F, RA t ∧ RB t
  | .nul b => by
    have a : RA (.nul b) := fun _ r S O rest _ _ => by
      obtain ⟨S2, O2, j2⟩ := join3_ok S (.nul b) O
      exact ⟨S2, O2, .step (.nl j2) .refl, fun l hl _ => join_join hl _ _ j2⟩
    refine ⟨a, fun S O rest c => ?_⟩
    obtain ⟨S1, O1, r1, j1⟩ := a (Nat.succ_pos 3) 1 S O rest (Nat.le_add_left 1 3) (.inr c)
    exact ⟨S1, O1, .step (.be rfl) r1, j1 0 (by decide) (Nat.zero_le _)⟩
  | .leaf k n => by
    have a : RA (.leaf k n) := fun _ r S O rest _ _ => by
      obtain ⟨S2, O2, j2⟩ := join3_ok S (.leaf k n) O
      exact ⟨S2, O2, .step (.lf j2) .refl, fun l hl _ => join_join hl _ _ j2⟩
    refine ⟨a, fun S O rest c => ?_⟩
    obtain ⟨S1, O1, r1, j1⟩ := a (Nat.succ_pos 3) 1 S O rest (Nat.le_add_left 1 3) (.inr c)
    exact ⟨S1, O1, .step (.be rfl) r1, j1 0 (by decide) (Nat.zero_le _)⟩
  | .two b f g => by
    obtain ⟨fa, fb⟩ := read_both f
    obtain ⟨ga, gb⟩ := read_both g
    have so : (Pd.sg b).str = own (.two b f g) := rfl
    have o1 : 0 < own (.two b f g) ∧ own (.two b f g) ≤ 2 := by simp only [own]; cases b <;> simp
    have eb : body (.two b f g) = wrap f (body f) (own (.two b f g)) ++ [none, some (.sg b), none] ++ wrap g (body g) (own (.two b f g) + 1) := by cases b <;> rfl
    have a : RA (.two b f g) := fun _ r S O rest hr c => by
      have c' : Ctx (own (.two b f g)) S := c.elim (fun z => by omega) fun z => z.mono hr
      rw [eb, toks_app, toks_app, List.append_assoc, List.append_assoc]
      obtain ⟨S1, O1, r1, j1⟩ := rw_of fa fb (own (.two b f g)) o1.1 S O (toks [none, some (.sg b), none] ++ (toks (wrap g (body g) (own (.two b f g) + 1)) ++ rest)) (.inr c')
      have js : joinP (Pd.sg b).str S1 O1 = some (S, f :: O) := by rw [so, j1 _ (by omega) (Nat.le_refl _), join_ctx _ c']
      obtain ⟨S2, O2, r2, j2⟩ := rw_of ga gb (own (.two b f g) + 1) (by omega) (.sg b :: S) (f :: O) rest (.inr (by show (Pd.sg b).str < _; rw [so]; omega))
      refine ⟨S2, O2, r1.trans (.step (.sg js) r2), fun l h1 h2 => ?_⟩
      rw [j2 l h1 (by omega)]
      simp only [joinP]
      rw [if_pos (by rw [so]; exact h2)]
    refine ⟨a, fun S O rest c => ?_⟩
    obtain ⟨S1, O1, r1, j1⟩ := a o1.1 1 S O rest o1.1 (.inr c)
    exact ⟨S1, O1, .step (.be (body_notBd _ _ o1.1)) r1, j1 0 (by decide) (by omega)⟩
  | .one k n f => by
    obtain ⟨fa, fb⟩ := read_both f
    by_cases hk : k.bind = true
    · have o0 : own (.one k n f) = 0 := if_pos hk
      refine ⟨fun h => absurd h (by omega), fun S O rest c => ?_⟩
      have eb : body (.one k n f) = [some (.bd k), none, some (.lf .var n), some .dot, none] ++ body f := by rw [body, if_pos hk, wrap_zero]
      rw [eb, toks_app, List.append_assoc]
      obtain ⟨S1, O1, r1, j1⟩ := fb (.bd k n :: S) O rest (by show (0 : Nat) < 1; decide)
      exact ⟨S1, O1, .step (.bd hk) r1, j1.trans rfl⟩
    · have hk' : k.bind = false := Bool.eq_false_iff.mpr hk
      have o3 : own (.one k n f) = 3 := if_neg hk
      have eb : body (.one k n f) = [some (.pr k n), none] ++ wrap f (body f) 3 := by rw [body, if_neg hk]
      have a : RA (.one k n f) := fun _ r S O rest hr c => by
        rw [eb, toks_app, List.append_assoc]
        obtain ⟨S1, O1, r1, j1⟩ := rw_of fa fb 3 (by decide) (.pr k n :: S) O rest (.inl (Nat.le_refl 3))
        refine ⟨S1, O1, .step (.pr hk') r1, fun l h1 h2 => ?_⟩
        rw [j1 l h1 h1]
        simp only [joinP]
        rw [if_pos h1]
      refine ⟨a, fun S O rest c => ?_⟩
      obtain ⟨S1, O1, r1, j1⟩ := a (by omega) 1 S O rest (by omega) (.inr c)
      exact ⟨S1, O1, .step (.be (body_notBd _ _ (by omega))) r1, j1 0 (by decide) (by omega)⟩
/-- the whole text is read as the statement -/
theorem read_all (t : F) : ∃ S' O', Run ⟨.B, [], [], toks (wrap t (body t) 0)⟩ ⟨.A, S', O', []⟩ ∧ joinP 0 S' O' = some ([], [t]) := by
  obtain ⟨S', O', r, j⟩ := (read_both t).2 [] [] [] trivial
  rw [List.append_nil] at r
  rw [wrap_zero]
  exact ⟨S', O', r, j⟩
end Fw

/-! Texts of tokens with spaces between them. Pure mathematics. -/
namespace Fw
/-- tokens one behind the other, spaces between them -/
inductive Laid : List Tk → List Nat → Prop
  | nil (b : Nat) : Laid [] (List.replicate b 32)
  | cons (b : Nat) {t : Tk} {ts : List Tk} {l : List Nat} : Laid ts l → Laid (t :: ts) (List.replicate b 32 ++ (tx t ++ l))
theorem Laid.sp {ts : List Tk} {l : List Nat} (h : Laid ts l) : Laid ts (32 :: l) := by
  cases h with
  | nil b => exact .nil (b + 1)
  | cons b h => exact .cons (b + 1) h
theorem Laid.sps {ts : List Tk} {l : List Nat} (b : Nat) (h : Laid ts l) : Laid ts (List.replicate b 32 ++ l) := by
  induction b with
  | zero => exact h
  | succ b ih => exact ih.sp
theorem laid_flat : ∀ l : Its, Laid (toks l) (flat l)
  | [] => .nil 0
  | none :: l => (laid_flat l).sp
  | some t :: l => .cons 0 (laid_flat l)
/-- the numbers in a token have one digit -/
def TkOk : Tk → Prop
  | .pr _ n => 0 ≤ n ∧ n < 3
  | .lf .var n => n ∈ V4
  | .lf _ n => 0 ≤ n ∧ n < 6
  | _ => True
def isBr (c : Nat) : Bool := c == 40 || c == 41 || c == 38 || c == 124
/-- a text with other spaces: each space may become any number of them; behind ( ) & | there may be more -/
inductive Vary : List Nat → List Nat → Prop
  | nil : Vary [] []
  | sp (b : Nat) {l l' : List Nat} : Vary l l' → Vary (32 :: l) (List.replicate b 32 ++ l')
  | ch {c b : Nat} {l l' : List Nat} : c ≠ 32 → (b = 0 ∨ isBr c = true) → Vary l l' → Vary (c :: l) (c :: (List.replicate b 32 ++ l'))
theorem Vary.app {a a' : List Nat} (h : Vary a a') {b b' : List Nat} (k : Vary b b') : Vary (a ++ b) (a' ++ b') := by
  induction h with
  | nil => exact k
  | sp n _ ih => rw [List.append_assoc]; exact .sp n ih
  | ch h1 h2 _ ih =>
    show Vary _ (_ :: ((_ ++ _) ++ _))
    rw [List.append_assoc]
    exact .ch h1 h2 ih
theorem vary_plain : ∀ (w : List Nat) {l l' : List Nat}, (∀ c ∈ w, c ≠ 32 ∧ isBr c = false) → Vary (w ++ l) l' → ∃ l2, l' = w ++ l2 ∧ Vary l l2
  | [], l, l', _, h => ⟨l', rfl, h⟩
  | c :: w, l, l', hw, h => by
    have hc := hw c (List.mem_cons_self)
    cases h with
    | sp b k => exact absurd rfl hc.1
    | ch h1 h2 k =>
      rename_i b l3
      have : b = 0 := h2.resolve_right fun z => by rw [hc.2] at z; cases z
      subst this
      obtain ⟨l2, e, k2⟩ := vary_plain w (fun c hm => hw c (List.mem_cons_of_mem _ hm)) k
      exact ⟨l2, by rw [List.replicate_zero, List.nil_append, e]; rfl, k2⟩
theorem tx_plain {t : Tk} (ok : TkOk t) : (∃ c, tx t = [c] ∧ c ≠ 32) ∨ ∀ c ∈ tx t, c ≠ 32 ∧ isBr c = false := by
  have dig : ∀ n : Int, 0 ≤ n → n < 9 → dg n ≠ 32 ∧ isBr (dg n) = false := fun n h0 h9 => by
    have : n = 0 ∨ n = 1 ∨ n = 2 ∨ n = 3 ∨ n = 4 ∨ n = 5 ∨ n = 6 ∨ n = 7 ∨ n = 8 := by omega
    rcases this with rfl | rfl | rfl | rfl | rfl | rfl | rfl | rfl | rfl <;> decide
  cases t with
  | lp => exact .inl ⟨_, rfl, by decide⟩
  | rp => exact .inl ⟨_, rfl, by decide⟩
  | dot => exact .inl ⟨_, rfl, by decide⟩
  | sg b => cases b <;> exact .inl ⟨_, rfl, by decide⟩
  | bd k => cases k <;> exact .inr (by decide)
  | nl b => cases b <;> exact .inr (by decide)
  | pr k n =>
    have d := dig n ok.1 (by have := ok.2; omega)
    refine .inr fun c hc => ?_
    cases k <;> simp only [tx, List.mem_cons, List.not_mem_nil, or_false] at hc <;> rcases hc with rfl | rfl | rfl <;> first | exact d | decide
  | lf k n =>
    have d : dg n ≠ 32 ∧ isBr (dg n) = false := by
      cases k with
      | var =>
        have ok' : n ∈ V4 := ok
        simp only [List.mem_cons, List.not_mem_nil, or_false] at ok'
        exact dig n (by omega) (by omega)
      | has => exact dig n ok.1 (by have := ok.2; omega)
      | lacks => exact dig n ok.1 (by have := ok.2; omega)
    refine .inr fun c hc => ?_
    cases k <;> simp only [tx, List.mem_cons, List.not_mem_nil, or_false] at hc
    · rcases hc with rfl | rfl
      · decide
      · exact d
    · rcases hc with rfl | rfl | rfl
      · decide
      · decide
      · exact d
    · rcases hc with rfl | rfl
      · decide
      · exact d
theorem laid_vary : ∀ (l : Its) {l' : List Nat}, (∀ t ∈ toks l, TkOk t) → Vary (flat l) l' → Laid (toks l) l'
  | [], l', _, h => by
    cases h
    exact .nil 0
  | none :: l, l', ok, h => by
    cases (show Vary (32 :: flat l) l' from h) with
    | sp b k => exact (laid_vary l ok k).sps b
    | ch h1 _ _ => exact absurd rfl h1
  | some t :: l, l', ok, h => by
    have ok' : ∀ u ∈ toks l, TkOk u := fun u hu => ok u (List.mem_cons_of_mem _ hu)
    have h' : Vary (tx t ++ flat l) l' := h
    rcases tx_plain (ok t List.mem_cons_self) with ⟨c, e, hc⟩ | pl
    · rw [e] at h'
      cases (show Vary (c :: flat l) l' from h') with
      | sp b k => exact absurd rfl hc
      | ch h1 h2 k =>
        rename_i b l3
        have := Laid.cons 0 (t := t) ((laid_vary l ok' k).sps b)
        rw [e] at this
        exact this
    · obtain ⟨l2, rfl, k⟩ := vary_plain (tx t) pl h'
      exact .cons 0 (laid_vary l ok' k)
/-- what begins there is no digit -/
theorem laid_head {ts : List Tk} {l : List Nat} (h : Laid ts l) : ∀ c l', l = c :: l' → ¬ (48 ≤ c ∧ c ≤ 57) := by
  intro c l' e z
  have tok : ∀ (t : Tk) (r : List Nat), tx t ++ r = c :: l' → False := fun t r e => by
    cases t with
    | lp => cases e; omega
    | rp => cases e; omega
    | dot => cases e; omega
    | sg b => cases b <;> (cases e; omega)
    | bd k => cases k <;> (cases e; omega)
    | nl b => cases b <;> (cases e; omega)
    | pr k n => cases k <;> (cases e; omega)
    | lf k n => cases k <;> (cases e; omega)
  cases h with
  | nil b =>
    cases b with
    | zero => cases e
    | succ b => cases e; omega
  | cons b h =>
    cases b with
    | zero => exact tok _ _ e
    | succ b => cases e; omega
/-! ### the tokens' table -/
def TKS : List Tk := [.nl true, .nl false, .bd .least, .bd .most, .sg true, .sg false, .dot, .lp, .rp, .lf .has 0, .lf .has 1, .lf .has 2, .lf .has 3, .lf .has 4, .lf .has 5,
  .lf .lacks 0, .lf .lacks 1, .lf .lacks 2, .lf .lacks 3, .lf .lacks 4, .lf .lacks 5, .pr .some 0, .pr .some 1, .pr .some 2, .pr .all 0, .pr .all 1, .pr .all 2]
def isVar : Tk → Bool
  | .lf .var _ => true
  | _ => false
/-- a token of the table: at its place, and no earlier one begins the text -/
theorem first_tok {t : Tk} (h : t ∈ TKS) (l : List Nat) : ∃ i : Nat, TKS[i]? = some t ∧ ∀ j < i, ∀ u, TKS[j]? = some u → (tx u).isPrefixOf (tx t ++ l) = false := by
  have key : ∀ i : Nat, ∀ t, TKS[i]? = some t → ∀ j < i, ∀ u, TKS[j]? = some u → (tx u).isPrefixOf (tx t ++ l) = false := by
    have e : ∀ (n : Nat), n < 27 → ∀ t, TKS[n]? = some t → ∀ m < n, ∀ u, TKS[m]? = some u → (tx u).isPrefixOf (tx t) = false ∧ (tx t).isPrefixOf (tx u) = false := by
      intro n hn t ht m hm u hu
      have hd : ∀ n < 27, ∀ m < n, ((TKS[m]?.map tx).getD []).isPrefixOf ((TKS[n]?.map tx).getD []) = false ∧ ((TKS[n]?.map tx).getD []).isPrefixOf ((TKS[m]?.map tx).getD []) = false := by decide +kernel
      have := hd n hn m hm
      rw [ht, hu] at this
      exact this
    have pre : ∀ (a b r : List Nat), a.isPrefixOf b = false → b.isPrefixOf a = false → a.isPrefixOf (b ++ r) = false := by
      intro a
      induction a with
      | nil => intro b r h1 h2; simp at h1
      | cons x a ih =>
        intro b r h1 h2
        cases b with
        | nil => simp at h2
        | cons y b =>
          simp only [List.cons_append, List.isPrefixOf, Bool.and_eq_false_iff] at h1 h2 ⊢
          by_cases c : (x == y) = true
          · refine .inr (ih b r ?_ ?_)
            · exact h1.resolve_left (by rw [c]; exact Bool.noConfusion)
            · refine h2.resolve_left (fun z => ?_)
              rw [beq_iff_eq] at c
              rw [c, beq_self_eq_true] at z
              cases z
          · exact .inl (Bool.eq_false_iff.mpr c)
    intro i t ht j hj u hu
    have hi : i < 27 := (List.getElem?_eq_some_iff.mp ht).1
    have := e i hi t ht j hj u hu
    exact pre _ _ l this.1 this.2
  obtain ⟨i, hi, e⟩ := List.getElem_of_mem h
  exact ⟨i, by rw [List.getElem?_eq_getElem hi, e], key i t (by rw [List.getElem?_eq_getElem hi, e])⟩
theorem no_tok (l : List Nat) : ∀ u ∈ TKS, (tx u).isPrefixOf (120 :: l) = false := by
  have : ∀ u ∈ TKS, ∃ c r, tx u = c :: r ∧ (c == 120) = false := by
    intro u hu
    have h : ∀ i < 27, ∃ c r, ((TKS[i]?.map tx).getD []) = c :: r ∧ (c == 120) = false := by
      intro i hi
      have : ∀ i < 27, (((TKS[i]?.map tx).getD []).head?.map fun c => c == 120) = some false := by decide +kernel
      have h := this i hi
      cases e : (TKS[i]?.map tx).getD [] with
      | nil => rw [e] at h; cases h
      | cons c r => rw [e] at h; exact ⟨c, r, rfl, Option.some.inj h⟩
    obtain ⟨i, hi, e⟩ := List.getElem_of_mem hu
    obtain ⟨c, r, h1, h2⟩ := h i hi
    rw [List.getElem?_eq_getElem hi, e] at h1
    exact ⟨c, r, h1, h2⟩
  intro u hu
  obtain ⟨c, r, e, h⟩ := this u hu
  rw [e]
  simp only [List.isPrefixOf, h, Bool.false_and]
theorem mem_tks {t : Tk} (ok : TkOk t) (nv : isVar t = false) (hb : ∀ k, t = .bd k → k.bind = true) (hp : ∀ k n, t = .pr k n → k.bind = false) : t ∈ TKS := by
  unfold TKS
  cases t with
  | lp => simp
  | rp => simp
  | dot => simp
  | sg b => cases b <;> simp
  | nl b => cases b <;> simp
  | bd k =>
    have := hb k rfl
    cases k with
    | some => cases this
    | all => cases this
    | least => simp
    | most => simp
  | pr k n =>
    have z := hp k n rfl
    have : n = 0 ∨ n = 1 ∨ n = 2 := by have := ok.1; have := ok.2; omega
    cases k with
    | some => rcases this with rfl | rfl | rfl <;> simp
    | all => rcases this with rfl | rfl | rfl <;> simp
    | least => cases z
    | most => cases z
  | lf k n =>
    cases k with
    | var => cases nv
    | has =>
      have : n = 0 ∨ n = 1 ∨ n = 2 ∨ n = 3 ∨ n = 4 ∨ n = 5 := by have := ok.1; have := ok.2; omega
      rcases this with rfl | rfl | rfl | rfl | rfl | rfl <;> simp
    | lacks =>
      have : n = 0 ∨ n = 1 ∨ n = 2 ∨ n = 3 ∨ n = 4 ∨ n = 5 := by have := ok.1; have := ok.2; omega
      rcases this with rfl | rfl | rfl | rfl | rfl | rfl <;> simp
/-- the tokens of a drawn statement -/
structure TkGood (t : Tk) : Prop where
  ok : TkOk t
  bd : ∀ k, t = .bd k → k.bind = true
  pr : ∀ k n, t = .pr k n → k.bind = false
theorem toks_wrap {t : F} {l : Its} {r : Nat} (h : ∀ u ∈ toks l, TkGood u) : ∀ u ∈ toks (wrap t l r), TkGood u := by
  unfold wrap
  split
  · intro u hu
    rw [toks_app, toks_app] at hu
    rcases List.mem_append.mp hu with hu | hu
    · rcases List.mem_append.mp hu with hu | hu
      · rw [List.mem_singleton.mp (show u ∈ [Tk.lp] from hu)]
        exact ⟨trivial, fun k e => (by cases e), fun k n e => (by cases e)⟩
      · exact h u hu
    · rw [List.mem_singleton.mp (show u ∈ [Tk.rp] from hu)]
      exact ⟨trivial, fun k e => (by cases e), fun k n e => (by cases e)⟩
  · exact h
theorem good_body : ∀ (t : F), Ok t → ∀ u ∈ toks (body t), TkGood u
  | .nul b, _, u, hu => by
    rw [List.mem_singleton.mp (show u ∈ [Tk.nl b] from hu)]
    exact ⟨trivial, fun k e => (by cases e), fun k n e => (by cases e)⟩
  | .leaf k n, ok, u, hu => by
    rw [List.mem_singleton.mp (show u ∈ [Tk.lf k n] from hu)]
    refine ⟨?_, fun k e => (by cases e), fun k n e => (by cases e)⟩
    cases k with
    | var => exact ok
    | has => exact ⟨ok.1, by have := ok.2; omega⟩
    | lacks => exact ⟨ok.1, by have := ok.2; omega⟩
  | .two b f g, ok, u, hu => by
    have hf := good_body f ok.1
    have hg := good_body g ok.2
    have key : ∀ r q, u ∈ toks (wrap f (body f) r ++ [none, some (.sg b), none] ++ wrap g (body g) q) → TkGood u := fun r q hu => by
      rw [toks_app, toks_app] at hu
      rcases List.mem_append.mp hu with hu | hu
      · rcases List.mem_append.mp hu with hu | hu
        · exact toks_wrap hf u hu
        · rw [List.mem_singleton.mp (show u ∈ [Tk.sg b] from hu)]
          exact ⟨trivial, fun k e => (by cases e), fun k n e => (by cases e)⟩
      · exact toks_wrap hg u hu
    cases b
    · exact key 1 2 hu
    · exact key 2 3 hu
  | .one k n f, ok, u, hu => by
    have hf := good_body f ok.2
    by_cases hk : k.bind = true
    · rw [body, if_pos hk, toks_app] at hu
      rcases List.mem_append.mp hu with hu | hu
      · have hu' : u ∈ [Tk.bd k, Tk.lf .var n, Tk.dot] := hu
        have okn := ok.1
        rw [if_pos hk] at okn
        simp only [List.mem_cons, List.not_mem_nil, or_false] at hu'
        rcases hu' with rfl | rfl | rfl
        · exact ⟨trivial, fun k' e => (by cases e; exact hk), fun k n e => (by cases e)⟩
        · exact ⟨okn, fun k e => (by cases e), fun k n e => (by cases e)⟩
        · exact ⟨trivial, fun k e => (by cases e), fun k n e => (by cases e)⟩
      · exact toks_wrap hf u hu
    · rw [body, if_neg hk, toks_app] at hu
      rcases List.mem_append.mp hu with hu | hu
      · rw [List.mem_singleton.mp (show u ∈ [Tk.pr k n] from hu)]
        have okn := ok.1
        rw [if_neg hk] at okn
        exact ⟨⟨okn.1, by have := okn.2; omega⟩, fun k e => (by cases e), fun k' n' e => (by cases e; exact Bool.eq_false_iff.mpr hk)⟩
      · exact toks_wrap hf u hu
end Fw

set_option maxRecDepth 100000
set_option maxHeartbeats 2000000
/-! Rules of mine: spaces repeated; a written dict asked with a default. -/
namespace Fw
open PySem PySem.Spec PyProof.Rows L2
def sL (l : List Nat) : Str := ⟨l.toArray⟩
theorem sL_app (a b : List Nat) : sL a ++ sL b = sL (a ++ b) := by
  show Str.mk _ = Str.mk _
  rw [← List.toArray_appendList]
  simp [sL]
theorem sL_len (a : List Nat) : (sL a).length = a.length := by
  show a.toArray.size = _
  simp
theorem fold_sp : ∀ (k : Nat) (acc : Array Nat), (List.replicate k (#[32] : Array Nat)).foldl (· ++ ·) acc = acc ++ (List.replicate k 32).toArray
  | 0, acc => by simp
  | k + 1, acc => by
    rw [List.replicate_succ, List.foldl_cons, fold_sp k, List.replicate_succ]
    apply Array.toList_inj.mp
    simp
section
variable {X : Cx}
theorem op_mul_sp : OpR X (binaryOp .Mult) (fun x y H Q => ∃ n : Int, x = .str (sL [32]) ∧ y = .int n ∧ 0 ≤ n ∧ n ≤ 1000 ∧ Q (.str (sL (List.replicate n.toNat 32))) H) := by
  intro pins s σ H x y v u Q I rx ry h
  obtain ⟨n, rfl, rfl, h0, h1, q⟩ := h
  obtain ⟨t, rfl⟩ := rx
  obtain ⟨t', rfl⟩ := ry
  refine PySem.P.mul_str ?_ ?_ ?_ ?_
  · rw [decide_eq_false (by omega), decide_eq_false (by omega)]
    rfl
  · intro a _ b
    have e : ((sL [32]).length : Int) = 1 := rfl
    rw [e] at b
    have : (1 : Int) ≤ (2 ^ 63 - 1) / n := by
      rw [Int.le_ediv_iff_mul_le (by omega)]
      omega
    omega
  · intro a _
    have e : (sL [32]).length = 1 := rfl
    rw [e]
    have : (1 * n.toNat) ≤ 1000 := by omega
    have z : 1000 ≤ sizeLine := by decide
    exact decide_eq_false (by omega)
  · by_cases c : n < 1
    · rw [if_pos c]
      have : n = 0 := by omega
      subst this
      exact ⟨by decide, ⟨.str (sL (List.replicate (Int.toNat 0) 32)), H, I.tok _, ⟨_, rfl⟩, q⟩⟩
    · rw [if_neg c]
      by_cases c2 : n = 1
      · subst c2
        rw [if_pos (by decide)]
        exact ⟨.str (sL [32]), H, I, ⟨_, rfl⟩, q⟩
      · rw [if_neg (by
          have e : (sL [32]).length = 1 := rfl
          rw [e, beq_eq_false_iff_ne.mpr c2]
          decide)]
        have e : (⟨(List.replicate n.toNat (sL [32]).cps).foldl (· ++ ·) #[]⟩ : Str) = sL (List.replicate n.toNat 32) := by
          show Str.mk _ = Str.mk _
          congr 1
          rw [show (sL [32]).cps = #[32] from rfl, fold_sp]
          simp
        rw [e]
        exact ⟨by rw [sL_len, List.length_replicate]; have z : 1000 ≤ sizeLine := by decide
                  omega, ⟨.str (sL (List.replicate n.toNat 32)), H, I.tok _, ⟨_, rfl⟩, q⟩⟩
def tKGet (K : PySem.W.Frag) (w : World) (td ty tx : TE) : TE := fun σ H Q => td σ H fun x H1 => ∃ a es n, x = .ref a ∧ KDict K w a es n ∧ ty σ H1 fun y H2 => tx σ H2 fun z H3 =>
  ∃ (k : Str), y = .str k ∧ ((∃ u v, PySem.W.nsIn K a k = some (some u) ∧ RelV v u ∧ Q v H3) ∨ (PySem.W.nsIn K a k = some none ∧ Q z H3))
theorem pe_kget {o e f : Expr} {apos cpos : Pos} {td ty tx : TE} (ho : PE X o td) (he : PE X e ty) (hf : PE X f tx) (m : M2 X o "get" apos e f cpos) : PE X (.Call (.Attribute o "get" apos) [e, f] [] cpos) (tKGet X.K X.w td ty tx) := by
  refine ⟨fun pins s σ H Q I h => ?_⟩
  refine wpAny_Call_method m.base m.few m.line PySem.F.plainAttrs_dict PySem.F.slot_dict_get PySem.F.type_dict_get (thn (ho.run pins s σ H _ I h) fun u s1 ⟨x, H1, I1, rx, a, es, n, ex, D, q1⟩ => ?_)
  subst ex
  obtain rfl : u = Value.ref a := rx
  have hm1 := PySem.W.mapOf_K (prog := X.prog) (w := X.w) I1.kIn D.at_ D.lit
  refine ⟨hm1.typeIs, fun b q => ?_, ?_⟩
  · cases q
    exact ⟨_, I1.kIn _ _ D.at_, rfl⟩
  rw [m.trees]
  refine Calls.callWith_builtin rfl (Calls.evalArgs_plain (Calls.spliced_cons (thn (he.run pins s1 σ H1 _ I1 q1) fun iv s2 ⟨y, H2, I2, ry, q2⟩ =>
    Calls.spliced_cons (thn (hf.run pins s2 σ H2 _ I2 q2) fun fv s3 ⟨z, H3, I3, rz, k, ey, q3⟩ => Calls.spliced_nil ?_))))
  subst ey
  obtain ⟨t, rfl⟩ := ry
  have hm := PySem.W.mapOf_K (prog := X.prog) (w := X.w) I3.kIn D.at_ D.lit
  refine call_meetsIn PySem.F.slot_dict_get hm.typeIs PySem.F.entry_dict_get (PySem.F.args_dict_get_3 _ _ _) (meets_dict_get_default (strKind X.prog X.w) a (PySem.strKind_is X.prog X.w k t) D.low fv) ⟨_, hm, ?_⟩
  rcases q3 with ⟨u, v, e1, rv, q3⟩ | ⟨e1, q3⟩
  · rw [PySem.W.find_K D.at_ e1]
    exact ⟨v, H3, I3.tok _, rv, q3⟩
  · rw [PySem.W.find_K D.at_ e1]
    exact ⟨z, H3, I3.tok _, rz, q3⟩
end
end Fw

/-! What a token tells of the step to come. Pure mathematics. -/
namespace Fw
theorem runB {S : List Pd} {O : List F} {ts : List Tk} {S' : List Pd} {O' : List F} (h : Run ⟨.B, S, O, ts⟩ ⟨.A, S', O', []⟩) :
    (∃ k n r, ts = .bd k :: .lf .var n :: .dot :: r ∧ k.bind = true ∧ Run ⟨.B, .bd k n :: S, O, r⟩ ⟨.A, S', O', []⟩) ∨ (notBd ts = true ∧ Run ⟨.E, S, O, ts⟩ ⟨.A, S', O', []⟩) := by
  cases h with
  | step s r =>
    cases s with
    | bd hk => exact .inl ⟨_, _, _, rfl, hk, r⟩
    | be hn => exact .inr ⟨hn, r⟩
theorem runE {S : List Pd} {O : List F} {ts : List Tk} {S' : List Pd} {O' : List F} (h : Run ⟨.E, S, O, ts⟩ ⟨.A, S', O', []⟩) :
    (∃ k n r, ts = .pr k n :: r ∧ k.bind = false ∧ Run ⟨.E, .pr k n :: S, O, r⟩ ⟨.A, S', O', []⟩) ∨ (∃ r, ts = .lp :: r ∧ Run ⟨.B, .lp :: S, O, r⟩ ⟨.A, S', O', []⟩) ∨
    (∃ b r S1 O1, ts = .nl b :: r ∧ joinP 3 S (.nul b :: O) = some (S1, O1) ∧ Run ⟨.A, S1, O1, r⟩ ⟨.A, S', O', []⟩) ∨
    (∃ k n r S1 O1, ts = .lf k n :: r ∧ joinP 3 S (.leaf k n :: O) = some (S1, O1) ∧ Run ⟨.A, S1, O1, r⟩ ⟨.A, S', O', []⟩) := by
  cases h with
  | step s r =>
    cases s with
    | pr hk => exact .inl ⟨_, _, _, rfl, hk, r⟩
    | lp => exact .inr (.inl ⟨_, rfl, r⟩)
    | nl hj => exact .inr (.inr (.inl ⟨_, _, _, _, rfl, hj, r⟩))
    | lf hj => exact .inr (.inr (.inr ⟨_, _, _, _, _, rfl, hj, r⟩))
theorem runA {S : List Pd} {O : List F} {ts : List Tk} {S' : List Pd} {O' : List F} (h : Run ⟨.A, S, O, ts⟩ ⟨.A, S', O', []⟩) :
    (ts = [] ∧ S = S' ∧ O = O') ∨ (∃ r S1 O1 S2 O2, ts = .rp :: r ∧ joinP 0 S O = some (.lp :: S1, O1) ∧ joinP 3 S1 O1 = some (S2, O2) ∧ Run ⟨.A, S2, O2, r⟩ ⟨.A, S', O', []⟩) ∨
    (∃ b r S1 O1, ts = .sg b :: r ∧ joinP (Pd.sg b).str S O = some (S1, O1) ∧ Run ⟨.E, .sg b :: S1, O1, r⟩ ⟨.A, S', O', []⟩) := by
  cases h with
  | refl => exact .inl ⟨rfl, rfl, rfl⟩
  | step s r =>
    cases s with
    | rp h1 h2 => exact .inr (.inl ⟨_, _, _, _, _, rfl, h1, h2, r⟩)
    | sg hj => exact .inr (.inr ⟨_, _, _, _, rfl, hj, r⟩)
end Fw

set_option maxRecDepth 100000
set_option maxHeartbeats 2000000
namespace Fw
open PySem PySem.Spec PyProof.Rows L2
/-! ### the text by places -/
def top (i : Nat) : Stmt := PySem.Challenge.pw_fixworlds_k05_texts.main.body.getD i (.Pass ⟨0, 0, 0, 0⟩)
abbrev s_StatementSyntaxError_init : Stmt := inClass (top 2) 0
abbrev s_Part_init : Stmt := inClass (top 5) 0
abbrev s_head_of : Stmt := top 6
abbrev s_parts_of : Stmt := top 7
abbrev s_format_statement : Stmt := top 20
abbrev s_atom_text : Stmt := top 21
abbrev s_prefix_text : Stmt := top 22
abbrev s_join_text : Stmt := top 23
abbrev s_enclosed : Stmt := top 24
abbrev s_parse_statement : Stmt := top 25
abbrev s_token_at : Stmt := top 26
abbrev s_variable_at : Stmt := top 27
abbrev s_Reader_init : Stmt := inClass (top 28) 0
abbrev s_Reader__advance : Stmt := inClass (top 28) 1
abbrev s_Reader__pass : Stmt := inClass (top 28) 2
abbrev s_Reader__fail : Stmt := inClass (top 28) 3
abbrev s_Reader_statement : Stmt := inClass (top 28) 4
abbrev s_Reader__read_binders : Stmt := inClass (top 28) 5
abbrev s_Reader__read_operand : Stmt := inClass (top 28) 6
abbrev s_Reader__read_opening : Stmt := inClass (top 28) 7
abbrev s_Reader__close : Stmt := inClass (top 28) 8
abbrev s_Reader__read_sign : Stmt := inClass (top 28) 9
abbrev s_Reader__join : Stmt := inClass (top 28) 10
abbrev s_law_draws : Stmt := top 30
abbrev s_law_take : Stmt := top 31
abbrev s_law_atom : Stmt := top 32
abbrev s_law_statement : Stmt := top 33
abbrev s_law_closed : Stmt := top 34
abbrev s_law_printed : Stmt := top 35
abbrev s_law_spaced : Stmt := top 36
abbrev s_law : Stmt := top 37
abbrev n_StatementSyntaxError_init : List Str := ["self", "position"]
abbrev a_StatementSyntaxError_init : List Str := ["self", "position"]
theorem sc_StatementSyntaxError_init : FnScope n_StatementSyntaxError_init a_StatementSyntaxError_init (defScope s_StatementSyntaxError_init) := ⟨rfl, rfl, rfl, by decide +kernel, rfl, by decide +kernel, by decide +kernel⟩
abbrev n_Part_init : List Str := ["self", "head", "around"]
abbrev a_Part_init : List Str := ["self", "head", "around"]
theorem sc_Part_init : FnScope n_Part_init a_Part_init (defScope s_Part_init) := ⟨rfl, rfl, rfl, by decide +kernel, rfl, by decide +kernel, by decide +kernel⟩
abbrev n_head_of : List Str := ["statement"]
abbrev a_head_of : List Str := ["statement"]
theorem sc_head_of : FnScope n_head_of a_head_of (defScope s_head_of) := ⟨rfl, rfl, rfl, by decide +kernel, rfl, by decide +kernel, by decide +kernel⟩
abbrev n_parts_of : List Str := ["statement", "parts", "waiting", "told", "around", "head", "at", "within"]
abbrev a_parts_of : List Str := ["statement"]
theorem sc_parts_of : FnScope n_parts_of a_parts_of (defScope s_parts_of) := ⟨rfl, rfl, rfl, by decide +kernel, rfl, by decide +kernel, by decide +kernel⟩
abbrev n_format_statement : List Str := ["statement", "parts", "texts", "at", "head", "operands", "place"]
abbrev a_format_statement : List Str := ["statement"]
theorem sc_format_statement : FnScope n_format_statement a_format_statement (defScope s_format_statement) := ⟨rfl, rfl, rfl, by decide +kernel, rfl, by decide +kernel, by decide +kernel⟩
abbrev n_atom_text : List Str := ["head"]
abbrev a_atom_text : List Str := ["head"]
theorem sc_atom_text : FnScope n_atom_text a_atom_text (defScope s_atom_text) := ⟨rfl, rfl, rfl, by decide +kernel, rfl, by decide +kernel, by decide +kernel⟩
abbrev n_prefix_text : List Str := ["head"]
abbrev a_prefix_text : List Str := ["head"]
theorem sc_prefix_text : FnScope n_prefix_text a_prefix_text (defScope s_prefix_text) := ⟨rfl, rfl, rfl, by decide +kernel, rfl, by decide +kernel, by decide +kernel⟩
abbrev n_join_text : List Str := ["word", "left", "right", "strength"]
abbrev a_join_text : List Str := ["word", "left", "right"]
theorem sc_join_text : FnScope n_join_text a_join_text (defScope s_join_text) := ⟨rfl, rfl, rfl, by decide +kernel, rfl, by decide +kernel, by decide +kernel⟩
abbrev n_enclosed : List Str := ["operand", "needed", "word", "text"]
abbrev a_enclosed : List Str := ["operand", "needed"]
theorem sc_enclosed : FnScope n_enclosed a_enclosed (defScope s_enclosed) := ⟨rfl, rfl, rfl, by decide +kernel, rfl, by decide +kernel, by decide +kernel⟩
abbrev n_parse_statement : List Str := ["text"]
abbrev a_parse_statement : List Str := ["text"]
theorem sc_parse_statement : FnScope n_parse_statement a_parse_statement (defScope s_parse_statement) := ⟨rfl, rfl, rfl, by decide +kernel, rfl, by decide +kernel, by decide +kernel⟩
abbrev n_token_at : List Str := ["text", "at", "most_digits", "token"]
abbrev a_token_at : List Str := ["text", "at", "most_digits"]
theorem sc_token_at : FnScope n_token_at a_token_at (defScope s_token_at) := ⟨rfl, rfl, rfl, by decide +kernel, rfl, by decide +kernel, by decide +kernel⟩
abbrev n_variable_at : List Str := ["text", "at", "most_digits", "digits", "many"]
abbrev a_variable_at : List Str := ["text", "at", "most_digits"]
theorem sc_variable_at : FnScope n_variable_at a_variable_at (defScope s_variable_at) := ⟨rfl, rfl, rfl, by decide +kernel, rfl, by decide +kernel, by decide +kernel⟩
abbrev n_Reader_init : List Str := ["self", "text", "most_digits"]
abbrev a_Reader_init : List Str := ["self", "text", "most_digits"]
theorem sc_Reader_init : FnScope n_Reader_init a_Reader_init (defScope s_Reader_init) := ⟨rfl, rfl, rfl, by decide +kernel, rfl, by decide +kernel, by decide +kernel⟩
abbrev n_Reader__advance : List Str := ["self", "many"]
abbrev a_Reader__advance : List Str := ["self", "many"]
theorem sc_Reader__advance : FnScope n_Reader__advance a_Reader__advance (defScope s_Reader__advance) := ⟨rfl, rfl, rfl, by decide +kernel, rfl, by decide +kernel, by decide +kernel⟩
abbrev n_Reader__pass : List Str := ["self"]
abbrev a_Reader__pass : List Str := ["self"]
theorem sc_Reader__pass : FnScope n_Reader__pass a_Reader__pass (defScope s_Reader__pass) := ⟨rfl, rfl, rfl, by decide +kernel, rfl, by decide +kernel, by decide +kernel⟩
abbrev n_Reader__fail : List Str := ["self"]
abbrev a_Reader__fail : List Str := ["self"]
theorem sc_Reader__fail : FnScope n_Reader__fail a_Reader__fail (defScope s_Reader__fail) := ⟨rfl, rfl, rfl, by decide +kernel, rfl, by decide +kernel, by decide +kernel⟩
abbrev n_Reader_statement : List Str := ["self"]
abbrev a_Reader_statement : List Str := ["self"]
theorem sc_Reader_statement : FnScope n_Reader_statement a_Reader_statement (defScope s_Reader_statement) := ⟨rfl, rfl, rfl, by decide +kernel, rfl, by decide +kernel, by decide +kernel⟩
abbrev n_Reader__read_binders : List Str := ["self", "kind"]
abbrev a_Reader__read_binders : List Str := ["self"]
theorem sc_Reader__read_binders : FnScope n_Reader__read_binders a_Reader__read_binders (defScope s_Reader__read_binders) := ⟨rfl, rfl, rfl, by decide +kernel, rfl, by decide +kernel, by decide +kernel⟩
abbrev n_Reader__read_operand : List Str := ["self"]
abbrev a_Reader__read_operand : List Str := ["self"]
theorem sc_Reader__read_operand : FnScope n_Reader__read_operand a_Reader__read_operand (defScope s_Reader__read_operand) := ⟨rfl, rfl, rfl, by decide +kernel, rfl, by decide +kernel, by decide +kernel⟩
abbrev n_Reader__read_opening : List Str := ["self", "token"]
abbrev a_Reader__read_opening : List Str := ["self"]
theorem sc_Reader__read_opening : FnScope n_Reader__read_opening a_Reader__read_opening (defScope s_Reader__read_opening) := ⟨rfl, rfl, rfl, by decide +kernel, rfl, by decide +kernel, by decide +kernel⟩
abbrev n_Reader__close : List Str := ["self"]
abbrev a_Reader__close : List Str := ["self"]
theorem sc_Reader__close : FnScope n_Reader__close a_Reader__close (defScope s_Reader__close) := ⟨rfl, rfl, rfl, by decide +kernel, rfl, by decide +kernel, by decide +kernel⟩
abbrev n_Reader__read_sign : List Str := ["self", "word"]
abbrev a_Reader__read_sign : List Str := ["self"]
theorem sc_Reader__read_sign : FnScope n_Reader__read_sign a_Reader__read_sign (defScope s_Reader__read_sign) := ⟨rfl, rfl, rfl, by decide +kernel, rfl, by decide +kernel, by decide +kernel⟩
abbrev n_Reader__join : List Str := ["self", "least", "head", "right"]
abbrev a_Reader__join : List Str := ["self", "least"]
theorem sc_Reader__join : FnScope n_Reader__join a_Reader__join (defScope s_Reader__join) := ⟨rfl, rfl, rfl, by decide +kernel, rfl, by decide +kernel, by decide +kernel⟩
abbrev n_law_draws : List Str := ["script", "count", "cells", "found", "mixed", "k", "j", "cell", "again"]
abbrev a_law_draws : List Str := ["script", "count"]
theorem sc_law_draws : FnScope n_law_draws a_law_draws (defScope s_law_draws) := ⟨rfl, rfl, rfl, by decide +kernel, rfl, by decide +kernel, by decide +kernel⟩
abbrev n_law_take : List Str := ["draws", "limit"]
abbrev a_law_take : List Str := ["draws", "limit"]
theorem sc_law_take : FnScope n_law_take a_law_take (defScope s_law_take) := ⟨rfl, rfl, rfl, by decide +kernel, rfl, by decide +kernel, by decide +kernel⟩
abbrev n_law_atom : List Str := ["draws", "ready", "kind"]
abbrev a_law_atom : List Str := ["draws", "ready"]
theorem sc_law_atom : FnScope n_law_atom a_law_atom (defScope s_law_atom) := ⟨rfl, rfl, rfl, by decide +kernel, rfl, by decide +kernel, by decide +kernel⟩
abbrev n_law_statement : List Str := ["draws", "depth", "waiting", "ready", "loose", "kind", "first", "label", "variable", "later", "usable", "other"]
abbrev a_law_statement : List Str := ["draws", "depth", "waiting", "ready", "loose"]
theorem sc_law_statement : FnScope n_law_statement a_law_statement (defScope s_law_statement) := ⟨rfl, rfl, rfl, by decide +kernel, rfl, by decide +kernel, by decide +kernel⟩
abbrev n_law_closed : List Str := ["draws", "depth"]
abbrev a_law_closed : List Str := ["draws", "depth"]
theorem sc_law_closed : FnScope n_law_closed a_law_closed (defScope s_law_closed) := ⟨rfl, rfl, rfl, by decide +kernel, rfl, by decide +kernel, by decide +kernel⟩
abbrev n_law_printed : List Str := ["statement", "rank", "kind", "own", "text"]
abbrev a_law_printed : List Str := ["statement", "rank"]
theorem sc_law_printed : FnScope n_law_printed a_law_printed (defScope s_law_printed) := ⟨rfl, rfl, rfl, by decide +kernel, rfl, by decide +kernel, by decide +kernel⟩
abbrev n_law_spaced : List Str := ["draws", "text", "found", "k", "char", "before"]
abbrev a_law_spaced : List Str := ["draws", "text"]
theorem sc_law_spaced : FnScope n_law_spaced a_law_spaced (defScope s_law_spaced) := ⟨rfl, rfl, rfl, by decide +kernel, rfl, by decide +kernel, by decide +kernel⟩
abbrev n_law : List Str := ["script", "draws", "statement", "text"]
abbrev a_law : List Str := ["script"]
theorem sc_law : FnScope n_law a_law (defScope s_law) := ⟨rfl, rfl, rfl, by decide +kernel, rfl, by decide +kernel, by decide +kernel⟩
/-! ### calls -/
def Has (P : Program) (w : World) (K : PySem.W.Frag) (mg : Str → Option Value) (base : Heap) (x : Str) (k : Nat) (ps : List Str) (sp : Sp) : Prop :=
  ∃ f fd, mg x = some (.ref f) ∧ PySem.W.keepIn K (.ref f) = true ∧ Binds K fd ps [] ∧ FnOk P w K mg base CX0 k f fd ps sp
theorem pe_callH {X : Cx} {x : Str} {k : Nat} {ps : List Str} {sp : Sp} {e : Expr} {es : List Expr} {t : TA} {p pos : Pos} (h : Has X.prog X.w X.K X.mg X.base x k ps sp) (hr : Room k X.A) (ha : PA X (e :: es) t) (hg : Gl X x := by rfl)
    (hdb : (x == ("__debug__" : Str)) = false := by decide) (he : starEach (e :: es) X.env = (false, eval e X.env) :: starEach es X.env := by rfl) (hpl : (backTo pos (starEach es X.env)).any (·.1) = false := by rfl) :
    PE X (.Call (.Name x p) (e :: es) [] pos) (tCall sp [] E0 t) := by
  obtain ⟨f, fd, m, kp, b, G⟩ := h
  exact pe_call G hr hg m kp b .nil pass0 ha hdb he hpl
/-- .. of a def that may raise -/
def HasX (P : Program) (w : World) (K : PySem.W.Frag) (mg : Str → Option Value) (base : Heap) (x : Str) (k : Nat) (ps : List Str) (sp : Sp) : Prop :=
  ∃ f fd, mg x = some (.ref f) ∧ PySem.W.keepIn K (.ref f) = true ∧ Binds K fd ps [] ∧ FnOk P w K mg base (L2.CX P w) k f fd ps sp
theorem pe_callX {X : Cx} {W : WX} {x : Str} {k : Nat} {ps : List Str} {sp : Sp} {e : Expr} {es : List Expr} {t : TA} {p pos : Pos} (h : HasX X.prog X.w X.K X.mg X.base x k ps sp) (hr : Room k X.A) (tk : Takes X W) (ha : PA X (e :: es) t) (hg : Gl X x := by rfl)
    (hdb : (x == ("__debug__" : Str)) = false := by decide) (he : starEach (e :: es) X.env = (false, eval e X.env) :: starEach es X.env := by rfl) (hpl : (backTo pos (starEach es X.env)).any (·.1) = false := by rfl) :
    PE X (.Call (.Name x p) (e :: es) [] pos) (tCallS sp (WE W) t) := by
  obtain ⟨f, fd, m, kp, b, G⟩ := h
  exact pe_callS G hr hg m kp b (fun σ => passAt tk σ) ha hdb he hpl
theorem pe_callL {X : Cx} {x : Str} {k : Nat} {ps : List Str} {sp : Sp} {e : Expr} {es : List Expr} {t : TA} {p pos : Pos} (h : HasX X.prog X.w X.K X.mg X.base x k ps sp) (hr : Room k X.A) (ha : PA X (e :: es) t) (hg : Gl X x := by rfl)
    (hdb : (x == ("__debug__" : Str)) = false := by decide) (he : starEach (e :: es) X.env = (false, eval e X.env) :: starEach es X.env := by rfl) (hpl : (backTo pos (starEach es X.env)).any (·.1) = false := by rfl) :
    PE X (.Call (.Name x p) (e :: es) [] pos) (tCall sp [] E0 t) := by
  obtain ⟨f, fd, m, kp, b, G⟩ := h
  exact pe_call G hr hg m kp b .nil passL ha hdb he hpl
theorem pss_when {X : Cx} {sts : List Stmt} {t : TS} {p : Prop} (h : p → PSs X sts t) : PSs X sts (fun D σ H => p ∧ t D σ H) :=
  ⟨fun pins s σ H D I q => (h q.1).run pins s σ H D I q.2⟩
def HasC (P : Program) (w : World) (K : PySem.W.Frag) (mg : Str → Option Value) (base : Heap) (x : Str) (C : Addr) (k : Nat) (ps : List Str) (sp : Sp) : Prop :=
  ∃ f fd, mg x = some (.ref C) ∧ Mk K C f ∧ Binds K fd ps [] ∧ FnOk P w K mg base CX0 k f fd ps sp
theorem pe_makeH {X : Cx} {x : Str} {C : Addr} {k : Nat} {ps : List Str} {sp : Sp} {e : Expr} {es : List Expr} {t : TA} {p pos : Pos} (h : HasC X.prog X.w X.K X.mg X.base x C k ps sp) (hr : Room (k + 1) X.A) (ha : PA X (e :: es) t) (hg : Gl X x := by rfl)
    (hdb : (x == ("__debug__" : Str)) = false := by decide) (he : starEach (e :: es) X.env = (false, eval e X.env) :: starEach es X.env := by rfl) (hpl : (backTo pos (starEach es X.env)).any (·.1) = false := by rfl) :
    PE X (.Call (.Name x p) (e :: es) [] pos) (tMake C sp [] E0 t) := by
  obtain ⟨f, fd, m, M, b, G⟩ := h
  exact pe_make M G hr hg m b .nil pass0 ha hdb he hpl
/-! ### statements in memory -/
def wN (b : Bool) : Str := if b then "true" else "false"
def wT (b : Bool) : Str := if b then "and" else "or"
def wL : Leaf → Str
  | .has => "has"
  | .lacks => "lacks"
  | .var => "var"
def wO : One → Str
  | .some => "some"
  | .all => "all"
  | .least => "least"
  | .most => "most"
def hv : Hd → List V
  | .nul b => [.str (wN b)]
  | .leaf k n => [.str (wL k), .int n]
  | .two b => [.str (wT b)]
  | .one k n => [.str (wO k), .int n]
def hw : Hd → Str
  | .nul b => wN b
  | .leaf k _ => wL k
  | .two b => wT b
  | .one k _ => wO k
inductive IsF (K : PySem.W.Frag) (H : Hp) : V → F → Prop
  | nul {a : Addr} {b : Bool} : SqT K H a (hv (.nul b)) → IsF K H (.ref a) (.nul b)
  | leaf {a : Addr} {k : Leaf} {n : Int} : SqT K H a (hv (.leaf k n)) → IsF K H (.ref a) (.leaf k n)
  | two {a : Addr} {b : Bool} {x y : V} {f g : F} : SqT K H a (hv (.two b) ++ [x, y]) → IsF K H x f → IsF K H y g → IsF K H (.ref a) (.two b f g)
  | one {a : Addr} {k : One} {n : Int} {x : V} {f : F} : SqT K H a (hv (.one k n) ++ [x]) → IsF K H x f → IsF K H (.ref a) (.one k n f)
/-- all but what stands at d is as it was -/
def But (d : Addr) (H H' : Hp) : Prop := ∀ b o, b ≠ d → H b = some o → H' b = some o
theorem Same.but {d : Addr} {H H' : Hp} (s : Same H H') : But d H H' := fun b o _ e => s b o e
theorem But.refl (d : Addr) (H : Hp) : But d H H := fun _ _ _ e => e
theorem But.trans {d : Addr} {H H1 H2 : Hp} (a : But d H H1) (b : But d H1 H2) : But d H H2 := fun c o n e => b c o n (a c o n e)
theorem But.upd {d : Addr} {H : Hp} {o : HO} : But d H (upd H d o) := fun b u n e => by rw [upd_ne n]; exact e
theorem Same.new {H : Hp} {p : Addr} {o : HO} (h : H p = none) : Same H (upd H p o) := fun b u e => by rw [upd_ne (ne_of_none e h)]; exact e
theorem SqT.keepAt {K : PySem.W.Frag} {H H' : Hp} {a : Addr} {xs : List V} (k : ∀ o, H a = some o → H' a = some o) (h : SqT K H a xs) : SqT K H' a xs := by
  rcases h with h | h
  · rcases h with h | ⟨u, h⟩
    · exact .inl (.inl (k _ h))
    · exact .inl (.inr ⟨u, k _ h⟩)
  · exact .inr h
theorem SqL.keepAt {K : PySem.W.Frag} {H H' : Hp} {a : Addr} {xs : List V} (k : ∀ o, H a = some o → H' a = some o) (h : SqL K H a xs) : SqL K H' a xs := by
  rcases h with h | h
  · rcases h with h | ⟨u, h⟩
    · exact .inl (.inl (k _ h))
    · exact .inl (.inr ⟨u, k _ h⟩)
  · exact .inr h
theorem SqT.same {K : PySem.W.Frag} {H H' : Hp} {a : Addr} {xs : List V} (s : Same H H') (h : SqT K H a xs) : SqT K H' a xs := SqT.keepAt (fun o e => s a o e) h
/-- what stands at d is a list: tuples are elsewhere -/
def IsLst (H : Hp) (d : Addr) : Prop := ∃ xs, H d = some (.lst xs)
theorem SqT.but {K : PySem.W.Frag} {H H' : Hp} {a d : Addr} {xs : List V} (hd : IsLst H d) (s : But d H H') (h : SqT K H a xs) : SqT K H' a xs := by
  rcases h with h | h
  · obtain ⟨ys, e⟩ := hd
    rcases h with h | ⟨u, h⟩
    · exact .inl (.inl (s _ _ (ne_of h e (by intro z; cases z)) h))
    · exact .inl (.inr ⟨u, s _ _ (ne_of h e (by intro z; cases z)) h⟩)
  · exact .inr h
theorem IsF.map {K : PySem.W.Frag} {H H' : Hp} (s : ∀ a xs, SqT K H a xs → SqT K H' a xs) {v : V} {t : F} (h : IsF K H v t) : IsF K H' v t := by
  induction h with
  | nul h => exact .nul (s _ _ h)
  | leaf h => exact .leaf (s _ _ h)
  | two h _ _ f g => exact .two (s _ _ h) f g
  | one h _ f => exact .one (s _ _ h) f
theorem IsF.same {K : PySem.W.Frag} {H H' : Hp} (s : Same H H') {v : V} {t : F} (h : IsF K H v t) : IsF K H' v t := h.map fun _ _ => SqT.same s
theorem IsF.but {K : PySem.W.Frag} {H H' : Hp} {d : Addr} (hd : IsLst H d) (s : But d H H') {v : V} {t : F} (h : IsF K H v t) : IsF K H' v t := h.map fun _ _ => SqT.but hd s
inductive AllF (K : PySem.W.Frag) (H : Hp) : List V → List F → Prop
  | nil : AllF K H [] []
  | cons {x : V} {f : F} {xs : List V} {fs : List F} : IsF K H x f → AllF K H xs fs → AllF K H (x :: xs) (f :: fs)
theorem IsF.open {K : PySem.W.Frag} {H : Hp} {v : V} {t : F} (h : IsF K H v t) : ∃ a ks, v = .ref a ∧ SqT K H a (hv t.hd ++ ks) ∧ AllF K H ks t.kids := by
  cases h with
  | nul h => exact ⟨_, [], rfl, by simpa [F.hd] using h, .nil⟩
  | leaf h => exact ⟨_, [], rfl, by simpa [F.hd] using h, .nil⟩
  | two h f g => exact ⟨_, _, rfl, h, .cons f (.cons g .nil)⟩
  | one h f => exact ⟨_, _, rfl, h, .cons f .nil⟩
theorem IsF.close {K : PySem.W.Frag} {H : Hp} {a : Addr} {t : F} {ks : List V} (h : SqT K H a (hv t.hd ++ ks)) (hk : AllF K H ks t.kids) : IsF K H (.ref a) t := by
  cases t with
  | nul b =>
    cases hk
    exact .nul (by simpa [F.hd] using h)
  | leaf k n =>
    cases hk
    exact .leaf (by simpa [F.hd] using h)
  | two b f g =>
    cases hk with
    | cons x hk =>
      cases hk with
      | cons y hk =>
        cases hk
        exact .two h x y
  | one k n f =>
    cases hk with
    | cons x hk =>
      cases hk
      exact .one h x
theorem hv_len (h : Hd) : (hv h).length = 1 ∨ (hv h).length = 2 := by cases h <;> simp [hv]
theorem hv_head (h : Hd) : (hv h)[0]? = some (.str (hw h)) := by cases h <;> rfl
def isTwo : Hd → Bool
  | .two _ => true
  | _ => false
theorem in_joins (h : Hd) : inV (.str (hw h)) [.str "and", .str "or"] = isTwo h := by
  cases h with
  | nul b => cases b <;> rfl
  | leaf k n => cases k <;> rfl
  | two b => cases b <;> rfl
  | one k n => cases k <;> rfl
def isBH : Hd → Bool
  | .one k _ => k.bind
  | _ => false
theorem in_binders (h : Hd) : inV (.str (hw h)) [.str "least", .str "most"] = isBH h := by
  cases h with
  | nul b => cases b <;> rfl
  | leaf k n => cases k <;> rfl
  | two b => cases b <;> rfl
  | one k n => cases k <;> rfl
/-! ### what the top has written -/
structure Txt (K : PySem.W.Frag) (mg : Str → Option Value) (C J B : Addr) : Prop where
  z_int : mg "int" = none
  z_isinstance : mg "isinstance" = none
  z_len : mg "len" = none
  z_list : mg "list" = none
  z_range : mg "range" = none
  z_reversed : mg "reversed" = none
  z_str : mg "str" = none
  m_JOINS : mg "JOINS" = some (.ref J)
  c_JOINS : ∀ H, SqT K H J [.str "and", .str "or"]
  cl : Cls K C
  nH : NoAttr K C "head"
  nA : NoAttr K C "around"
  nI : NoAttr K C "inner"
/-- what it has written of the errors -/
structure TxtE (K : PySem.W.Frag) (mg : Str → Option Value) (NC FE : Addr) : Prop where
  gC : mg "NotClosed" = some (.ref NC)
  gF : mg "FixError" = some (.ref FE)
  xC : PySem.W.excIn K NC [.type "ValueError", .type "Exception", .type "BaseException", .type "object"] "ValueError.__new__" = true
  kC : PySem.W.keepIn K (.ref NC) = true
  bC : PySem.W.subIn K (.ref NC) (.type "BaseException") = some true
  tC : PySem.W.typeIn K (.ref NC) = some (.type "type")
  eC : PySem.W.exmOne K (.ref NC) (.ref NC) = some true
  is : ExcC K NC
  kF : PySem.W.kitOne K (.ref NC) (.ref FE) = some true
  kV : PySem.W.kitOne K (.ref NC) (.type "ValueError") = some true
def pf (h : V) (a : Int) (l : Addr) : List (Str × V) := [("head", h), ("around", .int a), ("inner", .ref l)]
theorem pf_make (h : V) (a : Int) (l : Addr) : putF "inner" (.ref l) (putF "around" (.int a) (putF "head" h [])) = pf h a l := by rfl
theorem join {c : Bool} {A : Prop} {C : Hp → Prop} {G : Hp} (Fa : Hp → Prop) (hr : ∀ G5, Fa G5 → C G5) (h1 : c = true → (∀ G5, Fa G5 → C G5) → A) (h2 : c = false → Fa G) : if c = true then A else C G := by
  cases c with
  | true => exact h1 rfl hr
  | false => exact hr _ (h2 rfl)
section
variable {P : Program} {w : World} {K : PySem.W.Frag} {mg : Str → Option Value} {base : Heap} {C J B : Addr}
/-! ### Part -/
def spPart (K : PySem.W.Frag) (C : Addr) : Sp := fun vs H Q _ => ∃ (p dx : Addr) (h : V) (a : Int), vs = [.ref p, h, .int a] ∧ H p = some (.ins C dx []) ∧
  ∀ l H', H l = none → H' p = some (.ins C dx (pf h a l)) → H' l = some (.lst []) → But p H H' → Q .non H'
theorem ok_Part {f : Addr} {fd : FuncData} (FF : Fun K "__init__" "Part.__init__" s_Part_init f fd) (T : Txt K mg C J B) : FnOk P w K mg base CX0 1 f fd a_Part_init (spPart K C) := by
  refine FF.ok sc_Part_init (fun vs H Q E h => ?_) (fun cdv A outer s H vs Q E hr h => ?_)
  · obtain ⟨p, dx, h, a, rfl, _⟩ := h
    rfl
  · obtain ⟨p, dx, h, a, rfl, hp, k⟩ := h
    refine ⟨_, (pss_cons (ps_fld (pv 0) (pv 1) rfl)
      (pss_cons (ps_fld (pv 0) (pv 2) rfl)
      (pss_one (ps_fld (pv 0) (pe_lst pa_nil) rfl)))), ?_⟩
    refine ⟨_, rfl, _, rfl, p, C, dx, [], rfl, hp, T.cl, T.nH, by show 0 < 1000; decide, ?_⟩
    refine ⟨_, rfl, _, rfl, p, C, dx, _, rfl, upd_same, T.cl, T.nA, by show 1 < 1000; decide, ?_⟩
    refine ⟨Nat.zero_le _, fun l hl => ?_⟩
    have pl : p ≠ l := fun e => by
      rw [e, upd_same] at hl
      cases hl
    refine ⟨_, rfl, p, C, dx, _, rfl, by rw [upd_ne pl, upd_same], T.cl, T.nI, by show 2 < 1000; decide, ?_⟩
    rw [upd_ne pl.symm, upd_ne pl.symm] at hl
    refine k l _ hl (by rw [upd_same, pf_make]) (by rw [upd_ne pl.symm, upd_same]) fun b o nb e => ?_
    rw [upd_ne nb, upd_ne (ne_of_none e hl), upd_ne nb, upd_ne nb]
    exact e
/-! ### head_of -/
def spHead (K : PySem.W.Frag) : Sp := fun vs H Q _ => ∃ (v : V) (t : F), vs = [v] ∧ IsF K H v t ∧ ∀ h H', Same H H' → SqT K H' h (hv t.hd) → Q (.ref h) H'
theorem ok_head_of {f : Addr} {fd : FuncData} (FF : Fun K "head_of" "head_of" s_head_of f fd) (T : Txt K mg C J B) : FnOk P w K mg base CX0 1 f fd a_head_of (spHead K) := by
  refine FF.ok sc_head_of (fun vs H Q E h => ?_) (fun cdv A outer s H vs Q E hr h => ?_)
  · obtain ⟨v, t, rfl, _⟩ := h
    rfl
  · obtain ⟨v, t, rfl, ht, k⟩ := h
    obtain ⟨a, ks, rfl, sq, ak⟩ := ht.open
    refine ⟨_, (pss_cons (ps_if (pt_cmpR op_in_seq (pe_ix ix_tup (pv 0) pe_int (fun _ _ => rfl)) (pe_glob rfl T.m_JOINS (show RelV (.ref _) _ from rfl)) (by rfl)) (pss_one (ps_ret (pe_slice sl_tupA (pv 0) po_none (po_some pe_int)))) pss_nil)
      (pss_one (ps_ret (pe_slice sl_tupA (pv 0) po_none (po_some pe_int))))), ?_⟩
    have at0 : atI (hv t.hd ++ ks) 0 = some (.str (hw t.hd)) := atI_nat (j := 0) (by rw [List.getElem?_append_left (by rcases hv_len t.hd with e | e <;> omega)]; exact hv_head _)
    refine ⟨_, rfl, a, _, _, _, rfl, rfl, sq, at0, J, _, rfl, .inr (T.c_JOINS H), rfl, rfl, _, rfl, ?_⟩
    rw [if_neg Bool.false_ne_true, in_joins]
    have both : ∀ n : Nat, cutV (hv t.hd ++ ks) none (some (n : Int)) = (hv t.hd ++ ks).take n := fun n => by
      unfold cutV
      rw [HT.sIx_none, HT.sIx_nat, List.drop_zero, Nat.sub_zero]
      rcases Nat.le_total n (hv t.hd ++ ks).length with h | h
      · rw [Nat.min_eq_left h]
      · rw [Nat.min_eq_right h, List.take_of_length_le (Nat.le_refl _), List.take_of_length_le h]
    have fin : ∀ n : Nat, (hv t.hd ++ ks).take n = hv t.hd → rSlA K (.ref a) none (some (n : Int)) H Q := fun n e => by
      refine ⟨a, _, rfl, sq, fun whole => ?_, fun _ p hp => ?_⟩
      · refine k a H (Same.refl H) ?_
        rw [← e]
        rw [HT.sIx_none, HT.sIx_nat] at whole
        rw [List.take_of_length_le (by omega)]
        exact sq
      · refine k p _ (Same.new hp) (SqT.of ?_)
        rw [upd_same, both, e]
    cases h2 : isTwo t.hd
    · refine iteF ?_
      refine ⟨_, rfl, 2, rfl, fin 2 ?_⟩
      cases t with
      | two b f g => cases h2
      | nul b =>
        cases ak
        rfl
      | leaf kd n => rfl
      | one kd n f => rfl
    · refine iteT ?_
      refine ⟨_, rfl, 1, rfl, fin 1 ?_⟩
      cases t with
      | two b f g => rfl
      | nul b => cases h2
      | leaf kd n => cases h2
      | one kd n f => cases h2
end
end Fw

set_option maxRecDepth 100000
set_option maxHeartbeats 2000000
namespace Fw
open PySem PySem.Spec PyProof.Rows L2
/-! ### parts in memory -/
/-- all but what stands at the addresses of X is as it was -/
def Kp (X : List Addr) (H H' : Hp) : Prop := ∀ b o, b ∉ X → H b = some o → H' b = some o
/-- all but lists is as it was -/
def LKp (H H' : Hp) : Prop := ∀ b o, (∀ xs, o ≠ .lst xs) → H b = some o → H' b = some o
theorem LKp.refl (H : Hp) : LKp H H := fun _ _ _ e => e
theorem LKp.trans {H H1 H2 : Hp} (a : LKp H H1) (b : LKp H1 H2) : LKp H H2 := fun c o n e => b c o n (a c o n e)
theorem LKp.same {H H' : Hp} (s : Same H H') : LKp H H' := fun b o _ e => s b o e
theorem LKp.upd {H : Hp} {d : Addr} {xs : List V} {o : HO} (h : H d = some (.lst xs)) : LKp H (upd H d o) := fun b u n e => by
  rw [upd_ne (ne_of e h (n xs))]
  exact e
theorem SqT.lk {K : PySem.W.Frag} {H H' : Hp} {a : Addr} {xs : List V} (s : LKp H H') (h : SqT K H a xs) : SqT K H' a xs := by
  rcases h with h | h
  · rcases h with h | ⟨u, h⟩
    · exact .inl (.inl (s _ _ (by intro xs z; cases z) h))
    · exact .inl (.inr ⟨u, s _ _ (by intro xs z; cases z) h⟩)
  · exact .inr h
theorem IsF.lk {K : PySem.W.Frag} {H H' : Hp} (s : LKp H H') {v : V} {t : F} (h : IsF K H v t) : IsF K H' v t := h.map fun _ _ => SqT.lk s
theorem AllF.lk {K : PySem.W.Frag} {H H' : Hp} (s : LKp H H') {vs : List V} {ts : List F} (h : AllF K H vs ts) : AllF K H' vs ts := by
  induction h with
  | nil => exact .nil
  | cons a _ ih => exact .cons (a.lk s) ih
theorem AllF.len {K : PySem.W.Frag} {H : Hp} {vs : List V} {ts : List F} (h : AllF K H vs ts) : vs.length = ts.length := by
  induction h with
  | nil => rfl
  | cons _ _ ih => simp [ih]
theorem AllF.get {K : PySem.W.Frag} {H : Hp} {vs : List V} {ts : List F} (h : AllF K H vs ts) : ∀ {m : Nat} {y : V} {f : F}, vs[m]? = some y → ts[m]? = some f → IsF K H y f := by
  induction h with
  | nil => intro m y f e _; cases e
  | cons a _ ih =>
    intro m y f e1 e2
    cases m with
    | zero =>
      cases e1
      cases e2
      exact a
    | succ m => exact ih e1 e2
structure PRec where
  p : Addr
  l : Addr
  dx : Addr
  h : Addr
structure PartIs (K : PySem.W.Frag) (C : Addr) (H : Hp) (pr : PRec) (hd : Hd) (a : Int) (ks : List Nat) : Prop where
  ob : H pr.p = some (.ins C pr.dx (pf (.ref pr.h) a pr.l))
  hd : SqT K H pr.h (hv hd)
  inn : H pr.l = some (.lst (ks.map fun n => V.int (n : Nat)))
def Parts (K : PySem.W.Frag) (C : Addr) (H : Hp) (R : List PRec) (L : List (Hd × Int)) : Prop :=
  R.length = L.length ∧ ∀ i pr hd a, R[i]? = some pr → L[i]? = some (hd, a) → PartIs K C H pr hd a (kidsFrom (L.map (·.2)) 0 i)
def PartsAt (K : PySem.W.Frag) (C : Addr) (H : Hp) (pa : Addr) (L : List (Hd × Int)) : Prop :=
  ∃ R : List PRec, SqL K H pa (R.map fun r => V.ref r.p) ∧ Parts K C H R L
theorem PartIs.same {K : PySem.W.Frag} {C : Addr} {H H' : Hp} {pr : PRec} {hd : Hd} {a : Int} {ks : List Nat} (s : Same H H') (h : PartIs K C H pr hd a ks) : PartIs K C H' pr hd a ks :=
  ⟨s _ _ h.ob, SqT.same s h.hd, s _ _ h.inn⟩
theorem PartsAt.same {K : PySem.W.Frag} {C : Addr} {H H' : Hp} {pa : Addr} {L : List (Hd × Int)} (s : Same H H') (h : PartsAt K C H pa L) : PartsAt K C H' pa L := by
  obtain ⟨R, h1, h2, h3⟩ := h
  exact ⟨R, s.seq h1, h2, fun i pr hd a e1 e2 => (h3 i pr hd a e1 e2).same s⟩
/-- what waits: bottom first in memory, top first in the list -/
inductive SA (K : PySem.W.Frag) (H : Hp) : List V → List (F × Int) → Prop
  | nil : SA K H [] []
  | snoc {ws : List V} {st : List (F × Int)} {q : Addr} {x : V} {t : F} {a : Int} : SA K H ws st → SqT K H q [x, .int a] → IsF K H x t → SA K H (ws ++ [.ref q]) ((t, a) :: st)
theorem SA.lk {K : PySem.W.Frag} {H H' : Hp} (s : LKp H H') {ws : List V} {st : List (F × Int)} (h : SA K H ws st) : SA K H' ws st := by
  induction h with
  | nil => exact .nil
  | snoc _ b c ih => exact .snoc ih (SqT.lk s b) (c.lk s)
theorem SA.len {K : PySem.W.Frag} {H : Hp} {ws : List V} {st : List (F × Int)} (h : SA K H ws st) : ws.length = st.length := by
  induction h with
  | nil => rfl
  | snoc _ _ _ ih => simp [ih]
theorem kids_snoc (L : List (Hd × Int)) (h : Hd) (a : Int) (i : Nat) :
    kidsFrom ((L ++ [(h, a)]).map (·.2)) 0 i = kidsFrom (L.map (·.2)) 0 i ++ if a = (i : Int) then [L.length] else [] := by
  rw [List.map_append, kids_app]
  simp only [List.map_cons, List.map_nil, kidsFrom, Nat.zero_add, List.length_map]
theorem kids_out : ∀ (A : List Int) (j i : Nat), (∀ a ∈ A, a < (i : Int)) → kidsFrom A j i = [] := fun A j i h => kids_none A j i fun a ha => by have := h a ha; omega
theorem Parts.more {K : PySem.W.Frag} {C : Addr} {G G5 : Hp} {R : List PRec} {L : List (Hd × Int)} {n : PRec} {hd : Hd} {a : Int} (PR : Parts K C G R L) (lk : LKp G G5)
    (hin : ∀ i pr, R[i]? = some pr → G5 pr.l = some (.lst ((kidsFrom (L.map (·.2)) 0 i ++ if a = (i : Int) then [L.length] else []).map fun n => V.int (n : Nat))))
    (Lb : ∀ x ∈ L, x.2 < (L.length : Int)) (ha : a < (L.length : Int)) (new : PartIs K C G5 n hd a []) : Parts K C G5 (R ++ [n]) (L ++ [(hd, a)]) := by
  obtain ⟨len, h⟩ := PR
  refine ⟨by simp [len], fun i pr hd' a' e1 e2 => ?_⟩
  rw [kids_snoc]
  by_cases lt : i < R.length
  · rw [List.getElem?_append_left lt] at e1
    rw [List.getElem?_append_left (by omega)] at e2
    have z := h i pr hd' a' e1 e2
    exact ⟨lk _ _ (by intro xs q; cases q) z.ob, SqT.lk lk z.hd, hin i pr e1⟩
  · have ei : i = R.length := by
      have q := (List.getElem?_eq_some_iff.mp e1).1
      rw [List.length_append, List.length_singleton] at q
      omega
    subst ei
    rw [List.getElem?_append_right (Nat.le_refl _), Nat.sub_self] at e1
    rw [List.getElem?_append_right (by omega), len, Nat.sub_self] at e2
    cases e1
    cases e2
    have none : kidsFrom (L.map (·.2)) 0 R.length = [] := by
      refine kids_out _ _ _ fun b hb => ?_
      obtain ⟨x, hx, rfl⟩ := List.mem_map.mp hb
      rw [len]
      exact Lb x hx
    rw [none, if_neg (by rw [len]; omega)]
    exact new
section
variable {P : Program} {w : World} {K : PySem.W.Frag} {mg : Str → Option Value} {base : Heap} {C J B : Addr}
def spParts (K : PySem.W.Frag) (C : Addr) : Sp := fun vs H Q _ => ∃ (v : V) (t : F), vs = [v] ∧ IsF K H v t ∧ t.size ≤ 1000 ∧
  ∀ pa H', Same H H' → PartsAt K C H' pa (pre t (-1) 0) → Q (.ref pa) H'
theorem ok_parts_of {f : Addr} {fd : FuncData} (FF : Fun K "parts_of" "parts_of" s_parts_of f fd) (T : Txt K mg C J B)
    (h_head_of : Has P w K mg base "head_of" 1 a_head_of (spHead K)) (h_Part : HasC P w K mg base "Part" C 1 a_Part_init (spPart K C)) : FnOk P w K mg base CX0 3 f fd a_parts_of (spParts K C) := by
  refine FF.ok sc_parts_of (fun vs H Q E h => ?_) (fun cdv A outer s H vs Q E hr h => ?_)
  · obtain ⟨v, t, rfl, _⟩ := h
    rfl
  · obtain ⟨v, t, rfl, ht, hsz, k⟩ := h
    refine ⟨_, (pss_cons (ps_set (i := 1) sc_parts_of.nd rfl (.inl rfl) (pe_lst pa_nil))
      (pss_cons (ps_set (i := 2) sc_parts_of.nd rfl (.inl rfl) (pe_lst (pa_cons (pe_tup (pa_cons (pv 0) (pa_cons (pe_un un_neg pe_int) pa_nil))) pa_nil)))
      (pss_cons (ps_while PassesOwn.never (pt_truth (pv 2) (by intro _; rfl)) (pss_cons (ps_asg (pe_bm0 PySem.F.plainAttrs_list PySem.F.slot_list_pop PySem.F.type_list_pop mt_pop (pv 2)) (pg_tup rfl (pgs_cons (pg_name (i := 3) sc_parts_of.nd rfl (.inl rfl)) (pgs_cons (pg_name (i := 4) sc_parts_of.nd rfl (.inl rfl)) pgs_nil))))
      (pss_cons (ps_set (i := 5) sc_parts_of.nd rfl (.inl rfl) (pe_callH h_head_of (hr.mono (by omega)) (pa_cons (pv 3) pa_nil)))
      (pss_cons (ps_set (i := 6) sc_parts_of.nd rfl (.inl rfl) (pe_callB call_len_seq rfl T.z_len (by decide +kernel) (pa_cons (pv 1) pa_nil)))
      (pss_cons (ps_expr (pe_bm PySem.F.plainAttrs_list PySem.F.slot_list_append PySem.F.type_list_append mt_append (pv 1) (pa_cons (pe_makeH h_Part (hr.mono (by omega)) (pa_cons (pv 5) (pa_cons (pv 4) pa_nil))) pa_nil)))
      (pss_cons (ps_if (pt_cmpR op_ge (pv 4) pe_int (nomark _)) (pss_one (ps_expr (pe_bm PySem.F.plainAttrs_list PySem.F.slot_list_append PySem.F.type_list_append mt_append (pe_fld (pe_ix ix_list (pv 1) (pv 4) (fun _ _ => rfl)) rfl) (pa_cons (pv 6) pa_nil)))) pss_nil)
      (pss_one (ps_for PassesOwn.never rfl (RT.pi_revA rfl T.z_reversed (pe_slice sl_tupA (pv 3) (po_some (pe_callB call_len_seq rfl T.z_len (by decide +kernel) (pa_cons (pv 5) pa_nil))) po_none)) (pg_name (i := 7) sc_parts_of.nd rfl (.inl rfl)) (pss_one (ps_expr (pe_bm PySem.F.plainAttrs_list PySem.F.slot_list_append PySem.F.type_list_append mt_append (pv 2) (pa_cons (pe_tup (pa_cons (pv 7) (pa_cons (pv 6) pa_nil))) pa_nil))))))))))))
      (pss_one (ps_ret (pv 1)))))), ?_⟩
    refine ⟨Nat.zero_le _, fun pa hpa => ?_⟩
    refine ⟨v, rfl, _, rfl, by show 2 ≤ sizeLine; decide, fun q0 hq0 => ?_⟩
    refine ⟨by show 1 ≤ sizeLine; decide, fun wa hwa => ?_⟩
    have paq : pa ≠ q0 := fun e => by rw [e, upd_same] at hq0; cases hq0
    have hq0' : H q0 = none := by rw [upd_ne paq.symm] at hq0; exact hq0
    have wq : wa ≠ q0 := fun e => by rw [e, upd_same] at hwa; cases hwa
    have wpa : wa ≠ pa := fun e => by rw [e, upd_ne paq, upd_same] at hwa; cases hwa
    have hwa' : H wa = none := by rw [upd_ne wq, upd_ne wpa] at hwa; exact hwa
    have s1 : Same H (upd H pa (.lst [])) := Same.new hpa
    have s2 : Same (upd H pa (.lst [])) (upd (upd H pa (.lst [])) q0 (.tup [v, .int (-1)])) := Same.new hq0
    have s3 : Same (upd (upd H pa (.lst [])) q0 (.tup [v, .int (-1)])) (upd (upd (upd H pa (.lst [])) q0 (.tup [v, .int (-1)])) wa (.lst [.ref q0])) := Same.new hwa
    have s123 := s1.trans (s2.trans s3)
    generalize hH0 : upd (upd (upd H pa (.lst [])) q0 (.tup [v, .int (-1)])) wa (.lst [.ref q0]) = H0 at s3 s123
    have w0 : H0 wa = some (.lst [.ref q0]) := by rw [← hH0, upd_same]
    have p0 : H0 pa = some (.lst []) := by rw [← hH0, upd_ne wpa.symm, upd_ne paq, upd_same]
    have t0 : SqT K H0 q0 [v, .int (-1)] := SqT.of (by rw [← hH0, upd_ne wq.symm, upd_same])
    clear hH0 hq0
    refine ⟨fun m σ G => ∃ (R : List PRec) (L : List (Hd × Int)) (ws : List V) (st : List (F × Int)) (y3 y4 y5 y6 y7 : Option V),
      σ = [some v, some (.ref pa), some (.ref wa), y3, y4, y5, y6, y7] ∧ Same H G ∧ G pa = some (.lst (R.map fun r => V.ref r.p)) ∧ G wa = some (.lst ws) ∧ SA K G ws st ∧
      Parts K C G R L ∧ (R.map PRec.l).Nodup ∧ (∀ r ∈ R, H r.l = none ∧ r.l ≠ pa ∧ r.l ≠ wa) ∧ (∀ x ∈ st, x.2 < (L.length : Int) ∧ -1 ≤ x.2) ∧ (∀ x ∈ L, x.2 < (L.length : Int)) ∧
      m = stSize st ∧ L.length + m = t.size ∧ fin L st = pre t (-1) 0,
      ⟨t.size, [], [], [.ref q0], [(t, -1)], none, none, none, none, none, rfl, s123, p0, w0, .snoc .nil t0 (ht.same s123), ⟨rfl, by simp⟩, by simp, by simp, by simp, by simp, by simp [stSize], by simp, by simp [fin, pre]⟩, ?_⟩
    rintro m σ G ⟨R, L, ws, st, y3, y4, y5, y6, y7, rfl, sG, gpa, gwa, sa, PR, nd, lfr, stb, Lb, rfl, cnt, hfin⟩
    refine ⟨.ref wa, rfl, !ws.isEmpty, .inl ⟨ws, SqL.of gwa, rfl⟩, ?_⟩
    cases sa with
    | nil =>
      -- nothing waits
      refine iteF ?_
      refine ⟨_, rfl, ?_⟩
      refine k pa G sG ⟨R, SqL.of gpa, ?_⟩
      rw [← hfin]
      exact PR
    | @snoc ws' st' q x u a sa' hq hx =>
      have e1 : (!(ws' ++ [V.ref q]).isEmpty) = true := by simp
      rw [e1]
      refine iteT ?_
      refine ⟨_, fun σ' H' z => z, ?_⟩
      have szu : 0 < u.size := F.size_pos u
      have lst' : st'.length ≤ stSize st' := st_len st'
      have cnt' : L.length + (u.size + stSize st') = t.size := cnt
      have hwl := sa'.len
      have small : ∀ n : Nat, n ≤ 1000 → n < sizeLine := fun n hn => small1000 hn
      -- told, around = waiting.pop()
      refine ⟨.ref wa, rfl, .inl ⟨rfl, _, SqL.of gwa⟩, wa, _, .ref q, rfl, rfl, gwa, by simp, ?_⟩
      rw [List.dropLast_concat]
      generalize hG1 : upd G wa (.lst ws') = G1
      have l1 : LKp G G1 := by rw [← hG1]; exact LKp.upd gwa
      have w1 : G1 wa = some (.lst ws') := by rw [← hG1, upd_same]
      have k1 : ∀ b o, b ≠ wa → G b = some o → G1 b = some o := fun b o nb e => by rw [← hG1, upd_ne nb]; exact e
      clear hG1
      refine ⟨q, _, rfl, SqT.lk l1 hq, rfl, x, _, rfl, .int a, _, rfl, rfl, ?_⟩
      -- head = head_of(told)
      refine ⟨x, rfl, x, u, rfl, hx.lk l1, fun h G2 s2 hh => ?_⟩
      have w2 := s2 _ _ w1
      have pw : pa ≠ wa := wpa.symm
      have p2 := s2 _ _ (k1 _ _ pw gpa)
      -- at = len(parts)
      refine ⟨.ref pa, rfl, pa, _, rfl, .inl (SqL.of p2), ?_⟩
      rw [List.length_map, PR.1]
      -- parts.append(Part(head, around))
      refine ⟨.ref pa, rfl, .inl ⟨rfl, _, SqL.of p2⟩, .ref h, rfl, .int a, rfl, fun x1 dx nx ndx nex => ⟨x1, dx, .ref h, a, rfl, upd_same, fun l G3 hl hx1 hl3 b3 => ⟨rfl, ?_⟩⟩⟩
      have nx1 : l ≠ x1 := fun e => by rw [e, upd_same] at hl; cases hl
      have hl2 : G2 l = none := by
        rw [upd_ne nx1] at hl
        by_cases e : l = dx
        · rw [e, upd_same] at hl
          cases hl
        · rw [upd_ne e] at hl
          exact hl
      have s3' : Same G2 G3 := fun b o e => by
        refine b3 b o (ne_of_none e nx) ?_
        rw [upd_ne (ne_of_none e nx), upd_ne (ne_of_none e ndx)]
        exact e
      have p3 := s3' _ _ p2
      have w3 := s3' _ _ w2
      have lpa : l ≠ pa := (ne_of_none p2 hl2).symm
      have lwa : l ≠ wa := (ne_of_none w2 hl2).symm
      refine ⟨pa, _, .ref x1, rfl, rfl, p3, by rw [List.length_map, PR.1]; exact small _ (by omega), ?_⟩
      generalize hG4 : upd G3 pa (.lst (R.map (fun r => V.ref r.p) ++ [V.ref x1])) = G4
      have l4 : LKp G3 G4 := by rw [← hG4]; exact LKp.upd p3
      have k4 : ∀ b o, b ≠ pa → G3 b = some o → G4 b = some o := fun b o nb e => by rw [← hG4, upd_ne nb]; exact e
      have p4 : G4 pa = some (.lst (R.map (fun r => V.ref r.p) ++ [V.ref x1])) := by rw [← hG4, upd_same]
      clear hG4
      have w4 := k4 _ _ wpa w3
      have L14 : LKp G G4 := l1.trans ((LKp.same s2).trans ((LKp.same s3').trans l4))
      have K14 : ∀ b o, b ≠ wa → b ≠ pa → G b = some o → G4 b = some o := fun b o n1 n2 e => k4 _ _ n2 (s3' _ _ (s2 _ _ (k1 _ _ n1 e)))
      have ob4 : G4 x1 = some (.ins C dx (pf (.ref h) a l)) := l4 _ _ (by intro xs z; cases z) hx1
      have hd4 : SqT K G4 h (hv u.hd) := SqT.lk l4 (SqT.same s3' hh)
      have ln4 : G4 l = some (.lst []) := k4 _ _ lpa hl3
      have nfresh : H l = none := sG.free (by
        cases e : G l with
        | none => rfl
        | some o =>
          have := s2 _ _ (k1 _ _ lwa e)
          rw [hl2] at this
          cases this)
      have lnew : ∀ pr ∈ R, pr.l ≠ l := fun pr hpr e => by
        obtain ⟨i, hi⟩ := List.mem_iff_getElem?.mp hpr
        obtain ⟨⟨hd', a'⟩, hi2⟩ : ∃ y, L[i]? = some y := ⟨L[i]'(by have := (List.getElem?_eq_some_iff.mp hi).1; rw [PR.1] at this; exact this), by simp⟩
        have z := (PR.2 i pr hd' a' hi hi2).inn
        have z2 := s2 _ _ (k1 _ _ (lfr pr hpr).2.2 z)
        rw [e, hl2] at z2
        cases z2
      have sb := stb (u, a) List.mem_cons_self
      refine ⟨.int a, rfl, _, _, rfl, rfl, _, rfl, ?_⟩
      refine join (G := G4) (fun G5 => LKp G G5 ∧ (∀ b o, b ≠ wa → b ≠ pa → (∀ r ∈ R, b ≠ r.l) → G b = some o → G5 b = some o) ∧ G5 wa = some (.lst ws') ∧
        G5 pa = some (.lst (R.map (fun r => V.ref r.p) ++ [V.ref x1])) ∧ SqT K G5 h (hv u.hd) ∧ Parts K C G5 (R ++ [⟨x1, l, dx, h⟩]) (L ++ [(u.hd, a)])) ?_ ?_ ?_
      · rintro G5 ⟨l5, k5, w5, p5, hd5, PR5⟩
        obtain ⟨ua, ks, rfl, squ, ak⟩ := (hx.lk l5).open
        -- reversed(told[len(head):])
        have hn : ∃ n : Nat, (hv u.hd).length = n ∧ 1 ≤ n := ⟨_, rfl, by rcases hv_len u.hd with e | e <;> omega⟩
        obtain ⟨n, hvn, n1⟩ := hn
        refine ⟨.ref ua, rfl, .ref h, rfl, h, _, rfl, .inr hd5, _, rfl, ua, _, rfl, squ, fun whole => ?_, fun _ z hz => ?_⟩
        · exfalso
          rw [HT.sIx_nat, List.length_append] at whole
          omega
        have cut : cutV (hv u.hd ++ ks) (some ((hv u.hd).length : Nat)) none = ks := by
          unfold cutV
          rw [HT.sIx_nat, HT.sIx_none, Nat.min_eq_left (by rw [List.length_append]; omega), List.drop_left, List.take_of_length_le]
          rw [List.length_append]
          omega
        rw [cut]
        generalize hG6 : upd G5 z (.tup ks) = G6
        have s6 : Same G5 G6 := by rw [← hG6]; exact Same.new hz
        have sq6 : SqT K G6 z ks := SqT.of (by rw [← hG6, upd_same])
        clear hG6 hz
        have hn : ks.length = u.kids.length := ak.len
        refine ⟨z, ks, rfl, .inr ⟨sq6, ?_⟩⟩
        have sG6 : Same H G6 := fun b o e => s6 _ _ (k5 b o (fun q => by rw [q, hwa'] at e; cases e) (fun q => by rw [q, hpa] at e; cases e) (fun r hr' q => by rw [q, (lfr r hr').1] at e; cases e) (sG b o e))
        have szk := stSize_kids u (L.length : Int)
        have lk := st_len (u.kids.map fun f => (f, (L.length : Int)))
        refine RT.for_ItvT (fun i σ G7 => ∃ (ws7 : List V) (y : Option V), σ = [some v, some (.ref pa), some (.ref wa), some (.ref ua), some (.int a), some (.ref h), some (.int (L.length : Nat)), y] ∧
            LKp G6 G7 ∧ (∀ b o, b ≠ wa → G6 b = some o → G7 b = some o) ∧ G7 wa = some (.lst ws7) ∧ SA K G7 ws7 ((u.kids.drop (ks.length - i)).map (fun f => (f, (L.length : Int))) ++ st')) ?_ ?_ ?_ ?_
        · refine ⟨ws', y7, rfl, LKp.refl _, fun _ _ _ e => e, s6 _ _ w5, ?_⟩
          rw [Nat.sub_zero, hn, List.drop_length]
          exact sa'.lk (l5.trans (LKp.same s6))
        · rintro i σ G7 ⟨ws7, y, rfl, l7, _, _, _⟩
          exact SqT.lk l7 sq6
        · rintro i y σ G7 hi hy ⟨ws7, y', rfl, l7, k7, w7, sa7⟩
          obtain ⟨kf, hkf⟩ : ∃ kf, u.kids[ks.length - 1 - i]? = some kf := ⟨u.kids[ks.length - 1 - i]'(by omega), by simp⟩
          have isk : IsF K G7 y kf := ((ak.lk (LKp.same s6)).lk l7).get hy hkf
          refine ⟨.ref wa, rfl, .inl ⟨rfl, _, SqL.of w7⟩, y, rfl, .int (L.length : Nat), rfl, by show 2 ≤ sizeLine; decide, fun p hp => ?_⟩
          have s8 : Same G7 (upd G7 p (.tup [y, .int (L.length : Nat)])) := Same.new hp
          have lw7 := sa7.len
          rw [List.length_append, List.length_map, List.length_drop] at lw7
          rw [List.length_map] at lk
          refine ⟨wa, _, .ref p, rfl, rfl, s8 _ _ w7, small _ (by omega), ?_⟩
          have l9 : LKp (upd G7 p (.tup [y, .int (L.length : Nat)])) (upd (upd G7 p (.tup [y, .int (L.length : Nat)])) wa (.lst (ws7 ++ [.ref p]))) := LKp.upd (s8 _ _ w7)
          refine ⟨_, some y, rfl, l7.trans ((LKp.same s8).trans l9), fun b o nb e => ?_, upd_same, ?_⟩
          · rw [upd_ne nb]
            exact s8 _ _ (k7 b o nb e)
          · have e2 : u.kids.drop (ks.length - (i + 1)) = kf :: u.kids.drop (ks.length - i) := by
              have lt : ks.length - 1 - i < u.kids.length := by omega
              rw [show ks.length - (i + 1) = ks.length - 1 - i by omega, List.drop_eq_getElem_cons lt, show ks.length - 1 - i + 1 = ks.length - i by omega]
              congr 1
              exact Option.some.inj ((List.getElem?_eq_getElem lt).symm.trans hkf)
            rw [e2]
            exact .snoc (sa7.lk ((LKp.same s8).trans l9)) (SqT.lk l9 (SqT.of upd_same)) (isk.lk ((LKp.same s8).trans l9))
        · rintro σ G7 ⟨ws7, y, rfl, l7, k7, w7, sa7⟩
          rw [Nat.sub_self, List.drop_zero] at sa7
          have zst : stSize (u.kids.map (fun f => (f, (L.length : Int))) ++ st') + 1 = u.size + stSize st' := by
            rw [stSize_app]
            omega
          have PR7 : Parts K C G7 (R ++ [⟨x1, l, dx, h⟩]) (L ++ [(u.hd, a)]) := by
            refine ⟨PR5.1, fun i pr hd' a' e1 e2 => ?_⟩
            have z := (PR5.2 i pr hd' a' e1 e2).same s6
            have nw : pr.l ≠ wa := by
              rcases List.mem_append.mp (List.mem_of_getElem? e1) with m | m
              · exact (lfr pr m).2.2
              · rw [List.mem_singleton.mp m]
                exact lwa
            exact ⟨l7 _ _ (by intro xs q; cases q) z.ob, SqT.lk l7 z.hd, k7 _ _ nw z.inn⟩
          refine ⟨stSize (u.kids.map (fun f => (f, (L.length : Int))) ++ st'), by show _ < u.size + stSize st'; omega, R ++ [⟨x1, l, dx, h⟩], L ++ [(u.hd, a)], ws7, _, _, _, _, _, _, rfl, fun b o e => ?_, ?_, w7, sa7, PR7, ?_, ?_, ?_, ?_, rfl, ?_, ?_⟩
          · exact k7 b o (fun q => by rw [q, hwa'] at e; cases e) (sG6 b o e)
          · rw [List.map_append]
            exact k7 _ _ wpa.symm (s6 _ _ p5)
          · rw [List.map_append, List.nodup_append]
            refine ⟨nd, by simp, fun a' ha b hb => ?_⟩
            obtain ⟨r, hr', rfl⟩ := List.mem_map.mp ha
            rw [List.map_cons, List.map_nil, List.mem_singleton] at hb
            subst hb
            exact lnew r hr'
          · intro r hr'
            rcases List.mem_append.mp hr' with m | m
            · exact lfr r m
            · rw [List.mem_singleton.mp m]
              exact ⟨nfresh, lpa, lwa⟩
          · intro y hy
            rw [List.length_append, List.length_singleton]
            rcases List.mem_append.mp hy with m | m
            · obtain ⟨f', _, rfl⟩ := List.mem_map.mp m
              show (L.length : Int) < ((L.length + 1 : Nat) : Int) ∧ -1 ≤ (L.length : Int)
              omega
            · have := stb y (List.mem_cons_of_mem _ m)
              omega
          · intro y hy
            rw [List.length_append, List.length_singleton]
            rcases List.mem_append.mp hy with m | m
            · have := Lb y m
              omega
            · rw [List.mem_singleton.mp m]
              show a < _
              have := sb.1
              have e : (((u, a) : F × Int).2) = a := rfl
              omega
          · rw [List.length_append, List.length_singleton]
            omega
          · rw [← hfin, fin_step]
      · intro c rest
        have ha : 0 ≤ a := of_decide_eq_true c
        have hal : a < (L.length : Int) := sb.1
        obtain ⟨m, rfl⟩ : ∃ m : Nat, a = (m : Int) := ⟨a.toNat, by omega⟩
        have hm : m < R.length := by rw [PR.1]; omega
        obtain ⟨pr, hpr⟩ : ∃ pr, R[m]? = some pr := ⟨R[m], by simp [hm]⟩
        obtain ⟨⟨hd', a'⟩, hlr⟩ : ∃ y, L[m]? = some y := ⟨L[m]'(by omega), by simp⟩
        have z := PR.2 m pr hd' a' hpr hlr
        have prm := List.mem_of_getElem? hpr
        have ob := L14 _ _ (by intro xs q; cases q) z.ob
        have inn := K14 _ _ (lfr pr prm).2.2 (lfr pr prm).2.1 z.inn
        -- parts[around].inner.append(at)
        refine ⟨.ref pa, rfl, .int (m : Nat), rfl, pa, _, _, .ref pr.p, rfl, rfl, SqL.of p4, atI_nat (j := m) ?_, pr.p, C, pr.dx, _, .ref pr.l, rfl, ob, T.cl, T.nI, rfl, .inl ⟨rfl, _, SqL.of inn⟩, .int (L.length : Nat), rfl, pr.l, _, _, rfl, rfl, inn, ?_, ?_⟩
        · rw [List.getElem?_append_left (by rw [List.length_map]; exact hm), List.getElem?_map, hpr]
          rfl
        · rw [List.length_map]
          refine small _ ?_
          have : ∀ (A : List Int) (j i : Nat), (kidsFrom A j i).length ≤ A.length := by
            intro A
            induction A with
            | nil => intro j i; exact Nat.le_refl _
            | cons b A ih =>
              intro j i
              have := ih (j + 1) i
              simp only [kidsFrom]
              split <;> simp only [List.length_cons] <;> omega
          have := this (L.map (·.2)) 0 m
          rw [List.length_map] at this
          omega
        · have l5 : LKp G4 (upd G4 pr.l (.lst ((kidsFrom (L.map (·.2)) 0 m).map (fun n => V.int (n : Nat)) ++ [.int (L.length : Nat)]))) := LKp.upd inn
          refine rest _ ⟨L14.trans l5, fun b o n1 n2 n3 e => ?_, ?_, ?_, SqT.lk l5 hd4, ?_⟩
          · rw [upd_ne (n3 pr prm)]
            exact K14 b o n1 n2 e
          · rw [upd_ne (lfr pr prm).2.2.symm]
            exact w4
          · rw [upd_ne (lfr pr prm).2.1.symm]
            exact p4
          · refine Parts.more PR (L14.trans l5) (fun i pr' hi => ?_) Lb sb.1 ⟨l5 _ _ (by intro xs q; cases q) ob4, SqT.lk l5 hd4, ?_⟩
            · obtain ⟨⟨hd2, a2⟩, hl2'⟩ : ∃ y, L[i]? = some y := ⟨L[i]'(by have := (List.getElem?_eq_some_iff.mp hi).1; rw [PR.1] at this; exact this), by simp⟩
              by_cases e : i = m
              · subst e
                rw [hpr] at hi
                cases hi
                rw [upd_same, if_pos rfl, List.map_append]
                rfl
              · have nl : pr'.l ≠ pr.l := fun q => e (nd_ix nd (x := pr.l) (by rw [List.getElem?_map, hi, Option.map_some, q]) (by rw [List.getElem?_map, hpr]; rfl))
                rw [upd_ne nl, if_neg (by omega), List.append_nil]
                have pm' := List.mem_of_getElem? hi
                exact K14 _ _ (lfr pr' pm').2.2 (lfr pr' pm').2.1 (PR.2 i pr' hd2 a2 hi hl2').inn
            · rw [upd_ne (lnew pr prm).symm]
              exact ln4
      · intro c
        have ha : ¬ 0 ≤ a := of_decide_eq_false c
        refine ⟨L14, fun b o n1 n2 _ e => K14 b o n1 n2 e, w4, p4, hd4, ?_⟩
        refine Parts.more PR L14 (fun i pr' hi => ?_) Lb sb.1 ⟨ob4, hd4, ln4⟩
        obtain ⟨⟨hd2, a2⟩, hl2'⟩ : ∃ y, L[i]? = some y := ⟨L[i]'(by have := (List.getElem?_eq_some_iff.mp hi).1; rw [PR.1] at this; exact this), by simp⟩
        rw [if_neg (by omega), List.append_nil]
        have pm' := List.mem_of_getElem? hi
        exact K14 _ _ (lfr pr' pm').2.2 (lfr pr' pm').2.1 (PR.2 i pr' hd2 a2 hi hl2').inn
end
end Fw

set_option maxRecDepth 100000
set_option maxHeartbeats 2000000
namespace Fw
open PySem PySem.Spec PyProof.Rows L2
def Draws (H : Hp) (d : Addr) : Prop := ∃ ds : List Int, H d = some (.lst (ds.map V.int))
theorem Draws.lst {H : Hp} {d : Addr} (h : Draws H d) : IsLst H d := by
  obtain ⟨ds, e⟩ := h
  exact ⟨_, e⟩
theorem fmod_in {a b : Int} (h : 0 < b) : 0 ≤ a.fmod b ∧ a.fmod b < b := by
  rw [Int.fmod_eq_emod_of_nonneg a (Int.le_of_lt h)]
  exact ⟨Int.emod_nonneg a (by omega), Int.emod_lt_of_pos a h⟩
theorem nz1 : (1000 : Int) ≠ 0 := by decide
theorem nz2 : (2147483647 : Int) ≠ 0 := by decide
theorem nz3 : (1000003 : Int) ≠ 0 := by decide
theorem sq_small {m : Int} (h0 : 0 ≤ m) (h1 : m < 2147483647) : -(2 ^ 64) < m ∧ m < 2 ^ 64 := ⟨by omega, by omega⟩
theorem isTup {K : PySem.W.Frag} {H : Hp} {a : Addr} {xs : List V} (h : SqT K H a xs) : TyX K H (.ref a) (.type "tuple") := by
  rcases h with h | ⟨o, _, _, e, c, _⟩
  · rcases h with h | ⟨u, h⟩
    · exact .base (.tup h)
    · exact .fTuple h
  · exact .kTuple e c
theorem IsF.ty {K : PySem.W.Frag} {H : Hp} {v : V} {t : F} (h : IsF K H v t) : TyX K H v (.type "tuple") := by
  obtain ⟨a, ks, rfl, sq, _⟩ := h.open
  exact isTup sq
section
variable {P : Program} {w : World} {K : PySem.W.Frag} {mg : Str → Option Value} {base : Heap} {C J B NC FE : Addr}
/-! ### the law's draws -/
def spDraws (K : PySem.W.Frag) : Sp := fun vs H Q _ => ∃ (a : Addr) (ns : List Int) (c : Int), vs = [.ref a, .int c] ∧ SqL K H a (ns.map V.int) ∧ ns.length ≤ 63 ∧ 0 ≤ c ∧ c ≤ 1000 ∧
  ∀ d H', Same H H' → H d = none → Draws H' d → Q (.ref d) H'
theorem ok_law_draws {f : Addr} {fd : FuncData} (FF : Fun K "_law_draws" "_law_draws" s_law_draws f fd) (T : Txt K mg C J B) : FnOk P w K mg base CX0 1 f fd a_law_draws (spDraws K) := by
  refine FF.ok sc_law_draws (fun vs H Q E h => ?_) (fun cdv A outer s H vs Q E hr h => ?_)
  · obtain ⟨a, ns, c, rfl, _⟩ := h
    rfl
  · obtain ⟨a, ns, c, rfl, hS, hlen, c0, c1, k⟩ := h
    refine ⟨_, (pss_cons (ps_set (i := 2) sc_law_draws.nd rfl (.inl rfl) (pe_callTy call_list_of rfl T.z_list (by decide +kernel) (pa_cons (pv 0) pa_nil)))
      (pss_cons (ps_if (pt_cmpR op_eq (pe_callB call_len_seq rfl T.z_len (by decide +kernel) (pa_cons (pv 2) pa_nil)) pe_int (nomark _)) (pss_one (ps_set (i := 2) sc_law_draws.nd rfl (.inl rfl) (pe_lst (pa_cons pe_int pa_nil)))) pss_nil)
      (pss_cons (ps_set (i := 3) sc_law_draws.nd rfl (.inl rfl) (pe_lst pa_nil))
      (pss_cons (ps_set (i := 4) sc_law_draws.nd rfl (.inl rfl) pe_int)
      (pss_cons (ps_for PassesOwn.never rfl (pi_range1 rfl T.z_range (pa_cons (pv 1) pa_nil)) (pg_name (i := 5) sc_law_draws.nd rfl (.inl rfl)) (pss_cons (ps_set (i := 6) sc_law_draws.nd rfl (.inl rfl) (pe_op op_modN (pv 5) (pe_callB call_len_seq rfl T.z_len (by decide +kernel) (pa_cons (pv 2) pa_nil))))
      (pss_cons (ps_set (i := 7) sc_law_draws.nd rfl (.inl rfl) (pe_ix ix_list (pv 2) (pv 6) (fun _ _ => rfl)))
      (pss_cons (ps_set (i := 4) sc_law_draws.nd rfl (.inl rfl) (pe_op op_modN (pe_callTy call_int1 rfl T.z_int (by decide +kernel) (pa_cons (pe_op op_add (pe_op op_add (pe_op op_add (pe_op op_mul (pv 4) pe_int) (pe_op op_mul (pe_op op_modN (pe_callTy call_int1 rfl T.z_int (by decide +kernel) (pa_cons (pv 7) pa_nil)) pe_int) pe_int)) (pe_op op_mul (pv 5) pe_int)) pe_int) pa_nil)) pe_int))
      (pss_cons (ps_set (i := 8) sc_law_draws.nd rfl (.inl rfl) (pe_op op_modN (pe_callTy call_int1 rfl T.z_int (by decide +kernel) (pa_cons (pe_op op_add (pe_op op_add (pe_op op_mul (pv 4) (pv 4)) (pe_op op_mul pe_int (pv 4))) (pv 5)) pa_nil)) pe_int))
      (pss_one (ps_if (pt_cmpR op_ge (pv 7) (pe_op op_pow pe_int pe_int) (nomark _)) (pss_cons (ps_expr (pe_bm PySem.F.plainAttrs_list PySem.F.slot_list_append PySem.F.type_list_append mt_append (pv 3) (pa_cons (pe_op op_modN (pe_callTy call_int1 rfl T.z_int (by decide +kernel) (pa_cons (pv 7) pa_nil)) pe_int) pa_nil)))
      (pss_one (ps_asg (pe_op op_fdivN (pv 7) pe_int) (pg_sub (pv 2) (pv 6) set_list)))) (pss_one (ps_expr (pe_bm PySem.F.plainAttrs_list PySem.F.slot_list_append PySem.F.type_list_append mt_append (pv 3) (pa_cons (pe_op op_modN (pe_callTy call_int1 rfl T.z_int (by decide +kernel) (pa_cons (pv 8) pa_nil)) pe_int) pa_nil)))))))))))
      (pss_cons (ps_expr (pe_bm0 PySem.F.plainAttrs_list PySem.F.slot_list_reverse PySem.F.type_list_reverse mt_reverse (pv 3)))
      (pss_one (ps_ret (pv 3))))))))), ?_⟩
    refine ⟨.ref a, rfl, a, _, rfl, .inl hS, fun ca hca => ?_⟩
    have s1 := Same.new (o := .lst (ns.map V.int)) hca
    refine ⟨.ref ca, rfl, ca, _, rfl, .inl (SqL.of upd_same), rfl, _, rfl, ?_⟩
    have fresh : H ca = none := hca
    have goal : ∀ (cb : Addr) (cs : List Int) (G0 : Hp), Same H G0 → H cb = none → G0 cb = some (.lst (cs.map V.int)) → cs ≠ [] → cs.length ≤ 63 → True := fun _ _ _ _ _ _ _ _ => trivial
    refine ite2 (fun c => ?_) (fun c => ?_)
    · refine ⟨by show 1 ≤ sizeLine; decide, fun cb hcb => ?_⟩
      have s2 := Same.new (o := .lst [V.int 7]) hcb
      have sG0 := s1.trans s2
      have hcb0 := s1.free hcb
      have gcb : (upd (upd H ca (.lst (ns.map V.int))) cb (.lst [V.int 7])) cb = some (.lst (([7] : List Int).map V.int)) := upd_same
      generalize upd (upd H ca (.lst (ns.map V.int))) cb (.lst [V.int 7]) = G0 at sG0 gcb
      have hne : ([7] : List Int) ≠ [] := by simp
      have hl63 : ([7] : List Int).length ≤ 63 := by decide
      generalize ([7] : List Int) = cs at gcb hne hl63
      clear s2 s1 hca fresh hcb c goal hlen hS
      refine ⟨Nat.zero_le _, fun fa hfa => ?_⟩
      have s3 := Same.new (o := .lst []) hfa
      have hfa0 := sG0.free hfa
      have fcb : fa ≠ cb := fun e => by rw [e, gcb] at hfa; cases hfa
      refine ⟨.int c, rfl, c, rfl, by omega, by omega, ?_⟩
      refine for_range (lo := 0) (n := c.toNat) (fun i σ G => ∃ (cs' ds : List Int) (m : Int) (y5 y6 y7 y8 : Option V), σ = [some (.ref a), some (.int c), some (.ref cb), some (.ref fa), some (.int m), y5, y6, y7, y8] ∧ Same H G ∧
          G cb = some (.lst (cs'.map V.int)) ∧ cs'.length = cs.length ∧ G fa = some (.lst (ds.map V.int)) ∧ ds.length = i ∧ 0 ≤ m ∧ m < 2147483647)
        ⟨cs, [], 12345, none, none, none, none, rfl, sG0.trans s3, s3 _ _ gcb, rfl, upd_same, rfl, by decide, by decide⟩ ?_ ?_
      · rintro i σ G hi ⟨cs', ds, m, y5, y6, y7, y8, rfl, sG, gc, lc, gf, ld, m0, m1⟩
        have hic : (i : Int) < c := by omega
        rw [Int.zero_add]
        have lpos : 0 < cs'.length := by rw [lc]; exact List.length_pos_iff.mpr hne
        have lmap : ((cs'.map V.int).length : Int) = (cs'.length : Int) := by rw [List.length_map]
        -- j = k % len(cells)
        refine ⟨.int (i : Nat), rfl, .ref cb, rfl, cb, _, rfl, .inl (SqL.of gc), _, _, rfl, rfl, by rw [lmap]; omega, ?_⟩
        rw [lmap]
        have hj := fmod_in (a := (i : Int)) (b := (cs'.length : Int)) (by omega)
        obtain ⟨j, hJ⟩ : ∃ j : Nat, (i : Int).fmod (cs'.length : Int) = (j : Int) := ⟨((i : Int).fmod (cs'.length : Int)).toNat, by omega⟩
        rw [hJ] at hj
        have hjl : j < cs'.length := by omega
        obtain ⟨x, hx⟩ : ∃ x, cs'[j]? = some x := ⟨cs'[j], by simp [hjl]⟩
        -- cell = cells[j]
        refine ⟨.ref cb, rfl, _, rfl, cb, _, _, .int x, rfl, rfl, SqL.of gc, by rw [hJ]; exact atI_nat (j := j) (by rw [List.getElem?_map, hx]; rfl), ?_⟩
        -- mixed
        have x3 := fmod_in (a := x) (b := 1000003) (by decide)
        refine ⟨.int m, rfl, m, 48271, rfl, rfl, .inl (sq_small m0 m1), .int x, rfl, .inl ⟨x, rfl, x, 1000003, rfl, rfl, nz3, x.fmod 1000003, 69621, rfl, rfl, .inl ⟨by omega, by omega⟩, _, _, rfl, rfl, .int (i : Nat), rfl, (i : Int), 7919, rfl, rfl, .inl ⟨by omega, by omega⟩, _, _, rfl, rfl, _, 11, rfl, rfl, .inl ⟨_, rfl, _, 2147483647, rfl, rfl, nz2, ?_⟩⟩⟩
        have mm := fmod_in (a := m * 48271 + x.fmod 1000003 * 69621 + (i : Int) * 7919 + 11) (b := 2147483647) (by decide)
        -- again
        refine ⟨_, rfl, _, rfl, _, _, rfl, rfl, .inl (sq_small mm.1 mm.2), _, rfl, 31, _, rfl, rfl, .inl ⟨by decide, by decide⟩, _, _, rfl, rfl, _, rfl, _, _, rfl, rfl, .inl ⟨_, rfl, _, 1000003, rfl, rfl, nz3, ?_⟩⟩
        -- if cell >= 10 ** 18
        refine ⟨.int x, rfl, 10, 18, rfl, rfl, ⟨by decide, by decide, by decide⟩, _, _, rfl, rfl, _, rfl, ite2 (fun _ => ?_) (fun _ => ?_)⟩
        · refine ⟨.ref fa, rfl, .inl ⟨rfl, _, SqL.of gf⟩, .int x, rfl, .inl ⟨x, rfl, x, 1000, rfl, rfl, nz1, fa, _, _, rfl, rfl, gf, by rw [List.length_map]; exact small1000 (by omega), ?_⟩⟩
          have gc2 : (upd G fa (.lst (ds.map V.int ++ [V.int (x.fmod 1000)]))) cb = some (.lst (cs'.map V.int)) := by rw [upd_ne fcb.symm]; exact gc
          refine ⟨.int x, rfl, x, 1000, rfl, rfl, ⟨by decide, by decide⟩, .ref cb, rfl, _, rfl, cb, _, _, j, rfl, rfl, gc2, by rw [hJ]; unfold ixN; rw [if_pos (by omega), if_pos (by rw [List.length_map]; omega), Int.toNat_natCast], ?_⟩
          refine ⟨cs'.set j (x.fdiv 1000), ds ++ [x.fmod 1000], _, _, _, _, _, rfl, fun b o e => ?_, ?_, by rw [List.length_set]; exact lc, ?_, by rw [List.length_append, ld]; rfl, mm.1, mm.2⟩
          · rw [upd_ne (ne_of_none e hcb0), upd_ne (ne_of_none e hfa0)]
            exact sG b o e
          · rw [upd_same, List.map_set]
          · rw [upd_ne fcb, upd_same, List.map_append]
            rfl
        · refine ⟨.ref fa, rfl, .inl ⟨rfl, _, SqL.of gf⟩, _, rfl, .inl ⟨_, rfl, _, 1000, rfl, rfl, nz1, fa, _, _, rfl, rfl, gf, by rw [List.length_map]; exact small1000 (by omega), ?_⟩⟩
          obtain ⟨ag, hag⟩ : ∃ ag : Int, ag = (((m * 48271 + x.fmod 1000003 * 69621 + (i : Int) * 7919 + 11).fmod 2147483647 * (m * 48271 + x.fmod 1000003 * 69621 + (i : Int) * 7919 + 11).fmod 2147483647 + 31 * (m * 48271 + x.fmod 1000003 * 69621 + (i : Int) * 7919 + 11).fmod 2147483647 + (i : Int)).fmod 1000003).fmod 1000 := ⟨_, rfl⟩
          refine ⟨cs', ds ++ [ag], _, _, _, _, _, rfl, fun b o e => ?_, ?_, lc, ?_, by rw [List.length_append, ld]; rfl, mm.1, mm.2⟩
          · rw [upd_ne (ne_of_none e hfa0)]
            exact sG b o e
          · rw [upd_ne fcb.symm]
            exact gc
          · rw [upd_same, List.map_append, hag]
            rfl
      · rintro σ G ⟨cs', ds, m, y5, y6, y7, y8, rfl, sG, gc, lc, gf, ld, m0, m1⟩
        refine ⟨.ref fa, rfl, .inl ⟨rfl, _, SqL.of gf⟩, fa, _, rfl, rfl, gf, .ref fa, rfl, ?_⟩
        refine k fa _ (fun b o e => ?_) hfa0 ⟨ds.reverse, by rw [upd_same, List.map_reverse]⟩
        rw [upd_ne (ne_of_none e hfa0)]
        exact sG b o e
    · have hne : ns ≠ [] := fun e => c (decide_eq_true (by rw [e]; rfl))
      have sG0 := s1
      have hcb0 := fresh
      have gcb : (upd H ca (.lst (ns.map V.int))) ca = some (.lst (ns.map V.int)) := upd_same
      generalize upd H ca (.lst (ns.map V.int)) = G0 at sG0 gcb
      have hl63 := hlen
      clear s1 hca fresh c goal hlen hS
      obtain ⟨cb, ecb⟩ : ∃ cb : Addr, cb = ca := ⟨_, rfl⟩
      obtain ⟨cs, ecs⟩ : ∃ cs : List Int, cs = ns := ⟨_, rfl⟩
      subst ecb
      subst ecs
      refine ⟨Nat.zero_le _, fun fa hfa => ?_⟩
      have s3 := Same.new (o := .lst []) hfa
      have hfa0 := sG0.free hfa
      have fcb : fa ≠ cb := fun e => by rw [e, gcb] at hfa; cases hfa
      refine ⟨.int c, rfl, c, rfl, by omega, by omega, ?_⟩
      refine for_range (lo := 0) (n := c.toNat) (fun i σ G => ∃ (cs' ds : List Int) (m : Int) (y5 y6 y7 y8 : Option V), σ = [some (.ref a), some (.int c), some (.ref cb), some (.ref fa), some (.int m), y5, y6, y7, y8] ∧ Same H G ∧
          G cb = some (.lst (cs'.map V.int)) ∧ cs'.length = cs.length ∧ G fa = some (.lst (ds.map V.int)) ∧ ds.length = i ∧ 0 ≤ m ∧ m < 2147483647)
        ⟨cs, [], 12345, none, none, none, none, rfl, sG0.trans s3, s3 _ _ gcb, rfl, upd_same, rfl, by decide, by decide⟩ ?_ ?_
      · rintro i σ G hi ⟨cs', ds, m, y5, y6, y7, y8, rfl, sG, gc, lc, gf, ld, m0, m1⟩
        have hic : (i : Int) < c := by omega
        rw [Int.zero_add]
        have lpos : 0 < cs'.length := by rw [lc]; exact List.length_pos_iff.mpr hne
        have lmap : ((cs'.map V.int).length : Int) = (cs'.length : Int) := by rw [List.length_map]
        -- j = k % len(cells)
        refine ⟨.int (i : Nat), rfl, .ref cb, rfl, cb, _, rfl, .inl (SqL.of gc), _, _, rfl, rfl, by rw [lmap]; omega, ?_⟩
        rw [lmap]
        have hj := fmod_in (a := (i : Int)) (b := (cs'.length : Int)) (by omega)
        obtain ⟨j, hJ⟩ : ∃ j : Nat, (i : Int).fmod (cs'.length : Int) = (j : Int) := ⟨((i : Int).fmod (cs'.length : Int)).toNat, by omega⟩
        rw [hJ] at hj
        have hjl : j < cs'.length := by omega
        obtain ⟨x, hx⟩ : ∃ x, cs'[j]? = some x := ⟨cs'[j], by simp [hjl]⟩
        -- cell = cells[j]
        refine ⟨.ref cb, rfl, _, rfl, cb, _, _, .int x, rfl, rfl, SqL.of gc, by rw [hJ]; exact atI_nat (j := j) (by rw [List.getElem?_map, hx]; rfl), ?_⟩
        -- mixed
        have x3 := fmod_in (a := x) (b := 1000003) (by decide)
        refine ⟨.int m, rfl, m, 48271, rfl, rfl, .inl (sq_small m0 m1), .int x, rfl, .inl ⟨x, rfl, x, 1000003, rfl, rfl, nz3, x.fmod 1000003, 69621, rfl, rfl, .inl ⟨by omega, by omega⟩, _, _, rfl, rfl, .int (i : Nat), rfl, (i : Int), 7919, rfl, rfl, .inl ⟨by omega, by omega⟩, _, _, rfl, rfl, _, 11, rfl, rfl, .inl ⟨_, rfl, _, 2147483647, rfl, rfl, nz2, ?_⟩⟩⟩
        have mm := fmod_in (a := m * 48271 + x.fmod 1000003 * 69621 + (i : Int) * 7919 + 11) (b := 2147483647) (by decide)
        -- again
        refine ⟨_, rfl, _, rfl, _, _, rfl, rfl, .inl (sq_small mm.1 mm.2), _, rfl, 31, _, rfl, rfl, .inl ⟨by decide, by decide⟩, _, _, rfl, rfl, _, rfl, _, _, rfl, rfl, .inl ⟨_, rfl, _, 1000003, rfl, rfl, nz3, ?_⟩⟩
        -- if cell >= 10 ** 18
        refine ⟨.int x, rfl, 10, 18, rfl, rfl, ⟨by decide, by decide, by decide⟩, _, _, rfl, rfl, _, rfl, ite2 (fun _ => ?_) (fun _ => ?_)⟩
        · refine ⟨.ref fa, rfl, .inl ⟨rfl, _, SqL.of gf⟩, .int x, rfl, .inl ⟨x, rfl, x, 1000, rfl, rfl, nz1, fa, _, _, rfl, rfl, gf, by rw [List.length_map]; exact small1000 (by omega), ?_⟩⟩
          have gc2 : (upd G fa (.lst (ds.map V.int ++ [V.int (x.fmod 1000)]))) cb = some (.lst (cs'.map V.int)) := by rw [upd_ne fcb.symm]; exact gc
          refine ⟨.int x, rfl, x, 1000, rfl, rfl, ⟨by decide, by decide⟩, .ref cb, rfl, _, rfl, cb, _, _, j, rfl, rfl, gc2, by rw [hJ]; unfold ixN; rw [if_pos (by omega), if_pos (by rw [List.length_map]; omega), Int.toNat_natCast], ?_⟩
          refine ⟨cs'.set j (x.fdiv 1000), ds ++ [x.fmod 1000], _, _, _, _, _, rfl, fun b o e => ?_, ?_, by rw [List.length_set]; exact lc, ?_, by rw [List.length_append, ld]; rfl, mm.1, mm.2⟩
          · rw [upd_ne (ne_of_none e hcb0), upd_ne (ne_of_none e hfa0)]
            exact sG b o e
          · rw [upd_same, List.map_set]
          · rw [upd_ne fcb, upd_same, List.map_append]
            rfl
        · refine ⟨.ref fa, rfl, .inl ⟨rfl, _, SqL.of gf⟩, _, rfl, .inl ⟨_, rfl, _, 1000, rfl, rfl, nz1, fa, _, _, rfl, rfl, gf, by rw [List.length_map]; exact small1000 (by omega), ?_⟩⟩
          obtain ⟨ag, hag⟩ : ∃ ag : Int, ag = (((m * 48271 + x.fmod 1000003 * 69621 + (i : Int) * 7919 + 11).fmod 2147483647 * (m * 48271 + x.fmod 1000003 * 69621 + (i : Int) * 7919 + 11).fmod 2147483647 + 31 * (m * 48271 + x.fmod 1000003 * 69621 + (i : Int) * 7919 + 11).fmod 2147483647 + (i : Int)).fmod 1000003).fmod 1000 := ⟨_, rfl⟩
          refine ⟨cs', ds ++ [ag], _, _, _, _, _, rfl, fun b o e => ?_, ?_, lc, ?_, by rw [List.length_append, ld]; rfl, mm.1, mm.2⟩
          · rw [upd_ne (ne_of_none e hfa0)]
            exact sG b o e
          · rw [upd_ne fcb.symm]
            exact gc
          · rw [upd_same, List.map_append, hag]
            rfl
      · rintro σ G ⟨cs', ds, m, y5, y6, y7, y8, rfl, sG, gc, lc, gf, ld, m0, m1⟩
        refine ⟨.ref fa, rfl, .inl ⟨rfl, _, SqL.of gf⟩, fa, _, rfl, rfl, gf, .ref fa, rfl, ?_⟩
        refine k fa _ (fun b o e => ?_) hfa0 ⟨ds.reverse, by rw [upd_same, List.map_reverse]⟩
        rw [upd_ne (ne_of_none e hfa0)]
        exact sG b o e
/-! ### one draw -/
def spTake : Sp := fun vs H Q _ => ∃ (d : Addr) (lim : Int), vs = [.ref d, .int lim] ∧ Draws H d ∧ 0 < lim ∧ ∀ v H', 0 ≤ v → v < lim → But d H H' → Draws H' d → Q (.int v) H'
theorem ok_law_take {f : Addr} {fd : FuncData} (FF : Fun K "_law_take" "_law_take" s_law_take f fd) (T : Txt K mg C J B) : FnOk P w K mg base CX0 1 f fd a_law_take spTake := by
  refine FF.ok sc_law_take (fun vs H Q E h => ?_) (fun cdv A outer s H vs Q E hr h => ?_)
  · obtain ⟨d, lim, rfl, _⟩ := h
    rfl
  · obtain ⟨d, lim, rfl, ⟨ds, hd⟩, hl, k⟩ := h
    refine ⟨_, (pss_cons (ps_if (pt_cmpR op_eq (pe_callB call_len_seq rfl T.z_len (by decide +kernel) (pa_cons (pv 0) pa_nil)) pe_int (nomark _)) (pss_one (ps_ret pe_int)) pss_nil)
      (pss_one (ps_ret (pe_op op_modN (pe_callTy call_int1 rfl T.z_int (by decide +kernel) (pa_cons (pe_bm0 PySem.F.plainAttrs_list PySem.F.slot_list_pop PySem.F.type_list_pop mt_pop (pv 0)) pa_nil)) (pv 1))))), ?_⟩
    refine ⟨.ref d, rfl, d, _, rfl, .inl (SqL.of hd), rfl, _, rfl, ite2 (fun c => ?_) (fun c => ?_)⟩
    · exact k 0 H (Int.le_refl 0) hl (But.refl _ _) ⟨ds, hd⟩
    · have ne : ds ≠ [] := fun e => c (decide_eq_true (by rw [e]; rfl))
      obtain ⟨l, x, rfl⟩ : ∃ l x, ds = l ++ [x] := ⟨ds.dropLast, ds.getLast ne, (List.dropLast_concat_getLast ne).symm⟩
      refine ⟨.ref d, rfl, .inl ⟨rfl, _, SqL.of hd⟩, d, _, .int x, rfl, rfl, hd, by simp, .inl ⟨x, rfl, ?_⟩⟩
      have := fmod_in (a := x) hl
      refine ⟨.int lim, rfl, x, lim, rfl, rfl, by omega, ?_⟩
      refine k _ _ this.1 this.2 (fun b o nb e => by rw [upd_ne nb]; exact e) ⟨l, ?_⟩
      rw [upd_same]
      simp
/-! ### the statements in one -/
def spInner (K : PySem.W.Frag) : Sp := fun vs H Q _ => ∃ (v : V) (t : F), vs = [v] ∧ IsF K H v t ∧ ∀ l ks H', Same H H' → H' l = some (.lst ks) → AllF K H' ks t.kids → Q (.ref l) H'
theorem cut_one (xs : List V) : cutV xs (some 1) none = xs.drop 1 := by
  unfold cutV
  rw [show HT.sIx xs.length 0 (some 1) = min 1 xs.length from HT.sIx_nat _ _ 1, HT.sIx_none]
  rcases Nat.le_total 1 xs.length with h | h
  · rw [Nat.min_eq_left h, List.take_of_length_le (by rw [List.length_drop]; exact Nat.le_refl _)]
  · rw [Nat.min_eq_right h, List.drop_length, List.drop_eq_nil_of_le h]
    simp
end
end Fw

set_option maxRecDepth 100000
set_option maxHeartbeats 2000000
namespace Fw
open PySem PySem.Spec PyProof.Rows L2
theorem iteF_out {A B : Prop} (h : if false = true then A else B) : B := by
  rw [if_neg Bool.false_ne_true] at h
  exact h
theorem iteT_out {A B : Prop} (h : if true = true then A else B) : A := by
  rw [if_pos rfl] at h
  exact h
theorem Draws.but {d : Addr} {H H' : Hp} (s : ∀ o, H d = some o → H' d = some o) (h : Draws H d) : Draws H' d := by
  obtain ⟨ds, e⟩ := h
  exact ⟨ds, s _ e⟩
theorem Draws.same {d : Addr} {H H' : Hp} (s : Same H H') (h : Draws H d) : Draws H' d := h.but fun o e => s d o e
theorem SqL.but {K : PySem.W.Frag} {H H' : Hp} {a d : Addr} {xs : List V} (n : a ≠ d) (s : But d H H') (h : SqL K H a xs) : SqL K H' a xs := SqL.keepAt (fun o e => s a o n e) h
theorem two_at {α : Type} {x y : α} {v : Int} (h0 : 0 ≤ v) (h2 : v < 2) : ∃ b : Bool, atI [x, y] v = some (if b = true then x else y) := by
  have : v = 0 ∨ v = 1 := by omega
  rcases this with rfl | rfl
  · exact ⟨true, rfl⟩
  · exact ⟨false, rfl⟩
section
variable {P : Program} {w : World} {K : PySem.W.Frag} {mg : Str → Option Value} {base : Heap} {C J B NC FE : Addr}
def spAtom (K : PySem.W.Frag) : Sp := fun vs H Q _ => ∃ (d ra : Addr) (R : List Int), vs = [.ref d, .ref ra] ∧ Draws H d ∧ SqL K H ra (R.map V.int) ∧ ra ≠ d ∧ R.length ≤ 100 ∧ (∀ x ∈ R, x ∈ V4) ∧
  ∀ v t H', But d H H' → Draws H' d → IsF K H' v t → Gen 0 [] R t → Q v H'
theorem ok_law_atom {f : Addr} {fd : FuncData} (FF : Fun K "_law_atom" "_law_atom" s_law_atom f fd) (T : Txt K mg C J B) (h_law_take : Has P w K mg base "_law_take" 1 a_law_take spTake) : FnOk P w K mg base CX0 2 f fd a_law_atom (spAtom K) := by
  refine FF.ok sc_law_atom (fun vs H Q E h => ?_) (fun cdv A outer s H vs Q E hr h => ?_)
  · obtain ⟨d, ra, R, rfl, _⟩ := h
    rfl
  · obtain ⟨d, ra, R, rfl, hd, hR, nrd, hlen, hV, k⟩ := h
    refine ⟨_, (pss_cons (ps_set (i := 2) sc_law_atom.nd rfl (.inl rfl) (pe_callH h_law_take (hr.mono (by omega)) (pa_cons (pv 0) (pa_cons pe_int pa_nil))))
      (pss_cons (ps_if (PW.pt (pw_and (pt_cmpR op_gt (pe_callB call_len_seq rfl T.z_len (by decide +kernel) (pa_cons (pv 1) pa_nil)) pe_int (nomark _)) (pw_and1 (pt_cmpR op_lt (pv 2) pe_int (nomark _))))) (pss_one (ps_ret (pe_tup (pa_cons pe_str (pa_cons (pe_ix ix_list (pv 1) (pe_callH h_law_take (hr.mono (by omega)) (pa_cons (pv 0) (pa_cons (pe_callB call_len_seq rfl T.z_len (by decide +kernel) (pa_cons (pv 1) pa_nil)) pa_nil))) (fun _ _ => rfl)) pa_nil))))) pss_nil)
      (pss_cons (ps_if (pt_cmpR op_eq (pv 2) pe_int (nomark _)) (pss_one (ps_ret (pe_ix ix_list (pe_lst (pa_cons (pe_tup (pa_cons pe_str pa_nil)) (pa_cons (pe_tup (pa_cons pe_str pa_nil)) pa_nil))) (pe_callH h_law_take (hr.mono (by omega)) (pa_cons (pv 0) (pa_cons pe_int pa_nil))) (fun _ _ => rfl)))) pss_nil)
      (pss_one (ps_ret (pe_tup (pa_cons (pe_ix ix_list (pe_lst (pa_cons pe_str (pa_cons pe_str pa_nil))) (pe_callH h_law_take (hr.mono (by omega)) (pa_cons (pv 0) (pa_cons pe_int pa_nil))) (fun _ _ => rfl)) (pa_cons (pe_callH h_law_take (hr.mono (by omega)) (pa_cons (pv 0) (pa_cons pe_int pa_nil))) pa_nil)))))))), ?_⟩
    refine ⟨.ref d, rfl, d, 8, rfl, hd, by decide, fun v1 H1 v10 v18 b1 d1 => ?_⟩
    have hR1 := SqL.but nrd b1 hR
    refine ⟨.ref ra, rfl, ra, _, rfl, .inl hR1, _, _, rfl, rfl, _, rfl, ?_⟩
    rw [List.length_map]
    have nR : ∀ b o, H1 b = some o → ∀ q, H1 q = none → b ≠ q := fun b o e q hq => ne_of_none e hq
    refine ite2 (fun c => ?_) (fun c => ?_)
    · refine ⟨.int v1, rfl, _, _, rfl, rfl, _, rfl, ite2 (fun c2 => ?_) (fun c2 => ?_)⟩
      · -- a variable
        have pos : 0 < (R.length : Int) := of_decide_eq_true c
        refine ⟨.ref ra, rfl, .ref d, rfl, .ref ra, rfl, ra, _, rfl, .inl hR1, d, (R.length : Nat), by rw [List.length_map]; rfl, d1, pos, fun v2 H2 v20 v2r b2 d2 => ?_⟩
        have hR2 := SqL.but nrd b2 hR1
        obtain ⟨m, rfl⟩ : ∃ m : Nat, v2 = (m : Int) := ⟨v2.toNat, by omega⟩
        obtain ⟨x, hx⟩ : ∃ x, R[m]? = some x := ⟨R[m]'(by omega), by simp⟩
        refine ⟨ra, _, _, .int x, rfl, rfl, hR2, atI_nat (j := m) (by rw [List.getElem?_map, hx]; rfl), by show 2 ≤ sizeLine; decide, fun p hp => ?_⟩
        have s3 := Same.new (o := .tup [.str "var", .int x]) hp
        have xm := List.mem_of_getElem? hx
        exact k _ (.leaf .var x) _ ((b1.trans b2).trans (Same.but s3)) (d2.same s3) (.leaf (SqT.of upd_same)) ⟨Nat.le_refl 1, hV x xm, fun y hy => .inr (by rw [List.mem_singleton.mp hy]; exact xm)⟩
      · skip
        refine ⟨.int v1, rfl, rfl, _, rfl, ite2 (fun c3 => ?_) (fun c3 => ?_)⟩
        · refine ⟨by show 1 ≤ sizeLine; decide, fun p hp => ⟨by show 1 ≤ sizeLine; decide, fun q hq => ⟨by show 2 ≤ sizeLine; decide, fun l hl => ?_⟩⟩⟩
          have s2 := Same.new (o := .tup [.str "true"]) hp
          have s3 := Same.new (o := .tup [.str "false"]) hq
          have s4 := Same.new (o := .lst [.ref p, .ref q]) hl
          have p4 := s4 _ _ (s3 _ _ (upd_same (H := H1) (a := p) (o := .tup [.str "true"])))
          have q4 := s4 _ _ (upd_same (H := upd H1 p (.tup [.str "true"])) (a := q) (o := .tup [.str "false"]))
          have l4 := upd_same (H := upd (upd H1 p (.tup [.str "true"])) q (.tup [.str "false"])) (a := l) (o := .lst [.ref p, .ref q])
          have s14 := s2.trans (s3.trans s4)
          have ld : l ≠ d := fun e => by
            obtain ⟨ds, e2⟩ := d1
            have := (s2.trans s3) _ _ e2
            rw [← e, hl] at this
            cases this
          refine ⟨.ref d, rfl, d, 2, rfl, d1.same s14, by decide, fun v2 H2 v20 v22 b2 d2 => ?_⟩
          obtain ⟨b, hb⟩ := two_at (x := V.ref p) (y := V.ref q) v20 v22
          have l5 := b2 _ _ ld l4
          have keepT : ∀ (a : Addr) (xs : List V), SqT K _ a xs → SqT K H2 a xs := fun a xs h => SqT.but (d1.same s14).lst b2 h
          refine ⟨l, _, _, _, rfl, rfl, SqL.of l5, hb, ?_⟩
          have B2 := (b1.trans (Same.but s14)).trans b2
          cases b with
          | true => exact k _ (.nul true) _ B2 d2 (.nul (keepT _ _ (SqT.of p4))) ⟨Nat.le_refl 1, trivial, fun y hy => by cases hy⟩
          | false => exact k _ (.nul false) _ B2 d2 (.nul (keepT _ _ (SqT.of q4))) ⟨Nat.le_refl 1, trivial, fun y hy => by cases hy⟩
        · refine ⟨by show 2 ≤ sizeLine; decide, fun l hl => ?_⟩
          have s2 := Same.new (o := .lst [.str "has", .str "lacks"]) hl
          have l2 := upd_same (H := H1) (a := l) (o := .lst [.str "has", .str "lacks"])
          have ld : l ≠ d := fun e => by
            obtain ⟨ds, e2⟩ := d1
            rw [← e, hl] at e2
            cases e2
          refine ⟨.ref d, rfl, d, 2, rfl, d1.same s2, by decide, fun v2 H2 v20 v22 b2 d2 => ?_⟩
          obtain ⟨b, hb⟩ := two_at (x := V.str "has") (y := V.str "lacks") v20 v22
          refine ⟨l, _, _, _, rfl, rfl, SqL.of (b2 _ _ ld l2), hb, ?_⟩
          refine ⟨.ref d, rfl, d, 2, rfl, d2, by decide, fun v3 H3 v30 v32 b3 d3 => ?_⟩
          refine ⟨by show 2 ≤ sizeLine; decide, fun p hp => ?_⟩
          have B3 := ((b1.trans (Same.but s2)).trans b2).trans b3
          cases b with
          | true =>
            have s4 := Same.new (o := .tup [.str "has", .int v3]) hp
            exact k _ (.leaf .has v3) _ (B3.trans (Same.but s4)) (d3.same s4) (.leaf (SqT.of upd_same)) ⟨Nat.le_refl 1, ⟨v30, v32⟩, fun y hy => by cases hy⟩
          | false =>
            have s4 := Same.new (o := .tup [.str "lacks", .int v3]) hp
            exact k _ (.leaf .lacks v3) _ (B3.trans (Same.but s4)) (d3.same s4) (.leaf (SqT.of upd_same)) ⟨Nat.le_refl 1, ⟨v30, v32⟩, fun y hy => by cases hy⟩
    · refine iteF ?_
      refine ⟨.int v1, rfl, rfl, _, rfl, ite2 (fun c3 => ?_) (fun c3 => ?_)⟩
      · refine ⟨by show 1 ≤ sizeLine; decide, fun p hp => ⟨by show 1 ≤ sizeLine; decide, fun q hq => ⟨by show 2 ≤ sizeLine; decide, fun l hl => ?_⟩⟩⟩
        have s2 := Same.new (o := .tup [.str "true"]) hp
        have s3 := Same.new (o := .tup [.str "false"]) hq
        have s4 := Same.new (o := .lst [.ref p, .ref q]) hl
        have p4 := s4 _ _ (s3 _ _ (upd_same (H := H1) (a := p) (o := .tup [.str "true"])))
        have q4 := s4 _ _ (upd_same (H := upd H1 p (.tup [.str "true"])) (a := q) (o := .tup [.str "false"]))
        have l4 := upd_same (H := upd (upd H1 p (.tup [.str "true"])) q (.tup [.str "false"])) (a := l) (o := .lst [.ref p, .ref q])
        have s14 := s2.trans (s3.trans s4)
        have ld : l ≠ d := fun e => by
          obtain ⟨ds, e2⟩ := d1
          have := (s2.trans s3) _ _ e2
          rw [← e, hl] at this
          cases this
        refine ⟨.ref d, rfl, d, 2, rfl, d1.same s14, by decide, fun v2 H2 v20 v22 b2 d2 => ?_⟩
        obtain ⟨b, hb⟩ := two_at (x := V.ref p) (y := V.ref q) v20 v22
        have l5 := b2 _ _ ld l4
        have keepT : ∀ (a : Addr) (xs : List V), SqT K _ a xs → SqT K H2 a xs := fun a xs h => SqT.but (d1.same s14).lst b2 h
        refine ⟨l, _, _, _, rfl, rfl, SqL.of l5, hb, ?_⟩
        have B2 := (b1.trans (Same.but s14)).trans b2
        cases b with
        | true => exact k _ (.nul true) _ B2 d2 (.nul (keepT _ _ (SqT.of p4))) ⟨Nat.le_refl 1, trivial, fun y hy => by cases hy⟩
        | false => exact k _ (.nul false) _ B2 d2 (.nul (keepT _ _ (SqT.of q4))) ⟨Nat.le_refl 1, trivial, fun y hy => by cases hy⟩
      · refine ⟨by show 2 ≤ sizeLine; decide, fun l hl => ?_⟩
        have s2 := Same.new (o := .lst [.str "has", .str "lacks"]) hl
        have l2 := upd_same (H := H1) (a := l) (o := .lst [.str "has", .str "lacks"])
        have ld : l ≠ d := fun e => by
          obtain ⟨ds, e2⟩ := d1
          rw [← e, hl] at e2
          cases e2
        refine ⟨.ref d, rfl, d, 2, rfl, d1.same s2, by decide, fun v2 H2 v20 v22 b2 d2 => ?_⟩
        obtain ⟨b, hb⟩ := two_at (x := V.str "has") (y := V.str "lacks") v20 v22
        refine ⟨l, _, _, _, rfl, rfl, SqL.of (b2 _ _ ld l2), hb, ?_⟩
        refine ⟨.ref d, rfl, d, 2, rfl, d2, by decide, fun v3 H3 v30 v32 b3 d3 => ?_⟩
        refine ⟨by show 2 ≤ sizeLine; decide, fun p hp => ?_⟩
        have B3 := ((b1.trans (Same.but s2)).trans b2).trans b3
        cases b with
        | true =>
          have s4 := Same.new (o := .tup [.str "has", .int v3]) hp
          exact k _ (.leaf .has v3) _ (B3.trans (Same.but s4)) (d3.same s4) (.leaf (SqT.of upd_same)) ⟨Nat.le_refl 1, ⟨v30, v32⟩, fun y hy => by cases hy⟩
        | false =>
          have s4 := Same.new (o := .tup [.str "lacks", .int v3]) hp
          exact k _ (.leaf .lacks v3) _ (B3.trans (Same.but s4)) (d3.same s4) (.leaf (SqT.of upd_same)) ⟨Nat.le_refl 1, ⟨v30, v32⟩, fun y hy => by cases hy⟩
end
end Fw

set_option maxRecDepth 100000
set_option maxHeartbeats 4000000
namespace Fw
open PySem PySem.Spec PyProof.Rows L2
theorem Draws.ne {H : Hp} {d q : Addr} (h : Draws H d) (hq : H q = none) : q ≠ d := fun e => by
  obtain ⟨ds, z⟩ := h
  rw [← e, hq] at z
  cases z
theorem four_at {v : Int} (h0 : 0 ≤ v) (h4 : v < 4) : ∃ x ∈ V4, atI [V.int 0, V.int 1, V.int 2, V.int 7] v = some (.int x) := by
  have : v = 0 ∨ v = 1 ∨ v = 2 ∨ v = 3 := by omega
  rcases this with rfl | rfl | rfl | rfl
  · exact ⟨0, by decide, rfl⟩
  · exact ⟨1, by decide, rfl⟩
  · exact ⟨2, by decide, rfl⟩
  · exact ⟨7, by decide, rfl⟩
theorem V4_nonneg {x : Int} (h : x ∈ V4) : 0 ≤ x ∧ x < 8 := by
  simp only [List.mem_cons, List.not_mem_nil, or_false] at h
  omega
def ofB (b : Bool) : Int := if b = true then 1 else 0
abbrev IL (H : Hp) (a : Addr) (xs : List Int) : Prop := H a = some (.lst (xs.map V.int))
def spS (K : PySem.W.Frag) : Nat → Sp
  | 0 => fun _ _ _ _ => False
  | n + 1 => fun vs H Q _ => ∃ (d wa ra : Addr) (W R : List Int), vs = [.ref d, .int (n : Nat), .ref wa, .ref ra, .bl true] ∧ Draws H d ∧ IL H wa W ∧ IL H ra R ∧ wa ≠ d ∧ ra ≠ d ∧ W.length + R.length + n ≤ 20 ∧ (∀ x ∈ W, x ∈ V4) ∧ (∀ x ∈ R, x ∈ V4) ∧
    ∀ v t H', But d H H' → Draws H' d → IsF K H' v t → Gen n W R t → Q v H'
section
variable {P : Program} {w : World} {K : PySem.W.Frag} {mg : Str → Option Value} {base : Heap} {C J B NC FE : Addr}
theorem ok_law_statement {f : Addr} {fd : FuncData} (n : Nat) (FF : Fun K "_law_statement" "_law_statement" s_law_statement f fd) (T : Txt K mg C J B) (h_law_take : Has P w K mg base "_law_take" 1 a_law_take spTake)
    (h_law_atom : Has P w K mg base "_law_atom" 2 a_law_atom (spAtom K)) (h_law_statement : Has P w K mg base "_law_statement" (n + 2) a_law_statement (spS K n)) : FnOk P w K mg base CX0 (n + 3) f fd a_law_statement (spS K (n + 1)) := by
  refine FF.ok sc_law_statement (fun vs H Q E h => ?_) (fun cdv A outer s H vs Q E hr h => ?_)
  · obtain ⟨d, wa, ra, W, R, rfl, _⟩ := h
    rfl
  · obtain ⟨d, wa, ra, W, R, rfl, hd, hW, hR, nwd, nrd, hsz, hVW, hVR, k⟩ := h
    refine ⟨_, (pss_cons (ps_set (i := 5) sc_law_statement.nd rfl (.inl rfl) (pe_callH h_law_take (hr.mono (by omega)) (pa_cons (pv 0) (pa_cons pe_int pa_nil))))
      (pss_cons (ps_if (PW.pt (pw_or (pt_cmpR op_eq (pv 1) pe_int (nomark _)) (pw_or1 (pt_cmpR op_eq (pv 5) pe_int (nomark _))))) (pss_one (ps_ret (pe_callH h_law_atom (hr.mono (by omega)) (pa_cons (pv 0) (pa_cons (pv 3) pa_nil))))) pss_nil)
      (pss_cons (ps_if (pt_cmpR op_lt (pv 5) pe_int (nomark _)) (pss_cons (ps_set (i := 6) sc_law_statement.nd rfl (.inl rfl) (pe_callH h_law_statement (hr.mono (by omega)) (pa_cons (pv 0) (pa_cons (pe_op op_sub (pv 1) pe_int) (pa_cons (pv 2) (pa_cons (pv 3) (pa_cons (pv 4) pa_nil)))))))
      (pss_one (ps_ret (pe_tup (pa_cons (pe_ix ix_list (pe_lst (pa_cons pe_str (pa_cons pe_str pa_nil))) (pe_callTy call_int1 rfl T.z_int (by decide +kernel) (pa_cons (pe_cmpR op_gt (pv 5) pe_int (nomark _)) pa_nil)) (fun _ _ => rfl)) (pa_cons (pv 6) (pa_cons (pe_callH h_law_statement (hr.mono (by omega)) (pa_cons (pv 0) (pa_cons (pe_op op_sub (pv 1) pe_int) (pa_cons (pv 2) (pa_cons (pv 3) (pa_cons (pv 4) pa_nil)))))) pa_nil))))))) pss_nil)
      (pss_cons (ps_if (pt_cmpR op_lt (pv 5) pe_int (nomark _)) (pss_cons (ps_set (i := 7) sc_law_statement.nd rfl (.inl rfl) (pe_op op_fdivN (pe_callH h_law_take (hr.mono (by omega)) (pa_cons (pv 0) (pa_cons pe_int pa_nil))) pe_int))
      (pss_one (ps_ret (pe_tup (pa_cons (pe_ix ix_list (pe_lst (pa_cons pe_str (pa_cons pe_str pa_nil))) (pe_callH h_law_take (hr.mono (by omega)) (pa_cons (pv 0) (pa_cons pe_int pa_nil))) (fun _ _ => rfl)) (pa_cons (pv 7) (pa_cons (pe_callH h_law_statement (hr.mono (by omega)) (pa_cons (pv 0) (pa_cons (pe_op op_sub (pv 1) pe_int) (pa_cons (pe_lst pa_nil) (pa_cons (pe_op op_cat (pv 3) (pv 2)) (pa_cons (pv 4) pa_nil)))))) pa_nil))))))) pss_nil)
      (pss_cons (ps_set (i := 8) sc_law_statement.nd rfl (.inr rfl) (pe_ix ix_list (pe_lst (pa_cons pe_int (pa_cons pe_int (pa_cons pe_int (pa_cons pe_int pa_nil))))) (pe_callH h_law_take (hr.mono (by omega)) (pa_cons (pv 0) (pa_cons pe_int pa_nil))) (fun _ _ => rfl)))
      (pss_cons (ps_setLc (i := 9) (own := [("other", 11)]) (g := gName 11) rfl sc_law_statement.nd rfl rfl (sw_true rfl rfl rfl (by decide +kernel)) (pi_list (pv 2)) (blkOk_by (own := [("other", 11)]) (N := n_law_statement) (sc := defScope s_law_statement) (by decide +kernel)) (fun _ _ _ _ _ => (pg_name (i := 11) sc_law_statement.nd rfl (.inl rfl))) (fun _ _ _ _ _ => (pts_one (pt_cmpR op_ne (pv 11) (pv 8) (nomark _)))) (fun _ _ _ _ _ => (pv 11)))
      (pss_cons (ps_setLc (i := 10) (own := [("other", 11)]) (g := gName 11) rfl sc_law_statement.nd rfl rfl (sw_true rfl rfl rfl (by decide +kernel)) (pi_list (pv 3)) (blkOk_by (own := [("other", 11)]) (N := n_law_statement) (sc := defScope s_law_statement) (by decide +kernel)) (fun _ _ _ _ _ => (pg_name (i := 11) sc_law_statement.nd rfl (.inl rfl))) (fun _ _ _ _ _ => (pts_one (pt_cmpR op_ne (pv 11) (pv 8) (nomark _)))) (fun _ _ _ _ _ => (pv 11)))
      (pss_cons (ps_if (PW.pt (pw_and (pt_val (pv 4)) (pw_and1 (pt_cmpR op_eq (pe_callH h_law_take (hr.mono (by omega)) (pa_cons (pv 0) (pa_cons pe_int pa_nil))) pe_int (nomark _))))) (pss_one (ps_set (i := 10) sc_law_statement.nd rfl (.inl rfl) (pe_op op_cat (pv 10) (pe_lst (pa_cons (pv 8) pa_nil))))) (pss_one (ps_set (i := 9) sc_law_statement.nd rfl (.inl rfl) (pe_op op_cat (pv 9) (pe_lst (pa_cons (pv 8) pa_nil))))))
      (pss_one (ps_ret (pe_tup (pa_cons (pe_ix ix_list (pe_lst (pa_cons pe_str (pa_cons pe_str pa_nil))) (pe_callH h_law_take (hr.mono (by omega)) (pa_cons (pv 0) (pa_cons pe_int pa_nil))) (fun _ _ => rfl)) (pa_cons (pv 8) (pa_cons (pe_callH h_law_statement (hr.mono (by omega)) (pa_cons (pv 0) (pa_cons (pe_op op_sub (pv 1) pe_int) (pa_cons (pv 9) (pa_cons (pv 10) (pa_cons (pv 4) pa_nil)))))) pa_nil)))))))))))))), ?_⟩
    refine ⟨.ref d, rfl, d, 12, rfl, hd, by decide, fun v1 H1 v10 v112 b1 d1 => ?_⟩
    refine ⟨.int (n : Nat), rfl, rfl, _, rfl, ite2 (fun c => ?_) (fun c => ?_)⟩
    · refine iteT ?_
      refine ⟨.ref d, rfl, .ref ra, rfl, d, ra, R, rfl, d1, SqL.of (b1 _ _ nrd hR), nrd, by omega, hVR, fun v t H2 b2 d2 ht g => ?_⟩
      exact k v t H2 (b1.trans b2) d2 ht ⟨Nat.le_trans g.dep (by omega), g.ok, fun x hx => (g.fr x hx).elim (fun z => by cases z) .inr⟩
    refine ⟨.int v1, rfl, rfl, _, rfl, ite2 (fun c1 => ?_) (fun c1 => ?_)⟩
    · skip
      refine ⟨.ref d, rfl, .ref ra, rfl, d, ra, R, rfl, d1, SqL.of (b1 _ _ nrd hR), nrd, by omega, hVR, fun v t H2 b2 d2 ht g => ?_⟩
      exact k v t H2 (b1.trans b2) d2 ht ⟨Nat.le_trans g.dep (by omega), g.ok, fun x hx => (g.fr x hx).elim (fun z => by cases z) .inr⟩
    obtain ⟨m, rfl⟩ : ∃ m, n = m + 1 := by
      cases n with
      | zero => exact absurd (decide_eq_true rfl) c
      | succ m => exact ⟨m, rfl⟩
    have hW1 := b1 _ _ nwd hW
    have hR1 := b1 _ _ nrd hR
    have em : V.int (((m + 1 : Nat) : Int) - 1) = V.int (m : Nat) := by congr 1; omega
    refine ⟨.int v1, rfl, _, _, rfl, rfl, _, rfl, ite2 (fun c2 => ?_) (fun c2 => ?_)⟩
    · -- and, or
      refine ⟨.ref d, rfl, .int ((m + 1 : Nat) : Int), rfl, _, 1, rfl, rfl, .ref wa, rfl, .ref ra, rfl, .bl true, rfl, d, wa, ra, W, R, by show [V.ref d, V.int (((m + 1 : Nat) : Int) - 1), _, _, _] ++ [] = _; rw [em]; rfl, d1, hW1, hR1, nwd, nrd, by omega, hVW, hVR, fun vf tf H2 b2 d2 hf gf => ?_⟩
      refine ⟨by show 2 ≤ sizeLine; decide, fun l hl => ?_⟩
      have s3 := Same.new (o := .lst [.str "and", .str "or"]) hl
      have l3 := upd_same (H := H2) (a := l) (o := .lst [.str "and", .str "or"])
      have hW3 := s3 _ _ (b2 _ _ nwd hW1)
      have hR3 := s3 _ _ (b2 _ _ nrd hR1)
      have b3 := b1.trans (b2.trans (Same.but s3))
      have d3 := d2.same s3
      have hf3 := hf.same s3
      have word : ∃ b : Bool, atI [V.str "and", V.str "or"] (if decide (2 < v1) = true then 1 else 0) = some (.str (wT b)) := by
        by_cases q : 2 < v1
        · exact ⟨false, by rw [if_pos (decide_eq_true q)]; rfl⟩
        · exact ⟨true, by rw [if_neg (by rw [decide_eq_false q]; exact Bool.false_ne_true)]; rfl⟩
      obtain ⟨b, hb⟩ := word
      refine ⟨.int v1, rfl, _, _, rfl, rfl, .inr ⟨_, rfl, l, _, _, _, rfl, rfl, SqL.of l3, hb, ?_⟩⟩
      refine ⟨vf, rfl, ?_⟩
      refine ⟨.ref d, rfl, .int ((m + 1 : Nat) : Int), rfl, _, 1, rfl, rfl, .ref wa, rfl, .ref ra, rfl, .bl true, rfl, d, wa, ra, W, R, by show [V.ref d, V.int (((m + 1 : Nat) : Int) - 1), _, _, _] ++ [] = _; rw [em]; rfl, d3, hW3, hR3, nwd, nrd, by omega, hVW, hVR, fun vg tg H4 b4 d4 hg gg => ?_⟩
      refine ⟨by show 3 ≤ sizeLine; decide, fun p hp => ?_⟩
      have s5 := Same.new (o := .tup [.str (wT b), vf, vg]) hp
      refine k _ (.two b tf tg) _ ((b3.trans b4).trans (Same.but s5)) (d4.same s5) (.two (SqT.of upd_same) ((hf3.but d3.lst b4).same s5) (hg.same s5)) ⟨by show max tf.depth tg.depth + 1 ≤ _; have := gf.dep; have := gg.dep; omega, ⟨gf.ok, gg.ok⟩, fun y hy => ?_⟩
      rcases List.mem_append.mp (show y ∈ fv tf ++ fv tg from hy) with z | z
      · exact gf.fr y z
      · exact gg.fr y z
    refine ⟨.int v1, rfl, _, _, rfl, rfl, _, rfl, ite2 (fun c3 => ?_) (fun c3 => ?_)⟩
    · -- some, all
      refine ⟨.ref d, rfl, d, 3, rfl, d1, by decide, fun v2 H2 v20 v23 b2 d2 => ⟨v2, 2, rfl, rfl, ⟨by decide, by decide⟩, ?_⟩⟩
      have lab : 0 ≤ v2.fdiv 2 ∧ v2.fdiv 2 < 2 := by
        have : v2 = 0 ∨ v2 = 1 ∨ v2 = 2 := by omega
        rcases this with rfl | rfl | rfl <;> decide
      refine ⟨by show 2 ≤ sizeLine; decide, fun l hl => ?_⟩
      have s3 := Same.new (o := .lst [.str "some", .str "all"]) hl
      have l3 := upd_same (H := H2) (a := l) (o := .lst [.str "some", .str "all"])
      have ld := d2.ne hl
      refine ⟨.ref d, rfl, d, 2, rfl, d2.same s3, by decide, fun v4 H4 v40 v42 b4 d4 => ?_⟩
      obtain ⟨b, hb⟩ := two_at (x := V.str "some") (y := V.str "all") v40 v42
      refine ⟨l, _, _, _, rfl, rfl, SqL.of (b4 _ _ ld l3), hb, _, rfl, ?_⟩
      have hW4 := b4 _ _ nwd (s3 _ _ (b2 _ _ nwd hW1))
      have hR4 := b4 _ _ nrd (s3 _ _ (b2 _ _ nrd hR1))
      refine ⟨.ref d, rfl, .int ((m + 1 : Nat) : Int), rfl, _, 1, rfl, rfl, Nat.zero_le _, fun e he => ?_⟩
      have s5 := Same.new (o := .lst []) he
      refine ⟨.ref ra, rfl, .ref wa, rfl, ra, wa, _, _, rfl, rfl, s5 _ _ hR4, s5 _ _ hW4, by rw [List.length_map, List.length_map]; exact Nat.le_of_lt (small1000 (by omega)), fun q hq => ?_⟩
      have s6 := Same.new (o := .lst (R.map V.int ++ W.map V.int)) hq
      have ed := d4.ne he
      have qd := (d4.same s5).ne hq
      refine ⟨.bl true, rfl, d, e, q, [], R ++ W, by show [V.ref d, V.int (((m + 1 : Nat) : Int) - 1), _, _, _] ++ [] = _; rw [em]; rfl, (d4.same s5).same s6, s6 _ _ upd_same, by show _ = _; rw [upd_same, List.map_append], ed, qd, by simp; omega, by simp, fun x hx => (List.mem_append.mp hx).elim (hVR x) (hVW x), fun v f H7 b7 d7 hf g => ?_⟩
      refine ⟨by show 3 ≤ sizeLine; decide, fun p hp => ?_⟩
      have BB := (((b1.trans (b2.trans ((Same.but s3).trans b4))).trans (Same.but s5)).trans (Same.but s6)).trans b7
      have fr' : ∀ y ∈ fv f, y ∈ W ∨ y ∈ R := fun y hy => (g.fr y hy).elim (fun z => by cases z) fun z => (List.mem_append.mp z).symm
      cases b with
      | true =>
        have s9 := Same.new (o := .tup [.str "some", .int (v2.fdiv 2), v]) hp
        exact k _ (.one .some (v2.fdiv 2) f) _ (BB.trans (Same.but s9)) (d7.same s9) (.one (SqT.of upd_same) (hf.same s9)) ⟨by show f.depth + 1 ≤ _; have := g.dep; omega, ⟨by rw [if_neg (by decide)]; exact lab, g.ok⟩, fr'⟩
      | false =>
        have s9 := Same.new (o := .tup [.str "all", .int (v2.fdiv 2), v]) hp
        exact k _ (.one .all (v2.fdiv 2) f) _ (BB.trans (Same.but s9)) (d7.same s9) (.one (SqT.of upd_same) (hf.same s9)) ⟨by show f.depth + 1 ≤ _; have := g.dep; omega, ⟨by rw [if_neg (by decide)]; exact lab, g.ok⟩, fr'⟩
    -- least, most
    refine ⟨by show 4 ≤ sizeLine; decide, fun l hl => ?_⟩
    have s2 := Same.new (o := .lst [V.int 0, V.int 1, V.int 2, V.int 7]) hl
    have l2 := upd_same (H := H1) (a := l) (o := .lst [V.int 0, V.int 1, V.int 2, V.int 7])
    have ld := d1.ne hl
    refine ⟨.ref d, rfl, d, 4, rfl, d1.same s2, by decide, fun v3 H3 v30 v34 b3 d3 => ?_⟩
    obtain ⟨x, hx4, hx⟩ := four_at v30 v34
    refine ⟨l, _, _, _, rfl, rfl, SqL.of (b3 _ _ ld l2), hx, ?_⟩
    have hW3 := b3 _ _ nwd (s2 _ _ hW1)
    have hR3 := b3 _ _ nrd (s2 _ _ hR1)
    have B3 := b1.trans ((Same.but s2).trans b3)
    -- later, usable
    refine ⟨.ref wa, rfl, wa, rfl, ⟨_, SqL.of hW3⟩, fun la hla => ?_⟩
    refine lc_list (xs := W.map V.int) (fun i G => Same H3 G ∧ G la = some (.lst (((W.take i).filter (fun y => y ≠ x)).map V.int))) ⟨Same.new hla, upd_same⟩ (fun i G _ q => SqL.of (q.1 _ _ hW3)) ?_ ?_
    · rintro i y G hy ⟨sG, gl⟩
      obtain ⟨z, hz, rfl⟩ : ∃ z, W[i]? = some z ∧ y = V.int z := by
        rw [List.getElem?_map] at hy
        cases e : W[i]? with
        | none => rw [e] at hy; cases hy
        | some z => rw [e] at hy; exact ⟨z, rfl, (Option.some.inj hy).symm⟩
      refine ⟨rfl, .int z, rfl, .int x, rfl, rfl, _, rfl, ?_⟩
      have e1 : W.take (i + 1) = W.take i ++ [z] := by rw [List.take_add_one, hz]; rfl
      by_cases e : z = x
      · rw [show (!decide (V.int z = V.int x)) = false by rw [e, decide_eq_true rfl]; rfl]
        refine iteF ⟨sG, ?_⟩
        rw [gl, e1, List.filter_append, e]
        simp
      · rw [show (!decide (V.int z = V.int x)) = true by rw [decide_eq_false (fun q => e (V.int.inj q))]; rfl]
        refine iteT ⟨.int z, rfl, _, gl, ?_, fun b o e2 => by rw [upd_ne (ne_of_none e2 hla)]; exact sG b o e2, ?_⟩
        · rw [List.length_map]
          have := List.length_filter_le (fun y => decide (y ≠ x)) (W.take i)
          rw [List.length_take] at this
          exact small1000 (by omega)
        · rw [upd_same, e1, List.filter_append, List.map_append]
          simp [e]
    rintro G4 ⟨s4, gla⟩
    rw [List.length_map, List.take_length] at gla
    have hR4 := s4 _ _ hR3
    have d4 := d3.same s4
    have lad := d3.ne hla
    refine ⟨.ref ra, rfl, ra, rfl, ⟨_, SqL.of hR4⟩, fun ua hua => ?_⟩
    refine lc_list (xs := R.map V.int) (fun i G => Same G4 G ∧ G ua = some (.lst (((R.take i).filter (fun y => y ≠ x)).map V.int))) ⟨Same.new hua, upd_same⟩ (fun i G _ q => SqL.of (q.1 _ _ hR4)) ?_ ?_
    · rintro i y G hy ⟨sG, gl⟩
      obtain ⟨z, hz, rfl⟩ : ∃ z, R[i]? = some z ∧ y = V.int z := by
        rw [List.getElem?_map] at hy
        cases e : R[i]? with
        | none => rw [e] at hy; cases hy
        | some z => rw [e] at hy; exact ⟨z, rfl, (Option.some.inj hy).symm⟩
      refine ⟨rfl, .int z, rfl, .int x, rfl, rfl, _, rfl, ?_⟩
      have e1 : R.take (i + 1) = R.take i ++ [z] := by rw [List.take_add_one, hz]; rfl
      by_cases e : z = x
      · rw [show (!decide (V.int z = V.int x)) = false by rw [e, decide_eq_true rfl]; rfl]
        refine iteF ⟨sG, ?_⟩
        rw [gl, e1, List.filter_append, e]
        simp
      · rw [show (!decide (V.int z = V.int x)) = true by rw [decide_eq_false (fun q => e (V.int.inj q))]; rfl]
        refine iteT ⟨.int z, rfl, _, gl, ?_, fun b o e2 => by rw [upd_ne (ne_of_none e2 hua)]; exact sG b o e2, ?_⟩
        · rw [List.length_map]
          have := List.length_filter_le (fun y => decide (y ≠ x)) (R.take i)
          rw [List.length_take] at this
          exact small1000 (by omega)
        · rw [upd_same, e1, List.filter_append, List.map_append]
          simp [e]
    rintro G5 ⟨s5, gua⟩
    rw [List.length_map, List.take_length] at gua
    have gla5 := s5 _ _ gla
    have d5 := d4.same s5
    have uad := d4.ne hua
    have B5 := B3.trans ((Same.but s4).trans (Same.but s5))
    have hWl := List.length_filter_le (fun y => decide (y ≠ x)) W
    have hRl := List.length_filter_le (fun y => decide (y ≠ x)) R
    have hWm : ∀ y ∈ W.filter (fun y => y ≠ x), y ∈ W := fun y hy => (List.mem_filter.mp hy).1
    have hRm : ∀ y ∈ R.filter (fun y => y ≠ x), y ∈ R := fun y hy => (List.mem_filter.mp hy).1
    generalize W.filter (fun y => decide (y ≠ x)) = W2 at gla5 gla hWl hWm
    generalize R.filter (fun y => decide (y ≠ x)) = R2 at gua hRl hRm
    -- if loose and a draw is 0
    refine ⟨.bl true, rfl, true, rfl, iteT ?_⟩
    refine ⟨.ref d, rfl, d, 3, rfl, d5, by decide, fun v6 H6 v60 v63 b6 d6 => ⟨rfl, _, rfl, ite2 (fun c4 => ?_) (fun c4 => ?_)⟩⟩
    · have gla6 := b6 _ _ lad gla5
      have gua6 := b6 _ _ uad gua
      refine ⟨.ref ua, rfl, .int x, rfl, by show 1 ≤ sizeLine; decide, fun p hp => ?_⟩
      have s7 := Same.new (o := .lst [V.int x]) hp
      refine ⟨ua, p, _, _, rfl, rfl, s7 _ _ gua6, upd_same, by rw [List.length_map]; exact Nat.le_of_lt (small1000 (by show _ + 1 ≤ 1000; omega)), fun ua' hua' => ?_⟩
      have s8' := Same.new (o := .lst (R2.map V.int ++ [V.int x])) hua'
      have hl' := s8' _ _ (s7 _ _ gla6)
      have hu' : IL (upd (upd H6 p (.lst [V.int x])) ua' (.lst (R2.map V.int ++ [V.int x]))) ua' (R2 ++ [x]) := by show _ = _; rw [upd_same, List.map_append]; rfl
      have gd := (d6.same s7).same s8'
      have nu' := (d6.same s7).ne hua'
      have B : But d H (upd (upd H6 p (.lst [V.int x])) ua' (.lst (R2.map V.int ++ [V.int x]))) := (B5.trans b6).trans ((Same.but s7).trans (Same.but s8'))
      generalize upd (upd H6 p (.lst [V.int x])) ua' (.lst (R2.map V.int ++ [V.int x])) = G at hl' hu' gd B
      have nl' := lad
      have hsz' : W2.length + (R2 ++ [x]).length + m ≤ 20 := by rw [List.length_append, List.length_singleton]; omega
      have hVW' : ∀ y ∈ W2, y ∈ V4 := fun y hy => hVW y (hWm y hy)
      have hVR' : ∀ y ∈ R2 ++ [x], y ∈ V4 := fun y hy => (List.mem_append.mp hy).elim (fun z => hVR y (hRm y z)) fun z => by rw [List.mem_singleton.mp z]; exact hx4
      have hsub : ∀ y, (y ∈ W2 ∨ y ∈ R2 ++ [x]) → y ≠ x → y ∈ W ∨ y ∈ R := fun y hy ne => hy.elim (fun z => .inl (hWm y z)) fun z => (List.mem_append.mp z).elim (fun q => .inr (hRm y q)) fun q => absurd (List.mem_singleton.mp q) ne
      obtain ⟨la', ela⟩ : ∃ la' : Addr, la' = la := ⟨_, rfl⟩
      subst ela
      obtain ⟨W', eW⟩ : ∃ W' : List Int, W' = W2 := ⟨_, rfl⟩
      subst eW
      obtain ⟨R', eR⟩ : ∃ R' : List Int, R' = R2 ++ [x] := ⟨_, rfl⟩
      rw [← eR] at hu' hsz' hVR' hsub
      -- the binder: lists W' at la', R' at ua', in G
      refine ⟨by show 2 ≤ sizeLine; decide, fun l hl => ?_⟩
      have s8 := Same.new (o := .lst [.str "least", .str "most"]) hl
      have ld := gd.ne hl
      have l8 := upd_same (H := G) (a := l) (o := .lst [.str "least", .str "most"])
      refine ⟨.ref d, rfl, d, 2, rfl, gd.same s8, by decide, fun v8 H8 v80 v82 b8 d8 => ?_⟩
      obtain ⟨bb, hbb⟩ := two_at (x := V.str "least") (y := V.str "most") v80 v82
      refine ⟨l, _, _, _, rfl, rfl, SqL.of (b8 _ _ ld l8), hbb, .int x, rfl, ?_⟩
      refine ⟨.ref d, rfl, .int ((m + 1 : Nat) : Int), rfl, _, 1, rfl, rfl, .ref la', rfl, .ref ua', rfl, .bl true, rfl, d, la', ua', W', R', by rw [Int.natCast_add]; show [V.ref d, V.int ((m : Int) + 1 - 1), _, _, _] ++ [] = _; rw [Int.add_sub_cancel]; rfl, d8, b8 _ _ nl' (s8 _ _ hl'), b8 _ _ nu' (s8 _ _ hu'), nl', nu', hsz', hVW', hVR', fun v f H9 b9 d9 hf g => ?_⟩
      refine ⟨by show 3 ≤ sizeLine; decide, fun p hp => ?_⟩
      have BB := ((B.trans (Same.but s8)).trans b8).trans b9
      have fr' : ∀ y ∈ fv f, y ≠ x → y ∈ W ∨ y ∈ R := fun y hy ne => (g.fr y hy).elim (fun z => hsub y (.inl z) ne) fun z => hsub y (.inr z) ne
      cases bb with
      | true =>
        have s9 := Same.new (o := .tup [.str "least", .int x, v]) hp
        refine k _ (.one .least x f) _ (BB.trans (Same.but s9)) (d9.same s9) (.one (SqT.of upd_same) (hf.same s9)) ⟨by show f.depth + 1 ≤ _; have := g.dep; omega, ⟨(if_pos (show One.least.bind = true from rfl)).mpr hx4, g.ok⟩, fun y hy => ?_⟩
        have z := List.mem_filter.mp (show y ∈ (fv f).filter (fun y => y ≠ x) from hy)
        exact fr' y z.1 (by simpa using z.2)
      | false =>
        have s9 := Same.new (o := .tup [.str "most", .int x, v]) hp
        refine k _ (.one .most x f) _ (BB.trans (Same.but s9)) (d9.same s9) (.one (SqT.of upd_same) (hf.same s9)) ⟨by show f.depth + 1 ≤ _; have := g.dep; omega, ⟨(if_pos (show One.most.bind = true from rfl)).mpr hx4, g.ok⟩, fun y hy => ?_⟩
        have z := List.mem_filter.mp (show y ∈ (fv f).filter (fun y => y ≠ x) from hy)
        exact fr' y z.1 (by simpa using z.2)
    · have gla6 := b6 _ _ lad gla5
      have gua6 := b6 _ _ uad gua
      refine ⟨.ref la, rfl, .int x, rfl, by show 1 ≤ sizeLine; decide, fun p hp => ?_⟩
      have s7 := Same.new (o := .lst [V.int x]) hp
      refine ⟨la, p, _, _, rfl, rfl, s7 _ _ gla6, upd_same, by rw [List.length_map]; exact Nat.le_of_lt (small1000 (by show _ + 1 ≤ 1000; omega)), fun la' hla' => ?_⟩
      have s8' := Same.new (o := .lst (W2.map V.int ++ [V.int x])) hla'
      have hu' := s8' _ _ (s7 _ _ gua6)
      have hl' : IL (upd (upd H6 p (.lst [V.int x])) la' (.lst (W2.map V.int ++ [V.int x]))) la' (W2 ++ [x]) := by show _ = _; rw [upd_same, List.map_append]; rfl
      have gd := (d6.same s7).same s8'
      have nl' := (d6.same s7).ne hla'
      have B : But d H (upd (upd H6 p (.lst [V.int x])) la' (.lst (W2.map V.int ++ [V.int x]))) := (B5.trans b6).trans ((Same.but s7).trans (Same.but s8'))
      generalize upd (upd H6 p (.lst [V.int x])) la' (.lst (W2.map V.int ++ [V.int x])) = G at hl' hu' gd B
      have nu' := uad
      have hsz' : (W2 ++ [x]).length + R2.length + m ≤ 20 := by rw [List.length_append, List.length_singleton]; omega
      have hVR' : ∀ y ∈ R2, y ∈ V4 := fun y hy => hVR y (hRm y hy)
      have hVW' : ∀ y ∈ W2 ++ [x], y ∈ V4 := fun y hy => (List.mem_append.mp hy).elim (fun z => hVW y (hWm y z)) fun z => by rw [List.mem_singleton.mp z]; exact hx4
      have hsub : ∀ y, (y ∈ W2 ++ [x] ∨ y ∈ R2) → y ≠ x → y ∈ W ∨ y ∈ R := fun y hy ne => hy.elim (fun z => (List.mem_append.mp z).elim (fun q => .inl (hWm y q)) fun q => absurd (List.mem_singleton.mp q) ne) fun z => .inr (hRm y z)
      obtain ⟨ua', eua⟩ : ∃ ua' : Addr, ua' = ua := ⟨_, rfl⟩
      subst eua
      obtain ⟨R', eR⟩ : ∃ R' : List Int, R' = R2 := ⟨_, rfl⟩
      subst eR
      obtain ⟨W', eW⟩ : ∃ W' : List Int, W' = W2 ++ [x] := ⟨_, rfl⟩
      rw [← eW] at hl' hsz' hVW' hsub
      -- the binder: lists W' at la', R' at ua', in G
      refine ⟨by show 2 ≤ sizeLine; decide, fun l hl => ?_⟩
      have s8 := Same.new (o := .lst [.str "least", .str "most"]) hl
      have ld := gd.ne hl
      have l8 := upd_same (H := G) (a := l) (o := .lst [.str "least", .str "most"])
      refine ⟨.ref d, rfl, d, 2, rfl, gd.same s8, by decide, fun v8 H8 v80 v82 b8 d8 => ?_⟩
      obtain ⟨bb, hbb⟩ := two_at (x := V.str "least") (y := V.str "most") v80 v82
      refine ⟨l, _, _, _, rfl, rfl, SqL.of (b8 _ _ ld l8), hbb, .int x, rfl, ?_⟩
      refine ⟨.ref d, rfl, .int ((m + 1 : Nat) : Int), rfl, _, 1, rfl, rfl, .ref la', rfl, .ref ua', rfl, .bl true, rfl, d, la', ua', W', R', by rw [Int.natCast_add]; show [V.ref d, V.int ((m : Int) + 1 - 1), _, _, _] ++ [] = _; rw [Int.add_sub_cancel]; rfl, d8, b8 _ _ nl' (s8 _ _ hl'), b8 _ _ nu' (s8 _ _ hu'), nl', nu', hsz', hVW', hVR', fun v f H9 b9 d9 hf g => ?_⟩
      refine ⟨by show 3 ≤ sizeLine; decide, fun p hp => ?_⟩
      have BB := ((B.trans (Same.but s8)).trans b8).trans b9
      have fr' : ∀ y ∈ fv f, y ≠ x → y ∈ W ∨ y ∈ R := fun y hy ne => (g.fr y hy).elim (fun z => hsub y (.inl z) ne) fun z => hsub y (.inr z) ne
      cases bb with
      | true =>
        have s9 := Same.new (o := .tup [.str "least", .int x, v]) hp
        refine k _ (.one .least x f) _ (BB.trans (Same.but s9)) (d9.same s9) (.one (SqT.of upd_same) (hf.same s9)) ⟨by show f.depth + 1 ≤ _; have := g.dep; omega, ⟨(if_pos (show One.least.bind = true from rfl)).mpr hx4, g.ok⟩, fun y hy => ?_⟩
        have z := List.mem_filter.mp (show y ∈ (fv f).filter (fun y => y ≠ x) from hy)
        exact fr' y z.1 (by simpa using z.2)
      | false =>
        have s9 := Same.new (o := .tup [.str "most", .int x, v]) hp
        refine k _ (.one .most x f) _ (BB.trans (Same.but s9)) (d9.same s9) (.one (SqT.of upd_same) (hf.same s9)) ⟨by show f.depth + 1 ≤ _; have := g.dep; omega, ⟨(if_pos (show One.most.bind = true from rfl)).mpr hx4, g.ok⟩, fun y hy => ?_⟩
        have z := List.mem_filter.mp (show y ∈ (fv f).filter (fun y => y ≠ x) from hy)
        exact fr' y z.1 (by simpa using z.2)
end
end Fw

set_option maxRecDepth 100000
set_option maxHeartbeats 4000000
namespace Fw
open PySem PySem.Spec PyProof.Rows L2
theorem nv_N : ∀ b : Bool, V.str (wN b) ≠ V.str "var"
  | true => by decide +kernel
  | false => by decide +kernel
theorem nv_T : ∀ b : Bool, V.str (wT b) ≠ V.str "var"
  | true => by decide +kernel
  | false => by decide +kernel
theorem nv_O : ∀ k : One, V.str (wO k) ≠ V.str "var"
  | .some => by decide +kernel
  | .all => by decide +kernel
  | .least => by decide +kernel
  | .most => by decide +kernel
theorem nv_has : V.str (wL .has) ≠ V.str "var" := by decide +kernel
theorem nv_lacks : V.str (wL .lacks) ≠ V.str "var" := by decide +kernel
theorem in_ints (x : Int) : ∀ bs : List Int, inV (.int x) (bs.map V.int) = decide (x ∈ bs)
  | [] => by simp [inV]
  | b :: bs => by
    have ih := in_ints x bs
    unfold inV at ih ⊢
    rw [List.map_cons, List.any_cons, ih]
    have e : eqV (V.int b) (V.int x) = decide (x = b) := by
      show _ = _
      by_cases c : x = b
      · subst c
        simp [eqV]
      · simp [eqV, c]
        exact fun q => c q.symm
    rw [e]
    simp
theorem flat_ints (bs : List Int) : (bs.map V.int).all flatV = true := by
  induction bs with
  | nil => rfl
  | cons b bs ih => simpa [flatV] using ih
def spClosed (K : PySem.W.Frag) (n : Nat) : Sp := fun vs H Q _ => ∃ (d : Addr), vs = [.ref d, .int (n : Nat)] ∧ Draws H d ∧ n ≤ 10 ∧ ∀ v t H', But d H H' → Draws H' d → IsF K H' v t → Gen n [] [] t → Q v H'
def spFr (K : PySem.W.Frag) : Nat → Sp
  | 0 => fun _ _ _ _ => False
  | n + 1 => fun vs H Q _ => ∃ (v : V) (t : F) (ba : Addr) (bs : List Int), vs = [v, .ref ba] ∧ IsF K H v t ∧ t.depth ≤ n + 1 ∧ t.size ≤ 1000 ∧ IL H ba bs ∧ bs.length + n ≤ 100 ∧ ∀ l H', Same H H' → IL H' l (freeL t bs) → Q (.ref l) H'
theorem free_len : ∀ (t : F) (b : List Int), (freeL t b).length ≤ t.size
  | .nul _, _ => Nat.zero_le _
  | .leaf .has _, _ => Nat.zero_le _
  | .leaf .lacks _, _ => Nat.zero_le _
  | .leaf .var x, b => by
    simp only [freeL, F.size]
    split <;> simp
  | .two _ f g, b => by
    have := free_len f b
    have := free_len g b
    simp only [freeL, F.size, List.length_append]
    omega
  | .one k x f, b => by
    have h1 := free_len f (b ++ [x])
    have h2 := free_len f b
    simp only [freeL, F.size]
    split <;> omega
/-- the kids' free variables, one behind the other -/
def freeK (bs : List Int) : List F → List Int
  | [] => []
  | f :: fs => freeL f bs ++ freeK bs fs
theorem freeK_snoc (bs : List Int) : ∀ (fs : List F) (f : F), freeK bs (fs ++ [f]) = freeK bs fs ++ freeL f bs
  | [], f => by simp [freeK]
  | g :: fs, f => by simp [freeK, freeK_snoc bs fs f]
theorem freeK_kids {t : F} {bs : List Int} (nv : ∀ x, t ≠ .leaf .var x) (nb : isB t = false) : freeK bs t.kids = freeL t bs := by
  cases t with
  | nul b => rfl
  | leaf k n =>
    cases k with
    | var => exact absurd rfl (nv n)
    | has => rfl
    | lacks => rfl
  | two b f g => simp [F.kids, freeK, freeL]
  | one k n f =>
    have hk : ¬ k.bind = true := by rw [show k.bind = false from nb]; exact Bool.false_ne_true
    simp only [F.kids, freeK, freeL, if_neg hk, List.append_nil]
theorem var_word {hd : Hd} (nv : ∀ x, hd ≠ .leaf .var x) : V.str (hw hd) ≠ V.str "var" := by
  cases hd with
  | nul b => exact nv_N b
  | two b => exact nv_T b
  | one k _ => exact nv_O k
  | leaf k x =>
    cases k with
    | var => exact absurd rfl (nv x)
    | has => exact nv_has
    | lacks => exact nv_lacks
theorem kid_small {t f : F} (h : f ∈ t.kids) : f.depth + 1 ≤ t.depth ∧ f.size + 1 ≤ t.size := by
  cases t with
  | nul b => cases h
  | leaf k n => cases h
  | two b x y =>
    simp only [F.kids, List.mem_cons, List.not_mem_nil, or_false] at h
    simp only [F.depth, F.size]
    rcases h with rfl | rfl <;> omega
  | one k n x =>
    simp only [F.kids, List.mem_cons, List.not_mem_nil, or_false] at h
    subst h
    simp [F.depth, F.size]
section
variable {P : Program} {w : World} {K : PySem.W.Frag} {mg : Str → Option Value} {base : Heap} {C J B NC FE : Addr}
theorem noneOk {f : Addr} {fd : FuncData} {k : Nat} {ps : List Str} : FnOk P w K mg base CX0 k f fd ps (fun _ _ _ _ => False) :=
  ⟨fun _ _ _ _ h => h.elim, fun _ _ _ _ _ _ _ _ _ _ _ _ _ h => h.elim⟩
theorem all_statement {f : Addr} {fd : FuncData} (FF : Fun K "_law_statement" "_law_statement" s_law_statement f fd) (b : Binds K fd a_law_statement []) (m : mg "_law_statement" = some (.ref f)) (T : Txt K mg C J B)
    (h_law_take : Has P w K mg base "_law_take" 1 a_law_take spTake) (h_law_atom : Has P w K mg base "_law_atom" 2 a_law_atom (spAtom K)) : ∀ n, Has P w K mg base "_law_statement" (n + 2) a_law_statement (spS K n)
  | 0 => ⟨f, fd, m, FF.kp, b, noneOk⟩
  | n + 1 => ⟨f, fd, m, FF.kp, b, ok_law_statement n FF T h_law_take h_law_atom (all_statement FF b m T h_law_take h_law_atom n)⟩
theorem ok_law_closed {f : Addr} {fd : FuncData} (n : Nat) (FF : Fun K "_law_closed" "_law_closed" s_law_closed f fd) (h_law_statement : Has P w K mg base "_law_statement" (n + 3) a_law_statement (spS K (n + 1))) : FnOk P w K mg base CX0 (n + 4) f fd a_law_closed (spClosed K n) := by
  refine FF.ok sc_law_closed (fun vs H Q E h => ?_) (fun cdv A outer s H vs Q E hr h => ?_)
  · obtain ⟨d, rfl, _⟩ := h
    rfl
  · obtain ⟨d, rfl, hd, hn, k⟩ := h
    refine ⟨_, (pss_one (ps_ret (pe_callH h_law_statement (hr.mono (by omega)) (pa_cons (pv 0) (pa_cons (pv 1) (pa_cons (pe_lst pa_nil) (pa_cons (pe_lst pa_nil) (pa_cons pe_bl pa_nil)))))))), ?_⟩
    refine ⟨.ref d, rfl, .int (n : Nat), rfl, Nat.zero_le _, fun wa hwa => ⟨Nat.zero_le _, fun ra hra => ?_⟩⟩
    have s1 := Same.new (o := .lst []) hwa
    have s2 := Same.new (o := .lst []) hra
    have d1 := hd.same s1
    exact ⟨d, wa, ra, [], [], rfl, d1.same s2, s2 _ _ upd_same, upd_same, hd.ne hwa, d1.ne hra, by simp; omega, by simp, by simp, fun v t H' b dd ht g => k v t H' (((Same.but s1).trans (Same.but s2)).trans b) dd ht g⟩
end
end Fw

set_option maxRecDepth 100000
set_option maxHeartbeats 4000000
namespace Fw
open PySem PySem.Spec PyProof.Rows L2
/-! ### statements as data -/
def dV : V → PyData
  | .str z => .str z
  | .int i => .int i
  | _ => .none
def dF : F → PyData
  | .nul b => .tuple ((hv (.nul b)).map dV)
  | .leaf k n => .tuple ((hv (.leaf k n)).map dV)
  | .two b f g => .tuple ((hv (.two b)).map dV ++ [dF f, dF g])
  | .one k n f => .tuple ((hv (.one k n)).map dV ++ [dF f])
theorem dp_F {K : PySem.W.Frag} {H : Hp} {v : V} {t : F} (h : IsF K H v t) : Dp K H v (dF t) := by
  induction h with
  | nul h => exact .tup h (.cons (.str _) .nil)
  | leaf h => exact .tup h (.cons (.str _) (.cons (.int _) .nil))
  | two h _ _ f g => exact .tup h (.cons (.str _) (.cons f (.cons g .nil)))
  | one h _ f => exact .tup h (.cons (.str _) (.cons (.int _) (.cons f .nil)))
theorem ok_hw (h : Hd) : PyData.strOk (hw h) = true := by
  cases h with
  | nul b => cases b <;> decide +kernel
  | leaf k n =>
    show PyData.strOk (wL k) = true
    cases k <;> decide +kernel
  | two b => cases b <;> decide +kernel
  | one k n =>
    show PyData.strOk (wO k) = true
    cases k <;> decide +kernel
theorem dF_lay : ∀ t : F, (dF t).canLay0 = true
  | .nul b => by
    have := ok_hw (.nul b)
    simp only [hw] at this
    simp [dF, hv, dV, PyData.canLay0, PyData.canLayAll0, this]
  | .leaf k n => by
    have := ok_hw (.leaf k n)
    simp only [hw] at this
    simp [dF, hv, dV, PyData.canLay0, PyData.canLayAll0, this]
  | .two b f g => by
    have := ok_hw (.two b)
    simp only [hw] at this
    simp [dF, hv, dV, PyData.canLay0, PyData.canLayAll0, this, dF_lay f, dF_lay g]
  | .one k n f => by
    have := ok_hw (.one k n)
    simp only [hw] at this
    simp [dF, hv, dV, PyData.canLay0, PyData.canLayAll0, this, dF_lay f]
theorem dF_depth : ∀ t : F, (dF t).depth ≤ t.depth
  | .nul b => by simp [dF, hv, dV, PyData.depth, PyData.depthAll, F.depth]
  | .leaf k n => by simp [dF, hv, dV, PyData.depth, PyData.depthAll, F.depth]
  | .two b f g => by
    have := dF_depth f
    have := dF_depth g
    simp [dF, hv, dV, PyData.depth, PyData.depthAll, F.depth]
    omega
  | .one k n f => by
    have := dF_depth f
    simp [dF, hv, dV, PyData.depth, PyData.depthAll, F.depth]
    omega
theorem dF_shaped {t : F} (h : t.depth ≤ 64) : SeqAt.shaped (dF t) = true := by
  unfold SeqAt.shaped
  rw [dF_lay, decide_eq_true (Nat.le_trans (dF_depth t) h)]
  rfl
theorem dF_same (t : F) : PyData.eqv (dF t) (dF t) = true := SeqAt.eqv_refl _ (dF_lay t)
theorem dp_ints {K : PySem.W.Frag} {H : Hp} : ∀ ns : List Int, DpAll K H (ns.map V.int) (ns.map PyData.int)
  | [] => .nil
  | n :: ns => .cons (.int n) (dp_ints ns)
theorem ints_lay : ∀ ns : List Int, PyData.canLayAll0 (ns.map PyData.int) = true
  | [] => by simp [PyData.canLayAll0]
  | n :: ns => by simp [PyData.canLayAll0, PyData.canLay0, ints_lay ns]
theorem ints_depth : ∀ ns : List Int, PyData.depthAll (ns.map PyData.int) = 0
  | [] => by simp [PyData.depthAll]
  | n :: ns => by simp [PyData.depthAll, PyData.depth, ints_depth ns]
theorem ints_shaped (ns : List Int) : SeqAt.shaped (.list (ns.map PyData.int)) = true := by
  unfold SeqAt.shaped
  simp [PyData.canLay0, PyData.depth, ints_lay, ints_depth]
theorem ints_same (ns : List Int) : PyData.eqv (.list (ns.map PyData.int)) (.list (ns.map PyData.int)) = true := SeqAt.eqv_refl _ (by simp [PyData.canLay0, ints_lay])
/-- two rising lists of the same members are one -/
theorem rising_one : ∀ {a b : List Int}, a.Pairwise (· < ·) → b.Pairwise (· < ·) → (∀ x, x ∈ a ↔ x ∈ b) → a = b
  | [], [], _, _, _ => rfl
  | [], y :: b, _, _, h => by have := (h y).mpr List.mem_cons_self; cases this
  | x :: a, [], _, _, h => by have := (h x).mp List.mem_cons_self; cases this
  | x :: a, y :: b, ha, hb, h => by
    have ha' := List.pairwise_cons.mp ha
    have hb' := List.pairwise_cons.mp hb
    have e : x = y := by
      rcases List.mem_cons.mp ((h x).mp List.mem_cons_self) with q | q
      · exact q
      · rcases List.mem_cons.mp ((h y).mpr List.mem_cons_self) with r | r
        · exact r.symm
        · have := ha'.1 y r
          have := hb'.1 x q
          omega
    subst e
    congr 1
    refine rising_one ha'.2 hb'.2 fun z => ?_
    constructor
    · intro hz
      rcases List.mem_cons.mp ((h z).mp (List.mem_cons_of_mem _ hz)) with q | q
      · have := ha'.1 z hz
        omega
      · exact q
    · intro hz
      rcases List.mem_cons.mp ((h z).mpr (List.mem_cons_of_mem _ hz)) with q | q
      · have := hb'.1 z hz
        omega
      · exact q
def isOneH : Hd → Bool
  | .one _ _ => true
  | _ => false
theorem in_four (h : Hd) : inV (.str (hw h)) [.str "least", .str "most", .str "some", .str "all"] = isOneH h := by
  cases h with
  | nul b => cases b <;> rfl
  | leaf k n => cases k <;> rfl
  | two b => cases b <;> rfl
  | one k n => cases k <;> rfl
section
variable {P : Program} {w : World} {K : PySem.W.Frag} {mg : Str → Option Value} {base : Heap} {C J B NC FE : Addr}
end
end Fw

set_option maxRecDepth 100000
set_option maxHeartbeats 8000000
namespace Fw
open PySem PySem.Spec PyProof.Rows L2
theorem isB_hdP (s : F) : isBH s.hd = isB s := by cases s <;> rfl
theorem kF {a b : Str} {A B : Prop} (n : a ≠ b) (h : B) : if decide (V.str a = V.str b) = true then A else B :=
  (if_neg (by rw [decide_eq_false (fun e : V.str a = V.str b => n (by injection e))]; exact Bool.false_ne_true)).mpr h
theorem kT {a : Str} {A B : Prop} (h : A) : if decide (V.str a = V.str a) = true then A else B := (if_pos (decide_eq_true rfl)).mpr h
theorem digit_str {n : Int} (h0 : 0 ≤ n) (h9 : n < 9) : ((toString n : String) : Str) = sL [dg n] := by
  have : n = 0 ∨ n = 1 ∨ n = 2 ∨ n = 3 ∨ n = 4 ∨ n = 5 ∨ n = 6 ∨ n = 7 ∨ n = 8 := by omega
  rcases this with rfl | rfl | rfl | rfl | rfl | rfl | rfl | rfl | rfl <;> decide +kernel
theorem digit_log {n : Int} (h0 : 0 ≤ n) (h9 : n < 9) : n.natAbs.log2 < 1920 := by
  have : n = 0 ∨ n = 1 ∨ n = 2 ∨ n = 3 ∨ n = 4 ∨ n = 5 ∨ n = 6 ∨ n = 7 ∨ n = 8 := by omega
  rcases this with rfl | rfl | rfl | rfl | rfl | rfl | rfl | rfl | rfl <;> decide +kernel
theorem txl (t : Tk) : (tx t).length ≤ 5 := by
  cases t with
  | sg b => cases b <;> decide
  | bd k => cases k <;> decide
  | pr k n => cases k <;> exact Nat.le_of_ble_eq_true rfl
  | nl b => cases b <;> decide
  | lf k n => cases k <;> exact Nat.le_of_ble_eq_true rfl
  | _ => decide
theorem flat_len : ∀ t : F, (flat (body t)).length + 2 ≤ 20 * t.size
  | .nul b => by cases b <;> decide
  | .leaf k n => by cases k <;> exact Nat.le_of_ble_eq_true rfl
  | .two b f g => by
    have hf := flat_len f
    have hg := flat_len g
    have w : ∀ (t : F) (r : Nat), (flat (wrap t (body t) r)).length ≤ (flat (body t)).length + 2 := fun t r => by
      unfold wrap
      split
      · rw [flat_app, flat_app]
        simp [flat, tx]
      · omega
    have s : ∀ b, (flat [none, some (.sg b), none]).length = 3 := fun b => by cases b <;> rfl
    simp only [F.size]
    cases b
    · have h1 := w f 1
      have h2 := w g 2
      have e : flat (body (.two false f g)) = flat (wrap f (body f) 1) ++ flat [none, some (.sg false), none] ++ flat (wrap g (body g) 2) := by rw [← flat_app, ← flat_app]; rfl
      rw [e, List.length_append, List.length_append, s]
      omega
    · have h1 := w f 2
      have h2 := w g 3
      have e : flat (body (.two true f g)) = flat (wrap f (body f) 2) ++ flat [none, some (.sg true), none] ++ flat (wrap g (body g) 3) := by rw [← flat_app, ← flat_app]; rfl
      rw [e, List.length_append, List.length_append, s]
      omega
  | .one k n f => by
    have hf := flat_len f
    have w : ∀ (t : F) (r : Nat), (flat (wrap t (body t) r)).length ≤ (flat (body t)).length + 2 := fun t r => by
      unfold wrap
      split
      · rw [flat_app, flat_app]
        simp [flat, tx]
      · omega
    simp only [F.size, body]
    split
    · have h1 := w f 0
      have e : (flat [some (.bd k), none, some (.lf .var n), some .dot, none]).length = 7 := by cases k <;> rfl
      rw [flat_app, List.length_append, e]
      omega
    · have h1 := w f 3
      have e : (flat [some (.pr k n), none]).length = 4 := by cases k <;> rfl
      rw [flat_app, List.length_append, e]
      omega
theorem wrap_len (t : F) (r : Nat) : (flat (wrap t (body t) r)).length ≤ 20 * t.size := by
  have := flat_len t
  unfold wrap
  split
  · rw [flat_app, flat_app]
    have e1 : (flat [some .lp]).length = 1 := rfl
    have e2 : (flat [some .rp]).length = 1 := rfl
    rw [List.length_append, List.length_append, e1, e2]
    omega
  · omega
theorem big_line {n : Nat} (h : n ≤ 100000) : n ≤ sizeLine := Nat.le_trans h (by decide)
theorem lit_mu : (Str.ofString "mu") = sL [109, 117] := by decide +kernel
theorem lit_nu : (Str.ofString "nu") = sL [110, 117] := by decide +kernel
theorem lit_sx : (Str.ofString " x") = sL [32, 120] := by decide +kernel
theorem lit_ds : (Str.ofString ". ") = sL [46, 32] := by decide +kernel
theorem lit_bar : (Str.ofString " | ") = sL [32, 124, 32] := by decide +kernel
theorem lit_amp : (Str.ofString " & ") = sL [32, 38, 32] := by decide +kernel
theorem lit_lt : (Str.ofString "<") = sL [60] := by decide +kernel
theorem lit_gs : (Str.ofString "> ") = sL [62, 32] := by decide +kernel
theorem lit_lb : (Str.ofString "[") = sL [91] := by decide +kernel
theorem lit_rs : (Str.ofString "] ") = sL [93, 32] := by decide +kernel
theorem lit_p : (Str.ofString "p") = sL [112] := by decide +kernel
theorem lit_np : (Str.ofString "!p") = sL [33, 112] := by decide +kernel
theorem lit_x : (Str.ofString "x") = sL [120] := by decide +kernel
theorem lit_tt : (Str.ofString "true") = sL [116, 114, 117, 101] := by decide +kernel
theorem lit_ff : (Str.ofString "false") = sL [102, 97, 108, 115, 101] := by decide +kernel
theorem len_app (a b : Str) : (a ++ b).length = a.length + b.length := by
  show (a.cps ++ b.cps).size = _
  rw [Array.size_append]
  rfl
/-- the printed text -/
def pT (t : F) (r : Nat) : Str := sL (flat (wrap t (body t) r))
theorem pT_len {t : F} (h : t.size ≤ 1000) (r : Nat) : (pT t r).length ≤ 20000 := by
  unfold pT
  rw [sL_len]
  have := wrap_len t r
  omega
theorem pT_wrap (t : F) (r : Nat) : pT t r = if own t < r then "(" ++ sL (flat (body t)) ++ ")" else sL (flat (body t)) := by
  unfold pT wrap
  by_cases c : own t < r
  · rw [if_pos c, if_pos c, flat_app, flat_app, ← sL_app, ← sL_app]
    have e1 : ("(" : Str) = sL (flat [some .lp]) := by decide +kernel
    have e2 : (")" : Str) = sL (flat [some .rp]) := by decide +kernel
    rw [e1, e2]
  · rw [if_neg c, if_neg c]
section
variable {P : Program} {w : World} {K : PySem.W.Frag} {mg : Str → Option Value} {base : Heap} {C J B NC FE OD : Addr}
def spPr (K : PySem.W.Frag) : Nat → Sp
  | 0 => fun _ _ _ _ => False
  | n + 1 => fun vs H Q _ => ∃ (v : V) (t : F) (r : Nat), vs = [v, .int (r : Nat)] ∧ IsF K H v t ∧ Ok t ∧ t.depth ≤ n + 1 ∧ t.size ≤ 1000 ∧ ∀ H', Same H H' → Q (.str (pT t r)) H'
abbrev mnK : List (Key × V) := mergeK [] [(Sum.inr "least", V.str "mu"), (Sum.inr "most", V.str "nu")]
abbrev atK : List (Key × V) := mergeK [] [(Sum.inr "true", V.str "true"), (Sum.inr "false", V.str "false"), (Sum.inr "has", V.str "p"), (Sum.inr "lacks", V.str "!p"), (Sum.inr "var", V.str "x")]
theorem ok_law_printed {f : Addr} {fd : FuncData} (n : Nat) (FF : Fun K "_law_printed" "_law_printed" s_law_printed f fd) (T : Txt K mg C J B)
    (h_law_printed : Has P w K mg base "_law_printed" (n + 1) a_law_printed (spPr K n)) : FnOk P w K mg base CX0 (n + 2) f fd a_law_printed (spPr K (n + 1)) := by
  refine FF.ok sc_law_printed (fun vs H Q E h => ?_) (fun cdv A outer s H vs Q E hr h => ?_)
  · obtain ⟨v, t, r, rfl, _⟩ := h
    rfl
  · obtain ⟨v, t, r, rfl, ht, ok, hdep, hsz, k⟩ := h
    have hu := hu_of hr
    refine ⟨_, (pss_cons (ps_set (i := 2) sc_law_printed.nd rfl (.inl rfl) (pe_ix ix_tup (pv 0) pe_int (fun _ _ => rfl)))
      (pss_cons (ps_set (i := 3) sc_law_printed.nd rfl (.inl rfl) pe_int)
      (pss_cons (ps_if (pt_cmpR op_in_seq (pv 2) (pe_tup (pa_cons pe_str (pa_cons pe_str pa_nil))) (by rfl)) (pss_cons (ps_set (i := 3) sc_law_printed.nd rfl (.inl rfl) pe_int)
      (pss_one (ps_set (i := 4) sc_law_printed.nd rfl (.inl rfl) (pe_op op_add_str (pe_op op_add_str (pe_op op_add_str (pe_op op_add_str (pe_dget hu (pe_disp (pps_cons pe_str pe_str (pps_cons pe_str pe_str pps_nil)) (by rfl) (by rfl) (fun z => by cases z) (by decide)) (pv 2) (fun _ _ => rfl)) pe_str) (pe_callTy call_str_int rfl T.z_str (by decide +kernel) (pa_cons (pe_ix ix_tup (pv 0) pe_int (fun _ _ => rfl)) pa_nil))) pe_str) (pe_callH h_law_printed (hr.mono (by omega)) (pa_cons (pe_ix ix_tup (pv 0) pe_int (fun _ _ => rfl)) (pa_cons pe_int pa_nil))))))) (pss_one (ps_if (pt_cmpR op_eq (pv 2) pe_str (nomark _)) (pss_cons (ps_set (i := 3) sc_law_printed.nd rfl (.inl rfl) pe_int)
      (pss_one (ps_set (i := 4) sc_law_printed.nd rfl (.inl rfl) (pe_op op_add_str (pe_op op_add_str (pe_callH h_law_printed (hr.mono (by omega)) (pa_cons (pe_ix ix_tup (pv 0) pe_int (fun _ _ => rfl)) (pa_cons pe_int pa_nil))) pe_str) (pe_callH h_law_printed (hr.mono (by omega)) (pa_cons (pe_ix ix_tup (pv 0) pe_int (fun _ _ => rfl)) (pa_cons pe_int pa_nil))))))) (pss_one (ps_if (pt_cmpR op_eq (pv 2) pe_str (nomark _)) (pss_cons (ps_set (i := 3) sc_law_printed.nd rfl (.inl rfl) pe_int)
      (pss_one (ps_set (i := 4) sc_law_printed.nd rfl (.inl rfl) (pe_op op_add_str (pe_op op_add_str (pe_callH h_law_printed (hr.mono (by omega)) (pa_cons (pe_ix ix_tup (pv 0) pe_int (fun _ _ => rfl)) (pa_cons pe_int pa_nil))) pe_str) (pe_callH h_law_printed (hr.mono (by omega)) (pa_cons (pe_ix ix_tup (pv 0) pe_int (fun _ _ => rfl)) (pa_cons pe_int pa_nil))))))) (pss_one (ps_if (pt_cmpR op_eq (pv 2) pe_str (nomark _)) (pss_cons (ps_set (i := 3) sc_law_printed.nd rfl (.inl rfl) pe_int)
      (pss_one (ps_set (i := 4) sc_law_printed.nd rfl (.inl rfl) (pe_op op_add_str (pe_op op_add_str (pe_op op_add_str pe_str (pe_callTy call_str_int rfl T.z_str (by decide +kernel) (pa_cons (pe_ix ix_tup (pv 0) pe_int (fun _ _ => rfl)) pa_nil))) pe_str) (pe_callH h_law_printed (hr.mono (by omega)) (pa_cons (pe_ix ix_tup (pv 0) pe_int (fun _ _ => rfl)) (pa_cons pe_int pa_nil))))))) (pss_one (ps_if (pt_cmpR op_eq (pv 2) pe_str (nomark _)) (pss_cons (ps_set (i := 3) sc_law_printed.nd rfl (.inl rfl) pe_int)
      (pss_one (ps_set (i := 4) sc_law_printed.nd rfl (.inl rfl) (pe_op op_add_str (pe_op op_add_str (pe_op op_add_str pe_str (pe_callTy call_str_int rfl T.z_str (by decide +kernel) (pa_cons (pe_ix ix_tup (pv 0) pe_int (fun _ _ => rfl)) pa_nil))) pe_str) (pe_callH h_law_printed (hr.mono (by omega)) (pa_cons (pe_ix ix_tup (pv 0) pe_int (fun _ _ => rfl)) (pa_cons pe_int pa_nil))))))) (pss_cons (ps_set (i := 4) sc_law_printed.nd rfl (.inl rfl) (pe_dget hu (pe_disp (pps_cons pe_str pe_str (pps_cons pe_str pe_str (pps_cons pe_str pe_str (pps_cons pe_str pe_str (pps_cons pe_str pe_str pps_nil))))) (by rfl) (by rfl) (fun z => by cases z) (by decide)) (pv 2) (fun _ _ => rfl)))
      (pss_one (ps_if (pt_cmpR op_gt (pe_callB call_len_seq rfl T.z_len (by decide +kernel) (pa_cons (pv 0) pa_nil)) pe_int (nomark _)) (pss_one (ps_set (i := 4) sc_law_printed.nd rfl (.inl rfl) (pe_op op_add_str (pv 4) (pe_callTy call_str_int rfl T.z_str (by decide +kernel) (pa_cons (pe_ix ix_tup (pv 0) pe_int (fun _ _ => rfl)) pa_nil))))) pss_nil))))))))))))
      (pss_cons (ps_if (pt_cmpR op_lt (pv 3) (pv 1) (nomark _)) (pss_one (ps_ret (pe_op op_add_str (pe_op op_add_str pe_str (pv 4)) pe_str))) pss_nil)
      (pss_one (ps_ret (pv 4))))))), ?_⟩
    obtain ⟨a, ks, rfl, sq, ak⟩ := ht.open
    have at0 : atI (hv t.hd ++ ks) 0 = some (.str (hw t.hd)) := atI_nat (j := 0) (by rw [List.getElem?_append_left (by rcases hv_len t.hd with e | e <;> omega)]; exact hv_head _)
    have bl : (sL (flat (body t))).length + 2 ≤ 20000 := by rw [sL_len]; have := flat_len t; omega
    refine ⟨.ref a, rfl, a, _, _, _, rfl, rfl, sq, at0, ?_⟩
    refine ⟨.str (hw t.hd), rfl, by show 2 ≤ sizeLine; decide, fun p hp => ⟨p, _, rfl, .inr (SqT.of upd_same), rfl, rfl, _, rfl, ?_⟩⟩
    rw [if_neg Bool.false_ne_true, in_binders, isB_hdP]
    have s1 := Same.new (o := .tup [.str "least", .str "most"]) hp
    generalize upd H p (.tup [.str "least", .str "most"]) = H1 at s1
    have sq1 := SqT.same s1 sq
    have ak1 := ak.lk (LKp.same s1)
    have k1 : ∀ H', Same H1 H' → Q (.str (pT t r)) H' := fun H' s' => k H' (s1.trans s')
    rw [pT_wrap] at k1
    clear k sq ak s1 ht
    cases t with
    | nul b =>
      cases ak1
      refine iteF ?_
      cases b with
      | false =>
        refine ⟨.str "false", rfl, rfl, _, rfl, kF (by decide) ?_⟩
        refine ⟨.str "false", rfl, rfl, _, rfl, kF (by decide) ?_⟩
        refine ⟨.str "false", rfl, rfl, _, rfl, kF (by decide) ?_⟩
        refine ⟨.str "false", rfl, rfl, _, rfl, kF (by decide) ?_⟩
        intro p2 hp2
        refine ⟨upd_same, [(Sum.inr "true", V.str "true"), (Sum.inr "false", V.str "false"), (Sum.inr "has", V.str "p"), (Sum.inr "lacks", V.str "!p"), (Sum.inr "var", V.str "x")], rfl, by decide, ?_⟩
        have s2 : Same H1 (upd (upd H1 p2 (.dK [])) p2 (.dK atK)) := fun b o e => by
          rw [upd_ne (ne_of_none e hp2), upd_ne (ne_of_none e hp2)]
          exact e
        have hD : (upd (upd H1 p2 (.dK [])) p2 (.dK atK)) p2 = some (.dK atK) := upd_same
        generalize upd (upd H1 p2 (.dK [])) p2 (.dK atK) = H2 at s2 hD
        have sq2 := SqT.same s2 sq1
        have hget : DGet H2 p2 (.str "false") (some (.str "false")) := DGet.k (k := Sum.inr "false") hD
        refine ⟨.str "false", rfl, p2, _, rfl, hget, ?_⟩
        refine ⟨.ref a, rfl, a, _, rfl, .inr sq2, _, _, rfl, rfl, _, rfl, ite2 (fun c => absurd (of_decide_eq_true c) (by show ¬ (1 : Int) < 1; decide)) (fun _ => ?_)⟩
        have sF := s2
        have e : (Str.ofString "false") = sL (flat (body (.nul false))) := by decide +kernel
        rw [e]
        refine ⟨.int 4, rfl, .int (r : Nat), rfl, _, _, rfl, rfl, _, rfl, ite2 (fun c => ?_) (fun c => ?_)⟩
        · have c0 : (4 : Int) < (r : Int) := of_decide_eq_true c
          have c' : own (.nul false) < r := by show 4 < r; omega
          rw [if_pos c'] at k1
          refine ⟨_, rfl, _, _, rfl, rfl, big_line (by rw [show (Str.ofString "(").length = 1 from by decide +kernel]; omega), _, _, rfl, rfl, big_line (by rw [len_app, show (Str.ofString "(").length = 1 from by decide +kernel, show (Str.ofString ")").length = 1 from by decide +kernel]; omega), ?_⟩
          exact k1 _ sF
        · have c' : ¬ own (.nul false) < r := by
            show ¬ 4 < r
            intro z
            exact c (decide_eq_true (show (4 : Int) < (r : Int) by omega))
          rw [if_neg c'] at k1
          exact ⟨_, rfl, k1 _ sF⟩
      | true =>
        refine ⟨.str "true", rfl, rfl, _, rfl, kF (by decide) ?_⟩
        refine ⟨.str "true", rfl, rfl, _, rfl, kF (by decide) ?_⟩
        refine ⟨.str "true", rfl, rfl, _, rfl, kF (by decide) ?_⟩
        refine ⟨.str "true", rfl, rfl, _, rfl, kF (by decide) ?_⟩
        intro p2 hp2
        refine ⟨upd_same, [(Sum.inr "true", V.str "true"), (Sum.inr "false", V.str "false"), (Sum.inr "has", V.str "p"), (Sum.inr "lacks", V.str "!p"), (Sum.inr "var", V.str "x")], rfl, by decide, ?_⟩
        have s2 : Same H1 (upd (upd H1 p2 (.dK [])) p2 (.dK atK)) := fun b o e => by
          rw [upd_ne (ne_of_none e hp2), upd_ne (ne_of_none e hp2)]
          exact e
        have hD : (upd (upd H1 p2 (.dK [])) p2 (.dK atK)) p2 = some (.dK atK) := upd_same
        generalize upd (upd H1 p2 (.dK [])) p2 (.dK atK) = H2 at s2 hD
        have sq2 := SqT.same s2 sq1
        have hget : DGet H2 p2 (.str "true") (some (.str "true")) := DGet.k (k := Sum.inr "true") hD
        refine ⟨.str "true", rfl, p2, _, rfl, hget, ?_⟩
        refine ⟨.ref a, rfl, a, _, rfl, .inr sq2, _, _, rfl, rfl, _, rfl, ite2 (fun c => absurd (of_decide_eq_true c) (by show ¬ (1 : Int) < 1; decide)) (fun _ => ?_)⟩
        have sF := s2
        have e : (Str.ofString "true") = sL (flat (body (.nul true))) := by decide +kernel
        rw [e]
        refine ⟨.int 4, rfl, .int (r : Nat), rfl, _, _, rfl, rfl, _, rfl, ite2 (fun c => ?_) (fun c => ?_)⟩
        · have c0 : (4 : Int) < (r : Int) := of_decide_eq_true c
          have c' : own (.nul true) < r := by show 4 < r; omega
          rw [if_pos c'] at k1
          refine ⟨_, rfl, _, _, rfl, rfl, big_line (by rw [show (Str.ofString "(").length = 1 from by decide +kernel]; omega), _, _, rfl, rfl, big_line (by rw [len_app, show (Str.ofString "(").length = 1 from by decide +kernel, show (Str.ofString ")").length = 1 from by decide +kernel]; omega), ?_⟩
          exact k1 _ sF
        · have c' : ¬ own (.nul true) < r := by
            show ¬ 4 < r
            intro z
            exact c (decide_eq_true (show (4 : Int) < (r : Int) by omega))
          rw [if_neg c'] at k1
          exact ⟨_, rfl, k1 _ sF⟩
    | leaf kd x =>
      cases ak1
      have x09 : 0 ≤ x ∧ x < 9 := by
        cases kd with
        | var => have := V4_nonneg (show x ∈ V4 from ok); omega
        | has => have := ok.1; have := ok.2; omega
        | lacks => have := ok.1; have := ok.2; omega
      have at1 : atI (hv (F.leaf kd x).hd ++ []) 1 = some (.int x) := atI_nat (j := 1) rfl
      refine iteF ?_
      cases kd with
      | has =>
        refine ⟨.str "has", rfl, rfl, _, rfl, kF (by decide) ?_⟩
        refine ⟨.str "has", rfl, rfl, _, rfl, kF (by decide) ?_⟩
        refine ⟨.str "has", rfl, rfl, _, rfl, kF (by decide) ?_⟩
        refine ⟨.str "has", rfl, rfl, _, rfl, kF (by decide) ?_⟩
        intro p2 hp2
        refine ⟨upd_same, [(Sum.inr "true", V.str "true"), (Sum.inr "false", V.str "false"), (Sum.inr "has", V.str "p"), (Sum.inr "lacks", V.str "!p"), (Sum.inr "var", V.str "x")], rfl, by decide, ?_⟩
        have s2 : Same H1 (upd (upd H1 p2 (.dK [])) p2 (.dK atK)) := fun b o e => by
          rw [upd_ne (ne_of_none e hp2), upd_ne (ne_of_none e hp2)]
          exact e
        have hD : (upd (upd H1 p2 (.dK [])) p2 (.dK atK)) p2 = some (.dK atK) := upd_same
        generalize upd (upd H1 p2 (.dK [])) p2 (.dK atK) = H2 at s2 hD
        have sq2 := SqT.same s2 sq1
        have hget : DGet H2 p2 (.str "has") (some (.str "p")) := DGet.k (k := Sum.inr "has") hD
        refine ⟨.str "has", rfl, p2, _, rfl, hget, ?_⟩
        refine ⟨.ref a, rfl, a, _, rfl, .inr sq2, _, _, rfl, rfl, _, rfl, ite2 (fun _ => ?_) (fun c => absurd (decide_eq_true (show (1 : Int) < 2 by decide)) c)⟩
        refine ⟨_, rfl, .ref a, rfl, a, _, 1, .int x, rfl, rfl, sq2, at1, x, rfl, digit_log x09.1 x09.2, _, _, rfl, rfl, big_line (by rw [digit_str x09.1 x09.2, sL_len, lit_p, sL_len]; simp), ?_⟩
        have sF := s2
        have e : (Str.ofString "p") ++ ((toString x : String) : Str) = sL (flat (body (.leaf .has x))) := by
          rw [digit_str x09.1 x09.2, lit_p, sL_app]
          rfl
        rw [e]
        refine ⟨.int 4, rfl, .int (r : Nat), rfl, _, _, rfl, rfl, _, rfl, ite2 (fun c => ?_) (fun c => ?_)⟩
        · have c0 : (4 : Int) < (r : Int) := of_decide_eq_true c
          have c' : own (.leaf .has x) < r := by show 4 < r; omega
          rw [if_pos c'] at k1
          refine ⟨_, rfl, _, _, rfl, rfl, big_line (by rw [show (Str.ofString "(").length = 1 from by decide +kernel]; omega), _, _, rfl, rfl, big_line (by rw [len_app, show (Str.ofString "(").length = 1 from by decide +kernel, show (Str.ofString ")").length = 1 from by decide +kernel]; omega), ?_⟩
          exact k1 _ sF
        · have c' : ¬ own (.leaf .has x) < r := by
            show ¬ 4 < r
            intro z
            exact c (decide_eq_true (show (4 : Int) < (r : Int) by omega))
          rw [if_neg c'] at k1
          exact ⟨_, rfl, k1 _ sF⟩
      | lacks =>
        refine ⟨.str "lacks", rfl, rfl, _, rfl, kF (by decide) ?_⟩
        refine ⟨.str "lacks", rfl, rfl, _, rfl, kF (by decide) ?_⟩
        refine ⟨.str "lacks", rfl, rfl, _, rfl, kF (by decide) ?_⟩
        refine ⟨.str "lacks", rfl, rfl, _, rfl, kF (by decide) ?_⟩
        intro p2 hp2
        refine ⟨upd_same, [(Sum.inr "true", V.str "true"), (Sum.inr "false", V.str "false"), (Sum.inr "has", V.str "p"), (Sum.inr "lacks", V.str "!p"), (Sum.inr "var", V.str "x")], rfl, by decide, ?_⟩
        have s2 : Same H1 (upd (upd H1 p2 (.dK [])) p2 (.dK atK)) := fun b o e => by
          rw [upd_ne (ne_of_none e hp2), upd_ne (ne_of_none e hp2)]
          exact e
        have hD : (upd (upd H1 p2 (.dK [])) p2 (.dK atK)) p2 = some (.dK atK) := upd_same
        generalize upd (upd H1 p2 (.dK [])) p2 (.dK atK) = H2 at s2 hD
        have sq2 := SqT.same s2 sq1
        have hget : DGet H2 p2 (.str "lacks") (some (.str "!p")) := DGet.k (k := Sum.inr "lacks") hD
        refine ⟨.str "lacks", rfl, p2, _, rfl, hget, ?_⟩
        refine ⟨.ref a, rfl, a, _, rfl, .inr sq2, _, _, rfl, rfl, _, rfl, ite2 (fun _ => ?_) (fun c => absurd (decide_eq_true (show (1 : Int) < 2 by decide)) c)⟩
        refine ⟨_, rfl, .ref a, rfl, a, _, 1, .int x, rfl, rfl, sq2, at1, x, rfl, digit_log x09.1 x09.2, _, _, rfl, rfl, big_line (by rw [digit_str x09.1 x09.2, sL_len, lit_np, sL_len]; simp), ?_⟩
        have sF := s2
        have e : (Str.ofString "!p") ++ ((toString x : String) : Str) = sL (flat (body (.leaf .lacks x))) := by
          rw [digit_str x09.1 x09.2, lit_np, sL_app]
          rfl
        rw [e]
        refine ⟨.int 4, rfl, .int (r : Nat), rfl, _, _, rfl, rfl, _, rfl, ite2 (fun c => ?_) (fun c => ?_)⟩
        · have c0 : (4 : Int) < (r : Int) := of_decide_eq_true c
          have c' : own (.leaf .lacks x) < r := by show 4 < r; omega
          rw [if_pos c'] at k1
          refine ⟨_, rfl, _, _, rfl, rfl, big_line (by rw [show (Str.ofString "(").length = 1 from by decide +kernel]; omega), _, _, rfl, rfl, big_line (by rw [len_app, show (Str.ofString "(").length = 1 from by decide +kernel, show (Str.ofString ")").length = 1 from by decide +kernel]; omega), ?_⟩
          exact k1 _ sF
        · have c' : ¬ own (.leaf .lacks x) < r := by
            show ¬ 4 < r
            intro z
            exact c (decide_eq_true (show (4 : Int) < (r : Int) by omega))
          rw [if_neg c'] at k1
          exact ⟨_, rfl, k1 _ sF⟩
      | var =>
        refine ⟨.str "var", rfl, rfl, _, rfl, kF (by decide) ?_⟩
        refine ⟨.str "var", rfl, rfl, _, rfl, kF (by decide) ?_⟩
        refine ⟨.str "var", rfl, rfl, _, rfl, kF (by decide) ?_⟩
        refine ⟨.str "var", rfl, rfl, _, rfl, kF (by decide) ?_⟩
        intro p2 hp2
        refine ⟨upd_same, [(Sum.inr "true", V.str "true"), (Sum.inr "false", V.str "false"), (Sum.inr "has", V.str "p"), (Sum.inr "lacks", V.str "!p"), (Sum.inr "var", V.str "x")], rfl, by decide, ?_⟩
        have s2 : Same H1 (upd (upd H1 p2 (.dK [])) p2 (.dK atK)) := fun b o e => by
          rw [upd_ne (ne_of_none e hp2), upd_ne (ne_of_none e hp2)]
          exact e
        have hD : (upd (upd H1 p2 (.dK [])) p2 (.dK atK)) p2 = some (.dK atK) := upd_same
        generalize upd (upd H1 p2 (.dK [])) p2 (.dK atK) = H2 at s2 hD
        have sq2 := SqT.same s2 sq1
        have hget : DGet H2 p2 (.str "var") (some (.str "x")) := DGet.k (k := Sum.inr "var") hD
        refine ⟨.str "var", rfl, p2, _, rfl, hget, ?_⟩
        refine ⟨.ref a, rfl, a, _, rfl, .inr sq2, _, _, rfl, rfl, _, rfl, ite2 (fun _ => ?_) (fun c => absurd (decide_eq_true (show (1 : Int) < 2 by decide)) c)⟩
        refine ⟨_, rfl, .ref a, rfl, a, _, 1, .int x, rfl, rfl, sq2, at1, x, rfl, digit_log x09.1 x09.2, _, _, rfl, rfl, big_line (by rw [digit_str x09.1 x09.2, sL_len, lit_x, sL_len]; simp), ?_⟩
        have sF := s2
        have e : (Str.ofString "x") ++ ((toString x : String) : Str) = sL (flat (body (.leaf .var x))) := by
          rw [digit_str x09.1 x09.2, lit_x, sL_app]
          rfl
        rw [e]
        refine ⟨.int 4, rfl, .int (r : Nat), rfl, _, _, rfl, rfl, _, rfl, ite2 (fun c => ?_) (fun c => ?_)⟩
        · have c0 : (4 : Int) < (r : Int) := of_decide_eq_true c
          have c' : own (.leaf .var x) < r := by show 4 < r; omega
          rw [if_pos c'] at k1
          refine ⟨_, rfl, _, _, rfl, rfl, big_line (by rw [show (Str.ofString "(").length = 1 from by decide +kernel]; omega), _, _, rfl, rfl, big_line (by rw [len_app, show (Str.ofString "(").length = 1 from by decide +kernel, show (Str.ofString ")").length = 1 from by decide +kernel]; omega), ?_⟩
          exact k1 _ sF
        · have c' : ¬ own (.leaf .var x) < r := by
            show ¬ 4 < r
            intro z
            exact c (decide_eq_true (show (4 : Int) < (r : Int) by omega))
          rw [if_neg c'] at k1
          exact ⟨_, rfl, k1 _ sF⟩
    | two b f g =>
      cases ak1 with
      | cons hf hn =>
      cases hn with
      | cons hg hn =>
      cases hn
      rename_i vf vg
      obtain ⟨m, rfl⟩ : ∃ m, n = m + 1 := by
        cases n with
        | zero => exact absurd hdep (by have : 0 < f.depth := (by cases f <;> simp [F.depth]); simp only [F.depth]; omega)
        | succ m => exact ⟨m, rfl⟩
      simp only [F.depth] at hdep
      simp only [F.size] at hsz
      have at1 : atI (hv (F.two b f g).hd ++ [vf, vg]) 1 = some vf := atI_nat (j := 1) rfl
      have at2 : atI (hv (F.two b f g).hd ++ [vf, vg]) 2 = some vg := atI_nat (j := 2) rfl
      refine iteF ?_
      cases b with
      | false =>
        refine ⟨.str "or", rfl, rfl, _, rfl, kT ?_⟩
        refine ⟨.ref a, rfl, a, _, 1, vf, rfl, rfl, sq1, at1, vf, f, 1, rfl, hf, ok.1, by omega, by omega, fun H2 s2 => ?_⟩
        have l1 := pT_len (t := f) (by omega) 1
        have l2 := pT_len (t := g) (by omega) 2
        refine ⟨_, _, rfl, rfl, big_line (by rw [lit_bar, sL_len]; simp; omega), ?_⟩
        refine ⟨.ref a, rfl, a, _, 2, vg, rfl, rfl, SqT.same s2 sq1, at2, vg, g, 2, rfl, hg.same s2, ok.2, by omega, by omega, fun H3 s3 => ?_⟩
        refine ⟨_, _, rfl, rfl, big_line (by rw [len_app, lit_bar, sL_len]; simp; omega), ?_⟩
        have sF := s2.trans s3
        have e : pT f 1 ++ (Str.ofString " | ") ++ pT g 2 = sL (flat (body (.two false f g))) := by
          unfold pT
          rw [lit_bar, sL_app, sL_app]
          have : flat (body (.two false f g)) = flat (wrap f (body f) 1) ++ flat [none, some (.sg false), none] ++ flat (wrap g (body g) 2) := by rw [← flat_app, ← flat_app]; rfl
          rw [this]
          rfl
        rw [e]
        refine ⟨.int 1, rfl, .int (r : Nat), rfl, _, _, rfl, rfl, _, rfl, ite2 (fun c => ?_) (fun c => ?_)⟩
        · have c0 : (1 : Int) < (r : Int) := of_decide_eq_true c
          have c' : own (.two false f g) < r := by show 1 < r; omega
          rw [if_pos c'] at k1
          refine ⟨_, rfl, _, _, rfl, rfl, big_line (by rw [show (Str.ofString "(").length = 1 from by decide +kernel]; omega), _, _, rfl, rfl, big_line (by rw [len_app, show (Str.ofString "(").length = 1 from by decide +kernel, show (Str.ofString ")").length = 1 from by decide +kernel]; omega), ?_⟩
          exact k1 _ sF
        · have c' : ¬ own (.two false f g) < r := by
            show ¬ 1 < r
            intro z
            exact c (decide_eq_true (show (1 : Int) < (r : Int) by omega))
          rw [if_neg c'] at k1
          exact ⟨_, rfl, k1 _ sF⟩
      | true =>
        refine ⟨.str "and", rfl, rfl, _, rfl, kF (by decide) ?_⟩
        refine ⟨.str "and", rfl, rfl, _, rfl, kT ?_⟩
        refine ⟨.ref a, rfl, a, _, 1, vf, rfl, rfl, sq1, at1, vf, f, 2, rfl, hf, ok.1, by omega, by omega, fun H2 s2 => ?_⟩
        have l1 := pT_len (t := f) (by omega) 2
        have l2 := pT_len (t := g) (by omega) 3
        refine ⟨_, _, rfl, rfl, big_line (by rw [lit_amp, sL_len]; simp; omega), ?_⟩
        refine ⟨.ref a, rfl, a, _, 2, vg, rfl, rfl, SqT.same s2 sq1, at2, vg, g, 3, rfl, hg.same s2, ok.2, by omega, by omega, fun H3 s3 => ?_⟩
        refine ⟨_, _, rfl, rfl, big_line (by rw [len_app, lit_amp, sL_len]; simp; omega), ?_⟩
        have sF := s2.trans s3
        have e : pT f 2 ++ (Str.ofString " & ") ++ pT g 3 = sL (flat (body (.two true f g))) := by
          unfold pT
          rw [lit_amp, sL_app, sL_app]
          have : flat (body (.two true f g)) = flat (wrap f (body f) 2) ++ flat [none, some (.sg true), none] ++ flat (wrap g (body g) 3) := by rw [← flat_app, ← flat_app]; rfl
          rw [this]
          rfl
        rw [e]
        refine ⟨.int 2, rfl, .int (r : Nat), rfl, _, _, rfl, rfl, _, rfl, ite2 (fun c => ?_) (fun c => ?_)⟩
        · have c0 : (2 : Int) < (r : Int) := of_decide_eq_true c
          have c' : own (.two true f g) < r := by show 2 < r; omega
          rw [if_pos c'] at k1
          refine ⟨_, rfl, _, _, rfl, rfl, big_line (by rw [show (Str.ofString "(").length = 1 from by decide +kernel]; omega), _, _, rfl, rfl, big_line (by rw [len_app, show (Str.ofString "(").length = 1 from by decide +kernel, show (Str.ofString ")").length = 1 from by decide +kernel]; omega), ?_⟩
          exact k1 _ sF
        · have c' : ¬ own (.two true f g) < r := by
            show ¬ 2 < r
            intro z
            exact c (decide_eq_true (show (2 : Int) < (r : Int) by omega))
          rw [if_neg c'] at k1
          exact ⟨_, rfl, k1 _ sF⟩
    | one kd x f =>
      cases ak1 with
      | cons hf hn =>
      cases hn
      rename_i vf
      obtain ⟨m, rfl⟩ : ∃ m, n = m + 1 := by
        cases n with
        | zero => exact absurd hdep (by have : 0 < f.depth := (by cases f <;> simp [F.depth]); simp only [F.depth]; omega)
        | succ m => exact ⟨m, rfl⟩
      simp only [F.depth] at hdep
      simp only [F.size] at hsz
      have x09 : 0 ≤ x ∧ x < 9 := by
        have := ok.1
        split at this
        · have := V4_nonneg this; omega
        · omega
      have at1 : atI (hv (F.one kd x f).hd ++ [vf]) 1 = some (.int x) := atI_nat (j := 1) rfl
      have at2 : atI (hv (F.one kd x f).hd ++ [vf]) 2 = some vf := atI_nat (j := 2) rfl
      have l1 := pT_len (t := f) (by omega) 0
      have l3 := pT_len (t := f) (by omega) 3
      cases kd with
      | some =>
        refine iteF ?_
        refine ⟨.str "some", rfl, rfl, _, rfl, kF (by decide) ?_⟩
        refine ⟨.str "some", rfl, rfl, _, rfl, kF (by decide) ?_⟩
        refine ⟨.str "some", rfl, rfl, _, rfl, kT ?_⟩
        refine ⟨.ref a, rfl, a, _, 1, .int x, rfl, rfl, sq1, at1, x, rfl, digit_log x09.1 x09.2, _, _, rfl, rfl, big_line (by rw [digit_str x09.1 x09.2, sL_len, lit_lt, sL_len]; simp), ?_⟩
        refine ⟨_, _, rfl, rfl, big_line (by rw [len_app, digit_str x09.1 x09.2, sL_len, lit_lt, sL_len, lit_gs, sL_len]; simp), ?_⟩
        refine ⟨.ref a, rfl, a, _, 2, vf, rfl, rfl, sq1, at2, vf, f, 3, rfl, hf, ok.2, by omega, by omega, fun H2 s2 => ?_⟩
        refine ⟨_, _, rfl, rfl, big_line (by rw [len_app, len_app, digit_str x09.1 x09.2, sL_len, lit_lt, sL_len, lit_gs, sL_len]; simp; omega), ?_⟩
        have sF := s2
        have e : (Str.ofString "<") ++ ((toString x : String) : Str) ++ (Str.ofString "> ") ++ pT f 3 = sL (flat (body (.one .some x f))) := by
          unfold pT
          rw [digit_str x09.1 x09.2, lit_lt, lit_gs, sL_app, sL_app, sL_app]
          have : flat (body (.one .some x f)) = flat [some (.pr .some x), none] ++ flat (wrap f (body f) 3) := by rw [← flat_app]; rfl
          rw [this]
          rfl
        rw [e]
        refine ⟨.int 3, rfl, .int (r : Nat), rfl, _, _, rfl, rfl, _, rfl, ite2 (fun c => ?_) (fun c => ?_)⟩
        · have c0 : (3 : Int) < (r : Int) := of_decide_eq_true c
          have c' : own (.one .some x f) < r := by show 3 < r; omega
          rw [if_pos c'] at k1
          refine ⟨_, rfl, _, _, rfl, rfl, big_line (by rw [show (Str.ofString "(").length = 1 from by decide +kernel]; omega), _, _, rfl, rfl, big_line (by rw [len_app, show (Str.ofString "(").length = 1 from by decide +kernel, show (Str.ofString ")").length = 1 from by decide +kernel]; omega), ?_⟩
          exact k1 _ sF
        · have c' : ¬ own (.one .some x f) < r := by
            show ¬ 3 < r
            intro z
            exact c (decide_eq_true (show (3 : Int) < (r : Int) by omega))
          rw [if_neg c'] at k1
          exact ⟨_, rfl, k1 _ sF⟩
      | all =>
        refine iteF ?_
        refine ⟨.str "all", rfl, rfl, _, rfl, kF (by decide) ?_⟩
        refine ⟨.str "all", rfl, rfl, _, rfl, kF (by decide) ?_⟩
        refine ⟨.str "all", rfl, rfl, _, rfl, kF (by decide) ?_⟩
        refine ⟨.str "all", rfl, rfl, _, rfl, kT ?_⟩
        refine ⟨.ref a, rfl, a, _, 1, .int x, rfl, rfl, sq1, at1, x, rfl, digit_log x09.1 x09.2, _, _, rfl, rfl, big_line (by rw [digit_str x09.1 x09.2, sL_len, lit_lb, sL_len]; simp), ?_⟩
        refine ⟨_, _, rfl, rfl, big_line (by rw [len_app, digit_str x09.1 x09.2, sL_len, lit_lb, sL_len, lit_rs, sL_len]; simp), ?_⟩
        refine ⟨.ref a, rfl, a, _, 2, vf, rfl, rfl, sq1, at2, vf, f, 3, rfl, hf, ok.2, by omega, by omega, fun H2 s2 => ?_⟩
        refine ⟨_, _, rfl, rfl, big_line (by rw [len_app, len_app, digit_str x09.1 x09.2, sL_len, lit_lb, sL_len, lit_rs, sL_len]; simp; omega), ?_⟩
        have sF := s2
        have e : (Str.ofString "[") ++ ((toString x : String) : Str) ++ (Str.ofString "] ") ++ pT f 3 = sL (flat (body (.one .all x f))) := by
          unfold pT
          rw [digit_str x09.1 x09.2, lit_lb, lit_rs, sL_app, sL_app, sL_app]
          have : flat (body (.one .all x f)) = flat [some (.pr .all x), none] ++ flat (wrap f (body f) 3) := by rw [← flat_app]; rfl
          rw [this]
          rfl
        rw [e]
        refine ⟨.int 3, rfl, .int (r : Nat), rfl, _, _, rfl, rfl, _, rfl, ite2 (fun c => ?_) (fun c => ?_)⟩
        · have c0 : (3 : Int) < (r : Int) := of_decide_eq_true c
          have c' : own (.one .all x f) < r := by show 3 < r; omega
          rw [if_pos c'] at k1
          refine ⟨_, rfl, _, _, rfl, rfl, big_line (by rw [show (Str.ofString "(").length = 1 from by decide +kernel]; omega), _, _, rfl, rfl, big_line (by rw [len_app, show (Str.ofString "(").length = 1 from by decide +kernel, show (Str.ofString ")").length = 1 from by decide +kernel]; omega), ?_⟩
          exact k1 _ sF
        · have c' : ¬ own (.one .all x f) < r := by
            show ¬ 3 < r
            intro z
            exact c (decide_eq_true (show (3 : Int) < (r : Int) by omega))
          rw [if_neg c'] at k1
          exact ⟨_, rfl, k1 _ sF⟩
      | least =>
        refine iteT ?_
        intro p2 hp2
        refine ⟨upd_same, [(Sum.inr "least", V.str "mu"), (Sum.inr "most", V.str "nu")], rfl, by decide, ?_⟩
        have s2 : Same H1 (upd (upd H1 p2 (.dK [])) p2 (.dK mnK)) := fun b o e => by
          rw [upd_ne (ne_of_none e hp2), upd_ne (ne_of_none e hp2)]
          exact e
        have hD : (upd (upd H1 p2 (.dK [])) p2 (.dK mnK)) p2 = some (.dK mnK) := upd_same
        generalize upd (upd H1 p2 (.dK [])) p2 (.dK mnK) = H2 at s2 hD
        have sq2 := SqT.same s2 sq1
        have hget : DGet H2 p2 (.str "least") (some (.str "mu")) := DGet.k (k := Sum.inr "least") hD
        refine ⟨.str "least", rfl, p2, _, rfl, hget, ?_⟩
        refine ⟨_, _, rfl, rfl, big_line (by rw [lit_mu, lit_sx, sL_len, sL_len]; simp), ?_⟩
        refine ⟨.ref a, rfl, a, _, 1, .int x, rfl, rfl, sq2, at1, x, rfl, digit_log x09.1 x09.2, _, _, rfl, rfl, big_line (by rw [len_app, digit_str x09.1 x09.2, lit_mu, lit_sx, sL_len, sL_len, sL_len]; simp), ?_⟩
        refine ⟨_, _, rfl, rfl, big_line (by rw [len_app, len_app, digit_str x09.1 x09.2, lit_mu, lit_sx, lit_ds, sL_len, sL_len, sL_len, sL_len]; simp), ?_⟩
        refine ⟨.ref a, rfl, a, _, 2, vf, rfl, rfl, sq2, at2, vf, f, 0, rfl, hf.same s2, ok.2, by omega, by omega, fun H3 s3 => ?_⟩
        refine ⟨_, _, rfl, rfl, big_line (by rw [len_app, len_app, len_app, digit_str x09.1 x09.2, lit_mu, lit_sx, lit_ds, sL_len, sL_len, sL_len, sL_len]; simp; omega), ?_⟩
        have sF := s2.trans s3
        have e : (Str.ofString "mu") ++ (Str.ofString " x") ++ ((toString x : String) : Str) ++ (Str.ofString ". ") ++ pT f 0 = sL (flat (body (.one .least x f))) := by
          unfold pT
          rw [digit_str x09.1 x09.2, lit_mu, lit_sx, lit_ds, sL_app, sL_app, sL_app, sL_app]
          have : flat (body (.one .least x f)) = flat [some (.bd .least), none, some (.lf .var x), some .dot, none] ++ flat (wrap f (body f) 0) := by rw [← flat_app]; rfl
          rw [this]
          rfl
        rw [e]
        refine ⟨.int 0, rfl, .int (r : Nat), rfl, _, _, rfl, rfl, _, rfl, ite2 (fun c => ?_) (fun c => ?_)⟩
        · have c0 : (0 : Int) < (r : Int) := of_decide_eq_true c
          have c' : own (.one .least x f) < r := by show 0 < r; omega
          rw [if_pos c'] at k1
          refine ⟨_, rfl, _, _, rfl, rfl, big_line (by rw [show (Str.ofString "(").length = 1 from by decide +kernel]; omega), _, _, rfl, rfl, big_line (by rw [len_app, show (Str.ofString "(").length = 1 from by decide +kernel, show (Str.ofString ")").length = 1 from by decide +kernel]; omega), ?_⟩
          exact k1 _ sF
        · have c' : ¬ own (.one .least x f) < r := by
            show ¬ 0 < r
            intro z
            exact c (decide_eq_true (show (0 : Int) < (r : Int) by omega))
          rw [if_neg c'] at k1
          exact ⟨_, rfl, k1 _ sF⟩
      | most =>
        refine iteT ?_
        intro p2 hp2
        refine ⟨upd_same, [(Sum.inr "least", V.str "mu"), (Sum.inr "most", V.str "nu")], rfl, by decide, ?_⟩
        have s2 : Same H1 (upd (upd H1 p2 (.dK [])) p2 (.dK mnK)) := fun b o e => by
          rw [upd_ne (ne_of_none e hp2), upd_ne (ne_of_none e hp2)]
          exact e
        have hD : (upd (upd H1 p2 (.dK [])) p2 (.dK mnK)) p2 = some (.dK mnK) := upd_same
        generalize upd (upd H1 p2 (.dK [])) p2 (.dK mnK) = H2 at s2 hD
        have sq2 := SqT.same s2 sq1
        have hget : DGet H2 p2 (.str "most") (some (.str "nu")) := DGet.k (k := Sum.inr "most") hD
        refine ⟨.str "most", rfl, p2, _, rfl, hget, ?_⟩
        refine ⟨_, _, rfl, rfl, big_line (by rw [lit_nu, lit_sx, sL_len, sL_len]; simp), ?_⟩
        refine ⟨.ref a, rfl, a, _, 1, .int x, rfl, rfl, sq2, at1, x, rfl, digit_log x09.1 x09.2, _, _, rfl, rfl, big_line (by rw [len_app, digit_str x09.1 x09.2, lit_nu, lit_sx, sL_len, sL_len, sL_len]; simp), ?_⟩
        refine ⟨_, _, rfl, rfl, big_line (by rw [len_app, len_app, digit_str x09.1 x09.2, lit_nu, lit_sx, lit_ds, sL_len, sL_len, sL_len, sL_len]; simp), ?_⟩
        refine ⟨.ref a, rfl, a, _, 2, vf, rfl, rfl, sq2, at2, vf, f, 0, rfl, hf.same s2, ok.2, by omega, by omega, fun H3 s3 => ?_⟩
        refine ⟨_, _, rfl, rfl, big_line (by rw [len_app, len_app, len_app, digit_str x09.1 x09.2, lit_nu, lit_sx, lit_ds, sL_len, sL_len, sL_len, sL_len]; simp; omega), ?_⟩
        have sF := s2.trans s3
        have e : (Str.ofString "nu") ++ (Str.ofString " x") ++ ((toString x : String) : Str) ++ (Str.ofString ". ") ++ pT f 0 = sL (flat (body (.one .most x f))) := by
          unfold pT
          rw [digit_str x09.1 x09.2, lit_nu, lit_sx, lit_ds, sL_app, sL_app, sL_app, sL_app]
          have : flat (body (.one .most x f)) = flat [some (.bd .most), none, some (.lf .var x), some .dot, none] ++ flat (wrap f (body f) 0) := by rw [← flat_app]; rfl
          rw [this]
          rfl
        rw [e]
        refine ⟨.int 0, rfl, .int (r : Nat), rfl, _, _, rfl, rfl, _, rfl, ite2 (fun c => ?_) (fun c => ?_)⟩
        · have c0 : (0 : Int) < (r : Int) := of_decide_eq_true c
          have c' : own (.one .most x f) < r := by show 0 < r; omega
          rw [if_pos c'] at k1
          refine ⟨_, rfl, _, _, rfl, rfl, big_line (by rw [show (Str.ofString "(").length = 1 from by decide +kernel]; omega), _, _, rfl, rfl, big_line (by rw [len_app, show (Str.ofString "(").length = 1 from by decide +kernel, show (Str.ofString ")").length = 1 from by decide +kernel]; omega), ?_⟩
          exact k1 _ sF
        · have c' : ¬ own (.one .most x f) < r := by
            show ¬ 0 < r
            intro z
            exact c (decide_eq_true (show (0 : Int) < (r : Int) by omega))
          rw [if_neg c'] at k1
          exact ⟨_, rfl, k1 _ sF⟩
end
end Fw

set_option maxRecDepth 100000
set_option maxHeartbeats 8000000
namespace Fw
open PySem PySem.Spec PyProof.Rows L2
def Hdd (l : List Nat) : Prop := ∃ c l', l = c :: l' ∧ c ≠ 32
def Lst (l : List Nat) : Prop := ∃ e l', l = l' ++ [e] ∧ e ≠ 32
theorem Hdd.app {a : List Nat} (h : Hdd a) (b : List Nat) : Hdd (a ++ b) := by
  obtain ⟨c, l, rfl, n⟩ := h
  exact ⟨c, l ++ b, rfl, n⟩
theorem Lst.app {b : List Nat} (h : Lst b) (a : List Nat) : Lst (a ++ b) := by
  obtain ⟨c, l, rfl, n⟩ := h
  exact ⟨c, a ++ l, by rw [List.append_assoc], n⟩
theorem ends_wrap {t : F} {l : Its} {r : Nat} (h : Hdd (flat l) ∧ Lst (flat l)) : Hdd (flat (wrap t l r)) ∧ Lst (flat (wrap t l r)) := by
  unfold wrap
  split
  · rw [flat_app, flat_app]
    exact ⟨Hdd.app ⟨40, _, rfl, by decide⟩ _ |>.app _, Lst.app ⟨41, [], rfl, by decide⟩ _⟩
  · exact h
theorem dg_ne {n : Int} (h0 : 0 ≤ n) : dg n ≠ 32 := by unfold dg; omega
theorem ends_body : ∀ (t : F), Ok t → Hdd (flat (body t)) ∧ Lst (flat (body t))
  | .nul true, _ => ⟨⟨_, _, rfl, by decide⟩, ⟨101, [116, 114, 117], rfl, by decide⟩⟩
  | .nul false, _ => ⟨⟨_, _, rfl, by decide⟩, ⟨101, [102, 97, 108, 115], rfl, by decide⟩⟩
  | .leaf k n, ok => by
    have d : dg n ≠ 32 := by
      cases k with
      | var => exact dg_ne (V4_nonneg (show n ∈ V4 from ok)).1
      | has => exact dg_ne ok.1
      | lacks => exact dg_ne ok.1
    cases k with
    | has => exact ⟨⟨_, _, rfl, by decide⟩, ⟨dg n, [112], rfl, d⟩⟩
    | lacks => exact ⟨⟨_, _, rfl, by decide⟩, ⟨dg n, [33, 112], rfl, d⟩⟩
    | var => exact ⟨⟨_, _, rfl, by decide⟩, ⟨dg n, [120], rfl, d⟩⟩
  | .two b f g, ok => by
    have hf := ends_body f ok.1
    have hg := ends_body g ok.2
    have key : ∀ r q, Hdd (flat (wrap f (body f) r ++ [none, some (.sg b), none] ++ wrap g (body g) q)) ∧ Lst (flat (wrap f (body f) r ++ [none, some (.sg b), none] ++ wrap g (body g) q)) := fun r q => by
      rw [flat_app, flat_app]
      exact ⟨((ends_wrap hf).1.app _).app _, (ends_wrap hg).2.app _⟩
    cases b
    · exact key 1 2
    · exact key 2 3
  | .one k n f, ok => by
    have hf := ends_body f ok.2
    rw [body]
    split
    · rw [flat_app]
      exact ⟨Hdd.app (by cases k <;> exact ⟨_, _, rfl, by decide⟩) _, (ends_wrap hf).2.app _⟩
    · rw [flat_app]
      exact ⟨Hdd.app (by cases k <;> exact ⟨_, _, rfl, by decide⟩) _, (ends_wrap hf).2.app _⟩
theorem mids {l : List Nat} (h : Hdd l ∧ Lst l) {k : Nat} (e : l[k]? = some 32) : 0 < k ∧ k + 1 < l.length := by
  obtain ⟨⟨c, l1, e1, n1⟩, ⟨z, l2, e2, n2⟩⟩ := h
  constructor
  · cases k with
    | zero => rw [e1] at e; exact absurd (Option.some.inj e) n1
    | succ k => omega
  · have kl := (List.getElem?_eq_some_iff.mp e).1
    rw [e2, List.length_append, List.length_singleton] at kl ⊢
    by_cases c : k = l2.length
    · subst c
      rw [e2, List.getElem?_append_right (Nat.le_refl _), Nat.sub_self] at e
      exact absurd (Option.some.inj e) n2
    · omega
theorem lit_sp : (Str.ofString " ") = sL [32] := by decide +kernel
theorem one_sp {c : Nat} : decide (V.str ⟨#[c]⟩ = V.str (Str.ofString " ")) = decide (c = 32) := by
  by_cases h : c = 32
  · subst h
    rw [decide_eq_true rfl, decide_eq_true]
    rw [lit_sp]
    rfl
  · rw [decide_eq_false h, decide_eq_false]
    intro e
    rw [lit_sp] at e
    injection e with e
    injection e with e
    have := congrArg Array.toList e
    exact h (by simpa using this)
theorem in_br (c : Nat) : inV (.str (sL [c])) [.str (Str.ofString "("), .str (Str.ofString ")"), .str (Str.ofString "&"), .str (Str.ofString "|")] = isBr c := by
  have e1 : (Str.ofString "(") = sL [40] := by decide +kernel
  have e2 : (Str.ofString ")") = sL [41] := by decide +kernel
  have e3 : (Str.ofString "&") = sL [38] := by decide +kernel
  have e4 : (Str.ofString "|") = sL [124] := by decide +kernel
  rw [e1, e2, e3, e4]
  have b : ∀ x : Nat, (sL [x] == sL [c]) = (c == x) := fun x => by
    by_cases h : c = x
    · subst h
      rw [beq_self_eq_true, beq_self_eq_true]
    · rw [beq_eq_false_iff_ne.mpr h, beq_eq_false_iff_ne]
      intro e
      injection e with e
      have := congrArg Array.toList e
      exact h (by simpa using this.symm)
  show (eqV (.str (sL [40])) (.str (sL [c])) || (eqV (.str (sL [41])) (.str (sL [c])) || (eqV (.str (sL [38])) (.str (sL [c])) || (eqV (.str (sL [124])) (.str (sL [c])) || false)))) = _
  simp only [eqV, b, isBr, Bool.or_false, Bool.or_assoc]
theorem in_br_sps {n : Nat} (h : n ≤ 3) : inV (.str (sL (List.replicate n 32))) [.str (Str.ofString "("), .str (Str.ofString ")"), .str (Str.ofString "&"), .str (Str.ofString "|")] = false := by
  have : n = 0 ∨ n = 1 ∨ n = 2 ∨ n = 3 := by omega
  rcases this with rfl | rfl | rfl | rfl <;> decide +kernel
theorem int_b (b : Bool) : ∃ m : Int, (if b = true then (1 : Int) else 0) = m ∧ 0 ≤ m ∧ m ≤ 1 := by cases b <;> exact ⟨_, rfl, by decide, by decide⟩
section
variable {P : Program} {w : World} {K : PySem.W.Frag} {mg : Str → Option Value} {base : Heap} {C J B NC FE OD : Addr}
def spSpaced : Sp := fun vs H Q _ => ∃ (d : Addr) (l : List Nat), vs = [.ref d, .str (sL l)] ∧ Draws H d ∧ l.length ≤ 20000 ∧ Hdd l ∧ Lst l ∧
  ∀ (b : Nat) (l2 : List Nat) H', But d H H' → Draws H' d → Vary l l2 → (List.replicate b 32 ++ l2).length ≤ 100000 → Q (.str (sL (List.replicate b 32 ++ l2))) H'
theorem ok_law_spaced {f : Addr} {fd : FuncData} (FF : Fun K "_law_spaced" "_law_spaced" s_law_spaced f fd) (T : Txt K mg C J B) (h_law_take : Has P w K mg base "_law_take" 1 a_law_take spTake) : FnOk P w K mg base CX0 2 f fd a_law_spaced spSpaced := by
  refine FF.ok sc_law_spaced (fun vs H Q E h => ?_) (fun cdv A outer s H vs Q E hr h => ?_)
  · obtain ⟨d, l, rfl, _⟩ := h
    rfl
  · obtain ⟨d, l, rfl, hd, hlen, hh, hl, k⟩ := h
    refine ⟨_, (pss_cons (ps_set (i := 2) sc_law_spaced.nd rfl (.inl rfl) (pe_op op_mul_sp pe_str (pe_callH h_law_take (hr.mono (by omega)) (pa_cons (pv 0) (pa_cons pe_int pa_nil)))))
      (pss_cons (ps_for PassesOwn.never rfl (pi_range1 rfl T.z_range (pa_cons (pe_callB call_len_str rfl T.z_len (by decide +kernel) (pa_cons (pv 1) pa_nil)) pa_nil)) (pg_name (i := 3) sc_law_spaced.nd rfl (.inl rfl)) (pss_cons (ps_set (i := 4) sc_law_spaced.nd rfl (.inl rfl) (pe_ix ix_str (pv 1) (pv 3) (fun _ _ => rfl)))
      (pss_cons (ps_if (pt_cmpR op_eq (pv 4) pe_str (nomark _)) (pss_cons (ps_set (i := 5) sc_law_spaced.nd rfl (.inl rfl) (pe_ix ix_str (pv 1) (pe_op op_sub (pv 3) pe_int) (fun _ _ => rfl)))
      (pss_one (ps_set (i := 4) sc_law_spaced.nd rfl (.inl rfl) (pe_op op_mul_sp pe_str (pe_op op_add (pe_callH h_law_take (hr.mono (by omega)) (pa_cons (pv 0) (pa_cons pe_int pa_nil))) (pe_callTy call_int1 rfl T.z_int (by decide +kernel) (pa_cons (pe_and (pe_cmpR op_in_sign (pv 5) pe_str rfl) (pe_one (pe_cmpR op_in_sign (pe_ix ix_str (pv 1) (pe_op op_add (pv 3) pe_int) (fun _ _ => rfl)) pe_str rfl))) pa_nil))))))) pss_nil)
      (pss_cons (ps_set (i := 2) sc_law_spaced.nd rfl (.inl rfl) (pe_op op_add_str (pv 2) (pv 4)))
      (pss_one (ps_if (pt_cmpR op_in_seq (pv 4) (pe_tup (pa_cons pe_str (pa_cons pe_str (pa_cons pe_str (pa_cons pe_str pa_nil))))) (by rfl)) (pss_one (ps_set (i := 2) sc_law_spaced.nd rfl (.inl rfl) (pe_op op_add_str (pv 2) (pe_op op_mul_sp pe_str (pe_op op_fdivN (pe_callH h_law_take (hr.mono (by omega)) (pa_cons (pv 0) (pa_cons pe_int pa_nil))) pe_int))))) pss_nil))))))
      (pss_one (ps_ret (pv 2))))), ?_⟩
    refine ⟨.ref d, rfl, d, 2, rfl, hd, by decide, fun v1 H1 v10 v12 b1 d1 => ⟨v1, congrArg V.str lit_sp, rfl, v10, by omega, ?_⟩⟩
    refine ⟨_, rfl, _, rfl, big_line (by rw [sL_len]; omega), _, rfl, ?_⟩
    rw [sL_len]
    refine ⟨by omega, by omega, ?_⟩
    refine for_range (lo := 0) (n := ((l.length : Nat) : Int).toNat) (fun i σ G => ∃ (y3 y4 y5 : Option V) (l2 : List Nat), σ = [some (.ref d), some (.str (sL l)), some (.str (sL (List.replicate v1.toNat 32 ++ l2))), y3, y4, y5] ∧ But d H G ∧ Draws G d ∧ Vary (l.take i) l2 ∧ l2.length ≤ 4 * i)
      ⟨none, none, none, [], by rw [List.append_nil]; rfl, b1, d1, .nil, Nat.zero_le _⟩ ?_ ?_
    · rintro i σ G hi ⟨y3, y4, y5, l2, rfl, bG, dG, va, ll⟩
      rw [Int.toNat_natCast] at hi
      rw [Int.zero_add]
      obtain ⟨c, hc⟩ : ∃ c, l[i]? = some c := ⟨l[i], by simp [hi]⟩
      have lf : (List.replicate v1.toNat 32 ++ l2).length ≤ 90000 := by rw [List.length_append, List.length_replicate]; omega
      have nx : l.take (i + 1) = l.take i ++ [c] := by rw [List.take_add_one, hc]; rfl
      refine ⟨_, rfl, .int (i : Nat), rfl, _, _, c, rfl, rfl, big_line (by rw [sL_len]; omega), atI_nat (j := i) hc, ?_⟩
      refine ⟨_, rfl, rfl, _, rfl, ?_⟩
      rw [one_sp]
      by_cases h32 : c = 32
      · refine (if_pos (decide_eq_true h32)).mpr ?_
        subst h32
        obtain ⟨i0, i1⟩ := mids ⟨hh, hl⟩ hc
        obtain ⟨j, rfl⟩ : ∃ j, i = j + 1 := ⟨i - 1, by omega⟩
        obtain ⟨c1, hc1⟩ : ∃ c1, l[j]? = some c1 := ⟨l[j], by simp⟩
        obtain ⟨c2, hc2⟩ : ∃ c2, l[j + 1 + 1]? = some c2 := ⟨l[j + 1 + 1], by simp [i1]⟩
        have ej : ((j + 1 : Nat) : Int) - 1 = (j : Int) := by omega
        have ej2 : ((j + 1 : Nat) : Int) + 1 = ((j + 1 + 1 : Nat) : Int) := by omega
        refine ⟨_, rfl, _, rfl, _, 1, rfl, rfl, _, _, c1, rfl, rfl, big_line (by rw [sL_len]; omega), by rw [ej]; exact atI_nat (j := j) hc1, ?_⟩
        have fin : ∀ (n : Int) (G2 : Hp), 0 ≤ n → n ≤ 3 → But d H G2 → Draws G2 d → True := fun _ _ _ _ _ _ => trivial
        refine ⟨.ref d, rfl, d, 3, rfl, dG, by decide, fun v2 H2 v20 v23 b2 d2 => ?_⟩
        have B2 := bG.trans b2
        refine ⟨_, rfl, c1, _, rfl, rfl, _, rfl, ite2 (fun z => ?_) (fun z => ?_)⟩
        · refine ⟨_, rfl, _, rfl, _, 1, rfl, rfl, _, _, c2, rfl, rfl, big_line (by rw [sL_len]; omega), by rw [ej2]; exact atI_nat (j := j + 1 + 1) hc2, c2, _, rfl, rfl, ?_⟩
          refine .inr ⟨_, rfl, _, _, rfl, rfl, ?_⟩
          obtain ⟨m, hm, m0, m1⟩ := int_b (decide (c2 ∈ (Str.ofString "px").cps.toList))
          show ∃ n : Int, _
          simp only [hm]
          refine ⟨_, congrArg V.str lit_sp, rfl, by omega, by omega, ?_⟩
          obtain ⟨n, hn⟩ : ∃ n : Nat, (v2 + m).toNat = n := ⟨_, rfl⟩
          rw [hn]
          have n3 : n ≤ 3 := by omega
          have wl : (List.replicate n 32).length = n := List.length_replicate
          -- found = found + char, char: w
          refine ⟨_, rfl, _, rfl, _, _, rfl, rfl, big_line (by rw [sL_len, sL_len, wl]; omega), ?_⟩
          rw [sL_app]
          refine ⟨_, rfl, by show 4 ≤ sizeLine; decide, fun p hp => ⟨p, _, rfl, .inr (SqT.of upd_same), rfl, rfl, _, rfl, ?_⟩⟩
          rw [if_neg Bool.false_ne_true]
          rw [in_br_sps n3]
          refine iteF ?_
          refine ⟨_, _, _, l2 ++ List.replicate n 32, by rw [List.append_assoc]; rfl, B2.trans (Same.but (Same.new hp)), d2.same (Same.new hp), ?_, by rw [List.length_append, wl]; omega⟩
          rw [nx]
          have := Vary.sp n Vary.nil
          rw [List.append_nil] at this
          exact va.app this
        · refine .inr ⟨_, rfl, _, _, rfl, rfl, ?_⟩
          obtain ⟨m, hm, m0, m1⟩ := int_b (false)
          show ∃ n : Int, _
          simp only [hm]
          refine ⟨_, congrArg V.str lit_sp, rfl, by omega, by omega, ?_⟩
          obtain ⟨n, hn⟩ : ∃ n : Nat, (v2 + m).toNat = n := ⟨_, rfl⟩
          rw [hn]
          have n3 : n ≤ 3 := by omega
          have wl : (List.replicate n 32).length = n := List.length_replicate
          -- found = found + char, char: w
          refine ⟨_, rfl, _, rfl, _, _, rfl, rfl, big_line (by rw [sL_len, sL_len, wl]; omega), ?_⟩
          rw [sL_app]
          refine ⟨_, rfl, by show 4 ≤ sizeLine; decide, fun p hp => ⟨p, _, rfl, .inr (SqT.of upd_same), rfl, rfl, _, rfl, ?_⟩⟩
          rw [if_neg Bool.false_ne_true]
          rw [in_br_sps n3]
          refine iteF ?_
          refine ⟨_, _, _, l2 ++ List.replicate n 32, by rw [List.append_assoc]; rfl, B2.trans (Same.but (Same.new hp)), d2.same (Same.new hp), ?_, by rw [List.length_append, wl]; omega⟩
          rw [nx]
          have := Vary.sp n Vary.nil
          rw [List.append_nil] at this
          exact va.app this
      · refine (if_neg (by rw [decide_eq_false h32]; exact Bool.false_ne_true)).mpr ?_
        refine ⟨_, rfl, .str (sL [c]), rfl, _, _, rfl, rfl, big_line (by rw [sL_len, sL_len, List.length_append, List.length_replicate]; simp; omega), ?_⟩
        rw [sL_app]
        refine ⟨.str (sL [c]), rfl, by show 4 ≤ sizeLine; decide, fun p hp => ⟨p, _, rfl, .inr (SqT.of upd_same), rfl, rfl, _, rfl, ?_⟩⟩
        rw [if_neg Bool.false_ne_true, in_br]
        have sp := Same.new (o := .tup [.str (Str.ofString "("), .str (Str.ofString ")"), .str (Str.ofString "&"), .str (Str.ofString "|")]) hp
        have dp := dG.same sp
        have bp := bG.trans (Same.but sp)
        cases br : isBr c with
        | false =>
          refine iteF ?_
          refine ⟨_, _, _, l2 ++ [c], by rw [List.append_assoc]; rfl, bp, dp, ?_, by rw [List.length_append, List.length_singleton]; omega⟩
          rw [nx]
          exact va.app (.ch (b := 0) h32 (.inl rfl) .nil)
        | true =>
          refine iteT ?_
          refine ⟨_, rfl, .ref d, rfl, d, 6, rfl, dp, by decide, fun v3 H3 v30 v36 b3 d3 => ⟨v3, 4, rfl, rfl, ⟨by decide, by decide⟩, ?_⟩⟩
          have q : 0 ≤ v3.fdiv 4 ∧ v3.fdiv 4 < 2 := by
            have : v3 = 0 ∨ v3 = 1 ∨ v3 = 2 ∨ v3 = 3 ∨ v3 = 4 ∨ v3 = 5 := by omega
            rcases this with rfl | rfl | rfl | rfl | rfl | rfl <;> decide
          refine ⟨_, congrArg V.str lit_sp, rfl, q.1, by omega, ?_⟩
          refine ⟨_, _, rfl, rfl, big_line (by rw [sL_len, sL_len, List.length_append, List.length_append, List.length_replicate, List.length_replicate, List.length_singleton]; omega), ?_⟩
          rw [sL_app]
          have el : List.replicate v1.toNat 32 ++ l2 ++ [c] ++ List.replicate (v3.fdiv 4).toNat 32 = List.replicate v1.toNat 32 ++ (l2 ++ (c :: (List.replicate (v3.fdiv 4).toNat 32))) := by
            rw [List.append_assoc, List.append_assoc]
            rfl
          rw [el]
          refine ⟨_, _, _, l2 ++ (c :: (List.replicate (v3.fdiv 4).toNat 32)), rfl, bp.trans b3, d3, ?_, ?_⟩
          · rw [nx]
            have := Vary.ch (b := (v3.fdiv 4).toNat) h32 (.inr br) .nil
            rw [List.append_nil] at this
            exact va.app this
          · rw [List.length_append, List.length_cons, List.length_replicate]
            omega
    · rintro σ G ⟨y3, y4, y5, l2, rfl, bG, dG, va, ll⟩
      rw [Int.toNat_natCast] at va ll
      rw [List.take_length] at va
      exact ⟨_, rfl, k _ l2 G bG dG va (by rw [List.length_append, List.length_replicate]; omega)⟩
end
end Fw

set_option maxRecDepth 100000
set_option maxHeartbeats 8000000
namespace Fw
open PySem PySem.Spec PyProof.Rows L2
theorem no_get {α : Type} (m : Nat) (v : α) : ¬ ([] : List α)[m]? = some v := by simp
theorem pre_aro (t : F) : (pre t (-1) 0).map (·.2) = arounds (infos t) := by simp [pre, arounds, Function.comp_def]
theorem pre_get {t : F} {i : Nat} {r : Rec} (h : (infos t)[i]? = some r) : (pre t (-1) 0)[i]? = some (r.sub.hd, r.aro) := by
  rw [pre, List.getElem?_map, h]
  rfl
theorem PartsAt.nth {K : PySem.W.Frag} {C : Addr} {H : Hp} {pa : Addr} {t : F} {R : List PRec} (PR : Parts K C H R (pre t (-1) 0)) {i : Nat} (hi : i < t.size) :
    ∃ r pr, (infos t)[i]? = some r ∧ R[i]? = some pr ∧ PartIs K C H pr r.sub.hd r.aro (inPlaces r.sub i) := by
  have lenI : (infos t).length = t.size := info_len _ _ _ _
  have lenR : R.length = t.size := by rw [PR.1, pre_len]
  obtain ⟨r, hr⟩ : ∃ r, (infos t)[i]? = some r := ⟨(infos t)[i]'(by omega), by simp⟩
  obtain ⟨pr, hpr⟩ : ∃ pr, R[i]? = some pr := ⟨R[i]'(by omega), by simp⟩
  have z := PR.2 i pr _ _ hpr (pre_get hr)
  rw [pre_aro, kids_at hr] at z
  exact ⟨r, pr, hr, hpr, z⟩
theorem hd_at0 (hd : Hd) : atI (hv hd) 0 = some (.str (hw hd)) := atI_nat (j := 0) (hv_head hd)
theorem fld_head (h : V) (a : Int) (l : Addr) : (pf h a l).lookup ("head" : Str) = some h := rfl
def stH : Hd → Nat
  | .two true => 2
  | .two false => 1
  | .one k _ => if k.bind = true then 0 else 3
  | _ => 3
def sgW (b : Bool) : Str := if b = true then "&" else "|"
def bdW (k : One) : Str := match k with
  | .least => "mu"
  | _ => "nu"
/-- what the texts' tables hold -/
structure TxtF (K : PySem.W.Frag) (mg : Str → Option Value) (w : World) (SG BW ST : Addr) (tS : Tok) : Prop where
  m_SIGNS : mg "SIGNS" = some (.ref SG)
  m_BINDER_WORDS : mg "BINDER_WORDS" = some (.ref BW)
  m_STRENGTHS : mg "STRENGTHS" = some (.ref ST)
  m_STRONGEST : mg "STRONGEST" = some (.int 3 tS)
  k_SIGNS : ∃ es n, KDict K w SG es n
  k_BINDER_WORDS : ∃ es n, KDict K w BW es n
  k_STRENGTHS : ∃ es n, KDict K w ST es n
  i_SIGNS : ∀ h : Hd, ∃ r, PySem.W.nsIn K SG (hw h) = some r ∧ r.isSome = isTwo h
  i_BINDER_WORDS : ∀ h : Hd, ∃ r, PySem.W.nsIn K BW (hw h) = some r ∧ r.isSome = isBH h
  g_SIGNS : ∀ b : Bool, KDct K w SG (wT b) (.str (sgW b))
  g_BINDER_WORDS : ∀ k : One, k.bind = true → KDct K w BW (wO k) (.str (bdW k))
  g_STRENGTHS : ∀ b : Bool, KDct K w ST (wT b) (.int (stH (.two b) : Nat))
  s_STRENGTHS : ∀ h : Hd, (∃ u v, PySem.W.nsIn K ST (hw h) = some (some u) ∧ RelV v u ∧ v = .int (stH h : Nat)) ∨ (PySem.W.nsIn K ST (hw h) = some none ∧ stH h = 3)
def tkH : Hd → Tk
  | .nul b => .nl b
  | .leaf k n => .lf k n
  | .one k n => .pr k n
  | .two b => .sg b
theorem emp_sL : Str.empty = sL [] := rfl
theorem stH_own (t : F) (r : Nat) (h : r ≤ 3) : (stH t.hd < r) = (own t < r) := by
  cases t with
  | nul b => simp [stH, F.hd, own]; omega
  | leaf k n => simp [stH, F.hd, own]; omega
  | two b f g => cases b <;> simp [stH, F.hd, own]
  | one k n f => simp [stH, F.hd, own]
section
variable {P : Program} {w : World} {K : PySem.W.Frag} {mg : Str → Option Value} {base : Heap} {C J B NC FE OD SG BW ST : Addr} {tS : Tok}
def spAtomT (K : PySem.W.Frag) : Sp := fun vs H Q _ => ∃ (h : Addr) (hd : Hd), vs = [.ref h] ∧ SqT K H h (hv hd) ∧ ((∃ b, hd = .nul b) ∨ ∃ k n, hd = .leaf k n ∧ 0 ≤ n ∧ n < 9) ∧ Q (.str (sL (tx (tkH hd)))) H
theorem ok_atom_text {f : Addr} {fd : FuncData} (FF : Fun K "atom_text" "atom_text" s_atom_text f fd) (T : Txt K mg C J B) : FnOk P w K mg base CX0 1 f fd a_atom_text (spAtomT K) := by
  refine FF.ok sc_atom_text (fun vs H Q E h => ?_) (fun cdv A outer s H vs Q E hr h => ?_)
  · obtain ⟨h, hd, rfl, _⟩ := h
    rfl
  · obtain ⟨h, hd, rfl, sq, hk, k⟩ := h
    refine ⟨_, (pss_cons (ps_if (pt_cmpR op_eq (pe_ix ix_tup (pv 0) pe_int (fun _ _ => rfl)) pe_str (nomark _)) (pss_one (ps_ret (pe_joined (.cons pe_str (.cons (pe_fmt (pe_ix ix_tup (pv 0) pe_int (fun _ _ => rfl))) .nil))))) pss_nil)
      (pss_cons (ps_if (pt_cmpR op_eq (pe_ix ix_tup (pv 0) pe_int (fun _ _ => rfl)) pe_str (nomark _)) (pss_one (ps_ret (pe_joined (.cons pe_str (.cons (pe_fmt (pe_ix ix_tup (pv 0) pe_int (fun _ _ => rfl))) .nil))))) pss_nil)
      (pss_cons (ps_if (pt_cmpR op_eq (pe_ix ix_tup (pv 0) pe_int (fun _ _ => rfl)) pe_str (nomark _)) (pss_one (ps_ret (pe_joined (.cons pe_str (.cons (pe_fmt (pe_ix ix_tup (pv 0) pe_int (fun _ _ => rfl))) .nil))))) pss_nil)
      (pss_one (ps_ret (pe_ix ix_tup (pv 0) pe_int (fun _ _ => rfl))))))), ?_⟩
    rcases hk with ⟨b, rfl⟩ | ⟨kd, n, rfl, n0, n9⟩
    · refine ⟨.ref h, rfl, h, _, _, .str (wN b), rfl, rfl, sq, rfl, rfl, _, rfl, kF (by cases b <;> decide) ?_⟩
      refine ⟨.ref h, rfl, h, _, _, .str (wN b), rfl, rfl, sq, rfl, rfl, _, rfl, kF (by cases b <;> decide) ?_⟩
      refine ⟨.ref h, rfl, h, _, _, .str (wN b), rfl, rfl, sq, rfl, rfl, _, rfl, kF (by cases b <;> decide) ?_⟩
      refine ⟨.ref h, rfl, h, _, _, .str (wN b), rfl, rfl, sq, rfl, ?_⟩
      have e : wN b = sL (tx (tkH (.nul b))) := by cases b <;> decide +kernel
      rw [e]
      exact k
    · have at1 : atI (hv (.leaf kd n)) 1 = some (.int n) := atI_nat (j := 1) rfl
      have lg := digit_log n0 n9
      cases kd with
      | has =>
        refine ⟨.ref h, rfl, h, _, _, .str "has", rfl, rfl, sq, rfl, rfl, _, rfl, kT ?_⟩
        refine ⟨_, rfl, big_line (by rw [emp_sL, lit_p, sL_app, sL_len]; decide), .ref h, rfl, h, _, 1, .int n, rfl, rfl, sq, at1, .inr ⟨n, rfl, lg, _, rfl, big_line (by rw [emp_sL, lit_p, digit_str n0 n9, sL_app, sL_app, sL_len]; simp), ?_⟩⟩
        show Q (V.str (Str.empty ++ (Str.ofString "p") ++ ((toString n : String) : Str))) H
        rw [emp_sL, lit_p, digit_str n0 n9, sL_app, sL_app]
        exact k
      | lacks =>
        refine ⟨.ref h, rfl, h, _, _, .str "lacks", rfl, rfl, sq, rfl, rfl, _, rfl, kF (by decide) ?_⟩
        refine ⟨.ref h, rfl, h, _, _, .str "lacks", rfl, rfl, sq, rfl, rfl, _, rfl, kT ?_⟩
        refine ⟨_, rfl, big_line (by rw [emp_sL, lit_np, sL_app, sL_len]; decide), .ref h, rfl, h, _, 1, .int n, rfl, rfl, sq, at1, .inr ⟨n, rfl, lg, _, rfl, big_line (by rw [emp_sL, lit_np, digit_str n0 n9, sL_app, sL_app, sL_len]; simp), ?_⟩⟩
        show Q (V.str (Str.empty ++ (Str.ofString "!p") ++ ((toString n : String) : Str))) H
        rw [emp_sL, lit_np, digit_str n0 n9, sL_app, sL_app]
        exact k
      | var =>
        refine ⟨.ref h, rfl, h, _, _, .str "var", rfl, rfl, sq, rfl, rfl, _, rfl, kF (by decide) ?_⟩
        refine ⟨.ref h, rfl, h, _, _, .str "var", rfl, rfl, sq, rfl, rfl, _, rfl, kF (by decide) ?_⟩
        refine ⟨.ref h, rfl, h, _, _, .str "var", rfl, rfl, sq, rfl, rfl, _, rfl, kT ?_⟩
        refine ⟨_, rfl, big_line (by rw [emp_sL, lit_x, sL_app, sL_len]; decide), .ref h, rfl, h, _, 1, .int n, rfl, rfl, sq, at1, .inr ⟨n, rfl, lg, _, rfl, big_line (by rw [emp_sL, lit_x, digit_str n0 n9, sL_app, sL_app, sL_len]; simp), ?_⟩⟩
        show Q (V.str (Str.empty ++ (Str.ofString "x") ++ ((toString n : String) : Str))) H
        rw [emp_sL, lit_x, digit_str n0 n9, sL_app, sL_app]
        exact k
def spPrefT (K : PySem.W.Frag) : Sp := fun vs H Q _ => ∃ (h : Addr) (k : One) (n : Int), vs = [.ref h] ∧ SqT K H h (hv (.one k n)) ∧ k.bind = false ∧ 0 ≤ n ∧ n < 9 ∧ Q (.str (sL (tx (.pr k n)))) H
theorem lit_gt : (Str.ofString ">") = sL [62] := by decide +kernel
theorem lit_rb : (Str.ofString "]") = sL [93] := by decide +kernel
theorem ok_prefix_text {f : Addr} {fd : FuncData} (FF : Fun K "prefix_text" "prefix_text" s_prefix_text f fd) (T : Txt K mg C J B) : FnOk P w K mg base CX0 1 f fd a_prefix_text (spPrefT K) := by
  refine FF.ok sc_prefix_text (fun vs H Q E h => ?_) (fun cdv A outer s H vs Q E hr h => ?_)
  · obtain ⟨h, kd, n, rfl, _⟩ := h
    rfl
  · obtain ⟨h, kd, n, rfl, sq, hk, n0, n9, k⟩ := h
    refine ⟨_, (pss_cons (ps_if (pt_cmpR op_eq (pe_ix ix_tup (pv 0) pe_int (fun _ _ => rfl)) pe_str (nomark _)) (pss_one (ps_ret (pe_joined (.cons pe_str (.cons (pe_fmt (pe_ix ix_tup (pv 0) pe_int (fun _ _ => rfl))) (.cons pe_str .nil)))))) pss_nil)
      (pss_one (ps_ret (pe_joined (.cons pe_str (.cons (pe_fmt (pe_ix ix_tup (pv 0) pe_int (fun _ _ => rfl))) (.cons pe_str .nil))))))), ?_⟩
    have at1 : atI (hv (.one kd n)) 1 = some (.int n) := atI_nat (j := 1) rfl
    have lg := digit_log n0 n9
    cases kd with
    | least => cases hk
    | most => cases hk
    | some =>
      refine ⟨.ref h, rfl, h, _, _, .str "some", rfl, rfl, sq, rfl, rfl, _, rfl, kT ?_⟩
      refine ⟨_, rfl, big_line (by rw [emp_sL, lit_lt, sL_app, sL_len]; decide), .ref h, rfl, h, _, 1, .int n, rfl, rfl, sq, at1, .inr ⟨n, rfl, lg, _, rfl, big_line (by rw [emp_sL, lit_lt, digit_str n0 n9, sL_app, sL_app, sL_len]; simp), _, rfl, big_line (by rw [emp_sL, lit_lt, lit_gt, digit_str n0 n9, sL_app, sL_app, sL_app, sL_len]; simp), ?_⟩⟩
      show Q (V.str (Str.empty ++ (Str.ofString "<") ++ ((toString n : String) : Str) ++ (Str.ofString ">"))) H
      rw [emp_sL, lit_lt, lit_gt, digit_str n0 n9, sL_app, sL_app, sL_app]
      exact k
    | all =>
      refine ⟨.ref h, rfl, h, _, _, .str "all", rfl, rfl, sq, rfl, rfl, _, rfl, kF (by decide) ?_⟩
      refine ⟨_, rfl, big_line (by rw [emp_sL, lit_lb, sL_app, sL_len]; decide), .ref h, rfl, h, _, 1, .int n, rfl, rfl, sq, at1, .inr ⟨n, rfl, lg, _, rfl, big_line (by rw [emp_sL, lit_lb, digit_str n0 n9, sL_app, sL_app, sL_len]; simp), _, rfl, big_line (by rw [emp_sL, lit_lb, lit_rb, digit_str n0 n9, sL_app, sL_app, sL_app, sL_len]; simp), ?_⟩⟩
      show Q (V.str (Str.empty ++ (Str.ofString "[") ++ ((toString n : String) : Str) ++ (Str.ofString "]"))) H
      rw [emp_sL, lit_lb, lit_rb, digit_str n0 n9, sL_app, sL_app, sL_app]
      exact k
/-! ### an operand, in parentheses where they are due -/
def oT (t : F) : Str := sL (flat (body t))
def spEncl (K : PySem.W.Frag) : Sp := fun vs H Q _ => ∃ (o : Addr) (t : F) (r : Nat), vs = [.ref o, .int (r : Nat)] ∧ SqT K H o [.str (hw t.hd), .str (oT t)] ∧ r ≤ 3 ∧ t.size ≤ 1000 ∧ Q (.str (pT t r)) H
theorem lit_lp : (Str.ofString "(") = sL [40] := by decide +kernel
theorem lit_rp : (Str.ofString ")") = sL [41] := by decide +kernel
theorem ok_enclosed {f : Addr} {fd : FuncData} (FF : Fun K "enclosed" "enclosed" s_enclosed f fd) (T : Txt K mg C J B) (TR : TxtF K mg w SG BW ST tS) : FnOk P w K mg base CX0 1 f fd a_enclosed (spEncl K) := by
  refine FF.ok sc_enclosed (fun vs H Q E h => ?_) (fun cdv A outer s H vs Q E hr h => ?_)
  · obtain ⟨o, t, r, rfl, _⟩ := h
    rfl
  · obtain ⟨o, t, r, rfl, sq, r3, hsz, k⟩ := h
    refine ⟨_, (pss_cons (ps_asg (pv 0) (pg_tup rfl (pgs_cons (pg_name (i := 2) sc_enclosed.nd rfl (.inl rfl)) (pgs_cons (pg_name (i := 3) sc_enclosed.nd rfl (.inl rfl)) pgs_nil))))
      (pss_cons (ps_if (pt_cmpR op_lt (pe_kget (pe_glob rfl TR.m_STRENGTHS (show RelV (.ref _) _ from rfl)) (pv 2) (pe_glob rfl TR.m_STRONGEST (show RelV (.int 3) _ from ⟨_, rfl⟩)) ⟨rfl, rfl, rfl, rfl⟩) (pv 1) (nomark _)) (pss_one (ps_ret (pe_joined (.cons pe_str (.cons (pe_fmt (pv 3)) (.cons pe_str .nil)))))) pss_nil)
      (pss_one (ps_ret (pv 3))))), ?_⟩
    obtain ⟨es, n, kST⟩ := TR.k_STRENGTHS
    have bl : (oT t).length + 2 ≤ 20000 := by unfold oT; rw [sL_len]; have := flat_len t; omega
    rw [pT_wrap] at k
    replace k : Q (V.str (if stH t.hd < r then (Str.ofString "(") ++ oT t ++ (Str.ofString ")") else oT t)) H := by
      simp only [stH_own t r r3]
      exact k
    refine ⟨.ref o, rfl, o, _, rfl, sq, rfl, _, _, rfl, _, _, rfl, rfl, ?_⟩
    refine ⟨ST, es, n, rfl, kST, .str (hw t.hd), rfl, hw t.hd, rfl, ?_⟩
    have go : ∀ z : Int, z = (stH t.hd : Nat) → ∃ i j : Int, V.int z = .int i ∧ V.int (r : Nat) = .int j ∧ True := fun z _ => ⟨_, _, rfl, rfl, trivial⟩
    rcases TR.s_STRENGTHS t.hd with ⟨u, v, e1, rv, e2⟩ | ⟨e1, e2⟩
    · refine .inl ⟨u, v, e1, rv, ?_⟩
      subst e2
      refine ⟨.int (r : Nat), rfl, _, _, rfl, rfl, _, rfl, ite2 (fun c => ?_) (fun c => ?_)⟩
      · rw [if_pos (by have := of_decide_eq_true c; omega)] at k
        refine ⟨_, rfl, big_line (by rw [emp_sL, lit_lp, sL_app, sL_len]; decide), .str (oT t), rfl, .inl ⟨oT t, rfl, big_line (by omega), _, rfl, big_line (by rw [len_app, emp_sL, lit_lp, sL_app, sL_len]; simp; omega), _, rfl, big_line (by rw [len_app, len_app, emp_sL, lit_lp, lit_rp, sL_app, sL_len, sL_len]; simp; omega), ?_⟩⟩
        exact k
      · rw [if_neg (fun z => c (decide_eq_true (by omega)))] at k
        exact ⟨_, rfl, k⟩
    · refine .inr ⟨e1, ?_⟩
      rw [e2] at k
      refine ⟨.int (r : Nat), rfl, _, _, rfl, rfl, _, rfl, ite2 (fun c => absurd (of_decide_eq_true c) (by omega)) (fun c => ?_)⟩
      rw [if_neg (by omega)] at k
      exact ⟨_, rfl, k⟩
end
end Fw

set_option maxRecDepth 100000
set_option maxHeartbeats 8000000
namespace Fw
open PySem PySem.Spec PyProof.Rows L2
theorem get_snocP {α : Type} {l : List α} {x : α} {i : Nat} {y : α} (h : (l ++ [x])[i]? = some y) : l[i]? = some y ∨ (i = l.length ∧ x = y) := by
  by_cases lt : i < l.length
  · rw [List.getElem?_append_left lt] at h
    exact .inl h
  · have e : i = l.length := by
      have := (List.getElem?_eq_some_iff.mp h).1
      rw [List.length_append, List.length_singleton] at this
      omega
    subst e
    rw [List.getElem?_append_right (Nat.le_refl _), Nat.sub_self] at h
    exact .inr ⟨rfl, Option.some.inj h⟩
section
variable {P : Program} {w : World} {K : PySem.W.Frag} {mg : Str → Option Value} {base : Heap} {C J B NC FE OD SG BW ST : Addr} {tS : Tok}
def spJoin (K : PySem.W.Frag) : Sp := fun vs H Q _ => ∃ (l r : Addr) (b : Bool) (f g : F), vs = [.str (wT b), .ref l, .ref r] ∧ SqT K H l [.str (hw f.hd), .str (oT f)] ∧ SqT K H r [.str (hw g.hd), .str (oT g)] ∧ f.size + g.size ≤ 1000 ∧ Q (.str (oT (.two b f g))) H
theorem ok_join_text {f : Addr} {fd : FuncData} (FF : Fun K "join_text" "join_text" s_join_text f fd) (T : Txt K mg C J B) (TR : TxtF K mg w SG BW ST tS)
    (h_enclosed : Has P w K mg base "enclosed" 1 a_enclosed (spEncl K)) : FnOk P w K mg base CX0 2 f fd a_join_text (spJoin K) := by
  refine FF.ok sc_join_text (fun vs H Q E h => ?_) (fun cdv A outer s H vs Q E hr h => ?_)
  · obtain ⟨l, r, b, f, g, rfl, _⟩ := h
    rfl
  · obtain ⟨l, r, b, f, g, rfl, sl, sr, hsz, k⟩ := h
    refine ⟨_, (pss_cons (ps_set (i := 3) sc_join_text.nd rfl (.inl rfl) (pe_ix (show IxR _ (rIxD K w) from ix_kdict) (pe_glob rfl TR.m_STRENGTHS (show RelV (.ref _) _ from rfl)) (pv 0) (fun _ _ => rfl)))
      (pss_one (ps_ret (pe_op op_add_str (pe_op op_add_str (pe_callH h_enclosed (hr.mono (by omega)) (pa_cons (pv 1) (pa_cons (pv 3) pa_nil))) (pe_joined (.cons pe_str (.cons (pe_fmt (pe_ix (show IxR _ (rIxD K w) from ix_kdict) (pe_glob rfl TR.m_SIGNS (show RelV (.ref _) _ from rfl)) (pv 0) (fun _ _ => rfl))) (.cons pe_str .nil))))) (pe_callH h_enclosed (hr.mono (by omega)) (pa_cons (pv 2) (pa_cons (pe_op op_add (pv 3) pe_int) pa_nil))))))), ?_⟩
    refine ⟨.str (wT b), rfl, ST, _, _, rfl, rfl, TR.g_STRENGTHS b, ?_⟩
    have lf : ∀ r, (pT f r).length ≤ 20000 := pT_len (by omega)
    have lg : ∀ r, (pT g r).length ≤ 20000 := pT_len (by omega)
    have sg1 : (sgW b).length = 1 := by cases b <;> decide +kernel
    have st2 : stH (.two b) ≤ 2 := by cases b <;> decide
    refine ⟨.ref l, rfl, .int (stH (.two b) : Nat), rfl, l, f, _, rfl, sl, by omega, by omega, ?_⟩
    refine ⟨_, rfl, big_line (by rw [emp_sL, lit_sp, sL_app, sL_len]; decide), .str (wT b), rfl, SG, _, _, rfl, rfl, TR.g_SIGNS b, .inl ⟨_, rfl, big_line (by omega), _, rfl, big_line (by rw [len_app, emp_sL, lit_sp, sL_app, sL_len, sg1]; decide), _, rfl, big_line (by rw [len_app, len_app, emp_sL, lit_sp, sL_app, sL_len, sL_len, sg1]; decide), ?_⟩⟩
    have l1 := lf (stH (.two b))
    have l2 := lg (stH (.two b) + 1)
    refine ⟨_, _, rfl, rfl, big_line (by rw [len_app, len_app, emp_sL, lit_sp, sL_app, sL_len, sL_len, sg1]; simp; omega), ?_⟩
    refine ⟨.ref r, rfl, .int (stH (.two b) : Nat), rfl, _, 1, rfl, rfl, r, g, stH (.two b) + 1, rfl, sr, by omega, by omega, ?_⟩
    refine ⟨_, _, rfl, rfl, big_line (by rw [len_app, len_app, len_app, emp_sL, lit_sp, sL_app, sL_len, sL_len, sg1]; simp; omega), ?_⟩
    have e : pT f (stH (.two b)) ++ (Str.empty ++ (Str.ofString " ") ++ sgW b ++ (Str.ofString " ")) ++ pT g (stH (.two b) + 1) = oT (.two b f g) := by
      have es : sgW b = sL (tx (.sg b)) := by cases b <;> decide +kernel
      unfold pT oT
      rw [es, emp_sL, lit_sp, sL_app, sL_app, sL_app, sL_app, sL_app]
      cases b
      · have : flat (body (.two false f g)) = flat (wrap f (body f) 1) ++ flat [none, some (.sg false), none] ++ flat (wrap g (body g) 2) := by rw [← flat_app, ← flat_app]; rfl
        rw [this]
        rfl
      · have : flat (body (.two true f g)) = flat (wrap f (body f) 2) ++ flat [none, some (.sg true), none] ++ flat (wrap g (body g) 3) := by rw [← flat_app, ← flat_app]; rfl
        rw [this]
        rfl
    show Q (V.str (pT f (stH (.two b)) ++ (Str.empty ++ (Str.ofString " ") ++ sgW b ++ (Str.ofString " ")) ++ pT g (stH (.two b) + 1))) H
    rw [e]
    exact k
/-! ### the whole text -/
def spFmt (K : PySem.W.Frag) : Sp := fun vs H Q _ => ∃ (v : V) (t : F), vs = [v] ∧ IsF K H v t ∧ Ok t ∧ t.size ≤ 1000 ∧ ∀ H', Same H H' → Q (.str (oT t)) H'
theorem ok_sub {t : F} (ok : Ok t) : ∀ r ∈ infos t, Ok r.sub := by
  have key : ∀ (t : F) (a : Int) (i : Nat) (st : Stk), Ok t → ∀ r ∈ info t a i st, Ok r.sub := by
    intro t
    induction t with
    | nul b => intro a i st ok r hr; rw [List.mem_singleton.mp (show r ∈ [_] from hr)]; exact ok
    | leaf k n => intro a i st ok r hr; rw [List.mem_singleton.mp (show r ∈ [_] from hr)]; exact ok
    | two b f g ihf ihg =>
      intro a i st ok r hr
      simp only [info, List.mem_cons, List.mem_append] at hr
      rcases hr with rfl | hr | hr
      · exact ok
      · exact ihf _ _ _ ok.1 r hr
      · exact ihg _ _ _ ok.2 r hr
    | one k n f ih =>
      intro a i st ok r hr
      simp only [info, List.mem_cons] at hr
      rcases hr with rfl | hr
      · exact ok
      · exact ih _ _ _ ok.2 r hr
  exact key t _ _ _ ok
theorem sub_sz (t : F) : ∀ r ∈ infos t, r.sub.size ≤ t.size := by
  have key : ∀ (t : F) (a : Int) (i : Nat) (st : Stk), ∀ r ∈ info t a i st, r.sub.size ≤ t.size := by
    intro t
    induction t with
    | nul b => intro a i st r hr; rw [List.mem_singleton.mp (show r ∈ [_] from hr)]; exact Nat.le_refl _
    | leaf k n => intro a i st r hr; rw [List.mem_singleton.mp (show r ∈ [_] from hr)]; exact Nat.le_refl _
    | two b f g ihf ihg =>
      intro a i st r hr
      simp only [info, List.mem_cons, List.mem_append] at hr
      simp only [F.size]
      rcases hr with rfl | hr | hr
      · simp only [F.size]; omega
      · have := ihf _ _ _ r hr; omega
      · have := ihg _ _ _ r hr; omega
    | one k n f ih =>
      intro a i st r hr
      simp only [info, List.mem_cons] at hr
      simp only [F.size]
      rcases hr with rfl | hr
      · simp only [F.size]; omega
      · have := ih _ _ _ r hr; omega
  exact key t _ _ _
theorem flat_one (t : Tk) : flat [some t] = tx t := by simp [flat]
theorem ok_format_statement {f : Addr} {fd : FuncData} (FF : Fun K "format_statement" "format_statement" s_format_statement f fd) (T : Txt K mg C J B) (TR : TxtF K mg w SG BW ST tS)
    (h_parts_of : Has P w K mg base "parts_of" 3 a_parts_of (spParts K C)) (h_join_text : Has P w K mg base "join_text" 2 a_join_text (spJoin K)) (h_prefix_text : Has P w K mg base "prefix_text" 1 a_prefix_text (spPrefT K))
    (h_enclosed : Has P w K mg base "enclosed" 1 a_enclosed (spEncl K)) (h_atom_text : Has P w K mg base "atom_text" 1 a_atom_text (spAtomT K)) : FnOk P w K mg base CX0 4 f fd a_format_statement (spFmt K) := by
  refine FF.ok sc_format_statement (fun vs H Q E h => ?_) (fun cdv A outer s H vs Q E hr h => ?_)
  · obtain ⟨v, t, rfl, _⟩ := h
    rfl
  · obtain ⟨v, t, rfl, ht, ok, hsz, k⟩ := h
    have lenI : (infos t).length = t.size := info_len _ _ _ _
    obtain ⟨es1, n1, kd_SIGNS⟩ := TR.k_SIGNS
    obtain ⟨es2, n2, kd_BINDER_WORDS⟩ := TR.k_BINDER_WORDS
    refine ⟨_, (pss_cons (ps_set (i := 1) sc_format_statement.nd rfl (.inr rfl) (pe_callH h_parts_of (hr.mono (by omega)) (pa_cons (pv 0) pa_nil)))
      (pss_cons (ps_set (i := 2) sc_format_statement.nd rfl (.inr rfl) (pe_op op_rep (pe_lst (pa_cons pe_str pa_nil)) (pe_callB call_len_seq rfl T.z_len (by decide +kernel) (pa_cons (pv 1) pa_nil))))
      (pss_cons (ps_for PassesOwn.never rfl (pi_revR rfl T.z_reversed (prg_1 rfl T.z_range (pe_callB call_len_seq rfl T.z_len (by decide +kernel) (pa_cons (pv 1) pa_nil)))) (pg_name (i := 3) sc_format_statement.nd rfl (.inl rfl)) (pss_cons (ps_set (i := 4) sc_format_statement.nd rfl (.inl rfl) (pe_fld (pe_ix ix_list (pv 1) (pv 3) (fun _ _ => rfl)) rfl))
      (pss_cons (ps_setLc (i := 5) (own := [("place", 6)]) (g := gName 6) rfl sc_format_statement.nd rfl rfl (sw_true rfl rfl rfl (by decide +kernel)) (pi_list (pe_fld (pe_ix ix_list (pv 1) (pv 3) (fun _ _ => rfl)) rfl)) (blkOk_by (own := [("place", 6)]) (N := n_format_statement) (sc := defScope s_format_statement) (by decide +kernel)) (fun _ _ _ _ _ => (pg_name (i := 6) sc_format_statement.nd rfl (.inl rfl))) (fun _ _ _ _ _ => pts_nil) (fun _ _ _ _ _ => (pe_tup (pa_cons (pe_ix (@id (IxR _ (rIxT K)) ix_tup) (show PE _ _ (tFld K _ "head") from pe_fld (pe_ix (@id (IxR _ (rIxL K)) ix_list) (pv 1) (pv 6) (fun _ _ => rfl)) rfl) pe_int (fun _ _ => rfl)) (pa_cons (pe_ix (@id (IxR _ (rIxL K)) ix_list) (pv 2) (pv 6) (fun _ _ => rfl)) pa_nil)))))
      (pss_one (ps_if (pt_cmpR (op_in_kd kd_SIGNS) (pe_ix ix_tup (pv 4) pe_int (fun _ _ => rfl)) (pe_glob rfl TR.m_SIGNS (show RelV (.ref _) _ from rfl)) (by rfl)) (pss_one (ps_asg (pe_callH h_join_text (hr.mono (by omega)) (pa_cons (pe_ix ix_tup (pv 4) pe_int (fun _ _ => rfl)) (pa_cons (pe_ix ix_list (pv 5) pe_int (fun _ _ => rfl)) (pa_cons (pe_ix ix_list (pv 5) pe_int (fun _ _ => rfl)) pa_nil)))) (pg_sub (pv 2) (pv 3) set_list))) (pss_one (ps_if (pt_cmpR (op_in_kd kd_BINDER_WORDS) (pe_ix ix_tup (pv 4) pe_int (fun _ _ => rfl)) (pe_glob rfl TR.m_BINDER_WORDS (show RelV (.ref _) _ from rfl)) (by rfl)) (pss_one (ps_asg (pe_joined (.cons (pe_fmt (pe_ix (show IxR _ (rIxD K w) from ix_kdict) (pe_glob rfl TR.m_BINDER_WORDS (show RelV (.ref _) _ from rfl)) (pe_ix ix_tup (pv 4) pe_int (fun _ _ => rfl)) (fun _ _ => rfl))) (.cons pe_str (.cons (pe_fmt (pe_ix ix_tup (pv 4) pe_int (fun _ _ => rfl))) (.cons pe_str (.cons (pe_fmt (pe_ix ix_tup (pe_ix ix_list (pv 5) pe_int (fun _ _ => rfl)) pe_int (fun _ _ => rfl))) .nil)))))) (pg_sub (pv 2) (pv 3) set_list))) (pss_one (ps_if (pt_truth (pv 5) (by intro _; rfl)) (pss_one (ps_asg (pe_op op_add_str (pe_op op_add_str (pe_callH h_prefix_text (hr.mono (by omega)) (pa_cons (pv 4) pa_nil)) pe_str) (pe_callH h_enclosed (hr.mono (by omega)) (pa_cons (pe_ix ix_list (pv 5) pe_int (fun _ _ => rfl)) (pa_cons (pe_glob rfl TR.m_STRONGEST (show RelV (.int 3) _ from ⟨_, rfl⟩)) pa_nil)))) (pg_sub (pv 2) (pv 3) set_list))) (pss_one (ps_asg (pe_callH h_atom_text (hr.mono (by omega)) (pa_cons (pv 4) pa_nil)) (pg_sub (pv 2) (pv 3) set_list))))))))))))
      (pss_one (ps_ret (pe_ix ix_list (pv 2) pe_int (fun _ _ => rfl))))))), ?_⟩
    refine ⟨v, rfl, v, t, rfl, ht, hsz, fun pa H1 s1 PA => ?_⟩
    obtain ⟨R, hR, PR⟩ := id PA
    have lenR : R.length = t.size := by rw [PR.1, pre_len]
    have RL : (R.map fun r => V.ref r.p).length = t.size := by rw [List.length_map, lenR]
    have small : ∀ n : Nat, n ≤ 1000 → n < sizeLine := fun n hn => small1000 hn
    refine ⟨by show 1 ≤ sizeLine; decide, fun o ho => ?_⟩
    have so := Same.new (o := .lst [V.str (Str.ofString "")]) ho
    refine ⟨.ref pa, rfl, pa, _, rfl, .inl (so.seq hR), ?_⟩
    rw [RL]
    refine ⟨o, (t.size : Nat), _, rfl, rfl, upd_same, by omega, by omega, ?_, fun ma hma => ?_⟩
    · rw [List.length_singleton, Nat.one_mul, Int.toNat_natCast]
      exact Nat.le_of_lt (small _ hsz)
    generalize hM : (List.replicate ((t.size : Nat) : Int).toNat [V.str (Str.ofString "")]).flatten = M
    have lenM : M.length = t.size := by
      rw [← hM, List.length_flatten, List.map_replicate, List.sum_replicate_nat]
      simp
    have sm := Same.new (o := .lst M) hma
    have s0 := so.trans sm
    have hma0 : H1 ma = none := so.free hma
    generalize hG : upd (upd H1 o (.lst [V.str (Str.ofString "")])) ma (.lst M) = G0 at sm s0
    have m0 : G0 ma = some (.lst M) := by rw [← hG, upd_same]
    clear hG sm so
    refine ⟨.ref pa, rfl, pa, _, rfl, .inl (s0.seq hR), (t.size : Nat), by rw [RL], by omega, by omega, by omega, by omega, ?_⟩
    refine for_rangeC (fun i σ G => ∃ (ms : List V) (y3 y4 y5 : Option V), σ = [some v, some (.ref pa), some (.ref ma), y3, y4, y5, none] ∧ Same H1 G ∧ G ma = some (.lst ms) ∧ ms.length = t.size ∧
      ∀ j r, t.size - i ≤ j → (infos t)[j]? = some r → ms[j]? = some (.str (oT r.sub))) ⟨M, none, none, none, rfl, s0, m0, lenM, fun j r hj hjr => ?_⟩ ?_ ?_
    · have := (List.getElem?_eq_some_iff.mp hjr).1
      omega
    · rintro i σ G hi ⟨ms, y3, y4, y5, rfl, sG, gm, lm, inv⟩
      have hi' : i < t.size := by omega
      obtain ⟨j, hj⟩ : ∃ j : Nat, j = t.size - 1 - i := ⟨_, rfl⟩
      have ej : (0 : Int) + (((t.size : Nat) : Int) - 0).toNat - 1 + (i : Nat) * (-1) = (j : Nat) := by omega
      rw [ej]
      have jlt : j < t.size := by omega
      obtain ⟨r, pr, hr', hpr, z0⟩ := PartsAt.nth (pa := pa) PR jlt
      have z := z0.same sG
      have oks := ok_sub ok r (List.mem_of_getElem? hr')
      have rsz : r.sub.size ≤ 1000 := Nat.le_trans (sub_sz t r (List.mem_of_getElem? hr')) hsz
      obtain ⟨kl, kr⟩ := kids_recs hr'
      have at_pr : atI (R.map fun (r : PRec) => V.ref r.p) (j : Nat) = some (.ref pr.p) := atI_nat (j := j) (by rw [List.getElem?_map, hpr]; rfl)
      refine ⟨.ref pa, rfl, .int (j : Nat), rfl, pa, _, _, .ref pr.p, rfl, rfl, sG.seq hR, at_pr, pr.p, C, pr.dx, _, .ref pr.h, rfl, z.ob, T.cl, T.nH, fld_head _ _ _, ?_⟩
      refine ⟨.ref pa, rfl, .int (j : Nat), rfl, pa, _, _, .ref pr.p, rfl, rfl, sG.seq hR, at_pr, pr.p, C, pr.dx, _, .ref pr.l, rfl, z.ob, T.cl, T.nI, rfl, pr.l, rfl, ⟨_, SqL.of z.inn⟩, fun D hD => ?_⟩
      refine lc_list (xs := (inPlaces r.sub j).map fun n => V.int (n : Nat)) (fun m G2 => Same G G2 ∧ ∃ acc : List Addr, G2 D = some (.lst (acc.map V.ref)) ∧ acc.length = m ∧
        ∀ m' a, acc[m']? = some a → ∃ f, r.sub.kids[m']? = some f ∧ SqT K G2 a [.str (hw f.hd), .str (oT f)]) ⟨Same.new hD, [], upd_same, rfl, fun m' v e => absurd e (no_get m' v)⟩ (fun m G2 _ q => SqL.of (q.1 _ _ z.inn)) ?_ ?_
      · rintro m x G2 hx ⟨s2, acc, hacc, lacc, iacc⟩
        rw [List.getElem?_map] at hx
        obtain ⟨p, hp, rfl⟩ : ∃ p, (inPlaces r.sub j)[m]? = some p ∧ x = V.int (p : Nat) := by
          cases e : (inPlaces r.sub j)[m]? with
          | none => rw [e] at hx; cases hx
          | some p => rw [e] at hx; exact ⟨p, rfl, (Option.some.inj hx).symm⟩
        obtain ⟨r', h1, h2, h3⟩ := kr m p hp
        have hv1 := inv p r' (by omega) h1
        have plt : p < t.size := by have := (List.getElem?_eq_some_iff.mp h1).1; omega
        obtain ⟨r2, pr2, hr2, hpr2, z20⟩ := PartsAt.nth (pa := pa) PR plt
        rw [h1] at hr2
        cases hr2
        have s12 := sG.trans s2
        have z2 := z20.same s12
        refine ⟨rfl, .ref pa, rfl, .int (p : Nat), rfl, pa, _, _, .ref pr2.p, rfl, rfl, s12.seq hR, atI_nat (j := p) (by rw [List.getElem?_map, hpr2]; rfl), pr2.p, C, pr2.dx, _, .ref pr2.h, rfl, z2.ob, T.cl, T.nH, fld_head _ _ _, pr2.h, _, _, _, rfl, rfl, z2.hd, hd_at0 _, .ref ma, rfl, .int (p : Nat), rfl, ma, _, _, _, rfl, rfl, SqL.of (s2 _ _ gm), atI_nat (j := p) hv1, by show 2 ≤ sizeLine; decide, fun tp htp => ?_⟩
        have s3 := Same.new (o := .tup [.str (hw r'.sub.hd), .str (oT r'.sub)]) htp
        have hacc3 := s3 _ _ hacc
        refine ⟨_, hacc3, ?_, ?_⟩
        · have : m < (inPlaces r.sub j).length := (List.getElem?_eq_some_iff.mp hp).1
          have l2 : (inPlaces r.sub j).length ≤ 2 := by
            rw [kl]
            exact F.kids_le r.sub
          rw [List.length_map]
          exact small _ (by omega)
        · have dn : ∀ b o, G b = some o → b ≠ D := fun b o e => ne_of_none e hD
          have lk : LKp (upd G2 tp (.tup [.str (hw r'.sub.hd), .str (oT r'.sub)])) (upd (upd G2 tp (.tup [.str (hw r'.sub.hd), .str (oT r'.sub)])) D (.lst (acc.map V.ref ++ [.ref tp]))) := LKp.upd hacc3
          refine ⟨fun b o e => by rw [upd_ne (dn b o e)]; exact s3 _ _ (s2 b o e), acc ++ [tp], by rw [upd_same, List.map_append]; rfl, (by rw [List.length_append, List.length_singleton, lacc]), fun m' v' e => ?_⟩
          rcases get_snocP e with e | ⟨rfl, rfl⟩
          · obtain ⟨f, e1, e2⟩ := iacc m' v' e
            exact ⟨f, e1, SqT.lk lk (SqT.same s3 e2)⟩
          · rw [lacc]
            exact ⟨r'.sub, h2, SqT.lk lk (SqT.of upd_same)⟩
      · rintro G2 ⟨s2, acc, hacc, lacc, iacc⟩
        rw [List.length_map] at lacc
        have fin : ∀ (G4 : Hp) (y5 : Option V), Same G2 G4 → ∃ (ms' : List V) (y3 y4 y5' : Option V), ([some v, some (.ref pa), some (.ref ma), some (.int (j : Nat)), some (.ref pr.h), y5, none] : List (Option V)) = [some v, some (.ref pa), some (.ref ma), y3, y4, y5', none] ∧
            Same H1 (upd G4 ma (.lst (ms.set j (.str (oT r.sub))))) ∧ (upd G4 ma (.lst (ms.set j (.str (oT r.sub))))) ma = some (.lst ms') ∧ ms'.length = t.size ∧ ∀ j' r, t.size - (i + 1) ≤ j' → (infos t)[j']? = some r → ms'[j']? = some (.str (oT r.sub)) := by
          intro G4 y5 s4
          refine ⟨_, _, _, _, rfl, fun c o e => ?_, upd_same, by rw [List.length_set]; exact lm, fun j' r2 hj' hr2 => ?_⟩
          · rw [upd_ne (fun q => by rw [q, hma0] at e; cases e)]
            exact s4 _ _ (s2 _ _ (sG _ _ e))
          · by_cases e : j' = j
            · subst e
              rw [hr'] at hr2
              cases hr2
              rw [List.getElem?_set_self (by omega)]
            · rw [List.getElem?_set_ne (fun q => e q.symm)]
              exact inv j' r2 (by omega) hr2
        have gm3 := s2 _ _ gm
        have ixj : ixN ms.length ((j : Nat) : Int) = some j := by
          unfold ixN
          rw [if_pos (by omega), if_pos (by omega), Int.toNat_natCast]
        have hdT := SqT.same s2 z.hd
        obtain ⟨r1, e1, b1⟩ := TR.i_SIGNS r.sub.hd
        refine ⟨.ref pr.h, rfl, pr.h, _, _, _, rfl, rfl, hdT, hd_at0 _, _, r1, rfl, rfl, e1, _, rfl, ?_⟩
        obtain ⟨s, hs⟩ : ∃ s, r.sub = s := ⟨_, rfl⟩
        rw [hs] at oks kl iacc hdT b1 e1 fin rsz lacc
        clear kr z z0
        have at0 := hd_at0 s.hd
        rw [b1]
        obtain ⟨r2, e2, b2⟩ := TR.i_BINDER_WORDS s.hd
        cases s with
        | two b f g =>
          have l2 : acc.length = 2 := by rw [lacc, kl]; rfl
          obtain ⟨a0, a1, rfl⟩ : ∃ a0 a1, acc = [a0, a1] := by
            match acc, l2 with
            | [a0, a1], _ => exact ⟨a0, a1, rfl⟩
          obtain ⟨f', q1, sq0⟩ := iacc 0 a0 rfl
          obtain ⟨g', q2, sq1⟩ := iacc 1 a1 rfl
          cases q1
          cases q2
          refine iteT ?_
          refine ⟨.ref pr.h, rfl, pr.h, _, _, _, rfl, rfl, hdT, at0, .ref D, rfl, D, _, 0, .ref a0, rfl, rfl, SqL.of hacc, rfl, .ref D, rfl, D, _, 1, .ref a1, rfl, rfl, SqL.of hacc, rfl, a0, a1, b, f, g, rfl, sq0, sq1, by simp only [F.size] at rsz; omega, ?_⟩
          exact ⟨.ref ma, rfl, .int (j : Nat), rfl, ma, _, _, j, rfl, rfl, gm3, ixj, fin G2 _ (Same.refl _)⟩
        | nul b =>
          have l0 : acc.length = 0 := by rw [lacc, kl]; rfl
          obtain rfl : acc = [] := List.length_eq_zero_iff.mp l0
          refine iteF ⟨.ref pr.h, rfl, pr.h, _, _, _, rfl, rfl, hdT, at0, _, r2, rfl, rfl, e2, _, rfl, ?_⟩
          rw [b2]
          refine iteF ⟨.ref D, rfl, false, .inl ⟨_, SqL.of hacc, rfl⟩, iteF ?_⟩
          refine ⟨.ref pr.h, rfl, pr.h, _, rfl, hdT, .inl ⟨b, rfl⟩, ?_⟩
          have e : sL (tx (tkH (F.nul b).hd)) = oT (.nul b) := by unfold oT; rw [show body (.nul b) = [some (.nl b)] from rfl, flat_one]; rfl
          rw [e]
          exact ⟨.ref ma, rfl, .int (j : Nat), rfl, ma, _, _, j, rfl, rfl, gm3, ixj, fin G2 _ (Same.refl _)⟩
        | leaf kd n =>
          have l0 : acc.length = 0 := by rw [lacc, kl]; rfl
          obtain rfl : acc = [] := List.length_eq_zero_iff.mp l0
          have n09 : 0 ≤ n ∧ n < 9 := by
            cases kd with
            | var => have := V4_nonneg (show n ∈ V4 from oks); omega
            | has => have := oks.1; have := oks.2; omega
            | lacks => have := oks.1; have := oks.2; omega
          refine iteF ⟨.ref pr.h, rfl, pr.h, _, _, _, rfl, rfl, hdT, at0, _, r2, rfl, rfl, e2, _, rfl, ?_⟩
          rw [b2]
          refine iteF ⟨.ref D, rfl, false, .inl ⟨_, SqL.of hacc, rfl⟩, iteF ?_⟩
          refine ⟨.ref pr.h, rfl, pr.h, _, rfl, hdT, .inr ⟨kd, n, rfl, n09.1, n09.2⟩, ?_⟩
          have e : sL (tx (tkH (F.leaf kd n).hd)) = oT (.leaf kd n) := by unfold oT; rw [show body (.leaf kd n) = [some (.lf kd n)] from rfl, flat_one]; rfl
          rw [e]
          exact ⟨.ref ma, rfl, .int (j : Nat), rfl, ma, _, _, j, rfl, rfl, gm3, ixj, fin G2 _ (Same.refl _)⟩
        | one kd n f =>
          have l1 : acc.length = 1 := by rw [lacc, kl]; rfl
          obtain ⟨a0, rfl⟩ : ∃ a0, acc = [a0] := by
            match acc, l1 with
            | [a0], _ => exact ⟨a0, rfl⟩
          obtain ⟨f', q1, sq0⟩ := iacc 0 a0 rfl
          cases q1
          have n09 : 0 ≤ n ∧ n < 9 := by
            have := oks.1
            split at this
            · have := V4_nonneg this; omega
            · omega
          have at1 : atI (hv (F.one kd n f).hd) 1 = some (.int n) := atI_nat (j := 1) rfl
          simp only [F.size] at rsz
          have lf := pT_len (t := f) (by omega) 3
          have lo : (oT f).length ≤ 20000 := by have := pT_len (t := f) (by omega) 0; unfold pT at this; rw [wrap_zero] at this; exact this
          refine iteF ⟨.ref pr.h, rfl, pr.h, _, _, _, rfl, rfl, hdT, at0, _, r2, rfl, rfl, e2, _, rfl, ?_⟩
          rw [b2]
          by_cases hk : kd.bind = true
          · rw [show isBH (F.one kd n f).hd = true by cases kd <;> first | rfl | cases hk]
            refine iteT ?_
            have wl : (bdW kd).length = 2 := by cases kd <;> decide +kernel
            refine ⟨.ref pr.h, rfl, pr.h, _, _, _, rfl, rfl, hdT, at0, BW, _, _, rfl, rfl, TR.g_BINDER_WORDS kd hk, .inl ⟨_, rfl, big_line (by omega), _, rfl, big_line (by rw [len_app, emp_sL, sL_len, wl]; decide), _, rfl, big_line (by rw [len_app, len_app, emp_sL, lit_sx, sL_len, sL_len, wl]; decide), ?_⟩⟩
            refine ⟨.ref pr.h, rfl, pr.h, _, 1, .int n, rfl, rfl, hdT, at1, .inr ⟨n, rfl, digit_log n09.1 n09.2, _, rfl, big_line (by rw [len_app, len_app, len_app, emp_sL, lit_sx, digit_str n09.1 n09.2, sL_len, sL_len, sL_len, wl]; simp), _, rfl, big_line (by rw [len_app, len_app, len_app, len_app, emp_sL, lit_sx, lit_ds, digit_str n09.1 n09.2, sL_len, sL_len, sL_len, sL_len, wl]; simp), ?_⟩⟩
            refine ⟨.ref D, rfl, D, _, 0, .ref a0, rfl, rfl, SqL.of hacc, rfl, a0, _, 1, .str (oT f), rfl, rfl, sq0, rfl, .inl ⟨_, rfl, big_line (by omega), _, rfl, big_line (by rw [len_app, len_app, len_app, len_app, len_app, emp_sL, lit_sx, lit_ds, digit_str n09.1 n09.2, sL_len, sL_len, sL_len, sL_len, wl]; simp; omega), ?_⟩⟩
            have e : Str.empty ++ bdW kd ++ (Str.ofString " x") ++ ((toString n : String) : Str) ++ (Str.ofString ". ") ++ oT f = oT (.one kd n f) := by
              have eb : bdW kd = sL (tx (.bd kd)) := by cases kd <;> decide +kernel
              unfold oT
              rw [eb, emp_sL, lit_sx, lit_ds, digit_str n09.1 n09.2, sL_app, sL_app, sL_app, sL_app, sL_app]
              rw [show body (.one kd n f) = [some (.bd kd), none, some (.lf .var n), some .dot, none] ++ body f by rw [body, if_pos hk, wrap_zero], flat_app]
              congr 1
              simp [flat, tx]
            refine ⟨.ref ma, rfl, .int (j : Nat), rfl, ma, _, _, j, rfl, rfl, gm3, ixj, ?_⟩
            rw [show Str.empty ++ bdW kd ++ (Str.ofString " x") ++ ((toString n : String) : Str) ++ (Str.ofString ". ") ++ oT f = oT (.one kd n f) from e]
            exact fin G2 _ (Same.refl _)
          · have hk' : kd.bind = false := Bool.eq_false_iff.mpr hk
            rw [show isBH (F.one kd n f).hd = false by cases kd <;> first | rfl | cases hk']
            refine iteF ⟨.ref D, rfl, true, .inl ⟨_, SqL.of hacc, rfl⟩, iteT ?_⟩
            have pl : (sL (tx (.pr kd n))).length ≤ 5 := by rw [sL_len]; exact txl _
            refine ⟨.ref pr.h, rfl, pr.h, kd, n, rfl, hdT, hk', n09.1, n09.2, ?_⟩
            refine ⟨_, _, rfl, rfl, big_line (by rw [lit_sp, sL_len (a := [32])]; simp; omega), ?_⟩
            refine ⟨.ref D, rfl, D, _, 0, .ref a0, rfl, rfl, SqL.of hacc, rfl, a0, f, 3, rfl, sq0, Nat.le_refl 3, by omega, ?_⟩
            refine ⟨_, _, rfl, rfl, big_line (by rw [len_app, lit_sp, sL_len (a := [32])]; simp; omega), ?_⟩
            have e : sL (tx (.pr kd n)) ++ (Str.ofString " ") ++ pT f 3 = oT (.one kd n f) := by
              unfold oT pT
              rw [lit_sp, sL_app, sL_app, show body (.one kd n f) = [some (.pr kd n), none] ++ wrap f (body f) 3 by rw [body, if_neg hk], flat_app]
              congr 1
            rw [e]
            exact ⟨.ref ma, rfl, .int (j : Nat), rfl, ma, _, _, j, rfl, rfl, gm3, ixj, fin G2 _ (Same.refl _)⟩
    · rintro σ G ⟨ms, y3, y4, y5, rfl, sG, gm, lm, inv⟩
      have hv1 := inv 0 ⟨t, -1, []⟩ (by omega) (info_head _ _ _ _)
      refine ⟨.ref ma, rfl, ma, _, 0, _, rfl, rfl, SqL.of gm, atI_nat (j := 0) hv1, ?_⟩
      exact k G (s1.trans sG)
end
end Fw

set_option maxRecDepth 100000
set_option maxHeartbeats 8000000
namespace Fw
open PySem PySem.Spec PyProof.Rows L2
theorem sw3 (L w : List Nat) (n : Nat) (hn : n ≤ L.length) : Txt.startswith3 (sL L) (sL w) (n : Int) = w.isPrefixOf (L.drop n) := by
  unfold Txt.startswith3
  have fi : fromIndex (sL L).length (n : Int) = n := by
    unfold fromIndex
    rw [if_neg (by omega), Int.max_eq_right (by omega), Int.toNat_natCast]
  rw [fi, PySem.StrLaws.subAt_eq, sL_len, sL_len]
  show (decide (n + w.length ≤ L.length) && ((L.drop n).take w.length == w)) = _
  have dl : (L.drop n).length = L.length - n := List.length_drop
  rw [Bool.eq_iff_iff]
  simp only [Bool.and_eq_true, decide_eq_true_eq, beq_iff_eq, List.isPrefixOf_iff_prefix]
  constructor
  · rintro ⟨h1, h2⟩
    rw [← h2]
    exact List.take_prefix _ _
  · rintro ⟨r, hr⟩
    have := congrArg List.length hr
    rw [List.length_append, dl] at this
    refine ⟨by omega, ?_⟩
    rw [← hr, List.take_left]
structure TxtK (K : PySem.W.Frag) (mg : Str → Option Value) (w : World) (TK : Addr) (tD : Tok) : Prop where
  m_TOKENS : mg "TOKENS" = some (.ref TK)
  m_DIGITS : mg "DIGITS" = some (.str "0123456789" tD)
  m_MOST : ∃ t, mg "MOST_DIGITS" = some (.int 2 t)
  c_TOKENS : ∀ H, SqT K H TK (TKS.map fun t => V.str (sL (tx t)))
theorem pe_gi {X : Cx} {x : Str} {pos : Pos} {i : Int} (hg : Gl X x) (h : ∃ t, X.mg x = some (.int i t)) (hn : x ≠ "__name__" := by decide) (hd : (x == ("__debug__" : PySem.Str)) = false := by decide) : PE X (.Name x pos) (tC (.int i)) := by
  obtain ⟨t, e⟩ := h
  exact pe_glob (hd := hd) hg e ⟨_, rfl⟩
section
variable {P : Program} {w : World} {K : PySem.W.Frag} {mg : Str → Option Value} {base : Heap} {C J B NC FE OD SG BW ST TK : Addr} {tS tD : Tok}
def spVarAt : Sp := fun vs H Q _ => ∃ (L : List Nat) (a : Nat) (n : Int) (l : List Nat), vs = [.str (sL L), .int (a : Nat), .int 2] ∧ L.length ≤ 100000 ∧ L.drop a = tx (.lf .var n) ++ l ∧ n ∈ V4 ∧ (∀ c l', l = c :: l' → ¬ (48 ≤ c ∧ c ≤ 57)) ∧ Q (.str (sL (tx (.lf .var n)))) H
def spTokAt : Sp := fun vs H Q _ => ∃ (L : List Nat) (a : Nat) (t : Tk) (l : List Nat), vs = [.str (sL L), .int (a : Nat), .int 2] ∧ L.length ≤ 100000 ∧ L.drop a = tx t ++ l ∧ TkGood t ∧ (∀ c l', l = c :: l' → ¬ (48 ≤ c ∧ c ≤ 57)) ∧ Q (.str (sL (tx t))) H
theorem tx_ne (t : Tk) : tx t ≠ [] := by
  cases t with
  | sg b => cases b <;> decide
  | bd k => cases k <;> decide
  | nl b => cases b <;> decide
  | pr k n => cases k <;> exact fun e => by cases e
  | lf k n => cases k <;> exact fun e => by cases e
  | _ => decide
theorem ok_token_at {f : Addr} {fd : FuncData} (FF : Fun K "token_at" "token_at" s_token_at f fd) (T : Txt K mg C J B) (TR : TxtK K mg w TK tD)
    (h_variable_at : Has P w K mg base "variable_at" 1 a_variable_at spVarAt) : FnOk P w K mg base CX0 2 f fd a_token_at spTokAt := by
  refine FF.ok sc_token_at (fun vs H Q E h => ?_) (fun cdv A outer s H vs Q E hr h => ?_)
  · obtain ⟨L, a, t, l, rfl, _⟩ := h
    rfl
  · obtain ⟨L, a, t, l, rfl, hL, hd, good, nd, k⟩ := h
    have al : a ≤ L.length := by
      have := congrArg List.length hd
      have tl := List.length_pos_iff.mpr (tx_ne t)
      rw [List.length_drop, List.length_append] at this
      omega
    refine ⟨_, (pss_cons (ps_for PassesOwn.never rfl (pi_tup (pe_glob rfl TR.m_TOKENS (show RelV (.ref _) _ from rfl))) (pg_name (i := 3) sc_token_at.nd rfl (.inl rfl)) (pss_one (ps_if (pt_val (pe_bm PySem.F.plainAttrs_str PySem.F.slot_str_startswith PySem.F.type_str_startswith mt_startswith3 (pv 0) (pa_cons (pv 3) (pa_cons (pv 1) pa_nil)))) (pss_one (ps_ret (pv 3))) pss_nil)))
      (pss_one (ps_ret (pe_callH h_variable_at (hr.mono (by omega)) (pa_cons (pv 0) (pa_cons (pv 1) (pa_cons (pv 2) pa_nil))))))), ?_⟩
    refine ⟨TK, rfl, ⟨_, TR.c_TOKENS _⟩, ?_⟩
    refine for_tup (xs := TKS.map fun t => V.str (sL (tx t))) (fun i σ G => ∃ (y2 : Option V), σ = [some (.str (sL L)), some (.int (a : Nat)), some (.int 2), y2] ∧ G = H ∧ ∀ j < i, ∀ u, TKS[j]? = some u → (tx u).isPrefixOf (tx t ++ l) = false)
      ⟨none, rfl, rfl, fun j hj => absurd hj (Nat.not_lt_zero _)⟩ (fun i σ G _ _ => TR.c_TOKENS _) ?_ ?_
    · rintro i x σ G hx ⟨y2, rfl, rfl, hno⟩
      obtain ⟨u, hu, rfl⟩ : ∃ u, TKS[i]? = some u ∧ V.str (sL (tx u)) = x := by
        rw [List.getElem?_map] at hx
        cases e : TKS[i]? with
        | none => rw [e] at hx; cases hx
        | some u => rw [e] at hx; exact ⟨u, rfl, Option.some.inj hx⟩
      refine ⟨_, rfl, rfl, _, rfl, .int (a : Nat), rfl, sL L, sL (tx u), (a : Nat), rfl, rfl, _, rfl, ?_⟩
      rw [sw3 L (tx u) a al, hd]
      cases m : (tx u).isPrefixOf (tx t ++ l) with
      | true =>
        refine iteT ?_
        have ut : u = t := by
          cases hv : isVar t with
          | true =>
            obtain ⟨n, rfl⟩ : ∃ n, t = .lf .var n := by
              cases t with
              | lf kd n =>
                cases kd with
                | var => exact ⟨n, rfl⟩
                | has => cases hv
                | lacks => cases hv
              | _ => cases hv
            have := no_tok (dg n :: l) u (List.mem_of_getElem? hu)
            rw [show tx (.lf .var n) ++ l = 120 :: dg n :: l from rfl, this] at m
            cases m
          | false =>
            obtain ⟨i0, hi0, bef⟩ := first_tok (mem_tks good.ok hv good.bd good.pr) l
            rcases Nat.lt_trichotomy i i0 with z | z | z
            · rw [bef i z u hu] at m
              cases m
            · subst z
              rw [hi0] at hu
              exact (Option.some.inj hu).symm
            · have := hno i0 z t hi0
              rw [Bool.eq_false_iff] at this
              exact absurd (List.isPrefixOf_iff_prefix.mpr ⟨l, rfl⟩) this
        subst ut
        exact ⟨_, rfl, k⟩
      | false =>
        refine iteF ⟨_, rfl, rfl, fun j hj u' hu' => ?_⟩
        rcases Nat.lt_succ_iff_lt_or_eq.mp hj with z | rfl
        · exact hno j z u' hu'
        · rw [hu] at hu'
          cases hu'
          exact m
    · rintro σ G ⟨y2, rfl, rfl, hno⟩
      cases hv : isVar t with
      | false =>
        exfalso
        obtain ⟨i, hi, _⟩ := first_tok (mem_tks good.ok hv good.bd good.pr) l
        have il : i < (TKS.map fun t => V.str (sL (tx t))).length := by rw [List.length_map]; exact (List.getElem?_eq_some_iff.mp hi).1
        have := hno i il t hi
        rw [Bool.eq_false_iff] at this
        exact this (List.isPrefixOf_iff_prefix.mpr ⟨l, rfl⟩)
      | true =>
        obtain ⟨n, rfl⟩ : ∃ n, t = .lf .var n := by
          cases t with
          | lf kd n =>
            cases kd with
            | var => exact ⟨n, rfl⟩
            | has => cases hv
            | lacks => cases hv
          | _ => cases hv
        exact ⟨_, rfl, .int (a : Nat), rfl, .int 2, rfl, L, a, n, l, rfl, hL, hd, good.ok, nd, k⟩
theorem cut_nat (L : List Nat) (i j : Nat) (h : i ≤ L.length) : cutS (sL L) (some (i : Int)) (some (j : Int)) = sL ((L.drop i).take (j - i)) := by
  unfold cutS
  rw [HT.sIx_nat, HT.sIx_nat, sL_len, Nat.min_eq_left h]
  show Str.mk _ = Str.mk _
  congr 2
  show (L.drop i).take (min j L.length - i) = (L.drop i).take (j - i)
  rcases Nat.le_total j L.length with z | z
  · rw [Nat.min_eq_left z]
  · rw [Nat.min_eq_right z, List.take_of_length_le (by rw [List.length_drop]; exact Nat.le_refl _), List.take_of_length_le (by rw [List.length_drop]; omega)]
theorem dig_in (c : Nat) : (c ∈ (Str.ofString "0123456789").cps.toList) ↔ (48 ≤ c ∧ c ≤ 57) := by
  have e : (Str.ofString "0123456789").cps.toList = [48, 49, 50, 51, 52, 53, 54, 55, 56, 57] := by decide +kernel
  rw [e]
  simp only [List.mem_cons, List.not_mem_nil, or_false]
  omega
theorem cut_head (c : Nat) (r : List Nat) : cutS (sL (c :: r)) none (some ((1 : Nat) : Int)) = sL [c] := by
  unfold cutS
  rw [HT.sIx_none, HT.sIx_nat, sL_len]
  show Str.mk _ = Str.mk _
  congr 1
theorem ok_variable_at {f : Addr} {fd : FuncData} (FF : Fun K "variable_at" "variable_at" s_variable_at f fd) (T : Txt K mg C J B) (TR : TxtK K mg w TK tD) : FnOk P w K mg base CX0 1 f fd a_variable_at spVarAt := by
  refine FF.ok sc_variable_at (fun vs H Q E h => ?_) (fun cdv A outer s H vs Q E hr h => ?_)
  · obtain ⟨L, a, n, l, rfl, _⟩ := h
    rfl
  · obtain ⟨L, a, n, l, rfl, hL, hd, hn, nd, k⟩ := h
    have hd' : L.drop a = 120 :: dg n :: l := hd
    have len : L.length = a + (l.length + 2) := by
      have := congrArg List.length hd'
      rw [List.length_drop, List.length_cons, List.length_cons] at this
      omega
    have dn : 48 ≤ dg n ∧ dg n ≤ 57 := by have := V4_nonneg hn; unfold dg; omega
    have get : ∀ i, (L.drop a)[i]? = L[a + i]? := fun i => List.getElem?_drop
    have g0 : L[a]? = some 120 := by have := get 0; rw [hd'] at this; exact this.symm
    have d1 : L.drop (a + 1) = dg n :: l := by rw [← List.drop_drop, hd']; rfl
    refine ⟨_, (pss_cons (ps_set (i := 3) sc_variable_at.nd rfl (.inl rfl) (pe_slice sl_str (pv 0) (po_some (pe_op op_add (pv 1) pe_int)) (po_some (pe_op op_add (pe_op op_add (pv 1) pe_int) (pv 2)))))
      (pss_cons (ps_set (i := 4) sc_variable_at.nd rfl (.inl rfl) pe_int)
      (pss_cons (ps_while PassesOwn.never (PW.pt (pw_and (pt_cmpR op_lt (pv 4) (pe_callB call_len_str rfl T.z_len (by decide +kernel) (pa_cons (pv 3) pa_nil)) (nomark _)) (pw_and1 (pt_cmpR op_in_sign (pe_ix ix_str (pv 3) (pv 4) (fun _ _ => rfl)) (pe_glob rfl TR.m_DIGITS (show RelV (.str "0123456789") _ from ⟨_, rfl⟩)) rfl)))) (pss_one (ps_aug (i := 4) sc_variable_at.nd rfl (.inl rfl) pe_int ip_add)))
      (pss_cons (ps_if (PW.pt (pw_or (pt_cmpR op_ne (pe_ix ix_str (pv 0) (pv 1) (fun _ _ => rfl)) pe_str (nomark _)) (pw_or1 (pt_cmpR op_eq (pv 4) pe_int (nomark _))))) (pss_one (ps_ret pe_str)) pss_nil)
      (pss_one (ps_ret (pe_ifExp (pt_cmpR op_eq (pe_ix ix_str (pv 3) pe_int (fun _ _ => rfl)) pe_str (nomark _)) pe_str (pe_op op_add_str pe_str (pe_slice sl_str (pv 3) po_none (po_some (pv 4))))))))))), ?_⟩
    refine ⟨_, rfl, .int (a : Nat), rfl, _, 1, rfl, rfl, _, rfl, .int (a : Nat), rfl, _, 1, rfl, rfl, .int 2, rfl, _, 2, rfl, rfl, _, rfl, sL L, rfl, big_line (by rw [sL_len]; exact hL), ?_⟩
    have c1 : cutS (sL L) (some ((a : Int) + 1)) (some ((a : Int) + 1 + 2)) = sL (dg n :: l.take 1) := by
      have := cut_nat L (a + 1) (a + 3) (by omega)
      rw [d1, show a + 3 - (a + 1) = 2 by omega] at this
      exact this
    show (fun σ H => _) (List.set _ 3 (some (V.str (cutS (sL L) (some ((a : Int) + 1)) (some ((a : Int) + 1 + 2)))))) H
    rw [c1]
    have xE : V.str ⟨#[120]⟩ = V.str (Str.ofString "x") := (congrArg V.str lit_x).symm
    have dl : (sL (dg n :: l.take 1)).length = (l.take 1).length + 1 := by rw [sL_len, List.length_cons]
    have tl : (l.take 1).length ≤ 1 := by rw [List.length_take]; omega
    refine ⟨fun m σ G => ∃ many : Nat, σ = [some (.str (sL L)), some (.int (a : Nat)), some (.int 2), some (.str (sL (dg n :: l.take 1))), some (.int (many : Nat))] ∧ G = H ∧ many + m = 1, ⟨1, 0, rfl, rfl, rfl⟩, ?_⟩
    rintro m σ G ⟨many, rfl, rfl, hm⟩
    refine ⟨.int (many : Nat), rfl, _, rfl, _, rfl, big_line (by omega), _, _, rfl, rfl, _, rfl, ?_⟩
    rw [dl]
    cases m with
    | succ m =>
      have m0 : many = 0 := by omega
      subst m0
      refine (if_pos (decide_eq_true (by omega))).mpr ?_
      refine ⟨_, rfl, .int (0 : Nat), rfl, _, 0, dg n, rfl, rfl, big_line (by omega), atI_nat (j := 0) rfl, dg n, _, rfl, rfl, _, rfl, ?_⟩
      rw [decide_eq_true ((dig_in (dg n)).mpr dn)]
      refine iteT ⟨_, fun σ' H' z => z, ?_⟩
      exact ⟨.int (0 : Nat), rfl, _, _, rfl, rfl, m, Nat.lt_succ_self m, 1, rfl, rfl, by omega⟩
    | zero =>
      have m1 : many = 1 := by omega
      subst m1
      cases l with
      | nil =>
        refine (if_neg (by rw [decide_eq_false (by show ¬ ((1 : Nat) : Int) < ((0 + 1 : Nat) : Int); omega)]; exact Bool.false_ne_true)).mpr ?_
        refine iteF ?_
        refine ⟨_, rfl, .int (a : Nat), rfl, _, _, 120, rfl, rfl, big_line (by rw [sL_len]; exact hL), atI_nat (j := a) g0, rfl, _, rfl, ?_⟩
        refine (if_neg (by rw [decide_eq_true xE]; exact Bool.false_ne_true)).mpr ?_
        refine ⟨.int (1 : Nat), rfl, rfl, _, rfl, ?_⟩
        refine (if_neg (by rw [decide_eq_false (show ¬ V.int ((1 : Nat) : Int) = V.int 0 by decide)]; exact Bool.false_ne_true)).mpr ?_
        by_cases z : n = 0
        · subst z
          refine ⟨_, rfl, _, 0, dg 0, rfl, rfl, big_line (by omega), atI_nat (j := 0) rfl, rfl, _, rfl, ?_⟩
          have e0 : V.str ⟨#[dg 0]⟩ = V.str (Str.ofString "0") := congrArg V.str (by decide +kernel)
          refine (if_pos (decide_eq_true e0)).mpr ?_
          have e1 : (Str.ofString "x0") = sL (tx (.lf .var 0)) := by decide +kernel
          show Q (.str (Str.ofString "x0")) _
          rw [e1]
          exact k
        · have nz : dg n ≠ 48 := by have := V4_nonneg hn; unfold dg; omega
          have e0 : V.str ⟨#[dg n]⟩ ≠ V.str (Str.ofString "0") := fun e => by
            rw [show (Str.ofString "0") = sL [48] from by decide +kernel] at e
            injection e with e
            injection e with e
            have := congrArg Array.toList e
            exact nz (by simpa using this)
          refine ⟨_, rfl, _, 0, dg n, rfl, rfl, big_line (by omega), atI_nat (j := 0) rfl, rfl, _, rfl, ?_⟩
          refine (if_neg (by rw [decide_eq_false e0]; exact Bool.false_ne_true)).mpr ?_
          refine ⟨_, rfl, .int (1 : Nat), rfl, _, rfl, sL _, rfl, big_line (by omega), Str.ofString "x", _, rfl, rfl, ?_, ?_⟩
          · rw [cut_head, sL_len, show (Str.ofString "x") = sL [120] from by decide +kernel, sL_len]
            exact big_line (by show 1 + 1 ≤ 100000; decide)
          · rw [cut_head, show (Str.ofString "x") = sL [120] from by decide +kernel, sL_app]
            exact k
      | cons c l' =>
        refine (if_pos (decide_eq_true (by show ((1 : Nat) : Int) < ((1 + 1 : Nat) : Int); omega))).mpr ?_
        refine ⟨_, rfl, .int (1 : Nat), rfl, _, 1, c, rfl, rfl, big_line (by omega), atI_nat (j := 1) rfl, c, _, rfl, rfl, _, rfl, ?_⟩
        rw [decide_eq_false (fun q => nd c l' rfl ((dig_in c).mp q))]
        refine iteF ?_
        refine ⟨_, rfl, .int (a : Nat), rfl, _, _, 120, rfl, rfl, big_line (by rw [sL_len]; exact hL), atI_nat (j := a) g0, rfl, _, rfl, ?_⟩
        refine (if_neg (by rw [decide_eq_true xE]; exact Bool.false_ne_true)).mpr ?_
        refine ⟨.int (1 : Nat), rfl, rfl, _, rfl, ?_⟩
        refine (if_neg (by rw [decide_eq_false (show ¬ V.int ((1 : Nat) : Int) = V.int 0 by decide)]; exact Bool.false_ne_true)).mpr ?_
        by_cases z : n = 0
        · subst z
          refine ⟨_, rfl, _, 0, dg 0, rfl, rfl, big_line (by omega), atI_nat (j := 0) rfl, rfl, _, rfl, ?_⟩
          have e0 : V.str ⟨#[dg 0]⟩ = V.str (Str.ofString "0") := congrArg V.str (by decide +kernel)
          refine (if_pos (decide_eq_true e0)).mpr ?_
          have e1 : (Str.ofString "x0") = sL (tx (.lf .var 0)) := by decide +kernel
          show Q (.str (Str.ofString "x0")) _
          rw [e1]
          exact k
        · have nz : dg n ≠ 48 := by have := V4_nonneg hn; unfold dg; omega
          have e0 : V.str ⟨#[dg n]⟩ ≠ V.str (Str.ofString "0") := fun e => by
            rw [show (Str.ofString "0") = sL [48] from by decide +kernel] at e
            injection e with e
            injection e with e
            have := congrArg Array.toList e
            exact nz (by simpa using this)
          refine ⟨_, rfl, _, 0, dg n, rfl, rfl, big_line (by omega), atI_nat (j := 0) rfl, rfl, _, rfl, ?_⟩
          refine (if_neg (by rw [decide_eq_false e0]; exact Bool.false_ne_true)).mpr ?_
          refine ⟨_, rfl, .int (1 : Nat), rfl, _, rfl, sL _, rfl, big_line (by omega), Str.ofString "x", _, rfl, rfl, ?_, ?_⟩
          · rw [cut_head, sL_len, show (Str.ofString "x") = sL [120] from by decide +kernel, sL_len]
            exact big_line (by show 1 + 1 ≤ 100000; decide)
          · rw [cut_head, show (Str.ofString "x") = sL [120] from by decide +kernel, sL_app]
            exact k
end
end Fw

set_option maxRecDepth 100000
set_option maxHeartbeats 8000000
namespace Fw
open PySem PySem.Spec PyProof.Rows L2
/-- the reader's fields -/
def rf (L : List Nat) (a : Nat) (tk : List Nat) (oa qa : Addr) : List (Str × V) := [("text", .str (sL L)), ("most_digits", .int 2), ("at", .int (a : Nat)), ("token", .str (sL tk)), ("operands", .ref oa), ("pending", .ref qa)]
structure TxtRd (K : PySem.W.Frag) (RC : Addr) : Prop where
  cl : Cls K RC
  nT : NoAttr K RC "text"
  nM : NoAttr K RC "most_digits"
  nA : NoAttr K RC "at"
  nK : NoAttr K RC "token"
  nO : NoAttr K RC "operands"
  nP : NoAttr K RC "pending"
def Only (p : Addr) (H H' : Hp) : Prop := ∀ b, b ≠ p → H' b = H b
theorem Only.upd {p : Addr} {H H' : Hp} {o : HO} (h : Only p H H') : Only p H (upd H' p o) := fun b n => by rw [upd_ne n]; exact h b n
def hdT : List Tk → List Nat
  | [] => []
  | t :: _ => tx t
/-- the text goes on so -/
def Rest : List Tk → List Nat → Prop
  | [], l => l = []
  | t :: r, l => ∃ l', l = tx t ++ l' ∧ Laid r l'
def TokAt (L : List Nat) (a : Nat) (ts : List Tk) : Prop := a ≤ L.length ∧ Rest ts (L.drop a)
theorem laid_rest {ts : List Tk} {l : List Nat} (h : Laid ts l) : ∃ b l', l = List.replicate b 32 ++ l' ∧ Rest ts l' := by
  cases h with
  | nil b => exact ⟨b, [], by rw [List.append_nil], rfl⟩
  | cons b h => exact ⟨b, _, rfl, _, rfl, h⟩
theorem tx_head {t : Tk} (g : TkGood t) : ∃ c r, tx t = c :: r ∧ c ≠ 32 := by
  rcases tx_plain g.ok with ⟨c, e, n⟩ | h
  · exact ⟨c, [], e, n⟩
  · cases e : tx t with
    | nil => exact absurd e (tx_ne t)
    | cons c r => exact ⟨c, r, rfl, (h c (by rw [e]; exact List.mem_cons_self)).1⟩
section
variable {P : Program} {w : World} {K : PySem.W.Frag} {mg : Str → Option Value} {base : Heap} {C J B NC FE OD SG BW ST TK RC : Addr} {tS tD : Tok}
def spAdv (RC : Addr) : Sp := fun vs H Q _ => ∃ (p dx oa qa : Addr) (L tk : List Nat) (a m : Nat) (ts : List Tk), vs = [.ref p, .int (m : Nat)] ∧ H p = some (.ins RC dx (rf L a tk oa qa)) ∧ L.length ≤ 100000 ∧ a + m ≤ L.length ∧ Laid ts (L.drop (a + m)) ∧ (∀ t ∈ ts, TkGood t) ∧
  ∀ a' H', Only p H H' → TokAt L a' ts → H' p = some (.ins RC dx (rf L a' (hdT ts) oa qa)) → Q .non H'
theorem ok_advance {f : Addr} {fd : FuncData} (FF : Fun K "_advance" "Reader._advance" s_Reader__advance f fd) (T : Txt K mg C J B) (TR : TxtRd K RC)
    (h_token_at : Has P w K mg base "token_at" 2 a_token_at spTokAt) : FnOk P w K mg base CX0 3 f fd a_Reader__advance (spAdv RC) := by
  refine FF.ok sc_Reader__advance (fun vs H Q E h => ?_) (fun cdv A outer s H vs Q E hr h => ?_)
  · obtain ⟨p, dx, oa, qa, L, tk, a, m, ts, rfl, _⟩ := h
    rfl
  · obtain ⟨p, dx, oa, qa, L, tk, a, m, ts, rfl, hp, hL, ham, laid, good, k⟩ := h
    refine ⟨_, (pss_cons (ps_fldaug (pv 0) (pv 1) in_add)
      (pss_cons (ps_while PassesOwn.never (PW.pt (pw_and (pt_cmpR op_lt (pe_fld (pv 0) rfl) (pe_callB call_len_str rfl T.z_len (by decide +kernel) (pa_cons (pe_fld (pv 0) rfl) pa_nil)) (nomark _)) (pw_and1 (pt_cmpR op_eq (pe_ix ix_str (pe_fld (pv 0) rfl) (pe_fld (pv 0) rfl) (fun _ _ => rfl)) pe_str (nomark _))))) (pss_one (ps_fldaug (pv 0) pe_int in_add)))
      (pss_cons (ps_fld (pv 0) pe_str rfl)
      (pss_one (ps_if (pt_cmpR op_lt (pe_fld (pv 0) rfl) (pe_callB call_len_str rfl T.z_len (by decide +kernel) (pa_cons (pe_fld (pv 0) rfl) pa_nil)) (nomark _)) (pss_one (ps_fld (pv 0) (pe_callH h_token_at (hr.mono (by omega)) (pa_cons (pe_fld (pv 0) rfl) (pa_cons (pe_fld (pv 0) rfl) (pa_cons (pe_fld (pv 0) rfl) pa_nil)))) rfl)) pss_nil))))), ?_⟩
    have bl : (sL L).length ≤ sizeLine := big_line (by rw [sL_len]; exact hL)
    refine ⟨.ref p, rfl, p, RC, dx, _, .int (a : Nat), rfl, hp, TR.cl, TR.nA, rfl, .int (m : Nat), rfl, _, _, rfl, rfl, dx, _, hp, by show 6 < 1000; decide, ?_⟩
    have e1 : putF "at" (V.int ((a : Int) + (m : Int))) (rf L a tk oa qa) = rf L (a + m) tk oa qa := by
      show [_, _, _, _, _, _] = _
      unfold rf
      rw [Int.natCast_add]
    obtain ⟨b0, l0, el, rest⟩ := laid_rest laid
    refine ⟨fun m' σ G => ∃ (i b : Nat), σ = [some (.ref p), some (.int (m : Nat))] ∧ Only p H G ∧ G p = some (.ins RC dx (rf L i tk oa qa)) ∧ i ≤ L.length ∧ L.drop i = List.replicate b 32 ++ l0 ∧ m' = b,
      ⟨_, a + m, b0, rfl, Only.upd (fun _ _ => rfl), by rw [upd_same]; exact congrArg (fun z => some (HO.ins RC dx z)) e1, ham, el, rfl⟩, ?_⟩
    rintro m' σ G ⟨i, b, rfl, oG, gp, il, ei, rfl⟩
    refine ⟨.ref p, rfl, p, RC, dx, _, .int (i : Nat), rfl, gp, TR.cl, TR.nA, rfl, .ref p, rfl, p, RC, dx, _, .str (sL L), rfl, gp, TR.cl, TR.nT, rfl, _, rfl, bl, _, _, rfl, rfl, _, rfl, ?_⟩
    rw [sL_len]
    have e2 : ∀ i, putF "token" (V.str (Str.ofString "")) (rf L i tk oa qa) = rf L i [] oa qa := fun i => by
      show [_, _, _, _, _, _] = _
      unfold rf
      rw [show (Str.ofString "") = sL [] from by decide +kernel]
    replace e2 := e2 i
    cases m' with
    | zero =>
      have ei0 : L.drop i = l0 := ei
      cases ts with
      | nil =>
        have l00 : l0 = [] := rest
        have iL : i = L.length := by
          have := congrArg List.length ei0
          rw [List.length_drop, l00] at this
          have : L.length - i = 0 := this
          omega
        refine (if_neg (by rw [decide_eq_false (by omega)]; exact Bool.false_ne_true)).mpr ?_
        refine iteF ?_
        refine ⟨.ref p, rfl, p, RC, dx, _, rfl, gp, TR.cl, TR.nK, by show 6 < 1000; decide, ?_⟩
        have oG2 : Only p H (upd G p (.ins RC dx (putF "token" (V.str (Str.ofString "")) (rf L i tk oa qa)))) := oG.upd
        have gp2 : (upd G p (.ins RC dx (putF "token" (V.str (Str.ofString "")) (rf L i tk oa qa)))) p = some (.ins RC dx (rf L i [] oa qa)) := by rw [upd_same]; exact congrArg (fun z => some (HO.ins RC dx z)) e2
        generalize upd G p (.ins RC dx (putF "token" (V.str (Str.ofString "")) (rf L i tk oa qa))) = G2 at oG2 gp2
        refine ⟨.ref p, rfl, p, RC, dx, _, .int (i : Nat), rfl, gp2, TR.cl, TR.nA, rfl, .ref p, rfl, p, RC, dx, _, .str (sL L), rfl, gp2, TR.cl, TR.nT, rfl, _, rfl, bl, _, _, rfl, rfl, _, rfl, ?_⟩
        rw [sL_len]
        refine (if_neg (by rw [decide_eq_false (by omega)]; exact Bool.false_ne_true)).mpr ?_
        exact k i G2 oG2 ⟨il, by rw [ei0]; exact rest⟩ gp2
      | cons t r =>
        obtain ⟨l', e3, la⟩ := rest
        obtain ⟨c, w, ec, c32⟩ := tx_head (good t List.mem_cons_self)
        have dc : L.drop i = c :: (w ++ l') := by rw [ei0, e3, ec]; rfl
        have gc : L[i]? = some c := by
          have : (L.drop i)[0]? = L[i + 0]? := List.getElem?_drop
          rw [dc] at this
          exact this.symm
        have iL : i < L.length := (List.getElem?_eq_some_iff.mp gc).1
        refine (if_pos (decide_eq_true (by omega))).mpr ?_
        refine ⟨.ref p, rfl, p, RC, dx, _, .str (sL L), rfl, gp, TR.cl, TR.nT, rfl, .ref p, rfl, p, RC, dx, _, .int (i : Nat), rfl, gp, TR.cl, TR.nA, rfl, _, _, c, rfl, rfl, bl, atI_nat (j := i) gc, rfl, _, rfl, ?_⟩
        rw [one_sp, decide_eq_false c32]
        refine iteF ?_
        refine ⟨.ref p, rfl, p, RC, dx, _, rfl, gp, TR.cl, TR.nK, by show 6 < 1000; decide, ?_⟩
        have oG2 : Only p H (upd G p (.ins RC dx (putF "token" (V.str (Str.ofString "")) (rf L i tk oa qa)))) := oG.upd
        have gp2 : (upd G p (.ins RC dx (putF "token" (V.str (Str.ofString "")) (rf L i tk oa qa)))) p = some (.ins RC dx (rf L i [] oa qa)) := by rw [upd_same]; exact congrArg (fun z => some (HO.ins RC dx z)) e2
        generalize upd G p (.ins RC dx (putF "token" (V.str (Str.ofString "")) (rf L i tk oa qa))) = G2 at oG2 gp2
        refine ⟨.ref p, rfl, p, RC, dx, _, .int (i : Nat), rfl, gp2, TR.cl, TR.nA, rfl, .ref p, rfl, p, RC, dx, _, .str (sL L), rfl, gp2, TR.cl, TR.nT, rfl, _, rfl, bl, _, _, rfl, rfl, _, rfl, ?_⟩
        rw [sL_len]
        refine (if_pos (decide_eq_true (by omega))).mpr ?_
        refine ⟨.ref p, rfl, p, RC, dx, _, .str (sL L), rfl, gp2, TR.cl, TR.nT, rfl, .ref p, rfl, p, RC, dx, _, .int (i : Nat), rfl, gp2, TR.cl, TR.nA, rfl, .ref p, rfl, p, RC, dx, _, .int 2, rfl, gp2, TR.cl, TR.nM, rfl, L, i, t, l', rfl, hL, by rw [ei0, e3], good t List.mem_cons_self, laid_head la, ?_⟩
        refine ⟨.ref p, rfl, p, RC, dx, _, rfl, gp2, TR.cl, TR.nK, by show 6 < 1000; decide, ?_⟩
        refine k i _ oG2.upd ⟨il, by rw [ei0]; exact ⟨l', e3, la⟩⟩ ?_
        rw [upd_same]
        rfl
    | succ b =>
      have gc : L[i]? = some 32 := by
        have : (L.drop i)[0]? = L[i + 0]? := List.getElem?_drop
        rw [ei] at this
        exact this.symm
      have iL : i < L.length := (List.getElem?_eq_some_iff.mp gc).1
      refine (if_pos (decide_eq_true (by omega))).mpr ?_
      refine ⟨.ref p, rfl, p, RC, dx, _, .str (sL L), rfl, gp, TR.cl, TR.nT, rfl, .ref p, rfl, p, RC, dx, _, .int (i : Nat), rfl, gp, TR.cl, TR.nA, rfl, _, _, 32, rfl, rfl, bl, atI_nat (j := i) gc, rfl, _, rfl, ?_⟩
      rw [one_sp, decide_eq_true rfl]
      refine iteT ⟨_, fun σ' H' z => z, ?_⟩
      refine ⟨.ref p, rfl, p, RC, dx, _, .int (i : Nat), rfl, gp, TR.cl, TR.nA, rfl, _, _, rfl, rfl, dx, _, gp, by show 6 < 1000; decide, ?_⟩
      refine ⟨b, Nat.lt_succ_self b, i + 1, b, rfl, oG.upd, ?_, iL, ?_, rfl⟩
      · rw [upd_same]
        rfl
      · rw [← List.drop_drop, ei]
        rfl
end
end Fw

set_option maxRecDepth 100000
set_option maxHeartbeats 8000000
namespace Fw
open PySem PySem.Spec PyProof.Rows L2
/-- all but lists and objects is as it was -/
def IKp (H H' : Hp) : Prop := ∀ b o, (∀ xs, o ≠ .lst xs) → (∀ c d fs, o ≠ .ins c d fs) → H b = some o → H' b = some o
theorem IKp.refl (H : Hp) : IKp H H := fun _ _ _ _ e => e
theorem IKp.trans {H H1 H2 : Hp} (a : IKp H H1) (b : IKp H1 H2) : IKp H H2 := fun c o n m e => b c o n m (a c o n m e)
theorem IKp.same {H H' : Hp} (s : Same H H') : IKp H H' := fun b o _ _ e => s b o e
theorem IKp.lk {H H' : Hp} (s : LKp H H') : IKp H H' := fun b o n _ e => s b o n e
theorem IKp.only {p : Addr} {H H' : Hp} {c d : Addr} {fs : List (Str × V)} (h : H p = some (.ins c d fs)) (s : Only p H H') : IKp H H' := fun b o _ m e => by
  rw [s b (ne_of e h (m c d fs))]
  exact e
theorem SqT.ik {K : PySem.W.Frag} {H H' : Hp} {a : Addr} {xs : List V} (s : IKp H H') (h : SqT K H a xs) : SqT K H' a xs := by
  rcases h with h | h
  · rcases h with h | ⟨u, h⟩
    · exact .inl (.inl (s _ _ (by intro xs z; cases z) (by intro c d fs z; cases z) h))
    · exact .inl (.inr ⟨u, s _ _ (by intro xs z; cases z) (by intro c d fs z; cases z) h⟩)
  · exact .inr h
theorem IsF.ik {K : PySem.W.Frag} {H H' : Hp} (s : IKp H H') {v : V} {t : F} (h : IsF K H v t) : IsF K H' v t := h.map fun _ _ => SqT.ik s
theorem AllF.ik {K : PySem.W.Frag} {H H' : Hp} (s : IKp H H') {vs : List V} {ts : List F} (h : AllF K H vs ts) : AllF K H' vs ts := by
  induction h with
  | nil => exact .nil
  | cons a _ ih => exact .cons (a.ik s) ih
def pdV : Pd → List V
  | .lp => [.str "("]
  | .bd k n => hv (.one k n)
  | .pr k n => hv (.one k n)
  | .sg b => hv (.two b)
def PdOk : Pd → Prop
  | .bd k _ => k.bind = true
  | .pr k _ => k.bind = false
  | _ => True
/-- what is pending, the last one first -/
inductive PdA (K : PySem.W.Frag) (H : Hp) : List Addr → List Pd → Prop
  | nil : PdA K H [] []
  | cons {a : Addr} {s : Pd} {as : List Addr} {S : List Pd} : SqT K H a (pdV s) → PdOk s → PdA K H as S → PdA K H (a :: as) (s :: S)
theorem PdA.ik {K : PySem.W.Frag} {H H' : Hp} (s : IKp H H') {as : List Addr} {S : List Pd} (h : PdA K H as S) : PdA K H' as S := by
  induction h with
  | nil => exact .nil
  | cons a o _ ih => exact .cons (SqT.ik s a) o ih
/-- the reader at p in the midst of its work: since H0 only its own things have changed -/
structure RSt (K : PySem.W.Frag) (RC : Addr) (M : Nat) (H0 H : Hp) (p dx oa qa : Addr) (L : List Nat) (S : List Pd) (O : List F) (ts : List Tk) : Prop where
  same : Same H0 H
  n0 : H0 p = none ∧ H0 oa = none ∧ H0 qa = none
  ne : p ≠ oa ∧ p ≠ qa ∧ oa ≠ qa
  obj : ∃ a, H p = some (.ins RC dx (rf L a (hdT ts) oa qa)) ∧ TokAt L a ts
  ops : ∃ vs, H oa = some (.lst vs.reverse) ∧ AllF K H vs O
  pend : ∃ as, H qa = some (.lst ((as.map V.ref).reverse)) ∧ PdA K H as S
  sz : L.length ≤ 100000
  good : ∀ t ∈ ts, TkGood t
  fit : S.length + O.length + ts.length ≤ M
theorem only_same {p : Addr} {H0 H H' : Hp} (s : Same H0 H) (n : H0 p = none) (o : Only p H H') : Same H0 H' := fun b u e => by
  rw [o b (ne_of_none e n)]
  exact s b u e
section
variable {P : Program} {w : World} {K : PySem.W.Frag} {mg : Str → Option Value} {base : Heap} {C J B NC FE OD SG BW ST TK RC : Addr} {tS tD : Tok}
def spPass (K : PySem.W.Frag) (RC : Addr) : Sp := fun vs H Q _ => ∃ (M : Nat) (p dx oa qa : Addr) (H0 : Hp) (L : List Nat) (S : List Pd) (O : List F) (t : Tk) (ts : List Tk), vs = [.ref p] ∧ RSt K RC M H0 H p dx oa qa L S O (t :: ts) ∧
  ∀ H', RSt K RC (M - 1) H0 H' p dx oa qa L S O ts → H' oa = H oa → H' qa = H qa → IKp H H' → Q .non H'
theorem ok_pass {f fv : Addr} {fd fdv : FuncData} (FF : Fun K "_pass" "Reader._pass" s_Reader__pass f fd) (T : Txt K mg C J B) (TR : TxtRd K RC)
    (m_Reader_advance : Meth K RC "_advance" fv) (g_Reader_advance : FnOk P w K mg base CX0 3 fv fdv a_Reader__advance (spAdv RC)) (b_Reader_advance : Binds K fdv a_Reader__advance []) : FnOk P w K mg base CX0 4 f fd a_Reader__pass (spPass K RC) := by
  refine FF.ok sc_Reader__pass (fun vs H Q E h => ?_) (fun cdv A outer s H vs Q E hr h => ?_)
  · obtain ⟨M, p, dx, oa, qa, H0, L, S, O, t, ts, rfl, _⟩ := h
    rfl
  · obtain ⟨M, p, dx, oa, qa, H0, L, S, O, t, ts, rfl, R, k⟩ := h
    obtain ⟨a, gp, al, l', el, la⟩ := R.obj
    have tl : a + (tx t).length ≤ L.length := by
      have := congrArg List.length el
      rw [List.length_drop, List.length_append] at this
      have := List.length_pos_iff.mpr (tx_ne t)
      omega
    have ed : L.drop (a + (tx t).length) = l' := by
      rw [← List.drop_drop, el, List.drop_left]
    refine ⟨_, (pss_one (ps_expr (pe_meth (pv 0) TR.cl m_Reader_advance g_Reader_advance (hr.mono (by omega)) b_Reader_advance .nil pass0 (pa_cons (pe_callB call_len_str rfl T.z_len (by decide +kernel) (pa_cons (pe_fld (pv 0) rfl) pa_nil)) pa_nil)))), ?_⟩
    refine ⟨.ref p, rfl, p, dx, _, rfl, gp, rfl, .ref p, rfl, p, RC, dx, _, .str (sL (tx t)), rfl, gp, TR.cl, TR.nK, rfl, _, rfl, big_line (by rw [sL_len]; have := txl t; omega), ?_⟩
    refine ⟨p, dx, oa, qa, L, _, a, (tx t).length, ts, by rw [sL_len]; rfl, gp, R.sz, tl, by rw [ed]; exact la, fun u hu => R.good u (List.mem_cons_of_mem _ hu), fun a' H' on tk gp' => ?_⟩
    have ik := IKp.only gp on
    obtain ⟨vs, ho, hv⟩ := R.ops
    obtain ⟨as, hq, ha⟩ := R.pend
    exact k H' ⟨only_same R.same R.n0.1 on, R.n0, R.ne, ⟨a', gp', tk⟩, ⟨vs, by rw [on _ R.ne.1.symm]; exact ho, hv.ik ik⟩, ⟨as, by rw [on _ R.ne.2.1.symm]; exact hq, ha.ik ik⟩, R.sz, fun u hu => R.good u (List.mem_cons_of_mem _ hu), by have := R.fit; rw [List.length_cons] at this; omega⟩ (on _ R.ne.1.symm) (on _ R.ne.2.1.symm) ik
end
end Fw

set_option maxRecDepth 100000
set_option maxHeartbeats 8000000
namespace Fw
open PySem PySem.Spec PyProof.Rows L2
theorem joinP_le {l : Nat} : ∀ (S : List Pd) (O : List F) {S' : List Pd} {O' : List F}, joinP l S O = some (S', O') → S'.length + O'.length ≤ S.length + O.length
  | [], O, S', O', e => by cases e; exact Nat.le_refl _
  | .lp :: S, O, S', O', e => by cases e; exact Nat.le_refl _
  | .bd k n :: S, O, S', O', e => by
    simp only [joinP] at e
    split at e
    · cases O with
      | nil => cases e
      | cons f O => have := joinP_le S _ e; simp only [List.length_cons] at this ⊢; omega
    · cases e; exact Nat.le_refl _
  | .pr k n :: S, O, S', O', e => by
    simp only [joinP] at e
    split at e
    · cases O with
      | nil => cases e
      | cons f O => have := joinP_le S _ e; simp only [List.length_cons] at this ⊢; omega
    · cases e; exact Nat.le_refl _
  | .sg b :: S, O, S', O', e => by
    simp only [joinP] at e
    split at e
    · cases O with
      | nil => cases e
      | cons g O =>
        cases O with
        | nil => cases e
        | cons f O => have := joinP_le S _ e; simp only [List.length_cons] at this ⊢; omega
    · cases e; exact Nat.le_refl _
structure TxtAll (K : PySem.W.Frag) (mg : Str → Option Value) (w : World) (SG BW ST : Addr) (tS : Tok) (TK : Addr) (tD : Tok) (RC : Addr) : Prop extends TxtF K mg w SG BW ST tS, TxtK K mg w TK tD, TxtRd K RC
def dPd (s : Pd) : PyData := .tuple ((pdV s).map dV)
def isLp : Pd → Bool
  | .lp => true
  | _ => false
theorem dp_Pd {K : PySem.W.Frag} {H : Hp} {a : Addr} {s : Pd} (h : SqT K H a (pdV s)) : Dp K H (.ref a) (dPd s) := by
  cases s with
  | lp => exact .tup h (.cons (.str _) .nil)
  | bd k n => exact .tup h (.cons (.str _) (.cons (.int _) .nil))
  | pr k n => exact .tup h (.cons (.str _) (.cons (.int _) .nil))
  | sg b => exact .tup h (.cons (.str _) .nil)
theorem dPd_shaped (s : Pd) : SeqAt.shaped (dPd s) = true := by
  cases s with
  | lp => decide +kernel
  | bd k n =>
    have := ok_hw (.one k n)
    simp only [hw] at this
    simp [dPd, pdV, hv, dV, SeqAt.shaped, PyData.canLay0, PyData.canLayAll0, PyData.depth, PyData.depthAll, this]
  | pr k n =>
    have := ok_hw (.one k n)
    simp only [hw] at this
    simp [dPd, pdV, hv, dV, SeqAt.shaped, PyData.canLay0, PyData.canLayAll0, PyData.depth, PyData.depthAll, this]
  | sg b =>
    have := ok_hw (.two b)
    simp only [hw] at this
    simp [dPd, pdV, hv, dV, SeqAt.shaped, PyData.canLay0, PyData.canLayAll0, PyData.depth, PyData.depthAll, this]
theorem eqv_lp (s : Pd) : PyData.eqv (dPd s) (dPd .lp) = isLp s := by
  cases s with
  | lp => decide +kernel
  | bd k n => cases k <;> rfl
  | pr k n => cases k <;> rfl
  | sg b => cases b <;> decide +kernel
section
variable {P : Program} {w : World} {K : PySem.W.Frag} {mg : Str → Option Value} {base : Heap} {C J B NC FE OD SG BW ST TK RC : Addr} {tS tD : Tok}
/-- the words of what is pending, but the parenthesis -/
theorem pd_word {s : Pd} (ok : PdOk s) (n : isLp s = false) : ∃ h : Hd, pdV s = hv h ∧ stH h = s.str ∧ isTwo h = (match s with | .sg _ => true | _ => false) := by
  cases s with
  | lp => cases n
  | bd k m => exact ⟨.one k m, rfl, if_pos ok, rfl⟩
  | pr k m => exact ⟨.one k m, rfl, if_neg (by rw [show k.bind = false from ok]; exact Bool.false_ne_true), rfl⟩
  | sg b => exact ⟨.two b, rfl, by cases b <;> rfl, rfl⟩
theorem lastI {α : Type} (xs : List α) (x : α) : atI (xs ++ [x]) (-1) = some x := by
  unfold atI ixN
  rw [if_neg (by decide), if_pos (by rw [List.length_append, List.length_singleton]; omega)]
  show (xs ++ [x])[_]? = some x
  rw [show (-1 + (((xs ++ [x]).length : Nat) : Int)).toNat = xs.length by rw [List.length_append, List.length_singleton]; omega]
  simp
theorem RSt.ext {M : Nat} {H0 H H' : Hp} {p dx oa qa : Addr} {L : List Nat} {S : List Pd} {O : List F} {ts : List Tk} (s : Same H H') (R : RSt K RC M H0 H p dx oa qa L S O ts) : RSt K RC M H0 H' p dx oa qa L S O ts := by
  obtain ⟨a, gp, tk⟩ := R.obj
  obtain ⟨as, hq, ha⟩ := R.pend
  obtain ⟨vs, ho, hv'⟩ := R.ops
  exact ⟨R.same.trans s, R.n0, R.ne, ⟨a, s _ _ gp, tk⟩, ⟨vs, s _ _ ho, hv'.ik (IKp.same s)⟩, ⟨as, s _ _ hq, ha.ik (IKp.same s)⟩, R.sz, R.good, R.fit⟩
theorem joinP_stop {s : Pd} {l : Nat} (S : List Pd) (O : List F) (n : isLp s = false) (h : s.str < l) : joinP l (s :: S) O = some (s :: S, O) := by
  cases s with
  | lp => cases n
  | bd k m => exact if_neg (by have : (0 : Nat) < l := h; omega)
  | pr k m => exact if_neg (by have : (3 : Nat) < l := h; omega)
  | sg b => exact if_neg (by have : (Pd.sg b).str < l := h; omega)
theorem joinP_go {s : Pd} {l : Nat} {S : List Pd} {O : List F} {r : List Pd × List F} (n : isLp s = false) (h : l ≤ s.str) (j : joinP l (s :: S) O = some r) :
    (∃ b g f O3, s = .sg b ∧ O = g :: f :: O3 ∧ joinP l S (.two b f g :: O3) = some r) ∨ ∃ kd m f O3, pdV s = hv (.one kd m) ∧ isTwo (.one kd m) = false ∧ (∀ b, s ≠ .sg b) ∧ O = f :: O3 ∧ joinP l S (.one kd m f :: O3) = some r := by
  cases s with
  | lp => cases n
  | bd k m =>
    simp only [joinP] at j
    rw [if_pos (show l ≤ 0 from h)] at j
    cases O with
    | nil => cases j
    | cons f O => exact .inr ⟨k, m, f, O, rfl, rfl, fun b e => (by cases e), rfl, j⟩
  | pr k m =>
    simp only [joinP] at j
    rw [if_pos (show l ≤ 3 from h)] at j
    cases O with
    | nil => cases j
    | cons f O => exact .inr ⟨k, m, f, O, rfl, rfl, fun b e => (by cases e), rfl, j⟩
  | sg b =>
    simp only [joinP] at j
    rw [if_pos h] at j
    cases O with
    | nil => cases j
    | cons g O =>
      cases O with
      | nil => cases j
      | cons f O => exact .inl ⟨b, g, f, O, rfl, rfl, j⟩
def spJoinR (K : PySem.W.Frag) (RC : Addr) : Sp := fun vs H Q _ => ∃ (M : Nat) (p dx oa qa : Addr) (H0 : Hp) (L : List Nat) (S : List Pd) (O : List F) (ts : List Tk) (l : Nat) (S' : List Pd) (O' : List F), vs = [.ref p, .int (l : Nat)] ∧ M ≤ 60000 ∧ RSt K RC M H0 H p dx oa qa L S O ts ∧ joinP l S O = some (S', O') ∧
  ∀ H', RSt K RC M H0 H' p dx oa qa L S' O' ts → Q .non H'
theorem ok_joinR {f : Addr} {fd : FuncData} (FF : Fun K "_join" "Reader._join" s_Reader__join f fd) (T : Txt K mg C J B) (TR : TxtAll K mg w SG BW ST tS TK tD RC) : FnOk P w K mg base CX0 1 f fd a_Reader__join (spJoinR K RC) := by
  refine FF.ok sc_Reader__join (fun vs H Q E h => ?_) (fun cdv A outer s H vs Q E hr h => ?_)
  · obtain ⟨M, p, dx, oa, qa, H0, L, S, O, ts, l, S', O', rfl, _⟩ := h
    rfl
  · obtain ⟨M, p, dx, oa, qa, H0, L, S, O, ts, l, S', O', rfl, hM, R, j, k⟩ := h
    obtain ⟨es1, n1, kd_SIGNS⟩ := TR.k_SIGNS
    obtain ⟨es2, n2, kd_STRENGTHS⟩ := TR.k_STRENGTHS
    refine ⟨_, (pss_one (ps_while PassesOwn.never (PW.pt (pw_and (pt_truth (pe_fld (pv 0) rfl) (by intro _; rfl)) (pw_and1 (pt_cmpR (op_neD hr.units) (pe_ix ix_list (pe_fld (pv 0) rfl) (pe_un un_neg pe_int) (fun _ _ => rfl)) (pe_tup (pa_cons pe_str pa_nil)) (nomark _))))) (pss_cons (ps_set (i := 2) sc_Reader__join.nd rfl (.inl rfl) (pe_ix ix_list (pe_fld (pv 0) rfl) (pe_un un_neg pe_int) (fun _ _ => rfl)))
      (pss_cons (ps_if (pt_cmpR op_lt (pe_kget (pe_glob rfl TR.m_STRENGTHS (show RelV (.ref _) _ from rfl)) (pe_ix ix_tup (pv 2) pe_int (fun _ _ => rfl)) (pe_glob rfl TR.m_STRONGEST (show RelV (.int 3) _ from ⟨_, rfl⟩)) ⟨rfl, rfl, rfl, rfl⟩) (pv 1) (nomark _)) (pss_one ps_retN) pss_nil)
      (pss_cons (ps_expr (pe_bm0 PySem.F.plainAttrs_list PySem.F.slot_list_pop PySem.F.type_list_pop mt_pop (pe_fld (pv 0) rfl)))
      (pss_cons (ps_set (i := 3) sc_Reader__join.nd rfl (.inl rfl) (pe_bm0 PySem.F.plainAttrs_list PySem.F.slot_list_pop PySem.F.type_list_pop mt_pop (pe_fld (pv 0) rfl)))
      (pss_one (ps_if (pt_cmpR (op_in_kd kd_SIGNS) (pe_ix ix_tup (pv 2) pe_int (fun _ _ => rfl)) (pe_glob rfl TR.m_SIGNS (show RelV (.ref _) _ from rfl)) (by rfl)) (pss_one (ps_expr (pe_bm PySem.F.plainAttrs_list PySem.F.slot_list_append PySem.F.type_list_append mt_append (pe_fld (pv 0) rfl) (pa_cons (pe_op op_catA (pv 2) (pe_tup (pa_cons (pe_bm0 PySem.F.plainAttrs_list PySem.F.slot_list_pop PySem.F.type_list_pop mt_pop (pe_fld (pv 0) rfl)) (pa_cons (pv 3) pa_nil)))) pa_nil)))) (pss_one (ps_expr (pe_bm PySem.F.plainAttrs_list PySem.F.slot_list_append PySem.F.type_list_append mt_append (pe_fld (pv 0) rfl) (pa_cons (pe_op op_catA (pv 2) (pe_tup (pa_cons (pv 3) pa_nil))) pa_nil)))))))))))), ?_⟩
    refine ⟨fun m σ G => ∃ (S1 : List Pd) (O1 : List F) (y2 y3 : Option V), σ = [some (.ref p), some (.int (l : Nat)), y2, y3] ∧ RSt K RC M H0 G p dx oa qa L S1 O1 ts ∧ joinP l S1 O1 = some (S', O') ∧ m = S1.length, ⟨_, S, O, none, none, rfl, R, j, rfl⟩, ?_⟩
    clear R j
    rintro m σ G ⟨S1, O1, y2, y3, rfl, R, j, rfl⟩
    obtain ⟨a, gp, tk⟩ := R.obj
    obtain ⟨as, hq, ha⟩ := R.pend
    obtain ⟨vs, ho, hv'⟩ := R.ops
    cases ha with
    | nil =>
      refine ⟨.ref p, rfl, p, RC, dx, _, .ref qa, rfl, gp, TR.cl, TR.nP, rfl, false, .inl ⟨_, SqL.of hq, rfl⟩, iteF (iteF ?_)⟩
      cases j
      exact k G R
    | cons sqa ok ha' =>
      rename_i a0 s as' S2
      have hq' : G qa = some (.lst ((as'.map V.ref).reverse ++ [.ref a0])) := by rw [hq, List.map_cons, List.reverse_cons]
      refine ⟨.ref p, rfl, p, RC, dx, _, .ref qa, rfl, gp, TR.cl, TR.nP, rfl, true, .inl ⟨_, SqL.of hq', by simp⟩, iteT ?_⟩
      refine ⟨.ref p, rfl, p, RC, dx, _, .ref qa, rfl, gp, TR.cl, TR.nP, rfl, _, rfl, qa, _, _, .ref a0, rfl, rfl, SqL.of hq', lastI _ _, by show 1 ≤ sizeLine; decide, fun tp htp => ?_⟩
      have s1 := Same.new (o := .tup [.str "("]) htp
      have dlp : Dp K (upd G tp (.tup [.str "("])) (.ref tp) (dPd .lp) := dp_Pd (s := .lp) (SqT.of upd_same)
      refine ⟨_, _, dp_Pd (SqT.same s1 sqa), dlp, dPd_shaped s, dPd_shaped .lp, _, rfl, ?_⟩
      rw [eqv_lp]
      cases hl : isLp s with
      | true =>
        have es : s = .lp := by cases s <;> first | rfl | cases hl
        subst es
        refine iteF ?_
        cases j
        exact k _ (R.ext s1)
      | false =>
        refine iteT ⟨_, fun σ' H' z => z, ?_⟩
        have R1 := R.ext s1
        have gp1 := s1 _ _ gp
        have hq1 := s1 _ _ hq'
        have ho1 := s1 _ _ ho
        have sqa1 := SqT.same s1 sqa
        have ha1 := ha'.ik (IKp.same s1)
        have hv1 := hv'.ik (IKp.same s1)
        generalize upd G tp (.tup [.str "("]) = G1 at s1 R1 gp1 hq1 ho1 sqa1 ha1 hv1 dlp
        obtain ⟨h, eh, st, tw⟩ := pd_word ok hl
        rw [eh] at sqa1
        have at0 := hd_at0 h
        refine ⟨.ref p, rfl, p, RC, dx, _, .ref qa, rfl, gp1, TR.cl, TR.nP, rfl, _, rfl, qa, _, _, .ref a0, rfl, rfl, SqL.of hq1, lastI _ _, ?_⟩
        refine ⟨ST, es2, n2, rfl, kd_STRENGTHS, .ref a0, rfl, a0, _, _, _, rfl, rfl, sqa1, at0, hw h, rfl, ?_⟩
        rcases TR.s_STRENGTHS h with ⟨u, v, e1, rv, e2⟩ | ⟨e1, e2⟩
        · refine .inl ⟨u, v, e1, rv, ?_⟩
          subst e2
          refine ⟨.int (l : Nat), rfl, _, _, rfl, rfl, _, rfl, ite2 (fun c => ?_) (fun c => ?_)⟩
          · have c' := of_decide_eq_true c
            rw [joinP_stop S2 O1 hl (by omega)] at j
            cases j
            exact k _ R1
          · have c' : l ≤ s.str := Nat.le_of_not_lt fun z => c (decide_eq_true (by omega))
            have fit := R1.fit
            refine ⟨.ref p, rfl, p, RC, dx, _, .ref qa, rfl, gp1, TR.cl, TR.nP, rfl, .inl ⟨rfl, _, SqL.of hq1⟩, qa, _, .ref a0, rfl, rfl, hq1, by simp, ?_⟩
            rw [List.dropLast_concat]
            have s2 : ∀ b, b ≠ qa → (upd G1 qa (.lst ((as'.map V.ref).reverse))) b = G1 b := fun b n => upd_ne n
            have q2 : (upd G1 qa (.lst ((as'.map V.ref).reverse))) qa = some (.lst ((as'.map V.ref).reverse)) := upd_same
            have ik2 : IKp G1 (upd G1 qa (.lst ((as'.map V.ref).reverse))) := IKp.lk (LKp.upd hq1)
            have sm2 : Same H0 (upd G1 qa (.lst ((as'.map V.ref).reverse))) := fun b u e => by rw [upd_ne (ne_of_none e R.n0.2.2)]; exact R1.same b u e
            generalize upd G1 qa (.lst ((as'.map V.ref).reverse)) = G2 at s2 q2 ik2 sm2
            have gp2 : G2 p = some (.ins RC dx (rf L a (hdT ts) oa qa)) := by rw [s2 _ R.ne.2.1]; exact gp1
            have ho2 : G2 oa = some (.lst vs.reverse) := by rw [s2 _ R.ne.2.2]; exact ho1
            have sqa2 := SqT.ik ik2 sqa1
            have hv2 := hv1.ik ik2
            have ha2 := ha1.ik ik2
            cases hv2 with
            | nil => rcases joinP_go hl c' j with ⟨b, g, f, O3, _, e, _⟩ | ⟨kd, m, f, O3, _, _, _, e, _⟩ <;> cases e
            | cons hvg hvr =>
              rename_i vg g vs2 O2
              rw [List.reverse_cons] at ho2
              refine ⟨.ref p, rfl, p, RC, dx, _, .ref oa, rfl, gp2, TR.cl, TR.nO, rfl, .inl ⟨rfl, _, SqL.of ho2⟩, oa, _, vg, rfl, rfl, ho2, by simp, ?_⟩
              rw [List.dropLast_concat]
              have s3 : ∀ b, b ≠ oa → (upd G2 oa (.lst vs2.reverse)) b = G2 b := fun b n => upd_ne n
              have o3 : (upd G2 oa (.lst vs2.reverse)) oa = some (.lst vs2.reverse) := upd_same
              have ik3 : IKp G2 (upd G2 oa (.lst vs2.reverse)) := IKp.lk (LKp.upd ho2)
              have sm3 : Same H0 (upd G2 oa (.lst vs2.reverse)) := fun b u e => by rw [upd_ne (ne_of_none e R.n0.2.1)]; exact sm2 b u e
              generalize upd G2 oa (.lst vs2.reverse) = G3 at s3 o3 ik3 sm3
              have gp3 : G3 p = some (.ins RC dx (rf L a (hdT ts) oa qa)) := by rw [s3 _ R.ne.1]; exact gp2
              have q3 : G3 qa = some (.lst ((as'.map V.ref).reverse)) := by rw [s3 _ R.ne.2.2.symm]; exact q2
              have sqa3 := SqT.ik ik3 sqa2
              have ha3 := ha2.ik ik3
              have hvg3 := hvg.ik ik3
              have hvr3 := hvr.ik ik3
              have vl : vs2.length = O2.length := hvr3.len
              simp only [List.length_cons] at fit
              obtain ⟨r1, e3, b3⟩ := TR.i_SIGNS h
              refine ⟨.ref a0, rfl, a0, _, _, _, rfl, rfl, sqa3, at0, _, r1, rfl, rfl, e3, _, rfl, ?_⟩
              rw [b3]
              have szl : ∀ n : Nat, n ≤ 60000 → n < sizeLine := fun n hn => Nat.lt_of_le_of_lt hn (by decide)
              have done : ∀ (x : Addr) (t : F) (O3 : List F) (vs3 : List V) (G5 : Hp), Same H0 G5 → IKp G3 G5 → G5 p = some (.ins RC dx (rf L a (hdT ts) oa qa)) → G5 qa = some (.lst ((as'.map V.ref).reverse)) → G5 oa = some (.lst vs3.reverse) → AllF K G5 vs3 O3 → IsF K G5 (.ref x) t → O3.length ≤ O2.length → joinP l S2 (t :: O3) = some (S', O') →
                  ∃ m', m' < (s :: S2).length ∧ ∃ (S1 : List Pd) (O1 : List F) (y2 y3 : Option V), ([some (.ref p), some (.int (l : Nat)), some (.ref a0), some vg] : List (Option V)) = [some (.ref p), some (.int (l : Nat)), y2, y3] ∧ RSt K RC M H0 (upd G5 oa (.lst (vs3.reverse ++ [.ref x]))) p dx oa qa L S1 O1 ts ∧ joinP l S1 O1 = some (S', O') ∧ m' = S1.length := by
                intro x t O3 vs3 G5 sm5 ik5 gp5 q5 o5 all5 isx lo j5
                have ik6 : IKp G5 (upd G5 oa (.lst (vs3.reverse ++ [.ref x]))) := IKp.lk (LKp.upd o5)
                refine ⟨S2.length, Nat.lt_succ_self _, S2, t :: O3, _, _, rfl, ⟨fun b u e => by rw [upd_ne (ne_of_none e R.n0.2.1)]; exact sm5 b u e, R.n0, R.ne, ⟨a, by rw [upd_ne R.ne.1]; exact gp5, tk⟩, ⟨.ref x :: vs3, by rw [upd_same, List.reverse_cons], .cons (isx.ik ik6) (all5.ik ik6)⟩, ⟨as', by rw [upd_ne R.ne.2.2.symm]; exact q5, (ha3.ik ik5).ik ik6⟩, R.sz, R.good, by simp only [List.length_cons]; omega⟩, j5, rfl⟩
              rcases joinP_go hl c' j with ⟨b, g', f, O3, es, e, j5⟩ | ⟨kd, m, f, O3, epd, _, ns, e, j5⟩
              · subst es
                cases e
                rw [show isTwo h = true from tw]
                refine iteT ?_
                cases hvr3 with
                | cons hvf hvq =>
                rename_i vf vs3
                rw [List.reverse_cons] at o3
                refine ⟨.ref p, rfl, p, RC, dx, _, .ref oa, rfl, gp3, TR.cl, TR.nO, rfl, .inl ⟨rfl, _, SqL.of o3⟩, .ref a0, rfl, .ref p, rfl, p, RC, dx, _, .ref oa, rfl, gp3, TR.cl, TR.nO, rfl, .inl ⟨rfl, _, SqL.of o3⟩, oa, _, vf, rfl, rfl, o3, by simp, ?_⟩
                rw [List.dropLast_concat]
                have ik4 : IKp G3 (upd G3 oa (.lst vs3.reverse)) := IKp.lk (LKp.upd o3)
                have sm4 : Same H0 (upd G3 oa (.lst vs3.reverse)) := fun b u e => by rw [upd_ne (ne_of_none e R.n0.2.1)]; exact sm3 b u e
                have o4 : (upd G3 oa (.lst vs3.reverse)) oa = some (.lst vs3.reverse) := upd_same
                have gp4 : (upd G3 oa (.lst vs3.reverse)) p = some (.ins RC dx (rf L a (hdT ts) oa qa)) := by rw [upd_ne R.ne.1]; exact gp3
                have q4 : (upd G3 oa (.lst vs3.reverse)) qa = some (.lst ((as'.map V.ref).reverse)) := by rw [upd_ne R.ne.2.2.symm]; exact q3
                generalize upd G3 oa (.lst vs3.reverse) = G4 at ik4 sm4 o4 gp4 q4
                refine ⟨vg, rfl, by show 2 ≤ sizeLine; decide, fun t2 ht2 => ?_⟩
                have s5 := Same.new (o := .tup [vf, vg]) ht2
                refine ⟨a0, t2, _, _, rfl, rfl, SqT.same s5 (SqT.ik ik4 sqa3), SqT.of upd_same, by rw [← eh]; show 1 + 2 ≤ sizeLine; decide, fun q => absurd q (by rw [← eh]; exact fun z => (by cases z)), fun _ q => (by cases q), fun _ _ x hx => ?_⟩
                have s6 := Same.new (o := .tup (hv h ++ [vf, vg])) hx
                have s56 := s5.trans s6
                refine ⟨oa, _, _, rfl, rfl, s56 _ _ o4, szl _ (by rw [List.length_reverse]; simp only [List.length_cons] at vl fit; omega), ?_⟩
                exact done x (.two b f g) O3 vs3 _ (sm4.trans s56) (ik4.trans (IKp.same s56)) (s56 _ _ gp4) (s56 _ _ q4) (s56 _ _ o4) (hvq.ik (ik4.trans (IKp.same s56))) (.two (SqT.of (by rw [upd_same, ← eh]; rfl)) (hvf.ik (ik4.trans (IKp.same s56))) (hvg3.ik (ik4.trans (IKp.same s56)))) (by simp) j5
              · cases e
                have tw' : isTwo h = false := by
                  rw [tw]
                  cases s with
                  | sg b => exact absurd rfl (ns b)
                  | _ => rfl
                rw [tw']
                refine iteF ?_
                refine ⟨.ref p, rfl, p, RC, dx, _, .ref oa, rfl, gp3, TR.cl, TR.nO, rfl, .inl ⟨rfl, _, SqL.of o3⟩, .ref a0, rfl, vg, rfl, by show 1 ≤ sizeLine; decide, fun t2 ht2 => ?_⟩
                have s5 := Same.new (o := .tup [vg]) ht2
                have ehd : hv h = hv (.one kd m) := by rw [← eh, epd]
                refine ⟨a0, t2, _, _, rfl, rfl, SqT.same s5 sqa3, SqT.of upd_same, by rw [ehd]; show 2 + 1 ≤ sizeLine; decide, fun q => absurd q (by rw [ehd]; exact fun z => (by cases z)), fun _ q => (by cases q), fun _ _ x hx => ?_⟩
                have s6 := Same.new (o := .tup (hv h ++ [vg])) hx
                have s56 := s5.trans s6
                refine ⟨oa, _, _, rfl, rfl, s56 _ _ o3, szl _ (by rw [List.length_reverse]; omega), ?_⟩
                exact done x (.one kd m g) O2 vs2 _ (sm3.trans s56) (IKp.same s56) (s56 _ _ gp3) (s56 _ _ q3) (s56 _ _ o3) (hvr3.ik (IKp.same s56)) (.one (SqT.of (by rw [upd_same, ehd])) (hvg3.ik (IKp.same s56))) (Nat.le_refl _) j5
        · refine .inr ⟨e1, ?_⟩
          refine ⟨.int (l : Nat), rfl, _, _, rfl, rfl, _, rfl, ite2 (fun c => ?_) (fun c => ?_)⟩
          · have c' := of_decide_eq_true c
            rw [joinP_stop S2 O1 hl (by omega)] at j
            cases j
            exact k _ R1
          · have c' : l ≤ s.str := Nat.le_of_not_lt fun z => c (decide_eq_true (by omega))
            have fit := R1.fit
            refine ⟨.ref p, rfl, p, RC, dx, _, .ref qa, rfl, gp1, TR.cl, TR.nP, rfl, .inl ⟨rfl, _, SqL.of hq1⟩, qa, _, .ref a0, rfl, rfl, hq1, by simp, ?_⟩
            rw [List.dropLast_concat]
            have s2 : ∀ b, b ≠ qa → (upd G1 qa (.lst ((as'.map V.ref).reverse))) b = G1 b := fun b n => upd_ne n
            have q2 : (upd G1 qa (.lst ((as'.map V.ref).reverse))) qa = some (.lst ((as'.map V.ref).reverse)) := upd_same
            have ik2 : IKp G1 (upd G1 qa (.lst ((as'.map V.ref).reverse))) := IKp.lk (LKp.upd hq1)
            have sm2 : Same H0 (upd G1 qa (.lst ((as'.map V.ref).reverse))) := fun b u e => by rw [upd_ne (ne_of_none e R.n0.2.2)]; exact R1.same b u e
            generalize upd G1 qa (.lst ((as'.map V.ref).reverse)) = G2 at s2 q2 ik2 sm2
            have gp2 : G2 p = some (.ins RC dx (rf L a (hdT ts) oa qa)) := by rw [s2 _ R.ne.2.1]; exact gp1
            have ho2 : G2 oa = some (.lst vs.reverse) := by rw [s2 _ R.ne.2.2]; exact ho1
            have sqa2 := SqT.ik ik2 sqa1
            have hv2 := hv1.ik ik2
            have ha2 := ha1.ik ik2
            cases hv2 with
            | nil => rcases joinP_go hl c' j with ⟨b, g, f, O3, _, e, _⟩ | ⟨kd, m, f, O3, _, _, _, e, _⟩ <;> cases e
            | cons hvg hvr =>
              rename_i vg g vs2 O2
              rw [List.reverse_cons] at ho2
              refine ⟨.ref p, rfl, p, RC, dx, _, .ref oa, rfl, gp2, TR.cl, TR.nO, rfl, .inl ⟨rfl, _, SqL.of ho2⟩, oa, _, vg, rfl, rfl, ho2, by simp, ?_⟩
              rw [List.dropLast_concat]
              have s3 : ∀ b, b ≠ oa → (upd G2 oa (.lst vs2.reverse)) b = G2 b := fun b n => upd_ne n
              have o3 : (upd G2 oa (.lst vs2.reverse)) oa = some (.lst vs2.reverse) := upd_same
              have ik3 : IKp G2 (upd G2 oa (.lst vs2.reverse)) := IKp.lk (LKp.upd ho2)
              have sm3 : Same H0 (upd G2 oa (.lst vs2.reverse)) := fun b u e => by rw [upd_ne (ne_of_none e R.n0.2.1)]; exact sm2 b u e
              generalize upd G2 oa (.lst vs2.reverse) = G3 at s3 o3 ik3 sm3
              have gp3 : G3 p = some (.ins RC dx (rf L a (hdT ts) oa qa)) := by rw [s3 _ R.ne.1]; exact gp2
              have q3 : G3 qa = some (.lst ((as'.map V.ref).reverse)) := by rw [s3 _ R.ne.2.2.symm]; exact q2
              have sqa3 := SqT.ik ik3 sqa2
              have ha3 := ha2.ik ik3
              have hvg3 := hvg.ik ik3
              have hvr3 := hvr.ik ik3
              have vl : vs2.length = O2.length := hvr3.len
              simp only [List.length_cons] at fit
              obtain ⟨r1, e3, b3⟩ := TR.i_SIGNS h
              refine ⟨.ref a0, rfl, a0, _, _, _, rfl, rfl, sqa3, at0, _, r1, rfl, rfl, e3, _, rfl, ?_⟩
              rw [b3]
              have szl : ∀ n : Nat, n ≤ 60000 → n < sizeLine := fun n hn => Nat.lt_of_le_of_lt hn (by decide)
              have done : ∀ (x : Addr) (t : F) (O3 : List F) (vs3 : List V) (G5 : Hp), Same H0 G5 → IKp G3 G5 → G5 p = some (.ins RC dx (rf L a (hdT ts) oa qa)) → G5 qa = some (.lst ((as'.map V.ref).reverse)) → G5 oa = some (.lst vs3.reverse) → AllF K G5 vs3 O3 → IsF K G5 (.ref x) t → O3.length ≤ O2.length → joinP l S2 (t :: O3) = some (S', O') →
                  ∃ m', m' < (s :: S2).length ∧ ∃ (S1 : List Pd) (O1 : List F) (y2 y3 : Option V), ([some (.ref p), some (.int (l : Nat)), some (.ref a0), some vg] : List (Option V)) = [some (.ref p), some (.int (l : Nat)), y2, y3] ∧ RSt K RC M H0 (upd G5 oa (.lst (vs3.reverse ++ [.ref x]))) p dx oa qa L S1 O1 ts ∧ joinP l S1 O1 = some (S', O') ∧ m' = S1.length := by
                intro x t O3 vs3 G5 sm5 ik5 gp5 q5 o5 all5 isx lo j5
                have ik6 : IKp G5 (upd G5 oa (.lst (vs3.reverse ++ [.ref x]))) := IKp.lk (LKp.upd o5)
                refine ⟨S2.length, Nat.lt_succ_self _, S2, t :: O3, _, _, rfl, ⟨fun b u e => by rw [upd_ne (ne_of_none e R.n0.2.1)]; exact sm5 b u e, R.n0, R.ne, ⟨a, by rw [upd_ne R.ne.1]; exact gp5, tk⟩, ⟨.ref x :: vs3, by rw [upd_same, List.reverse_cons], .cons (isx.ik ik6) (all5.ik ik6)⟩, ⟨as', by rw [upd_ne R.ne.2.2.symm]; exact q5, (ha3.ik ik5).ik ik6⟩, R.sz, R.good, by simp only [List.length_cons]; omega⟩, j5, rfl⟩
              rcases joinP_go hl c' j with ⟨b, g', f, O3, es, e, j5⟩ | ⟨kd, m, f, O3, epd, _, ns, e, j5⟩
              · subst es
                cases e
                rw [show isTwo h = true from tw]
                refine iteT ?_
                cases hvr3 with
                | cons hvf hvq =>
                rename_i vf vs3
                rw [List.reverse_cons] at o3
                refine ⟨.ref p, rfl, p, RC, dx, _, .ref oa, rfl, gp3, TR.cl, TR.nO, rfl, .inl ⟨rfl, _, SqL.of o3⟩, .ref a0, rfl, .ref p, rfl, p, RC, dx, _, .ref oa, rfl, gp3, TR.cl, TR.nO, rfl, .inl ⟨rfl, _, SqL.of o3⟩, oa, _, vf, rfl, rfl, o3, by simp, ?_⟩
                rw [List.dropLast_concat]
                have ik4 : IKp G3 (upd G3 oa (.lst vs3.reverse)) := IKp.lk (LKp.upd o3)
                have sm4 : Same H0 (upd G3 oa (.lst vs3.reverse)) := fun b u e => by rw [upd_ne (ne_of_none e R.n0.2.1)]; exact sm3 b u e
                have o4 : (upd G3 oa (.lst vs3.reverse)) oa = some (.lst vs3.reverse) := upd_same
                have gp4 : (upd G3 oa (.lst vs3.reverse)) p = some (.ins RC dx (rf L a (hdT ts) oa qa)) := by rw [upd_ne R.ne.1]; exact gp3
                have q4 : (upd G3 oa (.lst vs3.reverse)) qa = some (.lst ((as'.map V.ref).reverse)) := by rw [upd_ne R.ne.2.2.symm]; exact q3
                generalize upd G3 oa (.lst vs3.reverse) = G4 at ik4 sm4 o4 gp4 q4
                refine ⟨vg, rfl, by show 2 ≤ sizeLine; decide, fun t2 ht2 => ?_⟩
                have s5 := Same.new (o := .tup [vf, vg]) ht2
                refine ⟨a0, t2, _, _, rfl, rfl, SqT.same s5 (SqT.ik ik4 sqa3), SqT.of upd_same, by rw [← eh]; show 1 + 2 ≤ sizeLine; decide, fun q => absurd q (by rw [← eh]; exact fun z => (by cases z)), fun _ q => (by cases q), fun _ _ x hx => ?_⟩
                have s6 := Same.new (o := .tup (hv h ++ [vf, vg])) hx
                have s56 := s5.trans s6
                refine ⟨oa, _, _, rfl, rfl, s56 _ _ o4, szl _ (by rw [List.length_reverse]; simp only [List.length_cons] at vl fit; omega), ?_⟩
                exact done x (.two b f g) O3 vs3 _ (sm4.trans s56) (ik4.trans (IKp.same s56)) (s56 _ _ gp4) (s56 _ _ q4) (s56 _ _ o4) (hvq.ik (ik4.trans (IKp.same s56))) (.two (SqT.of (by rw [upd_same, ← eh]; rfl)) (hvf.ik (ik4.trans (IKp.same s56))) (hvg3.ik (ik4.trans (IKp.same s56)))) (by simp) j5
              · cases e
                have tw' : isTwo h = false := by
                  rw [tw]
                  cases s with
                  | sg b => exact absurd rfl (ns b)
                  | _ => rfl
                rw [tw']
                refine iteF ?_
                refine ⟨.ref p, rfl, p, RC, dx, _, .ref oa, rfl, gp3, TR.cl, TR.nO, rfl, .inl ⟨rfl, _, SqL.of o3⟩, .ref a0, rfl, vg, rfl, by show 1 ≤ sizeLine; decide, fun t2 ht2 => ?_⟩
                have s5 := Same.new (o := .tup [vg]) ht2
                have ehd : hv h = hv (.one kd m) := by rw [← eh, epd]
                refine ⟨a0, t2, _, _, rfl, rfl, SqT.same s5 sqa3, SqT.of upd_same, by rw [ehd]; show 2 + 1 ≤ sizeLine; decide, fun q => absurd q (by rw [ehd]; exact fun z => (by cases z)), fun _ q => (by cases q), fun _ _ x hx => ?_⟩
                have s6 := Same.new (o := .tup (hv h ++ [vg])) hx
                have s56 := s5.trans s6
                refine ⟨oa, _, _, rfl, rfl, s56 _ _ o3, szl _ (by rw [List.length_reverse]; omega), ?_⟩
                exact done x (.one kd m g) O2 vs2 _ (sm3.trans s56) (IKp.same s56) (s56 _ _ gp3) (s56 _ _ q3) (s56 _ _ o3) (hvr3.ik (IKp.same s56)) (.one (SqT.of (by rw [upd_same, ehd])) (hvg3.ik (IKp.same s56))) (Nat.le_refl _) j5
end
end Fw

set_option maxRecDepth 100000
set_option maxHeartbeats 8000000
namespace Fw
open PySem PySem.Spec PyProof.Rows L2
def isBdT : List Tk → Bool
  | .bd _ :: _ => true
  | _ => false
def isPrT : List Tk → Bool
  | .pr _ _ :: _ => true
  | _ => false
def isAtT : List Tk → Bool
  | .nl _ :: _ => true
  | .lf .has _ :: _ => true
  | .lf .lacks _ :: _ => true
  | _ => false
def isSgT : List Tk → Bool
  | .sg _ :: _ => true
  | _ => false
/-- what the reader's tables hold -/
structure TxtD (K : PySem.W.Frag) (mg : Str → Option Value) (w : World) (BK PF AT JW : Addr) : Prop where
  m_BINDER_KINDS : mg "BINDER_KINDS" = some (.ref BK)
  m_PREFIXES : mg "PREFIXES" = some (.ref PF)
  m_ATOMS : mg "ATOMS" = some (.ref AT)
  m_JOIN_WORDS : mg "JOIN_WORDS" = some (.ref JW)
  k_BINDER_KINDS : ∃ es n, KDict K w BK es n
  k_PREFIXES : ∃ es n, KDict K w PF es n
  k_ATOMS : ∃ es n, KDict K w AT es n
  k_JOIN_WORDS : ∃ es n, KDict K w JW es n
  i_BINDER_KINDS : ∀ ts, (∀ t ∈ ts, TkGood t) → ∃ r, PySem.W.nsIn K BK (sL (hdT ts)) = some r ∧ r.isSome = isBdT ts
  i_PREFIXES : ∀ ts, (∀ t ∈ ts, TkGood t) → ∃ r, PySem.W.nsIn K PF (sL (hdT ts)) = some r ∧ r.isSome = isPrT ts
  i_ATOMS : ∀ ts, (∀ t ∈ ts, TkGood t) → ∃ r, PySem.W.nsIn K AT (sL (hdT ts)) = some r ∧ r.isSome = isAtT ts
  i_JOIN_WORDS : ∀ ts, (∀ t ∈ ts, TkGood t) → ∃ r, PySem.W.nsIn K JW (sL (hdT ts)) = some r ∧ r.isSome = isSgT ts
  g_BINDER_KINDS : ∀ k : One, k.bind = true → KDct K w BK (sL (tx (.bd k))) (.str (wO k))
  g_PREFIXES : ∀ (k : One) (n : Int), TkGood (.pr k n) → ∃ a, KDct K w PF (sL (tx (.pr k n))) (.ref a) ∧ ∀ H, SqT K H a (hv (.one k n))
  g_NUL : ∀ b : Bool, ∃ a, KDct K w AT (sL (tx (.nl b))) (.ref a) ∧ ∀ H, SqT K H a (hv (.nul b))
  g_FACT : ∀ (k : Leaf) (n : Int), k ≠ .var → TkGood (.lf k n) → ∃ a, KDct K w AT (sL (tx (.lf k n))) (.ref a) ∧ ∀ H, SqT K H a (hv (.leaf k n))
  g_JOIN_WORDS : ∀ b : Bool, KDct K w JW (sL (tx (.sg b))) (.str (wT b))
structure TxtW (K : PySem.W.Frag) (mg : Str → Option Value) (w : World) (SG BW ST : Addr) (tS : Tok) (TK : Addr) (tD : Tok) (RC : Addr) (BK PF AT JW : Addr) : Prop extends TxtAll K mg w SG BW ST tS TK tD RC, TxtD K mg w BK PF AT JW
section
variable {P : Program} {w : World} {K : PySem.W.Frag} {mg : Str → Option Value} {base : Heap} {C J B NC FE OD SG BW ST TK RC BK PF AT JW : Addr} {tS tD : Tok}
theorem RSt.popP {M : Nat} {H0 G : Hp} {p dx oa qa a0 : Addr} {L : List Nat} {s : Pd} {S : List Pd} {O : List F} {ts : List Tk} {as : List Addr} (R : RSt K RC M H0 G p dx oa qa L (s :: S) O ts)
    (hq : G qa = some (.lst ((as.map V.ref).reverse ++ [.ref a0]))) (ha : PdA K G as S) : RSt K RC M H0 (upd G qa (.lst ((as.map V.ref).reverse))) p dx oa qa L S O ts := by
  obtain ⟨a, gp, tk⟩ := R.obj
  obtain ⟨vs, ho, hv'⟩ := R.ops
  have ik : IKp G (upd G qa (.lst ((as.map V.ref).reverse))) := IKp.lk (LKp.upd hq)
  exact ⟨fun b u e => by rw [upd_ne (ne_of_none e R.n0.2.2)]; exact R.same b u e, R.n0, R.ne, ⟨a, by rw [upd_ne R.ne.2.1]; exact gp, tk⟩, ⟨vs, by rw [upd_ne R.ne.2.2]; exact ho, hv'.ik ik⟩, ⟨as, upd_same, ha.ik ik⟩, R.sz, R.good, by have := R.fit; simp only [List.length_cons] at this; omega⟩
theorem RSt.pushP {M : Nat} {H0 G : Hp} {p dx oa qa x : Addr} {L : List Nat} {s : Pd} {S : List Pd} {O : List F} {ts : List Tk} {xs : List V} (R : RSt K RC M H0 G p dx oa qa L S O ts)
    (hq : G qa = some (.lst xs)) (hx : SqT K G x (pdV s)) (ok : PdOk s) : RSt K RC (M + 1) H0 (upd G qa (.lst (xs ++ [.ref x]))) p dx oa qa L (s :: S) O ts := by
  obtain ⟨a, gp, tk⟩ := R.obj
  obtain ⟨vs, ho, hv'⟩ := R.ops
  obtain ⟨as, hq2, ha⟩ := R.pend
  rw [hq] at hq2
  obtain rfl : xs = (as.map V.ref).reverse := by injection hq2 with e; injection e
  have ik : IKp G (upd G qa (.lst ((as.map V.ref).reverse ++ [.ref x]))) := IKp.lk (LKp.upd hq)
  exact ⟨fun b u e => by rw [upd_ne (ne_of_none e R.n0.2.2)]; exact R.same b u e, R.n0, R.ne, ⟨a, by rw [upd_ne R.ne.2.1]; exact gp, tk⟩, ⟨vs, by rw [upd_ne R.ne.2.2]; exact ho, hv'.ik ik⟩, ⟨x :: as, by rw [upd_same, List.map_cons, List.reverse_cons], .cons (SqT.ik ik hx) ok (ha.ik ik)⟩, R.sz, R.good, by have := R.fit; simp only [List.length_cons]; omega⟩
def spClose (K : PySem.W.Frag) (RC : Addr) : Sp := fun vs H Q _ => ∃ (M : Nat) (p dx oa qa : Addr) (H0 : Hp) (L : List Nat) (S : List Pd) (O : List F) (ts : List Tk) (S1 S2 : List Pd) (O1 O2 : List F), vs = [.ref p] ∧ M ≤ 60000 ∧ RSt K RC M H0 H p dx oa qa L S O (.rp :: ts) ∧ joinP 0 S O = some (.lp :: S1, O1) ∧ joinP 3 S1 O1 = some (S2, O2) ∧
  ∀ H', RSt K RC (M - 1) H0 H' p dx oa qa L S2 O2 ts → Q .non H'
theorem ok_close {f fj ff fp : Addr} {fd fdj fdf fdp : FuncData} (FF : Fun K "_close" "Reader._close" s_Reader__close f fd) (T : Txt K mg C J B) (TR : TxtW K mg w SG BW ST tS TK tD RC BK PF AT JW)
    (m_Reader_join : Meth K RC "_join" fj) (g_Reader_join : FnOk P w K mg base CX0 1 fj fdj a_Reader__join (spJoinR K RC)) (b_Reader_join : Binds K fdj a_Reader__join [])
    (m_Reader_fail : Meth K RC "_fail" ff) (g_Reader_fail : FnOk P w K mg base CX0 1 ff fdf a_Reader__fail (fun _ _ _ _ => False)) (b_Reader_fail : Binds K fdf a_Reader__fail [])
    (m_Reader_pass : Meth K RC "_pass" fp) (g_Reader_pass : FnOk P w K mg base CX0 4 fp fdp a_Reader__pass (spPass K RC)) (b_Reader_pass : Binds K fdp a_Reader__pass []) : FnOk P w K mg base CX0 5 f fd a_Reader__close (spClose K RC) := by
  refine FF.ok sc_Reader__close (fun vs H Q E h => ?_) (fun cdv A outer s H vs Q E hr h => ?_)
  · obtain ⟨M, p, dx, oa, qa, H0, L, S, O, ts, S1, S2, O1, O2, rfl, _⟩ := h
    rfl
  · obtain ⟨M, p, dx, oa, qa, H0, L, S, O, ts, S1, S2, O1, O2, rfl, hM, R, j0, j3, k⟩ := h
    refine ⟨_, (pss_cons (ps_expr (pe_meth (pv 0) TR.cl m_Reader_join g_Reader_join (hr.mono (by omega)) b_Reader_join .nil pass0 (pa_cons pe_int pa_nil)))
      (pss_cons (ps_if (pt_not (pt_truth (pe_fld (pv 0) rfl) (by intro _; rfl))) (pss_one (ps_expr (pe_meth0 (pv 0) TR.cl m_Reader_fail g_Reader_fail (hr.mono (by omega)) b_Reader_fail .nil pass0))) pss_nil)
      (pss_cons (ps_expr (pe_bm0 PySem.F.plainAttrs_list PySem.F.slot_list_pop PySem.F.type_list_pop mt_pop (pe_fld (pv 0) rfl)))
      (pss_cons (ps_expr (pe_meth0 (pv 0) TR.cl m_Reader_pass g_Reader_pass (hr.mono (by omega)) b_Reader_pass .nil pass0))
      (pss_one (ps_expr (pe_meth (pv 0) TR.cl m_Reader_join g_Reader_join (hr.mono (by omega)) b_Reader_join .nil pass0 (pa_cons (pe_glob rfl TR.m_STRONGEST (show RelV (.int 3) _ from ⟨_, rfl⟩)) pa_nil)))))))), ?_⟩
    obtain ⟨a, gp, tk⟩ := R.obj
    refine ⟨.ref p, rfl, p, dx, _, rfl, gp, rfl, M, p, dx, oa, qa, H0, L, S, O, .rp :: ts, 0, .lp :: S1, O1, rfl, hM, R, j0, fun H1 R1 => ?_⟩
    obtain ⟨a1, gp1, tk1⟩ := R1.obj
    obtain ⟨as, hq, ha⟩ := R1.pend
    cases ha with
    | cons sqa ok ha' =>
    rename_i a0 as'
    have hq' : H1 qa = some (.lst ((as'.map V.ref).reverse ++ [.ref a0])) := by rw [hq, List.map_cons, List.reverse_cons]
    refine ⟨.ref p, rfl, p, RC, dx, _, .ref qa, rfl, gp1, TR.cl, TR.nP, rfl, true, .inl ⟨_, SqL.of hq', by simp⟩, iteF ?_⟩
    refine ⟨.ref p, rfl, p, RC, dx, _, .ref qa, rfl, gp1, TR.cl, TR.nP, rfl, .inl ⟨rfl, _, SqL.of hq'⟩, qa, _, .ref a0, rfl, rfl, hq', by simp, ?_⟩
    rw [List.dropLast_concat]
    have R2 := R1.popP hq' ha'
    generalize upd H1 qa (.lst ((as'.map V.ref).reverse)) = H2 at R2
    obtain ⟨a2, gp2, tk2⟩ := R2.obj
    refine ⟨.ref p, rfl, p, dx, _, rfl, gp2, rfl, M, p, dx, oa, qa, H0, L, S1, O1, .rp, ts, rfl, R2, fun H3 R3 _ _ _ => ?_⟩
    obtain ⟨a3, gp3, tk3⟩ := R3.obj
    exact ⟨.ref p, rfl, p, dx, _, rfl, gp3, rfl, M - 1, p, dx, oa, qa, H0, L, S1, O1, ts, 3, S2, O2, rfl, by omega, R3, j3, fun H4 R4 => k H4 R4⟩
end
end Fw

set_option maxRecDepth 100000
set_option maxHeartbeats 8000000
namespace Fw
open PySem PySem.Spec PyProof.Rows L2
section
variable {P : Program} {w : World} {K : PySem.W.Frag} {mg : Str → Option Value} {base : Heap} {C J B NC FE OD SG BW ST TK RC BK PF AT JW : Addr} {tS tD : Tok}
theorem st_sg (b : Bool) : stH (.two b) = (Pd.sg b).str := by cases b <;> rfl
def spSign (K : PySem.W.Frag) (RC : Addr) : Sp := fun vs H Q _ => ∃ (M : Nat) (p dx oa qa : Addr) (H0 : Hp) (L : List Nat) (S : List Pd) (O : List F) (ts : List Tk) (S' : List Pd) (O' : List F), vs = [.ref p] ∧ M ≤ 60000 ∧ RSt K RC M H0 H p dx oa qa L S O ts ∧ Run ⟨.A, S, O, ts⟩ ⟨.A, S', O', []⟩ ∧ (∀ r, ts ≠ .rp :: r) ∧
  (∀ H' S1 O1 ts1, RSt K RC M H0 H' p dx oa qa L S1 O1 ts1 → Run ⟨.E, S1, O1, ts1⟩ ⟨.A, S', O', []⟩ → ts1.length < ts.length → Q (.bl true) H') ∧
  (∀ H', RSt K RC M H0 H' p dx oa qa L S' O' [] → Q (.bl false) H')
theorem ok_read_sign {f fj fp : Addr} {fd fdj fdp : FuncData} (FF : Fun K "_read_sign" "Reader._read_sign" s_Reader__read_sign f fd) (T : Txt K mg C J B) (TR : TxtW K mg w SG BW ST tS TK tD RC BK PF AT JW)
    (m_Reader_join : Meth K RC "_join" fj) (g_Reader_join : FnOk P w K mg base CX0 1 fj fdj a_Reader__join (spJoinR K RC)) (b_Reader_join : Binds K fdj a_Reader__join [])
    (m_Reader_pass : Meth K RC "_pass" fp) (g_Reader_pass : FnOk P w K mg base CX0 4 fp fdp a_Reader__pass (spPass K RC)) (b_Reader_pass : Binds K fdp a_Reader__pass []) : FnOk P w K mg base CX0 5 f fd a_Reader__read_sign (spSign K RC) := by
  refine FF.ok sc_Reader__read_sign (fun vs H Q E h => ?_) (fun cdv A outer s H vs Q E hr h => ?_)
  · obtain ⟨M, p, dx, oa, qa, H0, L, S, O, ts, S', O', rfl, _⟩ := h
    rfl
  · obtain ⟨M, p, dx, oa, qa, H0, L, S, O, ts, S', O', rfl, hM, R, run, nrp, kT', kF'⟩ := h
    obtain ⟨es1, n1, kd_JOIN_WORDS⟩ := TR.k_JOIN_WORDS
    refine ⟨_, (pss_cons (ps_if (pt_cmpR (op_notIn_kd kd_JOIN_WORDS) (pe_fld (pv 0) rfl) (pe_glob rfl TR.m_JOIN_WORDS (show RelV (.ref _) _ from rfl)) (by rfl)) (pss_one (ps_ret pe_bl)) pss_nil)
      (pss_cons (ps_set (i := 1) sc_Reader__read_sign.nd rfl (.inl rfl) (pe_ix (show IxR _ (rIxD K w) from ix_kdict) (pe_glob rfl TR.m_JOIN_WORDS (show RelV (.ref _) _ from rfl)) (pe_fld (pv 0) rfl) (fun _ _ => rfl)))
      (pss_cons (ps_expr (pe_meth (pv 0) TR.cl m_Reader_join g_Reader_join (hr.mono (by omega)) b_Reader_join .nil pass0 (pa_cons (pe_ix (show IxR _ (rIxD K w) from ix_kdict) (pe_glob rfl TR.m_STRENGTHS (show RelV (.ref _) _ from rfl)) (pv 1) (fun _ _ => rfl)) pa_nil)))
      (pss_cons (ps_expr (pe_bm PySem.F.plainAttrs_list PySem.F.slot_list_append PySem.F.type_list_append mt_append (pe_fld (pv 0) rfl) (pa_cons (pe_tup (pa_cons (pv 1) pa_nil)) pa_nil)))
      (pss_cons (ps_expr (pe_meth0 (pv 0) TR.cl m_Reader_pass g_Reader_pass (hr.mono (by omega)) b_Reader_pass .nil pass0))
      (pss_one (ps_ret pe_bl))))))), ?_⟩
    obtain ⟨a, gp, tk⟩ := R.obj
    obtain ⟨r0, e0, b0⟩ := TR.i_JOIN_WORDS ts R.good
    refine ⟨.ref p, rfl, p, RC, dx, _, .str (sL (hdT ts)), rfl, gp, TR.cl, TR.nK, rfl, _, r0, rfl, rfl, e0, _, rfl, ?_⟩
    rw [b0]
    rcases runA run with ⟨rfl, rfl, rfl⟩ | ⟨r, S1, O1, S2, O2, rfl, _⟩ | ⟨b, r, S1, O1, rfl, j, run2⟩
    · exact iteT (kF' H R)
    · exact absurd rfl (nrp r)
    · refine iteF ?_
      refine ⟨.ref p, rfl, p, RC, dx, _, .str (sL (tx (.sg b))), rfl, gp, TR.cl, TR.nK, rfl, JW, _, _, rfl, rfl, TR.g_JOIN_WORDS b, ?_⟩
      refine ⟨.ref p, rfl, p, dx, _, rfl, gp, rfl, .str (wT b), rfl, ST, _, _, rfl, rfl, TR.g_STRENGTHS b, M, p, dx, oa, qa, H0, L, S, O, .sg b :: r, stH (.two b), S1, O1, rfl, hM, R, by rw [st_sg]; exact j, fun H1 R1 => ?_⟩
      obtain ⟨a1, gp1, tk1⟩ := R1.obj
      obtain ⟨as, hq, ha⟩ := R1.pend
      refine ⟨.ref p, rfl, p, RC, dx, _, .ref qa, rfl, gp1, TR.cl, TR.nP, rfl, .inl ⟨rfl, _, SqL.of hq⟩, .str (wT b), rfl, by show 1 ≤ sizeLine; decide, fun x hx => ?_⟩
      have s2 := Same.new (o := .tup [.str (wT b)]) hx
      have R2 := R1.ext s2
      have hq2 := s2 _ _ hq
      have R3 := R2.pushP (s := .sg b) hq2 (SqT.of upd_same) trivial
      have al : as.length ≤ 60000 := by
        have q : ∀ {as : List Addr} {S : List Pd}, PdA K H1 as S → as.length = S.length := fun h => by
          induction h with
          | nil => rfl
          | cons _ _ _ ih => simp only [List.length_cons, ih]
        have := q ha
        have := R1.fit
        omega
      refine ⟨qa, _, _, rfl, rfl, hq2, Nat.lt_of_le_of_lt (by rw [List.length_reverse, List.length_map]; exact al) (show 60000 < sizeLine by decide), ?_⟩
      generalize upd (upd H1 x (.tup [.str (wT b)])) qa (.lst ((as.map V.ref).reverse ++ [.ref x])) = H3 at R3
      obtain ⟨a3, gp3, tk3⟩ := R3.obj
      refine ⟨.ref p, rfl, p, dx, _, rfl, gp3, rfl, M + 1, p, dx, oa, qa, H0, L, _, _, _, _, rfl, R3, fun H4 R4 _ _ _ => ?_⟩
      exact kT' H4 _ _ _ R4 run2 (Nat.lt_succ_self _)
end
end Fw

set_option maxRecDepth 100000
set_option maxHeartbeats 8000000
namespace Fw
open PySem PySem.Spec PyProof.Rows L2
theorem sw_x {n : Int} (h : n ∈ V4) : Txt.startswith (sL (tx (.lf .var n))) (Str.ofString "x") = true := by
  simp only [List.mem_cons, List.not_mem_nil, or_false] at h
  rcases h with rfl | rfl | rfl | rfl <;> decide +kernel
theorem cut_x {n : Int} (h : n ∈ V4) : cutS (sL (tx (.lf .var n))) (some 1) none = sL [dg n] := by
  simp only [List.mem_cons, List.not_mem_nil, or_false] at h
  rcases h with rfl | rfl | rfl | rfl <;> decide +kernel
theorem int_x {n : Int} (h : n ∈ V4) : PySem.intText? (sL [dg n]) = some n := by
  simp only [List.mem_cons, List.not_mem_nil, or_false] at h
  rcases h with rfl | rfl | rfl | rfl <;> decide +kernel
theorem nb_bd {ts : List Tk} (h : notBd ts = true) : isBdT ts = false := by
  cases ts with
  | nil => rfl
  | cons t r => cases t <;> first | rfl | cases h
section
variable {P : Program} {w : World} {K : PySem.W.Frag} {mg : Str → Option Value} {base : Heap} {C J B NC FE OD SG BW ST TK RC BK PF AT JW : Addr} {tS tD : Tok}
theorem RSt.mono {M N : Nat} {H0 H : Hp} {p dx oa qa : Addr} {L : List Nat} {S : List Pd} {O : List F} {ts : List Tk} (h : M ≤ N) (R : RSt K RC M H0 H p dx oa qa L S O ts) : RSt K RC N H0 H p dx oa qa L S O ts :=
  ⟨R.same, R.n0, R.ne, R.obj, R.ops, R.pend, R.sz, R.good, Nat.le_trans R.fit h⟩
theorem PdA.len {H : Hp} {as : List Addr} {S : List Pd} (h : PdA K H as S) : as.length = S.length := by
  induction h with
  | nil => rfl
  | cons _ _ _ ih => simp only [List.length_cons, ih]
def spBind (K : PySem.W.Frag) (RC : Addr) : Sp := fun vs H Q _ => ∃ (M : Nat) (p dx oa qa : Addr) (H0 : Hp) (L : List Nat) (S : List Pd) (O : List F) (ts : List Tk) (S' : List Pd) (O' : List F), vs = [.ref p] ∧ M ≤ 60000 ∧ RSt K RC M H0 H p dx oa qa L S O ts ∧ Run ⟨.B, S, O, ts⟩ ⟨.A, S', O', []⟩ ∧
  ∀ H' S1 ts1, RSt K RC M H0 H' p dx oa qa L S1 O ts1 → Run ⟨.E, S1, O, ts1⟩ ⟨.A, S', O', []⟩ → ts1.length ≤ ts.length → Q .non H'
theorem ok_read_binders {f ff fp : Addr} {fd fdf fdp : FuncData} (FF : Fun K "_read_binders" "Reader._read_binders" s_Reader__read_binders f fd) (T : Txt K mg C J B) (TR : TxtW K mg w SG BW ST tS TK tD RC BK PF AT JW)
    (m_Reader_fail : Meth K RC "_fail" ff) (g_Reader_fail : FnOk P w K mg base CX0 1 ff fdf a_Reader__fail (fun _ _ _ _ => False)) (b_Reader_fail : Binds K fdf a_Reader__fail [])
    (m_Reader_pass : Meth K RC "_pass" fp) (g_Reader_pass : FnOk P w K mg base CX0 4 fp fdp a_Reader__pass (spPass K RC)) (b_Reader_pass : Binds K fdp a_Reader__pass []) : FnOk P w K mg base CX0 5 f fd a_Reader__read_binders (spBind K RC) := by
  refine FF.ok sc_Reader__read_binders (fun vs H Q E h => ?_) (fun cdv A outer s H vs Q E hr h => ?_)
  · obtain ⟨M, p, dx, oa, qa, H0, L, S, O, ts, S', O', rfl, _⟩ := h
    rfl
  · obtain ⟨M, p, dx, oa, qa, H0, L, S, O, ts, S', O', rfl, hM, R, run, k⟩ := h
    obtain ⟨es1, n1, kd_BINDER_KINDS⟩ := TR.k_BINDER_KINDS
    refine ⟨_, (pss_one (ps_while PassesOwn.never (pt_cmpR (op_in_kd kd_BINDER_KINDS) (pe_fld (pv 0) rfl) (pe_glob rfl TR.m_BINDER_KINDS (show RelV (.ref _) _ from rfl)) (by rfl)) (pss_cons (ps_set (i := 1) sc_Reader__read_binders.nd rfl (.inl rfl) (pe_ix (show IxR _ (rIxD K w) from ix_kdict) (pe_glob rfl TR.m_BINDER_KINDS (show RelV (.ref _) _ from rfl)) (pe_fld (pv 0) rfl) (fun _ _ => rfl)))
      (pss_cons (ps_expr (pe_meth0 (pv 0) TR.cl m_Reader_pass g_Reader_pass (hr.mono (by omega)) b_Reader_pass .nil pass0))
      (pss_cons (ps_if (pt_not (pt_val (pe_m1 PySem.F.slot_str_startswith PySem.F.type_str_startswith mt_startswith (pe_fld (pv 0) rfl) pe_str))) (pss_one (ps_expr (pe_meth0 (pv 0) TR.cl m_Reader_fail g_Reader_fail (hr.mono (by omega)) b_Reader_fail .nil pass0))) pss_nil)
      (pss_cons (ps_expr (pe_bm PySem.F.plainAttrs_list PySem.F.slot_list_append PySem.F.type_list_append mt_append (pe_fld (pv 0) rfl) (pa_cons (pe_tup (pa_cons (pv 1) (pa_cons (pe_callTy call_int_str rfl T.z_int (by decide +kernel) (pa_cons (pe_slice sl_str (pe_fld (pv 0) rfl) (po_some pe_int) po_none) pa_nil)) pa_nil))) pa_nil)))
      (pss_cons (ps_expr (pe_meth0 (pv 0) TR.cl m_Reader_pass g_Reader_pass (hr.mono (by omega)) b_Reader_pass .nil pass0))
      (pss_cons (ps_if (pt_cmpR op_ne (pe_fld (pv 0) rfl) pe_str (nomark _)) (pss_one (ps_expr (pe_meth0 (pv 0) TR.cl m_Reader_fail g_Reader_fail (hr.mono (by omega)) b_Reader_fail .nil pass0))) pss_nil)
      (pss_one (ps_expr (pe_meth0 (pv 0) TR.cl m_Reader_pass g_Reader_pass (hr.mono (by omega)) b_Reader_pass .nil pass0))))))))))), ?_⟩
    refine ⟨fun m σ G => ∃ (S1 : List Pd) (ts1 : List Tk) (y1 : Option V), σ = [some (.ref p), y1] ∧ RSt K RC M H0 G p dx oa qa L S1 O ts1 ∧ Run ⟨.B, S1, O, ts1⟩ ⟨.A, S', O', []⟩ ∧ ts1.length ≤ ts.length ∧ m = ts1.length, ⟨_, S, ts, none, rfl, R, run, Nat.le_refl _, rfl⟩, ?_⟩
    clear R run
    rintro m σ G ⟨S1, ts1, y1, rfl, R, run, le, rfl⟩
    obtain ⟨a, gp, tk⟩ := R.obj
    obtain ⟨r0, e0, b0⟩ := TR.i_BINDER_KINDS ts1 R.good
    refine ⟨.ref p, rfl, p, RC, dx, _, .str (sL (hdT ts1)), rfl, gp, TR.cl, TR.nK, rfl, _, r0, rfl, rfl, e0, _, rfl, ?_⟩
    rw [b0]
    rcases runB run with ⟨kd, n, r, rfl, hk, run2⟩ | ⟨hn, run2⟩
    · refine iteT ⟨_, fun σ' H' z => z, ?_⟩
      have okn : n ∈ V4 := (R.good (.lf .var n) (by simp)).ok
      refine ⟨.ref p, rfl, p, RC, dx, _, .str (sL (tx (.bd kd))), rfl, gp, TR.cl, TR.nK, rfl, BK, _, _, rfl, rfl, TR.g_BINDER_KINDS kd hk, ?_⟩
      refine ⟨.ref p, rfl, p, dx, _, rfl, gp, rfl, M, p, dx, oa, qa, H0, L, S1, O, .bd kd, _, rfl, R, fun H1 R1 _ _ _ => ?_⟩
      obtain ⟨a1, gp1, tk1⟩ := R1.obj
      obtain ⟨as, hq, ha⟩ := R1.pend
      refine ⟨.ref p, rfl, p, RC, dx, _, .str (sL (tx (.lf .var n))), rfl, gp1, TR.cl, TR.nK, rfl, ⟨_, rfl⟩, _, _, rfl, rfl, true, congrArg V.bl (sw_x okn), iteF ?_⟩
      refine ⟨.ref p, rfl, p, RC, dx, _, .ref qa, rfl, gp1, TR.cl, TR.nP, rfl, .inl ⟨rfl, _, SqL.of hq⟩, .str (wO kd), rfl, .ref p, rfl, p, RC, dx, _, .str (sL (tx (.lf .var n))), rfl, gp1, TR.cl, TR.nK, rfl, 1, rfl, _, rfl, big_line (by rw [sL_len]; have := txl (.lf .var n); omega), _, n, rfl, by rw [cut_x okn]; exact int_x okn, by rw [cut_x okn, sL_len]; simp, by show 2 ≤ sizeLine; decide, fun x hx => ?_⟩
      have s2 := Same.new (o := .tup [.str (wO kd), .int n]) hx
      have R2 := R1.ext s2
      have hq2 := s2 _ _ hq
      have R3 := R2.pushP (s := .bd kd n) hq2 (SqT.of upd_same) hk
      have al : as.length ≤ 60000 := by
        have := ha.len
        have := R1.fit
        omega
      refine ⟨qa, _, _, rfl, rfl, hq2, Nat.lt_of_le_of_lt (by rw [List.length_reverse, List.length_map]; exact al) (show 60000 < sizeLine by decide), ?_⟩
      generalize upd (upd H1 x (.tup [.str (wO kd), .int n])) qa (.lst ((as.map V.ref).reverse ++ [.ref x])) = H3 at R3
      obtain ⟨a3, gp3, tk3⟩ := R3.obj
      refine ⟨.ref p, rfl, p, dx, _, rfl, gp3, rfl, _, p, dx, oa, qa, H0, L, _, _, _, _, rfl, R3, fun H4 R4 _ _ _ => ?_⟩
      obtain ⟨a4, gp4, tk4⟩ := R4.obj
      have dE : V.str (sL (tx .dot)) = V.str (Str.ofString ".") := congrArg V.str (by decide +kernel)
      refine ⟨.ref p, rfl, p, RC, dx, _, .str (sL (tx .dot)), rfl, gp4, TR.cl, TR.nK, rfl, rfl, _, rfl, ?_⟩
      refine (if_neg (by rw [decide_eq_true dE]; exact Bool.false_ne_true)).mpr ?_
      refine ⟨.ref p, rfl, p, dx, _, rfl, gp4, rfl, _, p, dx, oa, qa, H0, L, _, _, _, _, rfl, R4, fun H5 R5 _ _ _ => ?_⟩
      exact ⟨r.length, by simp only [List.length_cons]; omega, _, r, _, rfl, R5.mono (by omega), run2, by simp only [List.length_cons] at le; omega, rfl⟩
    · rw [nb_bd hn]
      exact iteF (k G S1 ts1 R run2 le)
end
end Fw

set_option maxRecDepth 100000
set_option maxHeartbeats 8000000
namespace Fw
open PySem PySem.Spec PyProof.Rows L2
section
variable {P : Program} {w : World} {K : PySem.W.Frag} {mg : Str → Option Value} {base : Heap} {C J B NC FE OD SG BW ST TK RC BK PF AT JW : Addr} {tS tD : Tok}
theorem lp_eq : V.str (sL (tx .lp)) = V.str (Str.ofString "(") := congrArg V.str (by decide +kernel)
theorem pr_ne {k : One} {n : Int} (g : TkGood (.pr k n)) : V.str (sL (tx (.pr k n))) ≠ V.str (Str.ofString "(") := by
  rw [show (Str.ofString "(") = sL [40] from by decide +kernel]
  intro e
  injection e with e
  injection e with e
  have := congrArg Array.toList e
  have := congrArg List.length this
  cases k <;> simp [tx] at this
def spOpen (K : PySem.W.Frag) (RC : Addr) : Sp := fun vs H Q _ => ∃ (M : Nat) (p dx oa qa : Addr) (H0 : Hp) (L : List Nat) (S : List Pd) (O : List F) (t : Tk) (ts : List Tk) (S' : List Pd) (O' : List F), vs = [.ref p] ∧ M ≤ 60000 ∧ RSt K RC M H0 H p dx oa qa L S O (t :: ts) ∧
  ((t = .lp ∧ Run ⟨.B, .lp :: S, O, ts⟩ ⟨.A, S', O', []⟩) ∨ ∃ k n, t = .pr k n ∧ k.bind = false ∧ Run ⟨.E, .pr k n :: S, O, ts⟩ ⟨.A, S', O', []⟩) ∧
  ∀ H' S1 ts1, RSt K RC M H0 H' p dx oa qa L S1 O ts1 → Run ⟨.E, S1, O, ts1⟩ ⟨.A, S', O', []⟩ → ts1.length ≤ ts.length → Q .non H'
theorem ok_read_opening {f fb fp : Addr} {fd fdb fdp : FuncData} (FF : Fun K "_read_opening" "Reader._read_opening" s_Reader__read_opening f fd) (T : Txt K mg C J B) (TR : TxtW K mg w SG BW ST tS TK tD RC BK PF AT JW)
    (m_Reader_read_binders : Meth K RC "_read_binders" fb) (g_Reader_read_binders : FnOk P w K mg base CX0 5 fb fdb a_Reader__read_binders (spBind K RC)) (b_Reader_read_binders : Binds K fdb a_Reader__read_binders [])
    (m_Reader_pass : Meth K RC "_pass" fp) (g_Reader_pass : FnOk P w K mg base CX0 4 fp fdp a_Reader__pass (spPass K RC)) (b_Reader_pass : Binds K fdp a_Reader__pass []) : FnOk P w K mg base CX0 6 f fd a_Reader__read_opening (spOpen K RC) := by
  refine FF.ok sc_Reader__read_opening (fun vs H Q E h => ?_) (fun cdv A outer s H vs Q E hr h => ?_)
  · obtain ⟨M, p, dx, oa, qa, H0, L, S, O, t, ts, S', O', rfl, _⟩ := h
    rfl
  · obtain ⟨M, p, dx, oa, qa, H0, L, S, O, t, ts, S', O', rfl, hM, R, step, k⟩ := h
    refine ⟨_, (pss_cons (ps_set (i := 1) sc_Reader__read_opening.nd rfl (.inl rfl) (pe_fld (pv 0) rfl))
      (pss_cons (ps_expr (pe_meth0 (pv 0) TR.cl m_Reader_pass g_Reader_pass (hr.mono (by omega)) b_Reader_pass .nil pass0))
      (pss_one (ps_if (pt_cmpR op_eq (pv 1) pe_str (nomark _)) (pss_cons (ps_expr (pe_bm PySem.F.plainAttrs_list PySem.F.slot_list_append PySem.F.type_list_append mt_append (pe_fld (pv 0) rfl) (pa_cons (pe_tup (pa_cons pe_str pa_nil)) pa_nil)))
      (pss_one (ps_expr (pe_meth0 (pv 0) TR.cl m_Reader_read_binders g_Reader_read_binders (hr.mono (by omega)) b_Reader_read_binders .nil pass0)))) (pss_one (ps_expr (pe_bm PySem.F.plainAttrs_list PySem.F.slot_list_append PySem.F.type_list_append mt_append (pe_fld (pv 0) rfl) (pa_cons (pe_ix (show IxR _ (rIxD K w) from ix_kdict) (pe_glob rfl TR.m_PREFIXES (show RelV (.ref _) _ from rfl)) (pv 1) (fun _ _ => rfl)) pa_nil)))))))), ?_⟩
    obtain ⟨a, gp, tk⟩ := R.obj
    have good := R.good t List.mem_cons_self
    refine ⟨.ref p, rfl, p, RC, dx, _, .str (sL (tx t)), rfl, gp, TR.cl, TR.nK, rfl, ?_⟩
    refine ⟨.ref p, rfl, p, dx, _, rfl, gp, rfl, M, p, dx, oa, qa, H0, L, S, O, t, _, rfl, R, fun H1 R1 _ _ _ => ?_⟩
    obtain ⟨a1, gp1, tk1⟩ := R1.obj
    obtain ⟨as, hq, ha⟩ := R1.pend
    have al : as.length ≤ 60000 := by
      have := ha.len
      have := R1.fit
      omega
    have sl : ((as.map V.ref).reverse).length < sizeLine := Nat.lt_of_le_of_lt (by rw [List.length_reverse, List.length_map]; exact al) (show 60000 < sizeLine by decide)
    have m1 : M - 1 + 1 ≤ M := by have := R.fit; simp only [List.length_cons] at this; omega
    rcases step with ⟨rfl, run⟩ | ⟨kd, n, rfl, hk, run⟩
    · refine ⟨.str (sL (tx .lp)), rfl, rfl, _, rfl, ?_⟩
      refine (if_pos (decide_eq_true lp_eq)).mpr ?_
      refine ⟨.ref p, rfl, p, RC, dx, _, .ref qa, rfl, gp1, TR.cl, TR.nP, rfl, .inl ⟨rfl, _, SqL.of hq⟩, by show 1 ≤ sizeLine; decide, fun x hx => ?_⟩
      have s2 := Same.new (o := .tup [.str "("]) hx
      have R2 := R1.ext s2
      have hq2 := s2 _ _ hq
      have R3 := (R2.pushP (s := .lp) hq2 (SqT.of upd_same) trivial).mono m1
      refine ⟨qa, _, _, rfl, rfl, hq2, sl, ?_⟩
      generalize upd (upd H1 x (.tup [.str "("])) qa (.lst ((as.map V.ref).reverse ++ [.ref x])) = H3 at R3
      obtain ⟨a3, gp3, tk3⟩ := R3.obj
      exact ⟨.ref p, rfl, p, dx, _, rfl, gp3, rfl, M, p, dx, oa, qa, H0, L, _, O, ts, S', O', rfl, hM, R3, run, fun H4 S4 ts4 R4 run4 le4 => k H4 S4 ts4 R4 run4 le4⟩
    · refine ⟨.str (sL (tx (.pr kd n))), rfl, rfl, _, rfl, ?_⟩
      refine (if_neg (by rw [decide_eq_false (pr_ne good)]; exact Bool.false_ne_true)).mpr ?_
      obtain ⟨b, kb, sb⟩ := TR.g_PREFIXES kd n good
      refine ⟨.ref p, rfl, p, RC, dx, _, .ref qa, rfl, gp1, TR.cl, TR.nP, rfl, .inl ⟨rfl, _, SqL.of hq⟩, .str (sL (tx (.pr kd n))), rfl, PF, _, _, rfl, rfl, kb, qa, _, _, rfl, rfl, hq, sl, ?_⟩
      have R3 := (R1.pushP (s := .pr kd n) hq (sb _) hk).mono m1
      exact k _ _ ts R3 run (Nat.le_refl _)
end
end Fw

set_option maxRecDepth 100000
set_option maxHeartbeats 8000000
namespace Fw
open PySem PySem.Spec PyProof.Rows L2
theorem sL_ne {l : List Nat} {c : Nat} {z : Str} (hz : z = sL [c]) (h : l ≠ [c]) : V.str (sL l) ≠ V.str z := by
  intro e
  rw [hz] at e
  injection e with e
  injection e with e
  have := congrArg Array.toList e
  exact h (by simpa using this)
theorem par_l : (Str.ofString "(") = sL [40] := by decide +kernel
theorem par_r : (Str.ofString ")") = sL [41] := by decide +kernel
section
variable {P : Program} {w : World} {K : PySem.W.Frag} {mg : Str → Option Value} {base : Heap} {C J B NC FE OD SG BW ST TK RC BK PF AT JW : Addr} {tS tD : Tok}
theorem RSt.pushO {M : Nat} {H0 G : Hp} {p dx oa qa : Addr} {x : V} {L : List Nat} {g : F} {S : List Pd} {O : List F} {ts : List Tk} {xs : List V} (R : RSt K RC M H0 G p dx oa qa L S O ts)
    (ho : G oa = some (.lst xs)) (hx : IsF K G x g) : RSt K RC (M + 1) H0 (upd G oa (.lst (xs ++ [x]))) p dx oa qa L S (g :: O) ts := by
  obtain ⟨a, gp, tk⟩ := R.obj
  obtain ⟨vs, ho2, hv'⟩ := R.ops
  obtain ⟨as, hq, ha⟩ := R.pend
  rw [ho] at ho2
  obtain rfl : xs = vs.reverse := by injection ho2 with e; injection e
  have ik : IKp G (upd G oa (.lst (vs.reverse ++ [x]))) := IKp.lk (LKp.upd ho)
  exact ⟨fun b u e => by rw [upd_ne (ne_of_none e R.n0.2.1)]; exact R.same b u e, R.n0, R.ne, ⟨a, by rw [upd_ne R.ne.1]; exact gp, tk⟩, ⟨x :: vs, by rw [upd_same, List.reverse_cons], .cons (hx.ik ik) (hv'.ik ik)⟩, ⟨as, by rw [upd_ne R.ne.2.2.symm]; exact hq, ha.ik ik⟩, R.sz, R.good, by have := R.fit; simp only [List.length_cons]; omega⟩
def spOper (K : PySem.W.Frag) (RC : Addr) : Sp := fun vs H Q _ => ∃ (M : Nat) (p dx oa qa : Addr) (H0 : Hp) (L : List Nat) (S : List Pd) (O : List F) (ts : List Tk) (S' : List Pd) (O' : List F), vs = [.ref p] ∧ M ≤ 60000 ∧ RSt K RC M H0 H p dx oa qa L S O ts ∧ Run ⟨.E, S, O, ts⟩ ⟨.A, S', O', []⟩ ∧
  (∀ H' S1 O1 ts1, RSt K RC M H0 H' p dx oa qa L S1 O1 ts1 → Run ⟨.E, S1, O1, ts1⟩ ⟨.A, S', O', []⟩ → ts1.length < ts.length → Q (.bl true) H') ∧
  (∀ H', RSt K RC M H0 H' p dx oa qa L S' O' [] → Q (.bl false) H')
theorem ok_read_operand {f fo fj fp fc fs ff : Addr} {fd fdo fdj fdp fdc fds fdf : FuncData} (FF : Fun K "_read_operand" "Reader._read_operand" s_Reader__read_operand f fd) (T : Txt K mg C J B) (TR : TxtW K mg w SG BW ST tS TK tD RC BK PF AT JW)
    (m_Reader_read_opening : Meth K RC "_read_opening" fo) (g_Reader_read_opening : FnOk P w K mg base CX0 6 fo fdo a_Reader__read_opening (spOpen K RC)) (b_Reader_read_opening : Binds K fdo a_Reader__read_opening [])
    (m_Reader_join : Meth K RC "_join" fj) (g_Reader_join : FnOk P w K mg base CX0 1 fj fdj a_Reader__join (spJoinR K RC)) (b_Reader_join : Binds K fdj a_Reader__join [])
    (m_Reader_pass : Meth K RC "_pass" fp) (g_Reader_pass : FnOk P w K mg base CX0 4 fp fdp a_Reader__pass (spPass K RC)) (b_Reader_pass : Binds K fdp a_Reader__pass [])
    (m_Reader_close : Meth K RC "_close" fc) (g_Reader_close : FnOk P w K mg base CX0 5 fc fdc a_Reader__close (spClose K RC)) (b_Reader_close : Binds K fdc a_Reader__close [])
    (m_Reader_read_sign : Meth K RC "_read_sign" fs) (g_Reader_read_sign : FnOk P w K mg base CX0 5 fs fds a_Reader__read_sign (spSign K RC)) (b_Reader_read_sign : Binds K fds a_Reader__read_sign [])
    (m_Reader_fail : Meth K RC "_fail" ff) (g_Reader_fail : FnOk P w K mg base CX0 1 ff fdf a_Reader__fail (fun _ _ _ _ => False)) (b_Reader_fail : Binds K fdf a_Reader__fail []) : FnOk P w K mg base CX0 7 f fd a_Reader__read_operand (spOper K RC) := by
  refine FF.ok sc_Reader__read_operand (fun vs H Q E h => ?_) (fun cdv A outer s H vs Q E hr h => ?_)
  · obtain ⟨M, p, dx, oa, qa, H0, L, S, O, ts, S', O', rfl, _⟩ := h
    rfl
  · obtain ⟨M, p, dx, oa, qa, H0, L, S, O, ts, S', O', rfl, hM, R, run, kT', kF'⟩ := h
    obtain ⟨es1, n1, kd_PREFIXES⟩ := TR.k_PREFIXES
    obtain ⟨es2, n2, kd_ATOMS⟩ := TR.k_ATOMS
    refine ⟨_, (pss_cons (ps_while PassesOwn.never (PW.pt (pw_or (pt_cmpR (op_in_kd kd_PREFIXES) (pe_fld (pv 0) rfl) (pe_glob rfl TR.m_PREFIXES (show RelV (.ref _) _ from rfl)) (by rfl)) (pw_or1 (pt_cmpR op_eq (pe_fld (pv 0) rfl) pe_str (nomark _))))) (pss_one (ps_expr (pe_meth0 (pv 0) TR.cl m_Reader_read_opening g_Reader_read_opening (hr.mono (by omega)) b_Reader_read_opening .nil pass0))))
      (pss_cons (ps_if (pt_cmpR (op_in_kd kd_ATOMS) (pe_fld (pv 0) rfl) (pe_glob rfl TR.m_ATOMS (show RelV (.ref _) _ from rfl)) (by rfl)) (pss_one (ps_expr (pe_bm PySem.F.plainAttrs_list PySem.F.slot_list_append PySem.F.type_list_append mt_append (pe_fld (pv 0) rfl) (pa_cons (pe_ix (show IxR _ (rIxD K w) from ix_kdict) (pe_glob rfl TR.m_ATOMS (show RelV (.ref _) _ from rfl)) (pe_fld (pv 0) rfl) (fun _ _ => rfl)) pa_nil)))) (pss_one (ps_if (pt_val (pe_m1 PySem.F.slot_str_startswith PySem.F.type_str_startswith mt_startswith (pe_fld (pv 0) rfl) pe_str)) (pss_one (ps_expr (pe_bm PySem.F.plainAttrs_list PySem.F.slot_list_append PySem.F.type_list_append mt_append (pe_fld (pv 0) rfl) (pa_cons (pe_tup (pa_cons pe_str (pa_cons (pe_callTy call_int_str rfl T.z_int (by decide +kernel) (pa_cons (pe_slice sl_str (pe_fld (pv 0) rfl) (po_some pe_int) po_none) pa_nil)) pa_nil))) pa_nil)))) (pss_one (ps_expr (pe_meth0 (pv 0) TR.cl m_Reader_fail g_Reader_fail (hr.mono (by omega)) b_Reader_fail .nil pass0))))))
      (pss_cons (ps_expr (pe_meth0 (pv 0) TR.cl m_Reader_pass g_Reader_pass (hr.mono (by omega)) b_Reader_pass .nil pass0))
      (pss_cons (ps_expr (pe_meth (pv 0) TR.cl m_Reader_join g_Reader_join (hr.mono (by omega)) b_Reader_join .nil pass0 (pa_cons (pe_glob rfl TR.m_STRONGEST (show RelV (.int 3) _ from ⟨_, rfl⟩)) pa_nil)))
      (pss_cons (ps_while PassesOwn.never (pt_cmpR op_eq (pe_fld (pv 0) rfl) pe_str (nomark _)) (pss_one (ps_expr (pe_meth0 (pv 0) TR.cl m_Reader_close g_Reader_close (hr.mono (by omega)) b_Reader_close .nil pass0))))
      (pss_one (ps_ret (pe_meth0 (pv 0) TR.cl m_Reader_read_sign g_Reader_read_sign (hr.mono (by omega)) b_Reader_read_sign .nil pass0)))))))), ?_⟩
    refine ⟨fun m σ G => ∃ (S1 : List Pd) (ts1 : List Tk), σ = [some (.ref p)] ∧ RSt K RC M H0 G p dx oa qa L S1 O ts1 ∧ Run ⟨.E, S1, O, ts1⟩ ⟨.A, S', O', []⟩ ∧ ts1.length ≤ ts.length ∧ m = ts1.length, ⟨_, S, ts, rfl, R, run, Nat.le_refl _, rfl⟩, ?_⟩
    clear R run
    rintro m σ G ⟨S1, ts1, rfl, R, run, le, rfl⟩
    obtain ⟨a, gp, tk⟩ := R.obj
    obtain ⟨vs, ho, hv'⟩ := R.ops
    have ol : vs.reverse.length < sizeLine := Nat.lt_of_le_of_lt (by rw [List.length_reverse, hv'.len]; have := R.fit; omega) (show 60000 < sizeLine by decide)
    obtain ⟨r0, e0, b0⟩ := TR.i_PREFIXES ts1 R.good
    obtain ⟨r1, e1, b1⟩ := TR.i_ATOMS ts1 R.good
    refine ⟨.ref p, rfl, p, RC, dx, _, .str (sL (hdT ts1)), rfl, gp, TR.cl, TR.nK, rfl, _, r0, rfl, rfl, e0, _, rfl, ?_⟩
    rw [b0]
    rcases runE run with ⟨kd, n, r, rfl, hk, run2⟩ | ⟨r, rfl, run2⟩ | ⟨b, r, S3, O3, rfl, j, run3⟩ | ⟨kd, n, r, S3, O3, rfl, j, run3⟩
    · refine iteT (iteT ⟨_, fun σ' H' z => z, ?_⟩)
      exact ⟨.ref p, rfl, p, dx, _, rfl, gp, rfl, M, p, dx, oa, qa, H0, L, S1, O, .pr kd n, r, S', O', rfl, hM, R, .inr ⟨kd, n, rfl, hk, run2⟩, fun H2 S2 ts2 R2 run4 le2 => ⟨ts2.length, by simp only [List.length_cons]; omega, S2, ts2, rfl, R2, run4, by simp only [List.length_cons] at le; omega, rfl⟩⟩
    · refine iteF ⟨.ref p, rfl, p, RC, dx, _, .str (sL (tx .lp)), rfl, gp, TR.cl, TR.nK, rfl, rfl, _, rfl, ?_⟩
      refine (if_pos (decide_eq_true lp_eq)).mpr ⟨_, fun σ' H' z => z, ?_⟩
      exact ⟨.ref p, rfl, p, dx, _, rfl, gp, rfl, M, p, dx, oa, qa, H0, L, S1, O, .lp, r, S', O', rfl, hM, R, .inl ⟨rfl, run2⟩, fun H2 S2 ts2 R2 run4 le2 => ⟨ts2.length, by simp only [List.length_cons]; omega, S2, ts2, rfl, R2, run4, by simp only [List.length_cons] at le; omega, rfl⟩⟩
    · refine iteF ⟨.ref p, rfl, p, RC, dx, _, .str (sL (tx (.nl b))), rfl, gp, TR.cl, TR.nK, rfl, rfl, _, rfl, ?_⟩
      refine (if_neg (by rw [decide_eq_false (sL_ne par_l (by cases b <;> simp [tx]))]; exact Bool.false_ne_true)).mpr ?_
      refine ⟨.ref p, rfl, p, RC, dx, _, .str (sL (tx (.nl b))), rfl, gp, TR.cl, TR.nK, rfl, _, r1, rfl, rfl, e1, _, rfl, ?_⟩
      rw [b1]
      refine iteT ?_
      obtain ⟨x, kb, sb⟩ := TR.g_NUL b
      refine ⟨.ref p, rfl, p, RC, dx, _, .ref oa, rfl, gp, TR.cl, TR.nO, rfl, .inl ⟨rfl, _, SqL.of ho⟩, .ref p, rfl, p, RC, dx, _, .str (sL (tx (.nl b))), rfl, gp, TR.cl, TR.nK, rfl, AT, _, _, rfl, rfl, kb, oa, _, _, rfl, rfl, ho, ol, ?_⟩
      have R2 := R.pushO ho (IsF.nul (sb _))
      generalize upd G oa (.lst (vs.reverse ++ [.ref x])) = G2 at R2
      obtain ⟨a2, gp2, tk2⟩ := R2.obj
      refine ⟨.ref p, rfl, p, dx, _, rfl, gp2, rfl, M + 1, p, dx, oa, qa, H0, L, _, _, _, _, rfl, R2, fun H3 R3 _ _ _ => ?_⟩
      obtain ⟨a3, gp3, tk3⟩ := R3.obj
      refine ⟨.ref p, rfl, p, dx, _, rfl, gp3, rfl, M, p, dx, oa, qa, H0, L, _, _, _, 3, S3, O3, rfl, hM, R3, j, fun H4 R4 => ?_⟩
      refine ⟨fun m σ G => ∃ (S1 : List Pd) (O1 : List F) (ts1 : List Tk), σ = [some (.ref p)] ∧ RSt K RC M H0 G p dx oa qa L S1 O1 ts1 ∧ Run ⟨.A, S1, O1, ts1⟩ ⟨.A, S', O', []⟩ ∧ ts1.length < ts.length ∧ m = ts1.length, ⟨_, S3, O3, r, rfl, R4, run3, by simp only [List.length_cons] at le; omega, rfl⟩, ?_⟩
      clear R4 R3 R2 gp2 gp3 tk2 tk3
      rintro m σ G5 ⟨S5, O5, ts5, rfl, R5, run5, lt5, rfl⟩
      obtain ⟨a5, gp5, tk5⟩ := R5.obj
      refine ⟨.ref p, rfl, p, RC, dx, _, .str (sL (hdT ts5)), rfl, gp5, TR.cl, TR.nK, rfl, rfl, _, rfl, ?_⟩
      rcases runA run5 with ⟨rfl, rfl, rfl⟩ | ⟨r', Sa, Oa, Sb, Ob, rfl, j0, j3, run6⟩ | ⟨b, r', Sa, Oa, rfl, j6, run6⟩
      · refine (if_neg (by rw [decide_eq_false (sL_ne par_r (by simp [hdT]))]; exact Bool.false_ne_true)).mpr ?_
        exact ⟨.ref p, rfl, p, dx, _, rfl, gp5, rfl, M, p, dx, oa, qa, H0, L, _, _, _, _, _, rfl, hM, R5, run5, (fun r e => by cases e), fun H6 S6 O6 ts6 R6 run6 lt6 => kT' H6 S6 O6 ts6 R6 run6 (by omega), fun H6 R6 => kF' H6 R6⟩
      · refine (if_pos (decide_eq_true (congrArg V.str par_r.symm))).mpr ⟨_, fun σ' H' z => z, ?_⟩
        refine ⟨.ref p, rfl, p, dx, _, rfl, gp5, rfl, M, p, dx, oa, qa, H0, L, S5, O5, r', Sa, Sb, Oa, Ob, rfl, hM, R5, j0, j3, fun H6 R6 => ?_⟩
        exact ⟨r'.length, by simp only [List.length_cons]; omega, Sb, Ob, r', rfl, R6.mono (by omega), run6, by simp only [List.length_cons] at lt5; omega, rfl⟩
      · refine (if_neg (by rw [decide_eq_false (sL_ne par_r (by cases b <;> simp [hdT, tx]))]; exact Bool.false_ne_true)).mpr ?_
        exact ⟨.ref p, rfl, p, dx, _, rfl, gp5, rfl, M, p, dx, oa, qa, H0, L, _, _, _, _, _, rfl, hM, R5, run5, (fun r e => by cases e), fun H6 S6 O6 ts6 R6 run6 lt6 => kT' H6 S6 O6 ts6 R6 run6 (by omega), fun H6 R6 => kF' H6 R6⟩
    · have good := R.good (.lf kd n) List.mem_cons_self
      refine iteF ⟨.ref p, rfl, p, RC, dx, _, .str (sL (tx (.lf kd n))), rfl, gp, TR.cl, TR.nK, rfl, rfl, _, rfl, ?_⟩
      refine (if_neg (by rw [decide_eq_false (sL_ne par_l (by cases kd <;> simp [tx]))]; exact Bool.false_ne_true)).mpr ?_
      refine ⟨.ref p, rfl, p, RC, dx, _, .str (sL (tx (.lf kd n))), rfl, gp, TR.cl, TR.nK, rfl, _, r1, rfl, rfl, e1, _, rfl, ?_⟩
      rw [b1]
      by_cases hv : kd = .var
      · subst hv
        have okn : n ∈ V4 := good.ok
        refine iteF ?_
        refine ⟨.ref p, rfl, p, RC, dx, _, .str (sL (tx (.lf .var n))), rfl, gp, TR.cl, TR.nK, rfl, ⟨_, rfl⟩, _, _, rfl, rfl, true, congrArg V.bl (sw_x okn), iteT ?_⟩
        refine ⟨.ref p, rfl, p, RC, dx, _, .ref oa, rfl, gp, TR.cl, TR.nO, rfl, .inl ⟨rfl, _, SqL.of ho⟩, .ref p, rfl, p, RC, dx, _, .str (sL (tx (.lf .var n))), rfl, gp, TR.cl, TR.nK, rfl, 1, rfl, _, rfl, big_line (by rw [sL_len]; have := txl (.lf .var n); omega), _, n, rfl, by rw [cut_x okn]; exact int_x okn, by rw [cut_x okn, sL_len]; simp, by show 2 ≤ sizeLine; decide, fun x hx => ?_⟩
        have s2 := Same.new (o := .tup [.str "var", .int n]) hx
        have ho2 := s2 _ _ ho
        refine ⟨oa, _, _, rfl, rfl, ho2, ol, ?_⟩
        have R2 := (R.ext s2).pushO (x := .ref x) (g := .leaf .var n) ho2 (IsF.leaf (SqT.of upd_same))
        generalize upd (upd G x (.tup [.str "var", .int n])) oa (.lst (vs.reverse ++ [.ref x])) = G2 at R2
        obtain ⟨a2, gp2, tk2⟩ := R2.obj
        refine ⟨.ref p, rfl, p, dx, _, rfl, gp2, rfl, M + 1, p, dx, oa, qa, H0, L, _, _, _, _, rfl, R2, fun H3 R3 _ _ _ => ?_⟩
        obtain ⟨a3, gp3, tk3⟩ := R3.obj
        refine ⟨.ref p, rfl, p, dx, _, rfl, gp3, rfl, M, p, dx, oa, qa, H0, L, _, _, _, 3, S3, O3, rfl, hM, R3, j, fun H4 R4 => ?_⟩
        refine ⟨fun m σ G => ∃ (S1 : List Pd) (O1 : List F) (ts1 : List Tk), σ = [some (.ref p)] ∧ RSt K RC M H0 G p dx oa qa L S1 O1 ts1 ∧ Run ⟨.A, S1, O1, ts1⟩ ⟨.A, S', O', []⟩ ∧ ts1.length < ts.length ∧ m = ts1.length, ⟨_, S3, O3, r, rfl, R4, run3, by simp only [List.length_cons] at le; omega, rfl⟩, ?_⟩
        clear R4 R3 R2 gp2 gp3 tk2 tk3
        rintro m σ G5 ⟨S5, O5, ts5, rfl, R5, run5, lt5, rfl⟩
        obtain ⟨a5, gp5, tk5⟩ := R5.obj
        refine ⟨.ref p, rfl, p, RC, dx, _, .str (sL (hdT ts5)), rfl, gp5, TR.cl, TR.nK, rfl, rfl, _, rfl, ?_⟩
        rcases runA run5 with ⟨rfl, rfl, rfl⟩ | ⟨r', Sa, Oa, Sb, Ob, rfl, j0, j3, run6⟩ | ⟨b, r', Sa, Oa, rfl, j6, run6⟩
        · refine (if_neg (by rw [decide_eq_false (sL_ne par_r (by simp [hdT]))]; exact Bool.false_ne_true)).mpr ?_
          exact ⟨.ref p, rfl, p, dx, _, rfl, gp5, rfl, M, p, dx, oa, qa, H0, L, _, _, _, _, _, rfl, hM, R5, run5, (fun r e => by cases e), fun H6 S6 O6 ts6 R6 run6 lt6 => kT' H6 S6 O6 ts6 R6 run6 (by omega), fun H6 R6 => kF' H6 R6⟩
        · refine (if_pos (decide_eq_true (congrArg V.str par_r.symm))).mpr ⟨_, fun σ' H' z => z, ?_⟩
          refine ⟨.ref p, rfl, p, dx, _, rfl, gp5, rfl, M, p, dx, oa, qa, H0, L, S5, O5, r', Sa, Sb, Oa, Ob, rfl, hM, R5, j0, j3, fun H6 R6 => ?_⟩
          exact ⟨r'.length, by simp only [List.length_cons]; omega, Sb, Ob, r', rfl, R6.mono (by omega), run6, by simp only [List.length_cons] at lt5; omega, rfl⟩
        · refine (if_neg (by rw [decide_eq_false (sL_ne par_r (by cases b <;> simp [hdT, tx]))]; exact Bool.false_ne_true)).mpr ?_
          exact ⟨.ref p, rfl, p, dx, _, rfl, gp5, rfl, M, p, dx, oa, qa, H0, L, _, _, _, _, _, rfl, hM, R5, run5, (fun r e => by cases e), fun H6 S6 O6 ts6 R6 run6 lt6 => kT' H6 S6 O6 ts6 R6 run6 (by omega), fun H6 R6 => kF' H6 R6⟩
      · rw [show isAtT (.lf kd n :: r) = true by cases kd <;> first | rfl | exact absurd rfl hv]
        refine iteT ?_
        obtain ⟨x, kb, sb⟩ := TR.g_FACT kd n hv good
        refine ⟨.ref p, rfl, p, RC, dx, _, .ref oa, rfl, gp, TR.cl, TR.nO, rfl, .inl ⟨rfl, _, SqL.of ho⟩, .ref p, rfl, p, RC, dx, _, .str (sL (tx (.lf kd n))), rfl, gp, TR.cl, TR.nK, rfl, AT, _, _, rfl, rfl, kb, oa, _, _, rfl, rfl, ho, ol, ?_⟩
        have R2 := R.pushO ho (IsF.leaf (sb _))
        generalize upd G oa (.lst (vs.reverse ++ [.ref x])) = G2 at R2
        obtain ⟨a2, gp2, tk2⟩ := R2.obj
        refine ⟨.ref p, rfl, p, dx, _, rfl, gp2, rfl, M + 1, p, dx, oa, qa, H0, L, _, _, _, _, rfl, R2, fun H3 R3 _ _ _ => ?_⟩
        obtain ⟨a3, gp3, tk3⟩ := R3.obj
        refine ⟨.ref p, rfl, p, dx, _, rfl, gp3, rfl, M, p, dx, oa, qa, H0, L, _, _, _, 3, S3, O3, rfl, hM, R3, j, fun H4 R4 => ?_⟩
        refine ⟨fun m σ G => ∃ (S1 : List Pd) (O1 : List F) (ts1 : List Tk), σ = [some (.ref p)] ∧ RSt K RC M H0 G p dx oa qa L S1 O1 ts1 ∧ Run ⟨.A, S1, O1, ts1⟩ ⟨.A, S', O', []⟩ ∧ ts1.length < ts.length ∧ m = ts1.length, ⟨_, S3, O3, r, rfl, R4, run3, by simp only [List.length_cons] at le; omega, rfl⟩, ?_⟩
        clear R4 R3 R2 gp2 gp3 tk2 tk3
        rintro m σ G5 ⟨S5, O5, ts5, rfl, R5, run5, lt5, rfl⟩
        obtain ⟨a5, gp5, tk5⟩ := R5.obj
        refine ⟨.ref p, rfl, p, RC, dx, _, .str (sL (hdT ts5)), rfl, gp5, TR.cl, TR.nK, rfl, rfl, _, rfl, ?_⟩
        rcases runA run5 with ⟨rfl, rfl, rfl⟩ | ⟨r', Sa, Oa, Sb, Ob, rfl, j0, j3, run6⟩ | ⟨b, r', Sa, Oa, rfl, j6, run6⟩
        · refine (if_neg (by rw [decide_eq_false (sL_ne par_r (by simp [hdT]))]; exact Bool.false_ne_true)).mpr ?_
          exact ⟨.ref p, rfl, p, dx, _, rfl, gp5, rfl, M, p, dx, oa, qa, H0, L, _, _, _, _, _, rfl, hM, R5, run5, (fun r e => by cases e), fun H6 S6 O6 ts6 R6 run6 lt6 => kT' H6 S6 O6 ts6 R6 run6 (by omega), fun H6 R6 => kF' H6 R6⟩
        · refine (if_pos (decide_eq_true (congrArg V.str par_r.symm))).mpr ⟨_, fun σ' H' z => z, ?_⟩
          refine ⟨.ref p, rfl, p, dx, _, rfl, gp5, rfl, M, p, dx, oa, qa, H0, L, S5, O5, r', Sa, Sb, Oa, Ob, rfl, hM, R5, j0, j3, fun H6 R6 => ?_⟩
          exact ⟨r'.length, by simp only [List.length_cons]; omega, Sb, Ob, r', rfl, R6.mono (by omega), run6, by simp only [List.length_cons] at lt5; omega, rfl⟩
        · refine (if_neg (by rw [decide_eq_false (sL_ne par_r (by cases b <;> simp [hdT, tx]))]; exact Bool.false_ne_true)).mpr ?_
          exact ⟨.ref p, rfl, p, dx, _, rfl, gp5, rfl, M, p, dx, oa, qa, H0, L, _, _, _, _, _, rfl, hM, R5, run5, (fun r e => by cases e), fun H6 S6 O6 ts6 R6 run6 lt6 => kT' H6 S6 O6 ts6 R6 run6 (by omega), fun H6 R6 => kF' H6 R6⟩
end
end Fw

set_option maxRecDepth 100000
set_option maxHeartbeats 8000000
namespace Fw
open PySem PySem.Spec PyProof.Rows L2
section
variable {P : Program} {w : World} {K : PySem.W.Frag} {mg : Str → Option Value} {base : Heap} {C J B NC FE OD SG BW ST TK RC BK PF AT JW : Addr} {tS tD : Tok}
def spStmt (K : PySem.W.Frag) (RC : Addr) : Sp := fun vs H Q _ => ∃ (M : Nat) (p dx oa qa : Addr) (H0 : Hp) (L : List Nat) (ts : List Tk) (S' : List Pd) (O' : List F) (t : F), vs = [.ref p] ∧ M ≤ 60000 ∧ RSt K RC M H0 H p dx oa qa L [] [] ts ∧ Run ⟨.B, [], [], ts⟩ ⟨.A, S', O', []⟩ ∧ joinP 0 S' O' = some ([], [t]) ∧
  ∀ v H', Same H0 H' → IsF K H' v t → Q v H'
theorem ok_statement {f fb fo fj ff : Addr} {fd fdb fdo fdj fdf : FuncData} (FF : Fun K "statement" "Reader.statement" s_Reader_statement f fd) (T : Txt K mg C J B) (TR : TxtW K mg w SG BW ST tS TK tD RC BK PF AT JW)
    (m_Reader_read_binders : Meth K RC "_read_binders" fb) (g_Reader_read_binders : FnOk P w K mg base CX0 5 fb fdb a_Reader__read_binders (spBind K RC)) (b_Reader_read_binders : Binds K fdb a_Reader__read_binders [])
    (m_Reader_read_operand : Meth K RC "_read_operand" fo) (g_Reader_read_operand : FnOk P w K mg base CX0 7 fo fdo a_Reader__read_operand (spOper K RC)) (b_Reader_read_operand : Binds K fdo a_Reader__read_operand [])
    (m_Reader_join : Meth K RC "_join" fj) (g_Reader_join : FnOk P w K mg base CX0 1 fj fdj a_Reader__join (spJoinR K RC)) (b_Reader_join : Binds K fdj a_Reader__join [])
    (m_Reader_fail : Meth K RC "_fail" ff) (g_Reader_fail : FnOk P w K mg base CX0 1 ff fdf a_Reader__fail (fun _ _ _ _ => False)) (b_Reader_fail : Binds K fdf a_Reader__fail []) : FnOk P w K mg base CX0 8 f fd a_Reader_statement (spStmt K RC) := by
  refine FF.ok sc_Reader_statement (fun vs H Q E h => ?_) (fun cdv A outer s H vs Q E hr h => ?_)
  · obtain ⟨M, p, dx, oa, qa, H0, L, ts, S', O', t, rfl, _⟩ := h
    rfl
  · obtain ⟨M, p, dx, oa, qa, H0, L, ts, S', O', t, rfl, hM, R, run, j, k⟩ := h
    refine ⟨_, (pss_cons (ps_expr (pe_meth0 (pv 0) TR.cl m_Reader_read_binders g_Reader_read_binders (hr.mono (by omega)) b_Reader_read_binders .nil pass0))
      (pss_cons (ps_while PassesOwn.never (pt_val (pe_meth0 (pv 0) TR.cl m_Reader_read_operand g_Reader_read_operand (hr.mono (by omega)) b_Reader_read_operand .nil pass0)) (pss_one ps_pass))
      (pss_cons (ps_expr (pe_meth (pv 0) TR.cl m_Reader_join g_Reader_join (hr.mono (by omega)) b_Reader_join .nil pass0 (pa_cons pe_int pa_nil)))
      (pss_cons (ps_if (PW.pt (pw_or (pt_cmpR op_lt (pe_fld (pv 0) rfl) (pe_callB call_len_str rfl T.z_len (by decide +kernel) (pa_cons (pe_fld (pv 0) rfl) pa_nil)) (nomark _)) (pw_or1 (pt_truth (pe_fld (pv 0) rfl) (by intro _; rfl))))) (pss_one (ps_expr (pe_meth0 (pv 0) TR.cl m_Reader_fail g_Reader_fail (hr.mono (by omega)) b_Reader_fail .nil pass0))) pss_nil)
      (pss_one (ps_ret (pe_ix ix_list (pe_fld (pv 0) rfl) pe_int (fun _ _ => rfl)))))))), ?_⟩
    obtain ⟨a, gp, tk⟩ := R.obj
    refine ⟨.ref p, rfl, p, dx, _, rfl, gp, rfl, M, p, dx, oa, qa, H0, L, [], [], ts, S', O', rfl, hM, R, run, fun H1 S1 ts1 R1 run1 _ => ?_⟩
    refine ⟨fun m σ G => ∃ (S1 : List Pd) (O1 : List F) (ts1 : List Tk), σ = [some (.ref p)] ∧ RSt K RC M H0 G p dx oa qa L S1 O1 ts1 ∧ Run ⟨.E, S1, O1, ts1⟩ ⟨.A, S', O', []⟩ ∧ m = ts1.length, ⟨_, S1, [], ts1, rfl, R1, run1, rfl⟩, ?_⟩
    clear R1 run1 R gp tk
    rintro m σ G ⟨S1, O1, ts1, rfl, R, run1, rfl⟩
    obtain ⟨a, gp, tk⟩ := R.obj
    refine ⟨.ref p, rfl, p, dx, _, rfl, gp, rfl, M, p, dx, oa, qa, H0, L, S1, O1, ts1, S', O', rfl, hM, R, run1, fun H2 S2 O2 ts2 R2 run2 lt => ⟨true, rfl, iteT ⟨_, fun σ' H' z => z, ⟨ts2.length, lt, S2, O2, ts2, rfl, R2, run2, rfl⟩⟩⟩, fun H2 R2 => ⟨false, rfl, iteF ?_⟩⟩
    obtain ⟨a2, gp2, tk2⟩ := R2.obj
    refine ⟨.ref p, rfl, p, dx, _, rfl, gp2, rfl, M, p, dx, oa, qa, H0, L, S', O', [], 0, [], [t], rfl, hM, R2, j, fun H3 R3 => ?_⟩
    obtain ⟨a3, gp3, al3, re3⟩ := R3.obj
    obtain ⟨as, hq, ha⟩ := R3.pend
    obtain ⟨vs, ho, hv'⟩ := R3.ops
    cases ha
    have e3 : a3 = L.length := by
      have := congrArg List.length (show L.drop a3 = [] from re3)
      rw [List.length_drop] at this
      have : L.length - a3 = 0 := this
      omega
    refine ⟨.ref p, rfl, p, RC, dx, _, .int (a3 : Nat), rfl, gp3, TR.cl, TR.nA, rfl, .ref p, rfl, p, RC, dx, _, .str (sL L), rfl, gp3, TR.cl, TR.nT, rfl, _, rfl, big_line (by rw [sL_len]; exact R3.sz), _, _, rfl, rfl, _, rfl, ?_⟩
    rw [sL_len]
    refine (if_neg (by rw [decide_eq_false (by omega)]; exact Bool.false_ne_true)).mpr ?_
    refine ⟨.ref p, rfl, p, RC, dx, _, .ref qa, rfl, gp3, TR.cl, TR.nP, rfl, false, .inl ⟨_, SqL.of hq, rfl⟩, iteF ?_⟩
    cases hv' with
    | cons hx hn =>
    cases hn
    rename_i v
    exact ⟨.ref p, rfl, p, RC, dx, _, .ref oa, rfl, gp3, TR.cl, TR.nO, rfl, oa, _, 0, v, rfl, rfl, SqL.of ho, rfl, k v H3 R3.same hx⟩
def spInit (K : PySem.W.Frag) (RC : Addr) : Sp := fun vs H Q _ => ∃ (p dx : Addr) (H0 : Hp) (L : List Nat) (ts : List Tk), vs = [.ref p, .str (sL L), .int 2] ∧ H p = some (.ins RC dx []) ∧ H0 p = none ∧ Same H0 H ∧ L.length ≤ 100000 ∧ Laid ts L ∧ (∀ t ∈ ts, TkGood t) ∧
  ∀ H' oa qa, RSt K RC ts.length H0 H' p dx oa qa L [] [] ts → Q .non H'
theorem ok_Reader_init {f fv : Addr} {fd fdv : FuncData} (FF : Fun K "__init__" "Reader.__init__" s_Reader_init f fd) (T : Txt K mg C J B) (TR : TxtRd K RC)
    (m_Reader_advance : Meth K RC "_advance" fv) (g_Reader_advance : FnOk P w K mg base CX0 3 fv fdv a_Reader__advance (spAdv RC)) (b_Reader_advance : Binds K fdv a_Reader__advance []) : FnOk P w K mg base CX0 4 f fd a_Reader_init (spInit K RC) := by
  refine FF.ok sc_Reader_init (fun vs H Q E h => ?_) (fun cdv A outer s H vs Q E hr h => ?_)
  · obtain ⟨p, dx, H0, L, ts, rfl, _⟩ := h
    rfl
  · obtain ⟨p, dx, H0, L, ts, rfl, hp, n0, s0, hL, laid, good, k⟩ := h
    refine ⟨_, (pss_cons (ps_fld (pv 0) (pv 1) rfl)
      (pss_cons (ps_fld (pv 0) (pv 2) rfl)
      (pss_cons (ps_fld (pv 0) pe_int rfl)
      (pss_cons (ps_fld (pv 0) pe_str rfl)
      (pss_cons (ps_fld (pv 0) (pe_lst pa_nil) rfl)
      (pss_cons (ps_fld (pv 0) (pe_lst pa_nil) rfl)
      (pss_one (ps_expr (pe_meth (pv 0) TR.cl m_Reader_advance g_Reader_advance (hr.mono (by omega)) b_Reader_advance .nil pass0 (pa_cons pe_int pa_nil)))))))))), ?_⟩
    have e0 : V.str (Str.ofString "") = V.str (sL []) := congrArg V.str (by decide +kernel)
    refine ⟨_, rfl, .ref p, rfl, p, RC, dx, [], rfl, hp, TR.cl, TR.nT, by show 0 < 1000; decide, ?_⟩
    refine ⟨_, rfl, .ref p, rfl, p, RC, dx, _, rfl, upd_same, TR.cl, TR.nM, by show 1 < 1000; decide, ?_⟩
    refine ⟨.ref p, rfl, p, RC, dx, _, rfl, upd_same, TR.cl, TR.nA, by show 2 < 1000; decide, ?_⟩
    refine ⟨.ref p, rfl, p, RC, dx, _, rfl, upd_same, TR.cl, TR.nK, by show 3 < 1000; decide, ?_⟩
    have on3 : Only p H (upd (upd (upd (upd H p (.ins RC dx (putF "text" (V.str (sL L)) []))) p (.ins RC dx (putF "most_digits" (V.int 2) (putF "text" (V.str (sL L)) [])))) p (.ins RC dx (putF "at" (V.int 0) (putF "most_digits" (V.int 2) (putF "text" (V.str (sL L)) []))))) p (.ins RC dx (putF "token" (V.str (Str.ofString "")) (putF "at" (V.int 0) (putF "most_digits" (V.int 2) (putF "text" (V.str (sL L)) [])))))) := Only.upd (Only.upd (Only.upd (Only.upd (fun _ _ => rfl))))
    have g3 : (upd (upd (upd (upd H p (.ins RC dx (putF "text" (V.str (sL L)) []))) p (.ins RC dx (putF "most_digits" (V.int 2) (putF "text" (V.str (sL L)) [])))) p (.ins RC dx (putF "at" (V.int 0) (putF "most_digits" (V.int 2) (putF "text" (V.str (sL L)) []))))) p (.ins RC dx (putF "token" (V.str (Str.ofString "")) (putF "at" (V.int 0) (putF "most_digits" (V.int 2) (putF "text" (V.str (sL L)) [])))))) p = some (.ins RC dx [("text", V.str (sL L)), ("most_digits", .int 2), ("at", .int 0), ("token", .str (Str.ofString ""))]) := by rw [upd_same]; rfl
    generalize upd (upd (upd (upd H p (.ins RC dx (putF "text" (V.str (sL L)) []))) p (.ins RC dx (putF "most_digits" (V.int 2) (putF "text" (V.str (sL L)) [])))) p (.ins RC dx (putF "at" (V.int 0) (putF "most_digits" (V.int 2) (putF "text" (V.str (sL L)) []))))) p (.ins RC dx (putF "token" (V.str (Str.ofString "")) (putF "at" (V.int 0) (putF "most_digits" (V.int 2) (putF "text" (V.str (sL L)) []))))) = G3 at on3 g3
    have s3 : Same H0 G3 := only_same s0 n0 on3
    refine ⟨Nat.zero_le _, fun oa hoa => ?_⟩
    have s4 := Same.new (o := .lst []) hoa
    have o4 : (upd G3 oa (.lst [])) oa = some (.lst []) := upd_same
    have g4 := s4 _ _ g3
    have n1 : H0 oa = none := s3.free hoa
    have po : p ≠ oa := ne_of_none g3 hoa
    have s04 := s3.trans s4
    generalize upd G3 oa (.lst []) = G4 at s4 o4 g4 s04
    refine ⟨.ref p, rfl, p, RC, dx, _, rfl, g4, TR.cl, TR.nO, by show 4 < 1000; decide, ?_⟩
    have on5 : Only p G4 (upd G4 p (.ins RC dx (putF "operands" (V.ref oa) [("text", V.str (sL L)), ("most_digits", .int 2), ("at", .int 0), ("token", .str (Str.ofString ""))]))) := Only.upd (fun _ _ => rfl)
    have g5 : (upd G4 p (.ins RC dx (putF "operands" (V.ref oa) [("text", V.str (sL L)), ("most_digits", .int 2), ("at", .int 0), ("token", .str (Str.ofString ""))]))) p = some (.ins RC dx [("text", V.str (sL L)), ("most_digits", .int 2), ("at", .int 0), ("token", .str (Str.ofString "")), ("operands", .ref oa)]) := by rw [upd_same]; rfl
    generalize upd G4 p (.ins RC dx (putF "operands" (V.ref oa) [("text", V.str (sL L)), ("most_digits", .int 2), ("at", .int 0), ("token", .str (Str.ofString ""))])) = G5 at on5 g5
    have s05 := only_same s04 n0 on5
    have o5 : G5 oa = some (.lst []) := by rw [on5 _ po.symm]; exact o4
    refine ⟨Nat.zero_le _, fun qa hqa => ?_⟩
    have s6 := Same.new (o := .lst []) hqa
    have q6 : (upd G5 qa (.lst [])) qa = some (.lst []) := upd_same
    have g6 := s6 _ _ g5
    have o6 := s6 _ _ o5
    have n2 : H0 qa = none := s05.free hqa
    have pq : p ≠ qa := ne_of_none g5 hqa
    have oq : oa ≠ qa := ne_of_none o5 hqa
    have s06 := s05.trans s6
    generalize upd G5 qa (.lst []) = G6 at s6 q6 g6 o6 s06
    refine ⟨.ref p, rfl, p, RC, dx, _, rfl, g6, TR.cl, TR.nP, by show 5 < 1000; decide, ?_⟩
    have on7 : Only p G6 (upd G6 p (.ins RC dx (putF "pending" (V.ref qa) [("text", V.str (sL L)), ("most_digits", .int 2), ("at", .int 0), ("token", .str (Str.ofString "")), ("operands", .ref oa)]))) := Only.upd (fun _ _ => rfl)
    have g7 : (upd G6 p (.ins RC dx (putF "pending" (V.ref qa) [("text", V.str (sL L)), ("most_digits", .int 2), ("at", .int 0), ("token", .str (Str.ofString "")), ("operands", .ref oa)]))) p = some (.ins RC dx (rf L 0 [] oa qa)) := by
      rw [upd_same]
      show some (HO.ins RC dx [_, _, _, ("token", V.str (Str.ofString "")), _, _]) = _
      rw [e0]
      rfl
    generalize upd G6 p (.ins RC dx (putF "pending" (V.ref qa) [("text", V.str (sL L)), ("most_digits", .int 2), ("at", .int 0), ("token", .str (Str.ofString "")), ("operands", .ref oa)])) = G7 at on7 g7
    refine ⟨.ref p, rfl, p, dx, _, rfl, g7, rfl, p, dx, oa, qa, L, [], 0, 0, ts, rfl, g7, hL, Nat.zero_le _, laid, good, fun a' H' on tk gp' => ?_⟩
    have on8 : Only p G6 H' := fun b n => by rw [on b n, on7 b n]
    exact k H' oa qa ⟨only_same s06 n0 on8, ⟨n0, n1, n2⟩, ⟨po, pq, oq⟩, ⟨a', gp', tk⟩, ⟨[], by rw [on8 _ po.symm]; exact o6, .nil⟩, ⟨[], by rw [on8 _ pq.symm]; exact q6, .nil⟩, hL, good, by simp⟩
def spParse (K : PySem.W.Frag) : Sp := fun vs H Q _ => ∃ (L : List Nat) (t : F), vs = [.str (sL L)] ∧ L.length ≤ 100000 ∧ Ok t ∧ t.size ≤ 1000 ∧ Laid (toks (body t)) L ∧ ∀ v H', Same H H' → IsF K H' v t → Q v H'
end
end Fw

set_option maxRecDepth 100000
set_option maxHeartbeats 8000000
namespace Fw
open PySem PySem.Spec PyProof.Rows L2
theorem toks_len : ∀ t : F, (toks (body t)).length + 2 ≤ 20 * t.size := by
  intro t
  have : ∀ l : Its, (toks l).length ≤ (flat l).length := by
    intro l
    induction l with
    | nil => exact Nat.le_refl _
    | cons o l ih =>
      cases o with
      | none =>
        show (toks l).length ≤ (32 :: flat l).length
        rw [List.length_cons]
        omega
      | some u =>
        show (u :: toks l).length ≤ (tx u ++ flat l).length
        have := List.length_pos_iff.mpr (tx_ne u)
        rw [List.length_cons, List.length_append]
        omega
  have h1 := this (body t)
  have h2 := flat_len t
  omega
section
variable {P : Program} {w : World} {K : PySem.W.Frag} {mg : Str → Option Value} {base : Heap} {C J B NC FE OD SG BW ST TK RC BK PF AT JW : Addr} {tS tD : Tok}
theorem ok_parse_statement {f fs : Addr} {fd fds : FuncData} (FF : Fun K "parse_statement" "parse_statement" s_parse_statement f fd) (T : Txt K mg C J B) (TR : TxtW K mg w SG BW ST tS TK tD RC BK PF AT JW)
    (h_Reader : HasC P w K mg base "Reader" RC 4 a_Reader_init (spInit K RC)) (m_Reader_statement : Meth K RC "statement" fs) (g_Reader_statement : FnOk P w K mg base CX0 8 fs fds a_Reader_statement (spStmt K RC)) (b_Reader_statement : Binds K fds a_Reader_statement []) : FnOk P w K mg base CX0 9 f fd a_parse_statement (spParse K) := by
  refine FF.ok sc_parse_statement (fun vs H Q E h => ?_) (fun cdv A outer s H vs Q E hr h => ?_)
  · obtain ⟨L, t, rfl, _⟩ := h
    rfl
  · obtain ⟨L, t, rfl, hL, ok, hsz, laid, k⟩ := h
    refine ⟨_, (pss_one (ps_ret (pe_meth0 (pe_makeH h_Reader (hr.mono (by omega)) (pa_cons (pv 0) (pa_cons (pe_gi rfl TR.m_MOST) pa_nil))) TR.cl m_Reader_statement g_Reader_statement (hr.mono (by omega)) b_Reader_statement .nil pass0))), ?_⟩
    refine ⟨_, rfl, fun x dx hx hdx ne => ?_⟩
    have s1 : Same H (upd (upd H dx (.own x)) x (.ins RC dx [])) := fun b o e => by rw [upd_ne (ne_of_none e hx), upd_ne (ne_of_none e hdx)]; exact e
    obtain ⟨S', O', run, j⟩ := read_all t
    rw [wrap_zero] at run
    refine ⟨x, dx, H, L, toks (body t), rfl, upd_same, hx, s1, hL, laid, good_body t ok, fun H' oa qa R => ?_⟩
    obtain ⟨a, gp, tk⟩ := R.obj
    have tl := toks_len t
    exact ⟨rfl, x, dx, _, rfl, gp, rfl, (toks (body t)).length, x, dx, oa, qa, H, L, toks (body t), S', O', t, rfl, by omega, R, run, j, k⟩
def spLaw (K : PySem.W.Frag) : Sp := fun vs H Q _ => ∃ (a : Addr) (ns : List Int), vs = [.ref a] ∧ SqL K H a (ns.map V.int) ∧ ns.length ≤ 63 ∧ ∀ H', Q (.bl true) H'
theorem size_leT {t : F} {n : Nat} (h : t.depth ≤ n) (hn : n ≤ 9) : t.size ≤ 1000 := by
  have := F.size_depth t
  have : 2 ^ t.depth ≤ 2 ^ 9 := Nat.pow_le_pow_right (by decide) (Nat.le_trans h hn)
  omega
theorem ok_law {f : Addr} {fd : FuncData} (FF : Fun K "law" "law" s_law f fd) (T : Txt K mg C J B) (h_law_draws : Has P w K mg base "_law_draws" 1 a_law_draws (spDraws K)) (h_law_closed : Has P w K mg base "_law_closed" 8 a_law_closed (spClosed K 4))
    (h_format_statement : Has P w K mg base "format_statement" 4 a_format_statement (spFmt K)) (h_law_printed : Has P w K mg base "_law_printed" 21 a_law_printed (spPr K 20)) (h_law_spaced : Has P w K mg base "_law_spaced" 2 a_law_spaced spSpaced)
    (h_parse_statement : Has P w K mg base "parse_statement" 9 a_parse_statement (spParse K)) : FnOk P w K mg base CX0 22 f fd a_law (spLaw K) := by
  refine FF.ok sc_law (fun vs H Q E h => ?_) (fun cdv A outer s H vs Q E hr h => ?_)
  · obtain ⟨a, ns, rfl, _⟩ := h
    rfl
  · obtain ⟨a, ns, rfl, hS, hlen, k⟩ := h
    refine ⟨_, (pss_cons (ps_set (i := 1) sc_law.nd rfl (.inl rfl) (pe_callH h_law_draws (hr.mono (by omega)) (pa_cons (pv 0) (pa_cons pe_int pa_nil))))
      (pss_cons (ps_set (i := 2) sc_law.nd rfl (.inl rfl) (pe_callH h_law_closed (hr.mono (by omega)) (pa_cons (pv 1) (pa_cons pe_int pa_nil))))
      (pss_cons (ps_set (i := 3) sc_law.nd rfl (.inl rfl) (pe_callH h_format_statement (hr.mono (by omega)) (pa_cons (pv 2) pa_nil)))
      (pss_cons (ps_if (PW.pt (pw_or (pt_not (pt_val (pe_callB call_isi rfl T.z_isinstance (by decide +kernel) (pa_cons (pv 3) (pa_cons (pe_bltn (v := .ty "str") (u := .type "str") rfl T.z_str (by decide +kernel) rfl) pa_nil))))) (pw_or1 (pt_cmpR op_ne (pv 3) (pe_callH h_law_printed (hr.mono (by omega)) (pa_cons (pv 2) (pa_cons pe_int pa_nil))) (nomark _))))) (pss_one (ps_ret pe_bl)) pss_nil)
      (pss_one (ps_ret (pe_and (pe_cmpR (op_eqD hr.units) (pe_callH h_parse_statement (hr.mono (by omega)) (pa_cons (pv 3) pa_nil)) (pv 2) (nomark _)) (pe_one (pe_cmpR (op_eqD hr.units) (pe_callH h_parse_statement (hr.mono (by omega)) (pa_cons (pe_callH h_law_spaced (hr.mono (by omega)) (pa_cons (pv 1) (pa_cons (pv 3) pa_nil))) pa_nil)) (pv 2) (nomark _)))))))))), ?_⟩
    refine ⟨.ref a, rfl, a, ns, 400, rfl, hS, hlen, by decide, by decide, fun d H1 s1 hd0 d1 => ?_⟩
    refine ⟨.ref d, rfl, d, rfl, d1, by decide, fun v t H2 b2 d2 ht g => ?_⟩
    have hsz := size_leT g.dep (by decide)
    have dep : t.depth ≤ 5 := g.dep
    have fl := flat_len t
    refine ⟨v, rfl, v, t, rfl, ht, g.ok, hsz, fun H3 s3 => ?_⟩
    have ht3 := ht.same s3
    have d3 := d2.same s3
    refine ⟨.str (oT t), rfl, .str (oT t), .ty "str", .type "str", .type "str", true, rfl, .ty "str", .base (.str _), kit_ty (by decide +kernel), true, rfl, iteF ?_⟩
    refine ⟨.str (oT t), rfl, v, rfl, v, t, 0, rfl, ht3, g.ok, Nat.le_trans dep (by decide), hsz, fun H4 s4 => ⟨rfl, _, rfl, ?_⟩⟩
    have eT : pT t 0 = oT t := by unfold pT oT; rw [wrap_zero]
    rw [eT]
    refine (if_neg (by rw [decide_eq_true rfl]; exact Bool.false_ne_true)).mpr ?_
    have ht4 := ht3.same s4
    have d4 := d3.same s4
    refine ⟨.str (oT t), rfl, flat (body t), t, rfl, by omega, g.ok, hsz, laid_flat _, fun v5 H5 s5 is5 => ?_⟩
    have ht5 := ht4.same s5
    refine ⟨v, rfl, _, _, dp_F is5, dp_F ht5, dF_shaped (by omega), dF_shaped (by omega), ?_⟩
    rw [dF_same]
    refine ⟨true, rfl, iteT ?_⟩
    have ends := ends_body t g.ok
    refine ⟨.ref d, rfl, .str (oT t), rfl, d, flat (body t), rfl, d4.same s5, by omega, ends.1, ends.2, fun b l2 H6 b6 d6 va le6 => ?_⟩
    have ht6 := ht5.but (d4.same s5).lst b6
    refine ⟨_, t, rfl, le6, g.ok, hsz, Laid.sps b (laid_vary _ (fun u hu => (good_body t g.ok u hu).ok) va), fun v7 H7 s7 is7 => ?_⟩
    refine ⟨v, rfl, _, _, dp_F is7, dp_F (ht6.same s7), dF_shaped (by omega), dF_shaped (by omega), ?_⟩
    rw [dF_same]
    exact k _
end
end Fw

set_option maxRecDepth 100000
set_option maxHeartbeats 4000000
namespace Fw
open PySem PySem.Spec PyProof.Rows L2
theorem beq_sL (a b : List Nat) : (sL a == sL b) = (a == b) := by
  by_cases h : a = b
  · subst h
    rw [beq_self_eq_true, beq_self_eq_true]
  · rw [beq_eq_false_iff_ne.mpr h, beq_eq_false_iff_ne]
    intro e
    injection e with e
    have := congrArg Array.toList e
    exact h (by simpa using this)
/-- a written dict's entries: words and what stands at them -/
inductive KeysAre : List DictEntry → List (List Nat × Value) → Prop
  | nil : KeysAre [] []
  | cons {e : DictEntry} {es : List DictEntry} {w : List Nat} {v : Value} {ws : List (List Nat × Value)} (t : Tok) : e.key = .str (sL w) t → e.val = v → KeysAre es ws → KeysAre (e :: es) ((w, v) :: ws)
theorem KeysAre.find {es : List DictEntry} {ws : List (List Nat × Value)} (h : KeysAre es ws) (z : List Nat) : (es.find? fun e => e.key.isStr (sL z)).map (·.val) = (ws.find? fun p => p.1 == z).map (·.2) := by
  induction h with
  | nil => rfl
  | @cons e es w v ws t hk hv _ ih =>
    have q : e.key.isStr (sL z) = (w == z) := by rw [hk]; exact beq_sL w z
    rw [List.find?_cons, List.find?_cons]
    show Option.map _ (match e.key.isStr (sL z) with | true => _ | false => _) = Option.map _ (match w == z with | true => _ | false => _)
    rw [q]
    cases c : w == z with
    | true => show some e.val = some v; rw [hv]
    | false => exact ih
theorem KeysAre.noRef {es : List DictEntry} {ws : List (List Nat × Value)} (h : KeysAre es ws) : es.any (·.refKey) = false := by
  induction h with
  | nil => rfl
  | @cons e es w v ws t hk hv _ ih =>
    rw [List.any_cons, ih, Bool.or_false]
    unfold DictEntry.refKey
    rw [hk]
theorem nsIn_lit {K : PySem.W.Frag} {d : Addr} {es : Array DictEntry} {n : Nat} {sl : Array (Option Value)} {c : Value} {od : Option Addr} (l : K.lookup d = some ⟨c, od, .dict es n, sl⟩) {ws : List (List Nat × Value)} (h : KeysAre es.toList ws) (z : List Nat) :
    PySem.W.nsIn K d (sL z) = some ((ws.find? fun p => p.1 == z).map (·.2)) := by
  unfold PySem.W.nsIn
  rw [l]
  show (match es.toList.find? (fun e => e.key.isStr (sL z)) with | some e => some (some e.val) | none => if es.toList.any (fun e => e.refKey) then none else some none) = _
  rw [← h.find z, h.noRef]
  cases es.toList.find? (fun e => e.key.isStr (sL z)) <;> rfl
end Fw

set_option maxRecDepth 100000
set_option maxHeartbeats 4000000
namespace Fw
open PySem PySem.Spec PyProof.Rows L2
theorem pairK {K : PySem.W.Frag} {J : Addr} {d : Option Addr} {n : Nat} {sl : Array (Option Value)} {t1 t2 : Tok} {x y : Str} (l : K.lookup J = some ⟨.type "tuple", d, .seq #[.str x t1, .str y t2] n, sl⟩) (H : Hp) : SqT K H J [.str x, .str y] :=
  .inr ⟨_, #[.str x t1, .str y t2], n, l, rfl, rfl, by show 2 ≤ sizeLine; decide, .cons ⟨t1, rfl⟩ (.cons ⟨t2, rfl⟩ .nil)⟩
theorem oneK {K : PySem.W.Frag} {J : Addr} {d : Option Addr} {n : Nat} {sl : Array (Option Value)} {t1 : Tok} {x : Str} (l : K.lookup J = some ⟨.type "tuple", d, .seq #[.str x t1] n, sl⟩) (H : Hp) : SqT K H J [.str x] :=
  .inr ⟨_, #[.str x t1], n, l, rfl, rfl, by show 1 ≤ sizeLine; decide, .cons ⟨t1, rfl⟩ .nil⟩
theorem numK {K : PySem.W.Frag} {J : Addr} {d : Option Addr} {n : Nat} {sl : Array (Option Value)} {t1 t2 : Tok} {x : Str} {i : Int} (l : K.lookup J = some ⟨.type "tuple", d, .seq #[.str x t1, .int i t2] n, sl⟩) (H : Hp) : SqT K H J [.str x, .int i] :=
  .inr ⟨_, #[.str x t1, .int i t2], n, l, rfl, rfl, by show 2 ≤ sizeLine; decide, .cons ⟨t1, rfl⟩ (.cons ⟨t2, rfl⟩ .nil)⟩
def zH : Hd → List Nat
  | .nul b => if b = true then [116, 114, 117, 101] else [102, 97, 108, 115, 101]
  | .leaf .has _ => [104, 97, 115]
  | .leaf .lacks _ => [108, 97, 99, 107, 115]
  | .leaf .var _ => [118, 97, 114]
  | .two b => if b = true then [97, 110, 100] else [111, 114]
  | .one .some _ => [115, 111, 109, 101]
  | .one .all _ => [97, 108, 108]
  | .one .least _ => [108, 101, 97, 115, 116]
  | .one .most _ => [109, 111, 115, 116]
theorem hw_z : ∀ h : Hd, hw h = sL (zH h) := by
  intro h
  cases h with
  | nul b => cases b <;> (show wN _ = sL _; decide +kernel)
  | leaf k n =>
    cases k
    · exact (show wL .has = sL [104, 97, 115] by decide +kernel)
    · exact (show wL .lacks = sL [108, 97, 99, 107, 115] by decide +kernel)
    · exact (show wL .var = sL [118, 97, 114] by decide +kernel)
  | two b => cases b <;> (show wT _ = sL _; decide +kernel)
  | one k n =>
    cases k
    · exact (show wO .some = sL [115, 111, 109, 101] by decide +kernel)
    · exact (show wO .all = sL [97, 108, 108] by decide +kernel)
    · exact (show wO .least = sL [108, 101, 97, 115, 116] by decide +kernel)
    · exact (show wO .most = sL [109, 111, 115, 116] by decide +kernel)
theorem wT_z (b : Bool) : wT b = sL (if b = true then [97, 110, 100] else [111, 114]) := by cases b <;> decide +kernel
theorem toks_str : (TKS.map fun t => sL (tx t)) = (["true", "false", "mu", "nu", "&", "|", ".", "(", ")", "p0", "p1", "p2", "p3", "p4", "p5", "!p0", "!p1", "!p2", "!p3", "!p4", "!p5", "<0>", "<1>", "<2>", "[0]", "[1]", "[2]"] : List Str) := by decide +kernel
theorem three {n : Int} (h : 0 ≤ n ∧ n < 3) : n = 0 ∨ n = 1 ∨ n = 2 := by omega
theorem six {n : Int} (h : 0 ≤ n ∧ n < 6) : n = 0 ∨ n = 1 ∨ n = 2 ∨ n = 3 ∨ n = 4 ∨ n = 5 := by omega
theorem all_mk {P : Program} {w : World} {K : PySem.W.Frag} {h : Heap} {mg : Str → Option Value} {C_Reader : Addr}
    {C_Part : Addr}
    {fa f1 f2 f3 f4 f5 f6 f7 f8 f9 f10 f11 f12 f13 f14 f15 f16 f17 f18 f19 f20 f21 f22 f23 f24 f25 f26 f27 f28 f29 f30 : Addr}
    {od1 an1 od2 an2 od3 an3 od4 an4 od5 an5 od6 an6 od7 an7 od8 an8 od9 an9 od10 an10 od11 an11 od12 an12 od13 an13 od14 an14 od15 an15 od16 an16 od17 an17 od18 an18 od19 an19 od20 an20 od21 an21 od22 an22 od23 an23 od24 an24 od25 an25 od26 an26 od27 an27 od28 an28 od29 an29 od30 an30 : Option Addr} {sl1 sl2 sl3 sl4 sl5 sl6 sl7 sl8 sl9 sl10 sl11 sl12 sl13 sl14 sl15 sl16 sl17 sl18 sl19 sl20 sl21 sl22 sl23 sl24 sl25 sl26 sl27 sl28 sl29 sl30 : Array (Option Value)} {oc1 kV1 dc1 pm1 cd1 ct1 oc2 kV2 dc2 pm2 cd2 ct2 oc3 kV3 dc3 pm3 cd3 ct3 oc4 kV4 dc4 pm4 cd4 ct4 oc5 kV5 dc5 pm5 cd5 ct5 oc6 kV6 dc6 pm6 cd6 ct6 oc7 kV7 dc7 pm7 cd7 ct7 oc8 kV8 dc8 pm8 cd8 ct8 oc9 kV9 dc9 pm9 cd9 ct9 oc10 kV10 dc10 pm10 cd10 ct10 oc11 kV11 dc11 pm11 cd11 ct11 oc12 kV12 dc12 pm12 cd12 ct12 oc13 kV13 dc13 pm13 cd13 ct13 oc14 kV14 dc14 pm14 cd14 ct14 oc15 kV15 dc15 pm15 cd15 ct15 oc16 kV16 dc16 pm16 cd16 ct16 oc17 kV17 dc17 pm17 cd17 ct17 oc18 kV18 dc18 pm18 cd18 ct18 oc19 kV19 dc19 pm19 cd19 ct19 oc20 kV20 dc20 pm20 cd20 ct20 oc21 kV21 dc21 pm21 cd21 ct21 oc22 kV22 dc22 pm22 cd22 ct22 oc23 kV23 dc23 pm23 cd23 ct23 oc24 kV24 dc24 pm24 cd24 ct24 oc25 kV25 dc25 pm25 cd25 ct25 oc26 kV26 dc26 pm26 cd26 ct26 oc27 kV27 dc27 pm27 cd27 ct27 oc28 kV28 dc28 pm28 cd28 ct28 oc29 kV29 dc29 pm29 cd29 ct29 oc30 kV30 dc30 pm30 cd30 ct30 : Value}
    {J_JOINS : Addr} {dJ_JOINS : Option Addr} {nJ_JOINS : Nat} {sJ_JOINS : Array (Option Value)} {t_JOINS_0 t_JOINS_1 : Tok}
    {D_BINDER_WORDS : Addr} {eD_BINDER_WORDS : Array DictEntry} {nD_BINDER_WORDS : Nat}
    {t_BINDER_WORDS_0 : Tok}
    {t_BINDER_WORDS_1 : Tok}
    {D_BINDER_KINDS : Addr} {eD_BINDER_KINDS : Array DictEntry} {nD_BINDER_KINDS : Nat}
    {t_BINDER_KINDS_0 : Tok}
    {t_BINDER_KINDS_1 : Tok}
    {D_SIGNS : Addr} {eD_SIGNS : Array DictEntry} {nD_SIGNS : Nat}
    {t_SIGNS_0 : Tok}
    {t_SIGNS_1 : Tok}
    {D_JOIN_WORDS : Addr} {eD_JOIN_WORDS : Array DictEntry} {nD_JOIN_WORDS : Nat}
    {t_JOIN_WORDS_0 : Tok}
    {t_JOIN_WORDS_1 : Tok}
    {D_STRENGTHS : Addr} {eD_STRENGTHS : Array DictEntry} {nD_STRENGTHS : Nat}
    {t_STRENGTHS_0 : Tok}
    {t_STRENGTHS_1 : Tok}
    {t_STRENGTHS_2 : Tok}
    {t_STRENGTHS_3 : Tok}
    {t_STRONGEST : Tok}
    {t_DIGITS : Tok}
    {t_MOST_DIGITS : Tok}
    {J_TOKENS : Addr} {dJ_TOKENS : Option Addr} {nJ_TOKENS : Nat} {sJ_TOKENS : Array (Option Value)} {t_TOKENS_0 t_TOKENS_1 t_TOKENS_2 t_TOKENS_3 t_TOKENS_4 t_TOKENS_5 t_TOKENS_6 t_TOKENS_7 t_TOKENS_8 t_TOKENS_9 t_TOKENS_10 t_TOKENS_11 t_TOKENS_12 t_TOKENS_13 t_TOKENS_14 t_TOKENS_15 t_TOKENS_16 t_TOKENS_17 t_TOKENS_18 t_TOKENS_19 t_TOKENS_20 t_TOKENS_21 t_TOKENS_22 t_TOKENS_23 t_TOKENS_24 t_TOKENS_25 t_TOKENS_26 : Tok}
    {D_ATOMS : Addr} {eD_ATOMS : Array DictEntry} {nD_ATOMS : Nat}
    {r_ATOMS_0 : Addr} {d_ATOMS_0 : Option Addr} {n_ATOMS_0 : Nat} {s_ATOMS_0 : Array (Option Value)} {t_ATOMS_0_0 : Tok}
    {r_ATOMS_1 : Addr} {d_ATOMS_1 : Option Addr} {n_ATOMS_1 : Nat} {s_ATOMS_1 : Array (Option Value)} {t_ATOMS_1_0 : Tok}
    {r_ATOMS_2 : Addr} {d_ATOMS_2 : Option Addr} {n_ATOMS_2 : Nat} {s_ATOMS_2 : Array (Option Value)} {t_ATOMS_2_0 t_ATOMS_2_1 : Tok}
    {r_ATOMS_3 : Addr} {d_ATOMS_3 : Option Addr} {n_ATOMS_3 : Nat} {s_ATOMS_3 : Array (Option Value)} {t_ATOMS_3_0 t_ATOMS_3_1 : Tok}
    {r_ATOMS_4 : Addr} {d_ATOMS_4 : Option Addr} {n_ATOMS_4 : Nat} {s_ATOMS_4 : Array (Option Value)} {t_ATOMS_4_0 t_ATOMS_4_1 : Tok}
    {r_ATOMS_5 : Addr} {d_ATOMS_5 : Option Addr} {n_ATOMS_5 : Nat} {s_ATOMS_5 : Array (Option Value)} {t_ATOMS_5_0 t_ATOMS_5_1 : Tok}
    {r_ATOMS_6 : Addr} {d_ATOMS_6 : Option Addr} {n_ATOMS_6 : Nat} {s_ATOMS_6 : Array (Option Value)} {t_ATOMS_6_0 t_ATOMS_6_1 : Tok}
    {r_ATOMS_7 : Addr} {d_ATOMS_7 : Option Addr} {n_ATOMS_7 : Nat} {s_ATOMS_7 : Array (Option Value)} {t_ATOMS_7_0 t_ATOMS_7_1 : Tok}
    {r_ATOMS_8 : Addr} {d_ATOMS_8 : Option Addr} {n_ATOMS_8 : Nat} {s_ATOMS_8 : Array (Option Value)} {t_ATOMS_8_0 t_ATOMS_8_1 : Tok}
    {r_ATOMS_9 : Addr} {d_ATOMS_9 : Option Addr} {n_ATOMS_9 : Nat} {s_ATOMS_9 : Array (Option Value)} {t_ATOMS_9_0 t_ATOMS_9_1 : Tok}
    {r_ATOMS_10 : Addr} {d_ATOMS_10 : Option Addr} {n_ATOMS_10 : Nat} {s_ATOMS_10 : Array (Option Value)} {t_ATOMS_10_0 t_ATOMS_10_1 : Tok}
    {r_ATOMS_11 : Addr} {d_ATOMS_11 : Option Addr} {n_ATOMS_11 : Nat} {s_ATOMS_11 : Array (Option Value)} {t_ATOMS_11_0 t_ATOMS_11_1 : Tok}
    {r_ATOMS_12 : Addr} {d_ATOMS_12 : Option Addr} {n_ATOMS_12 : Nat} {s_ATOMS_12 : Array (Option Value)} {t_ATOMS_12_0 t_ATOMS_12_1 : Tok}
    {r_ATOMS_13 : Addr} {d_ATOMS_13 : Option Addr} {n_ATOMS_13 : Nat} {s_ATOMS_13 : Array (Option Value)} {t_ATOMS_13_0 t_ATOMS_13_1 : Tok}
    {D_PREFIXES : Addr} {eD_PREFIXES : Array DictEntry} {nD_PREFIXES : Nat}
    {r_PREFIXES_0 : Addr} {d_PREFIXES_0 : Option Addr} {n_PREFIXES_0 : Nat} {s_PREFIXES_0 : Array (Option Value)} {t_PREFIXES_0_0 t_PREFIXES_0_1 : Tok}
    {r_PREFIXES_1 : Addr} {d_PREFIXES_1 : Option Addr} {n_PREFIXES_1 : Nat} {s_PREFIXES_1 : Array (Option Value)} {t_PREFIXES_1_0 t_PREFIXES_1_1 : Tok}
    {r_PREFIXES_2 : Addr} {d_PREFIXES_2 : Option Addr} {n_PREFIXES_2 : Nat} {s_PREFIXES_2 : Array (Option Value)} {t_PREFIXES_2_0 t_PREFIXES_2_1 : Tok}
    {r_PREFIXES_3 : Addr} {d_PREFIXES_3 : Option Addr} {n_PREFIXES_3 : Nat} {s_PREFIXES_3 : Array (Option Value)} {t_PREFIXES_3_0 t_PREFIXES_3_1 : Tok}
    {r_PREFIXES_4 : Addr} {d_PREFIXES_4 : Option Addr} {n_PREFIXES_4 : Nat} {s_PREFIXES_4 : Array (Option Value)} {t_PREFIXES_4_0 t_PREFIXES_4_1 : Tok}
    {r_PREFIXES_5 : Addr} {d_PREFIXES_5 : Option Addr} {n_PREFIXES_5 : Nat} {s_PREFIXES_5 : Array (Option Value)} {t_PREFIXES_5_0 t_PREFIXES_5_1 : Tok}
    (X : K.In h) (G : h.Ns mainGlobals mg) (hfa : mg "law" = some (.ref fa))
    (aC_Part : PySem.W.nsIn K mainGlobals "Part" = some (some (.ref C_Part)))
    (aC_Reader : PySem.W.nsIn K mainGlobals "Reader" = some (some (.ref C_Reader)))
    (a1 : PySem.W.findIn K (.ref C_Part) "__init__" = some (some (.ref f1)))
    (i1 : PySem.W.isFn K (.ref f1) = true)
    (l1 : K.lookup f1 = some ⟨oc1, od1, .func (PySem.W.fnOf "__init__" "Part.__init__" (defArgs s_Part_init) (defBody s_Part_init) (defScope s_Part_init) .none kV1 dc1 pm1 an1 cd1 ct1), sl1⟩)
    (c1 : PySem.W.codeIn K cd1 "Part.__init__" = true)
    (k1 : PySem.W.keepIn K (.ref f1) = true)
    (a2 : PySem.W.nsIn K mainGlobals "head_of" = some (some (.ref f2)))
    (l2 : K.lookup f2 = some ⟨oc2, od2, .func (PySem.W.fnOf "head_of" "head_of" (defArgs s_head_of) (defBody s_head_of) (defScope s_head_of) .none kV2 dc2 pm2 an2 cd2 ct2), sl2⟩)
    (c2 : PySem.W.codeIn K cd2 "head_of" = true)
    (k2 : PySem.W.keepIn K (.ref f2) = true)
    (a3 : PySem.W.nsIn K mainGlobals "parts_of" = some (some (.ref f3)))
    (l3 : K.lookup f3 = some ⟨oc3, od3, .func (PySem.W.fnOf "parts_of" "parts_of" (defArgs s_parts_of) (defBody s_parts_of) (defScope s_parts_of) .none kV3 dc3 pm3 an3 cd3 ct3), sl3⟩)
    (c3 : PySem.W.codeIn K cd3 "parts_of" = true)
    (k3 : PySem.W.keepIn K (.ref f3) = true)
    (a4 : PySem.W.nsIn K mainGlobals "format_statement" = some (some (.ref f4)))
    (l4 : K.lookup f4 = some ⟨oc4, od4, .func (PySem.W.fnOf "format_statement" "format_statement" (defArgs s_format_statement) (defBody s_format_statement) (defScope s_format_statement) .none kV4 dc4 pm4 an4 cd4 ct4), sl4⟩)
    (c4 : PySem.W.codeIn K cd4 "format_statement" = true)
    (k4 : PySem.W.keepIn K (.ref f4) = true)
    (a5 : PySem.W.nsIn K mainGlobals "atom_text" = some (some (.ref f5)))
    (l5 : K.lookup f5 = some ⟨oc5, od5, .func (PySem.W.fnOf "atom_text" "atom_text" (defArgs s_atom_text) (defBody s_atom_text) (defScope s_atom_text) .none kV5 dc5 pm5 an5 cd5 ct5), sl5⟩)
    (c5 : PySem.W.codeIn K cd5 "atom_text" = true)
    (k5 : PySem.W.keepIn K (.ref f5) = true)
    (a6 : PySem.W.nsIn K mainGlobals "prefix_text" = some (some (.ref f6)))
    (l6 : K.lookup f6 = some ⟨oc6, od6, .func (PySem.W.fnOf "prefix_text" "prefix_text" (defArgs s_prefix_text) (defBody s_prefix_text) (defScope s_prefix_text) .none kV6 dc6 pm6 an6 cd6 ct6), sl6⟩)
    (c6 : PySem.W.codeIn K cd6 "prefix_text" = true)
    (k6 : PySem.W.keepIn K (.ref f6) = true)
    (a7 : PySem.W.nsIn K mainGlobals "join_text" = some (some (.ref f7)))
    (l7 : K.lookup f7 = some ⟨oc7, od7, .func (PySem.W.fnOf "join_text" "join_text" (defArgs s_join_text) (defBody s_join_text) (defScope s_join_text) .none kV7 dc7 pm7 an7 cd7 ct7), sl7⟩)
    (c7 : PySem.W.codeIn K cd7 "join_text" = true)
    (k7 : PySem.W.keepIn K (.ref f7) = true)
    (a8 : PySem.W.nsIn K mainGlobals "enclosed" = some (some (.ref f8)))
    (l8 : K.lookup f8 = some ⟨oc8, od8, .func (PySem.W.fnOf "enclosed" "enclosed" (defArgs s_enclosed) (defBody s_enclosed) (defScope s_enclosed) .none kV8 dc8 pm8 an8 cd8 ct8), sl8⟩)
    (c8 : PySem.W.codeIn K cd8 "enclosed" = true)
    (k8 : PySem.W.keepIn K (.ref f8) = true)
    (a9 : PySem.W.nsIn K mainGlobals "parse_statement" = some (some (.ref f9)))
    (l9 : K.lookup f9 = some ⟨oc9, od9, .func (PySem.W.fnOf "parse_statement" "parse_statement" (defArgs s_parse_statement) (defBody s_parse_statement) (defScope s_parse_statement) .none kV9 dc9 pm9 an9 cd9 ct9), sl9⟩)
    (c9 : PySem.W.codeIn K cd9 "parse_statement" = true)
    (k9 : PySem.W.keepIn K (.ref f9) = true)
    (a10 : PySem.W.nsIn K mainGlobals "token_at" = some (some (.ref f10)))
    (l10 : K.lookup f10 = some ⟨oc10, od10, .func (PySem.W.fnOf "token_at" "token_at" (defArgs s_token_at) (defBody s_token_at) (defScope s_token_at) .none kV10 dc10 pm10 an10 cd10 ct10), sl10⟩)
    (c10 : PySem.W.codeIn K cd10 "token_at" = true)
    (k10 : PySem.W.keepIn K (.ref f10) = true)
    (a11 : PySem.W.nsIn K mainGlobals "variable_at" = some (some (.ref f11)))
    (l11 : K.lookup f11 = some ⟨oc11, od11, .func (PySem.W.fnOf "variable_at" "variable_at" (defArgs s_variable_at) (defBody s_variable_at) (defScope s_variable_at) .none kV11 dc11 pm11 an11 cd11 ct11), sl11⟩)
    (c11 : PySem.W.codeIn K cd11 "variable_at" = true)
    (k11 : PySem.W.keepIn K (.ref f11) = true)
    (a12 : PySem.W.findIn K (.ref C_Reader) "__init__" = some (some (.ref f12)))
    (i12 : PySem.W.isFn K (.ref f12) = true)
    (l12 : K.lookup f12 = some ⟨oc12, od12, .func (PySem.W.fnOf "__init__" "Reader.__init__" (defArgs s_Reader_init) (defBody s_Reader_init) (defScope s_Reader_init) .none kV12 dc12 pm12 an12 cd12 ct12), sl12⟩)
    (c12 : PySem.W.codeIn K cd12 "Reader.__init__" = true)
    (k12 : PySem.W.keepIn K (.ref f12) = true)
    (a13 : PySem.W.findIn K (.ref C_Reader) "_advance" = some (some (.ref f13)))
    (i13 : PySem.W.isFn K (.ref f13) = true)
    (l13 : K.lookup f13 = some ⟨oc13, od13, .func (PySem.W.fnOf "_advance" "Reader._advance" (defArgs s_Reader__advance) (defBody s_Reader__advance) (defScope s_Reader__advance) .none kV13 dc13 pm13 an13 cd13 ct13), sl13⟩)
    (c13 : PySem.W.codeIn K cd13 "Reader._advance" = true)
    (k13 : PySem.W.keepIn K (.ref f13) = true)
    (a14 : PySem.W.findIn K (.ref C_Reader) "_pass" = some (some (.ref f14)))
    (i14 : PySem.W.isFn K (.ref f14) = true)
    (l14 : K.lookup f14 = some ⟨oc14, od14, .func (PySem.W.fnOf "_pass" "Reader._pass" (defArgs s_Reader__pass) (defBody s_Reader__pass) (defScope s_Reader__pass) .none kV14 dc14 pm14 an14 cd14 ct14), sl14⟩)
    (c14 : PySem.W.codeIn K cd14 "Reader._pass" = true)
    (k14 : PySem.W.keepIn K (.ref f14) = true)
    (a15 : PySem.W.findIn K (.ref C_Reader) "_fail" = some (some (.ref f15)))
    (i15 : PySem.W.isFn K (.ref f15) = true)
    (l15 : K.lookup f15 = some ⟨oc15, od15, .func (PySem.W.fnOf "_fail" "Reader._fail" (defArgs s_Reader__fail) (defBody s_Reader__fail) (defScope s_Reader__fail) .none kV15 dc15 pm15 an15 cd15 ct15), sl15⟩)
    (c15 : PySem.W.codeIn K cd15 "Reader._fail" = true)
    (k15 : PySem.W.keepIn K (.ref f15) = true)
    (a16 : PySem.W.findIn K (.ref C_Reader) "statement" = some (some (.ref f16)))
    (i16 : PySem.W.isFn K (.ref f16) = true)
    (l16 : K.lookup f16 = some ⟨oc16, od16, .func (PySem.W.fnOf "statement" "Reader.statement" (defArgs s_Reader_statement) (defBody s_Reader_statement) (defScope s_Reader_statement) .none kV16 dc16 pm16 an16 cd16 ct16), sl16⟩)
    (c16 : PySem.W.codeIn K cd16 "Reader.statement" = true)
    (k16 : PySem.W.keepIn K (.ref f16) = true)
    (a17 : PySem.W.findIn K (.ref C_Reader) "_read_binders" = some (some (.ref f17)))
    (i17 : PySem.W.isFn K (.ref f17) = true)
    (l17 : K.lookup f17 = some ⟨oc17, od17, .func (PySem.W.fnOf "_read_binders" "Reader._read_binders" (defArgs s_Reader__read_binders) (defBody s_Reader__read_binders) (defScope s_Reader__read_binders) .none kV17 dc17 pm17 an17 cd17 ct17), sl17⟩)
    (c17 : PySem.W.codeIn K cd17 "Reader._read_binders" = true)
    (k17 : PySem.W.keepIn K (.ref f17) = true)
    (a18 : PySem.W.findIn K (.ref C_Reader) "_read_operand" = some (some (.ref f18)))
    (i18 : PySem.W.isFn K (.ref f18) = true)
    (l18 : K.lookup f18 = some ⟨oc18, od18, .func (PySem.W.fnOf "_read_operand" "Reader._read_operand" (defArgs s_Reader__read_operand) (defBody s_Reader__read_operand) (defScope s_Reader__read_operand) .none kV18 dc18 pm18 an18 cd18 ct18), sl18⟩)
    (c18 : PySem.W.codeIn K cd18 "Reader._read_operand" = true)
    (k18 : PySem.W.keepIn K (.ref f18) = true)
    (a19 : PySem.W.findIn K (.ref C_Reader) "_read_opening" = some (some (.ref f19)))
    (i19 : PySem.W.isFn K (.ref f19) = true)
    (l19 : K.lookup f19 = some ⟨oc19, od19, .func (PySem.W.fnOf "_read_opening" "Reader._read_opening" (defArgs s_Reader__read_opening) (defBody s_Reader__read_opening) (defScope s_Reader__read_opening) .none kV19 dc19 pm19 an19 cd19 ct19), sl19⟩)
    (c19 : PySem.W.codeIn K cd19 "Reader._read_opening" = true)
    (k19 : PySem.W.keepIn K (.ref f19) = true)
    (a20 : PySem.W.findIn K (.ref C_Reader) "_close" = some (some (.ref f20)))
    (i20 : PySem.W.isFn K (.ref f20) = true)
    (l20 : K.lookup f20 = some ⟨oc20, od20, .func (PySem.W.fnOf "_close" "Reader._close" (defArgs s_Reader__close) (defBody s_Reader__close) (defScope s_Reader__close) .none kV20 dc20 pm20 an20 cd20 ct20), sl20⟩)
    (c20 : PySem.W.codeIn K cd20 "Reader._close" = true)
    (k20 : PySem.W.keepIn K (.ref f20) = true)
    (a21 : PySem.W.findIn K (.ref C_Reader) "_read_sign" = some (some (.ref f21)))
    (i21 : PySem.W.isFn K (.ref f21) = true)
    (l21 : K.lookup f21 = some ⟨oc21, od21, .func (PySem.W.fnOf "_read_sign" "Reader._read_sign" (defArgs s_Reader__read_sign) (defBody s_Reader__read_sign) (defScope s_Reader__read_sign) .none kV21 dc21 pm21 an21 cd21 ct21), sl21⟩)
    (c21 : PySem.W.codeIn K cd21 "Reader._read_sign" = true)
    (k21 : PySem.W.keepIn K (.ref f21) = true)
    (a22 : PySem.W.findIn K (.ref C_Reader) "_join" = some (some (.ref f22)))
    (i22 : PySem.W.isFn K (.ref f22) = true)
    (l22 : K.lookup f22 = some ⟨oc22, od22, .func (PySem.W.fnOf "_join" "Reader._join" (defArgs s_Reader__join) (defBody s_Reader__join) (defScope s_Reader__join) .none kV22 dc22 pm22 an22 cd22 ct22), sl22⟩)
    (c22 : PySem.W.codeIn K cd22 "Reader._join" = true)
    (k22 : PySem.W.keepIn K (.ref f22) = true)
    (a23 : PySem.W.nsIn K mainGlobals "_law_draws" = some (some (.ref f23)))
    (l23 : K.lookup f23 = some ⟨oc23, od23, .func (PySem.W.fnOf "_law_draws" "_law_draws" (defArgs s_law_draws) (defBody s_law_draws) (defScope s_law_draws) .none kV23 dc23 pm23 an23 cd23 ct23), sl23⟩)
    (c23 : PySem.W.codeIn K cd23 "_law_draws" = true)
    (k23 : PySem.W.keepIn K (.ref f23) = true)
    (a24 : PySem.W.nsIn K mainGlobals "_law_take" = some (some (.ref f24)))
    (l24 : K.lookup f24 = some ⟨oc24, od24, .func (PySem.W.fnOf "_law_take" "_law_take" (defArgs s_law_take) (defBody s_law_take) (defScope s_law_take) .none kV24 dc24 pm24 an24 cd24 ct24), sl24⟩)
    (c24 : PySem.W.codeIn K cd24 "_law_take" = true)
    (k24 : PySem.W.keepIn K (.ref f24) = true)
    (a25 : PySem.W.nsIn K mainGlobals "_law_atom" = some (some (.ref f25)))
    (l25 : K.lookup f25 = some ⟨oc25, od25, .func (PySem.W.fnOf "_law_atom" "_law_atom" (defArgs s_law_atom) (defBody s_law_atom) (defScope s_law_atom) .none kV25 dc25 pm25 an25 cd25 ct25), sl25⟩)
    (c25 : PySem.W.codeIn K cd25 "_law_atom" = true)
    (k25 : PySem.W.keepIn K (.ref f25) = true)
    (a26 : PySem.W.nsIn K mainGlobals "_law_statement" = some (some (.ref f26)))
    (l26 : K.lookup f26 = some ⟨oc26, od26, .func (PySem.W.fnOf "_law_statement" "_law_statement" (defArgs s_law_statement) (defBody s_law_statement) (defScope s_law_statement) .none kV26 dc26 pm26 an26 cd26 ct26), sl26⟩)
    (c26 : PySem.W.codeIn K cd26 "_law_statement" = true)
    (k26 : PySem.W.keepIn K (.ref f26) = true)
    (a27 : PySem.W.nsIn K mainGlobals "_law_closed" = some (some (.ref f27)))
    (l27 : K.lookup f27 = some ⟨oc27, od27, .func (PySem.W.fnOf "_law_closed" "_law_closed" (defArgs s_law_closed) (defBody s_law_closed) (defScope s_law_closed) .none kV27 dc27 pm27 an27 cd27 ct27), sl27⟩)
    (c27 : PySem.W.codeIn K cd27 "_law_closed" = true)
    (k27 : PySem.W.keepIn K (.ref f27) = true)
    (a28 : PySem.W.nsIn K mainGlobals "_law_printed" = some (some (.ref f28)))
    (l28 : K.lookup f28 = some ⟨oc28, od28, .func (PySem.W.fnOf "_law_printed" "_law_printed" (defArgs s_law_printed) (defBody s_law_printed) (defScope s_law_printed) .none kV28 dc28 pm28 an28 cd28 ct28), sl28⟩)
    (c28 : PySem.W.codeIn K cd28 "_law_printed" = true)
    (k28 : PySem.W.keepIn K (.ref f28) = true)
    (a29 : PySem.W.nsIn K mainGlobals "_law_spaced" = some (some (.ref f29)))
    (l29 : K.lookup f29 = some ⟨oc29, od29, .func (PySem.W.fnOf "_law_spaced" "_law_spaced" (defArgs s_law_spaced) (defBody s_law_spaced) (defScope s_law_spaced) .none kV29 dc29 pm29 an29 cd29 ct29), sl29⟩)
    (c29 : PySem.W.codeIn K cd29 "_law_spaced" = true)
    (k29 : PySem.W.keepIn K (.ref f29) = true)
    (a30 : PySem.W.nsIn K mainGlobals "law" = some (some (.ref f30)))
    (l30 : K.lookup f30 = some ⟨oc30, od30, .func (PySem.W.fnOf "law" "law" (defArgs s_law) (defBody s_law) (defScope s_law) .none kV30 dc30 pm30 an30 cd30 ct30), sl30⟩)
    (c30 : PySem.W.codeIn K cd30 "law" = true)
    (k30 : PySem.W.keepIn K (.ref f30) = true)
    (pg_Part : PySem.W.plainGet K C_Part Str.empty = true)
    (hd_Part : PySem.W.hasDictIn K C_Part = true)
    (po_Part : PySem.W.plainOver K C_Part = true)
    (sa_Part : PySem.W.findIn K (.ref C_Part) "__setattr__" = some (some (.builtin "object.__setattr__")))
    (mk_Part : PySem.W.makesIn K C_Part = true)
    (kc_Part : PySem.W.keepIn K (.ref C_Part) = true)
    (n_Part_head : PySem.W.findIn K (.ref C_Part) "head" = some none)
    (n_Part_around : PySem.W.findIn K (.ref C_Part) "around" = some none)
    (n_Part_inner : PySem.W.findIn K (.ref C_Part) "inner" = some none)
    (pg_Reader : PySem.W.plainGet K C_Reader Str.empty = true)
    (hd_Reader : PySem.W.hasDictIn K C_Reader = true)
    (po_Reader : PySem.W.plainOver K C_Reader = true)
    (sa_Reader : PySem.W.findIn K (.ref C_Reader) "__setattr__" = some (some (.builtin "object.__setattr__")))
    (mk_Reader : PySem.W.makesIn K C_Reader = true)
    (kc_Reader : PySem.W.keepIn K (.ref C_Reader) = true)
    (n_Reader_text : PySem.W.findIn K (.ref C_Reader) "text" = some none)
    (n_Reader_most_digits : PySem.W.findIn K (.ref C_Reader) "most_digits" = some none)
    (n_Reader_at : PySem.W.findIn K (.ref C_Reader) "at" = some none)
    (n_Reader_token : PySem.W.findIn K (.ref C_Reader) "token" = some none)
    (n_Reader_operands : PySem.W.findIn K (.ref C_Reader) "operands" = some none)
    (n_Reader_pending : PySem.W.findIn K (.ref C_Reader) "pending" = some none)
    (z_int : PySem.W.nsIn K mainGlobals "int" = some none)
    (z_isinstance : PySem.W.nsIn K mainGlobals "isinstance" = some none)
    (z_len : PySem.W.nsIn K mainGlobals "len" = some none)
    (z_list : PySem.W.nsIn K mainGlobals "list" = some none)
    (z_range : PySem.W.nsIn K mainGlobals "range" = some none)
    (z_reversed : PySem.W.nsIn K mainGlobals "reversed" = some none)
    (z_str : PySem.W.nsIn K mainGlobals "str" = some none)
    (aJ_JOINS : PySem.W.nsIn K mainGlobals "JOINS" = some (some (.ref J_JOINS)))
    (lJ_JOINS : K.lookup J_JOINS = some ⟨.type "tuple", dJ_JOINS, .seq #[.str "and" t_JOINS_0, .str "or" t_JOINS_1] nJ_JOINS, sJ_JOINS⟩)
    (aD_BINDER_WORDS : PySem.W.nsIn K mainGlobals "BINDER_WORDS" = some (some (.ref D_BINDER_WORDS)))
    (lD_BINDER_WORDS : K.lookup D_BINDER_WORDS = some ⟨.type "dict", none, .dict eD_BINDER_WORDS nD_BINDER_WORDS, #[]⟩)
    (kD_BINDER_WORDS : PySem.W.KeysLit w.params eD_BINDER_WORDS.toList)
    (oD_BINDER_WORDS : (D_BINDER_WORDS == sysModules) = false)
    (wD_BINDER_WORDS : KeysAre eD_BINDER_WORDS.toList [([108, 101, 97, 115, 116], .str "mu" t_BINDER_WORDS_0), ([109, 111, 115, 116], .str "nu" t_BINDER_WORDS_1)])
    (aD_BINDER_KINDS : PySem.W.nsIn K mainGlobals "BINDER_KINDS" = some (some (.ref D_BINDER_KINDS)))
    (lD_BINDER_KINDS : K.lookup D_BINDER_KINDS = some ⟨.type "dict", none, .dict eD_BINDER_KINDS nD_BINDER_KINDS, #[]⟩)
    (kD_BINDER_KINDS : PySem.W.KeysLit w.params eD_BINDER_KINDS.toList)
    (oD_BINDER_KINDS : (D_BINDER_KINDS == sysModules) = false)
    (wD_BINDER_KINDS : KeysAre eD_BINDER_KINDS.toList [([109, 117], .str "least" t_BINDER_KINDS_0), ([110, 117], .str "most" t_BINDER_KINDS_1)])
    (aD_SIGNS : PySem.W.nsIn K mainGlobals "SIGNS" = some (some (.ref D_SIGNS)))
    (lD_SIGNS : K.lookup D_SIGNS = some ⟨.type "dict", none, .dict eD_SIGNS nD_SIGNS, #[]⟩)
    (kD_SIGNS : PySem.W.KeysLit w.params eD_SIGNS.toList)
    (oD_SIGNS : (D_SIGNS == sysModules) = false)
    (wD_SIGNS : KeysAre eD_SIGNS.toList [([97, 110, 100], .str "&" t_SIGNS_0), ([111, 114], .str "|" t_SIGNS_1)])
    (aD_JOIN_WORDS : PySem.W.nsIn K mainGlobals "JOIN_WORDS" = some (some (.ref D_JOIN_WORDS)))
    (lD_JOIN_WORDS : K.lookup D_JOIN_WORDS = some ⟨.type "dict", none, .dict eD_JOIN_WORDS nD_JOIN_WORDS, #[]⟩)
    (kD_JOIN_WORDS : PySem.W.KeysLit w.params eD_JOIN_WORDS.toList)
    (oD_JOIN_WORDS : (D_JOIN_WORDS == sysModules) = false)
    (wD_JOIN_WORDS : KeysAre eD_JOIN_WORDS.toList [([38], .str "and" t_JOIN_WORDS_0), ([124], .str "or" t_JOIN_WORDS_1)])
    (aD_STRENGTHS : PySem.W.nsIn K mainGlobals "STRENGTHS" = some (some (.ref D_STRENGTHS)))
    (lD_STRENGTHS : K.lookup D_STRENGTHS = some ⟨.type "dict", none, .dict eD_STRENGTHS nD_STRENGTHS, #[]⟩)
    (kD_STRENGTHS : PySem.W.KeysLit w.params eD_STRENGTHS.toList)
    (oD_STRENGTHS : (D_STRENGTHS == sysModules) = false)
    (wD_STRENGTHS : KeysAre eD_STRENGTHS.toList [([108, 101, 97, 115, 116], .int 0 t_STRENGTHS_0), ([109, 111, 115, 116], .int 0 t_STRENGTHS_1), ([111, 114], .int 1 t_STRENGTHS_2), ([97, 110, 100], .int 2 t_STRENGTHS_3)])
    (aI_STRONGEST : PySem.W.nsIn K mainGlobals "STRONGEST" = some (some (.int 3 t_STRONGEST)))
    (aI_DIGITS : PySem.W.nsIn K mainGlobals "DIGITS" = some (some (.str "0123456789" t_DIGITS)))
    (aI_MOST_DIGITS : PySem.W.nsIn K mainGlobals "MOST_DIGITS" = some (some (.int 2 t_MOST_DIGITS)))
    (aJ_TOKENS : PySem.W.nsIn K mainGlobals "TOKENS" = some (some (.ref J_TOKENS)))
    (lJ_TOKENS : K.lookup J_TOKENS = some ⟨.type "tuple", dJ_TOKENS, .seq #[.str "true" t_TOKENS_0, .str "false" t_TOKENS_1, .str "mu" t_TOKENS_2, .str "nu" t_TOKENS_3, .str "&" t_TOKENS_4, .str "|" t_TOKENS_5, .str "." t_TOKENS_6, .str "(" t_TOKENS_7, .str ")" t_TOKENS_8, .str "p0" t_TOKENS_9, .str "p1" t_TOKENS_10, .str "p2" t_TOKENS_11, .str "p3" t_TOKENS_12, .str "p4" t_TOKENS_13, .str "p5" t_TOKENS_14, .str "!p0" t_TOKENS_15, .str "!p1" t_TOKENS_16, .str "!p2" t_TOKENS_17, .str "!p3" t_TOKENS_18, .str "!p4" t_TOKENS_19, .str "!p5" t_TOKENS_20, .str "<0>" t_TOKENS_21, .str "<1>" t_TOKENS_22, .str "<2>" t_TOKENS_23, .str "[0]" t_TOKENS_24, .str "[1]" t_TOKENS_25, .str "[2]" t_TOKENS_26] nJ_TOKENS, sJ_TOKENS⟩)
    (aD_ATOMS : PySem.W.nsIn K mainGlobals "ATOMS" = some (some (.ref D_ATOMS)))
    (lD_ATOMS : K.lookup D_ATOMS = some ⟨.type "dict", none, .dict eD_ATOMS nD_ATOMS, #[]⟩)
    (kD_ATOMS : PySem.W.KeysLit w.params eD_ATOMS.toList)
    (oD_ATOMS : (D_ATOMS == sysModules) = false)
    (wD_ATOMS : KeysAre eD_ATOMS.toList [([116, 114, 117, 101], .ref r_ATOMS_0), ([102, 97, 108, 115, 101], .ref r_ATOMS_1), ([112, 48], .ref r_ATOMS_2), ([112, 49], .ref r_ATOMS_3), ([112, 50], .ref r_ATOMS_4), ([112, 51], .ref r_ATOMS_5), ([112, 52], .ref r_ATOMS_6), ([112, 53], .ref r_ATOMS_7), ([33, 112, 48], .ref r_ATOMS_8), ([33, 112, 49], .ref r_ATOMS_9), ([33, 112, 50], .ref r_ATOMS_10), ([33, 112, 51], .ref r_ATOMS_11), ([33, 112, 52], .ref r_ATOMS_12), ([33, 112, 53], .ref r_ATOMS_13)])
    (lT_ATOMS_0 : K.lookup r_ATOMS_0 = some ⟨.type "tuple", d_ATOMS_0, .seq #[.str "true" t_ATOMS_0_0] n_ATOMS_0, s_ATOMS_0⟩)
    (lT_ATOMS_1 : K.lookup r_ATOMS_1 = some ⟨.type "tuple", d_ATOMS_1, .seq #[.str "false" t_ATOMS_1_0] n_ATOMS_1, s_ATOMS_1⟩)
    (lT_ATOMS_2 : K.lookup r_ATOMS_2 = some ⟨.type "tuple", d_ATOMS_2, .seq #[.str "has" t_ATOMS_2_0, .int 0 t_ATOMS_2_1] n_ATOMS_2, s_ATOMS_2⟩)
    (lT_ATOMS_3 : K.lookup r_ATOMS_3 = some ⟨.type "tuple", d_ATOMS_3, .seq #[.str "has" t_ATOMS_3_0, .int 1 t_ATOMS_3_1] n_ATOMS_3, s_ATOMS_3⟩)
    (lT_ATOMS_4 : K.lookup r_ATOMS_4 = some ⟨.type "tuple", d_ATOMS_4, .seq #[.str "has" t_ATOMS_4_0, .int 2 t_ATOMS_4_1] n_ATOMS_4, s_ATOMS_4⟩)
    (lT_ATOMS_5 : K.lookup r_ATOMS_5 = some ⟨.type "tuple", d_ATOMS_5, .seq #[.str "has" t_ATOMS_5_0, .int 3 t_ATOMS_5_1] n_ATOMS_5, s_ATOMS_5⟩)
    (lT_ATOMS_6 : K.lookup r_ATOMS_6 = some ⟨.type "tuple", d_ATOMS_6, .seq #[.str "has" t_ATOMS_6_0, .int 4 t_ATOMS_6_1] n_ATOMS_6, s_ATOMS_6⟩)
    (lT_ATOMS_7 : K.lookup r_ATOMS_7 = some ⟨.type "tuple", d_ATOMS_7, .seq #[.str "has" t_ATOMS_7_0, .int 5 t_ATOMS_7_1] n_ATOMS_7, s_ATOMS_7⟩)
    (lT_ATOMS_8 : K.lookup r_ATOMS_8 = some ⟨.type "tuple", d_ATOMS_8, .seq #[.str "lacks" t_ATOMS_8_0, .int 0 t_ATOMS_8_1] n_ATOMS_8, s_ATOMS_8⟩)
    (lT_ATOMS_9 : K.lookup r_ATOMS_9 = some ⟨.type "tuple", d_ATOMS_9, .seq #[.str "lacks" t_ATOMS_9_0, .int 1 t_ATOMS_9_1] n_ATOMS_9, s_ATOMS_9⟩)
    (lT_ATOMS_10 : K.lookup r_ATOMS_10 = some ⟨.type "tuple", d_ATOMS_10, .seq #[.str "lacks" t_ATOMS_10_0, .int 2 t_ATOMS_10_1] n_ATOMS_10, s_ATOMS_10⟩)
    (lT_ATOMS_11 : K.lookup r_ATOMS_11 = some ⟨.type "tuple", d_ATOMS_11, .seq #[.str "lacks" t_ATOMS_11_0, .int 3 t_ATOMS_11_1] n_ATOMS_11, s_ATOMS_11⟩)
    (lT_ATOMS_12 : K.lookup r_ATOMS_12 = some ⟨.type "tuple", d_ATOMS_12, .seq #[.str "lacks" t_ATOMS_12_0, .int 4 t_ATOMS_12_1] n_ATOMS_12, s_ATOMS_12⟩)
    (lT_ATOMS_13 : K.lookup r_ATOMS_13 = some ⟨.type "tuple", d_ATOMS_13, .seq #[.str "lacks" t_ATOMS_13_0, .int 5 t_ATOMS_13_1] n_ATOMS_13, s_ATOMS_13⟩)
    (aD_PREFIXES : PySem.W.nsIn K mainGlobals "PREFIXES" = some (some (.ref D_PREFIXES)))
    (lD_PREFIXES : K.lookup D_PREFIXES = some ⟨.type "dict", none, .dict eD_PREFIXES nD_PREFIXES, #[]⟩)
    (kD_PREFIXES : PySem.W.KeysLit w.params eD_PREFIXES.toList)
    (oD_PREFIXES : (D_PREFIXES == sysModules) = false)
    (wD_PREFIXES : KeysAre eD_PREFIXES.toList [([60, 48, 62], .ref r_PREFIXES_0), ([60, 49, 62], .ref r_PREFIXES_1), ([60, 50, 62], .ref r_PREFIXES_2), ([91, 48, 93], .ref r_PREFIXES_3), ([91, 49, 93], .ref r_PREFIXES_4), ([91, 50, 93], .ref r_PREFIXES_5)])
    (lT_PREFIXES_0 : K.lookup r_PREFIXES_0 = some ⟨.type "tuple", d_PREFIXES_0, .seq #[.str "some" t_PREFIXES_0_0, .int 0 t_PREFIXES_0_1] n_PREFIXES_0, s_PREFIXES_0⟩)
    (lT_PREFIXES_1 : K.lookup r_PREFIXES_1 = some ⟨.type "tuple", d_PREFIXES_1, .seq #[.str "some" t_PREFIXES_1_0, .int 1 t_PREFIXES_1_1] n_PREFIXES_1, s_PREFIXES_1⟩)
    (lT_PREFIXES_2 : K.lookup r_PREFIXES_2 = some ⟨.type "tuple", d_PREFIXES_2, .seq #[.str "some" t_PREFIXES_2_0, .int 2 t_PREFIXES_2_1] n_PREFIXES_2, s_PREFIXES_2⟩)
    (lT_PREFIXES_3 : K.lookup r_PREFIXES_3 = some ⟨.type "tuple", d_PREFIXES_3, .seq #[.str "all" t_PREFIXES_3_0, .int 0 t_PREFIXES_3_1] n_PREFIXES_3, s_PREFIXES_3⟩)
    (lT_PREFIXES_4 : K.lookup r_PREFIXES_4 = some ⟨.type "tuple", d_PREFIXES_4, .seq #[.str "all" t_PREFIXES_4_0, .int 1 t_PREFIXES_4_1] n_PREFIXES_4, s_PREFIXES_4⟩)
    (lT_PREFIXES_5 : K.lookup r_PREFIXES_5 = some ⟨.type "tuple", d_PREFIXES_5, .seq #[.str "all" t_PREFIXES_5_0, .int 2 t_PREFIXES_5_1] n_PREFIXES_5, s_PREFIXES_5⟩) :
    ∃ fd : FuncData, (∀ (s : Shared) (u : Value), BindsTo s fd ⟨[u], []⟩ [("script", u)]) ∧ ∀ base : Heap, K.In base → base.Ns mainGlobals mg → FnOk P w K mg base CX0 22 fa fd ["script"] (spLaw K) := by
  have e := hfa.symm.trans (PySem.W.mg_of X G a30)
  cases e
  have F_Part_init := fun_mk (st := s_Part_init) l1 c1 k1
  have b_Part_init := F_Part_init.binds (ps := a_Part_init) fun _ _ _ _ _ _ us hl => match us, hl with | [_, _, _], _ => rfl
  have F_head_of := fun_mk (st := s_head_of) l2 c2 k2
  have b_head_of := F_head_of.binds (ps := a_head_of) fun _ _ _ _ _ _ us hl => match us, hl with | [_], _ => rfl
  have m_head_of := PySem.W.mg_of X G a2
  have F_parts_of := fun_mk (st := s_parts_of) l3 c3 k3
  have b_parts_of := F_parts_of.binds (ps := a_parts_of) fun _ _ _ _ _ _ us hl => match us, hl with | [_], _ => rfl
  have m_parts_of := PySem.W.mg_of X G a3
  have F_format_statement := fun_mk (st := s_format_statement) l4 c4 k4
  have b_format_statement := F_format_statement.binds (ps := a_format_statement) fun _ _ _ _ _ _ us hl => match us, hl with | [_], _ => rfl
  have m_format_statement := PySem.W.mg_of X G a4
  have F_atom_text := fun_mk (st := s_atom_text) l5 c5 k5
  have b_atom_text := F_atom_text.binds (ps := a_atom_text) fun _ _ _ _ _ _ us hl => match us, hl with | [_], _ => rfl
  have m_atom_text := PySem.W.mg_of X G a5
  have F_prefix_text := fun_mk (st := s_prefix_text) l6 c6 k6
  have b_prefix_text := F_prefix_text.binds (ps := a_prefix_text) fun _ _ _ _ _ _ us hl => match us, hl with | [_], _ => rfl
  have m_prefix_text := PySem.W.mg_of X G a6
  have F_join_text := fun_mk (st := s_join_text) l7 c7 k7
  have b_join_text := F_join_text.binds (ps := a_join_text) fun _ _ _ _ _ _ us hl => match us, hl with | [_, _, _], _ => rfl
  have m_join_text := PySem.W.mg_of X G a7
  have F_enclosed := fun_mk (st := s_enclosed) l8 c8 k8
  have b_enclosed := F_enclosed.binds (ps := a_enclosed) fun _ _ _ _ _ _ us hl => match us, hl with | [_, _], _ => rfl
  have m_enclosed := PySem.W.mg_of X G a8
  have F_parse_statement := fun_mk (st := s_parse_statement) l9 c9 k9
  have b_parse_statement := F_parse_statement.binds (ps := a_parse_statement) fun _ _ _ _ _ _ us hl => match us, hl with | [_], _ => rfl
  have m_parse_statement := PySem.W.mg_of X G a9
  have F_token_at := fun_mk (st := s_token_at) l10 c10 k10
  have b_token_at := F_token_at.binds (ps := a_token_at) fun _ _ _ _ _ _ us hl => match us, hl with | [_, _, _], _ => rfl
  have m_token_at := PySem.W.mg_of X G a10
  have F_variable_at := fun_mk (st := s_variable_at) l11 c11 k11
  have b_variable_at := F_variable_at.binds (ps := a_variable_at) fun _ _ _ _ _ _ us hl => match us, hl with | [_, _, _], _ => rfl
  have m_variable_at := PySem.W.mg_of X G a11
  have F_Reader_init := fun_mk (st := s_Reader_init) l12 c12 k12
  have b_Reader_init := F_Reader_init.binds (ps := a_Reader_init) fun _ _ _ _ _ _ us hl => match us, hl with | [_, _, _], _ => rfl
  have F_Reader__advance := fun_mk (st := s_Reader__advance) l13 c13 k13
  have b_Reader__advance := F_Reader__advance.binds (ps := a_Reader__advance) fun _ _ _ _ _ _ us hl => match us, hl with | [_, _], _ => rfl
  have F_Reader__pass := fun_mk (st := s_Reader__pass) l14 c14 k14
  have b_Reader__pass := F_Reader__pass.binds (ps := a_Reader__pass) fun _ _ _ _ _ _ us hl => match us, hl with | [_], _ => rfl
  have F_Reader__fail := fun_mk (st := s_Reader__fail) l15 c15 k15
  have b_Reader__fail := F_Reader__fail.binds (ps := a_Reader__fail) fun _ _ _ _ _ _ us hl => match us, hl with | [_], _ => rfl
  have F_Reader_statement := fun_mk (st := s_Reader_statement) l16 c16 k16
  have b_Reader_statement := F_Reader_statement.binds (ps := a_Reader_statement) fun _ _ _ _ _ _ us hl => match us, hl with | [_], _ => rfl
  have F_Reader__read_binders := fun_mk (st := s_Reader__read_binders) l17 c17 k17
  have b_Reader__read_binders := F_Reader__read_binders.binds (ps := a_Reader__read_binders) fun _ _ _ _ _ _ us hl => match us, hl with | [_], _ => rfl
  have F_Reader__read_operand := fun_mk (st := s_Reader__read_operand) l18 c18 k18
  have b_Reader__read_operand := F_Reader__read_operand.binds (ps := a_Reader__read_operand) fun _ _ _ _ _ _ us hl => match us, hl with | [_], _ => rfl
  have F_Reader__read_opening := fun_mk (st := s_Reader__read_opening) l19 c19 k19
  have b_Reader__read_opening := F_Reader__read_opening.binds (ps := a_Reader__read_opening) fun _ _ _ _ _ _ us hl => match us, hl with | [_], _ => rfl
  have F_Reader__close := fun_mk (st := s_Reader__close) l20 c20 k20
  have b_Reader__close := F_Reader__close.binds (ps := a_Reader__close) fun _ _ _ _ _ _ us hl => match us, hl with | [_], _ => rfl
  have F_Reader__read_sign := fun_mk (st := s_Reader__read_sign) l21 c21 k21
  have b_Reader__read_sign := F_Reader__read_sign.binds (ps := a_Reader__read_sign) fun _ _ _ _ _ _ us hl => match us, hl with | [_], _ => rfl
  have F_Reader__join := fun_mk (st := s_Reader__join) l22 c22 k22
  have b_Reader__join := F_Reader__join.binds (ps := a_Reader__join) fun _ _ _ _ _ _ us hl => match us, hl with | [_, _], _ => rfl
  have F_law_draws := fun_mk (st := s_law_draws) l23 c23 k23
  have b_law_draws := F_law_draws.binds (ps := a_law_draws) fun _ _ _ _ _ _ us hl => match us, hl with | [_, _], _ => rfl
  have m_law_draws := PySem.W.mg_of X G a23
  have F_law_take := fun_mk (st := s_law_take) l24 c24 k24
  have b_law_take := F_law_take.binds (ps := a_law_take) fun _ _ _ _ _ _ us hl => match us, hl with | [_, _], _ => rfl
  have m_law_take := PySem.W.mg_of X G a24
  have F_law_atom := fun_mk (st := s_law_atom) l25 c25 k25
  have b_law_atom := F_law_atom.binds (ps := a_law_atom) fun _ _ _ _ _ _ us hl => match us, hl with | [_, _], _ => rfl
  have m_law_atom := PySem.W.mg_of X G a25
  have F_law_statement := fun_mk (st := s_law_statement) l26 c26 k26
  have b_law_statement := F_law_statement.binds (ps := a_law_statement) fun _ _ _ _ _ _ us hl => match us, hl with | [_, _, _, _, _], _ => rfl
  have m_law_statement := PySem.W.mg_of X G a26
  have F_law_closed := fun_mk (st := s_law_closed) l27 c27 k27
  have b_law_closed := F_law_closed.binds (ps := a_law_closed) fun _ _ _ _ _ _ us hl => match us, hl with | [_, _], _ => rfl
  have m_law_closed := PySem.W.mg_of X G a27
  have F_law_printed := fun_mk (st := s_law_printed) l28 c28 k28
  have b_law_printed := F_law_printed.binds (ps := a_law_printed) fun _ _ _ _ _ _ us hl => match us, hl with | [_, _], _ => rfl
  have m_law_printed := PySem.W.mg_of X G a28
  have F_law_spaced := fun_mk (st := s_law_spaced) l29 c29 k29
  have b_law_spaced := F_law_spaced.binds (ps := a_law_spaced) fun _ _ _ _ _ _ us hl => match us, hl with | [_, _], _ => rfl
  have m_law_spaced := PySem.W.mg_of X G a29
  have F_law := fun_mk (st := s_law) l30 c30 k30
  have T : Txt K mg C_Part J_JOINS J_JOINS := ⟨PySem.W.mg_none_of X G z_int, PySem.W.mg_none_of X G z_isinstance, PySem.W.mg_none_of X G z_len, PySem.W.mg_none_of X G z_list, PySem.W.mg_none_of X G z_range, PySem.W.mg_none_of X G z_reversed, PySem.W.mg_none_of X G z_str, PySem.W.mg_of X G aJ_JOINS, pairK lJ_JOINS, ⟨pg_Part, hd_Part, po_Part, sa_Part⟩, n_Part_head, n_Part_around, n_Part_inner⟩
  have kdc : ∀ {D : Addr} {es : Array DictEntry} {n : Nat} {ws : List (List Nat × Value)}, K.lookup D = some ⟨.type "dict", none, .dict es n, #[]⟩ → PySem.W.KeysLit w.params es.toList → KeysAre es.toList ws → ∀ (x : Str) (z : List Nat) (u : Value) (v : V), x = sL z → ((ws.find? fun p => p.1 == z).map (·.2)) = some u → RelV v u → KDct K w D x v := by
    intro D es n ws l k wd x z u v ex e r
    subst ex
    exact ⟨es, n, u, l, k, by rw [nsIn_lit l wd z, e], r⟩
  have iH : ∀ {D : Addr} {es : Array DictEntry} {n : Nat} {ws : List (List Nat × Value)}, K.lookup D = some ⟨.type "dict", none, .dict es n, #[]⟩ → KeysAre es.toList ws → ∀ (h : Hd), PySem.W.nsIn K D (hw h) = some ((ws.find? fun p => p.1 == zH h).map (·.2)) := by
    intro D es n ws l wd h
    rw [hw_z h]
    exact nsIn_lit l wd (zH h)
  have TF : TxtF K mg w D_SIGNS D_BINDER_WORDS D_STRENGTHS t_STRONGEST := by
    refine ⟨PySem.W.mg_of X G aD_SIGNS, PySem.W.mg_of X G aD_BINDER_WORDS, PySem.W.mg_of X G aD_STRENGTHS, PySem.W.mg_of X G aI_STRONGEST, ⟨_, _, lD_SIGNS, kD_SIGNS, oD_SIGNS⟩, ⟨_, _, lD_BINDER_WORDS, kD_BINDER_WORDS, oD_BINDER_WORDS⟩, ⟨_, _, lD_STRENGTHS, kD_STRENGTHS, oD_STRENGTHS⟩,
      fun h => ⟨_, iH lD_SIGNS wD_SIGNS h, ?_⟩, fun h => ⟨_, iH lD_BINDER_WORDS wD_BINDER_WORDS h, ?_⟩, fun b => ?_, fun k hk => ?_, fun b => ?_, fun h => ?_⟩
    · cases h with
      | nul b => cases b <;> rfl
      | leaf k n => cases k <;> rfl
      | two b => cases b <;> rfl
      | one k n => cases k <;> rfl
    · cases h with
      | nul b => cases b <;> rfl
      | leaf k n => cases k <;> rfl
      | two b => cases b <;> rfl
      | one k n => cases k <;> rfl
    · cases b
      · exact kdc lD_SIGNS kD_SIGNS wD_SIGNS _ _ _ _ (wT_z _) rfl ⟨_, rfl⟩
      · exact kdc lD_SIGNS kD_SIGNS wD_SIGNS _ _ _ _ (wT_z _) rfl ⟨_, rfl⟩
    · cases k
      · cases hk
      · cases hk
      · exact kdc lD_BINDER_WORDS kD_BINDER_WORDS wD_BINDER_WORDS _ _ _ _ (hw_z (.one .least 0)) rfl ⟨_, rfl⟩
      · exact kdc lD_BINDER_WORDS kD_BINDER_WORDS wD_BINDER_WORDS _ _ _ _ (hw_z (.one .most 0)) rfl ⟨_, rfl⟩
    · cases b
      · exact kdc lD_STRENGTHS kD_STRENGTHS wD_STRENGTHS _ _ _ _ (wT_z _) rfl ⟨_, rfl⟩
      · exact kdc lD_STRENGTHS kD_STRENGTHS wD_STRENGTHS _ _ _ _ (wT_z _) rfl ⟨_, rfl⟩
    · have q := iH lD_STRENGTHS wD_STRENGTHS h
      cases h with
      | nul b => cases b <;> exact .inr ⟨q, rfl⟩
      | leaf k n => cases k <;> exact .inr ⟨q, rfl⟩
      | two b =>
        cases b
        · exact .inl ⟨_, .int 1, q, ⟨_, rfl⟩, rfl⟩
        · exact .inl ⟨_, .int 2, q, ⟨_, rfl⟩, rfl⟩
      | one k n =>
        cases k
        · exact .inr ⟨q, rfl⟩
        · exact .inr ⟨q, rfl⟩
        · exact .inl ⟨_, .int 0, q, ⟨_, rfl⟩, rfl⟩
        · exact .inl ⟨_, .int 0, q, ⟨_, rfl⟩, rfl⟩
  have TK : TxtK K mg w J_TOKENS t_DIGITS := ⟨PySem.W.mg_of X G aJ_TOKENS, PySem.W.mg_of X G aI_DIGITS, ⟨_, PySem.W.mg_of X G aI_MOST_DIGITS⟩, fun H => by
    have e : (TKS.map fun t => V.str (sL (tx t))) = (TKS.map fun t => sL (tx t)).map V.str := by rw [List.map_map]; rfl
    rw [e, toks_str]
    exact .inr ⟨_, _, _, lJ_TOKENS, rfl, rfl, by show 27 ≤ sizeLine; decide, .cons ⟨t_TOKENS_0, rfl⟩ (.cons ⟨t_TOKENS_1, rfl⟩ (.cons ⟨t_TOKENS_2, rfl⟩ (.cons ⟨t_TOKENS_3, rfl⟩ (.cons ⟨t_TOKENS_4, rfl⟩ (.cons ⟨t_TOKENS_5, rfl⟩ (.cons ⟨t_TOKENS_6, rfl⟩ (.cons ⟨t_TOKENS_7, rfl⟩ (.cons ⟨t_TOKENS_8, rfl⟩ (.cons ⟨t_TOKENS_9, rfl⟩ (.cons ⟨t_TOKENS_10, rfl⟩ (.cons ⟨t_TOKENS_11, rfl⟩ (.cons ⟨t_TOKENS_12, rfl⟩ (.cons ⟨t_TOKENS_13, rfl⟩ (.cons ⟨t_TOKENS_14, rfl⟩ (.cons ⟨t_TOKENS_15, rfl⟩ (.cons ⟨t_TOKENS_16, rfl⟩ (.cons ⟨t_TOKENS_17, rfl⟩ (.cons ⟨t_TOKENS_18, rfl⟩ (.cons ⟨t_TOKENS_19, rfl⟩ (.cons ⟨t_TOKENS_20, rfl⟩ (.cons ⟨t_TOKENS_21, rfl⟩ (.cons ⟨t_TOKENS_22, rfl⟩ (.cons ⟨t_TOKENS_23, rfl⟩ (.cons ⟨t_TOKENS_24, rfl⟩ (.cons ⟨t_TOKENS_25, rfl⟩ (.cons ⟨t_TOKENS_26, rfl⟩ (.nil)))))))))))))))))))))))))))⟩⟩
  have TR : TxtRd K C_Reader := ⟨⟨pg_Reader, hd_Reader, po_Reader, sa_Reader⟩, n_Reader_text, n_Reader_most_digits, n_Reader_at, n_Reader_token, n_Reader_operands, n_Reader_pending⟩
  have TA : TxtAll K mg w D_SIGNS D_BINDER_WORDS D_STRENGTHS t_STRONGEST J_TOKENS t_DIGITS C_Reader := ⟨TF, TK, TR⟩
  have TD : TxtD K mg w D_BINDER_KINDS D_PREFIXES D_ATOMS D_JOIN_WORDS := by
    refine ⟨PySem.W.mg_of X G aD_BINDER_KINDS, PySem.W.mg_of X G aD_PREFIXES, PySem.W.mg_of X G aD_ATOMS, PySem.W.mg_of X G aD_JOIN_WORDS,
      ⟨_, _, lD_BINDER_KINDS, kD_BINDER_KINDS, oD_BINDER_KINDS⟩, ⟨_, _, lD_PREFIXES, kD_PREFIXES, oD_PREFIXES⟩, ⟨_, _, lD_ATOMS, kD_ATOMS, oD_ATOMS⟩, ⟨_, _, lD_JOIN_WORDS, kD_JOIN_WORDS, oD_JOIN_WORDS⟩,
      fun ts g => ⟨_, nsIn_lit lD_BINDER_KINDS wD_BINDER_KINDS _, ?_⟩, fun ts g => ⟨_, nsIn_lit lD_PREFIXES wD_PREFIXES _, ?_⟩, fun ts g => ⟨_, nsIn_lit lD_ATOMS wD_ATOMS _, ?_⟩, fun ts g => ⟨_, nsIn_lit lD_JOIN_WORDS wD_JOIN_WORDS _, ?_⟩,
      fun k hk => ?_, fun k n g => ?_, fun b => ?_, fun k n nv g => ?_, fun b => ?_⟩
    · cases ts with
      | nil => rfl
      | cons t ts =>
        have gt := g t List.mem_cons_self
        clear g
        cases t with
        | sg b => cases b <;> rfl
        | bd k => cases k <;> first | rfl | exact absurd (gt.bd _ rfl) (by decide)
        | nl b => cases b <;> rfl
        | pr k n =>
          rcases three gt.ok with rfl | rfl | rfl <;> cases k <;> first | rfl | exact absurd (gt.pr _ _ rfl) (by decide)
        | lf k n =>
          cases k with
          | var => rfl
          | has => rcases six gt.ok with rfl | rfl | rfl | rfl | rfl | rfl <;> rfl
          | lacks => rcases six gt.ok with rfl | rfl | rfl | rfl | rfl | rfl <;> rfl
        | _ => rfl
    · cases ts with
      | nil => rfl
      | cons t ts =>
        have gt := g t List.mem_cons_self
        clear g
        cases t with
        | sg b => cases b <;> rfl
        | bd k => cases k <;> first | rfl | exact absurd (gt.bd _ rfl) (by decide)
        | nl b => cases b <;> rfl
        | pr k n =>
          rcases three gt.ok with rfl | rfl | rfl <;> cases k <;> first | rfl | exact absurd (gt.pr _ _ rfl) (by decide)
        | lf k n =>
          cases k with
          | var => rfl
          | has => rcases six gt.ok with rfl | rfl | rfl | rfl | rfl | rfl <;> rfl
          | lacks => rcases six gt.ok with rfl | rfl | rfl | rfl | rfl | rfl <;> rfl
        | _ => rfl
    · cases ts with
      | nil => rfl
      | cons t ts =>
        have gt := g t List.mem_cons_self
        clear g
        cases t with
        | sg b => cases b <;> rfl
        | bd k => cases k <;> first | rfl | exact absurd (gt.bd _ rfl) (by decide)
        | nl b => cases b <;> rfl
        | pr k n =>
          rcases three gt.ok with rfl | rfl | rfl <;> cases k <;> first | rfl | exact absurd (gt.pr _ _ rfl) (by decide)
        | lf k n =>
          cases k with
          | var => rfl
          | has => rcases six gt.ok with rfl | rfl | rfl | rfl | rfl | rfl <;> rfl
          | lacks => rcases six gt.ok with rfl | rfl | rfl | rfl | rfl | rfl <;> rfl
        | _ => rfl
    · cases ts with
      | nil => rfl
      | cons t ts =>
        have gt := g t List.mem_cons_self
        clear g
        cases t with
        | sg b => cases b <;> rfl
        | bd k => cases k <;> first | rfl | exact absurd (gt.bd _ rfl) (by decide)
        | nl b => cases b <;> rfl
        | pr k n =>
          rcases three gt.ok with rfl | rfl | rfl <;> cases k <;> first | rfl | exact absurd (gt.pr _ _ rfl) (by decide)
        | lf k n =>
          cases k with
          | var => rfl
          | has => rcases six gt.ok with rfl | rfl | rfl | rfl | rfl | rfl <;> rfl
          | lacks => rcases six gt.ok with rfl | rfl | rfl | rfl | rfl | rfl <;> rfl
        | _ => rfl
    · cases k
      · cases hk
      · cases hk
      · exact kdc lD_BINDER_KINDS kD_BINDER_KINDS wD_BINDER_KINDS _ _ _ _ rfl rfl ⟨_, rfl⟩
      · exact kdc lD_BINDER_KINDS kD_BINDER_KINDS wD_BINDER_KINDS _ _ _ _ rfl rfl ⟨_, rfl⟩
    · cases k
      · rcases three g.ok with rfl | rfl | rfl
        · exact ⟨_, kdc lD_PREFIXES kD_PREFIXES wD_PREFIXES _ _ _ _ rfl rfl rfl, numK lT_PREFIXES_0⟩
        · exact ⟨_, kdc lD_PREFIXES kD_PREFIXES wD_PREFIXES _ _ _ _ rfl rfl rfl, numK lT_PREFIXES_1⟩
        · exact ⟨_, kdc lD_PREFIXES kD_PREFIXES wD_PREFIXES _ _ _ _ rfl rfl rfl, numK lT_PREFIXES_2⟩
      · rcases three g.ok with rfl | rfl | rfl
        · exact ⟨_, kdc lD_PREFIXES kD_PREFIXES wD_PREFIXES _ _ _ _ rfl rfl rfl, numK lT_PREFIXES_3⟩
        · exact ⟨_, kdc lD_PREFIXES kD_PREFIXES wD_PREFIXES _ _ _ _ rfl rfl rfl, numK lT_PREFIXES_4⟩
        · exact ⟨_, kdc lD_PREFIXES kD_PREFIXES wD_PREFIXES _ _ _ _ rfl rfl rfl, numK lT_PREFIXES_5⟩
      · exact absurd (g.pr _ _ rfl) (by decide)
      · exact absurd (g.pr _ _ rfl) (by decide)
    · cases b
      · exact ⟨_, kdc lD_ATOMS kD_ATOMS wD_ATOMS _ _ _ _ rfl rfl rfl, oneK lT_ATOMS_1⟩
      · exact ⟨_, kdc lD_ATOMS kD_ATOMS wD_ATOMS _ _ _ _ rfl rfl rfl, oneK lT_ATOMS_0⟩
    · cases k with
      | var => exact absurd rfl nv
      | has =>
        rcases six g.ok with rfl | rfl | rfl | rfl | rfl | rfl
        · exact ⟨_, kdc lD_ATOMS kD_ATOMS wD_ATOMS _ _ _ _ rfl rfl rfl, numK lT_ATOMS_2⟩
        · exact ⟨_, kdc lD_ATOMS kD_ATOMS wD_ATOMS _ _ _ _ rfl rfl rfl, numK lT_ATOMS_3⟩
        · exact ⟨_, kdc lD_ATOMS kD_ATOMS wD_ATOMS _ _ _ _ rfl rfl rfl, numK lT_ATOMS_4⟩
        · exact ⟨_, kdc lD_ATOMS kD_ATOMS wD_ATOMS _ _ _ _ rfl rfl rfl, numK lT_ATOMS_5⟩
        · exact ⟨_, kdc lD_ATOMS kD_ATOMS wD_ATOMS _ _ _ _ rfl rfl rfl, numK lT_ATOMS_6⟩
        · exact ⟨_, kdc lD_ATOMS kD_ATOMS wD_ATOMS _ _ _ _ rfl rfl rfl, numK lT_ATOMS_7⟩
      | lacks =>
        rcases six g.ok with rfl | rfl | rfl | rfl | rfl | rfl
        · exact ⟨_, kdc lD_ATOMS kD_ATOMS wD_ATOMS _ _ _ _ rfl rfl rfl, numK lT_ATOMS_8⟩
        · exact ⟨_, kdc lD_ATOMS kD_ATOMS wD_ATOMS _ _ _ _ rfl rfl rfl, numK lT_ATOMS_9⟩
        · exact ⟨_, kdc lD_ATOMS kD_ATOMS wD_ATOMS _ _ _ _ rfl rfl rfl, numK lT_ATOMS_10⟩
        · exact ⟨_, kdc lD_ATOMS kD_ATOMS wD_ATOMS _ _ _ _ rfl rfl rfl, numK lT_ATOMS_11⟩
        · exact ⟨_, kdc lD_ATOMS kD_ATOMS wD_ATOMS _ _ _ _ rfl rfl rfl, numK lT_ATOMS_12⟩
        · exact ⟨_, kdc lD_ATOMS kD_ATOMS wD_ATOMS _ _ _ _ rfl rfl rfl, numK lT_ATOMS_13⟩
    · cases b
      · exact kdc lD_JOIN_WORDS kD_JOIN_WORDS wD_JOIN_WORDS _ _ _ _ rfl rfl ⟨_, rfl⟩
      · exact kdc lD_JOIN_WORDS kD_JOIN_WORDS wD_JOIN_WORDS _ _ _ _ rfl rfl ⟨_, rfl⟩
  have TW : TxtW K mg w D_SIGNS D_BINDER_WORDS D_STRENGTHS t_STRONGEST J_TOKENS t_DIGITS C_Reader D_BINDER_KINDS D_PREFIXES D_ATOMS D_JOIN_WORDS := ⟨TA, TD⟩
  refine ⟨PySem.W.fnOf "law" "law" (defArgs s_law) (defBody s_law) (defScope s_law) .none kV30 dc30 pm30 an30 cd30 ct30, fun s u => .of_eq rfl, fun base _ _ => ?_⟩
  have h_Part : HasC P w K mg base "Part" C_Part 1 a_Part_init (spPart K C_Part) := ⟨_, _, PySem.W.mg_of X G aC_Part, ⟨mk_Part, a1, i1, kc_Part⟩, b_Part_init, ok_Part F_Part_init T⟩
  have h_head_of : Has P w K mg base "head_of" 1 a_head_of (spHead K) := ⟨_, _, m_head_of, F_head_of.kp, b_head_of, ok_head_of F_head_of T⟩
  have h_parts_of : Has P w K mg base "parts_of" 3 a_parts_of (spParts K C_Part) := ⟨_, _, m_parts_of, F_parts_of.kp, b_parts_of, ok_parts_of F_parts_of T h_head_of h_Part⟩
  have h_draws : Has P w K mg base "_law_draws" 1 a_law_draws (spDraws K) := ⟨_, _, m_law_draws, F_law_draws.kp, b_law_draws, ok_law_draws F_law_draws T⟩
  have h_take : Has P w K mg base "_law_take" 1 a_law_take spTake := ⟨_, _, m_law_take, F_law_take.kp, b_law_take, ok_law_take F_law_take T⟩
  have h_atom : Has P w K mg base "_law_atom" 2 a_law_atom (spAtom K) := ⟨_, _, m_law_atom, F_law_atom.kp, b_law_atom, ok_law_atom F_law_atom T h_take⟩
  have h_closed : Has P w K mg base "_law_closed" 8 a_law_closed (spClosed K 4) := ⟨_, _, m_law_closed, F_law_closed.kp, b_law_closed, ok_law_closed 4 F_law_closed (all_statement F_law_statement b_law_statement m_law_statement T h_take h_atom 5)⟩
  have h_enclosed : Has P w K mg base "enclosed" 1 a_enclosed (spEncl K) := ⟨_, _, m_enclosed, F_enclosed.kp, b_enclosed, ok_enclosed F_enclosed T TF⟩
  have h_join_text : Has P w K mg base "join_text" 2 a_join_text (spJoin K) := ⟨_, _, m_join_text, F_join_text.kp, b_join_text, ok_join_text F_join_text T TF h_enclosed⟩
  have h_prefix_text : Has P w K mg base "prefix_text" 1 a_prefix_text (spPrefT K) := ⟨_, _, m_prefix_text, F_prefix_text.kp, b_prefix_text, ok_prefix_text F_prefix_text T⟩
  have h_atom_text : Has P w K mg base "atom_text" 1 a_atom_text (spAtomT K) := ⟨_, _, m_atom_text, F_atom_text.kp, b_atom_text, ok_atom_text F_atom_text T⟩
  have h_format : Has P w K mg base "format_statement" 4 a_format_statement (spFmt K) := ⟨_, _, m_format_statement, F_format_statement.kp, b_format_statement, ok_format_statement F_format_statement T TF h_parts_of h_join_text h_prefix_text h_enclosed h_atom_text⟩
  have h_pr : ∀ n, Has P w K mg base "_law_printed" (n + 1) a_law_printed (spPr K n) := fun n => by
    induction n with
    | zero => exact ⟨_, _, m_law_printed, F_law_printed.kp, b_law_printed, noneOk⟩
    | succ n ih => exact ⟨_, _, m_law_printed, F_law_printed.kp, b_law_printed, ok_law_printed n F_law_printed T ih⟩
  have h_spaced : Has P w K mg base "_law_spaced" 2 a_law_spaced spSpaced := ⟨_, _, m_law_spaced, F_law_spaced.kp, b_law_spaced, ok_law_spaced F_law_spaced T h_take⟩
  have h_var : Has P w K mg base "variable_at" 1 a_variable_at spVarAt := ⟨_, _, m_variable_at, F_variable_at.kp, b_variable_at, ok_variable_at F_variable_at T TK⟩
  have h_tok : Has P w K mg base "token_at" 2 a_token_at spTokAt := ⟨_, _, m_token_at, F_token_at.kp, b_token_at, ok_token_at F_token_at T TK h_var⟩
  have q_advance : Meth K C_Reader "_advance" f13 := ⟨a13, i13, k13⟩
  have q_pass : Meth K C_Reader "_pass" f14 := ⟨a14, i14, k14⟩
  have q_fail : Meth K C_Reader "_fail" f15 := ⟨a15, i15, k15⟩
  have q_join : Meth K C_Reader "_join" f22 := ⟨a22, i22, k22⟩
  have q_close : Meth K C_Reader "_close" f20 := ⟨a20, i20, k20⟩
  have q_sign : Meth K C_Reader "_read_sign" f21 := ⟨a21, i21, k21⟩
  have q_binders : Meth K C_Reader "_read_binders" f17 := ⟨a17, i17, k17⟩
  have q_opening : Meth K C_Reader "_read_opening" f19 := ⟨a19, i19, k19⟩
  have q_operand : Meth K C_Reader "_read_operand" f18 := ⟨a18, i18, k18⟩
  have q_statement : Meth K C_Reader "statement" f16 := ⟨a16, i16, k16⟩
  have g_advance := ok_advance (P := P) (w := w) (base := base) F_Reader__advance T TR h_tok
  have g_pass := ok_pass (P := P) (w := w) (base := base) F_Reader__pass T TR q_advance g_advance b_Reader__advance
  have g_join := ok_joinR (P := P) (w := w) (base := base) F_Reader__join T TA
  have g_fail : ∀ fd, FnOk P w K mg base CX0 1 f15 fd a_Reader__fail (fun _ _ _ _ => False) := fun fd => noneOk
  have g_close := ok_close (P := P) (w := w) (base := base) F_Reader__close T TW q_join g_join b_Reader__join q_fail (g_fail _) b_Reader__fail q_pass g_pass b_Reader__pass
  have g_sign := ok_read_sign (P := P) (w := w) (base := base) F_Reader__read_sign T TW q_join g_join b_Reader__join q_pass g_pass b_Reader__pass
  have g_binders := ok_read_binders (P := P) (w := w) (base := base) F_Reader__read_binders T TW q_fail (g_fail _) b_Reader__fail q_pass g_pass b_Reader__pass
  have g_opening := ok_read_opening (P := P) (w := w) (base := base) F_Reader__read_opening T TW q_binders g_binders b_Reader__read_binders q_pass g_pass b_Reader__pass
  have g_operand := ok_read_operand (P := P) (w := w) (base := base) F_Reader__read_operand T TW q_opening g_opening b_Reader__read_opening q_join g_join b_Reader__join q_pass g_pass b_Reader__pass q_close g_close b_Reader__close q_sign g_sign b_Reader__read_sign q_fail (g_fail _) b_Reader__fail
  have g_statement := ok_statement (P := P) (w := w) (base := base) F_Reader_statement T TW q_binders g_binders b_Reader__read_binders q_operand g_operand b_Reader__read_operand q_join g_join b_Reader__join q_fail (g_fail _) b_Reader__fail
  have h_Reader : HasC P w K mg base "Reader" C_Reader 4 a_Reader_init (spInit K C_Reader) := ⟨_, _, PySem.W.mg_of X G aC_Reader, ⟨mk_Reader, a12, i12, kc_Reader⟩, b_Reader_init, ok_Reader_init F_Reader_init T TR q_advance g_advance b_Reader__advance⟩
  have h_parse : Has P w K mg base "parse_statement" 9 a_parse_statement (spParse K) := ⟨_, _, m_parse_statement, F_parse_statement.kp, b_parse_statement, ok_parse_statement F_parse_statement T TW h_Reader q_statement g_statement b_Reader_statement⟩
  exact ok_law F_law T h_draws h_closed h_format (h_pr 20) h_spaced h_parse
theorem walk {l : PySem.W.OpenLaw} {q : Program} {loose : List Str} {XP : (Str → Option Value) → Heap → Prop} {YP : World → Heap → Prop} {d : DefRec} {K : Params → PySem.W.Frag} (hn : l.most = some 63) (hdf : d.params.defaults = [])
    (hY : ∀ (w : World) (h : Heap), YP w h → (K w.params).In h)
    (F : ∀ (w : World) (mg : Str → Option Value) (fa : Addr) (h : Heap), (K w.params).In h → h.Ns mainGlobals mg → mg d.name = some (.ref fa) →
      ∃ fd : FuncData, (∀ (s : Shared) (u : Value), BindsTo s fd ⟨[u], []⟩ [("script", u)]) ∧ ∀ base : Heap, (K w.params).In base → base.Ns mainGlobals mg → FnOk l.prog w (K w.params) mg base CX0 22 fa fd ["script"] (spLaw (K w.params))) :
    PySem.W.WalkO q loose XP YP l.row.toRowW d [] (fun f vs => PySem.call f vs) :=
  L2.walk_of (n := 63) (k := 22) (x := "script") (CX := fun _ => CX0) (sp := fun w => spLaw (K w.params)) hn (by decide) hdf ⟨rfl, by decide, by decide⟩ hY F (fun _ _ a ns hl _ hS => ⟨a, ns, rfl, hS, hl, fun _ => rfl⟩) fun _ _ _ _ _ z => z
end Fw

set_option maxRecDepth 100000
open PySem PySem.W PyProof.Rows
set_option maxHeartbeats 0 in
theorem PySem.Challenge.cw_fixworlds_k05_texts_holds : PySem.Challenge.rw_fixworlds_k05_texts.Holds := by
  w_on; o_law; k_head; (case hw => w_witness2)
  k_fill
  refine Fw.walk (l := PySem.Challenge.rw_fixworlds_k05_texts) rfl rfl (fun w h Y => PySem.W.kIn_of Y) ?F
  case F =>
    intro w mg fa h KX G hmg
    refine' Fw.all_mk KX G hmg ?aC_Part ?aC_Reader ?a1 ?i1 ?l1 ?c1 ?k1 ?a2 ?l2 ?c2 ?k2 ?a3 ?l3 ?c3 ?k3 ?a4 ?l4 ?c4 ?k4 ?a5 ?l5 ?c5 ?k5 ?a6 ?l6 ?c6 ?k6 ?a7 ?l7 ?c7 ?k7 ?a8 ?l8 ?c8 ?k8 ?a9 ?l9 ?c9 ?k9 ?a10 ?l10 ?c10 ?k10 ?a11 ?l11 ?c11 ?k11 ?a12 ?i12 ?l12 ?c12 ?k12 ?a13 ?i13 ?l13 ?c13 ?k13 ?a14 ?i14 ?l14 ?c14 ?k14 ?a15 ?i15 ?l15 ?c15 ?k15 ?a16 ?i16 ?l16 ?c16 ?k16 ?a17 ?i17 ?l17 ?c17 ?k17 ?a18 ?i18 ?l18 ?c18 ?k18 ?a19 ?i19 ?l19 ?c19 ?k19 ?a20 ?i20 ?l20 ?c20 ?k20 ?a21 ?i21 ?l21 ?c21 ?k21 ?a22 ?i22 ?l22 ?c22 ?k22 ?a23 ?l23 ?c23 ?k23 ?a24 ?l24 ?c24 ?k24 ?a25 ?l25 ?c25 ?k25 ?a26 ?l26 ?c26 ?k26 ?a27 ?l27 ?c27 ?k27 ?a28 ?l28 ?c28 ?k28 ?a29 ?l29 ?c29 ?k29 ?a30 ?l30 ?c30 ?k30 ?pg_Part ?hd_Part ?po_Part ?sa_Part ?mk_Part ?kc_Part ?n_Part_head ?n_Part_around ?n_Part_inner ?pg_Reader ?hd_Reader ?po_Reader ?sa_Reader ?mk_Reader ?kc_Reader ?n_Reader_text ?n_Reader_most_digits ?n_Reader_at ?n_Reader_token ?n_Reader_operands ?n_Reader_pending ?z_int ?z_isinstance ?z_len ?z_list ?z_range ?z_reversed ?z_str ?aJ_JOINS ?lJ_JOINS ?aD_BINDER_WORDS ?lD_BINDER_WORDS ?kD_BINDER_WORDS ?oD_BINDER_WORDS ?wD_BINDER_WORDS ?aD_BINDER_KINDS ?lD_BINDER_KINDS ?kD_BINDER_KINDS ?oD_BINDER_KINDS ?wD_BINDER_KINDS ?aD_SIGNS ?lD_SIGNS ?kD_SIGNS ?oD_SIGNS ?wD_SIGNS ?aD_JOIN_WORDS ?lD_JOIN_WORDS ?kD_JOIN_WORDS ?oD_JOIN_WORDS ?wD_JOIN_WORDS ?aD_STRENGTHS ?lD_STRENGTHS ?kD_STRENGTHS ?oD_STRENGTHS ?wD_STRENGTHS ?aI_STRONGEST ?aI_DIGITS ?aI_MOST_DIGITS ?aJ_TOKENS ?lJ_TOKENS ?aD_ATOMS ?lD_ATOMS ?kD_ATOMS ?oD_ATOMS ?wD_ATOMS ?lT_ATOMS_0 ?lT_ATOMS_1 ?lT_ATOMS_2 ?lT_ATOMS_3 ?lT_ATOMS_4 ?lT_ATOMS_5 ?lT_ATOMS_6 ?lT_ATOMS_7 ?lT_ATOMS_8 ?lT_ATOMS_9 ?lT_ATOMS_10 ?lT_ATOMS_11 ?lT_ATOMS_12 ?lT_ATOMS_13 ?aD_PREFIXES ?lD_PREFIXES ?kD_PREFIXES ?oD_PREFIXES ?wD_PREFIXES ?lT_PREFIXES_0 ?lT_PREFIXES_1 ?lT_PREFIXES_2 ?lT_PREFIXES_3 ?lT_PREFIXES_4 ?lT_PREFIXES_5
    (case aC_Part => k_is)
    (case aC_Reader => k_is)
    (case a1 => k_is)
    (case i1 => k_is)
    (case l1 => k_is)
    (case c1 => k_is)
    (case k1 => k_is)
    (case a2 => k_is)
    (case l2 => k_is)
    (case c2 => k_is)
    (case k2 => k_is)
    (case a3 => k_is)
    (case l3 => k_is)
    (case c3 => k_is)
    (case k3 => k_is)
    (case a4 => k_is)
    (case l4 => k_is)
    (case c4 => k_is)
    (case k4 => k_is)
    (case a5 => k_is)
    (case l5 => k_is)
    (case c5 => k_is)
    (case k5 => k_is)
    (case a6 => k_is)
    (case l6 => k_is)
    (case c6 => k_is)
    (case k6 => k_is)
    (case a7 => k_is)
    (case l7 => k_is)
    (case c7 => k_is)
    (case k7 => k_is)
    (case a8 => k_is)
    (case l8 => k_is)
    (case c8 => k_is)
    (case k8 => k_is)
    (case a9 => k_is)
    (case l9 => k_is)
    (case c9 => k_is)
    (case k9 => k_is)
    (case a10 => k_is)
    (case l10 => k_is)
    (case c10 => k_is)
    (case k10 => k_is)
    (case a11 => k_is)
    (case l11 => k_is)
    (case c11 => k_is)
    (case k11 => k_is)
    (case a12 => k_is)
    (case i12 => k_is)
    (case l12 => k_is)
    (case c12 => k_is)
    (case k12 => k_is)
    (case a13 => k_is)
    (case i13 => k_is)
    (case l13 => k_is)
    (case c13 => k_is)
    (case k13 => k_is)
    (case a14 => k_is)
    (case i14 => k_is)
    (case l14 => k_is)
    (case c14 => k_is)
    (case k14 => k_is)
    (case a15 => k_is)
    (case i15 => k_is)
    (case l15 => k_is)
    (case c15 => k_is)
    (case k15 => k_is)
    (case a16 => k_is)
    (case i16 => k_is)
    (case l16 => k_is)
    (case c16 => k_is)
    (case k16 => k_is)
    (case a17 => k_is)
    (case i17 => k_is)
    (case l17 => k_is)
    (case c17 => k_is)
    (case k17 => k_is)
    (case a18 => k_is)
    (case i18 => k_is)
    (case l18 => k_is)
    (case c18 => k_is)
    (case k18 => k_is)
    (case a19 => k_is)
    (case i19 => k_is)
    (case l19 => k_is)
    (case c19 => k_is)
    (case k19 => k_is)
    (case a20 => k_is)
    (case i20 => k_is)
    (case l20 => k_is)
    (case c20 => k_is)
    (case k20 => k_is)
    (case a21 => k_is)
    (case i21 => k_is)
    (case l21 => k_is)
    (case c21 => k_is)
    (case k21 => k_is)
    (case a22 => k_is)
    (case i22 => k_is)
    (case l22 => k_is)
    (case c22 => k_is)
    (case k22 => k_is)
    (case a23 => k_is)
    (case l23 => k_is)
    (case c23 => k_is)
    (case k23 => k_is)
    (case a24 => k_is)
    (case l24 => k_is)
    (case c24 => k_is)
    (case k24 => k_is)
    (case a25 => k_is)
    (case l25 => k_is)
    (case c25 => k_is)
    (case k25 => k_is)
    (case a26 => k_is)
    (case l26 => k_is)
    (case c26 => k_is)
    (case k26 => k_is)
    (case a27 => k_is)
    (case l27 => k_is)
    (case c27 => k_is)
    (case k27 => k_is)
    (case a28 => k_is)
    (case l28 => k_is)
    (case c28 => k_is)
    (case k28 => k_is)
    (case a29 => k_is)
    (case l29 => k_is)
    (case c29 => k_is)
    (case k29 => k_is)
    (case a30 => k_is)
    (case l30 => k_is)
    (case c30 => k_is)
    (case k30 => k_is)
    (case pg_Part => k_is)
    (case hd_Part => k_is)
    (case po_Part => k_is)
    (case sa_Part => k_is)
    (case mk_Part => k_is)
    (case kc_Part => k_is)
    (case n_Part_head => k_is)
    (case n_Part_around => k_is)
    (case n_Part_inner => k_is)
    (case pg_Reader => k_is)
    (case hd_Reader => k_is)
    (case po_Reader => k_is)
    (case sa_Reader => k_is)
    (case mk_Reader => k_is)
    (case kc_Reader => k_is)
    (case n_Reader_text => k_is)
    (case n_Reader_most_digits => k_is)
    (case n_Reader_at => k_is)
    (case n_Reader_token => k_is)
    (case n_Reader_operands => k_is)
    (case n_Reader_pending => k_is)
    (case z_int => k_is)
    (case z_isinstance => k_is)
    (case z_len => k_is)
    (case z_list => k_is)
    (case z_range => k_is)
    (case z_reversed => k_is)
    (case z_str => k_is)
    (case aJ_JOINS => k_is)
    (case lJ_JOINS => k_is)
    (case aD_BINDER_WORDS => k_is)
    (case lD_BINDER_WORDS => k_is)
    (case kD_BINDER_WORDS => k_keys)
    (case oD_BINDER_WORDS => decide)
    (case wD_BINDER_WORDS => exact .cons _ (congrArg (fun z => Value.str z _) (show _ = Fw.sL [108, 101, 97, 115, 116] by decide +kernel)) rfl (.cons _ (congrArg (fun z => Value.str z _) (show _ = Fw.sL [109, 111, 115, 116] by decide +kernel)) rfl (.nil)))
    (case aD_BINDER_KINDS => k_is)
    (case lD_BINDER_KINDS => k_is)
    (case kD_BINDER_KINDS => k_keys)
    (case oD_BINDER_KINDS => decide)
    (case wD_BINDER_KINDS => exact .cons _ (congrArg (fun z => Value.str z _) (show _ = Fw.sL [109, 117] by decide +kernel)) rfl (.cons _ (congrArg (fun z => Value.str z _) (show _ = Fw.sL [110, 117] by decide +kernel)) rfl (.nil)))
    (case aD_SIGNS => k_is)
    (case lD_SIGNS => k_is)
    (case kD_SIGNS => k_keys)
    (case oD_SIGNS => decide)
    (case wD_SIGNS => exact .cons _ (congrArg (fun z => Value.str z _) (show _ = Fw.sL [97, 110, 100] by decide +kernel)) rfl (.cons _ (congrArg (fun z => Value.str z _) (show _ = Fw.sL [111, 114] by decide +kernel)) rfl (.nil)))
    (case aD_JOIN_WORDS => k_is)
    (case lD_JOIN_WORDS => k_is)
    (case kD_JOIN_WORDS => k_keys)
    (case oD_JOIN_WORDS => decide)
    (case wD_JOIN_WORDS => exact .cons _ (congrArg (fun z => Value.str z _) (show _ = Fw.sL [38] by decide +kernel)) rfl (.cons _ (congrArg (fun z => Value.str z _) (show _ = Fw.sL [124] by decide +kernel)) rfl (.nil)))
    (case aD_STRENGTHS => k_is)
    (case lD_STRENGTHS => k_is)
    (case kD_STRENGTHS => k_keys)
    (case oD_STRENGTHS => decide)
    (case wD_STRENGTHS => exact .cons _ (congrArg (fun z => Value.str z _) (show _ = Fw.sL [108, 101, 97, 115, 116] by decide +kernel)) rfl (.cons _ (congrArg (fun z => Value.str z _) (show _ = Fw.sL [109, 111, 115, 116] by decide +kernel)) rfl (.cons _ (congrArg (fun z => Value.str z _) (show _ = Fw.sL [111, 114] by decide +kernel)) rfl (.cons _ (congrArg (fun z => Value.str z _) (show _ = Fw.sL [97, 110, 100] by decide +kernel)) rfl (.nil)))))
    (case aI_STRONGEST => k_is)
    (case aI_DIGITS => k_is)
    (case aI_MOST_DIGITS => k_is)
    (case aJ_TOKENS => k_is)
    (case lJ_TOKENS => k_is)
    (case aD_ATOMS => k_is)
    (case lD_ATOMS => k_is)
    (case kD_ATOMS => k_keys)
    (case oD_ATOMS => decide)
    (case wD_ATOMS => exact .cons _ (congrArg (fun z => Value.str z _) (show _ = Fw.sL [116, 114, 117, 101] by decide +kernel)) rfl (.cons _ (congrArg (fun z => Value.str z _) (show _ = Fw.sL [102, 97, 108, 115, 101] by decide +kernel)) rfl (.cons _ (congrArg (fun z => Value.str z _) (show _ = Fw.sL [112, 48] by decide +kernel)) rfl (.cons _ (congrArg (fun z => Value.str z _) (show _ = Fw.sL [112, 49] by decide +kernel)) rfl (.cons _ (congrArg (fun z => Value.str z _) (show _ = Fw.sL [112, 50] by decide +kernel)) rfl (.cons _ (congrArg (fun z => Value.str z _) (show _ = Fw.sL [112, 51] by decide +kernel)) rfl (.cons _ (congrArg (fun z => Value.str z _) (show _ = Fw.sL [112, 52] by decide +kernel)) rfl (.cons _ (congrArg (fun z => Value.str z _) (show _ = Fw.sL [112, 53] by decide +kernel)) rfl (.cons _ (congrArg (fun z => Value.str z _) (show _ = Fw.sL [33, 112, 48] by decide +kernel)) rfl (.cons _ (congrArg (fun z => Value.str z _) (show _ = Fw.sL [33, 112, 49] by decide +kernel)) rfl (.cons _ (congrArg (fun z => Value.str z _) (show _ = Fw.sL [33, 112, 50] by decide +kernel)) rfl (.cons _ (congrArg (fun z => Value.str z _) (show _ = Fw.sL [33, 112, 51] by decide +kernel)) rfl (.cons _ (congrArg (fun z => Value.str z _) (show _ = Fw.sL [33, 112, 52] by decide +kernel)) rfl (.cons _ (congrArg (fun z => Value.str z _) (show _ = Fw.sL [33, 112, 53] by decide +kernel)) rfl (.nil)))))))))))))))
    (case lT_ATOMS_0 => k_is)
    (case lT_ATOMS_1 => k_is)
    (case lT_ATOMS_2 => k_is)
    (case lT_ATOMS_3 => k_is)
    (case lT_ATOMS_4 => k_is)
    (case lT_ATOMS_5 => k_is)
    (case lT_ATOMS_6 => k_is)
    (case lT_ATOMS_7 => k_is)
    (case lT_ATOMS_8 => k_is)
    (case lT_ATOMS_9 => k_is)
    (case lT_ATOMS_10 => k_is)
    (case lT_ATOMS_11 => k_is)
    (case lT_ATOMS_12 => k_is)
    (case lT_ATOMS_13 => k_is)
    (case aD_PREFIXES => k_is)
    (case lD_PREFIXES => k_is)
    (case kD_PREFIXES => k_keys)
    (case oD_PREFIXES => decide)
    (case wD_PREFIXES => exact .cons _ (congrArg (fun z => Value.str z _) (show _ = Fw.sL [60, 48, 62] by decide +kernel)) rfl (.cons _ (congrArg (fun z => Value.str z _) (show _ = Fw.sL [60, 49, 62] by decide +kernel)) rfl (.cons _ (congrArg (fun z => Value.str z _) (show _ = Fw.sL [60, 50, 62] by decide +kernel)) rfl (.cons _ (congrArg (fun z => Value.str z _) (show _ = Fw.sL [91, 48, 93] by decide +kernel)) rfl (.cons _ (congrArg (fun z => Value.str z _) (show _ = Fw.sL [91, 49, 93] by decide +kernel)) rfl (.cons _ (congrArg (fun z => Value.str z _) (show _ = Fw.sL [91, 50, 93] by decide +kernel)) rfl (.nil)))))))
    (case lT_PREFIXES_0 => k_is)
    (case lT_PREFIXES_1 => k_is)
    (case lT_PREFIXES_2 => k_is)
    (case lT_PREFIXES_3 => k_is)
    (case lT_PREFIXES_4 => k_is)
    (case lT_PREFIXES_5 => k_is)

