import PyProof.Rows.All
import Wide.All
import OpenK.AllK
import Wide.FinOn
import PyProof.EqAt
import PyProof.EqKinds
import PyProof.TupleCall
import HandS.ForMost
import HandS.ForExc
import HandS.Strs
import HandS.SetFor
import HandS.SetBool
import HandS.Walk
import HandS.TupAny
import HandS.Rev
import HandS.RevRange
import HandS.IsInst
import HandS.SortInts
import HandS.ExcIs
import HandS.Flow
import HandS.AnyAll
import HandS.Zip
import PyProof.GenCompD
import HandS.SetKeys
import HandS.SortRule
import PyProof.DictMoreH
import PyProof.Rows.BitMore
import HandS.WideBits
import KE.KDictKeyed
import PySem.Challenge.RW_fixworlds_k35_local_truth
import HandS.EndTab
set_option Elab.async false
set_option linter.all false
set_option maxRecDepth 100000
set_option maxHeartbeats 4000000
/-! two rules for sets of ints: made of a list, and by a comprehension -/
namespace Fw
open PySem PySem.Spec PyProof.Rows L2
abbrev freshSet (w : World) : Obj :=
  { cls := .type "set", dict := none, data := .set #[] 0 (.fresh 0 0 (!w.params.followText "set-order")) }
section
variable {P : Program} {w : World} {A : Around} {E : Value → Shared → Prop} {s : Shared}
/-- set(xs), xs a list of ints -/
theorem setOfList {l : Addr} {its : Array Value} (ns : List Int) {Q : Value → Shared → Prop}
    (quiet : A.handled = none) (lst : s.heap.IsList l its) (iv : IntsAre its.toList ns) (few : ns.length + 1 < scanBound)
    (next : ∀ (h' : Heap) (tk c : Nat), SetR w h' s.heap.objs.size (fun j => decide (j ∈ ns)) c → c ≤ ns.length →
      (∀ b o, s.heap.get? b = some o → h'.get? b = some o) → Q (.ref s.heap.objs.size) { s with heap := h', toks := tk }) :
    wpAny (model P w) A (call (.type "set") [.ref l]) Q E s := by
  have many : its.size = ns.length := by
    rw [← Array.length_toList]
    exact IntsAre.length iv
  have f1 := F.called_set.mro
  obtain ⟨c, tl, hmro⟩ := f1
  have f2 := F.called_set.made
  have f3 := F.called_set.sub
  refine wpAny_call (codeAny_of_tree ?_)
  show wpAny _ _ (callAny (.type "set") _) _ _ _
  refine wpAny_pure ⟨Code.quiet_builtin _ (by decide +kernel), codeAny_builtin F.entry_type_call ?_⟩
  rw [Around.under_plain (weight_type_call_type "set" [.ref l] []) rfl]
  have f4 := F.called_set.notType
  have f5 := F.called_set.canCreate
  have f6 := F.typeCall_set_1 (.ref l)
  repeat (any_goals (first | assumption | wp_step))
  generalize hN : s.heap.objs.size = N
  refine codeAny_mono (code_set_led1 (.ref l) (E := E)
    (Q₁ := fun v t => v = .ref N ∧ t = { s with heap := s.heap.push (freshSet w) }) ⟨by rw [hN], rfl⟩) fun r s₁ hr => ?_
  rcases r with e | fl
  · exact hr
  · cases fl
    case ret v =>
      obtain ⟨rfl, rfl⟩ := hr
      have got : (s.heap.push (freshSet w)).get? N = some (freshSet w) := by
        rw [← hN]
        exact Heap.get?_push_size _ rfl
      have ty : Shared.TypeIs { s with heap := s.heap.push (freshSet w) } (.ref N) "set" := ⟨_, got, rfl⟩
      have g1 := F.called_set.init.lookup
      have g2 := F.called_set.init.bind (.ref N)
      repeat (any_goals (first | assumption | wp_step))
      refine codeAny_mono (codeAny_call_builtin (R := wants (fun v t => v = .none ∧ ∃ h' tk c, t = { s with heap := h', toks := tk } ∧
          SetR w h' N (fun j => decide (j ∈ ns)) c ∧ c ≤ ns.length ∧ (∀ b o, s.heap.get? b = some o → h'.get? b = some o)) E)
          F.called_set.init.plain F.entry_set_init (check_set_init_1 ty ?_)) fun r₂ s₂ hr₂ => ?_
      · obtain ⟨ol, hol, hcl, nl, hdl⟩ := lst
        obtain ⟨ocls, odict, odata, oslots⟩ := ol
        simp only at hcl hdl
        subst hcl
        subst hdl
        have hol' : (s.heap.push (freshSet w)).get? l = some { cls := .type "list", dict := odict, data := .seq its nl, slots := oslots } :=
          Heap.get?_push_of_some _ hol
        have k1 := F.sub_list_set
        have k2 := F.sub_list_frozenset
        have k3 : (Value.type "list" == Value.type "dict") = false := by decide
        have lst1 : (s.heap.push (freshSet w)).IsList l its := ⟨_, hol', rfl, nl, rfl⟩
        unfold Builtin.«set.__init__» noKeywords Builtin.Frozenset.updateFrom
        generalize hPI : pyIter = PI
        wp_walk
        subst hPI
        refine wpAny_pyIter_list lst1 (wpAny_bind (wpAny_runValue ?_))
        have lN : l < N := by
          rw [← hN]
          exact Heap.lt_size hol
        have quiet3 : A.in1.in1.in1.handled = none := by simp [quiet]
        have size1 : (s.heap.push (freshSet w)).objs.size = N + 1 := by rw [Heap.size_push, hN]
        have l1 : l ≠ (s.heap.push (freshSet w)).objs.size := by
          rw [size1]
          exact Nat.ne_of_lt (Nat.lt_succ_of_lt lN)
        have n1 : N ∉ [(s.heap.push (freshSet w)).objs.size, l] := by
          rw [size1]
          simp only [List.mem_cons, List.not_mem_nil, or_false, not_or]
          exact ⟨Nat.ne_of_lt (Nat.lt_succ_self _), Nat.ne_of_gt lN⟩
        refine set_update_ints ((Walks.list quiet3 _ l l1 its).toS) N n1 ns many few (fun i v hv => ?_) (its.size - 0) 0 _ (by omega) (Nat.zero_le _)
          ⟨⟨_, Heap.get?_push_size _ rfl, rfl, rfl⟩, lst1.push _⟩ ⟨0, Nat.le_refl 0, setR_new_at (Heap.get?_push_of_some _ got)⟩ fun s' c' hm hc' hS' => ?_
        · have hi : i < ns.length := by
            rw [← many]
            exact (Array.getElem?_eq_some_iff.mp hv).1
          obtain ⟨t, e⟩ := PyProof.Rows.IntsAre.int_at iv i v (by rw [Array.getElem?_toList]; exact hv)
          refine ⟨ns[i], t, List.getElem?_eq_getElem hi, ?_⟩
          rw [e, List.getD_eq_getElem?_getD, List.getElem?_eq_getElem hi]
          rfl
        · obtain ⟨h', g2, d', tk', os'⟩ := s'
          obtain rfl : g2 = s.gens := hm.gens
          obtain rfl : d' = s.drawn := hm.drawn
          obtain rfl : os' = s.os := hm.os
          show wpAny _ _ _ _ _ _
          refine wpAny_pure ?_
          show wpAny _ _ (ret Value.none) _ _ _
          rw [many] at hc'
          refine wpAny_pure ⟨rfl, h', tk', c', rfl, hS', hc', fun b o e => ?_⟩
          have bN : b < N := by
            rw [← hN]
            exact Heap.lt_size e
          refine hm.heap b o ?_ (Heap.get?_push_of_some _ (Heap.get?_push_of_some _ e))
          rw [size1]
          simp only [List.mem_cons, List.not_mem_nil, or_false, not_or]
          exact ⟨Nat.ne_of_lt bN, Nat.ne_of_lt (Nat.lt_succ_of_lt bN)⟩
      · rcases r₂ with e | fl₂
        · exact hr₂
        · cases fl₂
          case ret r =>
            obtain ⟨rfl, h', tk, c', rfl, hS', hc', hk'⟩ := hr₂
            repeat (any_goals (first | assumption | wp_step))
            subst hN
            exact next _ _ _ hS' hc' hk'
          all_goals exact hr₂.elim
    all_goals exact hr.elim
end
end Fw

set_option maxRecDepth 100000
set_option maxHeartbeats 4000000
namespace Fw
open PySem PySem.Spec PyProof.Rows L2
theorem intsOfVals : ∀ {ns : List Int} {us : List Value}, Vals (ns.map V.int) us → IntsAre us ns
  | [], _, .nil => .nil
  | k :: _, _, .cons r t => by
    obtain ⟨tk, rfl⟩ := r
    exact .cons k tk (intsOfVals t)
theorem nodup_le : ∀ {l Vs : List Int}, l.Nodup → (∀ x ∈ l, x ∈ Vs) → l.length ≤ Vs.length
  | [], Vs, _, _ => Nat.zero_le _
  | a :: l, Vs, nd, h => by
    have nd' := List.nodup_cons.mp nd
    have ha := h a List.mem_cons_self
    have ih := nodup_le (Vs := Vs.erase a) nd'.2 fun x hx =>
      (List.mem_erase_of_ne (fun e => nd'.1 (by rw [← e]; exact hx))).mpr (h x (List.mem_cons_of_mem _ hx))
    have := List.length_erase_of_mem ha
    have : 0 < Vs.length := List.length_pos_of_mem ha
    rw [List.length_cons]
    omega
section
variable {X : Cx}
/-- set(xs), xs a list of ints -/
def rSetL (K : PySem.W.Frag) (w : World) : List V → Hp → VK → Prop := fun vs H Q => ∃ (l : Addr) (ns : List Int),
  vs = [V.ref l] ∧ SqL K H l (ns.map V.int) ∧ ns.length ≤ 4000 ∧
  ∀ p c, H p = none → c ≤ ns.length → (∀ Vs : List Int, (∀ x ∈ ns, x ∈ Vs) → c ≤ Vs.length) → Q (.ref p) (upd H p (SetO w p (fun j => decide (j ∈ ns)) c))
theorem call_setL (quiet : X.calm = true) : CallR X (.type "set") (rSetL X.K X.w) := by
  intro pins s σ H vs us Q I r h
  obtain ⟨l, ns, rfl, hl, few, q⟩ := h
  obtain ⟨its, rv, pl, _⟩ := I.list hl
  rw [Vals.ref1 r]
  have iv := intsOfVals rv
  have isl : s.heap.IsList l its.toArray := by
    obtain ⟨o, n, e1, e2, e3, e4⟩ := pl
    exact ⟨o, e1, e2, n, e4⟩
  refine setOfList ns (I.ok.hd quiet) isl (by simpa using iv) (Nat.lt_of_le_of_lt (Nat.succ_le_succ few) (by decide)) fun h' tk c R hc kp => ?_
  have fr : H s.heap.objs.size = none := I.hok.fresh (Nat.le_refl _)
  refine ⟨.ref _, _, I.laid (t' := tk) kp (Nat.le_refl _) (setO_new R), rfl, q _ c fr hc fun Vs hV => ?_⟩
  obtain ⟨o, es, ep, t, _, _, _, _, nd, mem, _, _, size, _⟩ := R
  rw [← size, ← Array.length_toList, ← List.length_map (f := keyOf)]
  exact nodup_le nd fun x hx => hV x (of_decide_eq_true ((mem x).mpr hx))
/-- what a comprehension of ints into a set asks: W tells the turns, D is the new set -/
def tSci (w : World) (wi : TI) (g : TG) (tt : TT) (te : TE) (vs : List Nat) : TE := fun σ H Q => wi σ H fun J H1 => ∀ D, H1 D = none →
  ∃ W : Nat → Nat → Hp → Prop, (∃ m, W 0 m (upd H1 D (SetO w D (fun _ => false) 0))) ∧ ∀ i m H, W i m H →
    (J.stop i H ∧ Q (.ref D) H) ∨ (J.go i H ∧ ∃ Nx : Hp → Prop, (∀ H', Nx H' → ∃ m', m' < m ∧ W (i + 1) m' H') ∧
      ∀ x H', J.yld i H x H' → g x (wipe σ vs) H' fun σ2 H2 => wipe σ2 vs = wipe σ vs ∧ tt σ2 H2 fun b H3 =>
        if b = true then te σ2 H3 fun y H4 => ∃ (k : Int) (S : Int → Bool) (n : Nat), y = .int k ∧ H4 D = some (SetO w D S n) ∧ n + 1 < scanBound ∧
          Nx (upd H4 D (SetO w D (fun j => S j || decide (j = k)) (if S k = true then n else n + 1))) else Nx H3)
theorem addInt {pins : List (Addr × Obj)} {σ : L2.St} {H : Hp} {s : Shared} {E : Value → Shared → Prop} {D : Addr} {S : Int → Bool} {n : Nat} {k : Int} {tk : Tok} {Q : Value → Shared → Prop}
    (I : Inv X pins σ H s) (at_ : H D = some (SetO X.w D S n)) (room : n + 1 < scanBound)
    (next : ∀ s', Inv X pins σ (upd H D (SetO X.w D (fun j => S j || decide (j = k)) (if S k = true then n else n + 1))) s' → Q .none s') :
    wpAny (model X.prog X.w) X.A (call (.builtin "set.add") [.ref D, .int k tk]) Q E s := by
  refine setR_add (setO_get I at_) room fun h' sb R => next _ ?_
  have there : ∃ u, h'.get? D = some u := by
    obtain ⟨o, _, _, _, e, _⟩ := id R
    exact ⟨o, e⟩
  exact I.write (e := D) (t' := s.toks + 1) (by rw [at_]; trivial) (.inl rfl) (fun b u hb hu => (sb.2 b hb).trans hu) there (setO_new R)
abbrev inner (X : Cx) (s : Shared) (scope : Scope) : Env :=
  compEnvC scope (cellsFrom (s.heap.objs.size + 1) scope.names (cloFrom X.env.cells scope.names [])) s.heap.objs.size X.env
theorem setComp {pins : List (Addr × Obj)} {s : Shared} {σ : L2.St} {H : Hp} {Q : VK} {elt tg iter : Expr} {ifs : List Expr} {scope : Scope} {own : List (PySem.Str × Nat)} {pos pos' : Pos} {wi : TI} {g : TG} {tt : TT} {te : TE}
    {use : Option (Value → Sem Unit)} {Qf : Value → Shared → Prop}
    (quiet : X.calm = true) (nd : X.N.Nodup) (I : Inv X pins σ H s) (ii : PI X tg iter wi) (blk : BlkOk X.N X.env.scope scope own)
    (gg : ∀ s H C cl fp, PG (X.blk s H scope (compEnvC scope cl C X.env) fp) tg g)
    (tts : ∀ s H C cl fp, PTs (X.blk s H scope (compEnvC scope cl C X.env) fp) ifs tt)
    (ee : ∀ s H C cl fp, PE (X.blk s H scope (compEnvC scope cl C X.env) fp) elt te)
    (fold : ∀ x, foldedSetIterable iter X.env x = pure x) (h : tSci X.w wi g tt te (own.map (·.2)) σ H Q)
    (fin : ∀ D C s' m H', Inv X pins σ H' s' → Q (.ref D) H' → s'.heap.Ns C m → FpOk X pins H' C →
      compPost (model X.prog X.w) X.A X.xe use Qf (.ref D) C (.ok .next) s') :
    wpAny (model X.prog X.w) X.A (comprehension (.SetComp elt [⟨tg, iter, ifs, 0⟩] scope pos) scope X.env pos' (newSet (.type "set")) false (eval iter X.env) use) Qf X.xe s := by
  have clo : ∀ y ∈ scope.names, y.2 = .free → ∃ c, X.env.cells.lookup y.1 = some c := fun y hy e =>
    (blk.free y hy e).elim (fun k => I.ok.has _ (.inl k)) fun k => I.ok.has _ (.inr k)
  refine wpAny_comprehension_free (use := use) rfl fold (closure_ok clo) blk.kind (fun y hy e => by rw [blk.uniq y hy, e])
    (thn (ii.run pins s σ H _ I h) fun xv s1 hx => thn hx fun itv s2 h2 => ?_)
  obtain ⟨it, fp, tn, J, H2, rfl, I2, T, t0, fp2, q⟩ := h2
  refine PpSet.newSet_ok (newEnv_comp ?_)
  generalize eD : s2.heap.objs.size = D
  obtain ⟨W, ⟨m0, w0⟩, turn⟩ := q D (I2.hok.fresh (Nat.le_of_eq eD))
  generalize e3 : ({ s2 with heap := s2.heap.push (freshSet X.w) } : Shared) = s3
  have heap3 : s3.heap = s2.heap.push (freshSet X.w) := by rw [← e3]
  have up3 : ∀ b o, s2.heap.get? b = some o → s3.heap.get? b = some o := fun b o e => by
    rw [heap3]
    exact Heap.get?_push_of_some _ e
  generalize eH : upd H2 D (SetO X.w D (fun _ => false) 0) = H3 at w0
  have I3 : Inv X pins σ H3 s3 := by
    rw [← eH, ← e3, ← eD]
    exact I2.laid (t' := s2.toks) (fun b o e => Heap.get?_push_of_some _ e) (Nat.le_refl _) (setO_new (setR_fresh X.w))
  have fp3 : ∀ b ∈ fp, FpOk X pins H3 b ∧ b < s3.heap.objs.size := fun b hb => by
    obtain ⟨o, e, _⟩ := T.obj _ _ t0 b hb
    have lt := Heap.lt_size e
    refine ⟨⟨?_, (fp2 b hb).2⟩, ?_⟩
    · rw [← eH, upd_ne (show b ≠ D by rw [← eD]; exact Nat.ne_of_lt lt)]
      exact (fp2 b hb).1
    · rw [heap3, Heap.size_push]
      exact Nat.lt_succ_of_lt lt
  have t3 : tn 0 s3.heap := T.keep _ _ _ t0 fun b _ o e => up3 b o e
  have I4 := block_start I3 blk nd fp3
  have g4 := gg s3 H3 s3.heap.objs.size (cellsFrom (s3.heap.objs.size + 1) scope.names (cloFrom X.env.cells scope.names [])) fp
  have t4 := tts s3 H3 s3.heap.objs.size (cellsFrom (s3.heap.objs.size + 1) scope.names (cloFrom X.env.cells scope.names [])) fp
  have e4 := ee s3 H3 s3.heap.objs.size (cellsFrom (s3.heap.objs.size + 1) scope.names (cloFrom X.env.cells scope.names [])) fp
  show codeAny _ _ (.compStart (.SetComp elt [⟨tg, iter, ifs, 0⟩] scope pos) 0 (.ref it) (.ref D)
      (compEnvC scope (cellsFrom (s3.heap.objs.size + 1) scope.names (cloFrom X.env.cells scope.names [])) s3.heap.objs.size X.env))
    (compPost (model X.prog X.w) X.A X.xe use Qf (.ref D) s3.heap.objs.size) { s3 with heap := pushCells (s3.heap.push { cls := .type "dict", data := .dict #[] }) scope.names }
  generalize eC : compEnvC scope (cellsFrom (s3.heap.objs.size + 1) scope.names (cloFrom X.env.cells scope.names [])) s3.heap.objs.size X.env = ce at I4 g4 t4 e4 ⊢
  have locs : ce.locals = s3.heap.objs.size := by
    subst eC
    rfl
  generalize eS : ({ s3 with heap := pushCells (s3.heap.push { cls := .type "dict", data := .dict #[] }) scope.names } : Shared) = s4 at I4 ⊢
  have ts4 : tn 0 s4.heap := T.keep _ _ _ t3 fun b _ o e => by
    rw [← eS]
    exact pushCells_keeps _ _ _ _ (Heap.get?_push_of_some _ e)
  have held : ∀ {σ' : L2.St} {H' : Hp} {s' : Shared}, Inv (X.blk s3 H3 scope ce fp) [] σ' H' s' → (∀ b ∈ fp, H' b = none) →
      ∀ b ∈ fp, FpOk (X.blk s3 H3 scope ce fp) [] H' b := fun {σ' H' s'} I' hn b hb =>
    have x := I'.ok.exf b hb
    ⟨hn b hb, x.1, I'.ok.exfs b hb, .inl hb, fun y c e => x.2 y c e, fun p hp => by cases hp⟩
  have body : codeAny (model X.prog X.w) X.A (.compLoop (.SetComp elt [⟨tg, iter, ifs, 0⟩] scope pos) 0 (.ref it) (.ref D) ce)
      (compPost (model X.prog X.w) X.A X.xe use Qf (.ref D) s3.heap.objs.size) s4 := by
    refine PpSet.compLoopS_any (fun n t => ∃ i G, Inv (X.blk s3 H3 scope ce fp) [] (wipe σ (own.map (·.2))) G t ∧ tn i t.heap ∧ (∀ b ∈ fp, G b = none) ∧ W i n G)
      ?_ m0 ⟨0, H3, I4, ts4, fun b hb => (fp3 b hb).1.1, w0⟩
    rintro n s5 ⟨i, H5, I5, t5, free5, w5⟩
    rcases turn i n H5 w5 with ⟨stop, qq⟩ | ⟨go, Nx, dec, step⟩
    · refine thnF (T.done (X.blk s3 H3 scope ce fp) rfl rfl rfl quiet i [] s5 _ H5 (fun _ _ => False) I5 (held I5 free5) t5 stop) fun r s6 ⟨hr, I6⟩ => ?_
      subst hr
      have free6 : H5 ce.locals = none := I6.free
      obtain ⟨m, ns6, _⟩ := I6.loc
      have ns6' : s6.heap.Ns ce.locals m := ns6
      rw [locs] at free6 ns6'
      have I7 : Inv X pins σ H5 s6 := I3.call' (ch := fp) I6.os I6.base I6.hok I6.bare fun b hb =>
        have z := (fp3 b hb).1
        ⟨z.2.2.2.1, z.2.1, z.2.2.2.2.1, z.2.2.2.2.2⟩
      exact fin D s3.heap.objs.size s6 m H5 I7 qq ns6' (I3.fpOk (Nat.le_refl _) free6)
    · refine thnF (T.item (X.blk s3 H3 scope ce fp) rfl rfl rfl quiet i [] s5 _ H5 (fun _ _ => False) I5 (held I5 free5) t5 go) fun r s6 ⟨u, hr, h6⟩ => ?_
      subst hr
      refine thnF h6 fun _ s7 ⟨x, H7, I7, rx, y7, t7, free7⟩ => ?_
      refine thnF (g4.run _ s7 _ H7 x u _ (I7.pinned (held I7 free7) (T.obj _ _ t7)) rx (step x H7 y7)) fun _ s8 ⟨σ8, H8, I8, wi8, q8⟩ => ?_
      refine thnF (t4.run _ s8 σ8 H8 _ I8 q8) fun b s9 ⟨H9, I9, q9⟩ => ?_
      have over : ∀ {t : Shared} {G : Hp}, Inv (X.blk s3 H3 scope ce fp) ([] ++ pinsAt fp s7.heap) σ8 G t → Nx G →
          ∃ m, m < n ∧ ∃ i G, Inv (X.blk s3 H3 scope ce fp) [] (wipe σ (own.map (·.2))) G t ∧ tn i t.heap ∧ (∀ b ∈ fp, G b = none) ∧ W i m G := fun {t G} It nx => by
        obtain ⟨m', lt, w'⟩ := dec G nx
        have same : ∀ b ∈ fp, ∀ o, s7.heap.get? b = some o → t.heap.get? b = some o ∧ G b = none := fun b hb o e =>
          have z := It.pin (b, o) (List.mem_append_right _ (List.mem_append_right _ (mem_pinsAt hb e)))
          ⟨z.1, z.2.1⟩
        refine ⟨m', lt, i + 1, G, (It.unpinned (pins := [])).weak (by rw [← wi8, wipe_length]) (fun j v e => ?_), T.keep _ _ _ t7 fun b hb o e => (same b hb o e).1, fun b hb => ?_, w'⟩
        · rw [← wi8] at e
          exact (wipe_some e).1
        · obtain ⟨o, e, _⟩ := T.obj _ _ t7 b hb
          exact (same b hb o e).2
      cases b
      · simp only [Bool.false_eq_true, if_false] at q9 ⊢
        exact over I9 q9
      · simp only [if_true] at q9 ⊢
        refine thnF (e4.run _ s9 σ8 H9 _ I9 q9) fun z s10 ⟨yv, H10, I10, rz, k, S0, n0, ey, hD, room, nx⟩ => ?_
        subst ey
        obtain ⟨tk, rfl⟩ : ∃ tk, z = Value.int k tk := rz
        exact addInt (X := X.blk s3 H3 scope ce fp) I10 hD room fun s11 I11 => over I11 nx
  exact PpSet.codeAny_compStart_set body (T.self X.A 0 _ _ _ ts4 body)
/-- {e for target in iter if test}, e an int -/
theorem pe_sci {elt tg iter : Expr} {ifs : List Expr} {scope : Scope} {own : List (PySem.Str × Nat)} {pos : Pos} {wi : TI} {g : TG} {tt : TT} {te : TE} (quiet : X.calm = true) (nd : X.N.Nodup) (ii : PI X tg iter wi) (blk : BlkOk X.N X.env.scope scope own)
    (gg : ∀ (s : Shared) (H : Hp) (C : Addr) (cl : List (PySem.Str × Addr)) (fp : List Addr), PG (X.blk s H scope (compEnvC scope cl C X.env) fp) tg g)
    (tts : ∀ (s : Shared) (H : Hp) (C : Addr) (cl : List (PySem.Str × Addr)) (fp : List Addr), PTs (X.blk s H scope (compEnvC scope cl C X.env) fp) ifs tt)
    (ee : ∀ (s : Shared) (H : Hp) (C : Addr) (cl : List (PySem.Str × Addr)) (fp : List Addr), PE (X.blk s H scope (compEnvC scope cl C X.env) fp) elt te)
    (fold : ∀ x, foldedSetIterable iter X.env x = pure x := by intro _; rfl) :
    PE X (.SetComp elt [⟨tg, iter, ifs, 0⟩] scope pos) (tSci X.w wi g tt te (own.map (·.2))) := by
  constructor
  intro pins s σ H Q I h
  rw [PpSet.eval_SetComp]
  refine setComp quiet nd I ii blk gg tts ee fold h fun D C s' m H' I' q hn f => ⟨m, hn, fun h'' sb => ⟨.ref D, H', ?_, rfl, q⟩⟩
  exact I'.turned (t' := s'.toks) (fun b o hb e => (sb.2 b hb).trans e) f.1 f.2.1 f.2.2.2.1 f.2.2.2.2.1 f.2.2.2.2.2
end
/-- over any walk: Pv by the turn and the heap -/
theorem sci_it {J : It} {n : Nat} {G : Hp → Prop} {Y : Nat → Hp → V → Hp → Prop} (w : Walk J n G Y) {wd : World} {g : TG} {tt : TT} {te : TE} {vs : List Nat} {σ : L2.St} {H1 : Hp} {D : Addr} {Qd : Hp → Prop} (Pv : Nat → Hp → Prop)
    (h0 : Pv 0 (upd H1 D (SetO wd D (fun _ => false) 0))) (hG : ∀ i H, i ≤ n → Pv i H → G H)
    (hs : ∀ i x H H', i < n → Pv i H → Y i H x H' → g x (wipe σ vs) H' fun σ2 H2 => wipe σ2 vs = wipe σ vs ∧ tt σ2 H2 fun b H3 =>
      if b = true then te σ2 H3 fun y H4 => ∃ (k : Int) (S : Int → Bool) (m : Nat), y = .int k ∧ H4 D = some (SetO wd D S m) ∧ m + 1 < scanBound ∧
        Pv (i + 1) (upd H4 D (SetO wd D (fun j => S j || decide (j = k)) (if S k = true then m else m + 1))) else Pv (i + 1) H3) (hd : ∀ H, Pv n H → Qd H) :
    ∃ W : Nat → Nat → Hp → Prop, (∃ m, W 0 m (upd H1 D (SetO wd D (fun _ => false) 0))) ∧ ∀ i m H, W i m H →
      (J.stop i H ∧ Qd H) ∨ (J.go i H ∧ ∃ Nx : Hp → Prop, (∀ H', Nx H' → ∃ m', m' < m ∧ W (i + 1) m' H') ∧ ∀ x H', J.yld i H x H' → g x (wipe σ vs) H' fun σ2 H2 => wipe σ2 vs = wipe σ vs ∧ tt σ2 H2 fun b H3 =>
        if b = true then te σ2 H3 fun y H4 => ∃ (k : Int) (S : Int → Bool) (m : Nat), y = .int k ∧ H4 D = some (SetO wd D S m) ∧ m + 1 < scanBound ∧
          Nx (upd H4 D (SetO wd D (fun j => S j || decide (j = k)) (if S k = true then m else m + 1))) else Nx H3) := by
  refine ⟨fun i m H => m + i = n ∧ Pv i H, ⟨n, rfl, h0⟩, fun i m H hW => ?_⟩
  obtain ⟨e, p⟩ := hW
  have q := hG i H (by omega) p
  cases m with
  | zero =>
    have e2 : i = n := by omega
    subst e2
    exact .inl ⟨w.stops H q, hd H p⟩
  | succ m =>
    have lt : i < n := by omega
    exact .inr ⟨w.goes i H lt q, Pv (i + 1), fun H' p' => ⟨m, Nat.lt_succ_self m, by omega, p'⟩, fun x H' y => hs i x H H' lt p (w.yields i H x H' lt q y)⟩
end Fw

/-! Statements as trees, and what the passes over their parts find. Plain Lean. -/
namespace Fw
inductive Leaf | has | lacks | var
  deriving DecidableEq
inductive One | some | all | least | most
  deriving DecidableEq
def One.bind : One → Bool
  | .least => true
  | .most => true
  | _ => false
inductive F
  | nul (b : Bool)
  | leaf (k : Leaf) (n : Int)
  | two (b : Bool) (f g : F)
  | one (k : One) (n : Int) (f : F)
  deriving DecidableEq
inductive Hd
  | nul (b : Bool)
  | leaf (k : Leaf) (n : Int)
  | two (b : Bool)
  | one (k : One) (n : Int)
  deriving DecidableEq
def F.hd : F → Hd
  | .nul b => .nul b
  | .leaf k n => .leaf k n
  | .two b _ _ => .two b
  | .one k n _ => .one k n
def F.size : F → Nat
  | .nul _ => 1
  | .leaf _ _ => 1
  | .two _ f g => f.size + g.size + 1
  | .one _ _ f => f.size + 1
def F.depth : F → Nat
  | .nul _ => 1
  | .leaf _ _ => 1
  | .two _ f g => max f.depth g.depth + 1
  | .one _ _ f => f.depth + 1
theorem F.size_pos (t : F) : 0 < t.size := by cases t <;> simp [F.size]
theorem F.size_depth : ∀ t : F, t.size + 1 ≤ 2 ^ t.depth
  | .nul _ => by simp [F.size, F.depth]
  | .leaf _ _ => by simp [F.size, F.depth]
  | .two _ f g => by
    have h1 := F.size_depth f
    have h2 := F.size_depth g
    have m1 : 2 ^ f.depth ≤ 2 ^ max f.depth g.depth := Nat.pow_le_pow_right (by decide) (Nat.le_max_left _ _)
    have m2 : 2 ^ g.depth ≤ 2 ^ max f.depth g.depth := Nat.pow_le_pow_right (by decide) (Nat.le_max_right _ _)
    simp only [F.size, F.depth, Nat.pow_succ]
    omega
  | .one _ _ f => by
    have h1 := F.size_depth f
    have h2 := F.size_pos f
    simp only [F.size, F.depth, Nat.pow_succ]
    omega
abbrev Stk := List (Int × Nat)
structure Rec where
  sub : F
  aro : Int
  stk : Stk
def pushS : F → Nat → Stk → Stk
  | .one k n _, i, st => if k.bind then (n, i) :: st else st
  | _, _, st => st
def info : F → Int → Nat → Stk → List Rec
  | .nul b, a, _, st => [⟨.nul b, a, st⟩]
  | .leaf k n, a, _, st => [⟨.leaf k n, a, st⟩]
  | .two b f g, a, i, st => ⟨.two b f g, a, st⟩ :: (info f i (i + 1) st ++ info g i (i + 1 + f.size) st)
  | .one k n f, a, i, st => ⟨.one k n f, a, st⟩ :: info f i (i + 1) (if k.bind then (n, i) :: st else st)
theorem info_len : ∀ (t : F) (a : Int) (i : Nat) (st : Stk), (info t a i st).length = t.size
  | .nul _, _, _, _ => rfl
  | .leaf _ _, _, _, _ => rfl
  | .two _ f g, a, i, st => by simp [info, F.size, info_len f, info_len g]
  | .one k n f, a, i, st => by simp [info, F.size, info_len f]
theorem info_head : ∀ (t : F) (a : Int) (i : Nat) (st : Stk), (info t a i st)[0]? = some ⟨t, a, st⟩
  | .nul _, _, _, _ => rfl
  | .leaf _ _, _, _, _ => rfl
  | .two _ _ _, _, _, _ => rfl
  | .one _ _ _, _, _, _ => rfl
/-! ### a part's record and the one around it -/
theorem info_up : ∀ (t : F) (a : Int) (i : Nat) (st : Stk) (j : Nat) (r : Rec), (info t a i st)[j]? = some r →
    (j = 0 ∧ r = ⟨t, a, st⟩) ∨ ∃ p r', p < j ∧ (info t a i st)[p]? = some r' ∧ r.aro = ((i + p : Nat) : Int) ∧ r.stk = pushS r'.sub (i + p) r'.stk
  | .nul b, a, i, st, j, r, h => by
    cases j with
    | zero => exact .inl ⟨rfl, (Option.some.inj h).symm⟩
    | succ j => simp [info] at h
  | .leaf k n, a, i, st, j, r, h => by
    cases j with
    | zero => exact .inl ⟨rfl, (Option.some.inj h).symm⟩
    | succ j => simp [info] at h
  | .two b f g, a, i, st, j, r, h => by
    cases j with
    | zero => exact .inl ⟨rfl, (Option.some.inj h).symm⟩
    | succ j =>
      simp only [info, List.getElem?_cons_succ] at h
      by_cases lt : j < f.size
      · rw [List.getElem?_append_left (by rw [info_len]; exact lt)] at h
        rcases info_up f i (i + 1) st j r h with ⟨rfl, rfl⟩ | ⟨p, r', hp, e, e1, e2⟩
        · exact .inr ⟨0, ⟨.two b f g, a, st⟩, Nat.succ_pos _, rfl, by simp, rfl⟩
        · refine .inr ⟨p + 1, r', by omega, ?_, by rw [e1]; congr 1; omega, by rw [e2]; congr 1; omega⟩
          simp only [info, List.getElem?_cons_succ]
          rw [List.getElem?_append_left (by rw [info_len]; omega)]
          exact e
      · rw [List.getElem?_append_right (by rw [info_len]; omega), info_len] at h
        rcases info_up g i (i + 1 + f.size) st (j - f.size) r h with ⟨e0, rfl⟩ | ⟨p, r', hp, e, e1, e2⟩
        · exact .inr ⟨0, ⟨.two b f g, a, st⟩, Nat.succ_pos _, rfl, by simp, rfl⟩
        · refine .inr ⟨p + f.size + 1, r', by omega, ?_, by rw [e1]; congr 1; omega, by rw [e2]; congr 1; omega⟩
          simp only [info, List.getElem?_cons_succ]
          rw [List.getElem?_append_right (by rw [info_len]; omega), info_len, show p + f.size - f.size = p by omega]
          exact e
  | .one k n f, a, i, st, j, r, h => by
    cases j with
    | zero => exact .inl ⟨rfl, (Option.some.inj h).symm⟩
    | succ j =>
      simp only [info, List.getElem?_cons_succ] at h
      rcases info_up f i (i + 1) _ j r h with ⟨rfl, rfl⟩ | ⟨p, r', hp, e, e1, e2⟩
      · exact .inr ⟨0, ⟨.one k n f, a, st⟩, Nat.succ_pos _, rfl, by simp, rfl⟩
      · refine .inr ⟨p + 1, r', by omega, ?_, by rw [e1]; congr 1; omega, by rw [e2]; congr 1; omega⟩
        simp only [info, List.getElem?_cons_succ]
        exact e
/-- the whole, seen from its root -/
abbrev infos (t : F) : List Rec := info t (-1) 0 []
theorem infos_stk {t : F} : ∀ (m j : Nat) (r : Rec) (x : Int) (q : Nat) (rest : Stk), j ≤ m → (infos t)[j]? = some r → r.stk = (x, q) :: rest →
    q < j ∧ ∃ k f a, (infos t)[q]? = some ⟨.one k x f, a, rest⟩ ∧ k.bind = true := by
  intro m
  induction m with
  | zero =>
    intro j r x q rest hj h e
    have : j = 0 := by omega
    subst this
    rw [info_head] at h
    cases h
    cases e
  | succ m ih =>
    intro j r x q rest hj h e
    rcases info_up t (-1) 0 [] j r h with ⟨rfl, rfl⟩ | ⟨p, r', hp, e1, _, e2⟩
    · cases e
    · rw [Nat.zero_add] at e2
      obtain ⟨s, a', st'⟩ := r'
      have old : r.stk = st' → q < j ∧ ∃ k f a, (infos t)[q]? = some ⟨.one k x f, a, rest⟩ ∧ k.bind = true := fun e3 => by
        have z := ih p ⟨s, a', st'⟩ x q rest (by omega) e1 (by rw [← e3]; exact e)
        exact ⟨by omega, z.2⟩
      cases s with
      | nul b => exact old e2
      | leaf k n => exact old e2
      | two b f g => exact old e2
      | one k n f =>
        simp only [pushS] at e2
        by_cases hb : k.bind = true
        · rw [if_pos hb, e] at e2
          injection e2 with e3 e4
          injection e3 with e5 e6
          subst e5
          subst e6
          subst e4
          exact ⟨hp, k, f, a', e1, hb⟩
        · rw [if_neg hb] at e2
          exact old e2
/-! ### the parts directly in a part -/
def kidsFrom : List Int → Nat → Nat → List Nat
  | [], _, _ => []
  | a :: r, j, i => if a = (i : Int) then j :: kidsFrom r (j + 1) i else kidsFrom r (j + 1) i
theorem kids_app : ∀ (A B : List Int) (j i : Nat), kidsFrom (A ++ B) j i = kidsFrom A j i ++ kidsFrom B (j + A.length) i
  | [], _, _, _ => by simp [kidsFrom]
  | a :: A, B, j, i => by
    simp only [List.cons_append, kidsFrom, List.length_cons]
    rw [kids_app A B (j + 1) i, show j + 1 + A.length = j + (A.length + 1) by omega]
    split <;> simp
theorem kids_none : ∀ (A : List Int) (j i : Nat), (∀ a ∈ A, a ≠ (i : Int)) → kidsFrom A j i = []
  | [], _, _, _ => rfl
  | a :: A, j, i, h => by
    simp only [kidsFrom]
    rw [if_neg (h a List.mem_cons_self)]
    exact kids_none A _ _ fun b hb => h b (List.mem_cons_of_mem _ hb)
def arounds (I : List Rec) : List Int := I.map Rec.aro
theorem aro_range : ∀ (t : F) (a : Int) (i : Nat) (st : Stk) (x : Int), x ∈ arounds (info t a i st) → x = a ∨ ((i : Int) ≤ x ∧ x < ((i + t.size : Nat) : Int))
  | .nul _, a, i, st, x, h => by
    simp [arounds, info] at h
    exact .inl h
  | .leaf _ _, a, i, st, x, h => by
    simp [arounds, info] at h
    exact .inl h
  | .two b f g, a, i, st, x, h => by
    simp only [arounds, info, List.map_cons, List.map_append, List.mem_cons, List.mem_append] at h
    rcases h with h | h | h
    · exact .inl h
    · have := aro_range f i (i + 1) st x h
      simp only [F.size]
      omega
    · have := aro_range g i (i + 1 + f.size) st x h
      simp only [F.size]
      omega
  | .one k n f, a, i, st, x, h => by
    simp only [arounds, info, List.map_cons, List.mem_cons] at h
    rcases h with h | h
    · exact .inl h
    · have := aro_range f i (i + 1) _ x h
      simp only [F.size]
      omega
/-- where a part's own parts stand among all -/
def Sits (I : List Rec) (i j : Nat) (r : Rec) : Prop :=
  ∃ A B, I = A ++ info r.sub r.aro (i + j) r.stk ++ B ∧ A.length = j ∧ (∀ x ∈ arounds A, x ≠ ((i + j : Nat) : Int)) ∧ (∀ x ∈ arounds B, x < ((i + j : Nat) : Int) ∨ ((i + j + r.sub.size : Nat) : Int) ≤ x) ∧ r.aro < ((i + j : Nat) : Int) ∧
    (∀ x ∈ arounds A, x < ((i + j : Nat) : Int))
theorem info_sits : ∀ (t : F) (a : Int) (i : Nat) (st : Stk) (j : Nat) (r : Rec), a < (i : Int) → (info t a i st)[j]? = some r → Sits (info t a i st) i j r := by
  have zero : ∀ (t : F) (a : Int) (i : Nat) (st : Stk) (r : Rec), a < (i : Int) → (info t a i st)[0]? = some r → Sits (info t a i st) i 0 r := by
    intro t a i st r ha h
    rw [info_head] at h
    cases h
    exact ⟨[], [], by simp, rfl, by simp [arounds], by simp [arounds], by simpa using ha, by simp [arounds]⟩
  intro t
  induction t with
  | nul b =>
    intro a i st j r ha h
    cases j with
    | zero => exact zero _ _ _ _ _ ha h
    | succ j => simp [info] at h
  | leaf k n =>
    intro a i st j r ha h
    cases j with
    | zero => exact zero _ _ _ _ _ ha h
    | succ j => simp [info] at h
  | two b f g ihf ihg =>
    intro a i st j r ha h
    cases j with
    | zero => exact zero _ _ _ _ _ ha h
    | succ j =>
      simp only [info, List.getElem?_cons_succ] at h
      by_cases lt : j < f.size
      · rw [List.getElem?_append_left (by rw [info_len]; exact lt)] at h
        obtain ⟨A, B, e, eA, hA, hB, hr, hA2⟩ := ihf i (i + 1) st j r (by omega) h
        have ee : i + 1 + j = i + (j + 1) := by omega
        rw [ee] at e hA hB hr hA2
        have szr : r.sub.size + j ≤ f.size := by
          have z := congrArg List.length e
          simp only [info_len, List.length_append, eA] at z
          omega
        refine ⟨⟨.two b f g, a, st⟩ :: A, B ++ info g i (i + 1 + f.size) st, by simp [info, e], by simp [eA], ?_, ?_, hr, ?_⟩
        · intro x hx
          simp only [arounds, List.map_cons, List.mem_cons] at hx
          rcases hx with rfl | hx
          · omega
          · exact hA x hx
        · intro x hx
          simp only [arounds, List.map_append, List.mem_append] at hx
          rcases hx with hx | hx
          · exact hB x hx
          · have := aro_range g i (i + 1 + f.size) st x hx
            omega
        · intro x hx
          simp only [arounds, List.map_cons, List.mem_cons] at hx
          rcases hx with rfl | hx
          · omega
          · exact hA2 x hx
      · rw [List.getElem?_append_right (by rw [info_len]; omega), info_len] at h
        obtain ⟨A, B, e, eA, hA, hB, hr, hA2⟩ := ihg i (i + 1 + f.size) st (j - f.size) r (by omega) h
        have ee : i + 1 + f.size + (j - f.size) = i + (j + 1) := by omega
        rw [ee] at e hA hB hr hA2
        refine ⟨⟨.two b f g, a, st⟩ :: (info f i (i + 1) st ++ A), B, by simp [info, e], by simp [eA, info_len]; omega, ?_, hB, hr, ?_⟩
        · intro x hx
          simp only [arounds, List.map_cons, List.map_append, List.mem_cons, List.mem_append] at hx
          rcases hx with rfl | hx | hx
          · omega
          · have := aro_range f i (i + 1) st x hx
            omega
          · exact hA x hx
        · intro x hx
          simp only [arounds, List.map_cons, List.map_append, List.mem_cons, List.mem_append] at hx
          rcases hx with rfl | hx | hx
          · omega
          · have := aro_range f i (i + 1) st x hx
            omega
          · exact hA2 x hx
  | one k n f ih =>
    intro a i st j r ha h
    cases j with
    | zero => exact zero _ _ _ _ _ ha h
    | succ j =>
      simp only [info, List.getElem?_cons_succ] at h
      obtain ⟨A, B, e, eA, hA, hB, hr, hA2⟩ := ih i (i + 1) _ j r (by omega) h
      have ee : i + 1 + j = i + (j + 1) := by omega
      rw [ee] at e hA hB hr hA2
      refine ⟨⟨.one k n f, a, st⟩ :: A, B, by simp [info, e], by simp [eA], ?_, hB, hr, ?_⟩
      · intro x hx
        simp only [arounds, List.map_cons, List.mem_cons] at hx
        rcases hx with rfl | hx
        · omega
        · exact hA x hx
      · intro x hx
        simp only [arounds, List.map_cons, List.mem_cons] at hx
        rcases hx with rfl | hx
        · omega
        · exact hA2 x hx
/-- the places of the parts directly in one -/
def inPlaces : F → Nat → List Nat
  | .two _ f _, i => [i + 1, i + 1 + f.size]
  | .one _ _ _, i => [i + 1]
  | _, _ => []
theorem kids_own : ∀ (t : F) (a : Int) (i : Nat) (st : Stk), a < (i : Int) → kidsFrom (arounds (info t a i st)) i i = inPlaces t i
  | .nul _, a, i, st, ha => by
    simp only [arounds, info, List.map_cons, List.map_nil, kidsFrom, inPlaces]
    rw [if_neg (by omega)]
  | .leaf _ _, a, i, st, ha => by
    simp only [arounds, info, List.map_cons, List.map_nil, kidsFrom, inPlaces]
    rw [if_neg (by omega)]
  | .two b f g, a, i, st, ha => by
    have rest : ∀ (u : F) (j : Nat) (st : Stk), i < j → kidsFrom (arounds (info u i j st)) j i = [j] := by
      intro u j st hj
      have tail : ∀ (I : List Rec), (∀ x ∈ arounds I, (j : Int) ≤ x) → kidsFrom (arounds I) (j + 1) i = [] := fun I hI =>
        kids_none _ _ _ fun x hx => by have := hI x hx; omega
      cases u with
      | nul b => simp [arounds, info, kidsFrom]
      | leaf k n => simp [arounds, info, kidsFrom]
      | two b f g =>
        simp only [arounds, info, List.map_cons, kidsFrom, if_true]
        have := tail (info f j (j + 1) st ++ info g j (j + 1 + f.size) st) (fun x hx => by
          simp only [arounds, List.map_append, List.mem_append] at hx
          rcases hx with hx | hx
          · have := aro_range f j (j + 1) st x hx
            omega
          · have := aro_range g j (j + 1 + f.size) st x hx
            omega)
        rw [arounds] at this
        rw [this]
      | one k n f =>
        simp only [arounds, info, List.map_cons, kidsFrom, if_true]
        have := tail (info f j (j + 1) (if k.bind then (n, j) :: st else st)) (fun x hx => by
          have := aro_range f j (j + 1) _ x hx
          omega)
        rw [arounds] at this
        rw [this]
    have h1 := rest f (i + 1) st (by omega)
    have h2 := rest g (i + 1 + f.size) st (by omega)
    simp only [arounds] at h1 h2
    simp only [arounds, info, List.map_cons, List.map_append, kidsFrom, inPlaces]
    rw [if_neg (by omega), kids_app, h1, List.length_map, info_len, h2]
    rfl
  | .one k n f, a, i, st, ha => by
    have rest : ∀ (u : F) (j : Nat) (st : Stk), i < j → kidsFrom (arounds (info u i j st)) j i = [j] := by
      intro u j st hj
      have tail : ∀ (I : List Rec), (∀ x ∈ arounds I, (j : Int) ≤ x) → kidsFrom (arounds I) (j + 1) i = [] := fun I hI =>
        kids_none _ _ _ fun x hx => by have := hI x hx; omega
      cases u with
      | nul b => simp [arounds, info, kidsFrom]
      | leaf k n => simp [arounds, info, kidsFrom]
      | two b f g =>
        simp only [arounds, info, List.map_cons, kidsFrom, if_true]
        have := tail (info f j (j + 1) st ++ info g j (j + 1 + f.size) st) (fun x hx => by
          simp only [arounds, List.map_append, List.mem_append] at hx
          rcases hx with hx | hx
          · have := aro_range f j (j + 1) st x hx
            omega
          · have := aro_range g j (j + 1 + f.size) st x hx
            omega)
        rw [arounds] at this
        rw [this]
      | one k n f =>
        simp only [arounds, info, List.map_cons, kidsFrom, if_true]
        have := tail (info f j (j + 1) (if k.bind then (n, j) :: st else st)) (fun x hx => by
          have := aro_range f j (j + 1) _ x hx
          omega)
        rw [arounds] at this
        rw [this]
    have h1 := rest f (i + 1) (if k.bind then (n, i) :: st else st) (by omega)
    simp only [arounds] at h1
    simp only [arounds, info, List.map_cons, kidsFrom, inPlaces]
    rw [if_neg (by omega), h1]
theorem kids_at {t : F} {j : Nat} {r : Rec} (h : (infos t)[j]? = some r) : kidsFrom (arounds (infos t)) 0 j = inPlaces r.sub j := by
  obtain ⟨A, B, e, eA, hA, hB, hr, _⟩ := info_sits t (-1) 0 [] j r (by omega) h
  rw [Nat.zero_add] at e hA hB hr
  have ea : arounds (infos t) = arounds A ++ arounds (info r.sub r.aro j r.stk) ++ arounds B := by
    rw [show infos t = _ from e]
    simp [arounds]
  have lA : (arounds A).length = j := by simp [arounds, eA]
  rw [ea, kids_app, kids_app, kids_none _ _ _ hA, Nat.zero_add, lA, kids_own _ _ _ _ hr, kids_none (arounds B)]
  · simp
  · intro x hx
    have := hB x hx
    have := F.size_pos r.sub
    omega
/-- the parts of a part are among all, at their places -/
theorem sub_at {t : F} {j : Nat} {r : Rec} (h : (infos t)[j]? = some r) : ∀ (k : Nat) (q : Rec), (info r.sub r.aro j r.stk)[k]? = some q → (infos t)[j + k]? = some q := by
  intro k q hq
  obtain ⟨A, B, e, eA, _⟩ := info_sits t (-1) 0 [] j r (by omega) h
  rw [Nat.zero_add] at e
  have lt := (List.getElem?_eq_some_iff.mp hq).1
  rw [show infos t = _ from e, List.append_assoc, List.getElem?_append_right (by omega), eA, show j + k - j = k by omega, List.getElem?_append_left lt]
  exact hq

/-! ### the binder around, and the one of a variable -/
def topPos : Stk → Int
  | [] => -1
  | (_, p) :: _ => (p : Int)
def posOf (x : Int) : Stk → Int
  | [] => -1
  | (y, p) :: r => if y = x then (p : Int) else posOf x r
def isB : F → Bool
  | .one k _ _ => k.bind
  | _ => false
theorem pushS_top (s : F) (p : Nat) (st : Stk) : topPos (pushS s p st) = if isB s = true then (p : Int) else topPos st := by
  cases s with
  | one k n f => cases hk : k.bind <;> simp [pushS, isB, topPos, hk]
  | _ => rfl
theorem top_step {t : F} {j : Nat} {r : Rec} (h : (infos t)[j]? = some r) :
    (r.aro = -1 ∧ topPos r.stk = -1 ∧ j = 0) ∨ ∃ p r', p < j ∧ (infos t)[p]? = some r' ∧ r.aro = (p : Int) ∧ topPos r.stk = if isB r'.sub = true then (p : Int) else topPos r'.stk := by
  rcases info_up t (-1) 0 [] j r h with ⟨rfl, rfl⟩ | ⟨p, r', hp, e, e1, e2⟩
  · exact .inl ⟨rfl, rfl, rfl⟩
  · rw [Nat.zero_add] at e1 e2
    exact .inr ⟨p, r', hp, e, e1, by rw [e2, pushS_top]⟩
theorem posOf_ge (x : Int) : ∀ st : Stk, -1 ≤ posOf x st
  | [] => by simp [posOf]
  | (y, p) :: r => by
    simp only [posOf]
    split
    · omega
    · exact posOf_ge x r
theorem posOf_neg (x : Int) : ∀ st : Stk, posOf x st < 0 ↔ x ∉ st.map (·.1)
  | [] => by simp [posOf]
  | (y, p) :: r => by
    have ih := posOf_neg x r
    simp only [posOf, List.map_cons, List.mem_cons, not_or]
    split
    · rename_i e
      constructor
      · intro z
        omega
      · intro z
        exact absurd e.symm z.1
    · rename_i e
      rw [ih]
      constructor
      · exact fun z => ⟨fun q => e q.symm, z⟩
      · exact fun z => z.2
/-! ### free variables -/
def freeL : F → List Int → List Int
  | .nul _, _ => []
  | .leaf .var x, bound => if x ∈ bound then [] else [x]
  | .leaf _ _, _ => []
  | .two _ f g, bound => freeL f bound ++ freeL g bound
  | .one k x f, bound => if k.bind then freeL f (bound ++ [x]) else freeL f bound
theorem free_iff (x : Int) : ∀ (t : F) (bound : List Int) (a : Int) (i : Nat) (st : Stk), (∀ y, y ∈ bound ↔ y ∈ st.map (·.1)) →
    (x ∈ freeL t bound ↔ ∃ r ∈ info t a i st, r.sub = .leaf .var x ∧ x ∉ r.stk.map (·.1))
  | .nul b, bound, a, i, st, hb => by simp [freeL, info]
  | .leaf .has n, bound, a, i, st, hb => by simp [freeL, info]
  | .leaf .lacks n, bound, a, i, st, hb => by simp [freeL, info]
  | .leaf .var n, bound, a, i, st, hb => by
    simp only [freeL, info, List.mem_singleton]
    constructor
    · intro h
      split at h
      · cases h
      · rename_i hn
        rw [List.mem_singleton] at h
        subst h
        exact ⟨_, rfl, rfl, fun z => hn ((hb _).mpr z)⟩
    · rintro ⟨r, rfl, e, hn⟩
      injection e with _ e
      subst e
      rw [if_neg (fun z => hn ((hb _).mp z))]
      exact List.mem_singleton.mpr rfl
  | .two b f g, bound, a, i, st, hb => by
    simp only [freeL, info, List.mem_append, List.mem_cons]
    rw [free_iff x f bound i (i + 1) st hb, free_iff x g bound i (i + 1 + f.size) st hb]
    constructor
    · rintro (⟨r, h1, h2⟩ | ⟨r, h1, h2⟩)
      · exact ⟨r, .inr (.inl h1), h2⟩
      · exact ⟨r, .inr (.inr h1), h2⟩
    · rintro ⟨r, h1, h2, h3⟩
      rcases h1 with rfl | h1 | h1
      · cases h2
      · exact .inl ⟨r, h1, h2, h3⟩
      · exact .inr ⟨r, h1, h2, h3⟩
  | .one k n f, bound, a, i, st, hb => by
    simp only [freeL, info, List.mem_cons]
    have key : ∀ (bound' : List Int) (st' : Stk), (∀ y, y ∈ bound' ↔ y ∈ st'.map (·.1)) →
        (x ∈ freeL f bound' ↔ ∃ r, (r = ⟨.one k n f, a, st⟩ ∨ r ∈ info f i (i + 1) st') ∧ r.sub = .leaf .var x ∧ x ∉ r.stk.map (·.1)) := by
      intro bound' st' h'
      rw [free_iff x f bound' i (i + 1) st' h']
      constructor
      · rintro ⟨r, h1, h2⟩
        exact ⟨r, .inr h1, h2⟩
      · rintro ⟨r, h1, h2, h3⟩
        rcases h1 with rfl | h1
        · cases h2
        · exact ⟨r, h1, h2, h3⟩
    by_cases hk : k.bind = true
    · rw [if_pos hk, if_pos hk]
      refine key _ _ fun y => ?_
      simp only [List.mem_append, hb y, List.map_cons, List.mem_cons, List.not_mem_nil, or_false]
      exact Or.comm
    · rw [if_neg hk, if_neg hk]
      exact key _ _ hb
def Closed (t : F) : Prop := ∀ r ∈ infos t, ∀ x, r.sub = .leaf .var x → x ∈ r.stk.map (·.1)
theorem closed_iff {t : F} : freeL t [] = [] ↔ Closed t := by
  constructor
  · intro h r hr x e
    refine Classical.byContradiction fun hn => ?_
    have := (free_iff x t [] (-1) 0 [] (by simp)).mpr ⟨r, hr, e, hn⟩
    rw [h] at this
    cases this
  · intro h
    refine List.eq_nil_iff_forall_not_mem.mpr fun x hx => ?_
    obtain ⟨r, hr, e, hn⟩ := (free_iff x t [] (-1) 0 [] (by simp)).mp hx
    exact hn (h r hr x e)
/-! ### the same shape, the same places -/
def skel : F → F
  | .nul _ => .nul true
  | .leaf _ _ => .nul true
  | .two _ f g => .two true (skel f) (skel g)
  | .one _ _ f => .one .some 0 (skel f)
theorem skel_size : ∀ t : F, (skel t).size = t.size
  | .nul _ => rfl
  | .leaf _ _ => rfl
  | .two _ f g => by simp [skel, F.size, skel_size f, skel_size g]
  | .one _ _ f => by simp [skel, F.size, skel_size f]
theorem skel_depth : ∀ t : F, (skel t).depth = t.depth
  | .nul _ => rfl
  | .leaf _ _ => rfl
  | .two _ f g => by simp [skel, F.depth, skel_depth f, skel_depth g]
  | .one _ _ f => by simp [skel, F.depth, skel_depth f]
theorem skel_aro : ∀ (t : F) (a : Int) (i : Nat) (st : Stk), arounds (info t a i st) = arounds (info (skel t) a i [])
  | .nul _, _, _, _ => rfl
  | .leaf _ _, _, _, _ => rfl
  | .two _ f g, a, i, st => by
    have h1 := skel_aro f i (i + 1) st
    have h2 := skel_aro g i (i + 1 + f.size) st
    simp only [arounds] at h1 h2
    simp only [arounds, info, skel, List.map_cons, List.map_append, h1, h2, skel_size]
  | .one k n f, a, i, st => by
    have h1 := skel_aro f i (i + 1) (if k.bind then (n, i) :: st else st)
    simp only [arounds] at h1
    simp only [arounds, info, skel, List.map_cons]
    rw [h1]
    rfl
theorem same_aro {t u : F} (h : skel t = skel u) : arounds (infos t) = arounds (infos u) := by
  rw [skel_aro t, skel_aro u, h]
theorem same_size {t u : F} (h : skel t = skel u) : t.size = u.size := by rw [← skel_size t, h, skel_size]
/-! ### the tidy form -/
def tidyF : F → (Int → Int) → Int → F × Int
  | .nul b, _, n => (.nul b, n)
  | .leaf .var x, nm, n => (.leaf .var (nm x), n)
  | .leaf k x, _, n => (.leaf k x, n)
  | .two b f g, nm, n => (.two b (tidyF f nm n).1 (tidyF g nm (tidyF f nm n).2).1, (tidyF g nm (tidyF f nm n).2).2)
  | .one k x f, nm, n =>
    if k.bind then (.one k n (tidyF f (fun y => if y = x then n else nm y) (n + 1)).1, (tidyF f (fun y => if y = x then n else nm y) (n + 1)).2)
    else (.one k x (tidyF f nm n).1, (tidyF f nm n).2)
theorem tidy_skel : ∀ (t : F) (nm : Int → Int) (n : Int), skel (tidyF t nm n).1 = skel t
  | .nul _, _, _ => rfl
  | .leaf .var _, _, _ => rfl
  | .leaf .has _, _, _ => rfl
  | .leaf .lacks _, _, _ => rfl
  | .two _ f g, nm, n => by simp only [tidyF, skel, tidy_skel f, tidy_skel g]
  | .one k x f, nm, n => by
    simp only [tidyF]
    split <;> simp only [skel, tidy_skel f]
def cntB (I : List Rec) : Nat := (I.filter fun r => isB r.sub).length
theorem cntB_app (A B : List Rec) : cntB (A ++ B) = cntB A + cntB B := by simp [cntB]
theorem cntB_cons (r : Rec) (B : List Rec) : cntB (r :: B) = (if isB r.sub = true then 1 else 0) + cntB B := by
  simp only [cntB, List.filter_cons]
  split <;> simp <;> omega
def newHd (ρ : Nat → Int) (q : Nat) (r : Rec) : Hd :=
  match r.sub with
  | .leaf .var x => .leaf .var (ρ (posOf x r.stk).toNat)
  | .one k x _ => if k.bind then .one k (ρ q) else .one k x
  | s => s.hd
theorem tidy_heads (ρ : Nat → Int) : ∀ (t : F) (a : Int) (i : Nat) (st : Stk) (nm : Int → Int) (n : Int),
    (∀ r ∈ info t a i st, ∀ x, r.sub = .leaf .var x → x ∈ r.stk.map (·.1)) → (∀ x ∈ st.map (·.1), nm x = ρ (posOf x st).toNat) →
    (∀ j r, (info t a i st)[j]? = some r → isB r.sub = true → ρ (i + j) = n + (cntB ((info t a i st).take j) : Nat)) →
    (tidyF t nm n).2 = n + (cntB (info t a i st) : Nat) ∧
    ∀ (st' : Stk) (j : Nat) (r : Rec), (info t a i st)[j]? = some r → ((info (tidyF t nm n).1 a i st')[j]?).map (fun r => r.sub.hd) = some (newHd ρ (i + j) r)
  | .nul b, a, i, st, nm, n, hc, hs, hr => by
    refine ⟨by simp [tidyF, info, cntB, isB], fun st' j r h => ?_⟩
    cases j with
    | zero =>
      cases h
      rfl
    | succ j => simp [info] at h
  | .leaf .has b, a, i, st, nm, n, hc, hs, hr => by
    refine ⟨by simp [tidyF, info, cntB, isB], fun st' j r h => ?_⟩
    cases j with
    | zero =>
      cases h
      rfl
    | succ j => simp [info] at h
  | .leaf .lacks b, a, i, st, nm, n, hc, hs, hr => by
    refine ⟨by simp [tidyF, info, cntB, isB], fun st' j r h => ?_⟩
    cases j with
    | zero =>
      cases h
      rfl
    | succ j => simp [info] at h
  | .leaf .var x, a, i, st, nm, n, hc, hs, hr => by
    refine ⟨by simp [tidyF, info, cntB, isB], fun st' j r h => ?_⟩
    cases j with
    | zero =>
      cases h
      have hx : x ∈ st.map (·.1) := hc ⟨.leaf .var x, a, st⟩ (by simp [info]) x rfl
      simp only [tidyF, info, newHd, List.getElem?_cons_zero, Option.map_some, F.hd]
      rw [hs x hx]
    | succ j => simp [info] at h
  | .two b f g, a, i, st, nm, n, hc, hs, hr => by
    have If : ∀ j r, (info f i (i + 1) st)[j]? = some r → (info (.two b f g) a i st)[j + 1]? = some r := fun j r h => by
      simp only [info, List.getElem?_cons_succ]
      rw [List.getElem?_append_left (List.getElem?_eq_some_iff.mp h).1]
      exact h
    have Ig : ∀ j r, (info g i (i + 1 + f.size) st)[j]? = some r → (info (.two b f g) a i st)[f.size + j + 1]? = some r := fun j r h => by
      simp only [info, List.getElem?_cons_succ]
      rw [List.getElem?_append_right (by rw [info_len]; omega), info_len, show f.size + j - f.size = j by omega]
      exact h
    obtain ⟨f1, f2⟩ := tidy_heads ρ f i (i + 1) st nm n (fun r hr' => hc r (by simp [info, hr'])) hs (fun j r h hb => by
      have := hr (j + 1) r (If j r h) hb
      rw [show i + (j + 1) = i + 1 + j by omega] at this
      rw [this]
      simp only [info, List.take_succ_cons, cntB_cons, isB]
      rw [List.take_append_of_le_length (Nat.le_of_lt (List.getElem?_eq_some_iff.mp h).1)]
      simp)
    obtain ⟨g1, g2⟩ := tidy_heads ρ g i (i + 1 + f.size) st nm (tidyF f nm n).2 (fun r hr' => hc r (by simp [info, hr'])) hs (fun j r h hb => by
      have := hr (f.size + j + 1) r (Ig j r h) hb
      rw [show i + (f.size + j + 1) = i + 1 + f.size + j by omega] at this
      rw [this, f1]
      simp only [info, List.take_succ_cons, cntB_cons, isB]
      rw [List.take_append, info_len, List.take_of_length_le (by rw [info_len]; omega), show f.size + j - f.size = j by omega, cntB_app]
      simp
      omega)
    refine ⟨?_, fun st' j r h => ?_⟩
    · simp only [tidyF, info, cntB_cons, cntB_app, isB]
      rw [g1, f1]
      simp
      omega
    · have sz : (tidyF f nm n).1.size = f.size := same_size (tidy_skel f nm n)
      cases j with
      | zero =>
        cases h
        rfl
      | succ j =>
        simp only [info, List.getElem?_cons_succ] at h
        simp only [tidyF, info, List.getElem?_cons_succ]
        by_cases lt : j < f.size
        · rw [List.getElem?_append_left (by rw [info_len]; exact lt)] at h
          rw [List.getElem?_append_left (by rw [info_len, sz]; exact lt), f2 st' j r h, show i + 1 + j = i + (j + 1) by omega]
        · rw [List.getElem?_append_right (by rw [info_len]; omega), info_len] at h
          rw [List.getElem?_append_right (by rw [info_len, sz]; omega), info_len, sz, g2 st' (j - f.size) r h, show i + 1 + f.size + (j - f.size) = i + (j + 1) by omega]
  | .one k x f, a, i, st, nm, n, hc, hs, hr => by
    by_cases hk : k.bind = true
    · have If : ∀ j r, (info f i (i + 1) ((x, i) :: st))[j]? = some r → (info (.one k x f) a i st)[j + 1]? = some r := fun j r h => by
        simp only [info, List.getElem?_cons_succ, if_pos hk]
        exact h
      have ρi : ρ i = n := by
        have := hr 0 ⟨.one k x f, a, st⟩ rfl hk
        simpa [cntB] using this
      obtain ⟨f1, f2⟩ := tidy_heads ρ f i (i + 1) ((x, i) :: st) (fun y => if y = x then n else nm y) (n + 1) (fun r hr' => hc r (by simp [info, hk, hr'])) (fun y hy => by
        simp only [posOf]
        by_cases e : y = x
        · rw [if_pos e, if_pos e.symm]
          exact ρi.symm
        · rw [if_neg e, if_neg (fun z => e z.symm)]
          rw [List.map_cons, List.mem_cons] at hy
          exact hs y (hy.resolve_left e)) (fun j r h hb => by
        have := hr (j + 1) r (If j r h) hb
        rw [show i + (j + 1) = i + 1 + j by omega] at this
        rw [this]
        simp only [info, List.take_succ_cons, cntB_cons]
        rw [if_pos (show isB (F.one k x f) = true from hk), if_pos hk]
        omega)
      refine ⟨?_, fun st' j r h => ?_⟩
      · simp only [tidyF, info, cntB_cons]
        rw [if_pos (show isB (F.one k x f) = true from hk), if_pos hk, if_pos hk, f1]
        omega
      · cases j with
        | zero =>
          cases h
          simp only [tidyF, if_pos hk, info, newHd, List.getElem?_cons_zero, Option.map_some, F.hd]
          rw [Nat.add_zero, ρi]
        | succ j =>
          simp only [info, List.getElem?_cons_succ, if_pos hk] at h
          simp only [tidyF, if_pos hk, info, List.getElem?_cons_succ]
          rw [f2 _ j r h, show i + 1 + j = i + (j + 1) by omega]
    · have If : ∀ j r, (info f i (i + 1) st)[j]? = some r → (info (.one k x f) a i st)[j + 1]? = some r := fun j r h => by
        simp only [info, List.getElem?_cons_succ, if_neg hk]
        exact h
      obtain ⟨f1, f2⟩ := tidy_heads ρ f i (i + 1) st nm n (fun r hr' => hc r (by simp [info, hk, hr'])) hs (fun j r h hb => by
        have := hr (j + 1) r (If j r h) hb
        rw [show i + (j + 1) = i + 1 + j by omega] at this
        rw [this]
        simp only [info, List.take_succ_cons, cntB_cons]
        rw [if_neg (show ¬ isB (F.one k x f) = true from hk), if_neg hk]
        omega)
      refine ⟨?_, fun st' j r h => ?_⟩
      · simp only [tidyF, info, cntB_cons]
        rw [if_neg (show ¬ isB (F.one k x f) = true from hk), if_neg hk, if_neg hk, f1]
        omega
      · cases j with
        | zero =>
          cases h
          simp only [tidyF, if_neg hk, info, newHd, List.getElem?_cons_zero, Option.map_some, F.hd]
        | succ j =>
          simp only [info, List.getElem?_cons_succ, if_neg hk] at h
          simp only [tidyF, if_neg hk, info, List.getElem?_cons_succ]
          rw [f2 _ j r h, show i + 1 + j = i + (j + 1) by omega]
/-- of a closed one: the head of each part in the tidy form -/
def rankOf (t : F) (q : Nat) : Int := (cntB ((infos t).take q) : Nat)
theorem tidy_whole {t : F} (hc : Closed t) (nm : Int → Int) {j : Nat} {r : Rec} (h : (infos t)[j]? = some r) :
    ((infos (tidyF t nm 0).1)[j]?).map (fun r => r.sub.hd) = some (newHd (rankOf t) j r) := by
  have := (tidy_heads (rankOf t) t (-1) 0 [] nm 0 hc (by simp) (fun j r h hb => by simp [rankOf])).2 [] j r h
  rwa [Nat.zero_add] at this
/-! ### tidy twice -/
theorem tidy_again : ∀ (t : F) (nm nm2 : Int → Int) (n : Int), (∀ y, nm2 (nm y) = nm y) → tidyF (tidyF t nm n).1 nm2 n = tidyF t nm n
  | .nul _, _, _, _, _ => rfl
  | .leaf .has _, _, _, _, _ => rfl
  | .leaf .lacks _, _, _, _, _ => rfl
  | .leaf .var x, nm, nm2, n, h => by simp only [tidyF, h]
  | .two b f g, nm, nm2, n, h => by
    simp only [tidyF]
    rw [tidy_again f nm nm2 n h, tidy_again g nm nm2 _ h]
  | .one k x f, nm, nm2, n, h => by
    by_cases hk : k.bind = true
    · have ih := tidy_again f (fun y => if y = x then n else nm y) (fun y => if y = n then n else nm2 y) (n + 1) (fun y => by
        by_cases e : y = x
        · simp [e]
        · simp only [if_neg e]
          by_cases e2 : nm y = n
          · simp [e2]
          · rw [if_neg e2]
            exact h y)
      simp only [tidyF, if_pos hk, ih]
    · have ih := tidy_again f nm nm2 n h
      simp only [tidyF, if_neg hk, ih]
end Fw
namespace Fw
/-! ### taking a statement apart with a stack -/
def pre (t : F) (a : Int) (i : Nat) : List (Hd × Int) := (info t a i []).map fun r => (r.sub.hd, r.aro)
theorem pre_len (t : F) (a : Int) (i : Nat) : (pre t a i).length = t.size := by simp [pre, info_len]
theorem info_plain : ∀ (t : F) (a : Int) (i : Nat) (st : Stk), ((info t a i st).map fun r => (r.sub.hd, r.aro)) = pre t a i
  | .nul _, _, _, _ => rfl
  | .leaf _ _, _, _, _ => rfl
  | .two _ f g, a, i, st => by
    have h1 := info_plain f i (i + 1)
    have h2 := info_plain g i (i + 1 + f.size)
    simp only [pre, info, List.map_cons, List.map_append] at *
    rw [h1 st, h2 st]
  | .one k n f, a, i, st => by
    have h1 := info_plain f i (i + 1)
    simp only [pre, info, List.map_cons] at *
    rw [h1 (if k.bind then (n, i) :: st else st), h1 (if k.bind then [(n, i)] else [])]
def F.kids : F → List F
  | .two _ f g => [f, g]
  | .one _ _ f => [f]
  | _ => []
def fin (L : List (Hd × Int)) : List (F × Int) → List (Hd × Int)
  | [] => L
  | (t, a) :: r => fin (L ++ pre t a L.length) r
theorem fin_step (L : List (Hd × Int)) (t : F) (a : Int) (r : List (F × Int)) :
    fin L ((t, a) :: r) = fin (L ++ [(t.hd, a)]) (t.kids.map (fun f => (f, (L.length : Int))) ++ r) := by
  cases t with
  | nul b => rfl
  | leaf k n => rfl
  | two b f g =>
    have hf := info_plain f L.length (L.length + 1) []
    have hg := info_plain g L.length (L.length + 1 + f.size) []
    simp only [fin, F.kids, List.map_cons, List.map_nil, List.cons_append, List.nil_append, F.hd, List.length_append, List.length_cons, List.length_nil, pre_len]
    congr 1
    simp only [pre, info, List.map_cons, List.map_append, F.hd]
    simp
  | one k n f =>
    have hf := info_plain f L.length (L.length + 1) (if k.bind then [(n, L.length)] else [])
    simp only [fin, F.kids, List.map_cons, List.map_nil, List.cons_append, List.nil_append, F.hd, List.length_append, List.length_cons, List.length_nil]
    congr 1
    simp only [pre, info, List.map_cons, F.hd] at *
    rw [hf]
    simp
def stSize : List (F × Int) → Nat
  | [] => 0
  | (t, _) :: r => t.size + stSize r
theorem stSize_app : ∀ A B : List (F × Int), stSize (A ++ B) = stSize A + stSize B
  | [], B => by simp [stSize]
  | (t, a) :: A, B => by simp [stSize, stSize_app A B]; omega
theorem stSize_kids (t : F) (i : Int) : stSize (t.kids.map fun f => (f, i)) + 1 = t.size := by
  cases t <;> simp [F.kids, stSize, F.size]
theorem st_len : ∀ A : List (F × Int), A.length ≤ stSize A
  | [] => Nat.le_refl _
  | (t, a) :: A => by
    have := st_len A
    have := F.size_pos t
    simp only [List.length_cons, stSize]
    omega
theorem fin_len : ∀ (S : List (F × Int)) (L : List (Hd × Int)), (fin L S).length = L.length + stSize S
  | [], L => by simp [fin, stSize]
  | (t, a) :: S, L => by
    simp only [fin, stSize]
    rw [fin_len S, List.length_append, pre_len]
    omega
end Fw
namespace Fw
theorem kids_recs {t : F} {j : Nat} {r : Rec} (h : (infos t)[j]? = some r) :
    (inPlaces r.sub j).length = r.sub.kids.length ∧ ∀ (m p : Nat), (inPlaces r.sub j)[m]? = some p → ∃ r', (infos t)[p]? = some r' ∧ r.sub.kids[m]? = some r'.sub ∧ j < p := by
  have sa := sub_at h
  obtain ⟨s, a, st⟩ := r
  cases s with
  | nul b => exact ⟨rfl, fun m p e => by simp [inPlaces] at e⟩
  | leaf k n => exact ⟨rfl, fun m p e => by simp [inPlaces] at e⟩
  | two b f g =>
    refine ⟨rfl, fun m p e => ?_⟩
    match m, e with
    | 0, e =>
      cases e
      refine ⟨⟨f, j, st⟩, sa 1 _ ?_, rfl, by omega⟩
      simp only [info, List.getElem?_cons_succ]
      rw [List.getElem?_append_left (by rw [info_len]; exact F.size_pos f)]
      exact info_head _ _ _ _
    | 1, e =>
      cases e
      have z := sa (1 + f.size) ⟨g, j, st⟩ (by
        rw [Nat.add_comm 1]
        simp only [info, List.getElem?_cons_succ]
        rw [List.getElem?_append_right (by rw [info_len]; omega), info_len, Nat.sub_self]
        exact info_head _ _ _ _)
      rw [← Nat.add_assoc] at z
      exact ⟨_, z, rfl, by omega⟩
    | m + 2, e => simp [inPlaces] at e
  | one k n f =>
    refine ⟨rfl, fun m p e => ?_⟩
    match m, e with
    | 0, e =>
      cases e
      refine ⟨⟨f, j, if k.bind then (n, j) :: st else st⟩, sa 1 _ ?_, rfl, by omega⟩
      simp only [info, List.getElem?_cons_succ]
      exact info_head _ _ _ _
    | m + 1, e => simp [inPlaces] at e
end Fw
namespace Fw
theorem F.kids_le : ∀ t : F, t.kids.length ≤ 2
  | .nul _ => Nat.zero_le 2
  | .leaf _ _ => Nat.zero_le 2
  | .two _ _ _ => Nat.le_refl 2
  | .one _ _ _ => Nat.le_succ 1
end Fw
namespace Fw
theorem infos_pos {t : F} {x : Int} : ∀ (st : Stk) (j : Nat) (r : Rec), (infos t)[j]? = some r → r.stk = st → x ∈ st.map (·.1) →
    ∃ (p : Nat) (r' : Rec), posOf x st = (p : Int) ∧ p < j ∧ (infos t)[p]? = some r' ∧ isB r'.sub = true
  | [], _, _, _, _, h => by cases h
  | (y, q) :: rest, j, r, hr, e, h => by
    obtain ⟨hq, k, f, a, h2, h3⟩ := infos_stk j j r y q rest (Nat.le_refl _) hr e
    simp only [posOf]
    by_cases c : y = x
    · rw [if_pos c]
      exact ⟨q, _, rfl, hq, h2, h3⟩
    · rw [if_neg c]
      have h' : x ∈ rest.map (·.1) := by
        rw [List.map_cons, List.mem_cons] at h
        exact h.resolve_left fun z => c z.symm
      obtain ⟨p, r', e1, e2, e3⟩ := infos_pos rest q _ h2 rfl h'
      exact ⟨p, r', e1, by omega, e3⟩
end Fw
namespace Fw
/-! ### what the law draws -/
def fv : F → List Int
  | .nul _ => []
  | .leaf .var x => [x]
  | .leaf _ _ => []
  | .two _ f g => fv f ++ fv g
  | .one k x f => if k.bind then (fv f).filter (fun y => y ≠ x) else fv f
theorem free_fv (y : Int) : ∀ (t : F) (b : List Int), y ∈ freeL t b ↔ y ∈ fv t ∧ y ∉ b
  | .nul _, b => by simp [freeL, fv]
  | .leaf .has _, b => by simp [freeL, fv]
  | .leaf .lacks _, b => by simp [freeL, fv]
  | .leaf .var x, b => by
    simp only [freeL, fv, List.mem_singleton]
    split
    · rename_i h
      constructor
      · intro z
        cases z
      · rintro ⟨rfl, z⟩
        exact absurd h z
    · rename_i h
      rw [List.mem_singleton]
      constructor
      · rintro rfl
        exact ⟨rfl, h⟩
      · exact fun z => z.1
  | .two _ f g, b => by
    simp only [freeL, fv, List.mem_append, free_fv y f b, free_fv y g b]
    constructor
    · rintro (⟨h1, h2⟩ | ⟨h1, h2⟩)
      · exact ⟨.inl h1, h2⟩
      · exact ⟨.inr h1, h2⟩
    · rintro ⟨h1 | h1, h2⟩
      · exact .inl ⟨h1, h2⟩
      · exact .inr ⟨h1, h2⟩
  | .one k x f, b => by
    simp only [freeL, fv]
    by_cases hk : k.bind = true
    · rw [if_pos hk, if_pos hk, free_fv y f (b ++ [x])]
      simp only [List.mem_append, List.mem_singleton, not_or, List.mem_filter, decide_eq_true_eq]
      constructor
      · rintro ⟨h1, h2, h3⟩
        exact ⟨⟨h1, h3⟩, h2⟩
      · rintro ⟨⟨h1, h3⟩, h2⟩
        exact ⟨h1, h2, h3⟩
    · rw [if_neg hk, if_neg hk, free_fv y f b]
theorem closed_fv {t : F} : fv t = [] ↔ Closed t := by
  rw [← closed_iff]
  constructor
  · intro h
    refine List.eq_nil_iff_forall_not_mem.mpr fun x hx => ?_
    have := ((free_fv x t []).mp hx).1
    rw [h] at this
    cases this
  · intro h
    refine List.eq_nil_iff_forall_not_mem.mpr fun x hx => ?_
    have := (free_fv x t []).mpr ⟨hx, by simp⟩
    rw [h] at this
    cases this
abbrev V4 : List Int := [0, 1, 2, 7]
def Ok : F → Prop
  | .nul _ => True
  | .leaf .var x => x ∈ V4
  | .leaf _ n => 0 ≤ n ∧ n < 2
  | .two _ f g => Ok f ∧ Ok g
  | .one k n f => (if k.bind = true then n ∈ V4 else 0 ≤ n ∧ n < 2) ∧ Ok f
theorem ok_fv : ∀ {t : F}, Ok t → ∀ x ∈ fv t, x ∈ V4
  | .nul _, _, x, h => by cases h
  | .leaf .has _, _, x, h => by cases h
  | .leaf .lacks _, _, x, h => by cases h
  | .leaf .var y, o, x, h => by
    rw [show fv (.leaf .var y) = [y] from rfl, List.mem_singleton] at h
    subst h
    exact o
  | .two _ f g, o, x, h => by
    rcases List.mem_append.mp (show x ∈ fv f ++ fv g from h) with h | h
    · exact ok_fv o.1 x h
    · exact ok_fv o.2 x h
  | .one k n f, o, x, h => by
    refine ok_fv o.2 x ?_
    simp only [fv] at h
    split at h
    · exact (List.mem_filter.mp h).1
    · exact h
structure Gen (n : Nat) (W R : List Int) (t : F) : Prop where
  dep : t.depth ≤ n + 1
  ok : Ok t
  fr : ∀ x ∈ fv t, x ∈ W ∨ x ∈ R
end Fw
namespace Fw
theorem tidy_fv : ∀ (t : F) (nm : Int → Int) (n y : Int), y ∈ fv (tidyF t nm n).1 → ∃ x ∈ fv t, y = nm x
  | .nul _, _, _, _, h => by cases h
  | .leaf .has _, _, _, _, h => by cases h
  | .leaf .lacks _, _, _, _, h => by cases h
  | .leaf .var x, nm, n, y, h => ⟨x, List.mem_singleton.mpr rfl, List.mem_singleton.mp h⟩
  | .two b f g, nm, n, y, h => by
    rcases List.mem_append.mp (show y ∈ fv (tidyF f nm n).1 ++ fv (tidyF g nm (tidyF f nm n).2).1 from h) with h | h
    · obtain ⟨x, h1, h2⟩ := tidy_fv f nm n y h
      exact ⟨x, List.mem_append_left _ h1, h2⟩
    · obtain ⟨x, h1, h2⟩ := tidy_fv g nm _ y h
      exact ⟨x, List.mem_append_right _ h1, h2⟩
  | .one k z f, nm, n, y, h => by
    by_cases hk : k.bind = true
    · simp only [tidyF, if_pos hk, fv, List.mem_filter, decide_eq_true_eq] at h
      obtain ⟨x, h1, h2⟩ := tidy_fv f _ _ y h.1
      by_cases e : x = z
      · rw [if_pos e] at h2
        exact absurd h2 h.2
      · rw [if_neg e] at h2
        refine ⟨x, ?_, h2⟩
        simp only [fv, if_pos hk, List.mem_filter, decide_eq_true_eq]
        exact ⟨h1, e⟩
    · simp only [tidyF, if_neg hk, fv] at h
      obtain ⟨x, h1, h2⟩ := tidy_fv f nm n y h
      refine ⟨x, ?_, h2⟩
      simp only [fv, if_neg hk]
      exact h1
theorem tidy_closed {t : F} (nm : Int → Int) (n : Int) (h : Closed t) : Closed (tidyF t nm n).1 := by
  rw [← closed_fv] at h ⊢
  refine List.eq_nil_iff_forall_not_mem.mpr fun y hy => ?_
  obtain ⟨x, hx, _⟩ := tidy_fv t nm n y hy
  rw [h] at hx
  cases hx
end Fw

namespace Fw
/-! ### opposites -/
def Leaf.opp : Leaf → Leaf
  | .has => .lacks
  | .lacks => .has
  | .var => .var
def One.opp : One → One
  | .some => .all
  | .all => .some
  | .least => .most
  | .most => .least
def opp : F → F
  | .nul b => .nul !b
  | .leaf k n => .leaf k.opp n
  | .two b f g => .two (!b) (opp f) (opp g)
  | .one k n f => .one k.opp n (opp f)
def oppH : Hd → Hd
  | .nul b => .nul !b
  | .leaf k n => .leaf k.opp n
  | .two b => .two !b
  | .one k n => .one k.opp n
theorem opp_hd (t : F) : (opp t).hd = oppH t.hd := by cases t <;> rfl
theorem opp_skel : ∀ t : F, skel (opp t) = skel t
  | .nul _ => rfl
  | .leaf _ _ => rfl
  | .two _ f g => by simp [opp, skel, opp_skel f, opp_skel g]
  | .one _ _ f => by simp [opp, skel, opp_skel f]
theorem opp_size (t : F) : (opp t).size = t.size := same_size (opp_skel t)
theorem opp_depth (t : F) : (opp t).depth = t.depth := by rw [← skel_depth, opp_skel, skel_depth]
theorem opp_opp : ∀ t : F, opp (opp t) = t
  | .nul b => by simp [opp]
  | .leaf k n => by cases k <;> rfl
  | .two b f g => by simp [opp, opp_opp f, opp_opp g]
  | .one k n f => by cases k <;> simp [opp, One.opp, opp_opp f]
theorem bind_opp (k : One) : k.opp.bind = k.bind := by cases k <;> rfl
theorem opp_fv : ∀ t : F, fv (opp t) = fv t
  | .nul _ => rfl
  | .leaf k n => by cases k <;> rfl
  | .two b f g => by simp [opp, fv, opp_fv f, opp_fv g]
  | .one k n f => by simp only [opp, fv, bind_opp, opp_fv f]
theorem opp_closed {t : F} (h : Closed t) : Closed (opp t) := by
  rw [← closed_fv] at h ⊢
  rw [opp_fv, h]
theorem opp_heads : ∀ (t : F) (a : Int) (i : Nat) (st st' : Stk), ((info (opp t) a i st').map fun r => r.sub.hd) = (info t a i st).map fun r => oppH r.sub.hd
  | .nul _, _, _, _, _ => rfl
  | .leaf _ _, _, _, _, _ => rfl
  | .two b f g, a, i, st, st' => by
    simp only [opp, info, List.map_cons, List.map_append, opp_heads f i (i + 1) st st', opp_size, opp_heads g i (i + 1 + f.size) st st']
    rfl
  | .one k n f, a, i, st, st' => by
    simp only [opp, info, List.map_cons, opp_heads f i (i + 1) (if k.bind = true then (n, i) :: st else st)]
    rfl
end Fw

/-! Worlds as the laws draw them, and what is true in them: pure mathematics. -/
namespace Fw
structure Wd where
  facts : List (List Int)
  steps : List (Int × Int × Int)
def Wd.n (W : Wd) : Nat := W.facts.length
def rng (n : Nat) : List Int := (List.range n).map Int.ofNat
theorem rng_get {n i : Nat} (h : i < n) : (rng n)[i]? = some (i : Int) := by
  unfold rng
  rw [List.getElem?_map, List.getElem?_range h]
  rfl
theorem rng_len (n : Nat) : (rng n).length = n := by unfold rng; rw [List.length_map, List.length_range]
theorem rng_mem {n : Nat} {x : Int} : x ∈ rng n ↔ 0 ≤ x ∧ x < n := by
  unfold rng
  rw [List.mem_map]
  constructor
  · rintro ⟨a, h, rfl⟩
    have := List.mem_range.mp h
    exact ⟨Int.natCast_nonneg a, Int.ofNat_lt.mpr this⟩
  · rintro ⟨h1, h2⟩
    exact ⟨x.toNat, List.mem_range.mpr (by omega), Int.toNat_of_nonneg h1⟩
theorem rng_succ (n : Nat) : rng (n + 1) = rng n ++ [(n : Int)] := by
  unfold rng
  rw [List.range_succ, List.map_append]
  rfl
theorem rng_take {n i : Nat} (h : i ≤ n) : (rng n).take i = rng i := by
  unfold rng
  rw [← List.map_take, List.take_range, Nat.min_eq_left h]
/-- the facts of a state -/
def Wd.at (W : Wd) (s : Int) : List Int := (W.facts[s.toNat]?).getD []
def Wd.beh (W : Wd) (s l : Int) : List Int := (W.steps.filter fun p => decide (p.1 = s) && decide (p.2.1 = l)).map fun p => p.2.2
/-- each step leads to a state -/
def Wd.Good (W : Wd) : Prop := ∀ p ∈ W.steps, 0 ≤ p.2.2 ∧ p.2.2 < W.n
def sIn (X : List Int) (s : Int) : Bool := decide (s ∈ X)
def flt (n : Nat) (p : Int → Bool) : List Int := (rng n).filter p
def setE (e : Int → List Int) (x : Int) (X : List Int) : Int → List Int := fun y => if y = x then X else e y
def iter (f : List Int → List Int) : Nat → List Int → List Int
  | 0, X => X
  | k + 1, X => f (iter f k X)
def val (W : Wd) : F → (Int → List Int) → List Int
  | .nul b, _ => if b = true then rng W.n else []
  | .leaf .has n, _ => flt W.n fun s => sIn (W.at s) n
  | .leaf .lacks n, _ => flt W.n fun s => !sIn (W.at s) n
  | .leaf .var x, e => e x
  | .two b f g, e => if b = true then flt W.n (fun s => sIn (val W g e) s && sIn (val W f e) s) else flt W.n (fun s => sIn (val W g e) s || sIn (val W f e) s)
  | .one .some l f, e => flt W.n fun s => decide (0 < (((W.beh s l).filter (sIn (val W f e))).length : Int))
  | .one .all l f, e => flt W.n fun s => decide ((((W.beh s l).filter (fun k => !sIn (val W f e) k)).length : Int) = 0)
  | .one .least x f, e => iter (fun X => val W f (setE e x X)) (W.n + 1) []
  | .one .most x f, e => iter (fun X => val W f (setE e x X)) (W.n + 1) (rng W.n)
/-- the others -/
def co (n : Nat) (X : List Int) : List Int := flt n fun s => !sIn X s
theorem flt_congr {n : Nat} {p q : Int → Bool} (h : ∀ s : Int, 0 ≤ s → s < (n : Int) → p s = q s) : flt n p = flt n q :=
  List.filter_congr fun s hs => h s (rng_mem.mp hs).1 (rng_mem.mp hs).2
theorem sIn_flt {n : Nat} {p : Int → Bool} {s : Int} (h0 : 0 ≤ s) (h1 : s < (n : Int)) : sIn (flt n p) s = p s := by
  unfold sIn flt
  cases e : p s with
  | true => exact decide_eq_true (List.mem_filter.mpr ⟨rng_mem.mpr ⟨h0, h1⟩, e⟩)
  | false => exact decide_eq_false fun h => by rw [(List.mem_filter.mp h).2] at e; cases e
theorem co_flt {n : Nat} {p : Int → Bool} : co n (flt n p) = flt n fun s => !p s := flt_congr fun s h0 h1 => by rw [sIn_flt h0 h1]
theorem sIn_co {n : Nat} {X : List Int} {s : Int} (h0 : 0 ≤ s) (h1 : s < (n : Int)) : sIn (co n X) s = !sIn X s := sIn_flt h0 h1
theorem rng_flt (n : Nat) : rng n = flt n fun _ => true := (List.filter_eq_self.mpr fun _ _ => rfl).symm
theorem co_rng (n : Nat) : co n (rng n) = [] := by
  rw [rng_flt, co_flt]
  exact List.filter_eq_nil_iff.mpr fun _ _ h => by cases h
theorem co_nil (n : Nat) : co n [] = rng n := by
  unfold co
  rw [rng_flt]
  exact flt_congr fun s _ _ => rfl
theorem setE_co {n : Nat} {e : Int → List Int} {x : Int} {X : List Int} : setE (fun y => co n (e y)) x (co n X) = fun y => co n (setE e x X y) := by
  funext y
  unfold setE
  by_cases h : y = x
  · rw [if_pos h, if_pos h]
  · rw [if_neg h, if_neg h]
theorem iter_co {n : Nat} {f g : List Int → List Int} (h : ∀ X, g (co n X) = co n (f X)) : ∀ (k : Nat) (X : List Int), iter g k (co n X) = co n (iter f k X)
  | 0, X => rfl
  | k + 1, X => by
    show g (iter g k (co n X)) = co n (f (iter f k X))
    rw [iter_co h k X, h]
theorem val_opp {W : Wd} (G : W.Good) : ∀ (t : F) (e : Int → List Int), val W (opp t) (fun y => co W.n (e y)) = co W.n (val W t e)
  | .nul b, e => by
    cases b
    · show (if true = true then rng W.n else []) = co W.n (if false = true then rng W.n else [])
      rw [if_pos rfl, if_neg Bool.false_ne_true, co_nil]
    · show (if false = true then rng W.n else []) = co W.n (if true = true then rng W.n else [])
      rw [if_pos rfl, if_neg Bool.false_ne_true, co_rng]
  | .leaf .has n, e => by
    show flt W.n _ = co W.n (flt W.n _)
    rw [co_flt]
  | .leaf .lacks n, e => by
    show flt W.n _ = co W.n (flt W.n _)
    rw [co_flt]
    exact flt_congr fun s _ _ => (Bool.not_not _).symm
  | .leaf .var x, e => rfl
  | .two b f g, e => by
    cases b
    · show (if true = true then _ else _) = co W.n (if false = true then _ else _)
      rw [if_pos rfl, if_neg Bool.false_ne_true, co_flt, val_opp G f e, val_opp G g e]
      exact flt_congr fun s h0 h1 => by rw [sIn_co h0 h1, sIn_co h0 h1, Bool.not_or]
    · show (if false = true then _ else _) = co W.n (if true = true then _ else _)
      rw [if_pos rfl, if_neg Bool.false_ne_true, co_flt, val_opp G f e, val_opp G g e]
      exact flt_congr fun s h0 h1 => by rw [sIn_co h0 h1, sIn_co h0 h1, Bool.not_and]
  | .one .some l f, e => by
    show flt W.n _ = co W.n (flt W.n _)
    rw [co_flt, val_opp G f e]
    refine flt_congr fun s h0 h1 => ?_
    have : (W.beh s l).filter (fun k => !sIn (co W.n (val W f e)) k) = (W.beh s l).filter (sIn (val W f e)) := by
      refine List.filter_congr fun k hk => ?_
      obtain ⟨p, hp, rfl⟩ := List.mem_map.mp hk
      have := G p (List.mem_filter.mp hp).1
      rw [sIn_co this.1 this.2, Bool.not_not]
    rw [this, ← decide_not]
    exact decide_eq_decide.mpr ⟨fun h => by omega, fun h => by omega⟩
  | .one .all l f, e => by
    show flt W.n _ = co W.n (flt W.n _)
    rw [co_flt, val_opp G f e]
    refine flt_congr fun s h0 h1 => ?_
    have : (W.beh s l).filter (sIn (co W.n (val W f e))) = (W.beh s l).filter (fun k => !sIn (val W f e) k) := by
      refine List.filter_congr fun k hk => ?_
      obtain ⟨p, hp, rfl⟩ := List.mem_map.mp hk
      have := G p (List.mem_filter.mp hp).1
      rw [sIn_co this.1 this.2]
    rw [this, ← decide_not]
    exact decide_eq_decide.mpr ⟨fun h => by omega, fun h => by omega⟩
  | .one .least x f, e => by
    show iter (fun X => val W (opp f) (setE (fun y => co W.n (e y)) x X)) (W.n + 1) (rng W.n) = co W.n (iter (fun X => val W f (setE e x X)) (W.n + 1) [])
    rw [← co_nil, iter_co (f := fun X => val W f (setE e x X))]
    exact fun X => by rw [setE_co, val_opp G f]
  | .one .most x f, e => by
    show iter (fun X => val W (opp f) (setE (fun y => co W.n (e y)) x X)) (W.n + 1) [] = co W.n (iter (fun X => val W f (setE e x X)) (W.n + 1) (rng W.n))
    rw [← co_rng W.n, iter_co (f := fun X => val W f (setE e x X))]
    exact fun X => by rw [setE_co, val_opp G f]
/-- all values are ranks of states -/
theorem val_in {W : Wd} : ∀ (t : F) (e : Int → List Int), (∀ x ∈ fv t, (e x).length ≤ W.n) → (val W t e).length ≤ W.n
  | .nul b, e, h => by
    show (if b = true then rng W.n else []).length ≤ _
    split
    · rw [rng_len]; exact Nat.le_refl _
    · exact Nat.zero_le _
  | .leaf .has n, e, h => Nat.le_trans (List.length_filter_le _ _) (by rw [rng_len]; exact Nat.le_refl _)
  | .leaf .lacks n, e, h => Nat.le_trans (List.length_filter_le _ _) (by rw [rng_len]; exact Nat.le_refl _)
  | .leaf .var x, e, h => h x (List.mem_singleton.mpr rfl)
  | .two b f g, e, h => by
    show (if b = true then flt _ _ else flt _ _).length ≤ _
    split <;> exact Nat.le_trans (List.length_filter_le _ _) (by rw [rng_len]; exact Nat.le_refl _)
  | .one .some l f, e, h => Nat.le_trans (List.length_filter_le _ _) (by rw [rng_len]; exact Nat.le_refl _)
  | .one .all l f, e, h => Nat.le_trans (List.length_filter_le _ _) (by rw [rng_len]; exact Nat.le_refl _)
  | .one .least x f, e, h => iter_in (fun X hX => val_in f _ fun y hy => setE_in (fv_one rfl) h hX y hy) _ _ (Nat.zero_le _)
  | .one .most x f, e, h => iter_in (fun X hX => val_in f _ fun y hy => setE_in (fv_one rfl) h hX y hy) _ _ (by rw [rng_len]; exact Nat.le_refl _)
where
  iter_in {n : Nat} {f : List Int → List Int} (hf : ∀ X, X.length ≤ n → (f X).length ≤ n) : ∀ (k : Nat) (X : List Int), X.length ≤ n → (iter f k X).length ≤ n
    | 0, X, h => h
    | k + 1, X, h => hf _ (iter_in hf k X h)
  fv_one {k : One} {x : Int} {f : F} (hk : k.bind = true) : ∀ y ∈ fv f, y ≠ x → y ∈ fv (.one k x f) := fun y hy hn => by
    simp only [fv, if_pos hk, List.mem_filter, decide_eq_true_eq]
    exact ⟨hy, hn⟩
  setE_in {n : Nat} {e : Int → List Int} {x : Int} {X : List Int} {A B : List Int} (hs : ∀ y ∈ A, y ≠ x → y ∈ B) (h : ∀ y ∈ B, (e y).length ≤ n) (hX : X.length ≤ n) : ∀ y ∈ A, (setE e x X y).length ≤ n := fun y hy => by
    unfold setE
    by_cases c : y = x
    · rw [if_pos c]; exact hX
    · rw [if_neg c]; exact h y (hs y hy c)
end Fw

set_option maxRecDepth 100000
set_option maxHeartbeats 4000000
/-! all of a generator expression over zip of two lists or two tuples. -/
namespace Fw
open PySem PySem.Spec PyProof.Rows L2 GxR
theorem walksU_zipL {prog : Program} {w : World} {A : Around} (hh : A.handled = none) {z TI TO i1 i2 l1 l2 : Addr} (D : ZipApart z TI TO i1 i2 l1 l2) (xs ys : Array Value) :
    WalksU prog w A z [z, TI, TO, i1, i2, l1, l2] [z, TO, i1, i2] (min xs.size ys.size)
      (fun i vals => ∃ x y, xs[i]? = some x ∧ ys[i]? = some y ∧ vals = #[x, y])
      (fun i h => IsZip h z TI TO .none ∧ IsPair h TI (.ref i1) (.ref i2) ∧ (∃ a b, IsPair h TO a b) ∧ h.IsListIter i1 l1 i ∧ h.IsListIter i2 l2 i ∧ h.IsList l1 xs ∧ h.IsList l2 ys)
      (fun i T h => IsZip h z TI TO (rawInt T) ∧ IsPair h TI (.ref i1) (.ref i2) ∧ (∃ a b, IsPair h TO a b) ∧ h.IsListIter i1 l1 (i + 1) ∧ h.IsListIter i2 l2 (i + 1) ∧ h.IsList l1 xs ∧ h.IsList l2 ys ∧
        T ≠ z ∧ T ≠ TO ∧ T ≠ i1 ∧ T ≠ i2) := (WalksT.zip2 hh z TI TO i1 i2 l1 l2 D xs ys).toU
theorem isTuple_at {h h' : Heap} {a : Addr} {xs : Array Value} (x : h.IsTuple a xs) (k : ∀ o, h.get? a = some o → h'.get? a = some o) : h'.IsTuple a xs := let ⟨o, e, r⟩ := x; ⟨o, k o e, r⟩
theorem walksU_zipT {prog : Program} {w : World} {A : Around} (hh : A.handled = none) {z TI TO i1 i2 l1 l2 : Addr} (D : ZipApart z TI TO i1 i2 l1 l2) (xs ys : Array Value) :
    WalksU prog w A z [z, TI, TO, i1, i2, l1, l2] [z, TO, i1, i2] (min xs.size ys.size)
      (fun i vals => ∃ x y, xs[i]? = some x ∧ ys[i]? = some y ∧ vals = #[x, y])
      (fun i h => IsZip h z TI TO .none ∧ IsPair h TI (.ref i1) (.ref i2) ∧ (∃ a b, IsPair h TO a b) ∧ h.IsTupleIter i1 l1 i ∧ h.IsTupleIter i2 l2 i ∧ h.IsTuple l1 xs ∧ h.IsTuple l2 ys)
      (fun i T h => IsZip h z TI TO (rawInt T) ∧ IsPair h TI (.ref i1) (.ref i2) ∧ (∃ a b, IsPair h TO a b) ∧ h.IsTupleIter i1 l1 (i + 1) ∧ h.IsTupleIter i2 l2 (i + 1) ∧ h.IsTuple l1 xs ∧ h.IsTuple l2 ys ∧
        T ≠ z ∧ T ≠ TO ∧ T ≠ i1 ∧ T ≠ i2) where
  sub := fun c hc => by simp at hc ⊢; rcases hc with rfl | rfl | rfl | rfl <;> simp
  frame := fun i h h' hst hk => by
    obtain ⟨hz, hTI, ⟨a, b, hTO⟩, h1, h2, hl1, hl2⟩ := hst
    exact ⟨hk z (by simp) _ hz, hk TI (by simp) _ hTI, ⟨a, b, hk TO (by simp) _ hTO⟩, h1.at fun o e => hk i1 (by simp) o e, h2.at fun o e => hk i2 (by simp) o e,
      isTuple_at hl1 fun o e => hk l1 (by simp) o e, isTuple_at hl2 fun o e => hk l2 (by simp) o e⟩
  item := fun i s Q E hi hst hQ => by
    obtain ⟨hz, hTI, ⟨a, b, hTO⟩, h1, h2, hl1, hl2⟩ := hst
    have hix : i < xs.size := Nat.lt_of_lt_of_le hi (Nat.min_le_left ..)
    have hiy : i < ys.size := Nat.lt_of_lt_of_le hi (Nat.min_le_right ..)
    refine RZ.pyNext_zipT_item D hz hTI hTO h1 h2 hl1 hl2 (Array.getElem?_eq_getElem hix) (Array.getElem?_eq_getElem hiy) fun h' a1 a2 a3 a4 a5 a6 hk => ?_
    have lt : ∀ {c o}, s.heap.get? c = some o → s.heap.objs.size ≠ c := fun e => Nat.ne_of_gt (Heap.lt_size e)
    exact hQ s.heap.objs.size #[xs[i], ys[i]] h' s.toks ⟨_, _, Array.getElem?_eq_getElem hix, Array.getElem?_eq_getElem hiy, rfl⟩ ⟨_, a5, rfl, _, rfl⟩
      ⟨a1, hk _ _ D.TIz D.TITO D.TIi1 D.TIi2 hTI, ⟨_, _, a2⟩, a3, a4, isTuple_at hl1 fun o e => hk _ o D.l1z D.l1TO D.l1i1 D.l1i2 e, isTuple_at hl2 fun o e => hk _ o D.l2z D.l2TO D.l2i1 D.l2i2 e,
        lt hz, lt hTO, (by obtain ⟨_, e, _⟩ := h1; exact lt e), (by obtain ⟨_, e, _⟩ := h2; exact lt e)⟩
      fun c o hc e => hk c o (fun x => hc (by simp [x])) (fun x => hc (by simp [x])) (fun x => hc (by simp [x])) (fun x => hc (by simp [x])) e
  go := fun elts k pos i T s Q E hm hQ => by
    obtain ⟨hz, hTI, ⟨a, b, hTO⟩, h1, h2, hl1, hl2, _⟩ := hm
    refine wpAny_letOwnedTupleGo_zip hz fun h' hz' hs' => hQ h' ⟨hz', hs'.extBut _ _ D.TIz hTI, ⟨a, b, hs'.extBut _ _ D.TOz hTO⟩, h1.at fun o e => hs'.extBut _ _ D.i1z e, h2.at fun o e => hs'.extBut _ _ D.i2z e,
      isTuple_at hl1 fun o e => hs'.extBut _ _ D.l1z e, isTuple_at hl2 fun o e => hs'.extBut _ _ D.l2z e⟩ fun c o hc e => hs'.extBut _ _ (fun x => hc (by simp [x])) e
  apart := fun i T h hm hT => by
    obtain ⟨_, _, _, _, _, _, _, t1, t2, t3, t4⟩ := hm
    simp at hT
    rcases hT with rfl | rfl | rfl | rfl
    · exact t1 rfl
    · exact t2 rfl
    · exact t3 rfl
    · exact t4 rfl
  done := fun s Q E hst hQ => by
    obtain ⟨hz, hTI, ⟨a, b, hTO⟩, h1, h2, hl1, hl2⟩ := hst
    have hend : xs[min xs.size ys.size]? = none ∨ ys[min xs.size ys.size]? = none := by
      rcases Nat.le_total xs.size ys.size with h | h
      · exact .inl (by rw [Nat.min_eq_left h]; exact Array.getElem?_eq_none (Nat.le_refl _))
      · exact .inr (by rw [Nat.min_eq_right h]; exact Array.getElem?_eq_none (Nat.le_refl _))
    exact RZ.pyNext_zipT_end hh D hz hTI hTO h1 h2 hl1 hl2 hend fun h' hk => hQ h' s.toks fun c o hc e =>
      hk c o (fun x => hc (by simp [x])) (fun x => hc (by simp [x])) (fun x => hc (by simp [x])) (fun x => hc (by simp [x])) e
  self := fun i s Q E hst hQ => wpAny_pyIter_zip hst.1 hQ
theorem vals_get : ∀ {xs : List V} {us : List Value} {j : Nat} {u : Value}, Vals xs us → us[j]? = some u → ∃ x, xs[j]? = some x ∧ RelV x u
  | _, _, 0, _, .cons r _, e => by
    simp at e
    subst e
    exact ⟨_, rfl, r⟩
  | _, _, j + 1, _, .cons _ rr, e => by
    simp at e
    obtain ⟨x, hx, r⟩ := vals_get rr e
    exact ⟨x, by simpa using hx, r⟩
/-- the generator expression's own scope, two names -/
structure GenS2 (env : Env) (scope : Scope) (xa xb : Str) : Prop where
  kind : scope.kind = .function
  co : scope.isCoroutine = false
  cell : ∀ y ∈ scope.names, y.2 ≠ .cell
  dot : scope.names.lookup (".0" : Str) = some NameKind.local
  la : scope.names.lookup xa = some .local
  lb : scope.names.lookup xb = some .local
  free : ∀ y ∈ scope.names, y.2 = .free → ∃ c, env.cells.lookup y.1 = some c
/-- the element at two values: a test whose outcome is r -/
def EltZ (prog : Program) (w : World) (scope : Scope) (xa xb : Str) (elt : Expr) (U : Nat) (hb : Heap) (P : Addr) (x y : V) (r : Bool) : Prop :=
  ∀ (cenv : Env) (A' : Around) (E' : Value → Shared → Prop) (va vb : Value) (s₂ : Shared) (m₂ : Str → Option Value), cenv.scope = scope → A'.units ≤ U → s₂.heap.Ns cenv.locals m₂ → m₂ xa = some va → m₂ xb = some vb → RelV x va → RelV y vb →
    (∀ b o, b ≠ P → hb.get? b = some o → s₂.heap.get? b = some o) → wpAny (model prog w) A' (eval elt cenv) (fun v s₃ => v = .bool r ∧ Keeps s₂ s₃) E' s₂
def ReadyZ (X : Cx) (pins : List (Addr × Obj)) (σ : L2.St) (H1 : Hp) (P : Addr) (rs : List Bool) (g : Addr) (s5 : Shared) : Prop :=
  ∃ (fp wr : List Addr) (G : Array GenState → Array GenState → Prop) (n : Nat) (F : Nat → Value → Prop) (St : Nat → Shared → Prop),
    n = rs.length ∧ WalksS X.prog X.w X.A.in1 g fp wr G n F St ∧ St 0 s5 ∧
    TruthOf X.prog X.w X.A.in1 F (fun j => (rs[j]?).getD false) ∧
    ∀ s', Moved wr G s5 s' → ∃ H2, Tabbed P H1 H2 ∧ Inv X pins σ H2 s'
section
variable {X : Cx} {pins : List (Addr × Obj)} {σ : L2.St} {H : Hp} {s : Shared}
/-- what the test does at each pair, in any heap like H1 -/
def EltsZ (X : Cx) (scope : Scope) (xa xb : Str) (elt : Expr) (P : Addr) (H1 : Hp) (xs ys : List V) (rs : List Bool) : Prop :=
  rs.length = min xs.length ys.length ∧ ∀ (s : Shared) (pins : List (Addr × Obj)) (σ : L2.St), Inv X pins σ H1 s → ∀ (i : Nat) (x y : V) (r : Bool), xs[i]? = some x → ys[i]? = some y → rs[i]? = some r → EltZ X.prog X.w scope xa xb elt (X.A.units + 8) s.heap P x y r
theorem gen_zip {c P : Addr} {elt e e2 : Expr} {xa xb : Str} {pa pb pt pz cpos gpos : Pos} {kt : Nat} {scope : Scope} {ta : TA} {k : Nat} {Q' : Value → Shared → Prop} {R : List Bool → Hp → Prop}
    (hr : Room k X.A) (TB : TabB X.base X.mg c P) (hcode : X.env.code = .ref c) (S : GenS2 X.env scope xa xb) (hab : xa ≠ xb) (hg : Gl X "zip") (hm : X.mg "zip" = none) (ha : PA X [e, e2] ta)
    (hse : starEach [e, e2] X.env = (false, eval e X.env) :: starEach [e2] X.env) (hpl : (backTo cpos (starEach [e2] X.env)).any (·.1) = false)
    (hs : ∀ v, genFold (.Call (.Name "zip" pz) [e, e2] [] cpos) X.env v = pure v) (I : Inv X pins σ H s)
    (h : ta σ H fun vs H1 => ∃ a b xs ys rs, vs = [.ref a, .ref b] ∧ ((SqL X.K H1 a xs ∧ SqL X.K H1 b ys) ∨ (SqT X.K H1 a xs ∧ SqT X.K H1 b ys)) ∧ TabG H1 P ∧ EltsZ X scope xa xb elt P H1 xs ys rs ∧ R rs H1)
    (hQ : ∀ rs H1 g s5, R rs H1 → ReadyZ X pins σ H1 P rs g s5 → Q' (.ref g) s5) :
    wpAny (model X.prog X.w) X.A (eval (.GeneratorExp elt [⟨.Tuple [.Name xa pa, .Name xb pb] kt pt, .Call (.Name "zip" pz) [e, e2] [] cpos, [], 0⟩] scope gpos) X.env) Q' X.xe s := by
  refine wpAny_GeneratorExp_walksQTD hr.hd S.co (closure_ok S.free) S.cell S.dot S.la S.lb hab S.kind (by have := hr.dp; omega) ?_ hs
  refine Call_ (ld_blt I hg hm PyProof.Rows.boot_zip (PyProof.Rows.callWith_type1 (thn (ha.run cpos pins s σ H _ I h) fun us s1 ⟨vs, H1, I1, r1, q1⟩ => ?_) hse hpl))
  obtain ⟨a, b, xs, ys, rs, ex, hab2, ⟨ps, hP, ht⟩, ⟨hlen, hel⟩, q1⟩ := q1
  subst ex
  cases r1 with
  | cons r rr =>
  cases rr with
  | cons r' rr =>
  cases rr
  cases r
  cases r'
  have hPs : s1.heap.get? P = some { cls := .none, data := .fields ps } := I1.hok P _ hP
  have hPlt : P < s1.heap.objs.size := Heap.lt_size hPs
  -- from the zip object on, over lists or over tuples
  have go : ∀ (h' : Heap) (its its2 : List Value) (St₀ : Nat → Heap → Prop) (Mid : Nat → Addr → Heap → Prop), Vals xs its → Vals ys its2 → (∀ c o, s1.heap.get? c = some o → h'.get? c = some o) → h'.objs.size = s1.heap.objs.size + 5 →
      a < s1.heap.objs.size → b < s1.heap.objs.size → a ≠ P → b ≠ P →
      (∀ A' : Around, A'.handled = none → WalksU X.prog X.w A' (s1.heap.objs.size + 4) [s1.heap.objs.size + 4, s1.heap.objs.size + 2, s1.heap.objs.size + 3, s1.heap.objs.size, s1.heap.objs.size + 1, a, b] [s1.heap.objs.size + 4, s1.heap.objs.size + 3, s1.heap.objs.size, s1.heap.objs.size + 1] (min its.toArray.size its2.toArray.size)
        (fun i vals => ∃ x y, its.toArray[i]? = some x ∧ its2.toArray[i]? = some y ∧ vals = #[x, y]) St₀ Mid) → St₀ 0 h' →
      { s1 with heap := h' }.heap.NoLimit ∧
      wpAny (model X.prog X.w) X.A (genexprCode X.env gpos (X.env.qual ++ "<genexpr>") scope) (fun code s₃ => wpAny (model X.prog X.w) X.A (builtinsFor X.env.globals X.env.builtins) (fun bi s₄ =>
        ∃ Ia fp wr n₀ Pt St₀ Mid pz F, Value.ref (s1.heap.objs.size + 4) = .ref Ia ∧ (∀ A' : Around, A'.handled = none → WalksU X.prog X.w A' Ia fp wr n₀ Pt St₀ Mid) ∧ (∀ i vals, Pt i vals → ∃ va vb, vals = #[va, vb]) ∧ St₀ 0 s₄.heap ∧ (∀ b ∈ fp, b < s₄.heap.objs.size) ∧ s₄.heap.NoLimit ∧ cStatics ∉ wr ∧
          (∀ href : Heap, (∀ b o, s₄.heap.get? b = some o → href.get? b = some o) →
            QuietGenTD X.prog X.w (genEnv scope (cloFrom X.env.cells scope.names []) s₄.heap.objs.size code bi X.env) xa xb [] elt (List.range s₄.heap.objs.size) wr Pt pz F href (X.A.depth + 1) (X.A.units + 8)) ∧
          (∀ a h₅ tk gs, gs.bare = true → s₄.heap.objs.size < a → h₅.objs.size = a + 1 → (∀ b o, s₄.heap.get? b = some o → h₅.get? b = some o) →
            WalksS X.prog X.w X.A.in4 a (a :: s₄.heap.objs.size :: List.range s₄.heap.objs.size) (s₄.heap.objs.size :: wr) (GenOnlyQ s₄.gens.size) (passing pz n₀ 0).length
              (fun j y => ∃ i, (passing pz n₀ 0)[j]? = some i ∧ F i y) (GenAt X.prog X.w X.A.in4 a s₄.gens.size s₄.heap.objs.size (List.range s₄.heap.objs.size) wr pz n₀ F) →
            GenAt X.prog X.w X.A.in4 a s₄.gens.size s₄.heap.objs.size (List.range s₄.heap.objs.size) wr pz n₀ F 0 { s₄ with gens := s₄.gens.push gs, toks := tk, heap := h₅ } →
            Q' (.ref a) { s₄ with gens := s₄.gens.push gs, toks := tk, heap := h₅ })) X.xe s₃) X.xe { s1 with heap := h' } := by
    intro h' its its2 St Mid rv rv2 hk hsz' la lb aP bP W hst
    have l1 := rv.length
    have l2 := rv2.length
    have hP2 : h'.get? P = some { cls := .none, data := .fields ps } := hk _ _ hPs
    have cd : PySem.W.CodeHd h' c P := TB.code.keeps fun b u e => hk _ _ (I1.bk b u e)
    have lim2 : h'.NoLimit := I1.nolimit.keeps hk
    have cont : ∀ (code : Value) (h3 : Heap) (tk : Nat) (ps' : Array Value), Heap.ExtBut P h' h3 → h'.objs.size ≤ h3.objs.size → h3.get? P = some { cls := .none, data := .fields ps' } → (∃ more, ps' = ps ++ more) → TriplesOk ps'.toList →
        wpAny (model X.prog X.w) X.A (builtinsFor X.env.globals X.env.builtins) (fun bi s₄ =>
          ∃ Ia fp wr n₀ Pt St₀ Mid pz F, Value.ref (s1.heap.objs.size + 4) = .ref Ia ∧ (∀ A' : Around, A'.handled = none → WalksU X.prog X.w A' Ia fp wr n₀ Pt St₀ Mid) ∧ (∀ i vals, Pt i vals → ∃ va vb, vals = #[va, vb]) ∧ St₀ 0 s₄.heap ∧ (∀ b ∈ fp, b < s₄.heap.objs.size) ∧ s₄.heap.NoLimit ∧ cStatics ∉ wr ∧
          (∀ href : Heap, (∀ b o, s₄.heap.get? b = some o → href.get? b = some o) →
            QuietGenTD X.prog X.w (genEnv scope (cloFrom X.env.cells scope.names []) s₄.heap.objs.size code bi X.env) xa xb [] elt (List.range s₄.heap.objs.size) wr Pt pz F href (X.A.depth + 1) (X.A.units + 8)) ∧
          (∀ a h₅ tk gs, gs.bare = true → s₄.heap.objs.size < a → h₅.objs.size = a + 1 → (∀ b o, s₄.heap.get? b = some o → h₅.get? b = some o) →
            WalksS X.prog X.w X.A.in4 a (a :: s₄.heap.objs.size :: List.range s₄.heap.objs.size) (s₄.heap.objs.size :: wr) (GenOnlyQ s₄.gens.size) (passing pz n₀ 0).length
              (fun j y => ∃ i, (passing pz n₀ 0)[j]? = some i ∧ F i y) (GenAt X.prog X.w X.A.in4 a s₄.gens.size s₄.heap.objs.size (List.range s₄.heap.objs.size) wr pz n₀ F) →
            GenAt X.prog X.w X.A.in4 a s₄.gens.size s₄.heap.objs.size (List.range s₄.heap.objs.size) wr pz n₀ F 0 { s₄ with gens := s₄.gens.push gs, toks := tk, heap := h₅ } →
            Q' (.ref a) { s₄ with gens := s₄.gens.push gs, toks := tk, heap := h₅ })) X.xe { s1 with heap := h3, toks := tk } := by
      intro code h3 tk ps' hx hsz hP3 hmore ht3
      obtain ⟨bm, ob, e1, e2, e3, e4, e5, e6, e7, e8⟩ := TB.bm
      have hcP : cStatics ≠ P := fun e => by
        obtain ⟨_, hns, _⟩ := I1.nolimit
        obtain ⟨o', es, ep, ho, hd, _⟩ := hns
        rw [e, hPs] at ho
        cases ho
        cases hd
      have hcl : cStatics < s1.heap.objs.size := let ⟨_, hns, _⟩ := I1.nolimit; hns.lt
      have keep3 : ∀ b u, b ≠ P → s1.heap.get? b = some u → h3.get? b = some u := fun b u hb e => hx b u hb (hk _ _ e)
      refine wpAny_builtinsFor (m := X.mg) (by rw [I1.ok.glob]; exact ((I1.mod.glob.keeps I1.bk).keeps hk).extBut hx TB.gP) e1 e2 (keep3 _ _ e4 (I1.bk _ _ e5)) e6 e7 e8 ?_
      refine ⟨s1.heap.objs.size + 4, _, _, _, _, St, Mid, (fun _ => true), (fun i y => ∃ r, rs[i]? = some r ∧ y = .bool r), rfl, W, ?_, ?_, ?_, lim2.extBut hx hcP, ?_, ?_, ?_⟩
      · rintro i vals ⟨x, y, _, _, e⟩
        exact ⟨x, y, e⟩
      · refine (W X.A hr.hd).frame _ _ _ hst fun b' hb u e => hx b' u (fun z => ?_) e
        have : b' = s1.heap.objs.size + 4 ∨ b' = s1.heap.objs.size + 2 ∨ b' = s1.heap.objs.size + 3 ∨ b' = s1.heap.objs.size ∨ b' = s1.heap.objs.size + 1 ∨ b' = a ∨ b' = b := by simpa using hb
        rw [z] at this
        rcases this with q | q | q | q | q | q | q
        · exact absurd hPlt (by rw [q]; exact Nat.not_lt.mpr (Nat.le_add_right _ _))
        · exact absurd hPlt (by rw [q]; exact Nat.not_lt.mpr (Nat.le_add_right _ _))
        · exact absurd hPlt (by rw [q]; exact Nat.not_lt.mpr (Nat.le_add_right _ _))
        · exact absurd hPlt (by rw [q]; exact Nat.lt_irrefl _)
        · exact absurd hPlt (by rw [q]; exact Nat.not_lt.mpr (Nat.le_add_right _ _))
        · exact aP q.symm
        · exact bP q.symm
      · intro b' hb
        show b' < h3.objs.size
        have : b' = s1.heap.objs.size + 4 ∨ b' = s1.heap.objs.size + 2 ∨ b' = s1.heap.objs.size + 3 ∨ b' = s1.heap.objs.size ∨ b' = s1.heap.objs.size + 1 ∨ b' = a ∨ b' = b := by simpa using hb
        refine Nat.lt_of_lt_of_le ?_ (Nat.le_trans (Nat.le_of_eq hsz'.symm) hsz)
        rcases this with q | q | q | q | q | q | q
        · rw [q]; exact Nat.add_lt_add_left (by decide) _
        · rw [q]; exact Nat.add_lt_add_left (by decide) _
        · rw [q]; exact Nat.add_lt_add_left (by decide) _
        · rw [q]; exact Nat.lt_add_of_pos_right (by decide)
        · rw [q]; exact Nat.add_lt_add_left (by decide) _
        · rw [q]; exact Nat.lt_of_lt_of_le la (Nat.le_add_right _ _)
        · rw [q]; exact Nat.lt_of_lt_of_le lb (Nat.le_add_right _ _)
      · intro z
        have : cStatics = s1.heap.objs.size + 4 ∨ cStatics = s1.heap.objs.size + 3 ∨ cStatics = s1.heap.objs.size ∨ cStatics = s1.heap.objs.size + 1 := by simpa using z
        rcases this with q | q | q | q
        · exact absurd hcl (by rw [q]; exact Nat.not_lt.mpr (Nat.le_add_right _ _))
        · exact absurd hcl (by rw [q]; exact Nat.not_lt.mpr (Nat.le_add_right _ _))
        · exact absurd hcl (by rw [q]; exact Nat.lt_irrefl _)
        · exact absurd hcl (by rw [q]; exact Nat.not_lt.mpr (Nat.le_add_right _ _))
      · intro href hhref
        refine ⟨fun A' E' i va vb s₂ m₂ hA _ _ hPv hn hma hmb hkk => ?_, fun A' E' i va vb s₂ m₂ hA _ hu hPv hp hn hma hmb hkk => ?_⟩
        · simp only [List.forIn_nil]
          exact wpAny_pure ⟨rfl, keeps_refl _⟩
        · obtain ⟨x, y, hx', hy', ee⟩ := hPv
          have ea : va = x := by have := congrArg (fun z => z[0]?) ee; simpa using this
          have eb : vb = y := by have := congrArg (fun z => z[1]?) ee; simpa using this
          subst ea eb
          have hx2 : its[i]? = some va := by simpa using hx'
          have hy2 : its2[i]? = some vb := by simpa using hy'
          obtain ⟨x, hxx, rx⟩ := vals_get rv hx2
          obtain ⟨y, hyy, ry⟩ := vals_get rv2 hy2
          have hi : i < rs.length := by
            have h1 := (List.getElem?_eq_some_iff.mp hxx).1
            have h2 := (List.getElem?_eq_some_iff.mp hyy).1
            omega
          have hrr : rs[i]? = some rs[i] := List.getElem?_eq_getElem hi
          refine wpAny_mono (hel s1 pins σ I1 i x y _ hxx hyy hrr _ A' E' va vb s₂ m₂ rfl hu hn hma hmb rx ry fun b' o hb' e => ?_) (fun v s3 r => ⟨⟨_, hrr, r.1⟩, r.2⟩) fun _ _ e => e
          have e3 := keep3 b' o hb' e
          have lt := Heap.lt_size e
          refine hkk b' (List.mem_range.mpr (Nat.lt_of_lt_of_le lt (Nat.le_trans (by rw [hsz']; exact Nat.le_add_right _ _) hsz))) (fun hw => ?_) o (hhref _ _ e3)
          have : b' = s1.heap.objs.size + 4 ∨ b' = s1.heap.objs.size + 3 ∨ b' = s1.heap.objs.size ∨ b' = s1.heap.objs.size + 1 := by simpa using hw
          rcases this with q | q | q | q
          · exact absurd lt (by rw [q]; exact Nat.not_lt.mpr (Nat.le_add_right _ _))
          · exact absurd lt (by rw [q]; exact Nat.not_lt.mpr (Nat.le_add_right _ _))
          · exact absurd lt (by rw [q]; exact Nat.lt_irrefl _)
          · exact absurd lt (by rw [q]; exact Nat.not_lt.mpr (Nat.le_add_right _ _))
      · intro g h5 tk5 gs hgb hag hsz5 hk5 W5 hat
        simp only [GxR.passing_true, List.length_range] at W5
        have en : min its.toArray.size its2.toArray.size = rs.length := by rw [List.size_toArray, List.size_toArray, hlen, ← l1, ← l2]
        refine hQ rs H1 g _ q1 ⟨_, _, _, _, _, _, en, W5.in4_1, hat, ?_, fun s' hm => ?_⟩
        · intro j y sj Qj Ej hy hQj
          obtain ⟨i, hij, r, hrr, rfl⟩ := hy
          obtain ⟨hj, ej⟩ := List.getElem?_eq_some_iff.mp hij
          rw [List.getElem_range] at ej
          subst ej
          have hQ2 : Qj ((rs[j]?).getD false) sj := hQj
          rw [hrr] at hQ2
          exact wpAny_truthy_bool hQ2
        · obtain ⟨more, em⟩ := hmore
          have nwr : ∀ b' u, s1.heap.get? b' = some u → b' ∉ h3.objs.size :: [s1.heap.objs.size + 4, s1.heap.objs.size + 3, s1.heap.objs.size, s1.heap.objs.size + 1] := fun b' u e hb => by
            have hl := Heap.lt_size e
            have : b' = h3.objs.size ∨ b' = s1.heap.objs.size + 4 ∨ b' = s1.heap.objs.size + 3 ∨ b' = s1.heap.objs.size ∨ b' = s1.heap.objs.size + 1 := by simpa using hb
            rcases this with q | q | q | q | q
            · exact absurd hl (by rw [q]; exact Nat.not_lt.mpr (Nat.le_trans (by rw [hsz']; exact Nat.le_add_right _ _) hsz))
            · exact absurd hl (by rw [q]; exact Nat.not_lt.mpr (Nat.le_add_right _ _))
            · exact absurd hl (by rw [q]; exact Nat.not_lt.mpr (Nat.le_add_right _ _))
            · exact absurd hl (by rw [q]; exact Nat.lt_irrefl _)
            · exact absurd hl (by rw [q]; exact Nat.not_lt.mpr (Nat.le_add_right _ _))
          have J := inv_tab (more := more) (h' := s'.heap) (g' := s'.gens) (d' := s'.drawn) (t' := s'.toks) I1 hP (fun b' u hb e => hm.heap b' u (nwr b' u e) (hk5 b' u (keep3 b' u hb e)))
            (by rw [← em]; exact hm.heap P _ (nwr P _ hPs) (hk5 P _ hP3)) (AllBare.movedS (I1.bare.push hgb) hm)
          rw [sh_eta s1 s' hm.os] at J
          exact ⟨upd H1 P (.tbl (ps ++ more)), ⟨⟨ps ++ more, upd_same, by rw [← em]; exact ht3⟩, fun b hb => upd_ne hb⟩, J⟩
    refine ⟨lim2, ?_⟩
    cases hf : codeAmong gpos ps.toList with
    | none =>
      refine wpAny_genexprCodeX hcode (cd.code hP2 ht) (cd.tab hP2) hf fun c' h'' tk hx hge hlt hco' _ htab' _ => ?_
      obtain ⟨o1, vs, f1, tf, fl, tg, inF, tx, tt, op, _, _, _, _, _, _, _, _, _, htr, _⟩ := hco'
      exact cont _ h'' tk _ hx (Nat.le_trans hge (Nat.le_of_lt hlt)) htab'.2 ⟨_, rfl⟩ htr
    | some cv =>
      refine wpAny_genexprCode_hit hcode (cd.code hP2 ht) hf ?_
      exact cont cv h' s1.toks ps (Heap.ExtBut.refl _ _) (Nat.le_refl _) hP2 ⟨#[], by simp⟩ ht
  rcases hab2 with ⟨hqx, hqy⟩ | ⟨hqx, hqy⟩
  · obtain ⟨its, rv, p1, _⟩ := I1.list hqx
    obtain ⟨its2, rv2, p2, _⟩ := I1.list hqy
    refine call_zip_2 p1.isList p2.isList fun h' hz hTI hTO h1 h2 hsz hk => wpAny_pyIter_zip hz ?_
    refine go h' its its2 _ _ rv rv2 hk hsz p1.lt p2.lt ?_ ?_ (fun A' hA => walksU_zipL hA (zipApart_new p1.lt p2.lt) _ _) ⟨hz, hTI, ⟨_, _, hTO⟩, h1, h2, Heap.IsList.at p1.isList (fun o e => hk _ o e), Heap.IsList.at p2.isList (fun o e => hk _ o e)⟩
    · intro e; subst e
      obtain ⟨o, ho, hc, _⟩ := p1.isList
      rw [hPs] at ho; cases ho; cases hc
    · intro e; subst e
      obtain ⟨o, ho, hc, _⟩ := p2.isList
      rw [hPs] at ho; cases ho; cases hc
  · obtain ⟨its, rv, p1, _⟩ := I1.tuple hqx
    obtain ⟨its2, rv2, p2, _⟩ := I1.tuple hqy
    obtain ⟨o1, ho1, hc1, _⟩ := id p1
    obtain ⟨o2, ho2, hc2, _⟩ := id p2
    refine RZ.call_zipT (show s1.heap.IsTuple a its.toArray from p1) (show s1.heap.IsTuple b its2.toArray from p2) fun h' hz hTI hTO h1 h2 hsz hk => wpAny_pyIter_zip hz ?_
    refine go h' its its2 _ _ rv rv2 hk hsz (Heap.lt_size ho1) (Heap.lt_size ho2) ?_ ?_ (fun A' hA => walksU_zipT hA (zipApart_new (Heap.lt_size ho1) (Heap.lt_size ho2)) _ _) ⟨hz, hTI, ⟨_, _, hTO⟩, h1, h2, isTuple_at p1 (fun o e => hk _ o e), isTuple_at p2 (fun o e => hk _ o e)⟩
    · intro e; subst e
      rw [hPs] at ho1; cases ho1; cases hc1
    · intro e; subst e
      rw [hPs] at ho2; cases ho2; cases hc2
theorem all_getD (rs : List Bool) : (List.range rs.length).all (fun j => (rs[j]?).getD false) = rs.all id := by
  rw [Bool.eq_iff_iff, List.all_eq_true, List.all_eq_true]
  constructor
  · intro h b hb
    obtain ⟨j, hj, e⟩ := List.getElem_of_mem hb
    have q := h j (List.mem_range.mpr hj)
    rw [List.getElem?_eq_getElem hj, e] at q
    exact q
  · intro h j hj
    have hj' := List.mem_range.mp hj
    rw [List.getElem?_eq_getElem hj']
    exact h _ (List.getElem_mem hj')
/-- all(test for a, b in zip(x, y)), x and y two lists or two tuples; behind it the def's table may have grown -/
def tAllZ (X : Cx) (scope : Scope) (xa xb : Str) (elt : Expr) (P : Addr) (ta : TA) : TE := fun σ H Q => ta σ H fun vs H1 => ∃ a b xs ys rs, vs = [.ref a, .ref b] ∧ ((SqL X.K H1 a xs ∧ SqL X.K H1 b ys) ∨ (SqT X.K H1 a xs ∧ SqT X.K H1 b ys)) ∧ TabG H1 P ∧
  EltsZ X scope xa xb elt P H1 xs ys rs ∧ ∀ H2, Tabbed P H1 H2 → Q (.bl (rs.all id)) H2
theorem pe_allZ {c P : Addr} {elt e e2 : Expr} {xa xb : Str} {pa pb pt pz p pos cpos gpos : Pos} {kt : Nat} {scope : Scope} {ta : TA} {k : Nat}
    (hr : Room k X.A) (TB : TabB X.base X.mg c P) (hcode : X.env.code = .ref c) (S : GenS2 X.env scope xa xb) (hab : xa ≠ xb) (hg : Gl X "all") (hm : X.mg "all" = none) (hgz : Gl X "zip") (hmz : X.mg "zip" = none) (ha : PA X [e, e2] ta)
    (hb : bootBuiltins "all" = some (.builtin "all") := by decide +kernel)
    (hse : starEach [e, e2] X.env = (false, eval e X.env) :: starEach [e2] X.env := by rfl) (hpl : (backTo cpos (starEach [e2] X.env)).any (·.1) = false := by rfl)
    (hs : ∀ v, genFold (.Call (.Name "zip" pz) [e, e2] [] cpos) X.env v = pure v := by intro _; rfl)
    (he : starEach [.GeneratorExp elt [⟨.Tuple [.Name xa pa, .Name xb pb] kt pt, .Call (.Name "zip" pz) [e, e2] [] cpos, [], 0⟩] scope gpos] X.env = (false, eval (.GeneratorExp elt [⟨.Tuple [.Name xa pa, .Name xb pb] kt pt, .Call (.Name "zip" pz) [e, e2] [] cpos, [], 0⟩] scope gpos) X.env) :: starEach [] X.env := by rfl) :
    PE X (.Call (.Name "all" p) [.GeneratorExp elt [⟨.Tuple [.Name xa pa, .Name xb pb] kt pt, .Call (.Name "zip" pz) [e, e2] [] cpos, [], 0⟩] scope gpos] [] pos) (tAllZ X scope xa xb elt P ta) := by
  refine ⟨fun pins s σ H Q I h => ?_⟩
  refine wpAny_Call_Name_kw (ld_blt I hg hm hb ?_)
  refine PyProof.Rows.callWith_builtin1 ?_ he (by rfl)
  rw [he]
  show wpAny _ _ (spliced ((false, eval (.GeneratorExp elt [⟨.Tuple [.Name xa pa, .Name xb pb] kt pt, .Call (.Name "zip" pz) [e, e2] [] cpos, [], 0⟩] scope gpos) X.env) :: backTo pos (starEach [] X.env))) _ _ s
  refine Calls.spliced_cons (gen_zip (R := fun rs H1 => ∀ H2, Tabbed P H1 H2 → Q (.bl (rs.all id)) H2) hr TB hcode S hab hgz hmz ha hse hpl hs I h fun rs H1 g s5 hR hG => ?_)
  obtain ⟨fp, wr, G, n, F, St, hn, W, hst, htr, hI⟩ := hG
  refine Calls.spliced_nil ?_
  refine call_all_walkS (W.self 0 _ _ _ hst ⟨g, fp, wr, G, _, F, St, _, rfl, W, hst, htr, fun s' hmv => ?_⟩)
  obtain ⟨H2, hT, J⟩ := hI s' hmv
  refine ⟨.bl _, H2, J, rfl, ?_⟩
  rw [hn, all_getD rs]
  exact hR H2 hT
end
end Fw

set_option maxRecDepth 100000
set_option maxHeartbeats 4000000
/-! Sorting of triples of whole numbers, setdefault on tuple keys, tests within a generator. -/
namespace Fw
open PySem PySem.Spec PyProof.Rows L2 GxR
/-! ### triples -/
abbrev T3 := Int × Int × Int
def lex3 (p q : T3) : Bool := if p.1 = q.1 then (if p.2.1 = q.2.1 then decide (p.2.2 < q.2.2) else decide (p.2.1 < q.2.1)) else decide (p.1 < q.1)
def Lt3 (p q : T3) : Prop := p.1 < q.1 ∨ (p.1 = q.1 ∧ (p.2.1 < q.2.1 ∨ (p.2.1 = q.2.1 ∧ p.2.2 < q.2.2)))
theorem lex3_iff {p q : T3} : lex3 p q = true ↔ Lt3 p q := by
  unfold lex3 Lt3
  split
  · split
    · rw [decide_eq_true_eq]; omega
    · rw [decide_eq_true_eq]; omega
  · rw [decide_eq_true_eq]; omega
theorem lex3_no {p q : T3} : lex3 p q = false ↔ ¬ Lt3 p q := by
  rw [← lex3_iff]
  cases lex3 p q <;> simp
theorem swo3 {α : Type} (k : α → T3) : SrtO.Swo fun v u => lex3 (k v) (k u) := by
  refine ⟨fun x y h => ?_, fun x y z h1 h2 => ?_⟩
  · have a := lex3_iff.mp h
    refine lex3_no.mpr ?_
    unfold Lt3 at *
    omega
  · have a := lex3_no.mp h1
    have b := lex3_no.mp h2
    refine lex3_no.mpr ?_
    unfold Lt3 at *
    omega
def IsTrip (h : Heap) (v : Value) (x : T3) : Prop := ∃ a o t u r n, v = .ref a ∧ h.get? a = some o ∧ o.cls = .type "tuple" ∧ o.data = .seq #[.int x.1 t, .int x.2.1 u, .int x.2.2 r] n
theorem IsTrip.keeps {h h' : Heap} {v : Value} {x : T3} (p : IsTrip h v x) (k : ∀ b o, h.get? b = some o → o.cls = .type "tuple" → h'.get? b = some o) : IsTrip h' v x := by
  obtain ⟨a, o, t, u, r, n, e, ho, hc, hd⟩ := p
  exact ⟨a, o, t, u, r, n, e, k a o ho hc, hc, hd⟩
section
variable {prog : Program} {w : World} {A : Around} {E : Value → Shared → Prop} {s : Shared}
theorem trip_cmp {vs : List Value} {k : Value → T3} (hp : ∀ v ∈ vs, IsTrip s.heap v (k v)) : SrtO.Cmp prog w A s (PyProof.Rows.tuples' true) (fun p => p.1 ∈ vs) (SrtO.lt2 fun v u => lex3 (k v) (k u)) := by
  intro p q hm hm'
  have h1 := hp _ hm
  have h2 := hp _ hm'
  show wpAny (model prog w) A (keyLt' (PyProof.Rows.tuples' true) p.1 q.1) (fun r s' => s' = s ∧ r = lex3 (k p.1) (k q.1)) (fun _ _ => False) s
  unfold lex3
  generalize (k p.1) = x at h1 ⊢
  generalize (k q.1) = x' at h2 ⊢
  obtain ⟨x, y, z⟩ := x
  obtain ⟨x', y', z'⟩ := x'
  obtain ⟨a, o, t, u, r, n, e, ho, hc, hd⟩ := h1
  obtain ⟨a', o', t', u', r', n', e', ho', hc', hd'⟩ := h2
  rw [e, e']
  simp only at hd hd' ⊢
  refine PySem.W.kat_lt ho hd ho' hd' ?_
  show PySem.W.KatLex prog w A true (decide (3 < 3)) _ [(.int x t, .int x' t'), (.int y u, .int y' u'), (.int z r, .int z' r')] 0 s
  refine PySem.W.kat_cons (SeqAt.EqAt.int_int x t x' t' prog w _ _ ?_)
  refine PySem.W.kat_go (fun e1 => ?_) (fun e1 => ?_)
  · have ex : x = x' := by simpa using e1
    rw [if_pos ex]
    refine PySem.W.kat_yes (PySem.W.kat_cons (SeqAt.EqAt.int_int y u y' u' prog w _ _ ?_))
    refine PySem.W.kat_go (fun e2 => ?_) (fun e2 => ?_)
    · have ey : y = y' := by simpa using e2
      rw [if_pos ey]
      refine PySem.W.kat_yes (PySem.W.kat_cons (SeqAt.EqAt.int_int z r z' r' prog w _ _ ?_))
      refine PySem.W.kat_go (fun e3 => ?_) (fun e3 => ?_)
      · have ez : z = z' := by simpa using e3
        have e4 : decide (z < z') = false := by rw [ez]; exact decide_eq_false (Int.lt_irrefl _)
        rw [e4]
        exact PySem.W.kat_yes (PySem.W.kat_nil ⟨rfl, rfl⟩)
      · refine PySem.W.kat_no (PySem.W.kat_one _ _ (PyProof.Rows.lt_int ?_))
        exact (show s = s ∧ decide (z < z') = decide (z < z') from ⟨rfl, rfl⟩)
    · have ey : ¬ y = y' := by simpa using e2
      rw [if_neg ey]
      refine PySem.W.kat_no (PySem.W.kat_one _ _ (PyProof.Rows.lt_int ?_))
      exact (show s = s ∧ decide (y < y') = decide (y < y') from ⟨rfl, rfl⟩)
  · have ex : ¬ x = x' := by simpa using e1
    rw [if_neg ex]
    exact PySem.W.kat_no (PyProof.Rows.oneLt_int ⟨rfl, rfl⟩)
theorem firsts3 {h : Heap} {k : Value → T3} : ∀ {vs : List Value}, (∀ v ∈ vs, IsTrip h v (k v)) → ∃ fs : List Value, PySem.W.KatTups h vs fs ∧ fs.length = vs.length ∧ ∀ f ∈ fs, ∃ x t, f = Value.int x t
  | [], _ => ⟨[], PySem.W.KatTups.nil, rfl, fun _ hm => by simp at hm⟩
  | v :: vs, hp => by
    obtain ⟨fs, h1, h2, h3⟩ := firsts3 (vs := vs) fun v' hm => hp v' (List.mem_cons_of_mem _ hm)
    obtain ⟨a, o, t, u, r, n, e, ho, hc, hd⟩ := hp v (List.mem_cons_self ..)
    refine ⟨.int (k v).1 t :: fs, ?_, by rw [List.length_cons, List.length_cons, h2], fun f hm => ?_⟩
    · generalize k v = kv at hd ⊢
      subst e
      exact PySem.W.KatTups.cons ho hc hd rfl h1
    · rcases List.mem_cons.mp hm with rfl | hm
      · exact ⟨_, t, rfl⟩
      · exact h3 f hm
theorem trips_sortableO {a : Addr} {vs : List Value} {k : Value → T3} (h0 : 0 < vs.length) (hp : ∀ v ∈ vs, IsTrip s.heap v (k v)) (ha : ∀ o, s.heap.get? a = some o → o.cls ≠ .type "tuple") : SrtO.SortableO prog w A s a vs fun v u => lex3 (k v) (k u) := by
  intro h' keep
  have hp' : ∀ v ∈ vs, IsTrip h' v (k v) := fun v hm => (hp v hm).keeps fun b o e c => keep b o (fun z => by subst z; exact ha o e c) e
  obtain ⟨fs, h1, h2, h3⟩ := firsts3 hp'
  refine ⟨PyProof.Rows.tuples' true, fun Q E hq => ?_, trip_cmp hp'⟩
  refine PySem.W.kat_kind (T := .type "int") h1 (by omega) (fun f hm => ?_) (by rfl) ?_
  · obtain ⟨x, t, rfl⟩ := h3 f hm
    exact PySem.W.Looks.now
  · have e : (Value.type "int" != Value.type "tuple") = true := by first | decide +kernel | rfl | decide
    rw [e]
    exact hq
theorem sorted_trips {l : Addr} {vs : List Value} {k : Value → T3} {Q : Value → Shared → Prop} (hl : s.heap.IsList l vs.toArray) (hz : vs.length ≤ sizeLine) (hp : ∀ v ∈ vs, IsTrip s.heap v (k v))
    (h : ∀ (h' : Heap) (d : Addr) (out : List Value), SrtO.Srtd (fun v u => lex3 (k v) (k u)) out → SrtO.Stb (fun v u => lex3 (k v) (k u)) out vs → (∀ b o, s.heap.get? b = some o → h'.get? b = some o) → s.heap.objs.size ≤ d → (∃ n, h'.get? d = some (seqObj "list" out.toArray n)) → Q (.ref d) { s with heap := h' }) :
    wpAny (model prog w) A (call (.builtin "sorted") [.ref l]) Q E s := by
  refine SrtO.sorted_ord (swo3 k) hl hz (fun h2 h₁ a ha kk => ?_) fun out hs hb => ?_
  · refine trips_sortableO (s := { s with heap := h₁ }) (by omega) (fun v hm => (hp v hm).keeps fun b o e _ => (kk b o e).2) fun o e => ?_
    have e' : some o = some (seqObj "list" vs.toArray 0) := e.symm.trans ha
    cases e'
    intro c
    exact absurd (Value.type.inj c) (by decide)
  · exact h _ _ out hs hb (fun b o e => sortedAll_old e) (Nat.le_succ _) (sortedAll_at s.heap vs out.toArray)
end
/-- sorted(xs), xs a list of triples of ints (k says which): a new list, sorted, equal ones in their order -/
def rSorted3 (K : PySem.W.Frag) : List V → Hp → VK → Prop := fun vs H Q => ∃ (a : Addr) (xs : List V) (k : V → T3), vs = [V.ref a] ∧ SqL K H a xs ∧ (∀ x ∈ xs, ∃ t, x = V.ref t ∧ H t = some (.tup [.int (k x).1, .int (k x).2.1, .int (k x).2.2])) ∧
  ∀ ys p, SrtO.Srtd (fun x y => lex3 (k x) (k y)) ys → SrtO.Stb (fun x y => lex3 (k x) (k y)) ys xs → H p = none → Q (.ref p) (upd H p (.lst ys))
section
variable {X : Cx}
theorem vals3 {x y z : V} {its : List Value} (r : Vals [x, y, z] its) : ∃ u1 u2 u3, its = [u1, u2, u3] ∧ RelV x u1 ∧ RelV y u2 ∧ RelV z u3 := by
  cases r with
  | cons a r => cases r with
    | cons b r => cases r with
      | cons c r => cases r; exact ⟨_, _, _, rfl, a, b, c⟩
theorem cr_sorted3 : CallR X (.builtin "sorted") (rSorted3 X.K) := by
  intro pins s σ H vs us Q I r h
  obtain ⟨a, xs, k, rfl, hs, hx, q⟩ := h
  obtain ⟨its, rv, hl, hz⟩ := I.list hs
  obtain ⟨u, rfl, ru⟩ := vals1 r
  obtain rfl : u = Value.ref a := ru
  obtain ⟨e1, e2⟩ := refs_back rv fun x m => by
    obtain ⟨t, e, _⟩ := hx x m
    exact ⟨t, e⟩
  refine sorted_trips (k := fun u => k (backV u)) hl.isList (by rw [← rv.length]; exact hz) (fun v hv => ?_) fun h' d out h1 h2 kp hd hn => ?_
  · obtain ⟨t, rfl⟩ := e2 v hv
    have hm : V.ref t ∈ xs := by rw [e1]; exact List.mem_map.mpr ⟨_, hv, rfl⟩
    obtain ⟨t', e, ht⟩ := hx _ hm
    cases e
    obtain ⟨_, its2, r2, o, ho, hc, n, hd⟩ := I.hok _ _ ht
    obtain ⟨u1, u2, u3, rfl, ri, rj, rk⟩ := vals3 r2
    obtain ⟨t1, rfl⟩ := ri
    obtain ⟨t2, rfl⟩ := rj
    obtain ⟨t3, rfl⟩ := rk
    exact ⟨t, o, t1, t2, t3, n, rfl, ho, hc, hd⟩
  · have h3 : ∀ u ∈ out, ∃ a, u = Value.ref a := fun u hu => e2 u (h2.perm.mem_iff.mp hu)
    obtain ⟨n, hn⟩ := hn
    have hb : SrtO.Stb (fun x y => lex3 (k x) (k y)) (out.map backV) xs := by
      rw [e1]
      exact SrtO.Stb.map (swo3 k) backV h2
    refine ⟨.ref d, upd H d (.lst (out.map backV)), I.laid (t' := s.toks) kp hd ⟨?_, out, n, vals_back h3, hn⟩, rfl, q _ d (SrtO.srtd_map h1) hb (I.hok.fresh hd)⟩
    rw [hb.len]
    exact hz
end
/-! ### d.setdefault(k, z), k a tuple -/
section
variable {X : Cx} {pins : List (Addr × Obj)} {σ : L2.St} {H : Hp} {s : Shared} {a b : Addr} {r : Value} {d : V} {k : List Key} {A : Around} {E : Value → Shared → Prop}
theorem d_setdT {kvs : List (List Key × V)} {Q : Value → Shared → Prop} (hu : A.units + 1 < cLine) (I : Inv X pins σ H s) (e : H a = some (.dT kvs)) (eb : H b = some (.tup (k.map kV))) (rd : RelV d r) (hl : kvs.length < sizeLine)
    (h1 : ∀ v, valV kvs k = some v → ∀ (w' : Value) (s' : Shared), Inv X pins σ H s' → RelV v w' → Q w' s') (h2 : valV kvs k = none → ∀ (w' : Value) (s' : Shared), Inv X pins σ (upd H a (.dT (putK kvs k d))) s' → RelV d w' → Q w' s') :
    wpAny (model X.prog X.w) A (call (.builtin "dict.setdefault") [.ref a, .ref b, r]) Q E s := by
  obtain ⟨z, hd, xs, rel, dd⟩ := dt_of I.hok e
  have hz : xs.length ≤ sizeLine := by rw [← Paired.length rel]; exact z
  have hl2 : (putK kvs k d).length ≤ sizeLine := by have := length_putK kvs k d; omega
  refine call_setdefault_heap (hsz := hz) (tupleKind_room_in1 hu) (key_of I.hok eb) hd dd (fun p hp => ?_) fun hn h' dd' hs => ?_
  · have q := rel.val k
    rw [hp] at q
    cases q0 : valV kvs k with
    | none =>
      rw [q0] at q
      exact (show False from q).elim
    | some v0 =>
      rw [q0] at q
      exact h1 v0 q0 _ _ (I.tok _) q
  · have q := rel.val k
    rw [hn] at q
    cases q0 : valV kvs k with
    | some v0 =>
      rw [q0] at q
      exact (show False from q).elim
    | none =>
      obtain ⟨q, es, ep, hq, h2', h3, h4, _, h5⟩ := dd'
      refine h2 q0 _ _ (d_write (t' := s.toks + _) I (by rw [e]; exact True.intro) hs ⟨q, hq⟩ ⟨hl2, hd, _, (rel.put k eb rd).keeps fun c ys ec => ?_, q, es, ep, hq, h2', h3, h4, h5⟩) rd
      rw [upd_ne (ne_of ec e (fun z => nomatch z))]
      exact ec
end
def tDSetdT (td ty tx : TE) : TE := fun σ H Q => td σ H fun x H1 => ∃ a, x = .ref a ∧ IsD H1 a ∧ ty σ H1 fun y H2 => tx σ H2 fun z H3 => ∃ (kvs : List (List Key × V)) (k : List Key) (b : Addr), H3 a = some (.dT kvs) ∧ y = .ref b ∧ H3 b = some (.tup (k.map kV)) ∧ kvs.length < sizeLine ∧
  (∀ v, valV kvs k = some v → Q v H3) ∧ (valV kvs k = none → Q z (upd H3 a (.dT (putK kvs k z))))
section
variable {X : Cx} {o e f : Expr} {td ty tx : TE} {apos cpos : Pos}
theorem pe_dsetdT (hu : X.A.units + 1 < cLine) (ho : PE X o td) (he : PE X e ty) (hf : PE X f tx) (m : M2 X o "setdefault" apos e f cpos) : PE X (.Call (.Attribute o "setdefault" apos) [e, f] [] cpos) (tDSetdT td ty tx) := by
  refine ⟨fun pins s σ H Q I h => ?_⟩
  refine wpAny_Call_method m.base m.few m.line PySem.F.plainAttrs_dict PySem.F.slot_dict_setdefault PySem.F.type_dict_setdefault (thn (ho.run pins s σ H _ I h) fun u s1 ⟨x, H1, I1, rx, a, ex, d, q1⟩ => ?_)
  subst ex
  obtain rfl : u = Value.ref a := rx
  obtain ⟨t1, t2, _⟩ := isD_at I1 d
  refine ⟨t1, t2, ?_⟩
  rw [m.trees]
  refine Calls.callWith_builtin rfl (Calls.evalArgs_plain (Calls.spliced_cons (thn (he.run pins s1 σ H1 _ I1 q1) fun iv s2 ⟨y, H2, I2, ry, q2⟩ =>
    Calls.spliced_cons (thn (hf.run pins s2 σ H2 _ I2 q2) fun fv s3 ⟨z, H3, I3, rz, kvs, k, b, ea, ey, eb, hl, q3, q4⟩ => Calls.spliced_nil ?_))))
  subst ey
  obtain rfl : iv = Value.ref b := ry
  exact d_setdT hu I3 ea eb rz hl (fun v hv w' s4 I4 rw' => ⟨v, _, I4, rw', q3 v hv⟩) fun hn w' s4 I4 rw' => ⟨z, _, I4, rw', q4 hn⟩
end
/-! ### tests within a generator -/
theorem eltZ_lt_int {prog : Program} {w : World} {scope : Scope} {xa xb : Str} {U : Nat} {hb : Heap} {P : Addr} {p1 p2 p3 : Pos} (a b : Int) (hk : scope.kind = .function) (la : scope.names.lookup xa = some .local) (lb : scope.names.lookup xb = some .local)
    (da : (xa == ("__debug__" : Str)) = false := by decide) (db : (xb == ("__debug__" : Str)) = false := by decide) :
    EltZ prog w scope xa xb (.Compare (.Name xa p1) [.Lt] [.Name xb p2] p3) U hb P (.int a) (.int b) (decide (a < b)) := by
  intro cenv A' E' va vb s₂ m₂ hs _ hn hma hmb ra rb _
  obtain ⟨t, rfl⟩ := ra
  obtain ⟨u, rfl⟩ := rb
  refine wpAny_Compare1 ?_
  refine wpAny_Name (wpAny_loadName_local (by rw [hs]; exact hk) (show cenv.scope.names.lookup xa = some .local by rw [hs]; exact la) hn hma ?_) da
  refine wpAny_Name (wpAny_loadName_local (by rw [hs]; exact hk) (show cenv.scope.names.lookup xb = some .local by rw [hs]; exact lb) hn hmb ?_) db
  exact PyProof.Rows.lt_int ⟨rfl, keeps_refl _⟩
theorem lexLt3 (p q : T3) : HT.lexLt [p.1, p.2.1, p.2.2] [q.1, q.2.1, q.2.2] = lex3 p q := by
  unfold lex3
  rw [HT.lexLt_cons, HT.lexLt_cons, HT.lexLt_cons, HT.lexLt_nil_nil]
  by_cases h : p.1 = q.1
  · rw [if_pos h, if_pos h]
    by_cases h2 : p.2.1 = q.2.1
    · rw [if_pos h2, if_pos h2]
      by_cases h3 : p.2.2 = q.2.2
      · rw [if_pos h3, h3]
        exact (decide_eq_false (Int.lt_irrefl _)).symm
      · rw [if_neg h3]
    · rw [if_neg h2, if_neg h2]
  · rw [if_neg h, if_neg h]
theorem eltZ_lt_trip {X : Cx} {pins : List (Addr × Obj)} {σ : L2.St} {H1 : Hp} {s : Shared} {scope : Scope} {xa xb : Str} {U : Nat} {P : Addr} {p1 p2 p3 : Pos} (I : Inv X pins σ H1 s) (hP : TabG H1 P) (hU : U < cLine) {t u : Addr} {p q : T3}
    (ht : H1 t = some (.tup [.int p.1, .int p.2.1, .int p.2.2])) (hu : H1 u = some (.tup [.int q.1, .int q.2.1, .int q.2.2])) (hk : scope.kind = .function) (la : scope.names.lookup xa = some .local) (lb : scope.names.lookup xb = some .local)
    (da : (xa == ("__debug__" : Str)) = false := by decide) (db : (xb == ("__debug__" : Str)) = false := by decide) :
    EltZ X.prog X.w scope xa xb (.Compare (.Name xa p1) [.Lt] [.Name xb p2] p3) U s.heap P (.ref t) (.ref u) (lex3 p q) := by
  intro cenv A' E' va vb s₂ m₂ hs hA hn hma hmb ra rb hkp
  cases ra
  cases rb
  obtain ⟨ps, hP, _⟩ := hP
  have nP : ∀ {b : Addr} {xs : List V}, H1 b = some (.tup xs) → b ≠ P := fun e z => by rw [z, hP] at e; cases e
  have tup : ∀ {b : Addr} {p : T3}, H1 b = some (.tup [.int p.1, .int p.2.1, .int p.2.2]) → ∃ its : Array Value, IsTup s₂.heap b its ∧ IntsAre its.toList [p.1, p.2.1, p.2.2] := fun {b p} e => by
    obtain ⟨_, its2, r2, o, ho, hc, n, hd⟩ := I.hok _ _ e
    obtain ⟨u1, u2, u3, rfl, ri, rj, rk⟩ := vals3 r2
    obtain ⟨t1, rfl⟩ := ri
    obtain ⟨t2, rfl⟩ := rj
    obtain ⟨t3, rfl⟩ := rk
    exact ⟨_, ⟨o, hkp b o (nP e) ho, hc, n, hd⟩, .cons _ _ (.cons _ _ (.cons _ _ .nil))⟩
  obtain ⟨its, T1, i1⟩ := tup ht
  obtain ⟨its2, T2, i2⟩ := tup hu
  refine wpAny_Compare1 ?_
  refine wpAny_Name (wpAny_loadName_local (by rw [hs]; exact hk) (show cenv.scope.names.lookup xa = some .local by rw [hs]; exact la) hn hma ?_) da
  refine wpAny_Name (wpAny_loadName_local (by rw [hs]; exact hk) (show cenv.scope.names.lookup xb = some .local by rw [hs]; exact lb) hn hmb ?_) db
  refine HT.lt_tupInts T1 T2 i1 i2 (Nat.lt_of_le_of_lt hA hU) ?_
  rw [lexLt3]
  exact ⟨rfl, keeps_refl _⟩
end Fw

/-! What a class of worlds asks of numbers, rows and steps: pure mathematics. -/
namespace Fw
def asc {α : Type} (lt : α → α → Bool) : List α → Bool
  | [] => true
  | [_] => true
  | x :: y :: l => lt x y && asc lt (y :: l)
def adj {α : Type} (lt : α → α → Bool) (l : List α) : List Bool := (l.zip l.tail).map fun p => lt p.1 p.2
theorem adj_len {α : Type} (lt : α → α → Bool) (l : List α) : (adj lt l).length = min l.length l.tail.length := by
  unfold adj
  rw [List.length_map, List.length_zip]
theorem adj_get {α : Type} {lt : α → α → Bool} {l : List α} {i : Nat} {r : Bool} (h : (adj lt l)[i]? = some r) : ∃ x y, l[i]? = some x ∧ l.tail[i]? = some y ∧ r = lt x y := by
  unfold adj at h
  rw [List.getElem?_map] at h
  cases e : (l.zip l.tail)[i]? with
  | none => rw [e] at h; cases h
  | some p =>
    rw [e] at h
    have := List.getElem?_zip_eq_some.mp e
    exact ⟨p.1, p.2, this.1, this.2, (Option.some.inj h).symm⟩
theorem adj_asc {α : Type} (lt : α → α → Bool) : ∀ l : List α, (adj lt l).all id = asc lt l
  | [] => rfl
  | [_] => rfl
  | x :: y :: l => by
    have ih := adj_asc lt (y :: l)
    show (id (lt x y) && (adj lt (y :: l)).all id) = (lt x y && asc lt (y :: l))
    rw [ih]
    rfl
theorem asc_pair {α : Type} {lt : α → α → Bool} (tr : ∀ x y z, lt x y = true → lt y z = true → lt x z = true) : ∀ {l : List α}, asc lt l = true ↔ l.Pairwise fun x y => lt x y = true
  | [] => ⟨fun _ => .nil, fun _ => rfl⟩
  | [x] => ⟨fun _ => List.pairwise_singleton _ _, fun _ => rfl⟩
  | x :: y :: l => by
    have ih := asc_pair tr (l := y :: l)
    unfold asc
    rw [Bool.and_eq_true, ih, List.pairwise_cons (a := x)]
    constructor
    · rintro ⟨h1, h2⟩
      refine ⟨fun z hz => ?_, h2⟩
      rcases List.mem_cons.mp hz with rfl | hz
      · exact h1
      · exact tr _ _ _ h1 ((List.pairwise_cons.mp h2).1 z hz)
    · rintro ⟨h1, h2⟩
      exact ⟨h1 y List.mem_cons_self, h2⟩
def ltI (x y : Int) : Bool := decide (x < y)
theorem ltI_tr (x y z : Int) (h1 : ltI x y = true) (h2 : ltI y z = true) : ltI x z = true := by
  unfold ltI at *
  rw [decide_eq_true_eq] at *
  omega
theorem lex3_tr (x y z : T3) (h1 : lex3 x y = true) (h2 : lex3 y z = true) : lex3 x z = true := by
  rw [lex3_iff] at *
  unfold Lt3 at *
  omega
theorem lex3_irr (x : T3) : lex3 x x = false := by
  rw [lex3_no]
  unfold Lt3
  omega
theorem lex3_anti {x y : T3} (h1 : lex3 x y = false) (h2 : lex3 y x = false) : x = y := by
  rw [lex3_no] at *
  unfold Lt3 at *
  obtain ⟨a, b, c⟩ := x
  obtain ⟨a', b', c'⟩ := y
  simp only at *
  have : a = a' ∧ b = b' ∧ c = c' := by omega
  obtain ⟨rfl, rfl, rfl⟩ := this
  rfl
theorem lex3_as {x y : T3} (h : lex3 x y = true) : lex3 y x = false := by
  rw [lex3_no]
  rw [lex3_iff] at h
  unfold Lt3 at *
  omega
/-- one order alone of the same triples, none twice -/
theorem sorted_one : ∀ {a b : List T3}, (a.Pairwise fun x y => lex3 y x = false) → (b.Pairwise fun x y => lex3 x y = true) → a.Perm b → a = b
  | [], b, _, _, h => (List.Perm.nil_eq h)
  | x :: a, [], _, _, h => by have := h.length_eq; cases this
  | x :: a, y :: b, ha, hb, h => by
    have ha' := List.pairwise_cons.mp ha
    have hb' := List.pairwise_cons.mp hb
    have e : x = y := by
      rcases List.mem_cons.mp (h.mem_iff.mp List.mem_cons_self) with q | q
      · exact q
      · rcases List.mem_cons.mp (h.mem_iff.mpr (List.mem_cons_self (a := y) (l := b))) with r | r
        · exact r.symm
        · exact lex3_anti (lex3_as (hb'.1 x q) |> fun z => by
            have z1 := ha'.1 y r
            have z2 := hb'.1 x q
            rw [z1] at z2
            cases z2) (ha'.1 y r)
    subst e
    rw [sorted_one ha'.2 hb'.2 h.cons_inv]
def okNums (l f : Int) : Bool := (decide (1 ≤ l) && decide (l ≤ 3)) && (decide (0 ≤ f) && decide (f ≤ 6))
def okRow (f : Int) (X : List Int) : Bool := X.all (fun x => decide (0 ≤ x) && decide (x ≤ f - 1)) && asc ltI X
def okRows (f : Int) (Xs : List (List Int)) : Bool := (decide (1 ≤ (Xs.length : Int)) && decide ((Xs.length : Int) ≤ 400)) && Xs.all (okRow f)
def okStep (l : Int) (n : Nat) (p : T3) : Bool := (decide (0 ≤ p.2.1) && decide (p.2.1 ≤ l - 1)) && ((decide (0 ≤ p.1) && decide (p.1 ≤ (n : Int) - 1)) && (decide (0 ≤ p.2.2) && decide (p.2.2 ≤ (n : Int) - 1)))
def okSteps (l : Int) (n : Nat) (ss : List T3) : Bool := ss.all (okStep l n) && asc lex3 ss
/-- the ends of the steps from s with l -/
def begS (ss : List T3) (s l : Int) : List Int := (ss.filter fun p => decide (p.1 = s) && decide (p.2.1 = l)).map fun p => p.2.2
theorem begS_snoc (ps : List T3) (p : T3) (s l : Int) : begS (ps ++ [p]) s l = begS ps s l ++ (if (decide (p.1 = s) && decide (p.2.1 = l)) = true then [p.2.2] else []) := by
  unfold begS
  rw [List.filter_append, List.map_append]
  congr 1
  cases c : decide (p.1 = s) && decide (p.2.1 = l)
  · simp [c]
  · simp [c]
theorem beh_begS (W : Wd) (s l : Int) : W.beh s l = begS W.steps s l := rfl
/-- in order they ascend -/
theorem begS_up {ss : List T3} (h : ss.Pairwise fun x y => lex3 x y = true) (s l : Int) : (begS ss s l).Pairwise (· < ·) := by
  unfold begS
  rw [List.pairwise_map]
  have h2 := List.Pairwise.sublist (List.filter_sublist (p := fun p : T3 => decide (p.1 = s) && decide (p.2.1 = l)) (l := ss)) h
  refine h2.imp_of_mem fun {a b} ha hb hab => ?_
  have pa := (List.mem_filter.mp ha).2
  have pb := (List.mem_filter.mp hb).2
  rw [Bool.and_eq_true, decide_eq_true_eq, decide_eq_true_eq] at pa pb
  rw [lex3_iff] at hab
  unfold Lt3 at hab
  omega
end Fw

/-! Parts of worlds: what is true in one that lies in another. Pure mathematics. -/
namespace Fw
def Le (X Y : List Int) : Prop := ∀ s, sIn X s = true → sIn Y s = true
theorem Le.refl (X : List Int) : Le X X := fun _ h => h
/-- in order, of states alone -/
def Norm (n : Nat) (X : List Int) : Prop := X = flt n (sIn X)
theorem filter_sub {α : Type} {p q : α → Bool} (h : ∀ x, p x = true → q x = true) : ∀ l : List α, (l.filter p).Sublist (l.filter q)
  | [] => List.Sublist.slnil
  | x :: l => by
    have ih := filter_sub h l
    cases c : p x with
    | true =>
      rw [List.filter_cons_of_pos c, List.filter_cons_of_pos (h x c)]
      exact ih.cons₂ x
    | false =>
      rw [List.filter_cons_of_neg (by rw [c]; exact Bool.false_ne_true)]
      cases c2 : q x with
      | true => rw [List.filter_cons_of_pos c2]; exact ih.cons x
      | false => rw [List.filter_cons_of_neg (by rw [c2]; exact Bool.false_ne_true)]; exact ih
theorem flt_norm (n : Nat) (p : Int → Bool) : Norm n (flt n p) := by
  unfold Norm
  exact flt_congr fun s h0 h1 => (sIn_flt h0 h1).symm
theorem norm_nil (n : Nat) : Norm n [] := by
  unfold Norm flt
  exact (List.filter_eq_nil_iff.mpr fun _ _ h => by cases h).symm
theorem norm_rng (n : Nat) : Norm n (rng n) := by rw [rng_flt]; exact flt_norm n _
theorem sIn_iff {X : List Int} {s : Int} : sIn X s = true ↔ s ∈ X := decide_eq_true_iff
theorem mem_flt {n : Nat} {p : Int → Bool} {s : Int} : s ∈ flt n p ↔ (0 ≤ s ∧ s < (n : Int)) ∧ p s = true := by
  unfold flt
  rw [List.mem_filter, rng_mem]
theorem Norm.mem {n : Nat} {X : List Int} (h : Norm n X) {s : Int} (hs : s ∈ X) : 0 ≤ s ∧ s < (n : Int) := by
  rw [h] at hs
  exact (mem_flt.mp hs).1
theorem Norm.sub {n : Nat} {X Y : List Int} (hX : Norm n X) (hY : Norm n Y) (h : Le X Y) : X.Sublist Y := by
  rw [hX, hY]
  exact filter_sub h _
theorem Norm.eq {n : Nat} {X Y : List Int} (hX : Norm n X) (hY : Norm n Y) (h : ∀ s, s ∈ X ↔ s ∈ Y) : X = Y := by
  rw [hX, hY]
  exact flt_congr fun s _ _ => by
    cases e : sIn Y s with
    | true => exact sIn_iff.mpr ((h s).mpr (sIn_iff.mp e))
    | false =>
      cases e2 : sIn X s with
      | false => rfl
      | true => rw [sIn_iff.mpr ((h s).mp (sIn_iff.mp e2))] at e; cases e
theorem Norm.len {n : Nat} {X : List Int} (h : Norm n X) : X.length ≤ n := by
  rw [h]
  refine Nat.le_trans (List.length_filter_le _ _) ?_
  rw [rng_len]
  exact Nat.le_refl _
theorem fv_one' {k : One} {x : Int} {f : F} (hk : k.bind = true) {y : Int} (hy : y ∈ fv f) (hn : y ≠ x) : y ∈ fv (.one k x f) := by
  simp only [fv, if_pos hk, List.mem_filter, decide_eq_true_eq]
  exact ⟨hy, hn⟩
theorem setE_same {e : Int → List Int} {x : Int} {X : List Int} : setE e x X x = X := if_pos rfl
theorem setE_ne {e : Int → List Int} {x y : Int} {X : List Int} (h : y ≠ x) : setE e x X y = e y := if_neg h
theorem iter_norm {n : Nat} {f : List Int → List Int} (hf : ∀ X, Norm n X → Norm n (f X)) {X : List Int} (hX : Norm n X) : ∀ k, Norm n (iter f k X)
  | 0 => hX
  | k + 1 => hf _ (iter_norm hf hX k)
theorem val_norm {W : Wd} : ∀ (t : F) (e : Int → List Int), (∀ x ∈ fv t, Norm W.n (e x)) → Norm W.n (val W t e)
  | .nul b, e, h => by
    show Norm W.n (if b = true then rng W.n else [])
    split
    · exact norm_rng _
    · exact norm_nil _
  | .leaf .has n, e, h => flt_norm _ _
  | .leaf .lacks n, e, h => flt_norm _ _
  | .leaf .var x, e, h => h x (List.mem_singleton.mpr rfl)
  | .two b f g, e, h => by
    show Norm W.n (if b = true then flt _ _ else flt _ _)
    split <;> exact flt_norm _ _
  | .one .some l f, e, h => flt_norm _ _
  | .one .all l f, e, h => flt_norm _ _
  | .one .least x f, e, h => iter_norm (fun X hX => val_norm f _ fun y hy => by
      by_cases c : y = x
      · rw [c, setE_same]; exact hX
      · rw [setE_ne c]; exact h y (fv_one' rfl hy c)) (norm_nil _) _
  | .one .most x f, e, h => iter_norm (fun X hX => val_norm f _ fun y hy => by
      by_cases c : y = x
      · rw [c, setE_same]; exact hX
      · rw [setE_ne c]; exact h y (fv_one' rfl hy c)) (norm_rng _) _
theorem Le.flt {n : Nat} {p q : Int → Bool} (h : ∀ s, p s = true → q s = true) : Le (flt n p) (flt n q) := fun s hs => by
  rw [sIn_iff, mem_flt] at hs ⊢
  exact ⟨hs.1, h s hs.2⟩
theorem iter_le {f g : List Int → List Int} (h : ∀ X Y, Le X Y → Le (f X) (g Y)) {X Y : List Int} (hX : Le X Y) : ∀ k, Le (iter f k X) (iter g k Y)
  | 0 => hX
  | k + 1 => h _ _ (iter_le h hX k)
theorem len_filter_le {α : Type} {p q : α → Bool} (h : ∀ x, p x = true → q x = true) (l : List α) : (l.filter p).length ≤ (l.filter q).length :=
  (filter_sub h l).length_le
theorem val_le {W : Wd} : ∀ (t : F) (e e' : Int → List Int), (∀ x ∈ fv t, Le (e x) (e' x)) → Le (val W t e) (val W t e')
  | .nul b, e, e', h => Le.refl _
  | .leaf .has n, e, e', h => Le.refl _
  | .leaf .lacks n, e, e', h => Le.refl _
  | .leaf .var x, e, e', h => h x (List.mem_singleton.mpr rfl)
  | .two b f g, e, e', h => by
    have hf := val_le (W := W) f e e' fun x hx => h x (List.mem_append_left _ hx)
    have hg := val_le (W := W) g e e' fun x hx => h x (List.mem_append_right _ hx)
    show Le (if b = true then Fw.flt _ _ else Fw.flt _ _) (if b = true then Fw.flt _ _ else Fw.flt _ _)
    cases b
    · rw [if_neg Bool.false_ne_true, if_neg Bool.false_ne_true]
      refine Le.flt fun s hs => ?_
      rw [Bool.or_eq_true] at hs ⊢
      exact hs.imp (hg s) (hf s)
    · rw [if_pos rfl, if_pos rfl]
      refine Le.flt fun s hs => ?_
      rw [Bool.and_eq_true] at hs ⊢
      exact ⟨hg s hs.1, hf s hs.2⟩
  | .one .some l f, e, e', h => by
    have hf := val_le (W := W) f e e' h
    refine Le.flt fun s hs => ?_
    rw [decide_eq_true_eq] at hs ⊢
    have := len_filter_le (fun x => hf x) (W.beh s l)
    omega
  | .one .all l f, e, e', h => by
    have hf := val_le (W := W) f e e' h
    refine Le.flt fun s hs => ?_
    rw [decide_eq_true_eq] at hs ⊢
    have := len_filter_le (p := fun k => !sIn (val W f e') k) (q := fun k => !sIn (val W f e) k) (fun x hx => by
      cases c : sIn (val W f e) x with
      | false => rfl
      | true => rw [hf x c] at hx; cases hx) (W.beh s l)
    omega
  | .one .least x f, e, e', h => iter_le (fun X Y hXY => val_le f _ _ fun y hy => by
      by_cases c : y = x
      · rw [c, setE_same, setE_same]; exact hXY
      · rw [setE_ne c, setE_ne c]; exact h y (fv_one' rfl hy c)) (Le.refl _) _
  | .one .most x f, e, e', h => iter_le (fun X Y hXY => val_le f _ _ fun y hy => by
      by_cases c : y = x
      · rw [c, setE_same, setE_same]; exact hXY
      · rw [setE_ne c, setE_ne c]; exact h y (fv_one' rfl hy c)) (Le.refl _) _
/-! ### a chain comes to rest -/
theorem iter_rest {f : List Int → List Int} {X : List Int} {j : Nat} (h : iter f (j + 1) X = iter f j X) : ∀ i, iter f (j + i) X = iter f j X
  | 0 => rfl
  | i + 1 => by
    show f (iter f (j + i) X) = _
    rw [iter_rest h i]
    exact h
theorem rest_of {f : List Int → List Int} {X : List Int} {n : Nat} (h : ∃ j, j ≤ n ∧ iter f (j + 1) X = iter f j X) {k : Nat} (hk : n ≤ k) : iter f k X = iter f n X := by
  obtain ⟨j, hj, e⟩ := h
  have h1 := iter_rest e (k - j)
  have h2 := iter_rest e (n - j)
  rw [show j + (k - j) = k by omega] at h1
  rw [show j + (n - j) = n by omega] at h2
  rw [h1, h2]
theorem rest_up {f : List Int → List Int} {X : List Int} {n : Nat} (hn : ∀ k, Norm n (iter f k X)) (hs : ∀ k, Le (iter f k X) (iter f (k + 1) X)) : ∃ j, j ≤ n ∧ iter f (j + 1) X = iter f j X := by
  apply Classical.byContradiction
  intro no
  have up : ∀ j, j ≤ n + 1 → j ≤ (iter f j X).length := fun j => by
    induction j with
    | zero => intro _; exact Nat.zero_le _
    | succ j ih =>
      intro hj
      have sub := (hn j).sub (hn (j + 1)) (hs j)
      have ne : (iter f j X).length ≠ (iter f (j + 1) X).length := fun e => no ⟨j, by omega, (sub.eq_of_length e).symm⟩
      have := sub.length_le
      have := ih (by omega)
      omega
  have := up (n + 1) (Nat.le_refl _)
  have := (hn (n + 1)).len
  omega
theorem rest_dn {f : List Int → List Int} {X : List Int} {n : Nat} (hn : ∀ k, Norm n (iter f k X)) (hs : ∀ k, Le (iter f (k + 1) X) (iter f k X)) : ∃ j, j ≤ n ∧ iter f (j + 1) X = iter f j X := by
  apply Classical.byContradiction
  intro no
  have dn : ∀ j, j ≤ n + 1 → (iter f j X).length + j ≤ n := fun j => by
    induction j with
    | zero => intro _; exact (hn 0).len
    | succ j ih =>
      intro hj
      have sub := (hn (j + 1)).sub (hn j) (hs j)
      have ne : (iter f (j + 1) X).length ≠ (iter f j X).length := fun e => no ⟨j, by omega, sub.eq_of_length e⟩
      have := sub.length_le
      have := ih (by omega)
      omega
  have := dn (n + 1) (Nat.le_refl _)
  omega
theorem least_rest {W : Wd} {f : F} {x : Int} {e : Int → List Int} (h : ∀ y ∈ fv (.one .least x f), Norm W.n (e y)) {k : Nat} (hk : W.n ≤ k) :
    iter (fun X => val W f (setE e x X)) k [] = iter (fun X => val W f (setE e x X)) (W.n + 1) [] := by
  have N := iter_norm (n := W.n) (f := fun X => val W f (setE e x X)) (fun X hX => val_norm f _ fun y hy => by
      by_cases c : y = x
      · rw [c, setE_same]; exact hX
      · rw [setE_ne c]; exact h y (fv_one' rfl hy c)) (norm_nil _)
  have M : ∀ X Y, Le X Y → Le (val W f (setE e x X)) (val W f (setE e x Y)) := fun X Y hXY => val_le f _ _ fun y hy => by
      by_cases c : y = x
      · rw [c, setE_same, setE_same]; exact hXY
      · rw [setE_ne c, setE_ne c]; exact Le.refl _
  have S : ∀ k, Le (iter (fun X => val W f (setE e x X)) k []) (iter (fun X => val W f (setE e x X)) (k + 1) []) := fun k => by
    induction k with
    | zero => exact fun s hs => by cases hs
    | succ k ih => exact M _ _ ih
  have R := rest_up N S
  rw [rest_of R hk, rest_of R (Nat.le_succ _)]
theorem most_rest {W : Wd} {f : F} {x : Int} {e : Int → List Int} (h : ∀ y ∈ fv (.one .most x f), Norm W.n (e y)) {k : Nat} (hk : W.n ≤ k) :
    iter (fun X => val W f (setE e x X)) k (rng W.n) = iter (fun X => val W f (setE e x X)) (W.n + 1) (rng W.n) := by
  have N := iter_norm (n := W.n) (f := fun X => val W f (setE e x X)) (fun X hX => val_norm f _ fun y hy => by
      by_cases c : y = x
      · rw [c, setE_same]; exact hX
      · rw [setE_ne c]; exact h y (fv_one' rfl hy c)) (norm_rng _)
  have M : ∀ X Y, Le X Y → Le (val W f (setE e x X)) (val W f (setE e x Y)) := fun X Y hXY => val_le f _ _ fun y hy => by
      by_cases c : y = x
      · rw [c, setE_same, setE_same]; exact hXY
      · rw [setE_ne c, setE_ne c]; exact Le.refl _
  have S : ∀ k, Le (iter (fun X => val W f (setE e x X)) (k + 1) (rng W.n)) (iter (fun X => val W f (setE e x X)) k (rng W.n)) := fun k => by
    induction k with
    | zero => exact fun s hs => sIn_iff.mpr (rng_mem.mpr ((N 1).mem (sIn_iff.mp hs)))
    | succ k ih => exact M _ _ ih
  have R := rest_dn N S
  rw [rest_of R hk, rest_of R (Nat.le_succ _)]
/-! ### a world that lies in another -/
def pull (m : Nat) (g : Int → Int) (X : List Int) : List Int := flt m fun k => sIn X (g k)
structure Emb (V W : Wd) (g : Int → Int) : Prop where
  to : ∀ k : Int, 0 ≤ k → k < V.n → 0 ≤ g k ∧ g k < W.n
  fa : ∀ k : Int, 0 ≤ k → k < V.n → ∀ x, sIn (V.at k) x = sIn (W.at (g k)) x
  fo : ∀ k : Int, 0 ≤ k → k < V.n → ∀ l j, j ∈ V.beh k l → 0 ≤ j ∧ j < V.n ∧ g j ∈ W.beh (g k) l
  ba : ∀ k : Int, 0 ≤ k → k < V.n → ∀ l y, y ∈ W.beh (g k) l → ∃ j, j ∈ V.beh k l ∧ g j = y
theorem filter_pos {α : Type} {p : α → Bool} {l : List α} : 0 < ((l.filter p).length : Int) ↔ ∃ x ∈ l, p x = true := by
  constructor
  · intro h
    have : 0 < (l.filter p).length := by omega
    obtain ⟨x, hx⟩ := List.exists_mem_of_length_pos this
    exact ⟨x, (List.mem_filter.mp hx).1, (List.mem_filter.mp hx).2⟩
  · rintro ⟨x, hx, px⟩
    have : x ∈ l.filter p := List.mem_filter.mpr ⟨hx, px⟩
    have := List.length_pos_of_mem this
    omega
theorem filter_zero {α : Type} {p : α → Bool} {l : List α} : ((l.filter p).length : Int) = 0 ↔ ∀ x ∈ l, p x = false := by
  constructor
  · intro h x hx
    have : (l.filter p) = [] := List.length_eq_zero_iff.mp (by omega)
    have := List.filter_eq_nil_iff.mp this x hx
    cases c : p x with
    | false => rfl
    | true => exact absurd c this
  · intro h
    rw [List.filter_eq_nil_iff.mpr fun x hx => by rw [h x hx]; exact Bool.false_ne_true]
    rfl
theorem sIn_pull {m : Nat} {g : Int → Int} {X : List Int} {k : Int} (h0 : 0 ≤ k) (h1 : k < (m : Int)) : sIn (pull m g X) k = sIn X (g k) := sIn_flt h0 h1
theorem val_emb {V W : Wd} {g : Int → Int} (E : Emb V W g) : ∀ (t : F) (d e : Int → List Int), (∀ x ∈ fv t, Norm W.n (e x)) → (∀ x ∈ fv t, d x = pull V.n g (e x)) → val V t d = pull V.n g (val W t e)
  | .nul b, d, e, hn, h => by
    show (if b = true then rng V.n else []) = pull V.n g (if b = true then rng W.n else [])
    cases b
    · rw [if_neg Bool.false_ne_true, if_neg Bool.false_ne_true]
      exact (List.filter_eq_nil_iff.mpr fun _ _ h => by cases h).symm
    · rw [if_pos rfl, if_pos rfl, rng_flt]
      exact flt_congr fun s h0 h1 => (sIn_iff.mpr (rng_mem.mpr (E.to s h0 h1))).symm
  | .leaf .has n, d, e, hn, h => by
    show flt V.n _ = pull V.n g (flt W.n _)
    exact flt_congr fun s h0 h1 => by rw [sIn_flt (E.to s h0 h1).1 (E.to s h0 h1).2, E.fa s h0 h1]
  | .leaf .lacks n, d, e, hn, h => by
    show flt V.n _ = pull V.n g (flt W.n _)
    exact flt_congr fun s h0 h1 => by rw [sIn_flt (E.to s h0 h1).1 (E.to s h0 h1).2, E.fa s h0 h1]
  | .leaf .var x, d, e, hn, h => h x (List.mem_singleton.mpr rfl)
  | .two b f t, d, e, hn, h => by
    have hf := val_emb E f d e (fun x hx => hn x (List.mem_append_left _ hx)) fun x hx => h x (List.mem_append_left _ hx)
    have ht := val_emb E t d e (fun x hx => hn x (List.mem_append_right _ hx)) fun x hx => h x (List.mem_append_right _ hx)
    show (if b = true then flt _ _ else flt _ _) = pull V.n g (if b = true then flt _ _ else flt _ _)
    rw [hf, ht]
    cases b
    · rw [if_neg Bool.false_ne_true, if_neg Bool.false_ne_true]
      exact flt_congr fun s h0 h1 => by rw [sIn_flt (E.to s h0 h1).1 (E.to s h0 h1).2, sIn_pull h0 h1, sIn_pull h0 h1]
    · rw [if_pos rfl, if_pos rfl]
      exact flt_congr fun s h0 h1 => by rw [sIn_flt (E.to s h0 h1).1 (E.to s h0 h1).2, sIn_pull h0 h1, sIn_pull h0 h1]
  | .one .some l f, d, e, hn, h => by
    have hf := val_emb E f d e hn h
    show flt V.n _ = pull V.n g (flt W.n _)
    rw [hf]
    refine flt_congr fun s h0 h1 => ?_
    rw [sIn_flt (E.to s h0 h1).1 (E.to s h0 h1).2]
    refine decide_eq_decide.mpr ?_
    rw [filter_pos, filter_pos]
    constructor
    · rintro ⟨j, hj, pj⟩
      obtain ⟨j0, j1, jg⟩ := E.fo s h0 h1 l j hj
      exact ⟨g j, jg, by rw [sIn_pull j0 j1] at pj; exact pj⟩
    · rintro ⟨y, hy, py⟩
      obtain ⟨j, hj, rfl⟩ := E.ba s h0 h1 l y hy
      obtain ⟨j0, j1, jg⟩ := E.fo s h0 h1 l j hj
      exact ⟨j, hj, by rw [sIn_pull j0 j1]; exact py⟩
  | .one .all l f, d, e, hn, h => by
    have hf := val_emb E f d e hn h
    show flt V.n _ = pull V.n g (flt W.n _)
    rw [hf]
    refine flt_congr fun s h0 h1 => ?_
    rw [sIn_flt (E.to s h0 h1).1 (E.to s h0 h1).2]
    refine decide_eq_decide.mpr ?_
    rw [filter_zero, filter_zero]
    constructor
    · intro q y hy
      obtain ⟨j, hj, rfl⟩ := E.ba s h0 h1 l y hy
      obtain ⟨j0, j1, jg⟩ := E.fo s h0 h1 l j hj
      have := q j hj
      rw [sIn_pull j0 j1] at this
      exact this
    · intro q j hj
      obtain ⟨j0, j1, jg⟩ := E.fo s h0 h1 l j hj
      rw [sIn_pull j0 j1]
      exact q _ jg
  | .one .least x f, d, e, hn, h => by
    have dn : ∀ y ∈ fv (.one .least x f), Norm V.n (d y) := fun y hy => by rw [h y hy]; exact flt_norm _ _
    have N := iter_norm (n := W.n) (f := fun X => val W f (setE e x X)) (fun X hX => val_norm f _ fun y hy => by
      by_cases c : y = x
      · rw [c, setE_same]; exact hX
      · rw [setE_ne c]; exact hn y (fv_one' rfl hy c)) (norm_nil _)
    have key : ∀ k, iter (fun X => val V f (setE d x X)) k [] = pull V.n g (iter (fun X => val W f (setE e x X)) k []) := fun k => by
      induction k with
      | zero => exact (List.filter_eq_nil_iff.mpr fun _ _ h => by cases h).symm
      | succ k ih =>
        show val V f (setE d x _) = pull V.n g (val W f (setE e x _))
        refine val_emb E f _ _ (fun y hy => ?_) fun y hy => ?_
        · by_cases c : y = x
          · rw [c, setE_same]; exact N k
          · rw [setE_ne c]; exact hn y (fv_one' rfl hy c)
        · by_cases c : y = x
          · rw [c, setE_same, setE_same]; exact ih
          · rw [setE_ne c, setE_ne c]; exact h y (fv_one' rfl hy c)
    show iter (fun X => val V f (setE d x X)) (V.n + 1) [] = pull V.n g (iter (fun X => val W f (setE e x X)) (W.n + 1) [])
    rw [← least_rest dn (show V.n ≤ V.n + W.n by omega), ← least_rest hn (show W.n ≤ V.n + W.n by omega)]
    exact key _
  | .one .most x f, d, e, hn, h => by
    have dn : ∀ y ∈ fv (.one .most x f), Norm V.n (d y) := fun y hy => by rw [h y hy]; exact flt_norm _ _
    have N := iter_norm (n := W.n) (f := fun X => val W f (setE e x X)) (fun X hX => val_norm f _ fun y hy => by
      by_cases c : y = x
      · rw [c, setE_same]; exact hX
      · rw [setE_ne c]; exact hn y (fv_one' rfl hy c)) (norm_rng _)
    have key : ∀ k, iter (fun X => val V f (setE d x X)) k (rng V.n) = pull V.n g (iter (fun X => val W f (setE e x X)) k (rng W.n)) := fun k => by
      induction k with
      | zero =>
        show rng V.n = flt V.n _
        rw [rng_flt]
        exact flt_congr fun s h0 h1 => (sIn_iff.mpr (show g s ∈ rng W.n from rng_mem.mpr (E.to s h0 h1))).symm
      | succ k ih =>
        show val V f (setE d x _) = pull V.n g (val W f (setE e x _))
        refine val_emb E f _ _ (fun y hy => ?_) fun y hy => ?_
        · by_cases c : y = x
          · rw [c, setE_same]; exact N k
          · rw [setE_ne c]; exact hn y (fv_one' rfl hy c)
        · by_cases c : y = x
          · rw [c, setE_same, setE_same]; exact ih
          · rw [setE_ne c, setE_ne c]; exact h y (fv_one' rfl hy c)
    show iter (fun X => val V f (setE d x X)) (V.n + 1) (rng V.n) = pull V.n g (iter (fun X => val W f (setE e x X)) (W.n + 1) (rng W.n))
    rw [← most_rest dn (show V.n ≤ V.n + W.n by omega), ← most_rest hn (show W.n ≤ V.n + W.n by omega)]
    exact key _
end Fw

/-! What is reached from some states, and the world of it. Pure mathematics. -/
namespace Fw
def addO (o : List Int) (x : Int) : List Int := if x ∈ o then o else o ++ [x]
def addsO (o : List Int) (xs : List Int) : List Int := xs.foldl addO o
def growO (ss : List T3) (o : List Int) (s : Int) : List Int := addsO (addsO o (begS ss s 0)) (begS ss s 1)
def bfs (ss : List T3) (o : List Int) : Nat → List Int
  | 0 => o
  | k + 1 => match (bfs ss o k)[k]? with
    | some s => growO ss (bfs ss o k) s
    | none => bfs ss o k
theorem addO_pre (o : List Int) (x : Int) : ∃ r, addO o x = o ++ r := by
  unfold addO
  split
  · exact ⟨[], (List.append_nil _).symm⟩
  · exact ⟨[x], rfl⟩
theorem addO_mem {o : List Int} {x y : Int} : y ∈ addO o x ↔ y ∈ o ∨ y = x := by
  unfold addO
  split
  · rename_i h
    exact ⟨.inl, fun z => z.elim id fun e => by rw [e]; exact h⟩
  · rw [List.mem_append, List.mem_singleton]
theorem addO_nd {o : List Int} {x : Int} (h : o.Nodup) : (addO o x).Nodup := by
  unfold addO
  split
  · exact h
  · rename_i n
    exact List.nodup_append.mpr ⟨h, List.nodup_cons.mpr ⟨List.not_mem_nil, List.nodup_nil⟩, fun a ha b hb e => n (by rw [List.mem_singleton.mp hb] at e; rw [← e]; exact ha)⟩
theorem addsO_pre : ∀ (xs o : List Int), ∃ r, addsO o xs = o ++ r
  | [], o => ⟨[], (List.append_nil _).symm⟩
  | x :: xs, o => by
    obtain ⟨r1, e1⟩ := addO_pre o x
    obtain ⟨r2, e2⟩ := addsO_pre xs (addO o x)
    refine ⟨r1 ++ r2, ?_⟩
    show addsO (addO o x) xs = _
    rw [e2, e1, List.append_assoc]
theorem addsO_mem : ∀ {xs o : List Int} {y : Int}, y ∈ addsO o xs ↔ y ∈ o ∨ y ∈ xs
  | [], o, y => by show y ∈ o ↔ _; simp
  | x :: xs, o, y => by
    show y ∈ addsO (addO o x) xs ↔ _
    rw [addsO_mem, addO_mem, List.mem_cons, or_assoc]
theorem addsO_nd : ∀ {xs o : List Int}, o.Nodup → (addsO o xs).Nodup
  | [], o, h => h
  | x :: xs, o, h => addsO_nd (xs := xs) (addO_nd h)
theorem addsO_snoc (o xs : List Int) (x : Int) : addsO o (xs ++ [x]) = addO (addsO o xs) x := by
  unfold addsO
  rw [List.foldl_append]
  rfl
theorem grow_pre (ss : List T3) (o : List Int) (s : Int) : ∃ r, growO ss o s = o ++ r := by
  obtain ⟨r1, e1⟩ := addsO_pre (begS ss s 0) o
  obtain ⟨r2, e2⟩ := addsO_pre (begS ss s 1) (addsO o (begS ss s 0))
  refine ⟨r1 ++ r2, ?_⟩
  unfold growO
  rw [e2, e1, List.append_assoc]
theorem grow_mem {ss : List T3} {o : List Int} {s y : Int} : y ∈ growO ss o s ↔ y ∈ o ∨ y ∈ begS ss s 0 ∨ y ∈ begS ss s 1 := by
  unfold growO
  rw [addsO_mem, addsO_mem, or_assoc]
structure Ord (n : Nat) (o : List Int) : Prop where
  nd : o.Nodup
  ra : ∀ x ∈ o, 0 ≤ x ∧ x < (n : Int)
theorem few_nd : ∀ {n : Nat} {o : List Int}, Ord n o → o.length ≤ n
  | 0, [], _ => Nat.le_refl _
  | 0, x :: o, h => by have := h.ra x List.mem_cons_self; omega
  | n + 1, o, h => by
    have ih := few_nd (n := n) (o := o.erase (n : Int)) ⟨h.nd.erase _, fun x hx => by
      have := (List.Nodup.mem_erase_iff h.nd).mp hx
      have := h.ra x this.2
      omega⟩
    have := List.length_erase (a := (n : Int)) (l := o)
    split at this <;> omega
theorem ends_in {ss : List T3} {n : Nat} (hs : ∀ p ∈ ss, 0 ≤ p.2.2 ∧ p.2.2 < (n : Int)) {s l y : Int} (h : y ∈ begS ss s l) : 0 ≤ y ∧ y < (n : Int) := by
  obtain ⟨p, hp, rfl⟩ := List.mem_map.mp h
  exact hs p (List.mem_filter.mp hp).1
theorem grow_ord {ss : List T3} {n : Nat} (hs : ∀ p ∈ ss, 0 ≤ p.2.2 ∧ p.2.2 < (n : Int)) {o : List Int} (h : Ord n o) (s : Int) : Ord n (growO ss o s) :=
  ⟨addsO_nd (addsO_nd h.nd), fun x hx => by
    rcases grow_mem.mp hx with z | z | z
    · exact h.ra x z
    · exact ends_in hs z
    · exact ends_in hs z⟩
theorem bfs_ord {ss : List T3} {n : Nat} (hs : ∀ p ∈ ss, 0 ≤ p.2.2 ∧ p.2.2 < (n : Int)) {o : List Int} (h : Ord n o) : ∀ k, Ord n (bfs ss o k)
  | 0 => h
  | k + 1 => by
    have ih := bfs_ord hs h k
    unfold bfs
    split
    · exact grow_ord hs ih _
    · exact ih
theorem bfs_pre (ss : List T3) (o : List Int) (k : Nat) : ∃ r, bfs ss o (k + 1) = bfs ss o k ++ r := by
  show ∃ r, (match (bfs ss o k)[k]? with | some s => growO ss (bfs ss o k) s | none => bfs ss o k) = bfs ss o k ++ r
  split
  · exact grow_pre _ _ _
  · exact ⟨[], (List.append_nil _).symm⟩
theorem bfs_pres (ss : List T3) (o : List Int) (k : Nat) : ∀ i, ∃ r, bfs ss o (k + i) = bfs ss o k ++ r
  | 0 => ⟨[], (List.append_nil _).symm⟩
  | i + 1 => by
    obtain ⟨r1, e1⟩ := bfs_pres ss o k i
    obtain ⟨r2, e2⟩ := bfs_pre ss o (k + i)
    exact ⟨r1 ++ r2, by rw [show k + (i + 1) = k + i + 1 from rfl, e2, e1, List.append_assoc]⟩
theorem bfs_more {ss : List T3} {o : List Int} {k : Nat} {s : Int} (h : (bfs ss o k)[k]? = some s) : bfs ss o (k + 1) = growO ss (bfs ss o k) s := by
  show (match (bfs ss o k)[k]? with | some s => _ | none => _) = _
  rw [h]
theorem bfs_stop {ss : List T3} {o : List Int} {k : Nat} (h : (bfs ss o k).length ≤ k) : ∀ i, bfs ss o (k + i) = bfs ss o k
  | 0 => rfl
  | i + 1 => by
    have ih := bfs_stop h i
    show (match (bfs ss o (k + i))[k + i]? with | some s => _ | none => _) = _
    rw [ih, List.getElem?_eq_none (by omega)]
    exact ih
/-- at the fifth turn all is done -/
theorem bfs_end {ss : List T3} {o : List Int} {k : Nat} (h : (bfs ss o k).length ≤ k) (hk : k ≤ 5) : bfs ss o k = bfs ss o 5 := by
  have := bfs_stop h (5 - k)
  rw [show k + (5 - k) = 5 by omega] at this
  exact this.symm
theorem bfs_shut {ss : List T3} {o : List Int} {m : Nat} (h : (bfs ss o m).length ≤ m) {s : Int} (hs : s ∈ bfs ss o m) {y : Int} (hy : y ∈ begS ss s 0 ∨ y ∈ begS ss s 1) : y ∈ bfs ss o m := by
  obtain ⟨i, hi, e⟩ := List.getElem_of_mem hs
  have im : i < m := by omega
  have gi : (bfs ss o i)[i]? = some s := by
    by_cases c : i < (bfs ss o i).length
    · obtain ⟨r, er⟩ := bfs_pres ss o i (m - i)
      rw [show i + (m - i) = m by omega] at er
      rw [List.getElem?_eq_getElem c]
      have : (bfs ss o m)[i]? = some s := by rw [List.getElem?_eq_getElem hi, e]
      rw [er, List.getElem?_append_left c, List.getElem?_eq_getElem c] at this
      exact this
    · have st := bfs_stop (ss := ss) (o := o) (k := i) (by omega) (m - i)
      rw [show i + (m - i) = m by omega] at st
      rw [st] at hi
      omega
  have g1 : y ∈ bfs ss o (i + 1) := by
    rw [bfs_more gi]
    exact grow_mem.mpr (.inr hy)
  obtain ⟨r, er⟩ := bfs_pres ss o (i + 1) (m - (i + 1))
  rw [show i + 1 + (m - (i + 1)) = m by omega] at er
  rw [er]
  exact List.mem_append_left _ g1
theorem bfs_from {ss : List T3} {o : List Int} {x : Int} (h : x ∈ o) (k : Nat) : x ∈ bfs ss o k := by
  obtain ⟨r, e⟩ := bfs_pres ss o 0 k
  rw [Nat.zero_add] at e
  rw [e]
  exact List.mem_append_left _ h
/-! ### places -/
def idO : List Int → Int → Nat
  | [], _ => 0
  | y :: l, x => if y = x then 0 else idO l x + 1
theorem idO_get : ∀ {o : List Int} {x : Int}, x ∈ o → o[idO o x]? = some x
  | y :: l, x, h => by
    unfold idO
    split
    · rename_i e; rw [e]; rfl
    · rename_i e
      rcases List.mem_cons.mp h with z | z
      · exact absurd z.symm e
      · rw [List.getElem?_cons_succ]; exact idO_get z
theorem idO_lt {o : List Int} {x : Int} (h : x ∈ o) : idO o x < o.length := (List.getElem?_eq_some_iff.mp (idO_get h)).1
theorem idO_first : ∀ {o : List Int} {x : Int} {m : Nat}, m < idO o x → ∀ z, o[m]? = some z → z ≠ x
  | [], x, m, h, z, e => by cases e
  | y :: l, x, m, h, z, e => by
    unfold idO at h
    split at h
    · omega
    · rename_i n
      cases m with
      | zero => cases e; exact n
      | succ m => exact idO_first (o := l) (m := m) (by omega) z (by simpa using e)
theorem idO_at {o : List Int} (nd : o.Nodup) {i : Nat} {x : Int} (h : o[i]? = some x) : idO o x = i := by
  have h2 := idO_get (List.mem_of_getElem? h)
  obtain ⟨l1, e1⟩ := List.getElem?_eq_some_iff.mp h
  obtain ⟨l2, e2⟩ := List.getElem?_eq_some_iff.mp h2
  exact (List.getElem_inj nd).mp (e2.trans e1.symm)
theorem idO_inj {o : List Int} {x y : Int} (hx : x ∈ o) (hy : y ∈ o) (e : idO o x = idO o y) : x = y := by
  have := idO_get hx
  rw [e, idO_get hy] at this
  exact (Option.some.inj this).symm
/-- the world of what is reached -/
def stO (o : List Int) (k : Int) : Int := (o[k.toNat]?).getD 0
def ptS (ss : List T3) (o : List Int) : List T3 := (ss.filter fun p => sIn o p.1).map fun p => ((idO o p.1 : Int), p.2.1, (idO o p.2.2 : Int))
theorem ptS_snoc (ss : List T3) (p : T3) (o : List Int) : ptS (ss ++ [p]) o = ptS ss o ++ (if sIn o p.1 = true then [((idO o p.1 : Int), p.2.1, (idO o p.2.2 : Int))] else []) := by
  unfold ptS
  rw [List.filter_append, List.map_append]
  congr 1
  cases c : sIn o p.1
  · simp [c]
  · simp [c]
theorem stO_nat {o : List Int} {i : Nat} {x : Int} (h : o[i]? = some x) : stO o (i : Int) = x := by
  unfold stO
  rw [Int.toNat_natCast, h]
  rfl
theorem stO_id {o : List Int} {x : Int} (h : x ∈ o) : stO o (idO o x : Int) = x := stO_nat (idO_get h)
theorem stO_mem {o : List Int} {k : Int} (h0 : 0 ≤ k) (h1 : k < (o.length : Int)) : stO o k ∈ o ∧ idO o (stO o k) = idO o (stO o k) := by
  refine ⟨?_, rfl⟩
  have l : k.toNat < o.length := by omega
  unfold stO
  rw [List.getElem?_eq_getElem l]
  exact List.getElem_mem l
theorem stO_back {o : List Int} (nd : o.Nodup) {k : Int} (h0 : 0 ≤ k) (h1 : k < (o.length : Int)) : (idO o (stO o k) : Int) = k := by
  have l : k.toNat < o.length := by omega
  have : stO o k = o[k.toNat] := by unfold stO; rw [List.getElem?_eq_getElem l]; rfl
  rw [this, idO_at nd (List.getElem?_eq_getElem l)]
  omega
theorem mem_beg {ss : List T3} {s l y : Int} : y ∈ begS ss s l ↔ (s, l, y) ∈ ss := by
  unfold begS
  rw [List.mem_map]
  constructor
  · rintro ⟨⟨a, b, c⟩, h, rfl⟩
    have := List.mem_filter.mp h
    rw [Bool.and_eq_true, decide_eq_true_eq, decide_eq_true_eq] at this
    obtain ⟨h1, rfl, rfl⟩ := this
    exact h1
  · intro h
    exact ⟨_, List.mem_filter.mpr ⟨h, by rw [Bool.and_eq_true, decide_eq_true_eq, decide_eq_true_eq]; exact ⟨rfl, rfl⟩⟩, rfl⟩
theorem mem_ptS {ss : List T3} {o : List Int} {q : T3} : q ∈ ptS ss o ↔ ∃ p ∈ ss, p.1 ∈ o ∧ q = ((idO o p.1 : Int), p.2.1, (idO o p.2.2 : Int)) := by
  unfold ptS
  rw [List.mem_map]
  constructor
  · rintro ⟨p, hp, rfl⟩
    exact ⟨p, (List.mem_filter.mp hp).1, sIn_iff.mp (List.mem_filter.mp hp).2, rfl⟩
  · rintro ⟨p, hp, ho, rfl⟩
    exact ⟨p, List.mem_filter.mpr ⟨hp, sIn_iff.mpr ho⟩, rfl⟩
theorem ptS_nd {ss : List T3} {o : List Int} (nd : ss.Nodup) (shut : ∀ p ∈ ss, p.1 ∈ o → p.2.2 ∈ o) : (ptS ss o).Nodup := by
  unfold ptS
  rw [List.Nodup, List.pairwise_map]
  refine (List.Pairwise.sublist List.filter_sublist nd).imp_of_mem fun {a b} ha hb ne e => ne ?_
  have ma := List.mem_filter.mp ha
  have mb := List.mem_filter.mp hb
  have a1 := sIn_iff.mp ma.2
  have b1 := sIn_iff.mp mb.2
  have e1 : (idO o a.1 : Int) = (idO o b.1 : Int) := congrArg Prod.fst e
  have e2 : a.2.1 = b.2.1 := congrArg (fun q => q.2.1) e
  have e3 : (idO o a.2.2 : Int) = (idO o b.2.2 : Int) := congrArg (fun q => q.2.2) e
  have q1 := idO_inj a1 b1 (by omega)
  have q3 := idO_inj (shut _ ma.1 a1) (shut _ mb.1 b1) (by omega)
  exact Prod.ext q1 (Prod.ext e2 q3)
/-- weakly in order and none twice: in order -/
theorem strict_of {a : List T3} (h : a.Pairwise fun x y => lex3 y x = false) (nd : a.Nodup) : a.Pairwise fun x y => lex3 x y = true :=
  (List.pairwise_and_iff.mpr ⟨h, nd⟩).imp fun {x y} z => by
    cases c : lex3 x y with
    | true => rfl
    | false => exact absurd (lex3_anti c z.1) z.2
theorem strict_nd {a : List T3} (h : a.Pairwise fun x y => lex3 x y = true) : a.Nodup := h.imp fun {x y} z e => by
  rw [e, lex3_irr] at z
  cases z
/-- the part of a world lies in it -/
theorem emb_part {W : Wd} {o : List Int} {ss : List T3} (O : Ord W.n o) (hw : ∀ p ∈ W.steps, 0 ≤ p.2.1 ∧ p.2.1 < 2) (pe : ss.Perm (ptS W.steps o)) (shut : ∀ p ∈ W.steps, p.1 ∈ o → p.2.2 ∈ o) :
    Emb ⟨o.map W.at, ss⟩ W (stO o) := by
  have nV : ∀ k : Int, k < ((Wd.n ⟨o.map W.at, ss⟩ : Nat) : Int) → k < (o.length : Int) := fun k h => by
    unfold Wd.n at h
    rw [List.length_map] at h
    exact h
  refine ⟨fun k h0 h1 => O.ra _ (stO_mem h0 (nV k h1)).1, fun k h0 h1 x => ?_, fun k h0 h1 l j hj => ?_, fun k h0 h1 l y hy => ?_⟩
  · have l : k.toNat < o.length := by have := nV k h1; omega
    have e : Wd.at ⟨o.map W.at, ss⟩ k = W.at (stO o k) := by
      show ((o.map W.at)[k.toNat]?).getD [] = _
      unfold stO
      rw [List.getElem?_map, List.getElem?_eq_getElem l]
      rfl
    rw [e]
  · rw [beh_begS, mem_beg] at hj
    obtain ⟨p, hp, ho, e⟩ := mem_ptS.mp (pe.mem_iff.mp hj)
    simp only [Prod.mk.injEq] at e
    obtain ⟨e1, e2, e3⟩ := e
    have s1 := shut p hp ho
    have := idO_lt s1
    refine ⟨by omega, by unfold Wd.n; rw [List.length_map]; omega, ?_⟩
    rw [beh_begS, mem_beg, e1, e2, e3, stO_id ho, stO_id s1]
    exact hp
  · rw [beh_begS, mem_beg] at hy
    have ho := (stO_mem h0 (nV k h1)).1
    have s1 := shut _ hy ho
    refine ⟨(idO o y : Int), ?_, stO_id s1⟩
    rw [beh_begS, mem_beg]
    refine pe.mem_iff.mpr (mem_ptS.mpr ⟨_, hy, ho, ?_⟩)
    rw [stO_back O.nd h0 (nV k h1)]
/-! ### two side by side -/
def mvS (n : Int) (ss : List T3) : List T3 := ss.map fun p => (p.1 + n, p.2.1, p.2.2 + n)
theorem at_left {A B : Wd} {ss : List T3} {k : Int} (h0 : 0 ≤ k) (h1 : k < (A.n : Int)) : Wd.at ⟨A.facts ++ B.facts, ss⟩ k = A.at k := by
  unfold Wd.n at h1
  show ((A.facts ++ B.facts)[k.toNat]?).getD [] = _
  rw [List.getElem?_append_left (by omega)]
  rfl
theorem at_right {A B : Wd} {ss : List T3} {k : Int} (h0 : 0 ≤ k) : Wd.at ⟨A.facts ++ B.facts, ss⟩ (k + (A.n : Int)) = B.at k := by
  show ((A.facts ++ B.facts)[(k + (A.n : Int)).toNat]?).getD [] = _
  unfold Wd.n
  rw [List.getElem?_append_right (by omega), show (k + (A.facts.length : Int)).toNat - A.facts.length = k.toNat by omega]
  rfl
theorem emb_left {A B : Wd} (hA : ∀ p ∈ A.steps, 0 ≤ p.2.2 ∧ p.2.2 < (A.n : Int)) (hB : ∀ p ∈ B.steps, 0 ≤ p.1) : Emb A ⟨A.facts ++ B.facts, A.steps ++ mvS A.n B.steps⟩ (fun k => k) := by
  have nW : Wd.n ⟨A.facts ++ B.facts, A.steps ++ mvS A.n B.steps⟩ = A.n + B.n := List.length_append
  refine ⟨fun k h0 h1 => ⟨h0, by rw [nW]; omega⟩, fun k h0 h1 x => by rw [at_left h0 h1], fun k h0 h1 l j hj => ?_, fun k h0 h1 l y hy => ⟨y, ?_, rfl⟩⟩
  · rw [beh_begS, mem_beg] at hj
    have := hA _ hj
    refine ⟨this.1, this.2, ?_⟩
    rw [beh_begS, mem_beg]
    exact List.mem_append_left _ hj
  · rw [beh_begS, mem_beg] at hy ⊢
    rcases List.mem_append.mp hy with z | z
    · exact z
    · obtain ⟨p, hp, e⟩ := List.mem_map.mp z
      simp only [Prod.mk.injEq] at e
      have := hB p hp
      omega
theorem emb_right {A B : Wd} (hA : ∀ p ∈ A.steps, p.1 < (A.n : Int)) (hB : ∀ p ∈ B.steps, 0 ≤ p.2.2 ∧ p.2.2 < (B.n : Int)) : Emb B ⟨A.facts ++ B.facts, A.steps ++ mvS A.n B.steps⟩ (fun k => k + (A.n : Int)) := by
  have nW : Wd.n ⟨A.facts ++ B.facts, A.steps ++ mvS A.n B.steps⟩ = A.n + B.n := List.length_append
  refine ⟨fun k h0 h1 => ⟨by omega, by rw [nW]; omega⟩, fun k h0 h1 x => by rw [at_right h0], fun k h0 h1 l j hj => ?_, fun k h0 h1 l y hy => ?_⟩
  · rw [beh_begS, mem_beg] at hj
    have := hB _ hj
    refine ⟨this.1, this.2, ?_⟩
    rw [beh_begS, mem_beg]
    exact List.mem_append_right _ (List.mem_map.mpr ⟨_, hj, rfl⟩)
  · rw [beh_begS, mem_beg] at hy
    rcases List.mem_append.mp hy with z | z
    · have := hA _ z
      simp only at this
      omega
    · obtain ⟨p, hp, e⟩ := List.mem_map.mp z
      obtain ⟨x, y', z'⟩ := p
      simp only [Prod.mk.injEq] at e
      obtain ⟨e1, e2, e3⟩ := e
      refine ⟨z', ?_, e3⟩
      rw [beh_begS, mem_beg]
      have : x = k := by omega
      subst this
      subst e2
      exact hp
/-- what holds in both holds in each -/
theorem both_split {m n : Nat} {Z X Y : List Int} (hZ : Norm (m + n) Z) (hX : X = pull m (fun k => k) Z) (hY : Y = pull n (fun k => k + (m : Int)) Z) : Z = X ++ Y.map fun y => y + (m : Int) := by
  rw [hX, hY]
  have e : rng (m + n) = rng m ++ (rng n).map fun y => y + (m : Int) := by
    unfold rng
    rw [List.range_add, List.map_append, List.map_map, List.map_map]
    congr 1
    refine List.map_congr_left fun i _ => ?_
    show ((m + i : Nat) : Int) = ((i : Nat) : Int) + (m : Int)
    omega
  have e2 : ∀ l : List Int, (l.map fun y => y + (m : Int)).filter (sIn Z) = (l.filter fun k => sIn Z (k + (m : Int))).map fun y => y + (m : Int) := fun l => by
    rw [List.filter_map]
    rfl
  have : Z = (rng (m + n)).filter (sIn Z) := hZ
  rw [e, List.filter_append, e2] at this
  exact this
theorem both_up {A B : Wd} (uA : A.steps.Pairwise fun x y => lex3 x y = true) (uB : B.steps.Pairwise fun x y => lex3 x y = true) (hA : ∀ p ∈ A.steps, p.1 < (A.n : Int)) (hB : ∀ p ∈ B.steps, 0 ≤ p.1) :
    (A.steps ++ mvS A.n B.steps).Pairwise fun x y => lex3 x y = true := by
  refine List.pairwise_append.mpr ⟨uA, ?_, fun p hp q hq => ?_⟩
  · unfold mvS
    rw [List.pairwise_map]
    refine uB.imp fun {a b} h => ?_
    rw [lex3_iff] at h ⊢
    unfold Lt3 at *
    simp only
    omega
  · obtain ⟨r, hr, rfl⟩ := List.mem_map.mp hq
    have := hA p hp
    have := hB r hr
    rw [lex3_iff]
    unfold Lt3
    simp only
    omega
end Fw

/-! Sets of states as whole numbers: what the bit operations do. Pure mathematics. -/
namespace Fw
open PySem
theorem and_nat (a b : Nat) : Builtin.bitAnd (a : Int) (b : Int) = ((a &&& b : Nat) : Int) := by
  have := PyProof.Rows.bitAnd_pp (x := (a : Int)) (y := (b : Int)) (Int.natCast_nonneg a) (Int.natCast_nonneg b)
  simpa using this
theorem and_bit (a b x y : Nat) (hx : x < 2) (hy : y < 2) : (2 * a + x) &&& (2 * b + y) = 2 * (a &&& b) + (x &&& y) := by
  refine Nat.eq_of_testBit_eq fun k => ?_
  have hxy : x &&& y < 2 := by
    have : x = 0 ∨ x = 1 := by omega
    have : y = 0 ∨ y = 1 := by omega
    rcases ‹x = 0 ∨ x = 1› with rfl | rfl <;> rcases ‹y = 0 ∨ y = 1› with rfl | rfl <;> decide
  cases k with
  | zero =>
    rw [Nat.testBit_and]
    have p : ∀ c z : Nat, z < 2 → (2 * c + z).testBit 0 = decide (z = 1) := fun c z hz => by
      rw [Nat.testBit_zero]
      have : (2 * c + z) % 2 = z := by omega
      rw [this]
    rw [p a x hx, p b y hy, p _ _ hxy]
    have : x = 0 ∨ x = 1 := by omega
    have : y = 0 ∨ y = 1 := by omega
    rcases ‹x = 0 ∨ x = 1› with rfl | rfl <;> rcases ‹y = 0 ∨ y = 1› with rfl | rfl <;> decide
  | succ k =>
    rw [Nat.testBit_and]
    have p : ∀ c z : Nat, z < 2 → (2 * c + z).testBit (k + 1) = c.testBit k := fun c z hz => by
      rw [Nat.testBit_succ]
      have : (2 * c + z) / 2 = c := by omega
      rw [this]
    rw [p a x hx, p b y hy, p _ _ hxy, Nat.testBit_and]
theorem and_le (a b : Nat) : a &&& b ≤ a := Nat.and_le_left
/-- a without b -/
def wo (a b : Nat) : Nat := a - (a &&& b)
theorem wo_bit : ∀ (k a b : Nat), (wo a b).testBit k = (a.testBit k && !b.testBit k) := by
  have half : ∀ a b : Nat, ∃ x y, x < 2 ∧ y < 2 ∧ a = 2 * (a / 2) + x ∧ b = 2 * (b / 2) + y ∧ wo a b = 2 * wo (a / 2) (b / 2) + (x - (x &&& y)) ∧ x - (x &&& y) < 2 := fun a b => by
    refine ⟨a % 2, b % 2, by omega, by omega, by omega, by omega, ?_, by omega⟩
    have e := and_bit (a / 2) (b / 2) (a % 2) (b % 2) (by omega) (by omega)
    rw [show 2 * (a / 2) + a % 2 = a by omega, show 2 * (b / 2) + b % 2 = b by omega] at e
    have l1 := and_le (a / 2) (b / 2)
    have l2 := and_le (a % 2) (b % 2)
    unfold wo
    rw [e]
    omega
  intro k
  induction k with
  | zero =>
    intro a b
    obtain ⟨x, y, hx, hy, ea, eb, ew, hl⟩ := half a b
    rw [Nat.testBit_zero, Nat.testBit_zero, Nat.testBit_zero]
    have e1 : wo a b % 2 = x - (x &&& y) := by rw [ew]; omega
    have e2 : a % 2 = x := by omega
    have e3 : b % 2 = y := by omega
    rw [e1, e2, e3]
    have : x = 0 ∨ x = 1 := by omega
    have : y = 0 ∨ y = 1 := by omega
    rcases ‹x = 0 ∨ x = 1› with rfl | rfl <;> rcases ‹y = 0 ∨ y = 1› with rfl | rfl <;> decide
  | succ k ih =>
    intro a b
    obtain ⟨x, y, hx, hy, ea, eb, ew, hl⟩ := half a b
    rw [Nat.testBit_succ, Nat.testBit_succ, Nat.testBit_succ, ← ih]
    have e1 : wo a b / 2 = wo (a / 2) (b / 2) := by rw [ew]; omega
    rw [e1]
theorem wo_nat (a b : Nat) : Builtin.bitAnd (a : Int) (Builtin.bitNot (b : Int)) = ((wo a b : Nat) : Int) := by
  rw [PyProof.Rows.bitAnd_not, and_nat]
  have := and_le a b
  unfold wo
  omega
theorem or_add : ∀ a b : Nat, (a ||| b) + (a &&& b) = a + b := by
  intro a
  induction a using Nat.strongRecOn with
  | ind a ih =>
    intro b
    by_cases h : a = 0
    · subst h
      simp
    · have i := ih (a / 2) (by omega) (b / 2)
      have e := and_bit (a / 2) (b / 2) (a % 2) (b % 2) (by omega) (by omega)
      rw [show 2 * (a / 2) + a % 2 = a by omega, show 2 * (b / 2) + b % 2 = b by omega] at e
      have o1 : (a ||| b) / 2 = a / 2 ||| b / 2 := Nat.or_div_two
      have o2 : (a ||| b) % 2 = (a % 2 ||| b % 2) := by
        have h1 : (a ||| b).testBit 0 = (a.testBit 0 || b.testBit 0) := Nat.testBit_or ..
        rw [Nat.testBit_zero, Nat.testBit_zero, Nat.testBit_zero] at h1
        have ha : a % 2 = 0 ∨ a % 2 = 1 := by omega
        have hb : b % 2 = 0 ∨ b % 2 = 1 := by omega
        have ho : (a ||| b) % 2 = 0 ∨ (a ||| b) % 2 = 1 := by omega
        rcases ha with ha | ha <;> rcases hb with hb | hb <;> rcases ho with ho | ho <;> rw [ha, hb, ho] at h1 ⊢ <;> first | rfl | (exact absurd h1 (by decide))
      have l : (a % 2 ||| b % 2) + (a % 2 &&& b % 2) = a % 2 + b % 2 := by
        have ha : a % 2 = 0 ∨ a % 2 = 1 := by omega
        have hb : b % 2 = 0 ∨ b % 2 = 1 := by omega
        rcases ha with ha | ha <;> rcases hb with hb | hb <;> rw [ha, hb] <;> decide
      have : (a ||| b) = 2 * ((a ||| b) / 2) + (a ||| b) % 2 := by omega
      rw [o1, o2] at this
      omega
theorem or_nat (a b : Nat) : Builtin.bitOr (a : Int) (b : Int) = ((a ||| b : Nat) : Int) := by
  rw [PyProof.Rows.bitOr_and, and_nat]
  have := or_add a b
  omega
/-- the least bit -/
theorem low : ∀ m : Nat, m ≠ 0 → ∃ j, m.testBit j = true ∧ (∀ i, i < j → m.testBit i = false) ∧ (m &&& (m - 1)) = m - 2 ^ j ∧ 2 ^ j ≤ m := by
  intro m
  induction m using Nat.strongRecOn with
  | ind m ih =>
    intro h
    by_cases odd : m % 2 = 1
    · refine ⟨0, by rw [Nat.testBit_zero, odd]; rfl, fun i hi => absurd hi (Nat.not_lt_zero _), ?_, by omega⟩
      have e := and_bit (m / 2) (m / 2) 1 0 (by decide) (by decide)
      rw [show 2 * (m / 2) + 1 = m by omega, show 2 * (m / 2) + 0 = m - 1 by omega, Nat.and_self] at e
      rw [e]
      show 2 * (m / 2) + 0 = m - 1
      omega
    · obtain ⟨j, h1, h2, h3, h4⟩ := ih (m / 2) (by omega) (by omega)
      refine ⟨j + 1, by rw [Nat.testBit_succ]; exact h1, fun i hi => ?_, ?_, by rw [Nat.pow_succ]; omega⟩
      · cases i with
        | zero =>
          rw [Nat.testBit_zero]
          have : m % 2 = 0 := by omega
          rw [this]
          rfl
        | succ i =>
          rw [Nat.testBit_succ]
          exact h2 i (by omega)
      · have e := and_bit (m / 2) (m / 2 - 1) 0 1 (by decide) (by decide)
        rw [show 2 * (m / 2) + 0 = m by omega, show 2 * (m / 2 - 1) + 1 = m - 1 by omega, h3] at e
        rw [e, Nat.pow_succ]
        show 2 * (m / 2 - 2 ^ j) + 0 = _
        omega
theorem low_nat {m j : Nat} (h : (m &&& (m - 1)) = m - 2 ^ j) (hj : 2 ^ j ≤ m) : Builtin.bitAnd (m : Int) (-(m : Int)) = ((2 ^ j : Nat) : Int) := by
  have pos : 0 < m := Nat.lt_of_lt_of_le (Nat.two_pow_pos j) hj
  have e : (-(m : Int)) = Builtin.bitNot ((m - 1 : Nat) : Int) := by
    unfold Builtin.bitNot
    have : ((m - 1 : Nat) : Int) = (m : Int) - 1 := by omega
    rw [this]
    omega
  rw [e, wo_nat]
  unfold wo
  rw [h, Nat.sub_sub_self hj]
/-- without its bit j -/
theorem drop_bit {m j : Nat} (h : m.testBit j = true) (k : Nat) : (m - 2 ^ j).testBit k = (m.testBit k && decide (k ≠ j)) ∧ 2 ^ j ≤ m := by
  have a : m &&& 2 ^ j = 2 ^ j := by
    refine Nat.eq_of_testBit_eq fun i => ?_
    rw [Nat.testBit_and, Nat.testBit_two_pow]
    by_cases e : j = i
    · subst e
      simp [h]
    · simp [e]
  have le : 2 ^ j ≤ m := by
    have := and_le m (2 ^ j)
    rw [a] at this
    exact this
  have w := wo_bit k m (2 ^ j)
  unfold wo at w
  rw [a] at w
  refine ⟨?_, le⟩
  rw [w, Nat.testBit_two_pow]
  by_cases e : j = k
  · subst e
    simp
  · have e' : k ≠ j := fun z => e z.symm
    simp [e, e']
theorem xor_nat {m j : Nat} (h : m.testBit j = true) : Builtin.bitXor (m : Int) ((2 ^ j : Nat) : Int) = ((m - 2 ^ j : Nat) : Int) := by
  have a : m &&& 2 ^ j = 2 ^ j := by
    refine Nat.eq_of_testBit_eq fun i => ?_
    rw [Nat.testBit_and, Nat.testBit_two_pow]
    by_cases e : j = i
    · subst e
      simp [h]
    · simp [e]
  have le := (drop_bit h 0).2
  have o := or_add m (2 ^ j)
  show Builtin.bitOr _ _ - Builtin.bitAnd _ _ = _
  rw [or_nat, and_nat, a]
  rw [a] at o
  omega
/-- the states of a mask -/
def bitsOf (n m : Nat) : List Int := flt n fun s => m.testBit s.toNat
theorem mem_bits {n m : Nat} {s : Int} : s ∈ bitsOf n m ↔ (0 ≤ s ∧ s < (n : Int)) ∧ m.testBit s.toNat = true := mem_flt
theorem flt_succ (n : Nat) (p : Int → Bool) : flt (n + 1) p = flt n p ++ if p (n : Int) = true then [(n : Int)] else [] := by
  unfold flt
  rw [rng_succ, List.filter_append]
  congr 1
  cases c : p (n : Int) <;> simp [c]
theorem flt_nil {n : Nat} {p : Int → Bool} (h : ∀ i : Nat, i < n → p (i : Int) = false) : flt n p = [] := by
  unfold flt
  refine List.filter_eq_nil_iff.mpr fun x hx => ?_
  obtain ⟨h0, h1⟩ := rng_mem.mp hx
  have := h x.toNat (by omega)
  rw [Int.toNat_of_nonneg h0] at this
  rw [this]
  exact Bool.false_ne_true
theorem flt_low {j : Nat} {p : Int → Bool} (hp : p (j : Int) = true) (hl : ∀ i : Nat, i < j → p (i : Int) = false) : ∀ n : Nat, j < n → flt n p = (j : Int) :: flt n fun k => p k && decide (k ≠ (j : Int))
  | n + 1, h => by
    rw [flt_succ, flt_succ]
    by_cases e : j = n
    · subst e
      rw [flt_nil hl, flt_nil fun i hi => by rw [hl i hi]; rfl, hp]
      simp
    · rw [flt_low hp hl n (by omega)]
      have ne : ((n : Nat) : Int) ≠ (j : Int) := by omega
      have : (p (n : Int) && decide ((n : Int) ≠ (j : Int))) = p (n : Int) := by simp [ne]
      rw [this]
      rfl
/-- the least bit first -/
theorem bits_low {n m j : Nat} (h : m.testBit j = true) (hl : ∀ i, i < j → m.testBit i = false) (hn : m < 2 ^ n) : bitsOf n m = (j : Int) :: bitsOf n (m - 2 ^ j) := by
  have jn : j < n := by
    refine Classical.byContradiction fun c => ?_
    have := (drop_bit h 0).2
    have : 2 ^ n ≤ 2 ^ j := Nat.pow_le_pow_right (by decide) (by omega)
    omega
  unfold bitsOf
  rw [flt_low (j := j) (p := fun s => m.testBit s.toNat) (by simpa using h) (fun i hi => by simpa using hl i hi) n jn]
  congr 1
  refine flt_congr fun s h0 h1 => ?_
  rw [(drop_bit h s.toNat).1]
  congr 1
  have : (s ≠ (j : Int)) ↔ s.toNat ≠ j := by omega
  exact decide_eq_decide.mpr this
theorem bits_zero (n : Nat) : bitsOf n 0 = [] := flt_nil fun i _ => Nat.zero_testBit _
end Fw

namespace Fw
open PySem PySem.Spec PyProof.Rows L2
/-- a list's item as the base of an assignment that adds to it -/
theorem pget_list {X : Cx} : PGet X (rIxL X.K) := by
  intro pins s σ H x y v u Q I rx ry h
  obtain ⟨p, xs, i, z, rfl, rfl, hq, he, q⟩ := h
  cases rx
  obtain ⟨t, rfl⟩ := ry
  obtain ⟨its, r, pl, hz⟩ := I.list hq
  obtain ⟨j, h1, h2, h3, h4, h5⟩ := atI_get he
  obtain ⟨w, ew, rw'⟩ := r.get h2
  have hl := r.length
  have hn := line63
  have fin : EP X pins σ Q w s := ⟨z, H, I, rw', q⟩
  by_cases h0 : 0 ≤ i
  · have hj : i.toNat = j := by
      rw [seqIndex_of h0 h5] at h1
      exact Option.some.inj h1
    exact wpAny_getItem_list pl.isList h0 (by omega) (by rw [hj]; simpa using ew) fin
  · have hj : (i + (its.toArray.size : Int)).toNat = j := by
      rw [seqIndex_neg (by omega) h4] at h1
      rw [List.size_toArray, ← hl]
      exact Option.some.inj h1
    exact wpAny_getItem_list_neg pl.isList (by omega) (by rw [List.size_toArray] <;> omega) (by omega) (by rw [hj]; simpa using ew) fin
end Fw

set_option maxRecDepth 100000
set_option maxHeartbeats 4000000
/-! dicts whose keys are tuples within tuples -/
namespace Fw
open PySem PySem.Spec PyProof.Rows L2
mutual
/-- v is such a key, in the heap H -/
inductive KIs (K : PySem.W.Frag) (H : Hp) : V → NestedKey → Prop
  | int (i : Int) : KIs K H (.int i) (.num i)
  | str (x : PySem.Str) : KIs K H (.str x) (.text x)
  | tup {a : Addr} {xs : List V} {ks : List NestedKey} : SqT K H a xs → KAll K H xs ks → KIs K H (.ref a) (.tup ks)
inductive KAll (K : PySem.W.Frag) (H : Hp) : List V → List NestedKey → Prop
  | nil : KAll K H [] []
  | cons {x : V} {k : NestedKey} {xs : List V} {ks : List NestedKey} : KIs K H x k → KAll K H xs ks → KAll K H (x :: xs) (k :: ks)
end
mutual
theorem KIs.map {K : PySem.W.Frag} {H H' : Hp} (s : ∀ a xs, SqT K H a xs → SqT K H' a xs) : ∀ {v : V} {k : NestedKey}, KIs K H v k → KIs K H' v k
  | _, _, .int i => .int i
  | _, _, .str x => .str x
  | _, _, .tup h r => .tup (s _ _ h) (KAll.map s r)
theorem KAll.map {K : PySem.W.Frag} {H H' : Hp} (s : ∀ a xs, SqT K H a xs → SqT K H' a xs) : ∀ {vs : List V} {ks : List NestedKey}, KAll K H vs ks → KAll K H' vs ks
  | _, _, .nil => .nil
  | _, _, .cons h r => .cons (KIs.map s h) (KAll.map s r)
end
section
variable {X : Cx} {pins : List (Addr × Obj)} {σ : L2.St} {H : Hp} {s : Shared}
mutual
theorem kis_real (I : Inv X pins σ H s) : ∀ {v : V} {k : NestedKey} {u : Value}, KIs X.K H v k → RelV v u → NestedIs s.heap k u
  | _, _, _, .int i, r => by
    obtain ⟨t, rfl⟩ : ∃ t, _ = Value.int i t := r
    exact .int i t
  | _, _, _, .str x, r => by
    obtain ⟨t, rfl⟩ : ∃ t, _ = Value.str x t := r
    exact .text x t
  | _, _, _, .tup h all, r => by
    obtain rfl : _ = Value.ref _ := r
    obtain ⟨its, rv, ⟨o, e, c, n, d⟩, _⟩ := I.tuple h
    exact .tup e c d (by simpa using kall_real I all rv)
theorem kall_real (I : Inv X pins σ H s) : ∀ {vs : List V} {ks : List NestedKey} {us : List Value}, KAll X.K H vs ks → Vals vs us → NestedAll s.heap ks us
  | _, _, _, .nil, .nil => .nil
  | _, _, _, .cons h r, .cons a b => .cons (kis_real I h a) (kall_real I r b)
end
end
abbrev NK := NestedKey × Addr × V
/-- what stands at a key -/
def valN (kvs : List NK) (k : NestedKey) : Option V := (kvs.find? fun e => decide (e.1 = k)).map fun e => e.2.2
def PairN (p : NK) (q : NestedKey × Addr × Value) : Prop := p.1 = q.1 ∧ p.2.1 = q.2.1 ∧ RelV p.2.2 q.2.2
def DNh (P : Program) (w : World) (a : Addr) (kvs : List NK) (h : Heap) : Prop := (a == sysModules) = false ∧ kvs.length ≤ sizeLine ∧ ∃ xs : List (NestedKey × Addr × Value), Paired PairN kvs xs ∧
  ∃ o es ep, h.get? a = some o ∧ o.ExactDict ∧ o.data = .dict es ep ∧ es.toList = xs.map (entryOfKey (nestedKind P w)) ∧ (xs.map (·.1)).Nodup
/-- a dict with such keys, each with the place of its tuple -/
def DNs (P : Program) (w : World) (a : Addr) (kvs : List NK) : HO := .ext (DNh P w a kvs)
def KeysOk (K : PySem.W.Frag) (H : Hp) (kvs : List NK) : Prop := ∀ e ∈ kvs, KIs K H (.ref e.2.1) e.1 ∧ e.1.depth ≤ 8
theorem DNh.ok {P : Program} {w : World} {H : Hp} {h : Heap} {a : Addr} {kvs : List NK} (x : DNh P w a kvs h) : ObjOk P w H h a (DNs P w a kvs) := by
  obtain ⟨z, y, xs, r, o, es, ep, e, c⟩ := id x
  refine ⟨x, ⟨o, e⟩, fun h1 h2 q k => ?_⟩
  obtain ⟨z, y, xs, r, o, es, ep, e, c⟩ := q
  exact ⟨z, y, xs, r, o, es, ep, k _ e, c⟩
theorem pair_val {kvs : List NK} {xs : List (NestedKey × Addr × Value)} (r : Paired PairN kvs xs) (k : NestedKey) : RelO (valN kvs k) ((atKey xs k).map (·.2)) := by
  induction r with
  | nil => exact trivial
  | @cons p q ps qs h t ih =>
    obtain ⟨h1, h2, h3⟩ := h
    unfold valN atKey at ih ⊢
    by_cases e : p.1 = k
    · have e2 : q.1 = k := h1.symm.trans e
      simp only [List.find?_cons, e, e2, decide_true, Option.map_some]
      exact h3
    · have e2 : ¬ q.1 = k := fun z => e (h1.trans z)
      simp only [List.find?_cons, decide_eq_false e, decide_eq_false e2]
      exact ih
theorem valN_snoc {kvs : List NK} {k : NestedKey} {b : Addr} {v : V} (h : valN kvs k = none) (j : NestedKey) : valN (kvs ++ [(k, b, v)]) j = if j = k then some v else valN kvs j := by
  unfold valN at h ⊢
  rw [List.find?_append]
  by_cases e : j = k
  · subst e
    have : kvs.find? (fun e => decide (e.1 = j)) = none := Option.map_eq_none_iff.mp h
    simp [this, List.find?_cons]
  · rw [if_neg e]
    have : ¬ k = j := fun z => e z.symm
    cases kvs.find? (fun e => decide (e.1 = j)) <;> simp [List.find?_cons, this]
section
variable {X : Cx}
theorem dn_dict {pins : List (Addr × Obj)} {σ : L2.St} {H : Hp} {s : Shared} {a : Addr} {kvs : List NK} (I : Inv X pins σ H s) (e : H a = some (DNs X.prog X.w a kvs)) (ok : KeysOk X.K H kvs) :
    (a == sysModules) = false ∧ kvs.length ≤ sizeLine ∧ ∃ xs, Paired PairN kvs xs ∧ s.heap.DictOfH (nestedKind X.prog X.w) a xs := by
  obtain ⟨z, y, xs, r, o, es, ep, h1, h2, h3, h4, h5⟩ := (I.hok a _ e).1
  refine ⟨z, y, xs, r, o, es, ep, h1, h2, h3, h4, fun x hx => ?_, h5⟩
  have all : ∀ {l : List NK} {m : List (NestedKey × Addr × Value)}, Paired PairN l m → (∀ e ∈ l, KIs X.K H (.ref e.2.1) e.1 ∧ e.1.depth ≤ 8) → ∀ x ∈ m, (nestedKind X.prog X.w).is s.heap x.1 x.2.1 := by
    intro l m q
    induction q with
    | nil => intro _ x hx; exact nomatch hx
    | @cons p q ps qs hq t ih =>
      intro okl x hx
      rcases List.mem_cons.mp hx with e | hx
      · subst e
        obtain ⟨k1, k2⟩ := okl p List.mem_cons_self
        rw [hq.1, hq.2.1] at k1
        exact ⟨kis_real I k1 rfl, by rw [← hq.1]; exact k2⟩
      · exact ih (fun e he => okl e (List.mem_cons_of_mem _ he)) x hx
  exact all r ok x hx
def rInN (P : Program) (w : World) (K : PySem.W.Frag) (neg : Bool) : R2 := fun x y H Q => ∃ (a b : Addr) (kvs : List NK) (k : NestedKey), y = .ref a ∧ x = .ref b ∧ H a = some (DNs P w a kvs) ∧ KeysOk K H kvs ∧ KIs K H (.ref b) k ∧ k.depth ≤ 8 ∧
  Q (.bl (if neg = true then !(valN kvs k).isSome else (valN kvs k).isSome)) H
theorem op_inN (hu : X.A.units + 64 < cLine) : OpR X (compareOp .In) (rInN X.prog X.w X.K false) := by
  intro pins s σ H x y v u Q I rx ry h
  obtain ⟨a, b, kvs, k, rfl, rfl, e, ok, hk, dk, q⟩ := h
  obtain rfl : v = Value.ref b := rx
  obtain rfl : u = Value.ref a := ry
  obtain ⟨z, _, xs, r, dd⟩ := dn_dict I e ok
  refine wpAny_in_heap (knd := nestedKind X.prog X.w) (show X.A.units + 1 + 8 < cLine by omega) ⟨kis_real I hk rfl, dk⟩ z dd ?_
  have q2 := (pair_val r k).isSome_eq
  rw [Option.isSome_map] at q2
  refine ⟨.bl _, H, I.tok _, rfl, ?_⟩
  rw [← q2]
  exact q
theorem op_notInN (hu : X.A.units + 64 < cLine) : OpR X (compareOp .NotIn) (rInN X.prog X.w X.K true) := by
  intro pins s σ H x y v u Q I rx ry h
  obtain ⟨a, b, kvs, k, rfl, rfl, e, ok, hk, dk, q⟩ := h
  obtain rfl : v = Value.ref b := rx
  obtain rfl : u = Value.ref a := ry
  obtain ⟨z, _, xs, r, dd⟩ := dn_dict I e ok
  refine wpAny_notIn_heap (knd := nestedKind X.prog X.w) (show X.A.units + 1 + 8 < cLine by omega) ⟨kis_real I hk rfl, dk⟩ z dd ?_
  have q2 := (pair_val r k).isSome_eq
  rw [Option.isSome_map] at q2
  refine ⟨.bl _, H, I.tok _, rfl, ?_⟩
  rw [← q2]
  exact q
def rIxN (P : Program) (w : World) (K : PySem.W.Frag) : R2 := fun x y H Q => ∃ (a b : Addr) (kvs : List NK) (k : NestedKey) (v : V), x = .ref a ∧ y = .ref b ∧ H a = some (DNs P w a kvs) ∧ KeysOk K H kvs ∧ KIs K H (.ref b) k ∧ k.depth ≤ 8 ∧ valN kvs k = some v ∧ Q v H
theorem ix_nest (hu : X.A.units + 64 < cLine) : IxR X (rIxN X.prog X.w X.K) := by
  intro value slice pins s σ H x y v u Q I rx ry h hs
  obtain ⟨a, b, kvs, k, z0, rfl, rfl, e, ok, hk, dk, hv, q⟩ := h
  obtain rfl : v = Value.ref a := rx
  obtain rfl : u = Value.ref b := ry
  obtain ⟨z, _, xs, r, dd⟩ := dn_dict I e ok
  obtain ⟨w', hw, rw'⟩ := RelO.some_of (v := z0) (o := (atKey xs k).map (·.2)) (by rw [← hv]; exact pair_val r k)
  obtain ⟨p, hp, hp2⟩ := Option.map_eq_some_iff.mp hw
  refine tail_any dd.typeIs PySem.F.slot_dict_getitem.lookup (wpAny_getItem_heap (knd := nestedKind X.prog X.w) (show X.A.units + 1 + 8 < cLine by omega) ⟨kis_real I hk rfl, dk⟩ dd hp ?_) hs
  rw [hp2]
  exact ⟨z0, H, I.tok _, rw', q⟩
/-- d[key] = v, the key not yet there -/
def rSetN (P : Program) (w : World) (K : PySem.W.Frag) : TSet := fun o i v H Q => ∃ (a b : Addr) (kvs : List NK) (k : NestedKey), o = .ref a ∧ i = .ref b ∧ H a = some (DNs P w a kvs) ∧ KeysOk K H kvs ∧ KIs K H (.ref b) k ∧ k.depth ≤ 8 ∧ valN kvs k = none ∧ kvs.length < sizeLine ∧
  Q (upd H a (DNs P w a (kvs ++ [(k, b, v)])))
theorem set_nest (hu : X.A.units + 64 < cLine) : PSet X (rSetN X.prog X.w X.K) := by
  intro pins s σ H o i v ov iv u Q I ro ri rv h
  obtain ⟨a, b, kvs, k, rfl, rfl, e, ok, hk, dk, hn, hl, q⟩ := h
  obtain rfl : ov = Value.ref a := ro
  obtain rfl : iv = Value.ref b := ri
  obtain ⟨z, sz, xs, r, dd⟩ := dn_dict I e ok
  have none' : atKey xs k = none := by
    have q2 := (pair_val r k).isSome_eq
    rw [Option.isSome_map, hn] at q2
    cases h : atKey xs k with
    | none => rfl
    | some p => rw [h] at q2; cases q2
  refine wpAny_setItem_heap (knd := nestedKind X.prog X.w) (hsz := by rw [← Paired.length r]; exact sz) (show X.A.units + 1 + 8 < cLine by omega) ⟨kis_real I hk rfl, dk⟩ dd fun h' dd' hs => ⟨_, ?_, q⟩
  rw [storedH_new none'] at dd'
  obtain ⟨o', es, ep, e1, e2, e3, e4, _, e5⟩ := dd'
  refine d_write I (by rw [e]; trivial) hs ⟨o', e1⟩ (DNh.ok ⟨z, ?_, _, Paired.snoc r ⟨rfl, rfl, rv⟩, o', es, ep, e1, e2, e3, e4, e5⟩)
  rw [List.length_append, List.length_singleton]
  exact hl
/-- {} -/
def tDNewN (P : Program) (w : World) : TE := fun _ H Q => ∀ p, H p = none → Q (.ref p) (upd H p (DNs P w p []))
theorem pe_dnewN {pos : Pos} : PE X (.Dict [] [] pos) (tDNewN X.prog X.w) :=
  ⟨fun pins s σ H Q I h => wpAny_Dict_empty ⟨.ref s.heap.objs.size, _, I.laid (a := s.heap.objs.size) (t' := s.toks) (fun _ _ q => Heap.get?_push_of_some _ q) (Nat.le_refl _) (DNh.ok (by
    obtain ⟨z, y, xs, r, o, es, ep, e, c⟩ := dt_empty (P := X.prog) (w := X.w) (H := H) s.heap I.big
    cases r
    exact ⟨y, Nat.zero_le _, [], .nil, o, es, ep, e, c.1, c.2.1, c.2.2.1, List.nodup_nil⟩)), rfl, h _ (I.hok.fresh (Nat.le_refl _))⟩⟩
end
end Fw

set_option maxRecDepth 100000
set_option maxHeartbeats 4000000
/-! d.get(key), the dict's keys being tuples within tuples -/
namespace Fw
open PySem PySem.Spec PyProof.Rows L2
def tDGetN (P : Program) (w : World) (K : PySem.W.Frag) (td ty : TE) : TE := fun σ H Q => td σ H fun x H1 => ∃ a kvs0, x = .ref a ∧ H1 a = some (DNs P w a kvs0) ∧ KeysOk K H1 kvs0 ∧ ty σ H1 fun y H2 =>
  ∃ b kvs k, y = .ref b ∧ H2 a = some (DNs P w a kvs) ∧ KeysOk K H2 kvs ∧ KIs K H2 (.ref b) k ∧ k.depth ≤ 8 ∧ Q ((valN kvs k).getD .non) H2
section
variable {X : Cx} {o e : Expr} {td ty : TE} {apos cpos : Pos}
theorem pe_dgetN (hu : X.A.units + 64 < cLine) (ho : PE X o td) (he : PE X e ty) (m : M1 X o "get" apos e cpos) : PE X (.Call (.Attribute o "get" apos) [e] [] cpos) (tDGetN X.prog X.w X.K td ty) := by
  refine ⟨fun pins s σ H Q I h => ?_⟩
  refine wpAny_Call_method m.base m.few m.line PySem.F.plainAttrs_dict PySem.F.slot_dict_get PySem.F.type_dict_get (thn (ho.run pins s σ H _ I h) fun u s1 ⟨x, H1, I1, rx, a, kvs0, ex, d, ok0, q1⟩ => ?_)
  subst ex
  obtain rfl : u = Value.ref a := rx
  obtain ⟨z, y, xs, r, dd⟩ := dn_dict I1 d ok0
  refine ⟨dd.typeIs, fun b q => ?_, ?_⟩
  · cases q
    obtain ⟨_, _, xs, r, o, es, ep, e1, e2, e3, e4, e5⟩ := (I1.hok a _ d).1
    exact ⟨_, e1, e2.2.1⟩
  rw [m.trees]
  refine wpAny_dict_get1_heap (knd := nestedKind X.prog X.w) (show X.A.units + 1 + 8 < cLine by omega) z (thn (he.run pins s1 σ H1 _ I1 q1) fun iv s2 ⟨y, H2, I2, ry, b, kvs, k, ey, d2, ok2, hk, dk, q2⟩ => ?_)
  subst ey
  obtain rfl : iv = Value.ref b := ry
  obtain ⟨z2, _, xs2, r2, dd2⟩ := dn_dict I2 d2 ok2
  refine ⟨b, k, xs2, rfl, ⟨kis_real I2 hk rfl, dk⟩, dd2, ?_⟩
  have pv := pair_val r2 k
  refine ⟨(valN kvs k).getD .non, H2, I2.tok _, ?_, q2⟩
  cases e1 : valN kvs k with
  | none =>
    rw [e1] at pv
    cases e2 : (atKey xs2 k).map (·.2) with
    | none => exact rfl
    | some w' => rw [e2] at pv; cases pv
  | some v =>
    rw [e1] at pv
    cases e2 : (atKey xs2 k).map (·.2) with
    | none => rw [e2] at pv; cases pv
    | some w' => rw [e2] at pv; exact pv
end
end Fw

set_option maxRecDepth 100000
set_option maxHeartbeats 2000000
/-! Two clauses of a comprehension over any walks; x in a tuple, deep; what is kept of tuples. -/
namespace Fw
open PySem PySem.Spec PyProof.Rows L2
section
variable {X : Cx}
def rInT (K : PySem.W.Frag) : R2 := fun x y H Q => ∃ d ds, Dp K H x d ∧ Dp K H y (.tuple ds) ∧ SeqAt.shaped d = true ∧ SeqAt.shaped (.tuple ds) = true ∧ Q (.bl (ds.any fun z => PyData.eqv z d)) H
theorem op_inT (hu : X.A.units + 64 < cLine) : OpR X (compareOp .In) (rInT X.K) := by
  intro pins s σ H x y v u Q I rx ry h
  obtain ⟨d, ds, hd, he, sd, se, q⟩ := h
  obtain ⟨as, r1⟩ := Dp.reads I d x v hd rx
  obtain ⟨bs, r2⟩ := Dp.reads I (.tuple ds) y u he ry
  have hz := SeqAt.shaped
  have : X.A.units + 1 + min (PyData.depthAll ds) d.depth < cLine := by
    have e : (PyData.canLay0 (.tuple ds) && decide (PyData.depth (.tuple ds) ≤ 64)) = true := se
    have := of_decide_eq_true (Bool.and_eq_true_iff.mp e).2
    simp only [PyData.depth] at this
    omega
  exact SeqAt.in_tuple_reads r2 r1 (SeqAt.canLay_of_shaped se) (SeqAt.canLay_of_shaped sd) this ⟨.bl _, H, I, rfl, q⟩
def rNotInL (K : PySem.W.Frag) : R2 := fun x y H Q => ∃ d ds, Dp K H x d ∧ Dp K H y (.list ds) ∧ SeqAt.shaped d = true ∧ SeqAt.shaped (.list ds) = true ∧ Q (.bl (!ds.any fun z => PyData.eqv z d)) H
theorem op_notInL (hu : X.A.units + 64 < cLine) : OpR X (compareOp .NotIn) (rNotInL X.K) := by
  intro pins s σ H x y v u Q I rx ry h
  obtain ⟨d, ds, hd, he, sd, se, q⟩ := h
  obtain ⟨as, r1⟩ := Dp.reads I d x v hd rx
  obtain ⟨bs, r2⟩ := Dp.reads I (.list ds) y u he ry
  have : X.A.units + 1 + min (PyData.depthAll ds) d.depth < cLine := by
    have e : (PyData.canLay0 (.list ds) && decide (PyData.depth (.list ds) ≤ 64)) = true := se
    have := of_decide_eq_true (Bool.and_eq_true_iff.mp e).2
    simp only [PyData.depth] at this
    omega
  exact SeqAt.notIn_list_reads r2 r1 (SeqAt.canLay_of_shaped se) (SeqAt.canLay_of_shaped sd) this ⟨.bl _, H, I, rfl, q⟩
end
theorem in2_it {J : It} {n : Nat} {G : Hp → Prop} {Y : Nat → Hp → V → Hp → Prop} (w : Walk J n G Y) {g : TG} {tt : TT} {te : TE} {vs : List Nat} {σ : L2.St} {H1 : Hp} {D : Addr} {Nx : Hp → Prop} (Pv : Nat → Hp → Prop) (h0 : Pv 0 H1) (hG : ∀ i H, i ≤ n → Pv i H → G H)
    (hs : ∀ i x H H', i < n → Pv i H → Y i H x H' → g x (wipe σ vs) H' fun σ2 H2 => wipe σ2 vs = wipe σ vs ∧ tt σ2 H2 fun b H3 =>
      if b = true then te σ2 H3 fun y H4 => ∃ acc, H4 D = some (.lst acc) ∧ acc.length < sizeLine ∧ Pv (i + 1) (upd H4 D (.lst (acc ++ [y]))) else Pv (i + 1) H3) (hd : ∀ H, Pv n H → Nx H) :
    ∃ W : Nat → Nat → Hp → Prop, (∃ m, W 0 m H1) ∧ ∀ i m H, W i m H →
      (J.stop i H ∧ Nx H) ∨ (J.go i H ∧ ∃ Nx1 : Hp → Prop, (∀ H', Nx1 H' → ∃ m', m' < m ∧ W (i + 1) m' H') ∧ ∀ x H', J.yld i H x H' → g x (wipe σ vs) H' fun σ2 H2 => wipe σ2 vs = wipe σ vs ∧ tt σ2 H2 fun b H3 =>
        if b = true then te σ2 H3 fun y H4 => ∃ acc, H4 D = some (.lst acc) ∧ acc.length < sizeLine ∧ Nx1 (upd H4 D (.lst (acc ++ [y]))) else Nx1 H3) := by
  refine ⟨fun i m H => m = n - i ∧ i ≤ n ∧ Pv i H, ⟨n, by simp, Nat.zero_le _, h0⟩, ?_⟩
  rintro i m H ⟨rfl, hi, p⟩
  have q := hG i H hi p
  by_cases hlt : i < n
  · refine .inr ⟨w.goes i H hlt q, Pv (i + 1), fun H' p' => ⟨n - (i + 1), by omega, rfl, hlt, p'⟩, fun x H' y => hs i x H H' hlt p (w.yields i H x H' hlt q y)⟩
  · have e : i = n := by omega
    subst e
    exact .inl ⟨w.stops H q, hd H p⟩
theorem lc2_it {J : It} {n : Nat} {G : Hp → Prop} {Y : Nat → Hp → V → Hp → Prop} (w : Walk J n G Y) {wi1 : TI} {g g1 : TG} {tt tt1 : TT} {te : TE} {vs vs1 : List Nat} {σ : L2.St} {H1 : Hp} {D : Addr} {Qd : Hp → Prop} (Pv : Nat → Hp → Prop) (h0 : Pv 0 (upd H1 D (.lst []))) (hG : ∀ i H, i ≤ n → Pv i H → G H)
    (hs : ∀ i x H H', i < n → Pv i H → Y i H x H' → g x (wipe σ vs) H' fun σ2 H2 => wipe σ2 vs = wipe σ vs ∧ tt σ2 H2 fun b H3 =>
      if b = true then wi1 σ2 H3 fun J1 H4 => ∃ W1 : Nat → Nat → Hp → Prop, (∃ m, W1 0 m H4) ∧ ∀ j k H, W1 j k H →
        (J1.stop j H ∧ Pv (i + 1) H) ∨ (J1.go j H ∧ ∃ Nx1 : Hp → Prop, (∀ H', Nx1 H' → ∃ k', k' < k ∧ W1 (j + 1) k' H') ∧ ∀ x H', J1.yld j H x H' → g1 x (wipe σ2 vs1) H' fun σ3 H5 => wipe σ3 vs1 = wipe σ2 vs1 ∧ tt1 σ3 H5 fun b H6 =>
          if b = true then te σ3 H6 fun y H7 => ∃ acc, H7 D = some (.lst acc) ∧ acc.length < sizeLine ∧ Nx1 (upd H7 D (.lst (acc ++ [y]))) else Nx1 H6)
      else Pv (i + 1) H3) (hd : ∀ H, Pv n H → Qd H) :
    ∃ W : Nat → Nat → Hp → Prop, (∃ m, W 0 m (upd H1 D (.lst []))) ∧ ∀ i m H, W i m H →
      (J.stop i H ∧ Qd H) ∨ (J.go i H ∧ ∃ Nx : Hp → Prop, (∀ H', Nx H' → ∃ m', m' < m ∧ W (i + 1) m' H') ∧ ∀ x H', J.yld i H x H' → g x (wipe σ vs) H' fun σ2 H2 => wipe σ2 vs = wipe σ vs ∧ tt σ2 H2 fun b H3 =>
        if b = true then wi1 σ2 H3 fun J1 H4 => ∃ W1 : Nat → Nat → Hp → Prop, (∃ m, W1 0 m H4) ∧ ∀ j k H, W1 j k H →
          (J1.stop j H ∧ Nx H) ∨ (J1.go j H ∧ ∃ Nx1 : Hp → Prop, (∀ H', Nx1 H' → ∃ k', k' < k ∧ W1 (j + 1) k' H') ∧ ∀ x H', J1.yld j H x H' → g1 x (wipe σ2 vs1) H' fun σ3 H5 => wipe σ3 vs1 = wipe σ2 vs1 ∧ tt1 σ3 H5 fun b H6 =>
            if b = true then te σ3 H6 fun y H7 => ∃ acc, H7 D = some (.lst acc) ∧ acc.length < sizeLine ∧ Nx1 (upd H7 D (.lst (acc ++ [y]))) else Nx1 H6)
        else Nx H3) := by
  refine ⟨fun i m H => m = n - i ∧ i ≤ n ∧ Pv i H, ⟨n, by simp, Nat.zero_le _, h0⟩, ?_⟩
  rintro i m H ⟨rfl, hi, p⟩
  have q := hG i H hi p
  by_cases hlt : i < n
  · refine .inr ⟨w.goes i H hlt q, Pv (i + 1), fun H' p' => ⟨n - (i + 1), by omega, rfl, hlt, p'⟩, fun x H' y => hs i x H H' hlt p (w.yields i H x H' hlt q y)⟩
  · have e : i = n := by omega
    subst e
    exact .inl ⟨w.stops H q, hd H p⟩
/-- tuples are as they were -/
def TKp (K : PySem.W.Frag) (H H' : Hp) : Prop := ∀ a xs, SqT K H a xs → SqT K H' a xs
theorem TKp.refl (K : PySem.W.Frag) (H : Hp) : TKp K H H := fun _ _ h => h
theorem TKp.trans {K : PySem.W.Frag} {H H1 H2 : Hp} (a : TKp K H H1) (b : TKp K H1 H2) : TKp K H H2 := fun c xs h => b c xs (a c xs h)
theorem TKp.put {K : PySem.W.Frag} {H : Hp} {d : Addr} {o o' : HO} (e : H d = some o) (n1 : ∀ xs, o ≠ .tup xs) (n2 : ∀ u xs, o ≠ .frz u (.tup xs)) : TKp K H (upd H d o') := by
  intro a xs h
  rcases h with h | h
  · rcases h with h | ⟨u, h⟩
    · exact .inl (.inl (by rw [upd_ne (ne_of h e (n1 _).symm)]; exact h))
    · exact .inl (.inr ⟨u, by rw [upd_ne (ne_of h e (n2 _ _).symm)]; exact h⟩)
  · exact .inr h
theorem TKp.lst {K : PySem.W.Frag} {H : Hp} {d : Addr} {ys : List V} {o' : HO} (e : H d = some (.lst ys)) : TKp K H (upd H d o') := TKp.put e (fun _ z => by cases z) (fun _ _ z => by cases z)
theorem TKp.ext {K : PySem.W.Frag} {H : Hp} {d : Addr} {p : Heap → Prop} {o' : HO} (e : H d = some (.ext p)) : TKp K H (upd H d o') := TKp.put e (fun _ z => by cases z) (fun _ _ z => by cases z)
theorem TKp.ins {K : PySem.W.Frag} {H : Hp} {d C dx : Addr} {fs : List (Str × V)} {o' : HO} (e : H d = some (.ins C dx fs)) : TKp K H (upd H d o') := TKp.put e (fun _ z => by cases z) (fun _ _ z => by cases z)
end Fw

/-! Truth at one state, asked as questions: fixed points without some states. Pure mathematics. -/
namespace Fw
def mIn (m : Nat) (s : Int) : Bool := m.testBit s.toNat
/-- what is left of Y (least), or gets in (greatest), by the states of a mask -/
def cut (n : Nat) (b : Bool) (m : Nat) (Y : List Int) : List Int := if b = true then flt n (fun s => sIn Y s && !mIn m s) else flt n (fun s => sIn Y s || mIn m s)
def bot (n : Nat) (b : Bool) : List Int := if b = true then [] else rng n
def gfx (W : Wd) (b : Bool) (f : F) (x : Int) (e : Int → List Int) (m : Nat) : List Int := iter (fun X => cut W.n b m (val W f (setE e x X))) (W.n + 1) (bot W.n b)
theorem cut_norm (n : Nat) (b : Bool) (m : Nat) (Y : List Int) : Norm n (cut n b m Y) := by
  unfold cut
  split <;> exact flt_norm _ _
theorem bot_norm (n : Nat) (b : Bool) : Norm n (bot n b) := by
  unfold bot
  split
  · exact norm_nil n
  · exact norm_rng n
theorem gfx_norm {W : Wd} {b : Bool} {f : F} {x : Int} {e : Int → List Int} {m : Nat} : Norm W.n (gfx W b f x e m) := cut_norm _ _ _ _
theorem cut_le {n : Nat} {b : Bool} {m : Nat} {X Y : List Int} (h : Le X Y) : Le (cut n b m X) (cut n b m Y) := by
  unfold cut
  split
  · refine Le.flt fun s hs => ?_
    rw [Bool.and_eq_true] at hs ⊢
    exact ⟨h s hs.1, hs.2⟩
  · refine Le.flt fun s hs => ?_
    rw [Bool.or_eq_true] at hs ⊢
    exact hs.imp (h s) id
theorem set_le {W : Wd} {f : F} {x : Int} {e : Int → List Int} {X Y : List Int} (h : Le X Y) : Le (val W f (setE e x X)) (val W f (setE e x Y)) := val_le f _ _ fun y _ => by
  by_cases c : y = x
  · rw [c, setE_same, setE_same]; exact h
  · rw [setE_ne c, setE_ne c]; exact Le.refl _
theorem mem_cut {n : Nat} {b : Bool} {m : Nat} {Y : List Int} {s : Int} (h0 : 0 ≤ s) (h1 : s < (n : Int)) : sIn (cut n b m Y) s = if b = true then (sIn Y s && !mIn m s) else (sIn Y s || mIn m s) := by
  unfold cut
  split <;> exact sIn_flt h0 h1
theorem le_antisymm {n : Nat} {X Y : List Int} (hX : Norm n X) (hY : Norm n Y) (h1 : Le X Y) (h2 : Le Y X) : X = Y :=
  hX.eq hY fun s => ⟨fun h => sIn_iff.mp (h1 s (sIn_iff.mpr h)), fun h => sIn_iff.mp (h2 s (sIn_iff.mpr h))⟩
theorem gfx_fix {W : Wd} {b : Bool} {f : F} {x : Int} {e : Int → List Int} {m : Nat} : gfx W b f x e m = cut W.n b m (val W f (setE e x (gfx W b f x e m))) := by
  have N := iter_norm (n := W.n) (f := fun X => cut W.n b m (val W f (setE e x X))) (fun X _ => cut_norm _ _ _ _) (bot_norm W.n b)
  have M : ∀ X Y, Le X Y → Le (cut W.n b m (val W f (setE e x X))) (cut W.n b m (val W f (setE e x Y))) := fun X Y h => cut_le (set_le h)
  have R : ∃ j, j ≤ W.n ∧ iter (fun X => cut W.n b m (val W f (setE e x X))) (j + 1) (bot W.n b) = iter (fun X => cut W.n b m (val W f (setE e x X))) j (bot W.n b) := by
    cases hb : b with
    | true =>
      subst hb
      refine rest_up N fun k => ?_
      induction k with
      | zero => exact fun s hs => by cases hs
      | succ k ih => exact M _ _ ih
    | false =>
      subst hb
      refine rest_dn N fun k => ?_
      induction k with
      | zero =>
        intro s hs
        have := (N 1).mem (sIn_iff.mp hs)
        exact sIn_iff.mpr (rng_mem.mpr this)
      | succ k ih => exact M _ _ ih
  have h1 := rest_of R (Nat.le_succ W.n)
  have h2 := rest_of R (Nat.le_succ_of_le (Nat.le_succ W.n))
  exact h1.trans h2.symm
/-- nothing smaller is closed -/
theorem gfx_ind {W : Wd} {f : F} {x : Int} {e : Int → List Int} {m : Nat} {X : List Int} (h : Le (cut W.n true m (val W f (setE e x X))) X) : Le (gfx W true f x e m) X := by
  have : ∀ k, Le (iter (fun X => cut W.n true m (val W f (setE e x X))) k (bot W.n true)) X := fun k => by
    induction k with
    | zero => exact fun s hs => by cases hs
    | succ k ih => exact fun s hs => h s (cut_le (set_le ih) s hs)
  exact this _
theorem gfx_coind {W : Wd} {f : F} {x : Int} {e : Int → List Int} {m : Nat} {X : List Int} (hn : Norm W.n X) (h : Le X (cut W.n false m (val W f (setE e x X)))) : Le X (gfx W false f x e m) := by
  have : ∀ k, Le X (iter (fun X => cut W.n false m (val W f (setE e x X))) k (bot W.n false)) := fun k => by
    induction k with
    | zero => exact fun s hs => sIn_iff.mpr (rng_mem.mpr (hn.mem (sIn_iff.mp hs)))
    | succ k ih => exact fun s hs => cut_le (set_le ih) s (h s hs)
  exact this _
theorem mIn_or {m : Nat} {s t : Int} (hs : 0 ≤ s) (ht : 0 ≤ t) : mIn (m ||| 2 ^ s.toNat) t = (mIn m t || decide (t = s)) := by
  unfold mIn
  rw [Nat.testBit_or, Nat.testBit_two_pow]
  congr 1
  exact decide_eq_decide.mpr ⟨fun h => by omega, fun h => by omega⟩
theorem gfx_red {W : Wd} {b : Bool} {f : F} {x : Int} {e : Int → List Int} {m : Nat} {s : Int} (h0 : 0 ≤ s) (h1 : s < (W.n : Int)) :
    sIn (gfx W b f x e m) s = if mIn m s = true then !b else sIn (val W f (setE e x (gfx W b f x e (m ||| 2 ^ s.toNat)))) s := by
  have hb' : ∀ t, sIn (gfx W b f x e m) t = true → 0 ≤ t ∧ t < (W.n : Int) := fun t ht => gfx_norm.mem (sIn_iff.mp ht)
  have g1 : sIn (gfx W b f x e m) s = sIn (cut W.n b m (val W f (setE e x (gfx W b f x e m)))) s := congrArg (fun Y => sIn Y s) gfx_fix
  by_cases c : mIn m s = true
  · rw [if_pos c, g1, mem_cut h0 h1, c]
    cases b <;> simp
  · rw [if_neg c]
    have c' : mIn m s = false := Bool.eq_false_iff.mpr c
    cases b with
    | true =>
      cases hF : sIn (val W f (setE e x (gfx W true f x e (m ||| 2 ^ s.toNat)))) s with
      | true =>
        have le : Le (gfx W true f x e (m ||| 2 ^ s.toNat)) (gfx W true f x e m) := by
          refine gfx_ind fun t ht => ?_
          have hr : 0 ≤ t ∧ t < (W.n : Int) := (cut_norm _ _ _ _).mem (sIn_iff.mp ht)
          rw [mem_cut hr.1 hr.2, if_pos rfl, mIn_or h0 hr.1, Bool.and_eq_true, Bool.not_eq_true', Bool.or_eq_false_iff] at ht
          rw [congrArg (fun Y => sIn Y t) gfx_fix, mem_cut hr.1 hr.2, if_pos rfl, Bool.and_eq_true]
          exact ⟨ht.1, by rw [ht.2.1]; rfl⟩
        have := set_le (W := W) (f := f) (x := x) (e := e) le s hF
        rw [g1, mem_cut h0 h1, if_pos rfl, this, c']
        rfl
      | false =>
        refine Bool.eq_false_iff.mpr fun hs => ?_
        have le : Le (gfx W true f x e m) (gfx W true f x e (m ||| 2 ^ s.toNat)) := by
          refine gfx_ind fun t ht => ?_
          have hr : 0 ≤ t ∧ t < (W.n : Int) := (cut_norm _ _ _ _).mem (sIn_iff.mp ht)
          rw [mem_cut hr.1 hr.2, if_pos rfl, Bool.and_eq_true, Bool.not_eq_true'] at ht
          rw [congrArg (fun Y => sIn Y t) gfx_fix, mem_cut hr.1 hr.2, if_pos rfl, mIn_or h0 hr.1, Bool.and_eq_true, Bool.not_eq_true', Bool.or_eq_false_iff]
          refine ⟨ht.1, ht.2, decide_eq_false fun z => ?_⟩
          rw [z, hF] at ht
          exact Bool.false_ne_true ht.1
        have := le s hs
        rw [congrArg (fun Y => sIn Y s) gfx_fix, mem_cut h0 h1, if_pos rfl, mIn_or h0 h0] at this
        simp at this
    | false =>
      cases hF : sIn (val W f (setE e x (gfx W false f x e (m ||| 2 ^ s.toNat)))) s with
      | true =>
        have le : Le (gfx W false f x e (m ||| 2 ^ s.toNat)) (gfx W false f x e m) := by
          refine gfx_coind gfx_norm fun t ht => ?_
          have hr : 0 ≤ t ∧ t < (W.n : Int) := gfx_norm.mem (sIn_iff.mp ht)
          rw [congrArg (fun Y => sIn Y t) gfx_fix, mem_cut hr.1 hr.2, if_neg Bool.false_ne_true, mIn_or h0 hr.1, Bool.or_eq_true, Bool.or_eq_true, decide_eq_true_eq] at ht
          rw [mem_cut hr.1 hr.2, if_neg Bool.false_ne_true, Bool.or_eq_true]
          rcases ht with h | h | h
          · exact .inl h
          · exact .inr h
          · rw [h]; exact .inl hF
        refine le s ?_
        rw [congrArg (fun Y => sIn Y s) gfx_fix, mem_cut h0 h1, if_neg Bool.false_ne_true, hF]
        rfl
      | false =>
        refine Bool.eq_false_iff.mpr fun hs => ?_
        have le : Le (gfx W false f x e m) (gfx W false f x e (m ||| 2 ^ s.toNat)) := by
          refine gfx_coind gfx_norm fun t ht => ?_
          have hr : 0 ≤ t ∧ t < (W.n : Int) := gfx_norm.mem (sIn_iff.mp ht)
          rw [congrArg (fun Y => sIn Y t) gfx_fix, mem_cut hr.1 hr.2, if_neg Bool.false_ne_true, Bool.or_eq_true] at ht
          rw [mem_cut hr.1 hr.2, if_neg Bool.false_ne_true, mIn_or h0 hr.1, Bool.or_eq_true, Bool.or_eq_true]
          exact ht.imp id .inl
        rw [g1, mem_cut h0 h1, if_neg Bool.false_ne_true, c', Bool.or_false] at hs
        have := set_le (W := W) (f := f) (x := x) (e := e) le s hs
        rw [hF] at this
        cases this
theorem iter_congr {n : Nat} {f g : List Int → List Int} (h : ∀ X, f X = g X) : ∀ (k : Nat) (X : List Int), iter f k X = iter g k X
  | 0, _ => rfl
  | k + 1, X => by
    show f (iter f k X) = g (iter g k X)
    rw [h, iter_congr (n := n) h k X]
theorem cut_zero {n : Nat} {b : Bool} {Y : List Int} (h : Norm n Y) : cut n b 0 Y = Y := by
  refine (cut_norm _ _ _ _).eq h fun s => ?_
  have z : mIn 0 s = false := by unfold mIn; exact Nat.zero_testBit _
  constructor
  · intro hs
    have hr := (cut_norm _ _ _ _).mem hs
    have := sIn_iff.mpr hs
    rw [mem_cut hr.1 hr.2, z] at this
    refine sIn_iff.mp ?_
    cases b <;> simpa using this
  · intro hs
    have hr := h.mem hs
    refine sIn_iff.mp ?_
    rw [mem_cut hr.1 hr.2, z, sIn_iff.mpr hs]
    cases b <;> rfl
theorem iter_congrN {n : Nat} {f g : List Int → List Int} (hf : ∀ X, Norm n X → Norm n (f X)) (h : ∀ X, Norm n X → g X = f X) {X : List Int} (hX : Norm n X) : ∀ k, iter g k X = iter f k X
  | 0 => rfl
  | k + 1 => by
    show g (iter g k X) = f (iter f k X)
    rw [iter_congrN hf h hX k]
    exact h _ (iter_norm hf hX k)
theorem gfx_zero {W : Wd} {k : One} {f : F} {x : Int} {e : Int → List Int} (hk : k.bind = true) (he : ∀ y ∈ fv f, y ≠ x → Norm W.n (e y)) : gfx W (decide (k = .least)) f x e 0 = val W (.one k x f) e := by
  have hf : ∀ X, Norm W.n X → Norm W.n (val W f (setE e x X)) := fun X hX => val_norm f _ fun y hy => by
    by_cases c : y = x
    · rw [c, setE_same]; exact hX
    · rw [setE_ne c]; exact he y hy c
  have := fun b => iter_congrN (f := fun X => val W f (setE e x X)) (g := fun X => cut W.n b 0 (val W f (setE e x X))) hf (fun X hX => cut_zero (hf X hX)) (bot_norm W.n b) (W.n + 1)
  cases k with
  | least => exact this true
  | most => exact this false
  | some => cases hk
  | all => cases hk
/-! ### the questions -/
structure Qn where
  pl : Nat
  st : Nat
  ms : List Nat
  deriving DecidableEq
def kOf : F → Bool
  | .one k _ _ => decide (k = .least)
  | _ => true
def bOf : F → F
  | .one _ _ f => f
  | f => f
def xOf : F → Int
  | .one _ x _ => x
  | _ => 0
def subAt (t : F) (q : Nat) : F := ((infos t)[q]?.map (·.sub)).getD (.nul true)
def stkAt (t : F) (q : Nat) : Stk := ((infos t)[q]?.map (·.stk)).getD []
theorem subAt_of {t : F} {q : Nat} {r : Rec} (h : (infos t)[q]? = some r) : subAt t q = r.sub := by unfold subAt; rw [h]; rfl
theorem stkAt_of {t : F} {q : Nat} {r : Rec} (h : (infos t)[q]? = some r) : stkAt t q = r.stk := by unfold stkAt; rw [h]; rfl
def envS (W : Wd) (t : F) : Stk → List Nat → Int → List Int
  | (x, q) :: st, m :: ms => setE (envS W t st ms) x (gfx W (kOf (subAt t q)) (bOf (subAt t q)) x (envS W t st ms) m)
  | _, _ => fun _ => []
theorem envS_norm {W : Wd} {t : F} : ∀ (st : Stk) (ms : List Nat) (y : Int), Norm W.n (envS W t st ms y)
  | [], _, _ => norm_nil _
  | _ :: _, [], _ => norm_nil _
  | (x, q) :: st, m :: ms, y => by
    show Norm W.n (setE _ _ _ y)
    by_cases c : y = x
    · rw [c, setE_same]; exact gfx_norm
    · rw [setE_ne c]; exact envS_norm st ms y
def truQ (W : Wd) (t : F) (q : Qn) : Bool :=
  if isB (subAt t q.pl) = true then sIn (gfx W (kOf (subAt t q.pl)) (bOf (subAt t q.pl)) (xOf (subAt t q.pl)) (envS W t (stkAt t q.pl) q.ms.tail) (q.ms.headD 0)) q.st
  else sIn (val W (subAt t q.pl) (envS W t (stkAt t q.pl) q.ms)) q.st
/-- entering a part -/
def ent (t : F) (j : Nat) (s : Nat) (ms : List Nat) : Qn := ⟨j, s, if isB (subAt t j) = true then 0 :: ms else ms⟩
def posB (x : Int) (st : Stk) : Nat := (posOf x st).toNat
def depB (t : F) (j : Nat) : Nat := (stkAt t j).length + if isB (subAt t j) = true then 1 else 0
/-- what decides a question, and what is asked for it -/
def onw (W : Wd) (t : F) (q : Qn) : Bool × List Qn :=
  match subAt t q.pl with
  | .nul b => (!b, [])
  | .leaf .has n => (decide (sIn (W.at q.st) n = false), [])
  | .leaf .lacks n => (decide (sIn (W.at q.st) n = true), [])
  | .leaf .var x => (true, [⟨posB x (stkAt t q.pl), q.st, q.ms.drop (q.ms.length - depB t (posB x (stkAt t q.pl)))⟩])
  | .two b f _ => (!b, [ent t (q.pl + 1) q.st q.ms, ent t (q.pl + 1 + f.size) q.st q.ms])
  | .one .least _ _ => if mIn (q.ms.headD 0) q.st = true then (true, []) else (true, [ent t (q.pl + 1) q.st ((q.ms.headD 0 ||| 2 ^ q.st) :: q.ms.tail)])
  | .one .most _ _ => if mIn (q.ms.headD 0) q.st = true then (false, []) else (true, [ent t (q.pl + 1) q.st ((q.ms.headD 0 ||| 2 ^ q.st) :: q.ms.tail)])
  | .one .some l _ => (true, (W.beh q.st l).map fun s => ent t (q.pl + 1) s.toNat q.ms)
  | .one .all l _ => (false, (W.beh q.st l).map fun s => ent t (q.pl + 1) s.toNat q.ms)
structure Vq (W : Wd) (t : F) (q : Qn) : Prop where
  pl : q.pl < t.size
  st : q.st < W.n
  len : q.ms.length = depB t q.pl
  bd : ∀ m ∈ q.ms, m < 2 ^ W.n
theorem rec_at {t : F} {j : Nat} (h : j < t.size) : ∃ r, (infos t)[j]? = some r := by
  have : (infos t).length = t.size := info_len _ _ _ _
  exact ⟨(infos t)[j]'(by omega), by simp⟩
theorem kid_one {t : F} {j : Nat} {k : One} {x : Int} {f : F} {a : Int} {st : Stk} (h : (infos t)[j]? = some ⟨.one k x f, a, st⟩) : (infos t)[j + 1]? = some ⟨f, j, if k.bind then (x, j) :: st else st⟩ := by
  refine sub_at h 1 _ ?_
  simp only [info, List.getElem?_cons_succ]
  exact info_head _ _ _ _
theorem kid_two {t : F} {j : Nat} {b : Bool} {f g : F} {a : Int} {st : Stk} (h : (infos t)[j]? = some ⟨.two b f g, a, st⟩) : (infos t)[j + 1]? = some ⟨f, j, st⟩ ∧ (infos t)[j + 1 + f.size]? = some ⟨g, j, st⟩ := by
  constructor
  · refine sub_at h 1 _ ?_
    simp only [info, List.getElem?_cons_succ]
    rw [List.getElem?_append_left (by rw [info_len]; exact F.size_pos f)]
    exact info_head _ _ _ _
  · have z := sub_at h (1 + f.size) ⟨g, j, st⟩ (by
      rw [Nat.add_comm 1]
      simp only [info, List.getElem?_cons_succ]
      rw [List.getElem?_append_right (by rw [info_len]; omega), info_len, Nat.sub_self]
      exact info_head _ _ _ _)
    rw [← Nat.add_assoc] at z
    exact z
/-- what is true of a part just entered -/
theorem tru_ent {W : Wd} {t : F} {j : Nat} {r : Rec} (h : (infos t)[j]? = some r) (s : Nat) (ms : List Nat) : truQ W t (ent t j s ms) = sIn (val W r.sub (envS W t r.stk ms)) s := by
  unfold truQ ent
  simp only [subAt_of h, stkAt_of h]
  obtain ⟨sub, a, stk⟩ := r
  cases hb : isB sub with
  | false => rw [if_neg Bool.false_ne_true, if_neg Bool.false_ne_true]
  | true =>
    rw [if_pos rfl, if_pos rfl]
    cases sub with
    | one k x f =>
      have hk : k.bind = true := hb
      show sIn (gfx W (decide (k = .least)) f x (envS W t stk ms) 0) s = _
      rw [gfx_zero hk fun y _ _ => envS_norm _ _ _]
    | nul b => cases hb
    | leaf k n => cases hb
    | two b f g => cases hb
/-- the answers asked for, taken together -/
def together (d : Bool) (as : List Bool) : Bool := if d ∈ as then d else !d
theorem tru_var {W : Wd} {t : F} {x : Int} {s : Nat} : ∀ (st : Stk) (j : Nat) (r : Rec) (ms : List Nat), (infos t)[j]? = some r → r.stk = st → x ∈ st.map (·.1) → ms.length = st.length → posB x st < j ∧
    truQ W t ⟨posB x st, s, ms.drop (ms.length - depB t (posB x st))⟩ = sIn (envS W t st ms x) s ∧ (ms.drop (ms.length - depB t (posB x st))).length = depB t (posB x st) ∧ (posB x st) < t.size
  | [], _, _, _, _, _, h, _ => by cases h
  | (y, q) :: rest, j, r, [], _, _, _, hl => by cases hl
  | (y, q) :: rest, j, r, m :: ms, hr, e, h, hl => by
    obtain ⟨hq, k, f, a, h2, h3⟩ := infos_stk j j r y q rest (Nat.le_refl _) hr e
    have hl' : ms.length = rest.length := Nat.succ.inj hl
    have lq : q < t.size := by
      have := (List.getElem?_eq_some_iff.mp h2).1
      rwa [show (infos t).length = t.size from info_len _ _ _ _] at this
    by_cases c : y = x
    · have e1 : posB x ((y, q) :: rest) = q := by
        unfold posB posOf
        rw [if_pos c]
        rfl
      have ib : isB (subAt t q) = true := by rw [subAt_of h2]; exact h3
      have e2 : depB t q = rest.length + 1 := by
        unfold depB
        rw [ib, if_pos rfl, stkAt_of h2]
      rw [e1, e2]
      have e3 : (m :: ms).length - (rest.length + 1) = 0 := by simp [hl']
      rw [e3, List.drop_zero]
      refine ⟨hq, ?_, by rw [List.length_cons, hl'], lq⟩
      unfold truQ
      simp only
      rw [ib, if_pos rfl, stkAt_of h2]
      show _ = sIn (setE _ _ _ x) _
      rw [← c, setE_same, subAt_of h2]
      rfl
    · have h' : x ∈ rest.map (·.1) := by
        rw [List.map_cons, List.mem_cons] at h
        exact h.resolve_left fun z => c z.symm
      have e1 : posB x ((y, q) :: rest) = posB x rest := by
        unfold posB
        rw [show posOf x ((y, q) :: rest) = posOf x rest from if_neg c]
      obtain ⟨i1, i2, i3, i4⟩ := tru_var (s := s) (W := W) rest q _ ms h2 rfl h' hl'
      rw [e1]
      have le : depB t (posB x rest) ≤ ms.length := by
        rw [← i3, List.length_drop]
        exact Nat.sub_le _ _
      have e3 : (m :: ms).drop ((m :: ms).length - depB t (posB x rest)) = ms.drop (ms.length - depB t (posB x rest)) := by
        rw [List.length_cons, show ms.length + 1 - depB t (posB x rest) = (ms.length - depB t (posB x rest)) + 1 by omega, List.drop_succ_cons]
      rw [e3]
      refine ⟨by omega, ?_, i3, i4⟩
      rw [i2]
      show _ = sIn (setE _ _ _ x) _
      rw [setE_ne fun z => c z.symm]
end Fw

/-! Questions: their answers, and that asking ends. Pure mathematics. -/
namespace Fw
theorem toNat_cast {s : Int} (h : 0 ≤ s) : ((s.toNat : Nat) : Int) = s := Int.toNat_of_nonneg h
theorem vq_ent {W : Wd} {t : F} {j : Nat} {r : Rec} (h : (infos t)[j]? = some r) {s : Nat} (hs : s < W.n) {ms : List Nat} (hl : ms.length = r.stk.length) (hb : ∀ m ∈ ms, m < 2 ^ W.n) : Vq W t (ent t j s ms) := by
  have lt : j < t.size := by
    have := (List.getElem?_eq_some_iff.mp h).1
    rwa [show (infos t).length = t.size from info_len _ _ _ _] at this
  refine ⟨lt, hs, ?_, ?_⟩
  · unfold ent depB
    simp only
    rw [stkAt_of h]
    split
    · rw [List.length_cons, hl]
    · rw [hl]; rfl
  · intro m hm
    unfold ent at hm
    simp only at hm
    split at hm
    · rcases List.mem_cons.mp hm with rfl | hm
      · exact Nat.two_pow_pos _
      · exact hb m hm
    · exact hb m hm
theorem or_lt {m n s : Nat} (hm : m < 2 ^ n) (hs : s < n) : m ||| 2 ^ s < 2 ^ n := Nat.or_lt_two_pow hm (Nat.pow_lt_pow_right (by decide) hs)
theorem beh_in {W : Wd} (G : W.Good) {s l k : Int} (h : k ∈ W.beh s l) : 0 ≤ k ∧ k < W.n := by
  obtain ⟨p, hp, rfl⟩ := List.mem_map.mp h
  exact G p (List.mem_filter.mp hp).1
theorem some_iff {W : Wd} {s l : Int} {X : List Int} : decide (0 < (((W.beh s l).filter (sIn X)).length : Int)) = (W.beh s l).any (sIn X) := by
  cases c : (W.beh s l).any (sIn X) with
  | true =>
    obtain ⟨k, hk, e⟩ := List.any_eq_true.mp c
    have : 0 < ((W.beh s l).filter (sIn X)).length := List.length_pos_of_mem (List.mem_filter.mpr ⟨hk, e⟩)
    exact decide_eq_true (by omega)
  | false =>
    have : (W.beh s l).filter (sIn X) = [] := List.filter_eq_nil_iff.mpr fun k hk e => by
      rw [List.any_eq_false] at c
      exact c k hk e
    rw [this]
    rfl
theorem all_iff {W : Wd} {s l : Int} {X : List Int} : decide ((((W.beh s l).filter (fun k => !sIn X k)).length : Int) = 0) = (W.beh s l).all (sIn X) := by
  cases c : (W.beh s l).all (sIn X) with
  | true =>
    have : (W.beh s l).filter (fun k => !sIn X k) = [] := List.filter_eq_nil_iff.mpr fun k hk e => by
      rw [List.all_eq_true.mp c k hk] at e
      cases e
    rw [this]
    rfl
  | false =>
    obtain ⟨k, hk, e⟩ := List.all_eq_false.mp c
    have : 0 < ((W.beh s l).filter (fun k => !sIn X k)).length := List.length_pos_of_mem (List.mem_filter.mpr ⟨hk, by simpa using e⟩)
    exact decide_eq_false (by omega)
theorem together_map_true {α : Type} (g : α → Bool) (L : List α) : together true (L.map g) = L.any g := by
  unfold together
  cases c : L.any g with
  | true =>
    obtain ⟨a, ha, e⟩ := List.any_eq_true.mp c
    rw [if_pos (List.mem_map.mpr ⟨a, ha, e⟩)]
  | false =>
    rw [if_neg]
    · rfl
    · intro h
      obtain ⟨a, ha, e⟩ := List.mem_map.mp h
      rw [List.any_eq_false] at c
      exact c a ha e
theorem together_map_false {α : Type} (g : α → Bool) (L : List α) : together false (L.map g) = L.all g := by
  unfold together
  cases c : L.all g with
  | false =>
    obtain ⟨a, ha, e⟩ := List.all_eq_false.mp c
    rw [if_pos (List.mem_map.mpr ⟨a, ha, by simpa using e⟩)]
  | true =>
    rw [if_neg]
    · rfl
    · intro h
      obtain ⟨a, ha, e⟩ := List.mem_map.mp h
      rw [List.all_eq_true.mp c a ha] at e
      cases e
theorem onw_ok {W : Wd} {t : F} (G : W.Good) (hc : Closed t) {q : Qn} (v : Vq W t q) :
    truQ W t q = together (onw W t q).1 ((onw W t q).2.map (truQ W t)) ∧ ∀ q' ∈ (onw W t q).2, Vq W t q' := by
  obtain ⟨j, s, ms⟩ := q
  obtain ⟨vp, vs, vl, vb⟩ := v
  simp only at vp vs vl vb
  obtain ⟨r, hr⟩ := rec_at vp
  have es := subAt_of hr
  have ek := stkAt_of hr
  have hs0 : (0 : Int) ≤ (s : Int) := Int.natCast_nonneg s
  have hs1 : (s : Int) < (W.n : Int) := Int.ofNat_lt.mpr vs
  unfold depB at vl
  rw [es, ek] at vl
  have lhs : truQ W t ⟨j, s, ms⟩ = if isB r.sub = true then sIn (gfx W (kOf r.sub) (bOf r.sub) (xOf r.sub) (envS W t r.stk ms.tail) (ms.headD 0)) s else sIn (val W r.sub (envS W t r.stk ms)) s := by
    unfold truQ
    simp only
    rw [es, ek]
  rw [lhs]
  unfold onw
  simp only
  rw [es, ek]
  obtain ⟨sub, a, stk⟩ := r
  simp only at es ek vl ⊢
  cases sub with
  | nul b =>
    refine ⟨?_, fun q' h => by cases h⟩
    show sIn (if b = true then rng W.n else []) s = together (!b) []
    cases b with
    | true => rw [if_pos rfl]; exact sIn_iff.mpr (rng_mem.mpr ⟨hs0, hs1⟩)
    | false => rw [if_neg Bool.false_ne_true]; rfl
  | leaf k n =>
    cases k with
    | has =>
      refine ⟨?_, fun q' h => by cases h⟩
      show sIn (flt W.n _) s = together (decide (sIn (W.at s) n = false)) []
      rw [sIn_flt hs0 hs1]
      cases sIn (W.at s) n <;> rfl
    | lacks =>
      refine ⟨?_, fun q' h => by cases h⟩
      show sIn (flt W.n _) s = together (decide (sIn (W.at s) n = true)) []
      rw [sIn_flt hs0 hs1]
      cases sIn (W.at s) n <;> rfl
    | var =>
      have hx : n ∈ stk.map (·.1) := hc _ (List.mem_of_getElem? hr) n rfl
      obtain ⟨i1, i2, i3, i4⟩ := tru_var (s := s) (W := W) stk j _ ms hr rfl hx vl
      constructor
      · show sIn (envS W t stk ms n) s = together true [truQ W t _]
        rw [i2]
        cases sIn (envS W t stk ms n) (s : Int) <;> rfl
      · intro q' h
        rw [List.mem_singleton] at h
        subst h
        exact ⟨i4, vs, i3, fun m hm => vb m (List.mem_of_mem_drop hm)⟩
  | two b f g =>
    have vl' : ms.length = stk.length := vl
    obtain ⟨h1, h2⟩ := kid_two hr
    constructor
    · show sIn (if b = true then flt W.n _ else flt W.n _) s = together (!b) [truQ W t (ent t (j + 1) s ms), truQ W t (ent t (j + 1 + f.size) s ms)]
      rw [tru_ent h1, tru_ent h2]
      cases b with
      | true =>
        rw [if_pos rfl, sIn_flt hs0 hs1]
        show _ = together false _
        cases sIn (val W g (envS W t stk ms)) (s : Int) <;> cases sIn (val W f (envS W t stk ms)) (s : Int) <;> rfl
      | false =>
        rw [if_neg Bool.false_ne_true, sIn_flt hs0 hs1]
        show _ = together true _
        cases sIn (val W g (envS W t stk ms)) (s : Int) <;> cases sIn (val W f (envS W t stk ms)) (s : Int) <;> rfl
    · intro q' h
      simp only [List.mem_cons, List.not_mem_nil, or_false] at h
      rcases h with rfl | rfl
      · exact vq_ent h1 vs vl' vb
      · exact vq_ent h2 vs vl' vb
  | one k x f =>
    have h1 := kid_one hr
    have bind : ∀ b : Bool, k.bind = true → decide (k = .least) = b → (∀ q' ∈ [ent t (j + 1) s ((ms.headD 0 ||| 2 ^ s) :: ms.tail)], Vq W t q') ∧
        sIn (gfx W b f x (envS W t stk ms.tail) (ms.headD 0)) s = if mIn (ms.headD 0) s = true then !b else truQ W t (ent t (j + 1) s ((ms.headD 0 ||| 2 ^ s) :: ms.tail)) := by
      intro b hk hb
      have ib : isB (.one k x f) = true := hk
      rw [ib, if_pos rfl] at vl
      rw [if_pos hk] at h1
      obtain ⟨m, ms', rfl⟩ : ∃ m ms', ms = m :: ms' := by
        cases ms with
        | nil => simp at vl
        | cons m ms' => exact ⟨m, ms', rfl⟩
      simp only [List.headD_cons, List.tail_cons]
      have vl' : ms'.length = stk.length := by simpa using vl
      have hm := vb m List.mem_cons_self
      have hm' := or_lt hm vs
      constructor
      · intro q' h
        rw [List.mem_singleton] at h
        subst h
        refine vq_ent h1 vs (by simp [vl']) fun m2 h2 => ?_
        rcases List.mem_cons.mp h2 with rfl | h2
        · exact hm'
        · exact vb m2 (List.mem_cons_of_mem _ h2)
      · rw [gfx_red hs0 hs1, tru_ent h1]
        have e1 : kOf (subAt t j) = b := by rw [es]; exact hb
        have e2 : bOf (subAt t j) = f := by rw [es]; rfl
        show _ = if mIn m s = true then !b else sIn (val W f (setE (envS W t stk ms') x (gfx W (kOf (subAt t j)) (bOf (subAt t j)) x (envS W t stk ms') (m ||| 2 ^ s)))) s
        rw [e1, e2, Int.toNat_natCast]
    cases k with
    | least =>
      obtain ⟨b1, b2⟩ := bind true rfl rfl
      constructor
      · show sIn (gfx W true f x (envS W t stk ms.tail) (ms.headD 0)) s = _
        rw [b2]
        split
        · rfl
        · show truQ W t _ = together true [truQ W t _]
          cases truQ W t (ent t (j + 1) s ((ms.headD 0 ||| 2 ^ s) :: ms.tail)) <;> rfl
      · intro q' h
        simp only at h
        split at h
        · cases h
        · exact b1 q' h
    | most =>
      obtain ⟨b1, b2⟩ := bind false rfl rfl
      constructor
      · show sIn (gfx W false f x (envS W t stk ms.tail) (ms.headD 0)) s = _
        rw [b2]
        split
        · rfl
        · show truQ W t _ = together true [truQ W t _]
          cases truQ W t (ent t (j + 1) s ((ms.headD 0 ||| 2 ^ s) :: ms.tail)) <;> rfl
      · intro q' h
        simp only at h
        split at h
        · cases h
        · exact b1 q' h
    | some =>
      have vl' : ms.length = stk.length := vl
      constructor
      · show sIn (flt W.n _) s = together true (List.map _ (List.map _ _))
        rw [sIn_flt hs0 hs1, some_iff, List.map_map, together_map_true]
        refine (List.any_eq (l := W.beh s x)).symm ▸ ?_
        rw [List.any_eq]
        refine decide_eq_decide.mpr ?_
        have e : ∀ k ∈ W.beh s x, truQ W t (ent t (j + 1) k.toNat ms) = sIn (val W f (envS W t stk ms)) k := fun k hk => by
          rw [tru_ent h1, toNat_cast (beh_in G hk).1]
          rfl
        constructor
        · rintro ⟨k, hk, h⟩
          exact ⟨k, hk, by rw [Function.comp, e k hk]; exact h⟩
        · rintro ⟨k, hk, h⟩
          exact ⟨k, hk, by rw [Function.comp, e k hk] at h; exact h⟩
      · intro q' h
        obtain ⟨k, hk, rfl⟩ := List.mem_map.mp h
        have := beh_in G hk
        exact vq_ent h1 (by omega) vl' vb
    | all =>
      have vl' : ms.length = stk.length := vl
      constructor
      · show sIn (flt W.n _) s = together false (List.map _ (List.map _ _))
        rw [sIn_flt hs0 hs1, all_iff, List.map_map, together_map_false]
        rw [List.all_eq, List.all_eq]
        refine decide_eq_decide.mpr ?_
        have e : ∀ k ∈ W.beh s x, truQ W t (ent t (j + 1) k.toNat ms) = sIn (val W f (envS W t stk ms)) k := fun k hk => by
          rw [tru_ent h1, toNat_cast (beh_in G hk).1]
          rfl
        constructor
        · intro h k hk
          rw [Function.comp, e k hk]
          exact h k hk
        · intro h k hk
          have := h k hk
          rw [Function.comp, e k hk] at this
          exact this
      · intro q' h
        obtain ⟨k, hk, rfl⟩ := List.mem_map.mp h
        have := beh_in G hk
        exact vq_ent h1 (by omega) vl' vb
/-! ### asking ends -/
def Lvl (W : Wd) (t : F) : Nat → Qn → Prop
  | 0, _ => False
  | k + 1, q => ∀ q' ∈ (onw W t q).2, Lvl W t k q'
theorem Lvl.succ {W : Wd} {t : F} : ∀ {k : Nat} {q : Qn}, Lvl W t k q → Lvl W t (k + 1) q
  | k + 1, q, h => fun q' hq => Lvl.succ (h q' hq)
theorem Lvl.mono {W : Wd} {t : F} {k k' : Nat} {q : Qn} (h : Lvl W t k q) (hk : k ≤ k') : Lvl W t k' q := by
  obtain ⟨d, rfl⟩ : ∃ d, k' = k + d := ⟨k' - k, by omega⟩
  clear hk
  induction d with
  | zero => exact h
  | succ d ih => exact ih.succ
def Fin' (W : Wd) (t : F) (q : Qn) : Prop := ∃ N, Lvl W t N q
theorem fin_of {W : Wd} {t : F} {q : Qn} (h : ∀ q' ∈ (onw W t q).2, Fin' W t q') : Fin' W t q := by
  have : ∀ L : List Qn, (∀ q' ∈ L, Fin' W t q') → ∃ N, ∀ q' ∈ L, Lvl W t N q' := fun L => by
    induction L with
    | nil => exact fun _ => ⟨0, fun q' hq => by cases hq⟩
    | cons a L ih =>
      intro hL
      obtain ⟨N, hN⟩ := ih fun q' hq => hL q' (List.mem_cons_of_mem _ hq)
      obtain ⟨M, hM⟩ := hL a List.mem_cons_self
      refine ⟨max N M, fun q' hq => ?_⟩
      rcases List.mem_cons.mp hq with rfl | hq
      · exact hM.mono (Nat.le_max_right _ _)
      · exact (hN q' hq).mono (Nat.le_max_left _ _)
  obtain ⟨N, hN⟩ := this _ h
  exact ⟨N + 1, hN⟩
def HV (W : Wd) (t : F) : Stk → List Nat → Prop
  | (_, q) :: st, m :: ms => (∀ s, s < W.n → Fin' W t ⟨q, s, m :: ms⟩) ∧ HV W t st ms
  | _, _ => True
theorem var_fin {W : Wd} {t : F} {x : Int} {s : Nat} (hs : s < W.n) : ∀ (st : Stk) (j : Nat) (r : Rec) (ms : List Nat), (infos t)[j]? = some r → r.stk = st → x ∈ st.map (·.1) → ms.length = st.length → HV W t st ms →
    Fin' W t ⟨posB x st, s, ms.drop (ms.length - depB t (posB x st))⟩
  | [], _, _, _, _, _, h, _, _ => by cases h
  | (y, q) :: rest, j, r, [], _, _, _, hl, _ => by cases hl
  | (y, q) :: rest, j, r, m :: ms, hr, e, h, hl, hv => by
    obtain ⟨hq, k, f, a, h2, h3⟩ := infos_stk j j r y q rest (Nat.le_refl _) hr e
    have hl' : ms.length = rest.length := Nat.succ.inj hl
    by_cases c : y = x
    · have e1 : posB x ((y, q) :: rest) = q := by
        unfold posB posOf
        rw [if_pos c]
        rfl
      have ib : isB (subAt t q) = true := by rw [subAt_of h2]; exact h3
      have e2 : depB t q = rest.length + 1 := by
        unfold depB
        rw [ib, if_pos rfl, stkAt_of h2]
      rw [e1, e2]
      have e3 : (m :: ms).length - (rest.length + 1) = 0 := by simp [hl']
      rw [e3, List.drop_zero]
      exact hv.1 s hs
    · have h' : x ∈ rest.map (·.1) := by
        rw [List.map_cons, List.mem_cons] at h
        exact h.resolve_left fun z => c z.symm
      have e1 : posB x ((y, q) :: rest) = posB x rest := by
        unfold posB
        rw [show posOf x ((y, q) :: rest) = posOf x rest from if_neg c]
      obtain ⟨i1, i2, i3, i4⟩ := tru_var (s := s) (W := W) rest q _ ms h2 rfl h' hl'
      rw [e1]
      have le : depB t (posB x rest) ≤ ms.length := by
        rw [← i3, List.length_drop]
        exact Nat.sub_le _ _
      have e3 : (m :: ms).drop ((m :: ms).length - depB t (posB x rest)) = ms.drop (ms.length - depB t (posB x rest)) := by
        rw [List.length_cons, show ms.length + 1 - depB t (posB x rest) = (ms.length - depB t (posB x rest)) + 1 by omega, List.drop_succ_cons]
      rw [e3]
      exact var_fin hs rest q _ ms h2 rfl h' hl' hv.2
theorem fin_part {W : Wd} {t : F} (G : W.Good) (hc : Closed t) : ∀ (f : F) (j : Nat) (r : Rec), (infos t)[j]? = some r → r.sub = f → ∀ ms : List Nat, ms.length = r.stk.length → (∀ m ∈ ms, m < 2 ^ W.n) → HV W t r.stk ms →
    (∀ s, s < W.n → Fin' W t (ent t j s ms)) ∧ (isB f = true → ∀ m, m < 2 ^ W.n → ∀ s, s < W.n → Fin' W t ⟨j, s, m :: ms⟩)
  | .nul b, j, ⟨_, a, stk⟩, hr, rfl, ms, hl, hb, hv => by
    refine ⟨fun s hs => fin_of fun q' h => ?_, fun h => by cases h⟩
    unfold onw ent at h
    simp only [subAt_of hr] at h
    cases h
  | .leaf .has n, j, ⟨_, a, stk⟩, hr, rfl, ms, hl, hb, hv => by
    refine ⟨fun s hs => fin_of fun q' h => ?_, fun h => by cases h⟩
    unfold onw ent at h
    simp only [subAt_of hr] at h
    cases h
  | .leaf .lacks n, j, ⟨_, a, stk⟩, hr, rfl, ms, hl, hb, hv => by
    refine ⟨fun s hs => fin_of fun q' h => ?_, fun h => by cases h⟩
    unfold onw ent at h
    simp only [subAt_of hr] at h
    cases h
  | .leaf .var x, j, ⟨_, a, stk⟩, hr, rfl, ms, hl, hb, hv => by
    refine ⟨fun s hs => fin_of fun q' h => ?_, fun h => by cases h⟩
    have hx : x ∈ stk.map (·.1) := hc _ (List.mem_of_getElem? hr) x rfl
    unfold onw ent at h
    simp only [subAt_of hr, stkAt_of hr] at h
    have e : (if isB (.leaf .var x) = true then 0 :: ms else ms) = ms := rfl
    rw [e, List.mem_singleton] at h
    subst h
    exact var_fin hs stk j _ ms hr rfl hx hl hv
  | .two b f g, j, ⟨_, a, stk⟩, hr, rfl, ms, hl, hb, hv => by
    refine ⟨fun s hs => fin_of fun q' h => ?_, fun h => by cases h⟩
    obtain ⟨h1, h2⟩ := kid_two hr
    unfold onw at h
    have e0 : (ent t j s ms).pl = j := rfl
    have e1 : (ent t j s ms).st = s := rfl
    have e2 : (ent t j s ms).ms = ms := by
      unfold ent
      rw [subAt_of hr]
      rfl
    rw [e0, e1, e2, subAt_of hr] at h
    simp only [List.mem_cons, List.not_mem_nil, or_false] at h
    rcases h with rfl | rfl
    · exact (fin_part G hc f _ _ h1 rfl ms hl hb hv).1 s hs
    · exact (fin_part G hc g _ _ h2 rfl ms hl hb hv).1 s hs
  | .one .some l f, j, ⟨_, a, stk⟩, hr, rfl, ms, hl, hb, hv => by
    refine ⟨fun s hs => fin_of fun q' h => ?_, fun h => by cases h⟩
    have h1 := kid_one hr
    unfold onw at h
    have e0 : (ent t j s ms).pl = j := rfl
    have e1 : (ent t j s ms).st = s := rfl
    have e2 : (ent t j s ms).ms = ms := by
      unfold ent
      rw [subAt_of hr]
      rfl
    rw [e0, e1, e2, subAt_of hr] at h
    obtain ⟨k, hk, rfl⟩ := List.mem_map.mp h
    have := beh_in G hk
    exact (fin_part G hc f _ _ h1 rfl ms hl hb hv).1 _ (by omega)
  | .one .all l f, j, ⟨_, a, stk⟩, hr, rfl, ms, hl, hb, hv => by
    refine ⟨fun s hs => fin_of fun q' h => ?_, fun h => by cases h⟩
    have h1 := kid_one hr
    unfold onw at h
    have e0 : (ent t j s ms).pl = j := rfl
    have e1 : (ent t j s ms).st = s := rfl
    have e2 : (ent t j s ms).ms = ms := by
      unfold ent
      rw [subAt_of hr]
      rfl
    rw [e0, e1, e2, subAt_of hr] at h
    obtain ⟨k, hk, rfl⟩ := List.mem_map.mp h
    have := beh_in G hk
    exact (fin_part G hc f _ _ h1 rfl ms hl hb hv).1 _ (by omega)
  | .one .least x f, j, ⟨_, a, stk⟩, hr, rfl, ms, hl, hb, hv => by
    have h1 : (infos t)[j + 1]? = some ⟨f, j, (x, j) :: stk⟩ := kid_one hr
    have all : ∀ d m, 2 ^ W.n - m ≤ d → m < 2 ^ W.n → ∀ s, s < W.n → Fin' W t ⟨j, s, m :: ms⟩ := fun d => by
      induction d with
      | zero => intro m hd hm; omega
      | succ d ih =>
        intro m hd hm s hs
        refine fin_of fun q' h => ?_
        have ho : onw W t ⟨j, s, m :: ms⟩ = if mIn m s = true then (true, []) else (true, [ent t (j + 1) s ((m ||| 2 ^ s) :: ms)]) := by
          unfold onw
          rw [show subAt t (Qn.mk j s (m :: ms)).pl = .one .least x f from subAt_of hr]
          rfl
        rw [ho] at h
        by_cases c : mIn m s = true
        · rw [if_pos c] at h
          cases h
        · rw [if_neg c, List.mem_singleton] at h
          subst h
          have hm' := or_lt hm hs
          have gt : m < m ||| 2 ^ s := by
            refine Nat.lt_of_le_of_ne Nat.left_le_or fun e => c ?_
            unfold mIn
            rw [Int.toNat_natCast, e, Nat.testBit_or, Nat.testBit_two_pow]
            simp
          refine (fin_part G hc f _ _ h1 rfl ((m ||| 2 ^ s) :: ms) (by simp [hl]) (fun m2 h2 => ?_) ⟨fun s' hs' => ih _ (by omega) hm' s' hs', hv⟩).1 s hs
          rcases List.mem_cons.mp h2 with rfl | h2
          · exact hm'
          · exact hb m2 h2
    have all' : ∀ m, m < 2 ^ W.n → ∀ s, s < W.n → Fin' W t ⟨j, s, m :: ms⟩ := fun m => all _ m (Nat.le_refl _)
    refine ⟨fun s hs => ?_, fun _ => all'⟩
    have e : ent t j s ms = ⟨j, s, 0 :: ms⟩ := by
      unfold ent
      rw [subAt_of hr]
      rfl
    rw [e]
    exact all' 0 (Nat.two_pow_pos _) s hs
  | .one .most x f, j, ⟨_, a, stk⟩, hr, rfl, ms, hl, hb, hv => by
    have h1 : (infos t)[j + 1]? = some ⟨f, j, (x, j) :: stk⟩ := kid_one hr
    have all : ∀ d m, 2 ^ W.n - m ≤ d → m < 2 ^ W.n → ∀ s, s < W.n → Fin' W t ⟨j, s, m :: ms⟩ := fun d => by
      induction d with
      | zero => intro m hd hm; omega
      | succ d ih =>
        intro m hd hm s hs
        refine fin_of fun q' h => ?_
        have ho : onw W t ⟨j, s, m :: ms⟩ = if mIn m s = true then (false, []) else (true, [ent t (j + 1) s ((m ||| 2 ^ s) :: ms)]) := by
          unfold onw
          rw [show subAt t (Qn.mk j s (m :: ms)).pl = .one .most x f from subAt_of hr]
          rfl
        rw [ho] at h
        by_cases c : mIn m s = true
        · rw [if_pos c] at h
          cases h
        · rw [if_neg c, List.mem_singleton] at h
          subst h
          have hm' := or_lt hm hs
          have gt : m < m ||| 2 ^ s := by
            refine Nat.lt_of_le_of_ne Nat.left_le_or fun e => c ?_
            unfold mIn
            rw [Int.toNat_natCast, e, Nat.testBit_or, Nat.testBit_two_pow]
            simp
          refine (fin_part G hc f _ _ h1 rfl ((m ||| 2 ^ s) :: ms) (by simp [hl]) (fun m2 h2 => ?_) ⟨fun s' hs' => ih _ (by omega) hm' s' hs', hv⟩).1 s hs
          rcases List.mem_cons.mp h2 with rfl | h2
          · exact hm'
          · exact hb m2 h2
    have all' : ∀ m, m < 2 ^ W.n → ∀ s, s < W.n → Fin' W t ⟨j, s, m :: ms⟩ := fun m => all _ m (Nat.le_refl _)
    refine ⟨fun s hs => ?_, fun _ => all'⟩
    have e : ent t j s ms = ⟨j, s, 0 :: ms⟩ := by
      unfold ent
      rw [subAt_of hr]
      rfl
    rw [e]
    exact all' 0 (Nat.two_pow_pos _) s hs
theorem hv_all {W : Wd} {t : F} (G : W.Good) (hc : Closed t) : ∀ (st : Stk) (j : Nat) (r : Rec) (ms : List Nat), (infos t)[j]? = some r → r.stk = st → ms.length = st.length → (∀ m ∈ ms, m < 2 ^ W.n) → HV W t st ms
  | [], _, _, _, _, _, _, _ => trivial
  | _ :: _, _, _, [], _, _, _, _ => trivial
  | (y, q) :: rest, j, r, m :: ms, hr, e, hl, hb => by
    obtain ⟨hq, k, f, a, h2, h3⟩ := infos_stk j j r y q rest (Nat.le_refl _) hr e
    have hl' : ms.length = rest.length := Nat.succ.inj hl
    have ih := hv_all G hc rest q _ ms h2 rfl hl' fun m2 h => hb m2 (List.mem_cons_of_mem _ h)
    exact ⟨fun s hs => (fin_part G hc _ q _ h2 rfl ms hl' (fun m2 h => hb m2 (List.mem_cons_of_mem _ h)) ih).2 h3 m (hb m List.mem_cons_self) s hs, ih⟩
theorem vq_fin {W : Wd} {t : F} (G : W.Good) (hc : Closed t) {q : Qn} (v : Vq W t q) : Fin' W t q := by
  obtain ⟨j, s, ms⟩ := q
  obtain ⟨vp, vs, vl, vb⟩ := v
  simp only at vp vs vl vb
  obtain ⟨r, hr⟩ := rec_at vp
  unfold depB at vl
  rw [subAt_of hr, stkAt_of hr] at vl
  cases hb : isB r.sub with
  | true =>
    rw [hb, if_pos rfl] at vl
    obtain ⟨m, ms', rfl⟩ : ∃ m ms', ms = m :: ms' := by
      cases ms with
      | nil => simp at vl
      | cons m ms' => exact ⟨m, ms', rfl⟩
    have vl' : ms'.length = r.stk.length := by simpa using vl
    have vb' : ∀ m2 ∈ ms', m2 < 2 ^ W.n := fun m2 h => vb m2 (List.mem_cons_of_mem _ h)
    exact (fin_part G hc _ j r hr rfl ms' vl' vb' (hv_all G hc r.stk j r ms' hr rfl vl' vb')).2 hb m (vb m List.mem_cons_self) s vs
  | false =>
    rw [hb, if_neg Bool.false_ne_true] at vl
    have := (fin_part G hc _ j r hr rfl ms vl vb (hv_all G hc r.stk j r ms hr rfl vl vb)).1 s vs
    have e : ent t j s ms = ⟨j, s, ms⟩ := by
      unfold ent
      rw [subAt_of hr, hb]
      rfl
    rwa [e] at this
theorem lvl_least {W : Wd} {t : F} {q : Qn} : ∀ N, Lvl W t N q → ∃ M, Lvl W t M q ∧ ∀ K, Lvl W t K q → M ≤ K := fun N => by
  induction N with
  | zero => exact fun h => ⟨0, h, fun _ _ => Nat.zero_le _⟩
  | succ N ih =>
    intro h
    by_cases c : Lvl W t N q
    · exact ih c
    · refine ⟨N + 1, h, fun K hK => Classical.byContradiction fun no => c (hK.mono (by omega))⟩
open Classical in
noncomputable def rk (W : Wd) (t : F) (q : Qn) : Nat := if h : ∃ M, Lvl W t M q ∧ ∀ K, Lvl W t K q → M ≤ K then h.choose else 0
theorem rk_lt {W : Wd} {t : F} (G : W.Good) (hc : Closed t) {q q' : Qn} (v : Vq W t q) (h : q' ∈ (onw W t q).2) : rk W t q' < rk W t q := by
  have v' := (onw_ok G hc v).2 q' h
  have a : ∃ M, Lvl W t M q ∧ ∀ K, Lvl W t K q → M ≤ K := (vq_fin G hc v).elim lvl_least
  have b : ∃ M, Lvl W t M q' ∧ ∀ K, Lvl W t K q' → M ≤ K := (vq_fin G hc v').elim lvl_least
  have ra : rk W t q = a.choose := dif_pos a
  have rb : rk W t q' = b.choose := dif_pos b
  obtain ⟨a1, a2⟩ := a.choose_spec
  obtain ⟨b1, b2⟩ := b.choose_spec
  rw [ra, rb]
  cases e : a.choose with
  | zero => rw [e] at a1; exact a1.elim
  | succ k =>
    rw [e] at a1
    exact Nat.lt_succ_of_le (b2 k (a1 q' h))
/-- one after another, the last asked first -/
def Chn (W : Wd) (t : F) : List Qn → Prop
  | a :: b :: r => a ∈ (onw W t b).2 ∧ Chn W t (b :: r)
  | _ => True
theorem chn_up {W : Wd} {t : F} (G : W.Good) (hc : Closed t) : ∀ {S : List Qn}, (∀ q ∈ S, Vq W t q) → Chn W t S → S.Pairwise fun a b => rk W t a < rk W t b
  | [], _, _ => .nil
  | [a], _, _ => List.pairwise_singleton _ _
  | a :: b :: r, v, c => by
    have ih := chn_up G hc (S := b :: r) (fun q h => v q (List.mem_cons_of_mem _ h)) c.2
    have lt := rk_lt G hc (v b (by simp)) c.1
    refine List.pairwise_cons.mpr ⟨fun z hz => ?_, ih⟩
    rcases List.mem_cons.mp hz with rfl | hz
    · exact lt
    · exact Nat.lt_trans lt ((List.pairwise_cons.mp ih).1 z hz)
theorem chn_nodup {W : Wd} {t : F} (G : W.Good) (hc : Closed t) {S : List Qn} (v : ∀ q ∈ S, Vq W t q) (c : Chn W t S) : S.Nodup :=
  (chn_up G hc v c).imp fun {a b} h e => by rw [e] at h; exact Nat.lt_irrefl _ h
/-! ### how many -/
theorem info_dep : ∀ (t : F) (a : Int) (i : Nat) (st : Stk) (j : Nat) (r : Rec), (info t a i st)[j]? = some r → r.stk.length + r.sub.depth ≤ st.length + t.depth
  | .nul b, a, i, st, j, r, h => by
    cases j with
    | zero => cases h; exact Nat.le_refl _
    | succ j => simp [info] at h
  | .leaf k n, a, i, st, j, r, h => by
    cases j with
    | zero => cases h; exact Nat.le_refl _
    | succ j => simp [info] at h
  | .two b f g, a, i, st, j, r, h => by
    cases j with
    | zero => cases h; exact Nat.le_refl _
    | succ j =>
      simp only [info, List.getElem?_cons_succ] at h
      have d : (F.two b f g).depth = max f.depth g.depth + 1 := rfl
      by_cases lt : j < f.size
      · rw [List.getElem?_append_left (by rw [info_len]; exact lt)] at h
        have := info_dep f _ _ _ _ _ h
        omega
      · rw [List.getElem?_append_right (by rw [info_len]; omega)] at h
        have := info_dep g _ _ _ _ _ h
        omega
  | .one k n f, a, i, st, j, r, h => by
    cases j with
    | zero => cases h; exact Nat.le_refl _
    | succ j =>
      simp only [info, List.getElem?_cons_succ] at h
      have d : (F.one k n f).depth = f.depth + 1 := rfl
      have := info_dep f _ _ _ _ _ h
      split at this
      · rw [List.length_cons] at this; omega
      · omega
theorem vq_len {W : Wd} {t : F} {q : Qn} (v : Vq W t q) : q.ms.length + 1 ≤ t.depth := by
  obtain ⟨r, hr⟩ := rec_at v.pl
  have := info_dep t (-1) 0 [] q.pl r hr
  have l := v.len
  unfold depB at l
  rw [subAt_of hr, stkAt_of hr] at l
  have d0 : 1 ≤ r.sub.depth := by cases r.sub <;> simp [F.depth]
  have d1 : isB r.sub = true → 2 ≤ r.sub.depth := by
    cases r.sub with
    | one k n f =>
      intro _
      have : 1 ≤ f.depth := by cases f <;> simp [F.depth]
      simp only [F.depth]
      omega
    | nul b => intro h; cases h
    | leaf k n => intro h; cases h
    | two b f g => intro h; cases h
  simp only [List.length_nil, Nat.zero_add] at this
  split at l
  · rename_i c
    have := d1 c
    omega
  · omega
def tups (B : Nat) : Nat → List (List Nat)
  | 0 => [[]]
  | k + 1 => (List.range B).flatMap fun m => (tups B k).map (m :: ·)
theorem flat_len {α β : Type} {f : α → List β} {b : Nat} : ∀ {l : List α}, (∀ x ∈ l, (f x).length ≤ b) → (l.flatMap f).length ≤ l.length * b
  | [], _ => by simp
  | a :: l, h => by
    have ih := flat_len (l := l) fun x hx => h x (List.mem_cons_of_mem _ hx)
    have := h a List.mem_cons_self
    rw [List.flatMap_cons, List.length_append, List.length_cons, Nat.succ_mul]
    omega
theorem tups_len (B : Nat) : ∀ k, (tups B k).length ≤ B ^ k
  | 0 => Nat.le_refl _
  | k + 1 => by
    have := flat_len (l := List.range B) (f := fun m => (tups B k).map (m :: ·)) (b := B ^ k) fun x _ => by rw [List.length_map]; exact tups_len B k
    rw [List.length_range] at this
    rw [Nat.pow_succ, Nat.mul_comm]
    exact this
theorem mem_tups {B : Nat} : ∀ {ms : List Nat}, (∀ m ∈ ms, m < B) → ms ∈ tups B ms.length
  | [], _ => by simp [tups]
  | m :: ms, h => List.mem_flatMap.mpr ⟨m, List.mem_range.mpr (h m List.mem_cons_self), List.mem_map.mpr ⟨ms, mem_tups fun m2 h2 => h m2 (List.mem_cons_of_mem _ h2), rfl⟩⟩
def allQ (sz n L : Nat) : List Qn := (List.range sz).flatMap fun j => (List.range n).flatMap fun s => (List.range (L + 1)).flatMap fun k => (tups (2 ^ n) k).map fun ms => ⟨j, s, ms⟩
theorem mem_allQ {W : Wd} {t : F} {q : Qn} {L : Nat} (v : Vq W t q) (hL : t.depth ≤ L + 1) : q ∈ allQ t.size W.n L := by
  have := vq_len v
  refine List.mem_flatMap.mpr ⟨q.pl, List.mem_range.mpr v.pl, List.mem_flatMap.mpr ⟨q.st, List.mem_range.mpr v.st, List.mem_flatMap.mpr ⟨q.ms.length, List.mem_range.mpr (by omega), List.mem_map.mpr ⟨q.ms, mem_tups v.bd, rfl⟩⟩⟩⟩
theorem allQ_len {sz n : Nat} (hs : sz ≤ 15) (hn : n ≤ 4) : (allQ sz n 3).length ≤ 983040 := by
  have h3 : ∀ k ∈ List.range (3 + 1), (tups (2 ^ n) k).length ≤ 4096 := fun k hk => by
    have hk' : k ≤ 3 := by have := List.mem_range.mp hk; omega
    refine Nat.le_trans (tups_len _ _) ?_
    have a : (2 ^ n) ^ k ≤ (2 ^ 4) ^ k := Nat.pow_le_pow_left (Nat.pow_le_pow_right (by decide) hn) k
    have b : (2 ^ 4) ^ k ≤ (2 ^ 4) ^ 3 := Nat.pow_le_pow_right (by decide) hk'
    exact Nat.le_trans a (Nat.le_trans b (by decide))
  have h2 : ∀ (j s : Nat), ((List.range (3 + 1)).flatMap fun k => (tups (2 ^ n) k).map fun ms => (⟨j, s, ms⟩ : Qn)).length ≤ 16384 := fun j s => by
    have := flat_len (l := List.range (3 + 1)) (f := fun k => (tups (2 ^ n) k).map fun ms => (⟨j, s, ms⟩ : Qn)) (b := 4096) fun k hk => by rw [List.length_map]; exact h3 k hk
    rw [List.length_range] at this
    omega
  have h1 : ∀ j ∈ List.range sz, ((List.range n).flatMap fun s => (List.range (3 + 1)).flatMap fun k => (tups (2 ^ n) k).map fun ms => (⟨j, s, ms⟩ : Qn)).length ≤ 65536 := fun j _ => by
    have := flat_len (l := List.range n) (f := fun s => (List.range (3 + 1)).flatMap fun k => (tups (2 ^ n) k).map fun ms => (⟨j, s, ms⟩ : Qn)) (b := 16384) fun s _ => h2 j s
    rw [List.length_range] at this
    omega
  have := flat_len (l := List.range sz) h1
  rw [List.length_range] at this
  unfold allQ
  omega
theorem nodup_leG {α : Type} [DecidableEq α] : ∀ {l Vs : List α}, l.Nodup → (∀ x ∈ l, x ∈ Vs) → l.length ≤ Vs.length
  | [], Vs, _, _ => Nat.zero_le _
  | a :: l, Vs, nd, h => by
    have nd' := List.nodup_cons.mp nd
    have ha := h a List.mem_cons_self
    have ih := nodup_leG (Vs := Vs.erase a) nd'.2 fun x hx =>
      (List.mem_erase_of_ne (fun e => nd'.1 (by rw [← e]; exact hx))).mpr (h x (List.mem_cons_of_mem _ hx))
    have := List.length_erase_of_mem ha
    have : 0 < Vs.length := List.length_pos_of_mem ha
    rw [List.length_cons]
    omega
end Fw

set_option maxRecDepth 100000
set_option maxHeartbeats 2000000
namespace Fw
open PySem PySem.Spec PyProof.Rows L2
/-! ### the text by places -/
def top (i : Nat) : Stmt := PySem.Challenge.pw_fixworlds_k35_local_truth.main.body.getD i (.Pass ⟨0, 0, 0, 0⟩)
abbrev s_mask_of : Stmt := top 1
abbrev s_Part_init : Stmt := inClass (top 6) 0
abbrev s_head_of : Stmt := top 7
abbrev s_parts_of : Stmt := top 8
abbrev s_nearest_around : Stmt := top 9
abbrev s_binder_places : Stmt := top 10
abbrev s_free_variables : Stmt := top 16
abbrev s_ensure_closed : Stmt := top 17
abbrev s_is_number : Stmt := top 19
abbrev s_ascends : Stmt := top 20
abbrev s_World_init : Stmt := inClass (top 25) 0
abbrev s_check_numbers : Stmt := top 26
abbrev s_check_states : Stmt := top 27
abbrev s_check_steps : Stmt := top 28
abbrev s_ends_of : Stmt := top 29
abbrev s_followers : Stmt := top 30
abbrev s_Questions_init : Stmt := inClass (top 32) 0
abbrev s_Questions_entered : Stmt := inClass (top 32) 1
abbrev s_Questions_answer : Stmt := inClass (top 32) 2
abbrev s_Questions__onward : Stmt := inClass (top 32) 3
abbrev s_Questions__bound : Stmt := inClass (top 32) 4
abbrev s_is_true_at : Stmt := top 33
abbrev s_is_true_without : Stmt := top 34
abbrev s_law_draws : Stmt := top 36
abbrev s_law_take : Stmt := top 37
abbrev s_law_atom : Stmt := top 38
abbrev s_law_statement : Stmt := top 39
abbrev s_law_closed : Stmt := top 40
abbrev s_law_bound : Stmt := top 41
abbrev s_law_world : Stmt := top 42
abbrev s_law_made : Stmt := top 43
abbrev s_law_behind : Stmt := top 44
abbrev s_law_value : Stmt := top 45
abbrev s_law_truth : Stmt := top 46
abbrev s_law_without : Stmt := top 47
abbrev s_law_binders : Stmt := top 48
abbrev s_law : Stmt := top 49
abbrev n_mask_of : List Str := ["states", "mask", "state"]
abbrev a_mask_of : List Str := ["states"]
theorem sc_mask_of : FnScope n_mask_of a_mask_of (defScope s_mask_of) := ⟨rfl, rfl, rfl, by decide +kernel, rfl, by decide +kernel, by decide +kernel⟩
abbrev n_Part_init : List Str := ["self", "head", "around"]
abbrev a_Part_init : List Str := ["self", "head", "around"]
theorem sc_Part_init : FnScope n_Part_init a_Part_init (defScope s_Part_init) := ⟨rfl, rfl, rfl, by decide +kernel, rfl, by decide +kernel, by decide +kernel⟩
abbrev n_head_of : List Str := ["statement"]
abbrev a_head_of : List Str := ["statement"]
theorem sc_head_of : FnScope n_head_of a_head_of (defScope s_head_of) := ⟨rfl, rfl, rfl, by decide +kernel, rfl, by decide +kernel, by decide +kernel⟩
abbrev n_parts_of : List Str := ["statement", "parts", "waiting", "told", "around", "head", "at", "within"]
abbrev a_parts_of : List Str := ["statement"]
theorem sc_parts_of : FnScope n_parts_of a_parts_of (defScope s_parts_of) := ⟨rfl, rfl, rfl, by decide +kernel, rfl, by decide +kernel, by decide +kernel⟩
abbrev n_nearest_around : List Str := ["parts", "words", "nearest", "part", "around"]
abbrev a_nearest_around : List Str := ["parts", "words"]
theorem sc_nearest_around : FnScope n_nearest_around a_nearest_around (defScope s_nearest_around) := ⟨rfl, rfl, rfl, by decide +kernel, rfl, by decide +kernel, by decide +kernel⟩
abbrev n_binder_places : List Str := ["parts", "nearest", "places", "at", "part", "place"]
abbrev a_binder_places : List Str := ["parts"]
theorem sc_binder_places : FnScope n_binder_places a_binder_places (defScope s_binder_places) := ⟨rfl, rfl, rfl, by decide +kernel, rfl, by decide +kernel, by decide +kernel⟩
abbrev n_free_variables : List Str := ["statement", "parts", "places", "part", "place"]
abbrev a_free_variables : List Str := ["statement"]
theorem sc_free_variables : FnScope n_free_variables a_free_variables (defScope s_free_variables) := ⟨rfl, rfl, rfl, by decide +kernel, rfl, by decide +kernel, by decide +kernel⟩
abbrev n_ensure_closed : List Str := ["statement"]
abbrev a_ensure_closed : List Str := ["statement"]
theorem sc_ensure_closed : FnScope n_ensure_closed a_ensure_closed (defScope s_ensure_closed) := ⟨rfl, rfl, rfl, by decide +kernel, rfl, by decide +kernel, by decide +kernel⟩
abbrev n_is_number : List Str := ["value", "least", "greatest"]
abbrev a_is_number : List Str := ["value", "least", "greatest"]
theorem sc_is_number : FnScope n_is_number a_is_number (defScope s_is_number) := ⟨rfl, rfl, rfl, by decide +kernel, rfl, by decide +kernel, by decide +kernel⟩
abbrev n_ascends : List Str := ["row", "low", "high"]
abbrev a_ascends : List Str := ["row"]
theorem sc_ascends : FnScope n_ascends a_ascends (defScope s_ascends) := ⟨rfl, rfl, rfl, by decide +kernel, rfl, by decide +kernel, by decide +kernel⟩
abbrev n_World_init : List Str := ["self", "labels", "facts", "states", "steps", "row", "step"]
abbrev a_World_init : List Str := ["self", "labels", "facts", "states", "steps"]
theorem sc_World_init : FnScope n_World_init a_World_init (defScope s_World_init) := ⟨rfl, rfl, rfl, by decide +kernel, rfl, by decide +kernel, by decide +kernel⟩
abbrev n_check_numbers : List Str := ["labels", "facts"]
abbrev a_check_numbers : List Str := ["labels", "facts"]
theorem sc_check_numbers : FnScope n_check_numbers a_check_numbers (defScope s_check_numbers) := ⟨rfl, rfl, rfl, by decide +kernel, rfl, by decide +kernel, by decide +kernel⟩
abbrev n_check_states : List Str := ["world", "row", "fact"]
abbrev a_check_states : List Str := ["world"]
theorem sc_check_states : FnScope n_check_states a_check_states (defScope s_check_states) := ⟨rfl, rfl, rfl, by decide +kernel, rfl, by decide +kernel, by decide +kernel⟩
abbrev n_check_steps : List Str := ["world", "greatest", "step"]
abbrev a_check_steps : List Str := ["world"]
theorem sc_check_steps : FnScope n_check_steps a_check_steps (defScope s_check_steps) := ⟨rfl, rfl, rfl, by decide +kernel, rfl, by decide +kernel, by decide +kernel⟩
abbrev n_ends_of : List Str := ["steps", "ends", "start", "label", "end"]
abbrev a_ends_of : List Str := ["steps"]
theorem sc_ends_of : FnScope n_ends_of a_ends_of (defScope s_ends_of) := ⟨rfl, rfl, rfl, by decide +kernel, rfl, by decide +kernel, by decide +kernel⟩
abbrev n_followers : List Str := ["world", "state", "label"]
abbrev a_followers : List Str := ["world", "state", "label"]
theorem sc_followers : FnScope n_followers a_followers (defScope s_followers) := ⟨rfl, rfl, rfl, by decide +kernel, rfl, by decide +kernel, by decide +kernel⟩
abbrev n_Questions_init : List Str := ["self", "world", "statement", "part", "nearest", "depth"]
abbrev a_Questions_init : List Str := ["self", "world", "statement"]
theorem sc_Questions_init : FnScope n_Questions_init a_Questions_init (defScope s_Questions_init) := ⟨rfl, rfl, rfl, by decide +kernel, rfl, by decide +kernel, by decide +kernel⟩
abbrev n_Questions_entered : List Str := ["self", "place", "state", "sets"]
abbrev a_Questions_entered : List Str := ["self", "place", "state", "sets"]
theorem sc_Questions_entered : FnScope n_Questions_entered a_Questions_entered (defScope s_Questions_entered) := ⟨rfl, rfl, rfl, by decide +kernel, rfl, by decide +kernel, by decide +kernel⟩
abbrev n_Questions_answer : List Str := ["self", "question", "waiting", "deciding", "needed", "found", "each"]
abbrev a_Questions_answer : List Str := ["self", "question"]
theorem sc_Questions_answer : FnScope n_Questions_answer a_Questions_answer (defScope s_Questions_answer) := ⟨rfl, rfl, rfl, by decide +kernel, rfl, by decide +kernel, by decide +kernel⟩
abbrev n_Questions__onward : List Str := ["self", "question", "place", "state", "sets", "part", "word", "binder", "states", "needed", "each", "inner"]
abbrev a_Questions__onward : List Str := ["self", "question"]
theorem sc_Questions__onward : FnScope n_Questions__onward a_Questions__onward (defScope s_Questions__onward) := ⟨rfl, rfl, rfl, by decide +kernel, rfl, by decide +kernel, by decide +kernel⟩
abbrev n_Questions__bound : List Str := ["self", "part", "state", "sets"]
abbrev a_Questions__bound : List Str := ["self", "part", "state", "sets"]
theorem sc_Questions__bound : FnScope n_Questions__bound a_Questions__bound (defScope s_Questions__bound) := ⟨rfl, rfl, rfl, by decide +kernel, rfl, by decide +kernel, by decide +kernel⟩
abbrev n_is_true_at : List Str := ["world", "statement", "state", "questions"]
abbrev a_is_true_at : List Str := ["world", "statement", "state"]
theorem sc_is_true_at : FnScope n_is_true_at a_is_true_at (defScope s_is_true_at) := ⟨rfl, rfl, rfl, by decide +kernel, rfl, by decide +kernel, by decide +kernel⟩
abbrev n_is_true_without : List Str := ["world", "statement", "state", "states"]
abbrev a_is_true_without : List Str := ["world", "statement", "state", "states"]
theorem sc_is_true_without : FnScope n_is_true_without a_is_true_without (defScope s_is_true_without) := ⟨rfl, rfl, rfl, by decide +kernel, rfl, by decide +kernel, by decide +kernel⟩
abbrev n_law_draws : List Str := ["script", "count", "cells", "found", "mixed", "k", "j", "cell", "again"]
abbrev a_law_draws : List Str := ["script", "count"]
theorem sc_law_draws : FnScope n_law_draws a_law_draws (defScope s_law_draws) := ⟨rfl, rfl, rfl, by decide +kernel, rfl, by decide +kernel, by decide +kernel⟩
abbrev n_law_take : List Str := ["draws", "limit"]
abbrev a_law_take : List Str := ["draws", "limit"]
theorem sc_law_take : FnScope n_law_take a_law_take (defScope s_law_take) := ⟨rfl, rfl, rfl, by decide +kernel, rfl, by decide +kernel, by decide +kernel⟩
abbrev n_law_atom : List Str := ["draws", "ready", "kind"]
abbrev a_law_atom : List Str := ["draws", "ready"]
theorem sc_law_atom : FnScope n_law_atom a_law_atom (defScope s_law_atom) := ⟨rfl, rfl, rfl, by decide +kernel, rfl, by decide +kernel, by decide +kernel⟩
abbrev n_law_statement : List Str := ["draws", "depth", "waiting", "ready", "loose", "kind", "first", "label", "variable", "later", "usable", "other"]
abbrev a_law_statement : List Str := ["draws", "depth", "waiting", "ready", "loose"]
theorem sc_law_statement : FnScope n_law_statement a_law_statement (defScope s_law_statement) := ⟨rfl, rfl, rfl, by decide +kernel, rfl, by decide +kernel, by decide +kernel⟩
abbrev n_law_closed : List Str := ["draws", "depth"]
abbrev a_law_closed : List Str := ["draws", "depth"]
theorem sc_law_closed : FnScope n_law_closed a_law_closed (defScope s_law_closed) := ⟨rfl, rfl, rfl, by decide +kernel, rfl, by decide +kernel, by decide +kernel⟩
abbrev n_law_bound : List Str := ["draws", "depth", "kind", "variable"]
abbrev a_law_bound : List Str := ["draws", "depth"]
theorem sc_law_bound : FnScope n_law_bound a_law_bound (defScope s_law_bound) := ⟨rfl, rfl, rfl, by decide +kernel, rfl, by decide +kernel, by decide +kernel⟩
abbrev n_law_world : List Str := ["draws", "most", "facts", "size", "state", "states", "steps", "label", "other", "fact"]
abbrev a_law_world : List Str := ["draws", "most", "facts"]
theorem sc_law_world : FnScope n_law_world a_law_world (defScope s_law_world) := ⟨rfl, rfl, rfl, by decide +kernel, rfl, by decide +kernel, by decide +kernel⟩
abbrev n_law_made : List Str := ["world", "labels", "facts", "state"]
abbrev a_law_made : List Str := ["world", "labels", "facts"]
theorem sc_law_made : FnScope n_law_made a_law_made (defScope s_law_made) := ⟨rfl, rfl, rfl, by decide +kernel, rfl, by decide +kernel, by decide +kernel⟩
abbrev n_law_behind : List Str := ["world", "state", "label", "step"]
abbrev a_law_behind : List Str := ["world", "state", "label"]
theorem sc_law_behind : FnScope n_law_behind a_law_behind (defScope s_law_behind) := ⟨rfl, rfl, rfl, by decide +kernel, rfl, by decide +kernel, by decide +kernel⟩
abbrev n_law_value : List Str := ["world", "statement", "sets", "states", "kind", "now", "turn", "inner", "name", "first", "second", "state", "k"]
abbrev a_law_value : List Str := ["world", "statement", "sets"]
theorem sc_law_value : FnScope n_law_value a_law_value (defScope s_law_value) := ⟨rfl, rfl, rfl, by decide +kernel, rfl, by decide +kernel, by decide +kernel⟩
abbrev n_law_truth : List Str := ["world", "statement"]
abbrev a_law_truth : List Str := ["world", "statement"]
theorem sc_law_truth : FnScope n_law_truth a_law_truth (defScope s_law_truth) := ⟨rfl, rfl, rfl, by decide +kernel, rfl, by decide +kernel, by decide +kernel⟩
abbrev n_law_without : List Str := ["world", "binder", "states", "size", "now", "turn", "after", "state"]
abbrev a_law_without : List Str := ["world", "binder", "states"]
theorem sc_law_without : FnScope n_law_without a_law_without (defScope s_law_without) := ⟨rfl, rfl, rfl, by decide +kernel, rfl, by decide +kernel, by decide +kernel⟩
abbrev n_law_binders : List Str := ["statement", "inner", "part"]
abbrev a_law_binders : List Str := ["statement"]
theorem sc_law_binders : FnScope n_law_binders a_law_binders (defScope s_law_binders) := ⟨rfl, rfl, rfl, by decide +kernel, rfl, by decide +kernel, by decide +kernel⟩
abbrev n_law : List Str := ["script", "draws", "world", "made", "statement", "binder", "state", "states", "good", "found", "due"]
abbrev a_law : List Str := ["script"]
theorem sc_law : FnScope n_law a_law (defScope s_law) := ⟨rfl, rfl, rfl, by decide +kernel, rfl, by decide +kernel, by decide +kernel⟩
/-! ### calls -/
def Has (P : Program) (w : World) (K : PySem.W.Frag) (mg : Str → Option Value) (base : Heap) (x : Str) (k : Nat) (ps : List Str) (sp : Sp) : Prop :=
  ∃ f fd, mg x = some (.ref f) ∧ PySem.W.keepIn K (.ref f) = true ∧ Binds K fd ps [] ∧ FnOk P w K mg base CX0 k f fd ps sp
theorem pe_callH {X : Cx} {x : Str} {k : Nat} {ps : List Str} {sp : Sp} {e : Expr} {es : List Expr} {t : TA} {p pos : Pos} (h : Has X.prog X.w X.K X.mg X.base x k ps sp) (hr : Room k X.A) (ha : PA X (e :: es) t) (hg : Gl X x := by rfl)
    (hdb : (x == ("__debug__" : Str)) = false := by decide) (he : starEach (e :: es) X.env = (false, eval e X.env) :: starEach es X.env := by rfl) (hpl : (backTo pos (starEach es X.env)).any (·.1) = false := by rfl) :
    PE X (.Call (.Name x p) (e :: es) [] pos) (tCall sp [] E0 t) := by
  obtain ⟨f, fd, m, kp, b, G⟩ := h
  exact pe_call G hr hg m kp b .nil pass0 ha hdb he hpl
/-- .. of a def that may raise -/
def HasX (P : Program) (w : World) (K : PySem.W.Frag) (mg : Str → Option Value) (base : Heap) (x : Str) (k : Nat) (ps : List Str) (sp : Sp) : Prop :=
  ∃ f fd, mg x = some (.ref f) ∧ PySem.W.keepIn K (.ref f) = true ∧ Binds K fd ps [] ∧ FnOk P w K mg base (L2.CX P w) k f fd ps sp
theorem pe_callX {X : Cx} {W : WX} {x : Str} {k : Nat} {ps : List Str} {sp : Sp} {e : Expr} {es : List Expr} {t : TA} {p pos : Pos} (h : HasX X.prog X.w X.K X.mg X.base x k ps sp) (hr : Room k X.A) (tk : Takes X W) (ha : PA X (e :: es) t) (hg : Gl X x := by rfl)
    (hdb : (x == ("__debug__" : Str)) = false := by decide) (he : starEach (e :: es) X.env = (false, eval e X.env) :: starEach es X.env := by rfl) (hpl : (backTo pos (starEach es X.env)).any (·.1) = false := by rfl) :
    PE X (.Call (.Name x p) (e :: es) [] pos) (tCallS sp (WE W) t) := by
  obtain ⟨f, fd, m, kp, b, G⟩ := h
  exact pe_callS G hr hg m kp b (fun σ => passAt tk σ) ha hdb he hpl
theorem pe_callL {X : Cx} {x : Str} {k : Nat} {ps : List Str} {sp : Sp} {e : Expr} {es : List Expr} {t : TA} {p pos : Pos} (h : HasX X.prog X.w X.K X.mg X.base x k ps sp) (hr : Room k X.A) (ha : PA X (e :: es) t) (hg : Gl X x := by rfl)
    (hdb : (x == ("__debug__" : Str)) = false := by decide) (he : starEach (e :: es) X.env = (false, eval e X.env) :: starEach es X.env := by rfl) (hpl : (backTo pos (starEach es X.env)).any (·.1) = false := by rfl) :
    PE X (.Call (.Name x p) (e :: es) [] pos) (tCall sp [] E0 t) := by
  obtain ⟨f, fd, m, kp, b, G⟩ := h
  exact pe_call G hr hg m kp b .nil passL ha hdb he hpl
theorem pss_when {X : Cx} {sts : List Stmt} {t : TS} {p : Prop} (h : p → PSs X sts t) : PSs X sts (fun D σ H => p ∧ t D σ H) :=
  ⟨fun pins s σ H D I q => (h q.1).run pins s σ H D I q.2⟩
def HasC (P : Program) (w : World) (K : PySem.W.Frag) (mg : Str → Option Value) (base : Heap) (x : Str) (C : Addr) (k : Nat) (ps : List Str) (sp : Sp) : Prop :=
  ∃ f fd, mg x = some (.ref C) ∧ Mk K C f ∧ Binds K fd ps [] ∧ FnOk P w K mg base CX0 k f fd ps sp
theorem pe_makeH {X : Cx} {x : Str} {C : Addr} {k : Nat} {ps : List Str} {sp : Sp} {e : Expr} {es : List Expr} {t : TA} {p pos : Pos} (h : HasC X.prog X.w X.K X.mg X.base x C k ps sp) (hr : Room (k + 1) X.A) (ha : PA X (e :: es) t) (hg : Gl X x := by rfl)
    (hdb : (x == ("__debug__" : Str)) = false := by decide) (he : starEach (e :: es) X.env = (false, eval e X.env) :: starEach es X.env := by rfl) (hpl : (backTo pos (starEach es X.env)).any (·.1) = false := by rfl) :
    PE X (.Call (.Name x p) (e :: es) [] pos) (tMake C sp [] E0 t) := by
  obtain ⟨f, fd, m, M, b, G⟩ := h
  exact pe_make M G hr hg m b .nil pass0 ha hdb he hpl
/-! ### statements in memory -/
def wN (b : Bool) : Str := if b then "true" else "false"
def wT (b : Bool) : Str := if b then "and" else "or"
def wL : Leaf → Str
  | .has => "has"
  | .lacks => "lacks"
  | .var => "var"
def wO : One → Str
  | .some => "some"
  | .all => "all"
  | .least => "least"
  | .most => "most"
def hv : Hd → List V
  | .nul b => [.str (wN b)]
  | .leaf k n => [.str (wL k), .int n]
  | .two b => [.str (wT b)]
  | .one k n => [.str (wO k), .int n]
def hw : Hd → Str
  | .nul b => wN b
  | .leaf k _ => wL k
  | .two b => wT b
  | .one k _ => wO k
inductive IsF (K : PySem.W.Frag) (H : Hp) : V → F → Prop
  | nul {a : Addr} {b : Bool} : SqT K H a (hv (.nul b)) → IsF K H (.ref a) (.nul b)
  | leaf {a : Addr} {k : Leaf} {n : Int} : SqT K H a (hv (.leaf k n)) → IsF K H (.ref a) (.leaf k n)
  | two {a : Addr} {b : Bool} {x y : V} {f g : F} : SqT K H a (hv (.two b) ++ [x, y]) → IsF K H x f → IsF K H y g → IsF K H (.ref a) (.two b f g)
  | one {a : Addr} {k : One} {n : Int} {x : V} {f : F} : SqT K H a (hv (.one k n) ++ [x]) → IsF K H x f → IsF K H (.ref a) (.one k n f)
/-- all but what stands at d is as it was -/
def But (d : Addr) (H H' : Hp) : Prop := ∀ b o, b ≠ d → H b = some o → H' b = some o
theorem Same.but {d : Addr} {H H' : Hp} (s : Same H H') : But d H H' := fun b o _ e => s b o e
theorem But.refl (d : Addr) (H : Hp) : But d H H := fun _ _ _ e => e
theorem But.trans {d : Addr} {H H1 H2 : Hp} (a : But d H H1) (b : But d H1 H2) : But d H H2 := fun c o n e => b c o n (a c o n e)
theorem But.upd {d : Addr} {H : Hp} {o : HO} : But d H (upd H d o) := fun b u n e => by rw [upd_ne n]; exact e
theorem Same.new {H : Hp} {p : Addr} {o : HO} (h : H p = none) : Same H (upd H p o) := fun b u e => by rw [upd_ne (ne_of_none e h)]; exact e
theorem SqT.keepAt {K : PySem.W.Frag} {H H' : Hp} {a : Addr} {xs : List V} (k : ∀ o, H a = some o → H' a = some o) (h : SqT K H a xs) : SqT K H' a xs := by
  rcases h with h | h
  · rcases h with h | ⟨u, h⟩
    · exact .inl (.inl (k _ h))
    · exact .inl (.inr ⟨u, k _ h⟩)
  · exact .inr h
theorem SqL.keepAt {K : PySem.W.Frag} {H H' : Hp} {a : Addr} {xs : List V} (k : ∀ o, H a = some o → H' a = some o) (h : SqL K H a xs) : SqL K H' a xs := by
  rcases h with h | h
  · rcases h with h | ⟨u, h⟩
    · exact .inl (.inl (k _ h))
    · exact .inl (.inr ⟨u, k _ h⟩)
  · exact .inr h
theorem SqT.same {K : PySem.W.Frag} {H H' : Hp} {a : Addr} {xs : List V} (s : Same H H') (h : SqT K H a xs) : SqT K H' a xs := SqT.keepAt (fun o e => s a o e) h
/-- what stands at d is a list: tuples are elsewhere -/
def IsLst (H : Hp) (d : Addr) : Prop := ∃ xs, H d = some (.lst xs)
theorem SqT.but {K : PySem.W.Frag} {H H' : Hp} {a d : Addr} {xs : List V} (hd : IsLst H d) (s : But d H H') (h : SqT K H a xs) : SqT K H' a xs := by
  rcases h with h | h
  · obtain ⟨ys, e⟩ := hd
    rcases h with h | ⟨u, h⟩
    · exact .inl (.inl (s _ _ (ne_of h e (by intro z; cases z)) h))
    · exact .inl (.inr ⟨u, s _ _ (ne_of h e (by intro z; cases z)) h⟩)
  · exact .inr h
theorem IsF.map {K : PySem.W.Frag} {H H' : Hp} (s : ∀ a xs, SqT K H a xs → SqT K H' a xs) {v : V} {t : F} (h : IsF K H v t) : IsF K H' v t := by
  induction h with
  | nul h => exact .nul (s _ _ h)
  | leaf h => exact .leaf (s _ _ h)
  | two h _ _ f g => exact .two (s _ _ h) f g
  | one h _ f => exact .one (s _ _ h) f
theorem IsF.same {K : PySem.W.Frag} {H H' : Hp} (s : Same H H') {v : V} {t : F} (h : IsF K H v t) : IsF K H' v t := h.map fun _ _ => SqT.same s
theorem IsF.but {K : PySem.W.Frag} {H H' : Hp} {d : Addr} (hd : IsLst H d) (s : But d H H') {v : V} {t : F} (h : IsF K H v t) : IsF K H' v t := h.map fun _ _ => SqT.but hd s
inductive AllF (K : PySem.W.Frag) (H : Hp) : List V → List F → Prop
  | nil : AllF K H [] []
  | cons {x : V} {f : F} {xs : List V} {fs : List F} : IsF K H x f → AllF K H xs fs → AllF K H (x :: xs) (f :: fs)
theorem IsF.open {K : PySem.W.Frag} {H : Hp} {v : V} {t : F} (h : IsF K H v t) : ∃ a ks, v = .ref a ∧ SqT K H a (hv t.hd ++ ks) ∧ AllF K H ks t.kids := by
  cases h with
  | nul h => exact ⟨_, [], rfl, by simpa [F.hd] using h, .nil⟩
  | leaf h => exact ⟨_, [], rfl, by simpa [F.hd] using h, .nil⟩
  | two h f g => exact ⟨_, _, rfl, h, .cons f (.cons g .nil)⟩
  | one h f => exact ⟨_, _, rfl, h, .cons f .nil⟩
theorem IsF.close {K : PySem.W.Frag} {H : Hp} {a : Addr} {t : F} {ks : List V} (h : SqT K H a (hv t.hd ++ ks)) (hk : AllF K H ks t.kids) : IsF K H (.ref a) t := by
  cases t with
  | nul b =>
    cases hk
    exact .nul (by simpa [F.hd] using h)
  | leaf k n =>
    cases hk
    exact .leaf (by simpa [F.hd] using h)
  | two b f g =>
    cases hk with
    | cons x hk =>
      cases hk with
      | cons y hk =>
        cases hk
        exact .two h x y
  | one k n f =>
    cases hk with
    | cons x hk =>
      cases hk
      exact .one h x
theorem hv_len (h : Hd) : (hv h).length = 1 ∨ (hv h).length = 2 := by cases h <;> simp [hv]
theorem hv_head (h : Hd) : (hv h)[0]? = some (.str (hw h)) := by cases h <;> rfl
def isTwo : Hd → Bool
  | .two _ => true
  | _ => false
theorem in_joins (h : Hd) : inV (.str (hw h)) [.str "and", .str "or"] = isTwo h := by
  cases h with
  | nul b => cases b <;> rfl
  | leaf k n => cases k <;> rfl
  | two b => cases b <;> rfl
  | one k n => cases k <;> rfl
def isBH : Hd → Bool
  | .one k _ => k.bind
  | _ => false
theorem in_binders (h : Hd) : inV (.str (hw h)) [.str "least", .str "most"] = isBH h := by
  cases h with
  | nul b => cases b <;> rfl
  | leaf k n => cases k <;> rfl
  | two b => cases b <;> rfl
  | one k n => cases k <;> rfl
/-! ### what the top has written -/
structure Txt (K : PySem.W.Frag) (mg : Str → Option Value) (C J B : Addr) : Prop where
  z_all : mg "all" = none
  z_bool : mg "bool" = none
  z_enumerate : mg "enumerate" = none
  z_int : mg "int" = none
  z_isinstance : mg "isinstance" = none
  z_len : mg "len" = none
  z_list : mg "list" = none
  z_range : mg "range" = none
  z_reversed : mg "reversed" = none
  z_sorted : mg "sorted" = none
  z_sum : mg "sum" = none
  z_tuple : mg "tuple" = none
  z_zip : mg "zip" = none
  m_JOINS : mg "JOINS" = some (.ref J)
  c_JOINS : ∀ H, SqT K H J [.str "and", .str "or"]
  m_BINDERS : mg "BINDERS" = some (.ref B)
  c_BINDERS : ∀ H, SqT K H B [.str "least", .str "most"]
  cl : Cls K C
  nH : NoAttr K C "head"
  nA : NoAttr K C "around"
  nI : NoAttr K C "inner"
/-- what it has written of the class of worlds -/
structure TxtC (K : PySem.W.Frag) (WC : Addr) : Prop where
  cl : Cls K WC
  nL : NoAttr K WC "labels"
  nF : NoAttr K WC "facts"
  nS : NoAttr K WC "states"
  nT : NoAttr K WC "steps"
  nE : NoAttr K WC "_ends"
/-- what it has written of the errors -/
structure TxtE (K : PySem.W.Frag) (mg : Str → Option Value) (NC FE : Addr) : Prop where
  gC : mg "NotClosed" = some (.ref NC)
  gF : mg "FixError" = some (.ref FE)
  xC : PySem.W.excIn K NC [.type "ValueError", .type "Exception", .type "BaseException", .type "object"] "ValueError.__new__" = true
  kC : PySem.W.keepIn K (.ref NC) = true
  bC : PySem.W.subIn K (.ref NC) (.type "BaseException") = some true
  tC : PySem.W.typeIn K (.ref NC) = some (.type "type")
  eC : PySem.W.exmOne K (.ref NC) (.ref NC) = some true
  is : ExcC K NC
  kF : PySem.W.kitOne K (.ref NC) (.ref FE) = some true
  kV : PySem.W.kitOne K (.ref NC) (.type "ValueError") = some true
def pf (h : V) (a : Int) (l : Addr) : List (Str × V) := [("head", h), ("around", .int a), ("inner", .ref l)]
theorem pf_make (h : V) (a : Int) (l : Addr) : putF "inner" (.ref l) (putF "around" (.int a) (putF "head" h [])) = pf h a l := by rfl
theorem join {c : Bool} {A : Prop} {C : Hp → Prop} {G : Hp} (Fa : Hp → Prop) (hr : ∀ G5, Fa G5 → C G5) (h1 : c = true → (∀ G5, Fa G5 → C G5) → A) (h2 : c = false → Fa G) : if c = true then A else C G := by
  cases c with
  | true => exact h1 rfl hr
  | false => exact hr _ (h2 rfl)
section
variable {P : Program} {w : World} {K : PySem.W.Frag} {mg : Str → Option Value} {base : Heap} {C J B : Addr}
/-! ### Part -/
def spPart (K : PySem.W.Frag) (C : Addr) : Sp := fun vs H Q _ => ∃ (p dx : Addr) (h : V) (a : Int), vs = [.ref p, h, .int a] ∧ H p = some (.ins C dx []) ∧
  ∀ l H', H l = none → H' p = some (.ins C dx (pf h a l)) → H' l = some (.lst []) → But p H H' → Q .non H'
theorem ok_Part {f : Addr} {fd : FuncData} (FF : Fun K "__init__" "Part.__init__" s_Part_init f fd) (T : Txt K mg C J B) : FnOk P w K mg base CX0 1 f fd a_Part_init (spPart K C) := by
  refine FF.ok sc_Part_init (fun vs H Q E h => ?_) (fun cdv A outer s H vs Q E hr h => ?_)
  · obtain ⟨p, dx, h, a, rfl, _⟩ := h
    rfl
  · obtain ⟨p, dx, h, a, rfl, hp, k⟩ := h
    refine ⟨_, (pss_cons (ps_fld (pv 0) (pv 1) rfl)
      (pss_cons (ps_fld (pv 0) (pv 2) rfl)
      (pss_one (ps_fld (pv 0) (pe_lst pa_nil) rfl)))), ?_⟩
    refine ⟨_, rfl, _, rfl, p, C, dx, [], rfl, hp, T.cl, T.nH, by show 0 < 1000; decide, ?_⟩
    refine ⟨_, rfl, _, rfl, p, C, dx, _, rfl, upd_same, T.cl, T.nA, by show 1 < 1000; decide, ?_⟩
    refine ⟨Nat.zero_le _, fun l hl => ?_⟩
    have pl : p ≠ l := fun e => by
      rw [e, upd_same] at hl
      cases hl
    refine ⟨_, rfl, p, C, dx, _, rfl, by rw [upd_ne pl, upd_same], T.cl, T.nI, by show 2 < 1000; decide, ?_⟩
    rw [upd_ne pl.symm, upd_ne pl.symm] at hl
    refine k l _ hl (by rw [upd_same, pf_make]) (by rw [upd_ne pl.symm, upd_same]) fun b o nb e => ?_
    rw [upd_ne nb, upd_ne (ne_of_none e hl), upd_ne nb, upd_ne nb]
    exact e
/-! ### head_of -/
def spHead (K : PySem.W.Frag) : Sp := fun vs H Q _ => ∃ (v : V) (t : F), vs = [v] ∧ IsF K H v t ∧ ∀ h H', Same H H' → SqT K H' h (hv t.hd) → Q (.ref h) H'
theorem ok_head_of {f : Addr} {fd : FuncData} (FF : Fun K "head_of" "head_of" s_head_of f fd) (T : Txt K mg C J B) : FnOk P w K mg base CX0 1 f fd a_head_of (spHead K) := by
  refine FF.ok sc_head_of (fun vs H Q E h => ?_) (fun cdv A outer s H vs Q E hr h => ?_)
  · obtain ⟨v, t, rfl, _⟩ := h
    rfl
  · obtain ⟨v, t, rfl, ht, k⟩ := h
    obtain ⟨a, ks, rfl, sq, ak⟩ := ht.open
    refine ⟨_, (pss_cons (ps_if (pt_cmpR op_in_seq (pe_ix ix_tup (pv 0) pe_int (fun _ _ => rfl)) (pe_glob rfl T.m_JOINS (show RelV (.ref _) _ from rfl)) (by rfl)) (pss_one (ps_ret (pe_slice sl_tupA (pv 0) po_none (po_some pe_int)))) pss_nil)
      (pss_one (ps_ret (pe_slice sl_tupA (pv 0) po_none (po_some pe_int))))), ?_⟩
    have at0 : atI (hv t.hd ++ ks) 0 = some (.str (hw t.hd)) := atI_nat (j := 0) (by rw [List.getElem?_append_left (by rcases hv_len t.hd with e | e <;> omega)]; exact hv_head _)
    refine ⟨_, rfl, a, _, _, _, rfl, rfl, sq, at0, J, _, rfl, .inr (T.c_JOINS H), rfl, rfl, _, rfl, ?_⟩
    rw [if_neg Bool.false_ne_true, in_joins]
    have both : ∀ n : Nat, cutV (hv t.hd ++ ks) none (some (n : Int)) = (hv t.hd ++ ks).take n := fun n => by
      unfold cutV
      rw [HT.sIx_none, HT.sIx_nat, List.drop_zero, Nat.sub_zero]
      rcases Nat.le_total n (hv t.hd ++ ks).length with h | h
      · rw [Nat.min_eq_left h]
      · rw [Nat.min_eq_right h, List.take_of_length_le (Nat.le_refl _), List.take_of_length_le h]
    have fin : ∀ n : Nat, (hv t.hd ++ ks).take n = hv t.hd → rSlA K (.ref a) none (some (n : Int)) H Q := fun n e => by
      refine ⟨a, _, rfl, sq, fun whole => ?_, fun _ p hp => ?_⟩
      · refine k a H (Same.refl H) ?_
        rw [← e]
        rw [HT.sIx_none, HT.sIx_nat] at whole
        rw [List.take_of_length_le (by omega)]
        exact sq
      · refine k p _ (Same.new hp) (SqT.of ?_)
        rw [upd_same, both, e]
    cases h2 : isTwo t.hd
    · refine iteF ?_
      refine ⟨_, rfl, 2, rfl, fin 2 ?_⟩
      cases t with
      | two b f g => cases h2
      | nul b =>
        cases ak
        rfl
      | leaf kd n => rfl
      | one kd n f => rfl
    · refine iteT ?_
      refine ⟨_, rfl, 1, rfl, fin 1 ?_⟩
      cases t with
      | two b f g => rfl
      | nul b => cases h2
      | leaf kd n => cases h2
      | one kd n f => cases h2
end
end Fw

set_option maxRecDepth 100000
set_option maxHeartbeats 2000000
namespace Fw
open PySem PySem.Spec PyProof.Rows L2
/-! ### parts in memory -/
/-- all but what stands at the addresses of X is as it was -/
def Kp (X : List Addr) (H H' : Hp) : Prop := ∀ b o, b ∉ X → H b = some o → H' b = some o
/-- all but lists is as it was -/
def LKp (H H' : Hp) : Prop := ∀ b o, (∀ xs, o ≠ .lst xs) → H b = some o → H' b = some o
theorem LKp.refl (H : Hp) : LKp H H := fun _ _ _ e => e
theorem LKp.trans {H H1 H2 : Hp} (a : LKp H H1) (b : LKp H1 H2) : LKp H H2 := fun c o n e => b c o n (a c o n e)
theorem LKp.same {H H' : Hp} (s : Same H H') : LKp H H' := fun b o _ e => s b o e
theorem LKp.upd {H : Hp} {d : Addr} {xs : List V} {o : HO} (h : H d = some (.lst xs)) : LKp H (upd H d o) := fun b u n e => by
  rw [upd_ne (ne_of e h (n xs))]
  exact e
theorem SqT.lk {K : PySem.W.Frag} {H H' : Hp} {a : Addr} {xs : List V} (s : LKp H H') (h : SqT K H a xs) : SqT K H' a xs := by
  rcases h with h | h
  · rcases h with h | ⟨u, h⟩
    · exact .inl (.inl (s _ _ (by intro xs z; cases z) h))
    · exact .inl (.inr ⟨u, s _ _ (by intro xs z; cases z) h⟩)
  · exact .inr h
theorem IsF.lk {K : PySem.W.Frag} {H H' : Hp} (s : LKp H H') {v : V} {t : F} (h : IsF K H v t) : IsF K H' v t := h.map fun _ _ => SqT.lk s
theorem AllF.lk {K : PySem.W.Frag} {H H' : Hp} (s : LKp H H') {vs : List V} {ts : List F} (h : AllF K H vs ts) : AllF K H' vs ts := by
  induction h with
  | nil => exact .nil
  | cons a _ ih => exact .cons (a.lk s) ih
theorem AllF.len {K : PySem.W.Frag} {H : Hp} {vs : List V} {ts : List F} (h : AllF K H vs ts) : vs.length = ts.length := by
  induction h with
  | nil => rfl
  | cons _ _ ih => simp [ih]
theorem AllF.get {K : PySem.W.Frag} {H : Hp} {vs : List V} {ts : List F} (h : AllF K H vs ts) : ∀ {m : Nat} {y : V} {f : F}, vs[m]? = some y → ts[m]? = some f → IsF K H y f := by
  induction h with
  | nil => intro m y f e _; cases e
  | cons a _ ih =>
    intro m y f e1 e2
    cases m with
    | zero =>
      cases e1
      cases e2
      exact a
    | succ m => exact ih e1 e2
structure PRec where
  p : Addr
  l : Addr
  dx : Addr
  h : Addr
structure PartIs (K : PySem.W.Frag) (C : Addr) (H : Hp) (pr : PRec) (hd : Hd) (a : Int) (ks : List Nat) : Prop where
  ob : H pr.p = some (.ins C pr.dx (pf (.ref pr.h) a pr.l))
  hd : SqT K H pr.h (hv hd)
  inn : H pr.l = some (.lst (ks.map fun n => V.int (n : Nat)))
def Parts (K : PySem.W.Frag) (C : Addr) (H : Hp) (R : List PRec) (L : List (Hd × Int)) : Prop :=
  R.length = L.length ∧ ∀ i pr hd a, R[i]? = some pr → L[i]? = some (hd, a) → PartIs K C H pr hd a (kidsFrom (L.map (·.2)) 0 i)
def PartsAt (K : PySem.W.Frag) (C : Addr) (H : Hp) (pa : Addr) (L : List (Hd × Int)) : Prop :=
  ∃ R : List PRec, SqL K H pa (R.map fun r => V.ref r.p) ∧ Parts K C H R L
theorem PartIs.same {K : PySem.W.Frag} {C : Addr} {H H' : Hp} {pr : PRec} {hd : Hd} {a : Int} {ks : List Nat} (s : Same H H') (h : PartIs K C H pr hd a ks) : PartIs K C H' pr hd a ks :=
  ⟨s _ _ h.ob, SqT.same s h.hd, s _ _ h.inn⟩
theorem PartsAt.same {K : PySem.W.Frag} {C : Addr} {H H' : Hp} {pa : Addr} {L : List (Hd × Int)} (s : Same H H') (h : PartsAt K C H pa L) : PartsAt K C H' pa L := by
  obtain ⟨R, h1, h2, h3⟩ := h
  exact ⟨R, s.seq h1, h2, fun i pr hd a e1 e2 => (h3 i pr hd a e1 e2).same s⟩
/-- what waits: bottom first in memory, top first in the list -/
inductive SA (K : PySem.W.Frag) (H : Hp) : List V → List (F × Int) → Prop
  | nil : SA K H [] []
  | snoc {ws : List V} {st : List (F × Int)} {q : Addr} {x : V} {t : F} {a : Int} : SA K H ws st → SqT K H q [x, .int a] → IsF K H x t → SA K H (ws ++ [.ref q]) ((t, a) :: st)
theorem SA.lk {K : PySem.W.Frag} {H H' : Hp} (s : LKp H H') {ws : List V} {st : List (F × Int)} (h : SA K H ws st) : SA K H' ws st := by
  induction h with
  | nil => exact .nil
  | snoc _ b c ih => exact .snoc ih (SqT.lk s b) (c.lk s)
theorem SA.len {K : PySem.W.Frag} {H : Hp} {ws : List V} {st : List (F × Int)} (h : SA K H ws st) : ws.length = st.length := by
  induction h with
  | nil => rfl
  | snoc _ _ _ ih => simp [ih]
theorem kids_snoc (L : List (Hd × Int)) (h : Hd) (a : Int) (i : Nat) :
    kidsFrom ((L ++ [(h, a)]).map (·.2)) 0 i = kidsFrom (L.map (·.2)) 0 i ++ if a = (i : Int) then [L.length] else [] := by
  rw [List.map_append, kids_app]
  simp only [List.map_cons, List.map_nil, kidsFrom, Nat.zero_add, List.length_map]
theorem kids_out : ∀ (A : List Int) (j i : Nat), (∀ a ∈ A, a < (i : Int)) → kidsFrom A j i = [] := fun A j i h => kids_none A j i fun a ha => by have := h a ha; omega
theorem Parts.more {K : PySem.W.Frag} {C : Addr} {G G5 : Hp} {R : List PRec} {L : List (Hd × Int)} {n : PRec} {hd : Hd} {a : Int} (PR : Parts K C G R L) (lk : LKp G G5)
    (hin : ∀ i pr, R[i]? = some pr → G5 pr.l = some (.lst ((kidsFrom (L.map (·.2)) 0 i ++ if a = (i : Int) then [L.length] else []).map fun n => V.int (n : Nat))))
    (Lb : ∀ x ∈ L, x.2 < (L.length : Int)) (ha : a < (L.length : Int)) (new : PartIs K C G5 n hd a []) : Parts K C G5 (R ++ [n]) (L ++ [(hd, a)]) := by
  obtain ⟨len, h⟩ := PR
  refine ⟨by simp [len], fun i pr hd' a' e1 e2 => ?_⟩
  rw [kids_snoc]
  by_cases lt : i < R.length
  · rw [List.getElem?_append_left lt] at e1
    rw [List.getElem?_append_left (by omega)] at e2
    have z := h i pr hd' a' e1 e2
    exact ⟨lk _ _ (by intro xs q; cases q) z.ob, SqT.lk lk z.hd, hin i pr e1⟩
  · have ei : i = R.length := by
      have q := (List.getElem?_eq_some_iff.mp e1).1
      rw [List.length_append, List.length_singleton] at q
      omega
    subst ei
    rw [List.getElem?_append_right (Nat.le_refl _), Nat.sub_self] at e1
    rw [List.getElem?_append_right (by omega), len, Nat.sub_self] at e2
    cases e1
    cases e2
    have none : kidsFrom (L.map (·.2)) 0 R.length = [] := by
      refine kids_out _ _ _ fun b hb => ?_
      obtain ⟨x, hx, rfl⟩ := List.mem_map.mp hb
      rw [len]
      exact Lb x hx
    rw [none, if_neg (by rw [len]; omega)]
    exact new
section
variable {P : Program} {w : World} {K : PySem.W.Frag} {mg : Str → Option Value} {base : Heap} {C J B : Addr}
def spParts (K : PySem.W.Frag) (C : Addr) : Sp := fun vs H Q _ => ∃ (v : V) (t : F), vs = [v] ∧ IsF K H v t ∧ t.size ≤ 1000 ∧
  ∀ pa H', Same H H' → PartsAt K C H' pa (pre t (-1) 0) → Q (.ref pa) H'
theorem ok_parts_of {f : Addr} {fd : FuncData} (FF : Fun K "parts_of" "parts_of" s_parts_of f fd) (T : Txt K mg C J B)
    (h_head_of : Has P w K mg base "head_of" 1 a_head_of (spHead K)) (h_Part : HasC P w K mg base "Part" C 1 a_Part_init (spPart K C)) : FnOk P w K mg base CX0 3 f fd a_parts_of (spParts K C) := by
  refine FF.ok sc_parts_of (fun vs H Q E h => ?_) (fun cdv A outer s H vs Q E hr h => ?_)
  · obtain ⟨v, t, rfl, _⟩ := h
    rfl
  · obtain ⟨v, t, rfl, ht, hsz, k⟩ := h
    refine ⟨_, (pss_cons (ps_set (i := 1) sc_parts_of.nd rfl (.inl rfl) (pe_lst pa_nil))
      (pss_cons (ps_set (i := 2) sc_parts_of.nd rfl (.inl rfl) (pe_lst (pa_cons (pe_tup (pa_cons (pv 0) (pa_cons (pe_un un_neg pe_int) pa_nil))) pa_nil)))
      (pss_cons (ps_while PassesOwn.never (pt_truth (pv 2) (by intro _; rfl)) (pss_cons (ps_asg (pe_bm0 PySem.F.plainAttrs_list PySem.F.slot_list_pop PySem.F.type_list_pop mt_pop (pv 2)) (pg_tup rfl (pgs_cons (pg_name (i := 3) sc_parts_of.nd rfl (.inl rfl)) (pgs_cons (pg_name (i := 4) sc_parts_of.nd rfl (.inl rfl)) pgs_nil))))
      (pss_cons (ps_set (i := 5) sc_parts_of.nd rfl (.inl rfl) (pe_callH h_head_of (hr.mono (by omega)) (pa_cons (pv 3) pa_nil)))
      (pss_cons (ps_set (i := 6) sc_parts_of.nd rfl (.inl rfl) (pe_callB call_len_seq rfl T.z_len (by decide +kernel) (pa_cons (pv 1) pa_nil)))
      (pss_cons (ps_expr (pe_bm PySem.F.plainAttrs_list PySem.F.slot_list_append PySem.F.type_list_append mt_append (pv 1) (pa_cons (pe_makeH h_Part (hr.mono (by omega)) (pa_cons (pv 5) (pa_cons (pv 4) pa_nil))) pa_nil)))
      (pss_cons (ps_if (pt_cmpR op_ge (pv 4) pe_int (nomark _)) (pss_one (ps_expr (pe_bm PySem.F.plainAttrs_list PySem.F.slot_list_append PySem.F.type_list_append mt_append (pe_fld (pe_ix ix_list (pv 1) (pv 4) (fun _ _ => rfl)) rfl) (pa_cons (pv 6) pa_nil)))) pss_nil)
      (pss_one (ps_for PassesOwn.never rfl (RT.pi_revA rfl T.z_reversed (pe_slice sl_tupA (pv 3) (po_some (pe_callB call_len_seq rfl T.z_len (by decide +kernel) (pa_cons (pv 5) pa_nil))) po_none)) (pg_name (i := 7) sc_parts_of.nd rfl (.inl rfl)) (pss_one (ps_expr (pe_bm PySem.F.plainAttrs_list PySem.F.slot_list_append PySem.F.type_list_append mt_append (pv 2) (pa_cons (pe_tup (pa_cons (pv 7) (pa_cons (pv 6) pa_nil))) pa_nil))))))))))))
      (pss_one (ps_ret (pv 1)))))), ?_⟩
    refine ⟨Nat.zero_le _, fun pa hpa => ?_⟩
    refine ⟨v, rfl, _, rfl, by show 2 ≤ sizeLine; decide, fun q0 hq0 => ?_⟩
    refine ⟨by show 1 ≤ sizeLine; decide, fun wa hwa => ?_⟩
    have paq : pa ≠ q0 := fun e => by rw [e, upd_same] at hq0; cases hq0
    have hq0' : H q0 = none := by rw [upd_ne paq.symm] at hq0; exact hq0
    have wq : wa ≠ q0 := fun e => by rw [e, upd_same] at hwa; cases hwa
    have wpa : wa ≠ pa := fun e => by rw [e, upd_ne paq, upd_same] at hwa; cases hwa
    have hwa' : H wa = none := by rw [upd_ne wq, upd_ne wpa] at hwa; exact hwa
    have s1 : Same H (upd H pa (.lst [])) := Same.new hpa
    have s2 : Same (upd H pa (.lst [])) (upd (upd H pa (.lst [])) q0 (.tup [v, .int (-1)])) := Same.new hq0
    have s3 : Same (upd (upd H pa (.lst [])) q0 (.tup [v, .int (-1)])) (upd (upd (upd H pa (.lst [])) q0 (.tup [v, .int (-1)])) wa (.lst [.ref q0])) := Same.new hwa
    have s123 := s1.trans (s2.trans s3)
    generalize hH0 : upd (upd (upd H pa (.lst [])) q0 (.tup [v, .int (-1)])) wa (.lst [.ref q0]) = H0 at s3 s123
    have w0 : H0 wa = some (.lst [.ref q0]) := by rw [← hH0, upd_same]
    have p0 : H0 pa = some (.lst []) := by rw [← hH0, upd_ne wpa.symm, upd_ne paq, upd_same]
    have t0 : SqT K H0 q0 [v, .int (-1)] := SqT.of (by rw [← hH0, upd_ne wq.symm, upd_same])
    clear hH0 hq0
    refine ⟨fun m σ G => ∃ (R : List PRec) (L : List (Hd × Int)) (ws : List V) (st : List (F × Int)) (y3 y4 y5 y6 y7 : Option V),
      σ = [some v, some (.ref pa), some (.ref wa), y3, y4, y5, y6, y7] ∧ Same H G ∧ G pa = some (.lst (R.map fun r => V.ref r.p)) ∧ G wa = some (.lst ws) ∧ SA K G ws st ∧
      Parts K C G R L ∧ (R.map PRec.l).Nodup ∧ (∀ r ∈ R, H r.l = none ∧ r.l ≠ pa ∧ r.l ≠ wa) ∧ (∀ x ∈ st, x.2 < (L.length : Int) ∧ -1 ≤ x.2) ∧ (∀ x ∈ L, x.2 < (L.length : Int)) ∧
      m = stSize st ∧ L.length + m = t.size ∧ fin L st = pre t (-1) 0,
      ⟨t.size, [], [], [.ref q0], [(t, -1)], none, none, none, none, none, rfl, s123, p0, w0, .snoc .nil t0 (ht.same s123), ⟨rfl, by simp⟩, by simp, by simp, by simp, by simp, by simp [stSize], by simp, by simp [fin, pre]⟩, ?_⟩
    rintro m σ G ⟨R, L, ws, st, y3, y4, y5, y6, y7, rfl, sG, gpa, gwa, sa, PR, nd, lfr, stb, Lb, rfl, cnt, hfin⟩
    refine ⟨.ref wa, rfl, !ws.isEmpty, .inl ⟨ws, SqL.of gwa, rfl⟩, ?_⟩
    cases sa with
    | nil =>
      -- nothing waits
      refine iteF ?_
      refine ⟨_, rfl, ?_⟩
      refine k pa G sG ⟨R, SqL.of gpa, ?_⟩
      rw [← hfin]
      exact PR
    | @snoc ws' st' q x u a sa' hq hx =>
      have e1 : (!(ws' ++ [V.ref q]).isEmpty) = true := by simp
      rw [e1]
      refine iteT ?_
      refine ⟨_, fun σ' H' z => z, ?_⟩
      have szu : 0 < u.size := F.size_pos u
      have lst' : st'.length ≤ stSize st' := st_len st'
      have cnt' : L.length + (u.size + stSize st') = t.size := cnt
      have hwl := sa'.len
      have small : ∀ n : Nat, n ≤ 1000 → n < sizeLine := fun n hn => small1000 hn
      -- told, around = waiting.pop()
      refine ⟨.ref wa, rfl, .inl ⟨rfl, _, SqL.of gwa⟩, wa, _, .ref q, rfl, rfl, gwa, by simp, ?_⟩
      rw [List.dropLast_concat]
      generalize hG1 : upd G wa (.lst ws') = G1
      have l1 : LKp G G1 := by rw [← hG1]; exact LKp.upd gwa
      have w1 : G1 wa = some (.lst ws') := by rw [← hG1, upd_same]
      have k1 : ∀ b o, b ≠ wa → G b = some o → G1 b = some o := fun b o nb e => by rw [← hG1, upd_ne nb]; exact e
      clear hG1
      refine ⟨q, _, rfl, SqT.lk l1 hq, rfl, x, _, rfl, .int a, _, rfl, rfl, ?_⟩
      -- head = head_of(told)
      refine ⟨x, rfl, x, u, rfl, hx.lk l1, fun h G2 s2 hh => ?_⟩
      have w2 := s2 _ _ w1
      have pw : pa ≠ wa := wpa.symm
      have p2 := s2 _ _ (k1 _ _ pw gpa)
      -- at = len(parts)
      refine ⟨.ref pa, rfl, pa, _, rfl, .inl (SqL.of p2), ?_⟩
      rw [List.length_map, PR.1]
      -- parts.append(Part(head, around))
      refine ⟨.ref pa, rfl, .inl ⟨rfl, _, SqL.of p2⟩, .ref h, rfl, .int a, rfl, fun x1 dx nx ndx nex => ⟨x1, dx, .ref h, a, rfl, upd_same, fun l G3 hl hx1 hl3 b3 => ⟨rfl, ?_⟩⟩⟩
      have nx1 : l ≠ x1 := fun e => by rw [e, upd_same] at hl; cases hl
      have hl2 : G2 l = none := by
        rw [upd_ne nx1] at hl
        by_cases e : l = dx
        · rw [e, upd_same] at hl
          cases hl
        · rw [upd_ne e] at hl
          exact hl
      have s3' : Same G2 G3 := fun b o e => by
        refine b3 b o (ne_of_none e nx) ?_
        rw [upd_ne (ne_of_none e nx), upd_ne (ne_of_none e ndx)]
        exact e
      have p3 := s3' _ _ p2
      have w3 := s3' _ _ w2
      have lpa : l ≠ pa := (ne_of_none p2 hl2).symm
      have lwa : l ≠ wa := (ne_of_none w2 hl2).symm
      refine ⟨pa, _, .ref x1, rfl, rfl, p3, by rw [List.length_map, PR.1]; exact small _ (by omega), ?_⟩
      generalize hG4 : upd G3 pa (.lst (R.map (fun r => V.ref r.p) ++ [V.ref x1])) = G4
      have l4 : LKp G3 G4 := by rw [← hG4]; exact LKp.upd p3
      have k4 : ∀ b o, b ≠ pa → G3 b = some o → G4 b = some o := fun b o nb e => by rw [← hG4, upd_ne nb]; exact e
      have p4 : G4 pa = some (.lst (R.map (fun r => V.ref r.p) ++ [V.ref x1])) := by rw [← hG4, upd_same]
      clear hG4
      have w4 := k4 _ _ wpa w3
      have L14 : LKp G G4 := l1.trans ((LKp.same s2).trans ((LKp.same s3').trans l4))
      have K14 : ∀ b o, b ≠ wa → b ≠ pa → G b = some o → G4 b = some o := fun b o n1 n2 e => k4 _ _ n2 (s3' _ _ (s2 _ _ (k1 _ _ n1 e)))
      have ob4 : G4 x1 = some (.ins C dx (pf (.ref h) a l)) := l4 _ _ (by intro xs z; cases z) hx1
      have hd4 : SqT K G4 h (hv u.hd) := SqT.lk l4 (SqT.same s3' hh)
      have ln4 : G4 l = some (.lst []) := k4 _ _ lpa hl3
      have nfresh : H l = none := sG.free (by
        cases e : G l with
        | none => rfl
        | some o =>
          have := s2 _ _ (k1 _ _ lwa e)
          rw [hl2] at this
          cases this)
      have lnew : ∀ pr ∈ R, pr.l ≠ l := fun pr hpr e => by
        obtain ⟨i, hi⟩ := List.mem_iff_getElem?.mp hpr
        obtain ⟨⟨hd', a'⟩, hi2⟩ : ∃ y, L[i]? = some y := ⟨L[i]'(by have := (List.getElem?_eq_some_iff.mp hi).1; rw [PR.1] at this; exact this), by simp⟩
        have z := (PR.2 i pr hd' a' hi hi2).inn
        have z2 := s2 _ _ (k1 _ _ (lfr pr hpr).2.2 z)
        rw [e, hl2] at z2
        cases z2
      have sb := stb (u, a) List.mem_cons_self
      refine ⟨.int a, rfl, _, _, rfl, rfl, _, rfl, ?_⟩
      refine join (G := G4) (fun G5 => LKp G G5 ∧ (∀ b o, b ≠ wa → b ≠ pa → (∀ r ∈ R, b ≠ r.l) → G b = some o → G5 b = some o) ∧ G5 wa = some (.lst ws') ∧
        G5 pa = some (.lst (R.map (fun r => V.ref r.p) ++ [V.ref x1])) ∧ SqT K G5 h (hv u.hd) ∧ Parts K C G5 (R ++ [⟨x1, l, dx, h⟩]) (L ++ [(u.hd, a)])) ?_ ?_ ?_
      · rintro G5 ⟨l5, k5, w5, p5, hd5, PR5⟩
        obtain ⟨ua, ks, rfl, squ, ak⟩ := (hx.lk l5).open
        -- reversed(told[len(head):])
        have hn : ∃ n : Nat, (hv u.hd).length = n ∧ 1 ≤ n := ⟨_, rfl, by rcases hv_len u.hd with e | e <;> omega⟩
        obtain ⟨n, hvn, n1⟩ := hn
        refine ⟨.ref ua, rfl, .ref h, rfl, h, _, rfl, .inr hd5, _, rfl, ua, _, rfl, squ, fun whole => ?_, fun _ z hz => ?_⟩
        · exfalso
          rw [HT.sIx_nat, List.length_append] at whole
          omega
        have cut : cutV (hv u.hd ++ ks) (some ((hv u.hd).length : Nat)) none = ks := by
          unfold cutV
          rw [HT.sIx_nat, HT.sIx_none, Nat.min_eq_left (by rw [List.length_append]; omega), List.drop_left, List.take_of_length_le]
          rw [List.length_append]
          omega
        rw [cut]
        generalize hG6 : upd G5 z (.tup ks) = G6
        have s6 : Same G5 G6 := by rw [← hG6]; exact Same.new hz
        have sq6 : SqT K G6 z ks := SqT.of (by rw [← hG6, upd_same])
        clear hG6 hz
        have hn : ks.length = u.kids.length := ak.len
        refine ⟨z, ks, rfl, .inr ⟨sq6, ?_⟩⟩
        have sG6 : Same H G6 := fun b o e => s6 _ _ (k5 b o (fun q => by rw [q, hwa'] at e; cases e) (fun q => by rw [q, hpa] at e; cases e) (fun r hr' q => by rw [q, (lfr r hr').1] at e; cases e) (sG b o e))
        have szk := stSize_kids u (L.length : Int)
        have lk := st_len (u.kids.map fun f => (f, (L.length : Int)))
        refine RT.for_ItvT (fun i σ G7 => ∃ (ws7 : List V) (y : Option V), σ = [some v, some (.ref pa), some (.ref wa), some (.ref ua), some (.int a), some (.ref h), some (.int (L.length : Nat)), y] ∧
            LKp G6 G7 ∧ (∀ b o, b ≠ wa → G6 b = some o → G7 b = some o) ∧ G7 wa = some (.lst ws7) ∧ SA K G7 ws7 ((u.kids.drop (ks.length - i)).map (fun f => (f, (L.length : Int))) ++ st')) ?_ ?_ ?_ ?_
        · refine ⟨ws', y7, rfl, LKp.refl _, fun _ _ _ e => e, s6 _ _ w5, ?_⟩
          rw [Nat.sub_zero, hn, List.drop_length]
          exact sa'.lk (l5.trans (LKp.same s6))
        · rintro i σ G7 ⟨ws7, y, rfl, l7, _, _, _⟩
          exact SqT.lk l7 sq6
        · rintro i y σ G7 hi hy ⟨ws7, y', rfl, l7, k7, w7, sa7⟩
          obtain ⟨kf, hkf⟩ : ∃ kf, u.kids[ks.length - 1 - i]? = some kf := ⟨u.kids[ks.length - 1 - i]'(by omega), by simp⟩
          have isk : IsF K G7 y kf := ((ak.lk (LKp.same s6)).lk l7).get hy hkf
          refine ⟨.ref wa, rfl, .inl ⟨rfl, _, SqL.of w7⟩, y, rfl, .int (L.length : Nat), rfl, by show 2 ≤ sizeLine; decide, fun p hp => ?_⟩
          have s8 : Same G7 (upd G7 p (.tup [y, .int (L.length : Nat)])) := Same.new hp
          have lw7 := sa7.len
          rw [List.length_append, List.length_map, List.length_drop] at lw7
          rw [List.length_map] at lk
          refine ⟨wa, _, .ref p, rfl, rfl, s8 _ _ w7, small _ (by omega), ?_⟩
          have l9 : LKp (upd G7 p (.tup [y, .int (L.length : Nat)])) (upd (upd G7 p (.tup [y, .int (L.length : Nat)])) wa (.lst (ws7 ++ [.ref p]))) := LKp.upd (s8 _ _ w7)
          refine ⟨_, some y, rfl, l7.trans ((LKp.same s8).trans l9), fun b o nb e => ?_, upd_same, ?_⟩
          · rw [upd_ne nb]
            exact s8 _ _ (k7 b o nb e)
          · have e2 : u.kids.drop (ks.length - (i + 1)) = kf :: u.kids.drop (ks.length - i) := by
              have lt : ks.length - 1 - i < u.kids.length := by omega
              rw [show ks.length - (i + 1) = ks.length - 1 - i by omega, List.drop_eq_getElem_cons lt, show ks.length - 1 - i + 1 = ks.length - i by omega]
              congr 1
              exact Option.some.inj ((List.getElem?_eq_getElem lt).symm.trans hkf)
            rw [e2]
            exact .snoc (sa7.lk ((LKp.same s8).trans l9)) (SqT.lk l9 (SqT.of upd_same)) (isk.lk ((LKp.same s8).trans l9))
        · rintro σ G7 ⟨ws7, y, rfl, l7, k7, w7, sa7⟩
          rw [Nat.sub_self, List.drop_zero] at sa7
          have zst : stSize (u.kids.map (fun f => (f, (L.length : Int))) ++ st') + 1 = u.size + stSize st' := by
            rw [stSize_app]
            omega
          have PR7 : Parts K C G7 (R ++ [⟨x1, l, dx, h⟩]) (L ++ [(u.hd, a)]) := by
            refine ⟨PR5.1, fun i pr hd' a' e1 e2 => ?_⟩
            have z := (PR5.2 i pr hd' a' e1 e2).same s6
            have nw : pr.l ≠ wa := by
              rcases List.mem_append.mp (List.mem_of_getElem? e1) with m | m
              · exact (lfr pr m).2.2
              · rw [List.mem_singleton.mp m]
                exact lwa
            exact ⟨l7 _ _ (by intro xs q; cases q) z.ob, SqT.lk l7 z.hd, k7 _ _ nw z.inn⟩
          refine ⟨stSize (u.kids.map (fun f => (f, (L.length : Int))) ++ st'), by show _ < u.size + stSize st'; omega, R ++ [⟨x1, l, dx, h⟩], L ++ [(u.hd, a)], ws7, _, _, _, _, _, _, rfl, fun b o e => ?_, ?_, w7, sa7, PR7, ?_, ?_, ?_, ?_, rfl, ?_, ?_⟩
          · exact k7 b o (fun q => by rw [q, hwa'] at e; cases e) (sG6 b o e)
          · rw [List.map_append]
            exact k7 _ _ wpa.symm (s6 _ _ p5)
          · rw [List.map_append, List.nodup_append]
            refine ⟨nd, by simp, fun a' ha b hb => ?_⟩
            obtain ⟨r, hr', rfl⟩ := List.mem_map.mp ha
            rw [List.map_cons, List.map_nil, List.mem_singleton] at hb
            subst hb
            exact lnew r hr'
          · intro r hr'
            rcases List.mem_append.mp hr' with m | m
            · exact lfr r m
            · rw [List.mem_singleton.mp m]
              exact ⟨nfresh, lpa, lwa⟩
          · intro y hy
            rw [List.length_append, List.length_singleton]
            rcases List.mem_append.mp hy with m | m
            · obtain ⟨f', _, rfl⟩ := List.mem_map.mp m
              show (L.length : Int) < ((L.length + 1 : Nat) : Int) ∧ -1 ≤ (L.length : Int)
              omega
            · have := stb y (List.mem_cons_of_mem _ m)
              omega
          · intro y hy
            rw [List.length_append, List.length_singleton]
            rcases List.mem_append.mp hy with m | m
            · have := Lb y m
              omega
            · rw [List.mem_singleton.mp m]
              show a < _
              have := sb.1
              have e : (((u, a) : F × Int).2) = a := rfl
              omega
          · rw [List.length_append, List.length_singleton]
            omega
          · rw [← hfin, fin_step]
      · intro c rest
        have ha : 0 ≤ a := of_decide_eq_true c
        have hal : a < (L.length : Int) := sb.1
        obtain ⟨m, rfl⟩ : ∃ m : Nat, a = (m : Int) := ⟨a.toNat, by omega⟩
        have hm : m < R.length := by rw [PR.1]; omega
        obtain ⟨pr, hpr⟩ : ∃ pr, R[m]? = some pr := ⟨R[m], by simp [hm]⟩
        obtain ⟨⟨hd', a'⟩, hlr⟩ : ∃ y, L[m]? = some y := ⟨L[m]'(by omega), by simp⟩
        have z := PR.2 m pr hd' a' hpr hlr
        have prm := List.mem_of_getElem? hpr
        have ob := L14 _ _ (by intro xs q; cases q) z.ob
        have inn := K14 _ _ (lfr pr prm).2.2 (lfr pr prm).2.1 z.inn
        -- parts[around].inner.append(at)
        refine ⟨.ref pa, rfl, .int (m : Nat), rfl, pa, _, _, .ref pr.p, rfl, rfl, SqL.of p4, atI_nat (j := m) ?_, pr.p, C, pr.dx, _, .ref pr.l, rfl, ob, T.cl, T.nI, rfl, .inl ⟨rfl, _, SqL.of inn⟩, .int (L.length : Nat), rfl, pr.l, _, _, rfl, rfl, inn, ?_, ?_⟩
        · rw [List.getElem?_append_left (by rw [List.length_map]; exact hm), List.getElem?_map, hpr]
          rfl
        · rw [List.length_map]
          refine small _ ?_
          have : ∀ (A : List Int) (j i : Nat), (kidsFrom A j i).length ≤ A.length := by
            intro A
            induction A with
            | nil => intro j i; exact Nat.le_refl _
            | cons b A ih =>
              intro j i
              have := ih (j + 1) i
              simp only [kidsFrom]
              split <;> simp only [List.length_cons] <;> omega
          have := this (L.map (·.2)) 0 m
          rw [List.length_map] at this
          omega
        · have l5 : LKp G4 (upd G4 pr.l (.lst ((kidsFrom (L.map (·.2)) 0 m).map (fun n => V.int (n : Nat)) ++ [.int (L.length : Nat)]))) := LKp.upd inn
          refine rest _ ⟨L14.trans l5, fun b o n1 n2 n3 e => ?_, ?_, ?_, SqT.lk l5 hd4, ?_⟩
          · rw [upd_ne (n3 pr prm)]
            exact K14 b o n1 n2 e
          · rw [upd_ne (lfr pr prm).2.2.symm]
            exact w4
          · rw [upd_ne (lfr pr prm).2.1.symm]
            exact p4
          · refine Parts.more PR (L14.trans l5) (fun i pr' hi => ?_) Lb sb.1 ⟨l5 _ _ (by intro xs q; cases q) ob4, SqT.lk l5 hd4, ?_⟩
            · obtain ⟨⟨hd2, a2⟩, hl2'⟩ : ∃ y, L[i]? = some y := ⟨L[i]'(by have := (List.getElem?_eq_some_iff.mp hi).1; rw [PR.1] at this; exact this), by simp⟩
              by_cases e : i = m
              · subst e
                rw [hpr] at hi
                cases hi
                rw [upd_same, if_pos rfl, List.map_append]
                rfl
              · have nl : pr'.l ≠ pr.l := fun q => e (nd_ix nd (x := pr.l) (by rw [List.getElem?_map, hi, Option.map_some, q]) (by rw [List.getElem?_map, hpr]; rfl))
                rw [upd_ne nl, if_neg (by omega), List.append_nil]
                have pm' := List.mem_of_getElem? hi
                exact K14 _ _ (lfr pr' pm').2.2 (lfr pr' pm').2.1 (PR.2 i pr' hd2 a2 hi hl2').inn
            · rw [upd_ne (lnew pr prm).symm]
              exact ln4
      · intro c
        have ha : ¬ 0 ≤ a := of_decide_eq_false c
        refine ⟨L14, fun b o n1 n2 _ e => K14 b o n1 n2 e, w4, p4, hd4, ?_⟩
        refine Parts.more PR L14 (fun i pr' hi => ?_) Lb sb.1 ⟨ob4, hd4, ln4⟩
        obtain ⟨⟨hd2, a2⟩, hl2'⟩ : ∃ y, L[i]? = some y := ⟨L[i]'(by have := (List.getElem?_eq_some_iff.mp hi).1; rw [PR.1] at this; exact this), by simp⟩
        rw [if_neg (by omega), List.append_nil]
        have pm' := List.mem_of_getElem? hi
        exact K14 _ _ (lfr pr' pm').2.2 (lfr pr' pm').2.1 (PR.2 i pr' hd2 a2 hi hl2').inn
end
end Fw

set_option maxRecDepth 100000
set_option maxHeartbeats 2000000
namespace Fw
open PySem PySem.Spec PyProof.Rows L2
def HeadsAt (K : PySem.W.Frag) (H : Hp) (ha : Addr) (l : List Hd) : Prop :=
  ∃ hs : List Addr, SqL K H ha (hs.map V.ref) ∧ hs.length = l.length ∧ ∀ (i : Nat) (h : Addr) (hd : Hd), hs[i]? = some h → l[i]? = some hd → SqT K H h (hv hd)
theorem HeadsAt.same {K : PySem.W.Frag} {H H' : Hp} {ha : Addr} {l : List Hd} (s : Same H H') (h : HeadsAt K H ha l) : HeadsAt K H' ha l := by
  obtain ⟨hs, h1, h2, h3⟩ := h
  exact ⟨hs, s.seq h1, h2, fun i h hd e1 e2 => SqT.same s (h3 i h hd e1 e2)⟩
theorem no_get {α : Type} (m : Nat) (v : α) : ¬ ([] : List α)[m]? = some v := by simp
theorem pre_aro (t : F) : (pre t (-1) 0).map (·.2) = arounds (infos t) := by simp [pre, arounds, Function.comp_def]
end Fw

set_option maxRecDepth 100000
set_option maxHeartbeats 2000000
namespace Fw
open PySem PySem.Spec PyProof.Rows L2
theorem pre_get {t : F} {i : Nat} {r : Rec} (h : (infos t)[i]? = some r) : (pre t (-1) 0)[i]? = some (r.sub.hd, r.aro) := by
  rw [pre, List.getElem?_map, h]
  rfl
theorem isB_hd (s : F) : isBH s.hd = isB s := by cases s <;> rfl
def nearL (t : F) : List Int := (infos t).map fun r => topPos r.stk
def placeOf (r : Rec) : Int := match r.sub with
  | .leaf .var x => posOf x r.stk
  | _ => -1
def placeL (t : F) : List Int := (infos t).map placeOf
/-- the i-th part and what is known of it -/
theorem PartsAt.nth {K : PySem.W.Frag} {C : Addr} {H : Hp} {pa : Addr} {t : F} {R : List PRec} (PR : Parts K C H R (pre t (-1) 0)) {i : Nat} (hi : i < t.size) :
    ∃ r pr, (infos t)[i]? = some r ∧ R[i]? = some pr ∧ PartIs K C H pr r.sub.hd r.aro (inPlaces r.sub i) := by
  have lenI : (infos t).length = t.size := info_len _ _ _ _
  have lenR : R.length = t.size := by rw [PR.1, pre_len]
  obtain ⟨r, hr⟩ : ∃ r, (infos t)[i]? = some r := ⟨(infos t)[i]'(by omega), by simp⟩
  obtain ⟨pr, hpr⟩ : ∃ pr, R[i]? = some pr := ⟨R[i]'(by omega), by simp⟩
  have z := PR.2 i pr _ _ hpr (pre_get hr)
  rw [pre_aro, kids_at hr] at z
  exact ⟨r, pr, hr, hpr, z⟩
theorem nv_N : ∀ b : Bool, V.str (wN b) ≠ V.str "var"
  | true => by decide +kernel
  | false => by decide +kernel
theorem nv_T : ∀ b : Bool, V.str (wT b) ≠ V.str "var"
  | true => by decide +kernel
  | false => by decide +kernel
theorem nv_O : ∀ k : One, V.str (wO k) ≠ V.str "var"
  | .some => by decide +kernel
  | .all => by decide +kernel
  | .least => by decide +kernel
  | .most => by decide +kernel
theorem nv_has : V.str (wL .has) ≠ V.str "var" := by decide +kernel
theorem nv_lacks : V.str (wL .lacks) ≠ V.str "var" := by decide +kernel
theorem hd_at0 (hd : Hd) : atI (hv hd) 0 = some (.str (hw hd)) := atI_nat (j := 0) (hv_head hd)
theorem fld_head (h : V) (a : Int) (l : Addr) : (pf h a l).lookup ("head" : Str) = some h := rfl
theorem fld_around (h : V) (a : Int) (l : Addr) : (pf h a l).lookup ("around" : Str) = some (.int a) := rfl
section
variable {P : Program} {w : World} {K : PySem.W.Frag} {mg : Str → Option Value} {base : Heap} {C J B : Addr}
def spNear (K : PySem.W.Frag) (C B : Addr) : Sp := fun vs H Q _ => ∃ (pa : Addr) (t : F), vs = [.ref pa, .ref B] ∧ PartsAt K C H pa (pre t (-1) 0) ∧ t.size ≤ 1000 ∧
  ∀ na H', Same H H' → H' na = some (.lst ((nearL t).map V.int)) → Q (.ref na) H'
theorem ok_nearest_around {f : Addr} {fd : FuncData} (FF : Fun K "nearest_around" "nearest_around" s_nearest_around f fd) (T : Txt K mg C J B) : FnOk P w K mg base CX0 1 f fd a_nearest_around (spNear K C B) := by
  refine FF.ok sc_nearest_around (fun vs H Q E h => ?_) (fun cdv A outer s H vs Q E hr h => ?_)
  · obtain ⟨pa, t, rfl, _⟩ := h
    rfl
  · obtain ⟨pa, t, rfl, ⟨R, hR, PR⟩, hsz, k⟩ := h
    have small : ∀ n : Nat, n ≤ 1000 → n < sizeLine := fun n hn => small1000 hn
    have lenR : R.length = t.size := by rw [PR.1, pre_len]
    have lenI : (infos t).length = t.size := info_len _ _ _ _
    refine ⟨_, (pss_cons (ps_set (i := 2) sc_nearest_around.nd rfl (.inl rfl) (pe_lst pa_nil))
      (pss_cons (ps_for PassesOwn.never rfl (pi_list (pv 0)) (pg_name (i := 3) sc_nearest_around.nd rfl (.inl rfl)) (pss_cons (ps_set (i := 4) sc_nearest_around.nd rfl (.inl rfl) (pe_fld (pv 3) rfl))
      (pss_cons (ps_if (PW.pt (pw_and (pt_cmpR op_ge (pv 4) pe_int (nomark _)) (pw_and1 (pt_cmpR op_notIn_seq (pe_ix ix_tup (pe_fld (pe_ix ix_list (pv 0) (pv 4) (fun _ _ => rfl)) rfl) pe_int (fun _ _ => rfl)) (pv 1) (by rfl))))) (pss_one (ps_set (i := 4) sc_nearest_around.nd rfl (.inl rfl) (pe_ix ix_list (pv 2) (pv 4) (fun _ _ => rfl)))) pss_nil)
      (pss_one (ps_expr (pe_bm PySem.F.plainAttrs_list PySem.F.slot_list_append PySem.F.type_list_append mt_append (pv 2) (pa_cons (pv 4) pa_nil)))))))
      (pss_one (ps_ret (pv 2))))), ?_⟩
    refine ⟨Nat.zero_le _, fun na hna => ?_⟩
    refine ⟨.ref pa, rfl, pa, rfl, ⟨_, (Same.new hna).seq hR⟩, for_list (xs := R.map fun (r : PRec) => V.ref r.p) (fun i σ G => ∃ (y3 y4 : Option V), σ = [some (.ref pa), some (.ref B), some (.ref na), y3, y4] ∧ Same H G ∧ G na = some (.lst (((nearL t).take i).map V.int)))
      ⟨none, none, rfl, Same.new hna, upd_same⟩ (fun i σ G _ ⟨_, _, _, sG, _⟩ => sG.seq hR) ?_ ?_⟩
    · rintro i x σ G hx ⟨y3, y4, rfl, sG, gn⟩
      have hi : i < t.size := by
        have := (List.getElem?_eq_some_iff.mp hx).1
        rw [List.length_map] at this
        omega
      obtain ⟨r, pr, hr', hpr, z0⟩ := PartsAt.nth (pa := pa) PR hi
      have z := z0.same sG
      rw [List.getElem?_map, hpr] at hx
      cases hx
      -- around = part.around
      refine ⟨.ref pr.p, rfl, pr.p, C, pr.dx, _, _, rfl, z.ob, T.cl, T.nA, fld_around _ _ _, ?_⟩
      have nlen : (nearL t).length = t.size := by rw [nearL, List.length_map, lenI]
      have nget : (nearL t)[i]? = some (topPos r.stk) := by rw [nearL, List.getElem?_map, hr']; rfl
      have fin : ∀ (a : Int) (y : Option V), a = topPos r.stk → ∃ (y3 y4 : Option V), ([some (.ref pa), some (.ref B), some (.ref na), some (.ref pr.p), some (.int a)] : List (Option V)) = [some (.ref pa), some (.ref B), some (.ref na), y3, y4] ∧
          Same H (upd G na (.lst (((nearL t).take i).map V.int ++ [.int a]))) ∧ (upd G na (.lst (((nearL t).take i).map V.int ++ [.int a]))) na = some (.lst (((nearL t).take (i + 1)).map V.int)) := by
        intro a y e
        subst e
        refine ⟨_, _, rfl, fun b o e => ?_, ?_⟩
        · rw [upd_ne (ne_of_none e hna)]
          exact sG b o e
        · rw [upd_same, List.take_add_one, nget, List.map_append]
          rfl
      have nsz : (((nearL t).take i).map V.int).length < sizeLine := by
        rw [List.length_map, List.length_take]
        exact small _ (by omega)
      refine ⟨.int r.aro, rfl, _, _, rfl, rfl, _, rfl, ?_⟩
      rcases top_step hr' with ⟨e1, e2, _⟩ | ⟨p, r', hp, e3, e1, e2⟩
      · refine ite2 (fun c => ?_) (fun c => ?_)
        · have := of_decide_eq_true c
          omega
        · refine iteF ?_
          refine ⟨.ref na, rfl, .inl ⟨rfl, _, SqL.of gn⟩, .int r.aro, rfl, na, _, _, rfl, rfl, gn, nsz, ?_⟩
          exact fin r.aro none (by rw [e1, e2])
      · refine ite2 (fun c => ?_) (fun c => ?_)
        · obtain ⟨r2, pr', hr2, hpr', z1⟩ := PartsAt.nth (pa := pa) PR (show p < t.size by omega)
          rw [e3] at hr2
          cases hr2
          have z' := z1.same sG
          refine ⟨.ref pa, rfl, .int r.aro, rfl, pa, _, _, .ref pr'.p, rfl, rfl, sG.seq hR, ?_, pr'.p, C, pr'.dx, _, .ref pr'.h, rfl, z'.ob, T.cl, T.nH, fld_head _ _ _, pr'.h, _, _, _, rfl, rfl, z'.hd, hd_at0 _, .ref B, rfl, B, _, rfl, .inr (T.c_BINDERS _), rfl, rfl, _, rfl, ?_⟩
          · rw [e1]
            exact atI_nat (j := p) (by rw [List.getElem?_map, hpr']; rfl)
          rw [if_pos rfl, in_binders, isB_hd]
          cases hb : isB r'.sub with
          | true =>
            refine iteF ?_
            refine ⟨.ref na, rfl, .inl ⟨rfl, _, SqL.of gn⟩, .int r.aro, rfl, na, _, _, rfl, rfl, gn, nsz, ?_⟩
            exact fin r.aro none (by rw [e2, hb, if_pos rfl, e1])
          | false =>
            refine iteT ?_
            refine ⟨.ref na, rfl, .int r.aro, rfl, na, _, _, .int (topPos r'.stk), rfl, rfl, SqL.of gn, ?_, ?_⟩
            · rw [e1]
              refine atI_nat (j := p) ?_
              rw [List.getElem?_map, List.getElem?_take, if_pos hp, nearL, List.getElem?_map, e3]
              rfl
            · refine ⟨.ref na, rfl, .inl ⟨rfl, _, SqL.of gn⟩, .int (topPos r'.stk), rfl, na, _, _, rfl, rfl, gn, nsz, ?_⟩
              exact fin (topPos r'.stk) none (by rw [e2, hb]; rfl)
        · have := of_decide_eq_false (Bool.eq_false_iff.mpr c)
          omega
    · rintro σ G ⟨y3, y4, rfl, sG, gn⟩
      refine ⟨_, rfl, k na G sG ?_⟩
      rw [gn, List.length_map, lenR, List.take_of_length_le (by rw [nearL, List.length_map, lenI]; exact Nat.le_refl _)]
/-! ### binder_places -/
def spPlaces (K : PySem.W.Frag) (C : Addr) : Sp := fun vs H Q _ => ∃ (pa : Addr) (t : F), vs = [.ref pa] ∧ PartsAt K C H pa (pre t (-1) 0) ∧ t.size ≤ 1000 ∧
  ∀ la H', Same H H' → H' la = some (.lst ((placeL t).map V.int)) → Q (.ref la) H'
theorem ok_binder_places {f : Addr} {fd : FuncData} (FF : Fun K "binder_places" "binder_places" s_binder_places f fd) (T : Txt K mg C J B)
    (h_nearest_around : Has P w K mg base "nearest_around" 1 a_nearest_around (spNear K C B)) : FnOk P w K mg base CX0 2 f fd a_binder_places (spPlaces K C) := by
  refine FF.ok sc_binder_places (fun vs H Q E h => ?_) (fun cdv A outer s H vs Q E hr h => ?_)
  · obtain ⟨pa, t, rfl, _⟩ := h
    rfl
  · obtain ⟨pa, t, rfl, PA, hsz, k⟩ := h
    obtain ⟨R, hR, PR⟩ := id PA
    have small : ∀ n : Nat, n ≤ 1000 → n < sizeLine := fun n hn => small1000 hn
    have lenR : R.length = t.size := by rw [PR.1, pre_len]
    have lenI : (infos t).length = t.size := info_len _ _ _ _
    have plen : (placeL t).length = t.size := by rw [placeL, List.length_map, lenI]
    refine ⟨_, (pss_cons (ps_set (i := 1) sc_binder_places.nd rfl (.inl rfl) (pe_callH h_nearest_around (hr.mono (by omega)) (pa_cons (pv 0) (pa_cons (pe_glob rfl T.m_BINDERS (show RelV (.ref _) _ from rfl)) pa_nil))))
      (pss_cons (ps_set (i := 2) sc_binder_places.nd rfl (.inl rfl) (pe_lst pa_nil))
      (pss_cons (ps_for PassesOwn.never rfl (pi_enum rfl T.z_enumerate (pa_cons (pv 0) pa_nil)) (pg_tup rfl (pgs_cons (pg_name (i := 3) sc_binder_places.nd rfl (.inl rfl)) (pgs_cons (pg_name (i := 4) sc_binder_places.nd rfl (.inl rfl)) pgs_nil))) (pss_cons (ps_set (i := 5) sc_binder_places.nd rfl (.inl rfl) (pe_un un_neg pe_int))
      (pss_cons (ps_if (pt_cmpR op_eq (pe_ix ix_tup (pe_fld (pv 4) rfl) pe_int (fun _ _ => rfl)) pe_str (nomark _)) (pss_cons (ps_set (i := 5) sc_binder_places.nd rfl (.inl rfl) (pe_ix ix_list (pv 1) (pv 3) (fun _ _ => rfl)))
      (pss_one (ps_while PassesOwn.never (PW.pt (pw_and (pt_cmpR op_ge (pv 5) pe_int (nomark _)) (pw_and1 (pt_cmpR op_ne (pe_ix ix_tup (pe_fld (pe_ix ix_list (pv 0) (pv 5) (fun _ _ => rfl)) rfl) pe_int (fun _ _ => rfl)) (pe_ix ix_tup (pe_fld (pv 4) rfl) pe_int (fun _ _ => rfl)) (nomark _))))) (pss_one (ps_set (i := 5) sc_binder_places.nd rfl (.inl rfl) (pe_ix ix_list (pv 1) (pv 5) (fun _ _ => rfl))))))) pss_nil)
      (pss_one (ps_expr (pe_bm PySem.F.plainAttrs_list PySem.F.slot_list_append PySem.F.type_list_append mt_append (pv 2) (pa_cons (pv 5) pa_nil)))))))
      (pss_one (ps_ret (pv 2)))))), ?_⟩
    refine ⟨.ref pa, rfl, pa, t, rfl, PA, hsz, fun na H1 s1 n1 => ?_⟩
    refine ⟨Nat.zero_le _, fun la hla => ?_⟩
    have s2 := Same.new (o := .lst []) hla
    have hla0 := s1.free hla
    refine ⟨.ref pa, rfl, pa, _, rfl, (s1.trans s2).seq hR, for_it (walk_enum (xs := R.map fun (r : PRec) => V.ref r.p)) (fun i σ G => ∃ (y3 y4 y5 : Option V), σ = [some (.ref pa), some (.ref na), some (.ref la), y3, y4, y5] ∧ Same H G ∧
      G na = some (.lst ((nearL t).map V.int)) ∧ G la = some (.lst (((placeL t).take i).map V.int)))
      ⟨none, none, none, rfl, s1.trans s2, s2 _ _ n1, upd_same⟩ (fun i σ G _ ⟨_, _, _, _, sG, _⟩ => sG.seq hR) ?_ ?_⟩
    · rintro i x σ G H' hi ⟨y3, y4, y5, rfl, sG, gn, gl⟩ ⟨tp, x1, x2, rfl, htp, rfl, e1, e2⟩
      rw [List.length_map, lenR] at hi
      obtain ⟨r, pr, hr', hpr, z0⟩ := PartsAt.nth (pa := pa) PR hi
      have e2' : (R.map fun (r : PRec) => V.ref r.p)[i]? = some x2 := e2
      rw [List.getElem?_map, hpr] at e2'
      cases e1
      cases e2'
      have st := Same.new (o := .tup [.int (i : Nat), .ref pr.p]) htp
      have sG' := sG.trans st
      have z := z0.same sG'
      have gn' := st _ _ gn
      have gl' := st _ _ gl
      have tT : SqT K (upd G tp (.tup [.int (i : Nat), .ref pr.p])) tp [.int (i : Nat), .ref pr.p] := SqT.of upd_same
      generalize upd G tp (.tup [.int (i : Nat), .ref pr.p]) = G1 at st sG' z gn' gl' tT
      refine ⟨tp, _, rfl, tT, rfl, .int (i : Nat), _, rfl, .ref pr.p, _, rfl, rfl, 1, rfl, ?_⟩
      have fin : ∀ (a : Int) (y : Option V), a = placeOf r → ∃ (y3 y4 y5 : Option V), ([some (.ref pa), some (.ref na), some (.ref la), some (.int (i : Nat)), some (.ref pr.p), some (.int a)] : List (Option V)) = [some (.ref pa), some (.ref na), some (.ref la), y3, y4, y5] ∧
          Same H (upd G1 la (.lst (((placeL t).take i).map V.int ++ [.int a]))) ∧ (upd G1 la (.lst (((placeL t).take i).map V.int ++ [.int a]))) na = some (.lst ((nearL t).map V.int)) ∧
          (upd G1 la (.lst (((placeL t).take i).map V.int ++ [.int a]))) la = some (.lst (((placeL t).take (i + 1)).map V.int)) := by
        intro a y e
        subst e
        refine ⟨_, _, _, rfl, fun b o e => ?_, ?_, ?_⟩
        · rw [upd_ne (ne_of_none e hla0)]
          exact sG' b o e
        · rw [upd_ne (ne_of_none n1 hla)]
          exact gn'
        · rw [upd_same, List.take_add_one, show (placeL t)[i]? = some (placeOf r) by rw [placeL, List.getElem?_map, hr']; rfl, List.map_append]
          rfl
      have lsz : (((placeL t).take i).map V.int).length < sizeLine := by
        rw [List.length_map, List.length_take]
        exact small _ (by omega)
      refine ⟨.ref pr.p, rfl, pr.p, C, pr.dx, _, .ref pr.h, rfl, z.ob, T.cl, T.nH, fld_head _ _ _, pr.h, _, _, _, rfl, rfl, z.hd, hd_at0 _, rfl, _, rfl, ?_⟩
      have other : (∀ x, r.sub ≠ .leaf .var x) → V.str (hw r.sub.hd) ≠ V.str "var" ∧ placeOf r = -1 := fun nv => by
        obtain ⟨sb, a, stk⟩ := r
        cases sb with
        | nul b => exact ⟨nv_N b, rfl⟩
        | two b _ _ => exact ⟨nv_T b, rfl⟩
        | one k _ _ => exact ⟨nv_O k, rfl⟩
        | leaf k x =>
          cases k with
          | var => exact absurd rfl (nv x)
          | has => exact ⟨nv_has, rfl⟩
          | lacks => exact ⟨nv_lacks, rfl⟩
      by_cases hv' : ∃ x, r.sub = .leaf .var x
      · obtain ⟨x, hx⟩ := hv'
        have zh := z.hd
        rw [hx] at zh
        rw [hx]
        refine (if_pos (decide_eq_true rfl)).mpr ?_
        have nget : (nearL t)[i]? = some (topPos r.stk) := by rw [nearL, List.getElem?_map, hr']; rfl
        refine ⟨.ref na, rfl, .int (i : Nat), rfl, na, _, _, .int (topPos r.stk), rfl, rfl, SqL.of gn', atI_nat (j := i) (by rw [List.getElem?_map, nget]; rfl), ?_⟩
        have fin' := fin (posOf x r.stk) none (by unfold placeOf; rw [hx])
        refine ⟨fun m σ G' => ∃ (st' : Stk) (j0 : Nat) (r0 : Rec), σ = [some (.ref pa), some (.ref na), some (.ref la), some (.int (i : Nat)), some (.ref pr.p), some (.int (topPos st'))] ∧ G' = G1 ∧ posOf x st' = posOf x r.stk ∧
          (infos t)[j0]? = some r0 ∧ r0.stk = st' ∧ m = st'.length, ⟨_, r.stk, i, r, rfl, rfl, rfl, hr', rfl, rfl⟩, ?_⟩
        rintro m σ G' ⟨st', j0, r0, rfl, rfl, hpos, hr0, rfl, rfl⟩
        refine ⟨.int (topPos r0.stk), rfl, _, _, rfl, rfl, _, rfl, ?_⟩
        have out : ∀ a : Int, a = posOf x r.stk → ∀ σ : L2.St, σ = [some (.ref pa), some (.ref na), some (.ref la), some (.int (i : Nat)), some (.ref pr.p), some (.int a)] → σ = [some (.ref pa), some (.ref na), some (.ref la), some (.int (i : Nat)), some (.ref pr.p), some (.int (posOf x r.stk))] := fun a e σ es => by rw [es, e]
        cases hst : r0.stk with
        | nil =>
          rw [hst] at hpos
          refine iteF (iteF ?_)
          refine ⟨.ref la, rfl, .inl ⟨rfl, _, SqL.of gl'⟩, .int (-1), rfl, la, _, _, rfl, rfl, gl', lsz, ?_⟩
          have e : (-1 : Int) = posOf x r.stk := hpos
          rw [← e] at fin'
          exact fin'
        | cons yp rest =>
          obtain ⟨y, p⟩ := yp
          rw [hst] at hpos
          obtain ⟨hp, kd, f, a, hrp, hk⟩ := infos_stk j0 j0 r0 y p rest (Nat.le_refl _) hr0 hst
          have j0lt : j0 < t.size := by
            have := (List.getElem?_eq_some_iff.mp hr0).1
            omega
          obtain ⟨r2, pr', hr2, hpr', z1⟩ := PartsAt.nth (pa := pa) PR (show p < t.size by omega)
          rw [hrp] at hr2
          cases hr2
          have z' := z1.same sG'
          refine (if_pos (decide_eq_true (Int.natCast_nonneg p))).mpr ?_
          refine ⟨.ref pa, rfl, .int (p : Nat), rfl, pa, _, _, .ref pr'.p, rfl, rfl, sG'.seq hR, atI_nat (j := p) (by rw [List.getElem?_map, hpr']; rfl), pr'.p, C, pr'.dx, _, .ref pr'.h, rfl, z'.ob, T.cl, T.nH, fld_head _ _ _, pr'.h, _, 1, .int y, rfl, rfl, z'.hd, atI_nat (j := 1) rfl, ?_⟩
          refine ⟨.ref pr.p, rfl, pr.p, C, pr.dx, _, .ref pr.h, rfl, z.ob, T.cl, T.nH, fld_head _ _ _, pr.h, _, 1, .int x, rfl, rfl, zh, atI_nat (j := 1) rfl, rfl, _, rfl, ?_⟩
          by_cases e : y = x
          · subst e
            rw [decide_eq_true (rfl : V.int y = V.int y)]
            refine iteF ?_
            refine ⟨.ref la, rfl, .inl ⟨rfl, _, SqL.of gl'⟩, .int (p : Nat), rfl, la, _, _, rfl, rfl, gl', lsz, ?_⟩
            have e : ((p : Nat) : Int) = posOf y r.stk := by rw [← hpos]; simp [posOf]
            rw [← e] at fin'
            exact fin'
          · rw [decide_eq_false (fun q : V.int y = V.int x => e (V.int.inj q))]
            refine iteT ⟨_, fun σ' H' z => z, ?_⟩
            refine ⟨.ref na, rfl, .int (p : Nat), rfl, na, _, _, .int (topPos rest), rfl, rfl, SqL.of gn', atI_nat (j := p) (by rw [List.getElem?_map, nearL, List.getElem?_map, hrp]; rfl), ?_⟩
            refine ⟨rest.length, Nat.lt_succ_self _, rest, p, _, rfl, rfl, ?_, hrp, rfl, rfl⟩
            rw [← hpos]
            simp only [posOf]
            rw [if_neg e]
      · obtain ⟨n1', n2'⟩ := other fun x e => hv' ⟨x, e⟩
        refine (if_neg (by rw [decide_eq_false n1']; exact Bool.false_ne_true)).mpr ?_
        refine ⟨.ref la, rfl, .inl ⟨rfl, _, SqL.of gl'⟩, .int (-1), rfl, la, _, _, rfl, rfl, gl', lsz, ?_⟩
        exact fin (-1) none n2'.symm
    · rintro σ G ⟨y3, y4, y5, rfl, sG, gn, gl⟩
      refine ⟨_, rfl, k la G sG ?_⟩
      rw [gl, List.length_map, lenR, List.take_of_length_le (by omega)]
end
end Fw

set_option maxRecDepth 100000
set_option maxHeartbeats 2000000
namespace Fw
open PySem PySem.Spec PyProof.Rows L2
theorem filter_more {S : Int → Bool} {k : Int} : ∀ {l : List Int}, l.Nodup → k ∈ l → (l.filter fun j => S j || decide (j = k)).length = if S k = true then (l.filter S).length else (l.filter S).length + 1
  | [], _, h => by cases h
  | a :: l, nd, h => by
    have nd' := List.nodup_cons.mp nd
    by_cases e : a = k
    · subst e
      have same : (l.filter fun j => S j || decide (j = a)) = l.filter S := by
        refine List.filter_congr fun x hx => ?_
        have : x ≠ a := fun q => nd'.1 (q ▸ hx)
        simp [this]
      by_cases hs : S a = true
      · simp [List.filter_cons, hs, same]
      · simp [List.filter_cons, hs, same]
    · have hk : k ∈ l := (List.mem_cons.mp h).resolve_left fun q => e q.symm
      have ih := filter_more (S := S) nd'.2 hk
      by_cases ha : S a = true
      · simp only [List.filter_cons, ha, Bool.true_or, if_true, List.length_cons, ih]
        split <;> rfl
      · have ha' : S a = false := by simpa using ha
        simp only [List.filter_cons, ha', Bool.false_or, decide_eq_false e, Bool.false_eq_true, if_false, ih]
theorem none_len (l : List Int) : 0 = (l.filter fun _ => false).length := by
  induction l with
  | nil => rfl
  | cons a l ih => simpa [List.filter_cons] using ih
theorem none_yet {I : List Rec} {x : Int} : false = true ↔ ∃ (j : Nat) (r : Rec), j < 0 ∧ I[j]? = some r ∧ r.sub = .leaf .var x ∧ x ∉ r.stk.map (·.1) :=
  ⟨fun e => (Bool.false_ne_true e).elim, fun ⟨_, _, h, _⟩ => absurd h (Nat.not_lt_zero _)⟩
section
variable {P : Program} {w : World} {K : PySem.W.Frag} {mg : Str → Option Value} {base : Heap} {C J B : Addr}
/-! ### free_variables -/
def spFree (K : PySem.W.Frag) : Sp := fun vs H Q _ => ∃ (v : V) (t : F) (Vs : List Int), vs = [v] ∧ IsF K H v t ∧ t.size ≤ 1000 ∧ Vs.Nodup ∧ Vs.length < 64 ∧ (∀ x ∈ freeL t [], x ∈ Vs) ∧
  ∀ (ns : List Int) p H', Same H H' → ns.Pairwise (· < ·) → (∀ x, x ∈ ns ↔ x ∈ freeL t []) → H' p = some (.lst (ns.map V.int)) → Q (.ref p) H'
theorem ok_free_variables {f : Addr} {fd : FuncData} (FF : Fun K "free_variables" "free_variables" s_free_variables f fd) (T : Txt K mg C J B)
    (h_parts_of : Has P w K mg base "parts_of" 3 a_parts_of (spParts K C)) (h_binder_places : Has P w K mg base "binder_places" 2 a_binder_places (spPlaces K C)) : FnOk P w K mg base CX0 4 f fd a_free_variables (spFree K) := by
  refine FF.ok sc_free_variables (fun vs H Q E h => ?_) (fun cdv A outer s H vs Q E hr h => ?_)
  · obtain ⟨v, t, Vs, rfl, _⟩ := h
    rfl
  · obtain ⟨v, t, Vs, rfl, ht, hsz, nd, l64, sub, k⟩ := h
    have lenI : (infos t).length = t.size := info_len _ _ _ _
    refine ⟨_, (pss_cons (ps_set (i := 1) sc_free_variables.nd rfl (.inl rfl) (pe_callH h_parts_of (hr.mono (by omega)) (pa_cons (pv 0) pa_nil)))
      (pss_cons (ps_set (i := 2) sc_free_variables.nd rfl (.inl rfl) (pe_callH h_binder_places (hr.mono (by omega)) (pa_cons (pv 1) pa_nil)))
      (pss_one (ps_ret (pe_callB (cr_sortedSet rfl) rfl T.z_sorted (by decide +kernel) (pa_cons (pe_sci (own := [("part", 3), ("place", 4)]) rfl sc_free_variables.nd (pi_zip rfl T.z_zip (pa_cons (pv 1) (pa_cons (pv 2) pa_nil))) (blkOk_by (own := [("part", 3), ("place", 4)]) (N := n_free_variables) (sc := defScope s_free_variables) (by decide +kernel)) (fun _ _ _ _ _ => (show PG _ _ (gTup K 2 _) from pg_tup rfl (pgs_cons (pg_name (i := 3) sc_free_variables.nd rfl (.inl rfl)) (pgs_cons (pg_name (i := 4) sc_free_variables.nd rfl (.inl rfl)) pgs_nil)))) (fun _ _ _ _ _ => (pts_one (PW.pt (pw_and (pt_cmpR op_eq (pe_ix (@id (IxR _ (rIxT K)) ix_tup) (show PE _ _ (tFld K _ "head") from pe_fld (pv 3) rfl) pe_int (fun _ _ => rfl)) pe_str (nomark _)) (pw_and1 (pt_cmpR op_lt (pv 4) pe_int (nomark _))))))) (fun _ _ _ _ _ => (pe_ix (@id (IxR _ (rIxT K)) ix_tup) (show PE _ _ (tFld K _ "head") from pe_fld (pv 3) rfl) pe_int (fun _ _ => rfl)))) pa_nil)))))), ?_⟩
    refine ⟨v, rfl, v, t, rfl, ht, hsz, fun pa H1 s1 PA => ?_⟩
    refine ⟨.ref pa, rfl, pa, t, rfl, PA, hsz, fun la H2 s2 hl => ?_⟩
    obtain ⟨R, hR, PR⟩ := id (PA.same s2)
    have lenR : R.length = t.size := by rw [PR.1, pre_len]
    refine ⟨.ref pa, rfl, .ref la, rfl, pa, la, _, _, rfl, hR, SqL.of hl, fun D hD => ?_⟩
    refine sci_it (walk_zip (n := t.size) (xs := R.map fun (r : PRec) => V.ref r.p) (ys := (placeL t).map V.int) (by rw [List.length_map, List.length_map, placeL, List.length_map, lenI, lenR, Nat.min_self]))
      (fun i G => Same H2 G ∧ ∃ S n, G D = some (SetO w D S n) ∧ n = (Vs.filter S).length ∧ ∀ x, S x = true ↔ ∃ (j : Nat) (r : Rec), j < i ∧ (infos t)[j]? = some r ∧ r.sub = .leaf .var x ∧ x ∉ r.stk.map (·.1))
      ⟨Same.new hD, fun _ => false, 0, upd_same, none_len Vs, fun x => none_yet⟩ (fun i G _ q => ⟨q.1.seq hR, SqL.of (q.1 _ _ hl)⟩) ?_ ?_
    · rintro i x G G' hi ⟨sG, S, n, hS, rfl, hSx⟩ ⟨tp, x1, x2, rfl, htp, rfl, e1, e2⟩
      obtain ⟨r, pr, hr', hpr, z0⟩ := PartsAt.nth (pa := pa) PR hi
      have e1' : (R.map fun (r : PRec) => V.ref r.p)[i]? = some x1 := e1
      have e2' : ((placeL t).map V.int)[i]? = some x2 := e2
      rw [List.getElem?_map, hpr] at e1'
      rw [List.getElem?_map, placeL, List.getElem?_map, hr'] at e2'
      cases e1'
      cases e2'
      have st := Same.new (o := .tup [.ref pr.p, .int (placeOf r)]) htp
      have sG' := sG.trans st
      have z := z0.same sG'
      have hS' := st _ _ hS
      have tT : SqT K (upd G tp (.tup [.ref pr.p, .int (placeOf r)])) tp [.ref pr.p, .int (placeOf r)] := SqT.of upd_same
      generalize upd G tp (.tup [.ref pr.p, .int (placeOf r)]) = G1 at st sG' z hS' tT
      refine ⟨tp, _, rfl, tT, rfl, .ref pr.p, _, rfl, .int (placeOf r), _, rfl, rfl, rfl, ?_⟩
      have noteq : (∀ x, ¬ (r.sub = .leaf .var x ∧ x ∉ r.stk.map (·.1))) → ∀ x, S x = true ↔ ∃ (j : Nat) (r : Rec), j < i + 1 ∧ (infos t)[j]? = some r ∧ r.sub = .leaf .var x ∧ x ∉ r.stk.map (·.1) := by
        intro hno x
        rw [hSx x]
        constructor
        · rintro ⟨j, r', h1, h2⟩
          exact ⟨j, r', by omega, h2⟩
        · rintro ⟨j, r', h1, h2, h3⟩
          by_cases e : j = i
          · subst e
            rw [hr'] at h2
            cases h2
            exact absurd h3 (hno x)
          · exact ⟨j, r', by omega, h2, h3⟩
      refine ⟨.ref pr.p, rfl, pr.p, C, pr.dx, _, .ref pr.h, rfl, z.ob, T.cl, T.nH, fld_head _ _ _, pr.h, _, _, _, rfl, rfl, z.hd, hd_at0 _, rfl, _, rfl, ?_⟩
      have ie : ∀ x y : Int, r.sub = .leaf .var x → F.leaf .var x = .leaf .var y → x = y := fun x y _ e => by injection e
      by_cases hv' : ∃ x, r.sub = .leaf .var x
      · obtain ⟨x, hx⟩ := hv'
        have zh := z.hd
        have hp : placeOf r = posOf x r.stk := by unfold placeOf; rw [hx]
        rw [hx] at zh
        rw [hx]
        refine (if_pos (decide_eq_true rfl)).mpr ?_
        refine ⟨.int (placeOf r), rfl, _, _, rfl, rfl, _, rfl, ?_⟩
        refine ite2 (fun c => ?_) (fun c => ?_)
        · have hneg : x ∉ r.stk.map (·.1) := (posOf_neg x r.stk).mp (by rw [← hp]; exact of_decide_eq_true c)
          have hxV : x ∈ Vs := sub x ((free_iff x t [] (-1) 0 [] (by simp)).mpr ⟨r, List.mem_of_getElem? hr', hx, hneg⟩)
          refine ⟨.ref pr.p, rfl, pr.p, C, pr.dx, _, .ref pr.h, rfl, z.ob, T.cl, T.nH, fld_head _ _ _, pr.h, _, 1, .int x, rfl, rfl, zh, atI_nat (j := 1) rfl, x, S, _, rfl, hS', ?_, ?_⟩
          · have := List.length_filter_le S Vs
            exact Nat.lt_of_le_of_lt (show _ ≤ 64 by omega) (by decide)
          · refine ⟨fun b o e => by rw [upd_ne (ne_of_none e hD)]; exact sG' b o e, _, _, upd_same, (filter_more nd hxV).symm, fun y => ?_⟩
            rw [Bool.or_eq_true, decide_eq_true_eq, hSx y]
            constructor
            · rintro (⟨j, r', h1, h2⟩ | rfl)
              · exact ⟨j, r', by omega, h2⟩
              · exact ⟨i, r, by omega, hr', hx, hneg⟩
            · rintro ⟨j, r', h1, h2, h3⟩
              by_cases e : j = i
              · subst e
                rw [hr'] at h2
                cases h2
                rw [hx] at h3
                exact .inr (ie x y hx h3.1).symm
              · exact .inl ⟨j, r', by omega, h2, h3⟩
        · refine ⟨sG', S, _, hS', rfl, noteq fun y q => ?_⟩
          rw [hx] at q
          have exy := ie x y hx q.1
          subst exy
          exact c (decide_eq_true (by rw [hp]; exact (posOf_neg x r.stk).mpr q.2))
      · have n1' : V.str (hw r.sub.hd) ≠ V.str "var" := by
          cases hs : r.sub with
          | nul b => exact nv_N b
          | two b _ _ => exact nv_T b
          | one k _ _ => exact nv_O k
          | leaf k x =>
            cases k with
            | var => exact absurd ⟨x, hs⟩ hv'
            | has => exact nv_has
            | lacks => exact nv_lacks
        refine (if_neg (by rw [decide_eq_false n1']; exact Bool.false_ne_true)).mpr ?_
        exact ⟨sG', S, _, hS', rfl, noteq fun y q => hv' ⟨y, q.1⟩⟩
    · rintro G ⟨sG, S, n, hS, rfl, hSx⟩
      refine ⟨D, S, _, rfl, hS, Nat.lt_of_le_of_lt (List.length_filter_le _ _) l64, fun ns p pw mem len hp => ?_⟩
      refine k ns p _ (s1.trans (s2.trans (sG.trans (Same.new hp)))) pw (fun x => ?_) upd_same
      rw [mem x, hSx x, free_iff x t [] (-1) 0 [] (by simp)]
      constructor
      · rintro ⟨j, r, h1, h2, h3⟩
        exact ⟨r, List.mem_of_getElem? h2, h3⟩
      · rintro ⟨r, h1, h2⟩
        obtain ⟨j, hj⟩ := List.mem_iff_getElem?.mp h1
        have := (List.getElem?_eq_some_iff.mp hj).1
        exact ⟨j, r, by rw [info_len] at this; exact this, hj, h2⟩
end
end Fw

set_option maxRecDepth 100000
set_option maxHeartbeats 2000000
namespace Fw
open PySem PySem.Spec PyProof.Rows L2
theorem SqT.butD {K : PySem.W.Frag} {G1 G2 : Hp} {a d : Addr} {xs : List V} {kvs : List (Key × V)} (hd : G1 d = some (.dK kvs)) (s : ∀ b o, b ≠ d → G1 b = some o → G2 b = some o) (h : SqT K G1 a xs) : SqT K G2 a xs := by
  rcases h with h | h
  · rcases h with h | ⟨u, h⟩
    · exact .inl (.inl (s _ _ (ne_of h hd (by intro z; cases z)) h))
    · exact .inl (.inr ⟨u, s _ _ (ne_of h hd (by intro z; cases z)) h⟩)
  · exact .inr h
section
variable {P : Program} {w : World} {K : PySem.W.Frag} {mg : Str → Option Value} {base : Heap} {C J B NC FE : Addr}
/-- a statement whose free variables are few -/
def Few (t : F) : Prop := ∃ Vs : List Int, Vs.Nodup ∧ Vs.length < 64 ∧ ∀ x ∈ freeL t [], x ∈ Vs
theorem Few.closed {t : F} (h : Closed t) : Few t := ⟨[], List.nodup_nil, by decide, fun x hx => by rw [closed_iff.mpr h] at hx; exact hx⟩
/-! ### ensure_closed -/
def spEnsure (K : PySem.W.Frag) (NC : Addr) : Sp := fun vs H Q E => ∃ (v : V) (t : F), vs = [v] ∧ IsF K H v t ∧ t.size ≤ 1000 ∧ Few t ∧
  (Closed t → ∀ H', Same H H' → Q .non H') ∧ (¬ Closed t → ∀ H', Same H H' → E (.ref NC) none H')
theorem ok_ensure_closed {f : Addr} {fd : FuncData} (FF : Fun K "ensure_closed" "ensure_closed" s_ensure_closed f fd) (T : Txt K mg C J B) (TE : TxtE K mg NC FE)
    (h_free_variables : Has P w K mg base "free_variables" 4 a_free_variables (spFree K)) : FnOk P w K mg base (L2.CX P w) 5 f fd a_ensure_closed (spEnsure K NC) := by
  refine FF.okX sc_ensure_closed (fun vs H Q E h => ?_) (fun cdv A outer s H vs Q E hr h => ?_)
  · obtain ⟨v, t, rfl, _⟩ := h
    rfl
  · obtain ⟨v, t, rfl, ht, hsz, ⟨Vs, nd, l64, sub⟩, k1, k2⟩ := h
    refine ⟨_, (pss_one (ps_if (pt_truth (pe_callH h_free_variables (hr.mono (by omega)) (pa_cons (pv 0) pa_nil)) (by intro _; rfl)) (pss_one (ps_raise rfl (takes_of rfl rfl rfl rfl) (pmk_own PySem.F.excBase_ValueError TE.xC TE.gC TE.kC (raises_own TE.bC TE.tC) (by exact rfl)))) pss_nil)), ?_⟩
    refine ⟨v, rfl, v, t, Vs, rfl, ht, hsz, nd, l64, sub, fun ns p H' s1 pw mem hp => ?_⟩
    refine ⟨!(ns.map V.int).isEmpty, .inl ⟨_, SqL.of hp, rfl⟩, ?_⟩
    cases ns with
    | nil =>
      refine iteF ?_
      exact k1 (closed_iff.mp (List.eq_nil_iff_forall_not_mem.mpr fun x hx => by have := (mem x).mpr hx; cases this)) H' s1
    | cons x ns =>
      refine iteT ?_
      refine k2 (fun c => ?_) H' s1
      have := (mem x).mp List.mem_cons_self
      rw [closed_iff.mpr c] at this
      cases this
end
end Fw

set_option maxRecDepth 100000
set_option maxHeartbeats 2000000
namespace Fw
open PySem PySem.Spec PyProof.Rows L2
def Draws (H : Hp) (d : Addr) : Prop := ∃ ds : List Int, H d = some (.lst (ds.map V.int))
theorem Draws.lst {H : Hp} {d : Addr} (h : Draws H d) : IsLst H d := by
  obtain ⟨ds, e⟩ := h
  exact ⟨_, e⟩
theorem fmod_in {a b : Int} (h : 0 < b) : 0 ≤ a.fmod b ∧ a.fmod b < b := by
  rw [Int.fmod_eq_emod_of_nonneg a (Int.le_of_lt h)]
  exact ⟨Int.emod_nonneg a (by omega), Int.emod_lt_of_pos a h⟩
theorem nz1 : (1000 : Int) ≠ 0 := by decide
theorem nz2 : (2147483647 : Int) ≠ 0 := by decide
theorem nz3 : (1000003 : Int) ≠ 0 := by decide
theorem sq_small {m : Int} (h0 : 0 ≤ m) (h1 : m < 2147483647) : -(2 ^ 64) < m ∧ m < 2 ^ 64 := ⟨by omega, by omega⟩
theorem isTup {K : PySem.W.Frag} {H : Hp} {a : Addr} {xs : List V} (h : SqT K H a xs) : TyX K H (.ref a) (.type "tuple") := by
  rcases h with h | ⟨o, _, _, e, c, _⟩
  · rcases h with h | ⟨u, h⟩
    · exact .base (.tup h)
    · exact .fTuple h
  · exact .kTuple e c
theorem IsF.ty {K : PySem.W.Frag} {H : Hp} {v : V} {t : F} (h : IsF K H v t) : TyX K H v (.type "tuple") := by
  obtain ⟨a, ks, rfl, sq, _⟩ := h.open
  exact isTup sq
section
variable {P : Program} {w : World} {K : PySem.W.Frag} {mg : Str → Option Value} {base : Heap} {C J B NC FE : Addr}
/-! ### the law's draws -/
def spDraws (K : PySem.W.Frag) : Sp := fun vs H Q _ => ∃ (a : Addr) (ns : List Int) (c : Int), vs = [.ref a, .int c] ∧ SqL K H a (ns.map V.int) ∧ ns.length ≤ 63 ∧ 0 ≤ c ∧ c ≤ 1000 ∧
  ∀ d H', Same H H' → H d = none → Draws H' d → Q (.ref d) H'
theorem ok_law_draws {f : Addr} {fd : FuncData} (FF : Fun K "_law_draws" "_law_draws" s_law_draws f fd) (T : Txt K mg C J B) : FnOk P w K mg base CX0 1 f fd a_law_draws (spDraws K) := by
  refine FF.ok sc_law_draws (fun vs H Q E h => ?_) (fun cdv A outer s H vs Q E hr h => ?_)
  · obtain ⟨a, ns, c, rfl, _⟩ := h
    rfl
  · obtain ⟨a, ns, c, rfl, hS, hlen, c0, c1, k⟩ := h
    refine ⟨_, (pss_cons (ps_set (i := 2) sc_law_draws.nd rfl (.inl rfl) (pe_callTy call_list_of rfl T.z_list (by decide +kernel) (pa_cons (pv 0) pa_nil)))
      (pss_cons (ps_if (pt_cmpR op_eq (pe_callB call_len_seq rfl T.z_len (by decide +kernel) (pa_cons (pv 2) pa_nil)) pe_int (nomark _)) (pss_one (ps_set (i := 2) sc_law_draws.nd rfl (.inl rfl) (pe_lst (pa_cons pe_int pa_nil)))) pss_nil)
      (pss_cons (ps_set (i := 3) sc_law_draws.nd rfl (.inl rfl) (pe_lst pa_nil))
      (pss_cons (ps_set (i := 4) sc_law_draws.nd rfl (.inl rfl) pe_int)
      (pss_cons (ps_for PassesOwn.never rfl (pi_range1 rfl T.z_range (pa_cons (pv 1) pa_nil)) (pg_name (i := 5) sc_law_draws.nd rfl (.inl rfl)) (pss_cons (ps_set (i := 6) sc_law_draws.nd rfl (.inl rfl) (pe_op op_modN (pv 5) (pe_callB call_len_seq rfl T.z_len (by decide +kernel) (pa_cons (pv 2) pa_nil))))
      (pss_cons (ps_set (i := 7) sc_law_draws.nd rfl (.inl rfl) (pe_ix ix_list (pv 2) (pv 6) (fun _ _ => rfl)))
      (pss_cons (ps_set (i := 4) sc_law_draws.nd rfl (.inl rfl) (pe_op op_modN (pe_callTy call_int1 rfl T.z_int (by decide +kernel) (pa_cons (pe_op op_add (pe_op op_add (pe_op op_add (pe_op op_mul (pv 4) pe_int) (pe_op op_mul (pe_op op_modN (pe_callTy call_int1 rfl T.z_int (by decide +kernel) (pa_cons (pv 7) pa_nil)) pe_int) pe_int)) (pe_op op_mul (pv 5) pe_int)) pe_int) pa_nil)) pe_int))
      (pss_cons (ps_set (i := 8) sc_law_draws.nd rfl (.inl rfl) (pe_op op_modN (pe_callTy call_int1 rfl T.z_int (by decide +kernel) (pa_cons (pe_op op_add (pe_op op_add (pe_op op_mul (pv 4) (pv 4)) (pe_op op_mul pe_int (pv 4))) (pv 5)) pa_nil)) pe_int))
      (pss_one (ps_if (pt_cmpR op_ge (pv 7) (pe_op op_pow pe_int pe_int) (nomark _)) (pss_cons (ps_expr (pe_bm PySem.F.plainAttrs_list PySem.F.slot_list_append PySem.F.type_list_append mt_append (pv 3) (pa_cons (pe_op op_modN (pe_callTy call_int1 rfl T.z_int (by decide +kernel) (pa_cons (pv 7) pa_nil)) pe_int) pa_nil)))
      (pss_one (ps_asg (pe_op op_fdivN (pv 7) pe_int) (pg_sub (pv 2) (pv 6) set_list)))) (pss_one (ps_expr (pe_bm PySem.F.plainAttrs_list PySem.F.slot_list_append PySem.F.type_list_append mt_append (pv 3) (pa_cons (pe_op op_modN (pe_callTy call_int1 rfl T.z_int (by decide +kernel) (pa_cons (pv 8) pa_nil)) pe_int) pa_nil)))))))))))
      (pss_cons (ps_expr (pe_bm0 PySem.F.plainAttrs_list PySem.F.slot_list_reverse PySem.F.type_list_reverse mt_reverse (pv 3)))
      (pss_one (ps_ret (pv 3))))))))), ?_⟩
    refine ⟨.ref a, rfl, a, _, rfl, .inl hS, fun ca hca => ?_⟩
    have s1 := Same.new (o := .lst (ns.map V.int)) hca
    refine ⟨.ref ca, rfl, ca, _, rfl, .inl (SqL.of upd_same), rfl, _, rfl, ?_⟩
    have fresh : H ca = none := hca
    have goal : ∀ (cb : Addr) (cs : List Int) (G0 : Hp), Same H G0 → H cb = none → G0 cb = some (.lst (cs.map V.int)) → cs ≠ [] → cs.length ≤ 63 → True := fun _ _ _ _ _ _ _ _ => trivial
    refine ite2 (fun c => ?_) (fun c => ?_)
    · refine ⟨by show 1 ≤ sizeLine; decide, fun cb hcb => ?_⟩
      have s2 := Same.new (o := .lst [V.int 7]) hcb
      have sG0 := s1.trans s2
      have hcb0 := s1.free hcb
      have gcb : (upd (upd H ca (.lst (ns.map V.int))) cb (.lst [V.int 7])) cb = some (.lst (([7] : List Int).map V.int)) := upd_same
      generalize upd (upd H ca (.lst (ns.map V.int))) cb (.lst [V.int 7]) = G0 at sG0 gcb
      have hne : ([7] : List Int) ≠ [] := by simp
      have hl63 : ([7] : List Int).length ≤ 63 := by decide
      generalize ([7] : List Int) = cs at gcb hne hl63
      clear s2 s1 hca fresh hcb c goal hlen hS
      refine ⟨Nat.zero_le _, fun fa hfa => ?_⟩
      have s3 := Same.new (o := .lst []) hfa
      have hfa0 := sG0.free hfa
      have fcb : fa ≠ cb := fun e => by rw [e, gcb] at hfa; cases hfa
      refine ⟨.int c, rfl, c, rfl, by omega, by omega, ?_⟩
      refine for_range (lo := 0) (n := c.toNat) (fun i σ G => ∃ (cs' ds : List Int) (m : Int) (y5 y6 y7 y8 : Option V), σ = [some (.ref a), some (.int c), some (.ref cb), some (.ref fa), some (.int m), y5, y6, y7, y8] ∧ Same H G ∧
          G cb = some (.lst (cs'.map V.int)) ∧ cs'.length = cs.length ∧ G fa = some (.lst (ds.map V.int)) ∧ ds.length = i ∧ 0 ≤ m ∧ m < 2147483647)
        ⟨cs, [], 12345, none, none, none, none, rfl, sG0.trans s3, s3 _ _ gcb, rfl, upd_same, rfl, by decide, by decide⟩ ?_ ?_
      · rintro i σ G hi ⟨cs', ds, m, y5, y6, y7, y8, rfl, sG, gc, lc, gf, ld, m0, m1⟩
        have hic : (i : Int) < c := by omega
        rw [Int.zero_add]
        have lpos : 0 < cs'.length := by rw [lc]; exact List.length_pos_iff.mpr hne
        have lmap : ((cs'.map V.int).length : Int) = (cs'.length : Int) := by rw [List.length_map]
        -- j = k % len(cells)
        refine ⟨.int (i : Nat), rfl, .ref cb, rfl, cb, _, rfl, .inl (SqL.of gc), _, _, rfl, rfl, by rw [lmap]; omega, ?_⟩
        rw [lmap]
        have hj := fmod_in (a := (i : Int)) (b := (cs'.length : Int)) (by omega)
        obtain ⟨j, hJ⟩ : ∃ j : Nat, (i : Int).fmod (cs'.length : Int) = (j : Int) := ⟨((i : Int).fmod (cs'.length : Int)).toNat, by omega⟩
        rw [hJ] at hj
        have hjl : j < cs'.length := by omega
        obtain ⟨x, hx⟩ : ∃ x, cs'[j]? = some x := ⟨cs'[j], by simp [hjl]⟩
        -- cell = cells[j]
        refine ⟨.ref cb, rfl, _, rfl, cb, _, _, .int x, rfl, rfl, SqL.of gc, by rw [hJ]; exact atI_nat (j := j) (by rw [List.getElem?_map, hx]; rfl), ?_⟩
        -- mixed
        have x3 := fmod_in (a := x) (b := 1000003) (by decide)
        refine ⟨.int m, rfl, m, 48271, rfl, rfl, .inl (sq_small m0 m1), .int x, rfl, .inl ⟨x, rfl, x, 1000003, rfl, rfl, nz3, x.fmod 1000003, 69621, rfl, rfl, .inl ⟨by omega, by omega⟩, _, _, rfl, rfl, .int (i : Nat), rfl, (i : Int), 7919, rfl, rfl, .inl ⟨by omega, by omega⟩, _, _, rfl, rfl, _, 11, rfl, rfl, .inl ⟨_, rfl, _, 2147483647, rfl, rfl, nz2, ?_⟩⟩⟩
        have mm := fmod_in (a := m * 48271 + x.fmod 1000003 * 69621 + (i : Int) * 7919 + 11) (b := 2147483647) (by decide)
        -- again
        refine ⟨_, rfl, _, rfl, _, _, rfl, rfl, .inl (sq_small mm.1 mm.2), _, rfl, 31, _, rfl, rfl, .inl ⟨by decide, by decide⟩, _, _, rfl, rfl, _, rfl, _, _, rfl, rfl, .inl ⟨_, rfl, _, 1000003, rfl, rfl, nz3, ?_⟩⟩
        -- if cell >= 10 ** 18
        refine ⟨.int x, rfl, 10, 18, rfl, rfl, ⟨by decide, by decide, by decide⟩, _, _, rfl, rfl, _, rfl, ite2 (fun _ => ?_) (fun _ => ?_)⟩
        · refine ⟨.ref fa, rfl, .inl ⟨rfl, _, SqL.of gf⟩, .int x, rfl, .inl ⟨x, rfl, x, 1000, rfl, rfl, nz1, fa, _, _, rfl, rfl, gf, by rw [List.length_map]; exact small1000 (by omega), ?_⟩⟩
          have gc2 : (upd G fa (.lst (ds.map V.int ++ [V.int (x.fmod 1000)]))) cb = some (.lst (cs'.map V.int)) := by rw [upd_ne fcb.symm]; exact gc
          refine ⟨.int x, rfl, x, 1000, rfl, rfl, ⟨by decide, by decide⟩, .ref cb, rfl, _, rfl, cb, _, _, j, rfl, rfl, gc2, by rw [hJ]; unfold ixN; rw [if_pos (by omega), if_pos (by rw [List.length_map]; omega), Int.toNat_natCast], ?_⟩
          refine ⟨cs'.set j (x.fdiv 1000), ds ++ [x.fmod 1000], _, _, _, _, _, rfl, fun b o e => ?_, ?_, by rw [List.length_set]; exact lc, ?_, by rw [List.length_append, ld]; rfl, mm.1, mm.2⟩
          · rw [upd_ne (ne_of_none e hcb0), upd_ne (ne_of_none e hfa0)]
            exact sG b o e
          · rw [upd_same, List.map_set]
          · rw [upd_ne fcb, upd_same, List.map_append]
            rfl
        · refine ⟨.ref fa, rfl, .inl ⟨rfl, _, SqL.of gf⟩, _, rfl, .inl ⟨_, rfl, _, 1000, rfl, rfl, nz1, fa, _, _, rfl, rfl, gf, by rw [List.length_map]; exact small1000 (by omega), ?_⟩⟩
          obtain ⟨ag, hag⟩ : ∃ ag : Int, ag = (((m * 48271 + x.fmod 1000003 * 69621 + (i : Int) * 7919 + 11).fmod 2147483647 * (m * 48271 + x.fmod 1000003 * 69621 + (i : Int) * 7919 + 11).fmod 2147483647 + 31 * (m * 48271 + x.fmod 1000003 * 69621 + (i : Int) * 7919 + 11).fmod 2147483647 + (i : Int)).fmod 1000003).fmod 1000 := ⟨_, rfl⟩
          refine ⟨cs', ds ++ [ag], _, _, _, _, _, rfl, fun b o e => ?_, ?_, lc, ?_, by rw [List.length_append, ld]; rfl, mm.1, mm.2⟩
          · rw [upd_ne (ne_of_none e hfa0)]
            exact sG b o e
          · rw [upd_ne fcb.symm]
            exact gc
          · rw [upd_same, List.map_append, hag]
            rfl
      · rintro σ G ⟨cs', ds, m, y5, y6, y7, y8, rfl, sG, gc, lc, gf, ld, m0, m1⟩
        refine ⟨.ref fa, rfl, .inl ⟨rfl, _, SqL.of gf⟩, fa, _, rfl, rfl, gf, .ref fa, rfl, ?_⟩
        refine k fa _ (fun b o e => ?_) hfa0 ⟨ds.reverse, by rw [upd_same, List.map_reverse]⟩
        rw [upd_ne (ne_of_none e hfa0)]
        exact sG b o e
    · have hne : ns ≠ [] := fun e => c (decide_eq_true (by rw [e]; rfl))
      have sG0 := s1
      have hcb0 := fresh
      have gcb : (upd H ca (.lst (ns.map V.int))) ca = some (.lst (ns.map V.int)) := upd_same
      generalize upd H ca (.lst (ns.map V.int)) = G0 at sG0 gcb
      have hl63 := hlen
      clear s1 hca fresh c goal hlen hS
      obtain ⟨cb, ecb⟩ : ∃ cb : Addr, cb = ca := ⟨_, rfl⟩
      obtain ⟨cs, ecs⟩ : ∃ cs : List Int, cs = ns := ⟨_, rfl⟩
      subst ecb
      subst ecs
      refine ⟨Nat.zero_le _, fun fa hfa => ?_⟩
      have s3 := Same.new (o := .lst []) hfa
      have hfa0 := sG0.free hfa
      have fcb : fa ≠ cb := fun e => by rw [e, gcb] at hfa; cases hfa
      refine ⟨.int c, rfl, c, rfl, by omega, by omega, ?_⟩
      refine for_range (lo := 0) (n := c.toNat) (fun i σ G => ∃ (cs' ds : List Int) (m : Int) (y5 y6 y7 y8 : Option V), σ = [some (.ref a), some (.int c), some (.ref cb), some (.ref fa), some (.int m), y5, y6, y7, y8] ∧ Same H G ∧
          G cb = some (.lst (cs'.map V.int)) ∧ cs'.length = cs.length ∧ G fa = some (.lst (ds.map V.int)) ∧ ds.length = i ∧ 0 ≤ m ∧ m < 2147483647)
        ⟨cs, [], 12345, none, none, none, none, rfl, sG0.trans s3, s3 _ _ gcb, rfl, upd_same, rfl, by decide, by decide⟩ ?_ ?_
      · rintro i σ G hi ⟨cs', ds, m, y5, y6, y7, y8, rfl, sG, gc, lc, gf, ld, m0, m1⟩
        have hic : (i : Int) < c := by omega
        rw [Int.zero_add]
        have lpos : 0 < cs'.length := by rw [lc]; exact List.length_pos_iff.mpr hne
        have lmap : ((cs'.map V.int).length : Int) = (cs'.length : Int) := by rw [List.length_map]
        -- j = k % len(cells)
        refine ⟨.int (i : Nat), rfl, .ref cb, rfl, cb, _, rfl, .inl (SqL.of gc), _, _, rfl, rfl, by rw [lmap]; omega, ?_⟩
        rw [lmap]
        have hj := fmod_in (a := (i : Int)) (b := (cs'.length : Int)) (by omega)
        obtain ⟨j, hJ⟩ : ∃ j : Nat, (i : Int).fmod (cs'.length : Int) = (j : Int) := ⟨((i : Int).fmod (cs'.length : Int)).toNat, by omega⟩
        rw [hJ] at hj
        have hjl : j < cs'.length := by omega
        obtain ⟨x, hx⟩ : ∃ x, cs'[j]? = some x := ⟨cs'[j], by simp [hjl]⟩
        -- cell = cells[j]
        refine ⟨.ref cb, rfl, _, rfl, cb, _, _, .int x, rfl, rfl, SqL.of gc, by rw [hJ]; exact atI_nat (j := j) (by rw [List.getElem?_map, hx]; rfl), ?_⟩
        -- mixed
        have x3 := fmod_in (a := x) (b := 1000003) (by decide)
        refine ⟨.int m, rfl, m, 48271, rfl, rfl, .inl (sq_small m0 m1), .int x, rfl, .inl ⟨x, rfl, x, 1000003, rfl, rfl, nz3, x.fmod 1000003, 69621, rfl, rfl, .inl ⟨by omega, by omega⟩, _, _, rfl, rfl, .int (i : Nat), rfl, (i : Int), 7919, rfl, rfl, .inl ⟨by omega, by omega⟩, _, _, rfl, rfl, _, 11, rfl, rfl, .inl ⟨_, rfl, _, 2147483647, rfl, rfl, nz2, ?_⟩⟩⟩
        have mm := fmod_in (a := m * 48271 + x.fmod 1000003 * 69621 + (i : Int) * 7919 + 11) (b := 2147483647) (by decide)
        -- again
        refine ⟨_, rfl, _, rfl, _, _, rfl, rfl, .inl (sq_small mm.1 mm.2), _, rfl, 31, _, rfl, rfl, .inl ⟨by decide, by decide⟩, _, _, rfl, rfl, _, rfl, _, _, rfl, rfl, .inl ⟨_, rfl, _, 1000003, rfl, rfl, nz3, ?_⟩⟩
        -- if cell >= 10 ** 18
        refine ⟨.int x, rfl, 10, 18, rfl, rfl, ⟨by decide, by decide, by decide⟩, _, _, rfl, rfl, _, rfl, ite2 (fun _ => ?_) (fun _ => ?_)⟩
        · refine ⟨.ref fa, rfl, .inl ⟨rfl, _, SqL.of gf⟩, .int x, rfl, .inl ⟨x, rfl, x, 1000, rfl, rfl, nz1, fa, _, _, rfl, rfl, gf, by rw [List.length_map]; exact small1000 (by omega), ?_⟩⟩
          have gc2 : (upd G fa (.lst (ds.map V.int ++ [V.int (x.fmod 1000)]))) cb = some (.lst (cs'.map V.int)) := by rw [upd_ne fcb.symm]; exact gc
          refine ⟨.int x, rfl, x, 1000, rfl, rfl, ⟨by decide, by decide⟩, .ref cb, rfl, _, rfl, cb, _, _, j, rfl, rfl, gc2, by rw [hJ]; unfold ixN; rw [if_pos (by omega), if_pos (by rw [List.length_map]; omega), Int.toNat_natCast], ?_⟩
          refine ⟨cs'.set j (x.fdiv 1000), ds ++ [x.fmod 1000], _, _, _, _, _, rfl, fun b o e => ?_, ?_, by rw [List.length_set]; exact lc, ?_, by rw [List.length_append, ld]; rfl, mm.1, mm.2⟩
          · rw [upd_ne (ne_of_none e hcb0), upd_ne (ne_of_none e hfa0)]
            exact sG b o e
          · rw [upd_same, List.map_set]
          · rw [upd_ne fcb, upd_same, List.map_append]
            rfl
        · refine ⟨.ref fa, rfl, .inl ⟨rfl, _, SqL.of gf⟩, _, rfl, .inl ⟨_, rfl, _, 1000, rfl, rfl, nz1, fa, _, _, rfl, rfl, gf, by rw [List.length_map]; exact small1000 (by omega), ?_⟩⟩
          obtain ⟨ag, hag⟩ : ∃ ag : Int, ag = (((m * 48271 + x.fmod 1000003 * 69621 + (i : Int) * 7919 + 11).fmod 2147483647 * (m * 48271 + x.fmod 1000003 * 69621 + (i : Int) * 7919 + 11).fmod 2147483647 + 31 * (m * 48271 + x.fmod 1000003 * 69621 + (i : Int) * 7919 + 11).fmod 2147483647 + (i : Int)).fmod 1000003).fmod 1000 := ⟨_, rfl⟩
          refine ⟨cs', ds ++ [ag], _, _, _, _, _, rfl, fun b o e => ?_, ?_, lc, ?_, by rw [List.length_append, ld]; rfl, mm.1, mm.2⟩
          · rw [upd_ne (ne_of_none e hfa0)]
            exact sG b o e
          · rw [upd_ne fcb.symm]
            exact gc
          · rw [upd_same, List.map_append, hag]
            rfl
      · rintro σ G ⟨cs', ds, m, y5, y6, y7, y8, rfl, sG, gc, lc, gf, ld, m0, m1⟩
        refine ⟨.ref fa, rfl, .inl ⟨rfl, _, SqL.of gf⟩, fa, _, rfl, rfl, gf, .ref fa, rfl, ?_⟩
        refine k fa _ (fun b o e => ?_) hfa0 ⟨ds.reverse, by rw [upd_same, List.map_reverse]⟩
        rw [upd_ne (ne_of_none e hfa0)]
        exact sG b o e
/-! ### one draw -/
def spTake : Sp := fun vs H Q _ => ∃ (d : Addr) (lim : Int), vs = [.ref d, .int lim] ∧ Draws H d ∧ 0 < lim ∧ ∀ v H', 0 ≤ v → v < lim → But d H H' → Draws H' d → Q (.int v) H'
theorem ok_law_take {f : Addr} {fd : FuncData} (FF : Fun K "_law_take" "_law_take" s_law_take f fd) (T : Txt K mg C J B) : FnOk P w K mg base CX0 1 f fd a_law_take spTake := by
  refine FF.ok sc_law_take (fun vs H Q E h => ?_) (fun cdv A outer s H vs Q E hr h => ?_)
  · obtain ⟨d, lim, rfl, _⟩ := h
    rfl
  · obtain ⟨d, lim, rfl, ⟨ds, hd⟩, hl, k⟩ := h
    refine ⟨_, (pss_cons (ps_if (pt_cmpR op_eq (pe_callB call_len_seq rfl T.z_len (by decide +kernel) (pa_cons (pv 0) pa_nil)) pe_int (nomark _)) (pss_one (ps_ret pe_int)) pss_nil)
      (pss_one (ps_ret (pe_op op_modN (pe_callTy call_int1 rfl T.z_int (by decide +kernel) (pa_cons (pe_bm0 PySem.F.plainAttrs_list PySem.F.slot_list_pop PySem.F.type_list_pop mt_pop (pv 0)) pa_nil)) (pv 1))))), ?_⟩
    refine ⟨.ref d, rfl, d, _, rfl, .inl (SqL.of hd), rfl, _, rfl, ite2 (fun c => ?_) (fun c => ?_)⟩
    · exact k 0 H (Int.le_refl 0) hl (But.refl _ _) ⟨ds, hd⟩
    · have ne : ds ≠ [] := fun e => c (decide_eq_true (by rw [e]; rfl))
      obtain ⟨l, x, rfl⟩ : ∃ l x, ds = l ++ [x] := ⟨ds.dropLast, ds.getLast ne, (List.dropLast_concat_getLast ne).symm⟩
      refine ⟨.ref d, rfl, .inl ⟨rfl, _, SqL.of hd⟩, d, _, .int x, rfl, rfl, hd, by simp, .inl ⟨x, rfl, ?_⟩⟩
      have := fmod_in (a := x) hl
      refine ⟨.int lim, rfl, x, lim, rfl, rfl, by omega, ?_⟩
      refine k _ _ this.1 this.2 (fun b o nb e => by rw [upd_ne nb]; exact e) ⟨l, ?_⟩
      rw [upd_same]
      simp
/-! ### the statements in one -/
def spInner (K : PySem.W.Frag) : Sp := fun vs H Q _ => ∃ (v : V) (t : F), vs = [v] ∧ IsF K H v t ∧ ∀ l ks H', Same H H' → H' l = some (.lst ks) → AllF K H' ks t.kids → Q (.ref l) H'
theorem cut_one (xs : List V) : cutV xs (some 1) none = xs.drop 1 := by
  unfold cutV
  rw [show HT.sIx xs.length 0 (some 1) = min 1 xs.length from HT.sIx_nat _ _ 1, HT.sIx_none]
  rcases Nat.le_total 1 xs.length with h | h
  · rw [Nat.min_eq_left h, List.take_of_length_le (by rw [List.length_drop]; exact Nat.le_refl _)]
  · rw [Nat.min_eq_right h, List.drop_length, List.drop_eq_nil_of_le h]
    simp
end
end Fw

set_option maxRecDepth 100000
set_option maxHeartbeats 2000000
namespace Fw
open PySem PySem.Spec PyProof.Rows L2
theorem iteF_out {A B : Prop} (h : if false = true then A else B) : B := by
  rw [if_neg Bool.false_ne_true] at h
  exact h
theorem iteT_out {A B : Prop} (h : if true = true then A else B) : A := by
  rw [if_pos rfl] at h
  exact h
theorem Draws.but {d : Addr} {H H' : Hp} (s : ∀ o, H d = some o → H' d = some o) (h : Draws H d) : Draws H' d := by
  obtain ⟨ds, e⟩ := h
  exact ⟨ds, s _ e⟩
theorem Draws.same {d : Addr} {H H' : Hp} (s : Same H H') (h : Draws H d) : Draws H' d := h.but fun o e => s d o e
theorem SqL.but {K : PySem.W.Frag} {H H' : Hp} {a d : Addr} {xs : List V} (n : a ≠ d) (s : But d H H') (h : SqL K H a xs) : SqL K H' a xs := SqL.keepAt (fun o e => s a o n e) h
theorem two_at {α : Type} {x y : α} {v : Int} (h0 : 0 ≤ v) (h2 : v < 2) : ∃ b : Bool, atI [x, y] v = some (if b = true then x else y) := by
  have : v = 0 ∨ v = 1 := by omega
  rcases this with rfl | rfl
  · exact ⟨true, rfl⟩
  · exact ⟨false, rfl⟩
section
variable {P : Program} {w : World} {K : PySem.W.Frag} {mg : Str → Option Value} {base : Heap} {C J B NC FE : Addr}
def spAtom (K : PySem.W.Frag) : Sp := fun vs H Q _ => ∃ (d ra : Addr) (R : List Int), vs = [.ref d, .ref ra] ∧ Draws H d ∧ SqL K H ra (R.map V.int) ∧ ra ≠ d ∧ R.length ≤ 100 ∧ (∀ x ∈ R, x ∈ V4) ∧
  ∀ v t H', But d H H' → Draws H' d → IsF K H' v t → Gen 0 [] R t → Q v H'
theorem ok_law_atom {f : Addr} {fd : FuncData} (FF : Fun K "_law_atom" "_law_atom" s_law_atom f fd) (T : Txt K mg C J B) (h_law_take : Has P w K mg base "_law_take" 1 a_law_take spTake) : FnOk P w K mg base CX0 2 f fd a_law_atom (spAtom K) := by
  refine FF.ok sc_law_atom (fun vs H Q E h => ?_) (fun cdv A outer s H vs Q E hr h => ?_)
  · obtain ⟨d, ra, R, rfl, _⟩ := h
    rfl
  · obtain ⟨d, ra, R, rfl, hd, hR, nrd, hlen, hV, k⟩ := h
    refine ⟨_, (pss_cons (ps_set (i := 2) sc_law_atom.nd rfl (.inl rfl) (pe_callH h_law_take (hr.mono (by omega)) (pa_cons (pv 0) (pa_cons pe_int pa_nil))))
      (pss_cons (ps_if (PW.pt (pw_and (pt_cmpR op_gt (pe_callB call_len_seq rfl T.z_len (by decide +kernel) (pa_cons (pv 1) pa_nil)) pe_int (nomark _)) (pw_and1 (pt_cmpR op_lt (pv 2) pe_int (nomark _))))) (pss_one (ps_ret (pe_tup (pa_cons pe_str (pa_cons (pe_ix ix_list (pv 1) (pe_callH h_law_take (hr.mono (by omega)) (pa_cons (pv 0) (pa_cons (pe_callB call_len_seq rfl T.z_len (by decide +kernel) (pa_cons (pv 1) pa_nil)) pa_nil))) (fun _ _ => rfl)) pa_nil))))) pss_nil)
      (pss_cons (ps_if (pt_cmpR op_eq (pv 2) pe_int (nomark _)) (pss_one (ps_ret (pe_ix ix_list (pe_lst (pa_cons (pe_tup (pa_cons pe_str pa_nil)) (pa_cons (pe_tup (pa_cons pe_str pa_nil)) pa_nil))) (pe_callH h_law_take (hr.mono (by omega)) (pa_cons (pv 0) (pa_cons pe_int pa_nil))) (fun _ _ => rfl)))) pss_nil)
      (pss_one (ps_ret (pe_tup (pa_cons (pe_ix ix_list (pe_lst (pa_cons pe_str (pa_cons pe_str pa_nil))) (pe_callH h_law_take (hr.mono (by omega)) (pa_cons (pv 0) (pa_cons pe_int pa_nil))) (fun _ _ => rfl)) (pa_cons (pe_callH h_law_take (hr.mono (by omega)) (pa_cons (pv 0) (pa_cons pe_int pa_nil))) pa_nil)))))))), ?_⟩
    refine ⟨.ref d, rfl, d, 8, rfl, hd, by decide, fun v1 H1 v10 v18 b1 d1 => ?_⟩
    have hR1 := SqL.but nrd b1 hR
    refine ⟨.ref ra, rfl, ra, _, rfl, .inl hR1, _, _, rfl, rfl, _, rfl, ?_⟩
    rw [List.length_map]
    have nR : ∀ b o, H1 b = some o → ∀ q, H1 q = none → b ≠ q := fun b o e q hq => ne_of_none e hq
    refine ite2 (fun c => ?_) (fun c => ?_)
    · refine ⟨.int v1, rfl, _, _, rfl, rfl, _, rfl, ite2 (fun c2 => ?_) (fun c2 => ?_)⟩
      · -- a variable
        have pos : 0 < (R.length : Int) := of_decide_eq_true c
        refine ⟨.ref ra, rfl, .ref d, rfl, .ref ra, rfl, ra, _, rfl, .inl hR1, d, (R.length : Nat), by rw [List.length_map]; rfl, d1, pos, fun v2 H2 v20 v2r b2 d2 => ?_⟩
        have hR2 := SqL.but nrd b2 hR1
        obtain ⟨m, rfl⟩ : ∃ m : Nat, v2 = (m : Int) := ⟨v2.toNat, by omega⟩
        obtain ⟨x, hx⟩ : ∃ x, R[m]? = some x := ⟨R[m]'(by omega), by simp⟩
        refine ⟨ra, _, _, .int x, rfl, rfl, hR2, atI_nat (j := m) (by rw [List.getElem?_map, hx]; rfl), by show 2 ≤ sizeLine; decide, fun p hp => ?_⟩
        have s3 := Same.new (o := .tup [.str "var", .int x]) hp
        have xm := List.mem_of_getElem? hx
        exact k _ (.leaf .var x) _ ((b1.trans b2).trans (Same.but s3)) (d2.same s3) (.leaf (SqT.of upd_same)) ⟨Nat.le_refl 1, hV x xm, fun y hy => .inr (by rw [List.mem_singleton.mp hy]; exact xm)⟩
      · skip
        refine ⟨.int v1, rfl, rfl, _, rfl, ite2 (fun c3 => ?_) (fun c3 => ?_)⟩
        · refine ⟨by show 1 ≤ sizeLine; decide, fun p hp => ⟨by show 1 ≤ sizeLine; decide, fun q hq => ⟨by show 2 ≤ sizeLine; decide, fun l hl => ?_⟩⟩⟩
          have s2 := Same.new (o := .tup [.str "true"]) hp
          have s3 := Same.new (o := .tup [.str "false"]) hq
          have s4 := Same.new (o := .lst [.ref p, .ref q]) hl
          have p4 := s4 _ _ (s3 _ _ (upd_same (H := H1) (a := p) (o := .tup [.str "true"])))
          have q4 := s4 _ _ (upd_same (H := upd H1 p (.tup [.str "true"])) (a := q) (o := .tup [.str "false"]))
          have l4 := upd_same (H := upd (upd H1 p (.tup [.str "true"])) q (.tup [.str "false"])) (a := l) (o := .lst [.ref p, .ref q])
          have s14 := s2.trans (s3.trans s4)
          have ld : l ≠ d := fun e => by
            obtain ⟨ds, e2⟩ := d1
            have := (s2.trans s3) _ _ e2
            rw [← e, hl] at this
            cases this
          refine ⟨.ref d, rfl, d, 2, rfl, d1.same s14, by decide, fun v2 H2 v20 v22 b2 d2 => ?_⟩
          obtain ⟨b, hb⟩ := two_at (x := V.ref p) (y := V.ref q) v20 v22
          have l5 := b2 _ _ ld l4
          have keepT : ∀ (a : Addr) (xs : List V), SqT K _ a xs → SqT K H2 a xs := fun a xs h => SqT.but (d1.same s14).lst b2 h
          refine ⟨l, _, _, _, rfl, rfl, SqL.of l5, hb, ?_⟩
          have B2 := (b1.trans (Same.but s14)).trans b2
          cases b with
          | true => exact k _ (.nul true) _ B2 d2 (.nul (keepT _ _ (SqT.of p4))) ⟨Nat.le_refl 1, trivial, fun y hy => by cases hy⟩
          | false => exact k _ (.nul false) _ B2 d2 (.nul (keepT _ _ (SqT.of q4))) ⟨Nat.le_refl 1, trivial, fun y hy => by cases hy⟩
        · refine ⟨by show 2 ≤ sizeLine; decide, fun l hl => ?_⟩
          have s2 := Same.new (o := .lst [.str "has", .str "lacks"]) hl
          have l2 := upd_same (H := H1) (a := l) (o := .lst [.str "has", .str "lacks"])
          have ld : l ≠ d := fun e => by
            obtain ⟨ds, e2⟩ := d1
            rw [← e, hl] at e2
            cases e2
          refine ⟨.ref d, rfl, d, 2, rfl, d1.same s2, by decide, fun v2 H2 v20 v22 b2 d2 => ?_⟩
          obtain ⟨b, hb⟩ := two_at (x := V.str "has") (y := V.str "lacks") v20 v22
          refine ⟨l, _, _, _, rfl, rfl, SqL.of (b2 _ _ ld l2), hb, ?_⟩
          refine ⟨.ref d, rfl, d, 2, rfl, d2, by decide, fun v3 H3 v30 v32 b3 d3 => ?_⟩
          refine ⟨by show 2 ≤ sizeLine; decide, fun p hp => ?_⟩
          have B3 := ((b1.trans (Same.but s2)).trans b2).trans b3
          cases b with
          | true =>
            have s4 := Same.new (o := .tup [.str "has", .int v3]) hp
            exact k _ (.leaf .has v3) _ (B3.trans (Same.but s4)) (d3.same s4) (.leaf (SqT.of upd_same)) ⟨Nat.le_refl 1, ⟨v30, v32⟩, fun y hy => by cases hy⟩
          | false =>
            have s4 := Same.new (o := .tup [.str "lacks", .int v3]) hp
            exact k _ (.leaf .lacks v3) _ (B3.trans (Same.but s4)) (d3.same s4) (.leaf (SqT.of upd_same)) ⟨Nat.le_refl 1, ⟨v30, v32⟩, fun y hy => by cases hy⟩
    · refine iteF ?_
      refine ⟨.int v1, rfl, rfl, _, rfl, ite2 (fun c3 => ?_) (fun c3 => ?_)⟩
      · refine ⟨by show 1 ≤ sizeLine; decide, fun p hp => ⟨by show 1 ≤ sizeLine; decide, fun q hq => ⟨by show 2 ≤ sizeLine; decide, fun l hl => ?_⟩⟩⟩
        have s2 := Same.new (o := .tup [.str "true"]) hp
        have s3 := Same.new (o := .tup [.str "false"]) hq
        have s4 := Same.new (o := .lst [.ref p, .ref q]) hl
        have p4 := s4 _ _ (s3 _ _ (upd_same (H := H1) (a := p) (o := .tup [.str "true"])))
        have q4 := s4 _ _ (upd_same (H := upd H1 p (.tup [.str "true"])) (a := q) (o := .tup [.str "false"]))
        have l4 := upd_same (H := upd (upd H1 p (.tup [.str "true"])) q (.tup [.str "false"])) (a := l) (o := .lst [.ref p, .ref q])
        have s14 := s2.trans (s3.trans s4)
        have ld : l ≠ d := fun e => by
          obtain ⟨ds, e2⟩ := d1
          have := (s2.trans s3) _ _ e2
          rw [← e, hl] at this
          cases this
        refine ⟨.ref d, rfl, d, 2, rfl, d1.same s14, by decide, fun v2 H2 v20 v22 b2 d2 => ?_⟩
        obtain ⟨b, hb⟩ := two_at (x := V.ref p) (y := V.ref q) v20 v22
        have l5 := b2 _ _ ld l4
        have keepT : ∀ (a : Addr) (xs : List V), SqT K _ a xs → SqT K H2 a xs := fun a xs h => SqT.but (d1.same s14).lst b2 h
        refine ⟨l, _, _, _, rfl, rfl, SqL.of l5, hb, ?_⟩
        have B2 := (b1.trans (Same.but s14)).trans b2
        cases b with
        | true => exact k _ (.nul true) _ B2 d2 (.nul (keepT _ _ (SqT.of p4))) ⟨Nat.le_refl 1, trivial, fun y hy => by cases hy⟩
        | false => exact k _ (.nul false) _ B2 d2 (.nul (keepT _ _ (SqT.of q4))) ⟨Nat.le_refl 1, trivial, fun y hy => by cases hy⟩
      · refine ⟨by show 2 ≤ sizeLine; decide, fun l hl => ?_⟩
        have s2 := Same.new (o := .lst [.str "has", .str "lacks"]) hl
        have l2 := upd_same (H := H1) (a := l) (o := .lst [.str "has", .str "lacks"])
        have ld : l ≠ d := fun e => by
          obtain ⟨ds, e2⟩ := d1
          rw [← e, hl] at e2
          cases e2
        refine ⟨.ref d, rfl, d, 2, rfl, d1.same s2, by decide, fun v2 H2 v20 v22 b2 d2 => ?_⟩
        obtain ⟨b, hb⟩ := two_at (x := V.str "has") (y := V.str "lacks") v20 v22
        refine ⟨l, _, _, _, rfl, rfl, SqL.of (b2 _ _ ld l2), hb, ?_⟩
        refine ⟨.ref d, rfl, d, 2, rfl, d2, by decide, fun v3 H3 v30 v32 b3 d3 => ?_⟩
        refine ⟨by show 2 ≤ sizeLine; decide, fun p hp => ?_⟩
        have B3 := ((b1.trans (Same.but s2)).trans b2).trans b3
        cases b with
        | true =>
          have s4 := Same.new (o := .tup [.str "has", .int v3]) hp
          exact k _ (.leaf .has v3) _ (B3.trans (Same.but s4)) (d3.same s4) (.leaf (SqT.of upd_same)) ⟨Nat.le_refl 1, ⟨v30, v32⟩, fun y hy => by cases hy⟩
        | false =>
          have s4 := Same.new (o := .tup [.str "lacks", .int v3]) hp
          exact k _ (.leaf .lacks v3) _ (B3.trans (Same.but s4)) (d3.same s4) (.leaf (SqT.of upd_same)) ⟨Nat.le_refl 1, ⟨v30, v32⟩, fun y hy => by cases hy⟩
end
end Fw

set_option maxRecDepth 100000
set_option maxHeartbeats 4000000
namespace Fw
open PySem PySem.Spec PyProof.Rows L2
theorem Draws.ne {H : Hp} {d q : Addr} (h : Draws H d) (hq : H q = none) : q ≠ d := fun e => by
  obtain ⟨ds, z⟩ := h
  rw [← e, hq] at z
  cases z
theorem four_at {v : Int} (h0 : 0 ≤ v) (h4 : v < 4) : ∃ x ∈ V4, atI [V.int 0, V.int 1, V.int 2, V.int 7] v = some (.int x) := by
  have : v = 0 ∨ v = 1 ∨ v = 2 ∨ v = 3 := by omega
  rcases this with rfl | rfl | rfl | rfl
  · exact ⟨0, by decide, rfl⟩
  · exact ⟨1, by decide, rfl⟩
  · exact ⟨2, by decide, rfl⟩
  · exact ⟨7, by decide, rfl⟩
theorem V4_nonneg {x : Int} (h : x ∈ V4) : 0 ≤ x ∧ x < 8 := by
  simp only [List.mem_cons, List.not_mem_nil, or_false] at h
  omega
def ofB (b : Bool) : Int := if b = true then 1 else 0
abbrev IL (H : Hp) (a : Addr) (xs : List Int) : Prop := H a = some (.lst (xs.map V.int))
def spS (K : PySem.W.Frag) : Nat → Sp
  | 0 => fun _ _ _ _ => False
  | n + 1 => fun vs H Q _ => ∃ (d wa ra : Addr) (W R : List Int), vs = [.ref d, .int (n : Nat), .ref wa, .ref ra, .bl true] ∧ Draws H d ∧ IL H wa W ∧ IL H ra R ∧ wa ≠ d ∧ ra ≠ d ∧ W.length + R.length + n ≤ 20 ∧ (∀ x ∈ W, x ∈ V4) ∧ (∀ x ∈ R, x ∈ V4) ∧
    ∀ v t H', But d H H' → Draws H' d → IsF K H' v t → Gen n W R t → Q v H'
section
variable {P : Program} {w : World} {K : PySem.W.Frag} {mg : Str → Option Value} {base : Heap} {C J B NC FE : Addr}
theorem ok_law_statement {f : Addr} {fd : FuncData} (n : Nat) (FF : Fun K "_law_statement" "_law_statement" s_law_statement f fd) (T : Txt K mg C J B) (h_law_take : Has P w K mg base "_law_take" 1 a_law_take spTake)
    (h_law_atom : Has P w K mg base "_law_atom" 2 a_law_atom (spAtom K)) (h_law_statement : Has P w K mg base "_law_statement" (n + 2) a_law_statement (spS K n)) : FnOk P w K mg base CX0 (n + 3) f fd a_law_statement (spS K (n + 1)) := by
  refine FF.ok sc_law_statement (fun vs H Q E h => ?_) (fun cdv A outer s H vs Q E hr h => ?_)
  · obtain ⟨d, wa, ra, W, R, rfl, _⟩ := h
    rfl
  · obtain ⟨d, wa, ra, W, R, rfl, hd, hW, hR, nwd, nrd, hsz, hVW, hVR, k⟩ := h
    refine ⟨_, (pss_cons (ps_set (i := 5) sc_law_statement.nd rfl (.inl rfl) (pe_callH h_law_take (hr.mono (by omega)) (pa_cons (pv 0) (pa_cons pe_int pa_nil))))
      (pss_cons (ps_if (PW.pt (pw_or (pt_cmpR op_eq (pv 1) pe_int (nomark _)) (pw_or1 (pt_cmpR op_eq (pv 5) pe_int (nomark _))))) (pss_one (ps_ret (pe_callH h_law_atom (hr.mono (by omega)) (pa_cons (pv 0) (pa_cons (pv 3) pa_nil))))) pss_nil)
      (pss_cons (ps_if (pt_cmpR op_lt (pv 5) pe_int (nomark _)) (pss_cons (ps_set (i := 6) sc_law_statement.nd rfl (.inl rfl) (pe_callH h_law_statement (hr.mono (by omega)) (pa_cons (pv 0) (pa_cons (pe_op op_sub (pv 1) pe_int) (pa_cons (pv 2) (pa_cons (pv 3) (pa_cons (pv 4) pa_nil)))))))
      (pss_one (ps_ret (pe_tup (pa_cons (pe_ix ix_list (pe_lst (pa_cons pe_str (pa_cons pe_str pa_nil))) (pe_callTy call_int1 rfl T.z_int (by decide +kernel) (pa_cons (pe_cmpR op_gt (pv 5) pe_int (nomark _)) pa_nil)) (fun _ _ => rfl)) (pa_cons (pv 6) (pa_cons (pe_callH h_law_statement (hr.mono (by omega)) (pa_cons (pv 0) (pa_cons (pe_op op_sub (pv 1) pe_int) (pa_cons (pv 2) (pa_cons (pv 3) (pa_cons (pv 4) pa_nil)))))) pa_nil))))))) pss_nil)
      (pss_cons (ps_if (pt_cmpR op_lt (pv 5) pe_int (nomark _)) (pss_cons (ps_set (i := 7) sc_law_statement.nd rfl (.inl rfl) (pe_op op_fdivN (pe_callH h_law_take (hr.mono (by omega)) (pa_cons (pv 0) (pa_cons pe_int pa_nil))) pe_int))
      (pss_one (ps_ret (pe_tup (pa_cons (pe_ix ix_list (pe_lst (pa_cons pe_str (pa_cons pe_str pa_nil))) (pe_callH h_law_take (hr.mono (by omega)) (pa_cons (pv 0) (pa_cons pe_int pa_nil))) (fun _ _ => rfl)) (pa_cons (pv 7) (pa_cons (pe_callH h_law_statement (hr.mono (by omega)) (pa_cons (pv 0) (pa_cons (pe_op op_sub (pv 1) pe_int) (pa_cons (pe_lst pa_nil) (pa_cons (pe_op op_cat (pv 3) (pv 2)) (pa_cons (pv 4) pa_nil)))))) pa_nil))))))) pss_nil)
      (pss_cons (ps_set (i := 8) sc_law_statement.nd rfl (.inr rfl) (pe_ix ix_list (pe_lst (pa_cons pe_int (pa_cons pe_int (pa_cons pe_int (pa_cons pe_int pa_nil))))) (pe_callH h_law_take (hr.mono (by omega)) (pa_cons (pv 0) (pa_cons pe_int pa_nil))) (fun _ _ => rfl)))
      (pss_cons (ps_setLc (i := 9) (own := [("other", 11)]) (g := gName 11) rfl sc_law_statement.nd rfl rfl (sw_true rfl rfl rfl (by decide +kernel)) (pi_list (pv 2)) (blkOk_by (own := [("other", 11)]) (N := n_law_statement) (sc := defScope s_law_statement) (by decide +kernel)) (fun _ _ _ _ _ => (pg_name (i := 11) sc_law_statement.nd rfl (.inl rfl))) (fun _ _ _ _ _ => (pts_one (pt_cmpR op_ne (pv 11) (pv 8) (nomark _)))) (fun _ _ _ _ _ => (pv 11)))
      (pss_cons (ps_setLc (i := 10) (own := [("other", 11)]) (g := gName 11) rfl sc_law_statement.nd rfl rfl (sw_true rfl rfl rfl (by decide +kernel)) (pi_list (pv 3)) (blkOk_by (own := [("other", 11)]) (N := n_law_statement) (sc := defScope s_law_statement) (by decide +kernel)) (fun _ _ _ _ _ => (pg_name (i := 11) sc_law_statement.nd rfl (.inl rfl))) (fun _ _ _ _ _ => (pts_one (pt_cmpR op_ne (pv 11) (pv 8) (nomark _)))) (fun _ _ _ _ _ => (pv 11)))
      (pss_cons (ps_if (PW.pt (pw_and (pt_val (pv 4)) (pw_and1 (pt_cmpR op_eq (pe_callH h_law_take (hr.mono (by omega)) (pa_cons (pv 0) (pa_cons pe_int pa_nil))) pe_int (nomark _))))) (pss_one (ps_set (i := 10) sc_law_statement.nd rfl (.inl rfl) (pe_op op_cat (pv 10) (pe_lst (pa_cons (pv 8) pa_nil))))) (pss_one (ps_set (i := 9) sc_law_statement.nd rfl (.inl rfl) (pe_op op_cat (pv 9) (pe_lst (pa_cons (pv 8) pa_nil))))))
      (pss_one (ps_ret (pe_tup (pa_cons (pe_ix ix_list (pe_lst (pa_cons pe_str (pa_cons pe_str pa_nil))) (pe_callH h_law_take (hr.mono (by omega)) (pa_cons (pv 0) (pa_cons pe_int pa_nil))) (fun _ _ => rfl)) (pa_cons (pv 8) (pa_cons (pe_callH h_law_statement (hr.mono (by omega)) (pa_cons (pv 0) (pa_cons (pe_op op_sub (pv 1) pe_int) (pa_cons (pv 9) (pa_cons (pv 10) (pa_cons (pv 4) pa_nil)))))) pa_nil)))))))))))))), ?_⟩
    refine ⟨.ref d, rfl, d, 12, rfl, hd, by decide, fun v1 H1 v10 v112 b1 d1 => ?_⟩
    refine ⟨.int (n : Nat), rfl, rfl, _, rfl, ite2 (fun c => ?_) (fun c => ?_)⟩
    · refine iteT ?_
      refine ⟨.ref d, rfl, .ref ra, rfl, d, ra, R, rfl, d1, SqL.of (b1 _ _ nrd hR), nrd, by omega, hVR, fun v t H2 b2 d2 ht g => ?_⟩
      exact k v t H2 (b1.trans b2) d2 ht ⟨Nat.le_trans g.dep (by omega), g.ok, fun x hx => (g.fr x hx).elim (fun z => by cases z) .inr⟩
    refine ⟨.int v1, rfl, rfl, _, rfl, ite2 (fun c1 => ?_) (fun c1 => ?_)⟩
    · skip
      refine ⟨.ref d, rfl, .ref ra, rfl, d, ra, R, rfl, d1, SqL.of (b1 _ _ nrd hR), nrd, by omega, hVR, fun v t H2 b2 d2 ht g => ?_⟩
      exact k v t H2 (b1.trans b2) d2 ht ⟨Nat.le_trans g.dep (by omega), g.ok, fun x hx => (g.fr x hx).elim (fun z => by cases z) .inr⟩
    obtain ⟨m, rfl⟩ : ∃ m, n = m + 1 := by
      cases n with
      | zero => exact absurd (decide_eq_true rfl) c
      | succ m => exact ⟨m, rfl⟩
    have hW1 := b1 _ _ nwd hW
    have hR1 := b1 _ _ nrd hR
    have em : V.int (((m + 1 : Nat) : Int) - 1) = V.int (m : Nat) := by congr 1; omega
    refine ⟨.int v1, rfl, _, _, rfl, rfl, _, rfl, ite2 (fun c2 => ?_) (fun c2 => ?_)⟩
    · -- and, or
      refine ⟨.ref d, rfl, .int ((m + 1 : Nat) : Int), rfl, _, 1, rfl, rfl, .ref wa, rfl, .ref ra, rfl, .bl true, rfl, d, wa, ra, W, R, by show [V.ref d, V.int (((m + 1 : Nat) : Int) - 1), _, _, _] ++ [] = _; rw [em]; rfl, d1, hW1, hR1, nwd, nrd, by omega, hVW, hVR, fun vf tf H2 b2 d2 hf gf => ?_⟩
      refine ⟨by show 2 ≤ sizeLine; decide, fun l hl => ?_⟩
      have s3 := Same.new (o := .lst [.str "and", .str "or"]) hl
      have l3 := upd_same (H := H2) (a := l) (o := .lst [.str "and", .str "or"])
      have hW3 := s3 _ _ (b2 _ _ nwd hW1)
      have hR3 := s3 _ _ (b2 _ _ nrd hR1)
      have b3 := b1.trans (b2.trans (Same.but s3))
      have d3 := d2.same s3
      have hf3 := hf.same s3
      have word : ∃ b : Bool, atI [V.str "and", V.str "or"] (if decide (2 < v1) = true then 1 else 0) = some (.str (wT b)) := by
        by_cases q : 2 < v1
        · exact ⟨false, by rw [if_pos (decide_eq_true q)]; rfl⟩
        · exact ⟨true, by rw [if_neg (by rw [decide_eq_false q]; exact Bool.false_ne_true)]; rfl⟩
      obtain ⟨b, hb⟩ := word
      refine ⟨.int v1, rfl, _, _, rfl, rfl, .inr ⟨_, rfl, l, _, _, _, rfl, rfl, SqL.of l3, hb, ?_⟩⟩
      refine ⟨vf, rfl, ?_⟩
      refine ⟨.ref d, rfl, .int ((m + 1 : Nat) : Int), rfl, _, 1, rfl, rfl, .ref wa, rfl, .ref ra, rfl, .bl true, rfl, d, wa, ra, W, R, by show [V.ref d, V.int (((m + 1 : Nat) : Int) - 1), _, _, _] ++ [] = _; rw [em]; rfl, d3, hW3, hR3, nwd, nrd, by omega, hVW, hVR, fun vg tg H4 b4 d4 hg gg => ?_⟩
      refine ⟨by show 3 ≤ sizeLine; decide, fun p hp => ?_⟩
      have s5 := Same.new (o := .tup [.str (wT b), vf, vg]) hp
      refine k _ (.two b tf tg) _ ((b3.trans b4).trans (Same.but s5)) (d4.same s5) (.two (SqT.of upd_same) ((hf3.but d3.lst b4).same s5) (hg.same s5)) ⟨by show max tf.depth tg.depth + 1 ≤ _; have := gf.dep; have := gg.dep; omega, ⟨gf.ok, gg.ok⟩, fun y hy => ?_⟩
      rcases List.mem_append.mp (show y ∈ fv tf ++ fv tg from hy) with z | z
      · exact gf.fr y z
      · exact gg.fr y z
    refine ⟨.int v1, rfl, _, _, rfl, rfl, _, rfl, ite2 (fun c3 => ?_) (fun c3 => ?_)⟩
    · -- some, all
      refine ⟨.ref d, rfl, d, 3, rfl, d1, by decide, fun v2 H2 v20 v23 b2 d2 => ⟨v2, 2, rfl, rfl, ⟨by decide, by decide⟩, ?_⟩⟩
      have lab : 0 ≤ v2.fdiv 2 ∧ v2.fdiv 2 < 2 := by
        have : v2 = 0 ∨ v2 = 1 ∨ v2 = 2 := by omega
        rcases this with rfl | rfl | rfl <;> decide
      refine ⟨by show 2 ≤ sizeLine; decide, fun l hl => ?_⟩
      have s3 := Same.new (o := .lst [.str "some", .str "all"]) hl
      have l3 := upd_same (H := H2) (a := l) (o := .lst [.str "some", .str "all"])
      have ld := d2.ne hl
      refine ⟨.ref d, rfl, d, 2, rfl, d2.same s3, by decide, fun v4 H4 v40 v42 b4 d4 => ?_⟩
      obtain ⟨b, hb⟩ := two_at (x := V.str "some") (y := V.str "all") v40 v42
      refine ⟨l, _, _, _, rfl, rfl, SqL.of (b4 _ _ ld l3), hb, _, rfl, ?_⟩
      have hW4 := b4 _ _ nwd (s3 _ _ (b2 _ _ nwd hW1))
      have hR4 := b4 _ _ nrd (s3 _ _ (b2 _ _ nrd hR1))
      refine ⟨.ref d, rfl, .int ((m + 1 : Nat) : Int), rfl, _, 1, rfl, rfl, Nat.zero_le _, fun e he => ?_⟩
      have s5 := Same.new (o := .lst []) he
      refine ⟨.ref ra, rfl, .ref wa, rfl, ra, wa, _, _, rfl, rfl, s5 _ _ hR4, s5 _ _ hW4, by rw [List.length_map, List.length_map]; exact Nat.le_of_lt (small1000 (by omega)), fun q hq => ?_⟩
      have s6 := Same.new (o := .lst (R.map V.int ++ W.map V.int)) hq
      have ed := d4.ne he
      have qd := (d4.same s5).ne hq
      refine ⟨.bl true, rfl, d, e, q, [], R ++ W, by show [V.ref d, V.int (((m + 1 : Nat) : Int) - 1), _, _, _] ++ [] = _; rw [em]; rfl, (d4.same s5).same s6, s6 _ _ upd_same, by show _ = _; rw [upd_same, List.map_append], ed, qd, by simp; omega, by simp, fun x hx => (List.mem_append.mp hx).elim (hVR x) (hVW x), fun v f H7 b7 d7 hf g => ?_⟩
      refine ⟨by show 3 ≤ sizeLine; decide, fun p hp => ?_⟩
      have BB := (((b1.trans (b2.trans ((Same.but s3).trans b4))).trans (Same.but s5)).trans (Same.but s6)).trans b7
      have fr' : ∀ y ∈ fv f, y ∈ W ∨ y ∈ R := fun y hy => (g.fr y hy).elim (fun z => by cases z) fun z => (List.mem_append.mp z).symm
      cases b with
      | true =>
        have s9 := Same.new (o := .tup [.str "some", .int (v2.fdiv 2), v]) hp
        exact k _ (.one .some (v2.fdiv 2) f) _ (BB.trans (Same.but s9)) (d7.same s9) (.one (SqT.of upd_same) (hf.same s9)) ⟨by show f.depth + 1 ≤ _; have := g.dep; omega, ⟨by rw [if_neg (by decide)]; exact lab, g.ok⟩, fr'⟩
      | false =>
        have s9 := Same.new (o := .tup [.str "all", .int (v2.fdiv 2), v]) hp
        exact k _ (.one .all (v2.fdiv 2) f) _ (BB.trans (Same.but s9)) (d7.same s9) (.one (SqT.of upd_same) (hf.same s9)) ⟨by show f.depth + 1 ≤ _; have := g.dep; omega, ⟨by rw [if_neg (by decide)]; exact lab, g.ok⟩, fr'⟩
    -- least, most
    refine ⟨by show 4 ≤ sizeLine; decide, fun l hl => ?_⟩
    have s2 := Same.new (o := .lst [V.int 0, V.int 1, V.int 2, V.int 7]) hl
    have l2 := upd_same (H := H1) (a := l) (o := .lst [V.int 0, V.int 1, V.int 2, V.int 7])
    have ld := d1.ne hl
    refine ⟨.ref d, rfl, d, 4, rfl, d1.same s2, by decide, fun v3 H3 v30 v34 b3 d3 => ?_⟩
    obtain ⟨x, hx4, hx⟩ := four_at v30 v34
    refine ⟨l, _, _, _, rfl, rfl, SqL.of (b3 _ _ ld l2), hx, ?_⟩
    have hW3 := b3 _ _ nwd (s2 _ _ hW1)
    have hR3 := b3 _ _ nrd (s2 _ _ hR1)
    have B3 := b1.trans ((Same.but s2).trans b3)
    -- later, usable
    refine ⟨.ref wa, rfl, wa, rfl, ⟨_, SqL.of hW3⟩, fun la hla => ?_⟩
    refine lc_list (xs := W.map V.int) (fun i G => Same H3 G ∧ G la = some (.lst (((W.take i).filter (fun y => y ≠ x)).map V.int))) ⟨Same.new hla, upd_same⟩ (fun i G _ q => SqL.of (q.1 _ _ hW3)) ?_ ?_
    · rintro i y G hy ⟨sG, gl⟩
      obtain ⟨z, hz, rfl⟩ : ∃ z, W[i]? = some z ∧ y = V.int z := by
        rw [List.getElem?_map] at hy
        cases e : W[i]? with
        | none => rw [e] at hy; cases hy
        | some z => rw [e] at hy; exact ⟨z, rfl, (Option.some.inj hy).symm⟩
      refine ⟨rfl, .int z, rfl, .int x, rfl, rfl, _, rfl, ?_⟩
      have e1 : W.take (i + 1) = W.take i ++ [z] := by rw [List.take_add_one, hz]; rfl
      by_cases e : z = x
      · rw [show (!decide (V.int z = V.int x)) = false by rw [e, decide_eq_true rfl]; rfl]
        refine iteF ⟨sG, ?_⟩
        rw [gl, e1, List.filter_append, e]
        simp
      · rw [show (!decide (V.int z = V.int x)) = true by rw [decide_eq_false (fun q => e (V.int.inj q))]; rfl]
        refine iteT ⟨.int z, rfl, _, gl, ?_, fun b o e2 => by rw [upd_ne (ne_of_none e2 hla)]; exact sG b o e2, ?_⟩
        · rw [List.length_map]
          have := List.length_filter_le (fun y => decide (y ≠ x)) (W.take i)
          rw [List.length_take] at this
          exact small1000 (by omega)
        · rw [upd_same, e1, List.filter_append, List.map_append]
          simp [e]
    rintro G4 ⟨s4, gla⟩
    rw [List.length_map, List.take_length] at gla
    have hR4 := s4 _ _ hR3
    have d4 := d3.same s4
    have lad := d3.ne hla
    refine ⟨.ref ra, rfl, ra, rfl, ⟨_, SqL.of hR4⟩, fun ua hua => ?_⟩
    refine lc_list (xs := R.map V.int) (fun i G => Same G4 G ∧ G ua = some (.lst (((R.take i).filter (fun y => y ≠ x)).map V.int))) ⟨Same.new hua, upd_same⟩ (fun i G _ q => SqL.of (q.1 _ _ hR4)) ?_ ?_
    · rintro i y G hy ⟨sG, gl⟩
      obtain ⟨z, hz, rfl⟩ : ∃ z, R[i]? = some z ∧ y = V.int z := by
        rw [List.getElem?_map] at hy
        cases e : R[i]? with
        | none => rw [e] at hy; cases hy
        | some z => rw [e] at hy; exact ⟨z, rfl, (Option.some.inj hy).symm⟩
      refine ⟨rfl, .int z, rfl, .int x, rfl, rfl, _, rfl, ?_⟩
      have e1 : R.take (i + 1) = R.take i ++ [z] := by rw [List.take_add_one, hz]; rfl
      by_cases e : z = x
      · rw [show (!decide (V.int z = V.int x)) = false by rw [e, decide_eq_true rfl]; rfl]
        refine iteF ⟨sG, ?_⟩
        rw [gl, e1, List.filter_append, e]
        simp
      · rw [show (!decide (V.int z = V.int x)) = true by rw [decide_eq_false (fun q => e (V.int.inj q))]; rfl]
        refine iteT ⟨.int z, rfl, _, gl, ?_, fun b o e2 => by rw [upd_ne (ne_of_none e2 hua)]; exact sG b o e2, ?_⟩
        · rw [List.length_map]
          have := List.length_filter_le (fun y => decide (y ≠ x)) (R.take i)
          rw [List.length_take] at this
          exact small1000 (by omega)
        · rw [upd_same, e1, List.filter_append, List.map_append]
          simp [e]
    rintro G5 ⟨s5, gua⟩
    rw [List.length_map, List.take_length] at gua
    have gla5 := s5 _ _ gla
    have d5 := d4.same s5
    have uad := d4.ne hua
    have B5 := B3.trans ((Same.but s4).trans (Same.but s5))
    have hWl := List.length_filter_le (fun y => decide (y ≠ x)) W
    have hRl := List.length_filter_le (fun y => decide (y ≠ x)) R
    have hWm : ∀ y ∈ W.filter (fun y => y ≠ x), y ∈ W := fun y hy => (List.mem_filter.mp hy).1
    have hRm : ∀ y ∈ R.filter (fun y => y ≠ x), y ∈ R := fun y hy => (List.mem_filter.mp hy).1
    generalize W.filter (fun y => decide (y ≠ x)) = W2 at gla5 gla hWl hWm
    generalize R.filter (fun y => decide (y ≠ x)) = R2 at gua hRl hRm
    -- if loose and a draw is 0
    refine ⟨.bl true, rfl, true, rfl, iteT ?_⟩
    refine ⟨.ref d, rfl, d, 3, rfl, d5, by decide, fun v6 H6 v60 v63 b6 d6 => ⟨rfl, _, rfl, ite2 (fun c4 => ?_) (fun c4 => ?_)⟩⟩
    · have gla6 := b6 _ _ lad gla5
      have gua6 := b6 _ _ uad gua
      refine ⟨.ref ua, rfl, .int x, rfl, by show 1 ≤ sizeLine; decide, fun p hp => ?_⟩
      have s7 := Same.new (o := .lst [V.int x]) hp
      refine ⟨ua, p, _, _, rfl, rfl, s7 _ _ gua6, upd_same, by rw [List.length_map]; exact Nat.le_of_lt (small1000 (by show _ + 1 ≤ 1000; omega)), fun ua' hua' => ?_⟩
      have s8' := Same.new (o := .lst (R2.map V.int ++ [V.int x])) hua'
      have hl' := s8' _ _ (s7 _ _ gla6)
      have hu' : IL (upd (upd H6 p (.lst [V.int x])) ua' (.lst (R2.map V.int ++ [V.int x]))) ua' (R2 ++ [x]) := by show _ = _; rw [upd_same, List.map_append]; rfl
      have gd := (d6.same s7).same s8'
      have nu' := (d6.same s7).ne hua'
      have B : But d H (upd (upd H6 p (.lst [V.int x])) ua' (.lst (R2.map V.int ++ [V.int x]))) := (B5.trans b6).trans ((Same.but s7).trans (Same.but s8'))
      generalize upd (upd H6 p (.lst [V.int x])) ua' (.lst (R2.map V.int ++ [V.int x])) = G at hl' hu' gd B
      have nl' := lad
      have hsz' : W2.length + (R2 ++ [x]).length + m ≤ 20 := by rw [List.length_append, List.length_singleton]; omega
      have hVW' : ∀ y ∈ W2, y ∈ V4 := fun y hy => hVW y (hWm y hy)
      have hVR' : ∀ y ∈ R2 ++ [x], y ∈ V4 := fun y hy => (List.mem_append.mp hy).elim (fun z => hVR y (hRm y z)) fun z => by rw [List.mem_singleton.mp z]; exact hx4
      have hsub : ∀ y, (y ∈ W2 ∨ y ∈ R2 ++ [x]) → y ≠ x → y ∈ W ∨ y ∈ R := fun y hy ne => hy.elim (fun z => .inl (hWm y z)) fun z => (List.mem_append.mp z).elim (fun q => .inr (hRm y q)) fun q => absurd (List.mem_singleton.mp q) ne
      obtain ⟨la', ela⟩ : ∃ la' : Addr, la' = la := ⟨_, rfl⟩
      subst ela
      obtain ⟨W', eW⟩ : ∃ W' : List Int, W' = W2 := ⟨_, rfl⟩
      subst eW
      obtain ⟨R', eR⟩ : ∃ R' : List Int, R' = R2 ++ [x] := ⟨_, rfl⟩
      rw [← eR] at hu' hsz' hVR' hsub
      -- the binder: lists W' at la', R' at ua', in G
      refine ⟨by show 2 ≤ sizeLine; decide, fun l hl => ?_⟩
      have s8 := Same.new (o := .lst [.str "least", .str "most"]) hl
      have ld := gd.ne hl
      have l8 := upd_same (H := G) (a := l) (o := .lst [.str "least", .str "most"])
      refine ⟨.ref d, rfl, d, 2, rfl, gd.same s8, by decide, fun v8 H8 v80 v82 b8 d8 => ?_⟩
      obtain ⟨bb, hbb⟩ := two_at (x := V.str "least") (y := V.str "most") v80 v82
      refine ⟨l, _, _, _, rfl, rfl, SqL.of (b8 _ _ ld l8), hbb, .int x, rfl, ?_⟩
      refine ⟨.ref d, rfl, .int ((m + 1 : Nat) : Int), rfl, _, 1, rfl, rfl, .ref la', rfl, .ref ua', rfl, .bl true, rfl, d, la', ua', W', R', by rw [Int.natCast_add]; show [V.ref d, V.int ((m : Int) + 1 - 1), _, _, _] ++ [] = _; rw [Int.add_sub_cancel]; rfl, d8, b8 _ _ nl' (s8 _ _ hl'), b8 _ _ nu' (s8 _ _ hu'), nl', nu', hsz', hVW', hVR', fun v f H9 b9 d9 hf g => ?_⟩
      refine ⟨by show 3 ≤ sizeLine; decide, fun p hp => ?_⟩
      have BB := ((B.trans (Same.but s8)).trans b8).trans b9
      have fr' : ∀ y ∈ fv f, y ≠ x → y ∈ W ∨ y ∈ R := fun y hy ne => (g.fr y hy).elim (fun z => hsub y (.inl z) ne) fun z => hsub y (.inr z) ne
      cases bb with
      | true =>
        have s9 := Same.new (o := .tup [.str "least", .int x, v]) hp
        refine k _ (.one .least x f) _ (BB.trans (Same.but s9)) (d9.same s9) (.one (SqT.of upd_same) (hf.same s9)) ⟨by show f.depth + 1 ≤ _; have := g.dep; omega, ⟨(if_pos (show One.least.bind = true from rfl)).mpr hx4, g.ok⟩, fun y hy => ?_⟩
        have z := List.mem_filter.mp (show y ∈ (fv f).filter (fun y => y ≠ x) from hy)
        exact fr' y z.1 (by simpa using z.2)
      | false =>
        have s9 := Same.new (o := .tup [.str "most", .int x, v]) hp
        refine k _ (.one .most x f) _ (BB.trans (Same.but s9)) (d9.same s9) (.one (SqT.of upd_same) (hf.same s9)) ⟨by show f.depth + 1 ≤ _; have := g.dep; omega, ⟨(if_pos (show One.most.bind = true from rfl)).mpr hx4, g.ok⟩, fun y hy => ?_⟩
        have z := List.mem_filter.mp (show y ∈ (fv f).filter (fun y => y ≠ x) from hy)
        exact fr' y z.1 (by simpa using z.2)
    · have gla6 := b6 _ _ lad gla5
      have gua6 := b6 _ _ uad gua
      refine ⟨.ref la, rfl, .int x, rfl, by show 1 ≤ sizeLine; decide, fun p hp => ?_⟩
      have s7 := Same.new (o := .lst [V.int x]) hp
      refine ⟨la, p, _, _, rfl, rfl, s7 _ _ gla6, upd_same, by rw [List.length_map]; exact Nat.le_of_lt (small1000 (by show _ + 1 ≤ 1000; omega)), fun la' hla' => ?_⟩
      have s8' := Same.new (o := .lst (W2.map V.int ++ [V.int x])) hla'
      have hu' := s8' _ _ (s7 _ _ gua6)
      have hl' : IL (upd (upd H6 p (.lst [V.int x])) la' (.lst (W2.map V.int ++ [V.int x]))) la' (W2 ++ [x]) := by show _ = _; rw [upd_same, List.map_append]; rfl
      have gd := (d6.same s7).same s8'
      have nl' := (d6.same s7).ne hla'
      have B : But d H (upd (upd H6 p (.lst [V.int x])) la' (.lst (W2.map V.int ++ [V.int x]))) := (B5.trans b6).trans ((Same.but s7).trans (Same.but s8'))
      generalize upd (upd H6 p (.lst [V.int x])) la' (.lst (W2.map V.int ++ [V.int x])) = G at hl' hu' gd B
      have nu' := uad
      have hsz' : (W2 ++ [x]).length + R2.length + m ≤ 20 := by rw [List.length_append, List.length_singleton]; omega
      have hVR' : ∀ y ∈ R2, y ∈ V4 := fun y hy => hVR y (hRm y hy)
      have hVW' : ∀ y ∈ W2 ++ [x], y ∈ V4 := fun y hy => (List.mem_append.mp hy).elim (fun z => hVW y (hWm y z)) fun z => by rw [List.mem_singleton.mp z]; exact hx4
      have hsub : ∀ y, (y ∈ W2 ++ [x] ∨ y ∈ R2) → y ≠ x → y ∈ W ∨ y ∈ R := fun y hy ne => hy.elim (fun z => (List.mem_append.mp z).elim (fun q => .inl (hWm y q)) fun q => absurd (List.mem_singleton.mp q) ne) fun z => .inr (hRm y z)
      obtain ⟨ua', eua⟩ : ∃ ua' : Addr, ua' = ua := ⟨_, rfl⟩
      subst eua
      obtain ⟨R', eR⟩ : ∃ R' : List Int, R' = R2 := ⟨_, rfl⟩
      subst eR
      obtain ⟨W', eW⟩ : ∃ W' : List Int, W' = W2 ++ [x] := ⟨_, rfl⟩
      rw [← eW] at hl' hsz' hVW' hsub
      -- the binder: lists W' at la', R' at ua', in G
      refine ⟨by show 2 ≤ sizeLine; decide, fun l hl => ?_⟩
      have s8 := Same.new (o := .lst [.str "least", .str "most"]) hl
      have ld := gd.ne hl
      have l8 := upd_same (H := G) (a := l) (o := .lst [.str "least", .str "most"])
      refine ⟨.ref d, rfl, d, 2, rfl, gd.same s8, by decide, fun v8 H8 v80 v82 b8 d8 => ?_⟩
      obtain ⟨bb, hbb⟩ := two_at (x := V.str "least") (y := V.str "most") v80 v82
      refine ⟨l, _, _, _, rfl, rfl, SqL.of (b8 _ _ ld l8), hbb, .int x, rfl, ?_⟩
      refine ⟨.ref d, rfl, .int ((m + 1 : Nat) : Int), rfl, _, 1, rfl, rfl, .ref la', rfl, .ref ua', rfl, .bl true, rfl, d, la', ua', W', R', by rw [Int.natCast_add]; show [V.ref d, V.int ((m : Int) + 1 - 1), _, _, _] ++ [] = _; rw [Int.add_sub_cancel]; rfl, d8, b8 _ _ nl' (s8 _ _ hl'), b8 _ _ nu' (s8 _ _ hu'), nl', nu', hsz', hVW', hVR', fun v f H9 b9 d9 hf g => ?_⟩
      refine ⟨by show 3 ≤ sizeLine; decide, fun p hp => ?_⟩
      have BB := ((B.trans (Same.but s8)).trans b8).trans b9
      have fr' : ∀ y ∈ fv f, y ≠ x → y ∈ W ∨ y ∈ R := fun y hy ne => (g.fr y hy).elim (fun z => hsub y (.inl z) ne) fun z => hsub y (.inr z) ne
      cases bb with
      | true =>
        have s9 := Same.new (o := .tup [.str "least", .int x, v]) hp
        refine k _ (.one .least x f) _ (BB.trans (Same.but s9)) (d9.same s9) (.one (SqT.of upd_same) (hf.same s9)) ⟨by show f.depth + 1 ≤ _; have := g.dep; omega, ⟨(if_pos (show One.least.bind = true from rfl)).mpr hx4, g.ok⟩, fun y hy => ?_⟩
        have z := List.mem_filter.mp (show y ∈ (fv f).filter (fun y => y ≠ x) from hy)
        exact fr' y z.1 (by simpa using z.2)
      | false =>
        have s9 := Same.new (o := .tup [.str "most", .int x, v]) hp
        refine k _ (.one .most x f) _ (BB.trans (Same.but s9)) (d9.same s9) (.one (SqT.of upd_same) (hf.same s9)) ⟨by show f.depth + 1 ≤ _; have := g.dep; omega, ⟨(if_pos (show One.most.bind = true from rfl)).mpr hx4, g.ok⟩, fun y hy => ?_⟩
        have z := List.mem_filter.mp (show y ∈ (fv f).filter (fun y => y ≠ x) from hy)
        exact fr' y z.1 (by simpa using z.2)
end
end Fw

set_option maxRecDepth 100000
set_option maxHeartbeats 4000000
namespace Fw
open PySem PySem.Spec PyProof.Rows L2
theorem in_ints (x : Int) : ∀ bs : List Int, inV (.int x) (bs.map V.int) = decide (x ∈ bs)
  | [] => by simp [inV]
  | b :: bs => by
    have ih := in_ints x bs
    unfold inV at ih ⊢
    rw [List.map_cons, List.any_cons, ih]
    have e : eqV (V.int b) (V.int x) = decide (x = b) := by
      show _ = _
      by_cases c : x = b
      · subst c
        simp [eqV]
      · simp [eqV, c]
        exact fun q => c q.symm
    rw [e]
    simp
theorem flat_ints (bs : List Int) : (bs.map V.int).all flatV = true := by
  induction bs with
  | nil => rfl
  | cons b bs ih => simpa [flatV] using ih
def spClosed (K : PySem.W.Frag) (n : Nat) : Sp := fun vs H Q _ => ∃ (d : Addr), vs = [.ref d, .int (n : Nat)] ∧ Draws H d ∧ n ≤ 10 ∧ ∀ v t H', But d H H' → Draws H' d → IsF K H' v t → Gen n [] [] t → Q v H'
def spFr (K : PySem.W.Frag) : Nat → Sp
  | 0 => fun _ _ _ _ => False
  | n + 1 => fun vs H Q _ => ∃ (v : V) (t : F) (ba : Addr) (bs : List Int), vs = [v, .ref ba] ∧ IsF K H v t ∧ t.depth ≤ n + 1 ∧ t.size ≤ 1000 ∧ IL H ba bs ∧ bs.length + n ≤ 100 ∧ ∀ l H', Same H H' → IL H' l (freeL t bs) → Q (.ref l) H'
theorem free_len : ∀ (t : F) (b : List Int), (freeL t b).length ≤ t.size
  | .nul _, _ => Nat.zero_le _
  | .leaf .has _, _ => Nat.zero_le _
  | .leaf .lacks _, _ => Nat.zero_le _
  | .leaf .var x, b => by
    simp only [freeL, F.size]
    split <;> simp
  | .two _ f g, b => by
    have := free_len f b
    have := free_len g b
    simp only [freeL, F.size, List.length_append]
    omega
  | .one k x f, b => by
    have h1 := free_len f (b ++ [x])
    have h2 := free_len f b
    simp only [freeL, F.size]
    split <;> omega
/-- the kids' free variables, one behind the other -/
def freeK (bs : List Int) : List F → List Int
  | [] => []
  | f :: fs => freeL f bs ++ freeK bs fs
theorem freeK_snoc (bs : List Int) : ∀ (fs : List F) (f : F), freeK bs (fs ++ [f]) = freeK bs fs ++ freeL f bs
  | [], f => by simp [freeK]
  | g :: fs, f => by simp [freeK, freeK_snoc bs fs f]
theorem freeK_kids {t : F} {bs : List Int} (nv : ∀ x, t ≠ .leaf .var x) (nb : isB t = false) : freeK bs t.kids = freeL t bs := by
  cases t with
  | nul b => rfl
  | leaf k n =>
    cases k with
    | var => exact absurd rfl (nv n)
    | has => rfl
    | lacks => rfl
  | two b f g => simp [F.kids, freeK, freeL]
  | one k n f =>
    have hk : ¬ k.bind = true := by rw [show k.bind = false from nb]; exact Bool.false_ne_true
    simp only [F.kids, freeK, freeL, if_neg hk, List.append_nil]
theorem var_word {hd : Hd} (nv : ∀ x, hd ≠ .leaf .var x) : V.str (hw hd) ≠ V.str "var" := by
  cases hd with
  | nul b => exact nv_N b
  | two b => exact nv_T b
  | one k _ => exact nv_O k
  | leaf k x =>
    cases k with
    | var => exact absurd rfl (nv x)
    | has => exact nv_has
    | lacks => exact nv_lacks
theorem kid_small {t f : F} (h : f ∈ t.kids) : f.depth + 1 ≤ t.depth ∧ f.size + 1 ≤ t.size := by
  cases t with
  | nul b => cases h
  | leaf k n => cases h
  | two b x y =>
    simp only [F.kids, List.mem_cons, List.not_mem_nil, or_false] at h
    simp only [F.depth, F.size]
    rcases h with rfl | rfl <;> omega
  | one k n x =>
    simp only [F.kids, List.mem_cons, List.not_mem_nil, or_false] at h
    subst h
    simp [F.depth, F.size]
section
variable {P : Program} {w : World} {K : PySem.W.Frag} {mg : Str → Option Value} {base : Heap} {C J B NC FE : Addr}
theorem noneOk {f : Addr} {fd : FuncData} {k : Nat} {ps : List Str} : FnOk P w K mg base CX0 k f fd ps (fun _ _ _ _ => False) :=
  ⟨fun _ _ _ _ h => h.elim, fun _ _ _ _ _ _ _ _ _ _ _ _ _ h => h.elim⟩
theorem all_statement {f : Addr} {fd : FuncData} (FF : Fun K "_law_statement" "_law_statement" s_law_statement f fd) (b : Binds K fd a_law_statement []) (m : mg "_law_statement" = some (.ref f)) (T : Txt K mg C J B)
    (h_law_take : Has P w K mg base "_law_take" 1 a_law_take spTake) (h_law_atom : Has P w K mg base "_law_atom" 2 a_law_atom (spAtom K)) : ∀ n, Has P w K mg base "_law_statement" (n + 2) a_law_statement (spS K n)
  | 0 => ⟨f, fd, m, FF.kp, b, noneOk⟩
  | n + 1 => ⟨f, fd, m, FF.kp, b, ok_law_statement n FF T h_law_take h_law_atom (all_statement FF b m T h_law_take h_law_atom n)⟩
theorem ok_law_closed {f : Addr} {fd : FuncData} (n : Nat) (FF : Fun K "_law_closed" "_law_closed" s_law_closed f fd) (h_law_statement : Has P w K mg base "_law_statement" (n + 3) a_law_statement (spS K (n + 1))) : FnOk P w K mg base CX0 (n + 4) f fd a_law_closed (spClosed K n) := by
  refine FF.ok sc_law_closed (fun vs H Q E h => ?_) (fun cdv A outer s H vs Q E hr h => ?_)
  · obtain ⟨d, rfl, _⟩ := h
    rfl
  · obtain ⟨d, rfl, hd, hn, k⟩ := h
    refine ⟨_, (pss_one (ps_ret (pe_callH h_law_statement (hr.mono (by omega)) (pa_cons (pv 0) (pa_cons (pv 1) (pa_cons (pe_lst pa_nil) (pa_cons (pe_lst pa_nil) (pa_cons pe_bl pa_nil)))))))), ?_⟩
    refine ⟨.ref d, rfl, .int (n : Nat), rfl, Nat.zero_le _, fun wa hwa => ⟨Nat.zero_le _, fun ra hra => ?_⟩⟩
    have s1 := Same.new (o := .lst []) hwa
    have s2 := Same.new (o := .lst []) hra
    have d1 := hd.same s1
    exact ⟨d, wa, ra, [], [], rfl, d1.same s2, s2 _ _ upd_same, upd_same, hd.ne hwa, d1.ne hra, by simp; omega, by simp, by simp, fun v t H' b dd ht g => k v t H' (((Same.but s1).trans (Same.but s2)).trans b) dd ht g⟩
end
end Fw

set_option maxRecDepth 100000
set_option maxHeartbeats 4000000
namespace Fw
open PySem PySem.Spec PyProof.Rows L2
/-! ### statements as data -/
def dV : V → PyData
  | .str z => .str z
  | .int i => .int i
  | _ => .none
def dF : F → PyData
  | .nul b => .tuple ((hv (.nul b)).map dV)
  | .leaf k n => .tuple ((hv (.leaf k n)).map dV)
  | .two b f g => .tuple ((hv (.two b)).map dV ++ [dF f, dF g])
  | .one k n f => .tuple ((hv (.one k n)).map dV ++ [dF f])
theorem dp_F {K : PySem.W.Frag} {H : Hp} {v : V} {t : F} (h : IsF K H v t) : Dp K H v (dF t) := by
  induction h with
  | nul h => exact .tup h (.cons (.str _) .nil)
  | leaf h => exact .tup h (.cons (.str _) (.cons (.int _) .nil))
  | two h _ _ f g => exact .tup h (.cons (.str _) (.cons f (.cons g .nil)))
  | one h _ f => exact .tup h (.cons (.str _) (.cons (.int _) (.cons f .nil)))
theorem ok_hw (h : Hd) : PyData.strOk (hw h) = true := by
  cases h with
  | nul b => cases b <;> decide +kernel
  | leaf k n =>
    show PyData.strOk (wL k) = true
    cases k <;> decide +kernel
  | two b => cases b <;> decide +kernel
  | one k n =>
    show PyData.strOk (wO k) = true
    cases k <;> decide +kernel
theorem dF_lay : ∀ t : F, (dF t).canLay0 = true
  | .nul b => by
    have := ok_hw (.nul b)
    simp only [hw] at this
    simp [dF, hv, dV, PyData.canLay0, PyData.canLayAll0, this]
  | .leaf k n => by
    have := ok_hw (.leaf k n)
    simp only [hw] at this
    simp [dF, hv, dV, PyData.canLay0, PyData.canLayAll0, this]
  | .two b f g => by
    have := ok_hw (.two b)
    simp only [hw] at this
    simp [dF, hv, dV, PyData.canLay0, PyData.canLayAll0, this, dF_lay f, dF_lay g]
  | .one k n f => by
    have := ok_hw (.one k n)
    simp only [hw] at this
    simp [dF, hv, dV, PyData.canLay0, PyData.canLayAll0, this, dF_lay f]
theorem dF_depth : ∀ t : F, (dF t).depth ≤ t.depth
  | .nul b => by simp [dF, hv, dV, PyData.depth, PyData.depthAll, F.depth]
  | .leaf k n => by simp [dF, hv, dV, PyData.depth, PyData.depthAll, F.depth]
  | .two b f g => by
    have := dF_depth f
    have := dF_depth g
    simp [dF, hv, dV, PyData.depth, PyData.depthAll, F.depth]
    omega
  | .one k n f => by
    have := dF_depth f
    simp [dF, hv, dV, PyData.depth, PyData.depthAll, F.depth]
    omega
theorem dF_shaped {t : F} (h : t.depth ≤ 64) : SeqAt.shaped (dF t) = true := by
  unfold SeqAt.shaped
  rw [dF_lay, decide_eq_true (Nat.le_trans (dF_depth t) h)]
  rfl
theorem dF_same (t : F) : PyData.eqv (dF t) (dF t) = true := SeqAt.eqv_refl _ (dF_lay t)
theorem dp_ints {K : PySem.W.Frag} {H : Hp} : ∀ ns : List Int, DpAll K H (ns.map V.int) (ns.map PyData.int)
  | [] => .nil
  | n :: ns => .cons (.int n) (dp_ints ns)
theorem ints_lay : ∀ ns : List Int, PyData.canLayAll0 (ns.map PyData.int) = true
  | [] => by simp [PyData.canLayAll0]
  | n :: ns => by simp [PyData.canLayAll0, PyData.canLay0, ints_lay ns]
theorem ints_depth : ∀ ns : List Int, PyData.depthAll (ns.map PyData.int) = 0
  | [] => by simp [PyData.depthAll]
  | n :: ns => by simp [PyData.depthAll, PyData.depth, ints_depth ns]
theorem ints_shaped (ns : List Int) : SeqAt.shaped (.list (ns.map PyData.int)) = true := by
  unfold SeqAt.shaped
  simp [PyData.canLay0, PyData.depth, ints_lay, ints_depth]
theorem ints_same (ns : List Int) : PyData.eqv (.list (ns.map PyData.int)) (.list (ns.map PyData.int)) = true := SeqAt.eqv_refl _ (by simp [PyData.canLay0, ints_lay])
/-- two rising lists of the same members are one -/
theorem rising_one : ∀ {a b : List Int}, a.Pairwise (· < ·) → b.Pairwise (· < ·) → (∀ x, x ∈ a ↔ x ∈ b) → a = b
  | [], [], _, _, _ => rfl
  | [], y :: b, _, _, h => by have := (h y).mpr List.mem_cons_self; cases this
  | x :: a, [], _, _, h => by have := (h x).mp List.mem_cons_self; cases this
  | x :: a, y :: b, ha, hb, h => by
    have ha' := List.pairwise_cons.mp ha
    have hb' := List.pairwise_cons.mp hb
    have e : x = y := by
      rcases List.mem_cons.mp ((h x).mp List.mem_cons_self) with q | q
      · exact q
      · rcases List.mem_cons.mp ((h y).mpr List.mem_cons_self) with r | r
        · exact r.symm
        · have := ha'.1 y r
          have := hb'.1 x q
          omega
    subst e
    congr 1
    refine rising_one ha'.2 hb'.2 fun z => ?_
    constructor
    · intro hz
      rcases List.mem_cons.mp ((h z).mp (List.mem_cons_of_mem _ hz)) with q | q
      · have := ha'.1 z hz
        omega
      · exact q
    · intro hz
      rcases List.mem_cons.mp ((h z).mpr (List.mem_cons_of_mem _ hz)) with q | q
      · have := hb'.1 z hz
        omega
      · exact q
def isOneH : Hd → Bool
  | .one _ _ => true
  | _ => false
theorem in_four (h : Hd) : inV (.str (hw h)) [.str "least", .str "most", .str "some", .str "all"] = isOneH h := by
  cases h with
  | nul b => cases b <;> rfl
  | leaf k n => cases k <;> rfl
  | two b => cases b <;> rfl
  | one k n => cases k <;> rfl
section
variable {P : Program} {w : World} {K : PySem.W.Frag} {mg : Str → Option Value} {base : Heap} {C J B NC FE : Addr}
end
end Fw

set_option maxRecDepth 100000
set_option maxHeartbeats 4000000
namespace Fw
open PySem PySem.Spec PyProof.Rows L2 GxR
/-! ### a class whose making may raise -/
def HasCX (P : Program) (w : World) (K : PySem.W.Frag) (mg : Str → Option Value) (base : Heap) (x : Str) (C : Addr) (k : Nat) (ps : List Str) (sp : Sp) : Prop :=
  ∃ f fd, mg x = some (.ref C) ∧ Mk K C f ∧ Binds K fd ps [] ∧ FnOk P w K mg base (L2.CX P w) k f fd ps sp
def tMakeS (C : Addr) (sp : Sp) (E : L2.St → XK) (t : TA) : TE := fun σ H Q => t σ H fun vs H1 => ∀ x dx, H1 x = none → H1 dx = none → dx ≠ x →
  sp (.ref x :: vs) (upd (upd H1 dx (.own x)) x (.ins C dx [])) (fun v H2 => v = .non ∧ Q (.ref x) H2) (E σ)
theorem run_makeS {X : Cx} {CX : CXT} {k : Nat} {f C : Addr} {fd : FuncData} {ps : List Str} {sp : Sp} {E : XK} {pins : List (Addr × Obj)} {σ : L2.St} {H : Hp} {s : Shared} {Q : VK} {us : List Value} {vs : List V} (M : Mk X.K C f) (F : FnOk X.prog X.w X.K X.mg X.base CX k f fd ps sp) (hr : Room (k + 1) X.A) (hb : Binds X.K fd ps [])
    (hx : PassesAt CX X σ E) (I : Inv X pins σ H s) (r : Vals vs us)
    (h : ∀ x dx, H x = none → H dx = none → dx ≠ x → sp (.ref x :: vs) (upd (upd H dx (.own x)) x (.ins C dx [])) (fun v H2 => v = .non ∧ Q (.ref x) H2) E) :
    wpAny (model X.prog X.w) X.A (call (.ref C) us) (EP X pins σ Q) X.xe s := by
  have hq := h (s.heap.objs.size + 1) s.heap.objs.size (I.hok.fresh (Nat.le_succ _)) (I.hok.fresh (Nat.le_refl _)) (Nat.ne_of_lt (Nat.lt_succ_self _))
  have I2 := Inv.made (C := C) I
  have r2 : Vals (V.ref (s.heap.objs.size + 1) :: vs) (Value.ref (s.heap.objs.size + 1) :: us) := .cons rfl r
  have hl : (Value.ref (s.heap.objs.size + 1) :: us ++ []).length = ps.length := by
    have e := r2.length
    rw [F.len _ _ _ _ hq] at e
    rw [List.append_nil]
    exact e.symm
  have b := hb _ (Value.ref (s.heap.objs.size + 1) :: us) I2.kIn hl
  rw [List.append_nil] at b
  refine wpAny_call (make_map (f := f) I.kIn M.makes M.init (beq_iff_eq.mp M.fn) (codeAny_mono (F.run _ X.stack _ _ ⟨Value.ref (s.heap.objs.size + 1) :: us, []⟩ (Value.ref (s.heap.objs.size + 1) :: us) _ _ E (hr.make C us [])
    (I2.env0.make C us []) b r2 hq) fun r s' hq' => ?_))
  cases r with
  | error e => exact hx pins _ _ e s' I2 hq'
  | ok fl =>
    cases fl with
    | ret u =>
      obtain ⟨v, H', I3, rv, ev, q3⟩ := I2.after hq'
      subst ev
      exact ⟨rv, ⟨V.ref (s.heap.objs.size + 1), H', I3, rfl, q3⟩⟩
    | next => exact False.elim hq'
    | brk => exact False.elim hq'
    | cont => exact False.elim hq'
theorem pe_makeX {X : Cx} {W : WX} {x : Str} {C : Addr} {k : Nat} {ps : List Str} {sp : Sp} {e : Expr} {es : List Expr} {t : TA} {p pos : Pos} (h : HasCX X.prog X.w X.K X.mg X.base x C k ps sp) (hr : Room (k + 1) X.A) (tk : Takes X W) (ha : PA X (e :: es) t) (hg : Gl X x := by rfl)
    (hdb : (x == ("__debug__" : Str)) = false := by decide) (he : starEach (e :: es) X.env = (false, eval e X.env) :: starEach es X.env := by rfl) (hpl : (backTo pos (starEach es X.env)).any (·.1) = false := by rfl) :
    PE X (.Call (.Name x p) (e :: es) [] pos) (tMakeS C sp (WE W) t) := by
  obtain ⟨f, fd, m, M, b, G⟩ := h
  refine ⟨fun pins s σ H Q I h => ?_⟩
  refine wpAny_Call_Name_kw (ld_glob I hg m ?_ hdb)
  refine PySem.W.callWith_K (h₀ := X.base) I.ok.mod.kin M.kp (thn (ha.run pos pins s σ H _ I h) fun us s1 ⟨vs, H1, I1, r, q⟩ => ⟨I1.kIn, ?_⟩) he hpl
  exact run_makeS M G hr b (passAt tk σ) I1 r q
/-! ### a def whose code object is told -/
structure FunC (K : PySem.W.Frag) (x qual : Str) (st : Stmt) (f : Addr) (fd : FuncData) (c : Addr) : Prop where
  ex : ∃ (oc : Value) (od : Option Addr) (kV doc pm : Value) (an : Option Addr) (ct : Value) (osl : Array (Option Value)),
    fd = PySem.W.fnOf x qual (defArgs st) (defBody st) (defScope st) .none kV doc pm an (.ref c) ct ∧ K.lookup f = some ⟨oc, od, .func fd, osl⟩ ∧ PySem.W.codeIn K (.ref c) qual = true
theorem FunC.ok {P : Program} {w : World} {K : PySem.W.Frag} {mg : Str → Option Value} {base : Heap} {x qual : Str} {st : Stmt} {f c : Addr} {fd : FuncData} {N ps : List Str} {k : Nat} {sp : Sp} (F : FunC K x qual st f fd c) (S : FnScope N ps (defScope st)) (len : ∀ vs H Q E, sp vs H Q E → vs.length = ps.length)
    (hbody : ∀ (A : Around) (outer : List Env) (s : Shared) (H : Hp) (vs : List V) (Q : VK) (E : XK), Room k (A.deeper (envOfC qual (defScope st) s.heap.objs.size f (.ref c))) → sp vs H Q E →
      ∃ t, PSs (cxOf CX0 P w K mg base N qual (defScope st) f (.ref c) A outer s H E).nox (defBody st) t ∧ t { nx := fun _ H' => Q .non H', rt := Q } (start N vs) H) : FnOk P w K mg base CX0 (k + 1) f fd ps sp := by
  obtain ⟨oc, od, kV, doc, pm, an, ct, osl, rfl, lk, hcd⟩ := F.ex
  refine fn_of lk hcd S len fun A outer s H vs Q E hr hsp => ?_
  obtain ⟨t, h, q⟩ := hbody A outer s H vs Q E hr hsp
  exact ⟨t, h.nox, q⟩
/-- what stood is kept but for the table at P -/
def Tb (P : Addr) (H H' : Hp) : Prop := But P H H' ∧ TabG H' P
theorem Tb.refl {P : Addr} {H : Hp} (h : TabG H P) : Tb P H H := ⟨But.refl P H, h⟩
theorem Tb.trans {P : Addr} {H H1 H2 : Hp} (a : Tb P H H1) (b : Tb P H1 H2) : Tb P H H2 := ⟨a.1.trans b.1, b.2⟩
theorem _root_.GxR.TabG.same {P : Addr} {H H' : Hp} (s : Same H H') (h : TabG H P) : TabG H' P := by
  obtain ⟨ps, e, t⟩ := h
  exact ⟨ps, s _ _ e, t⟩
theorem Tb.same {P : Addr} {H H' : Hp} (s : Same H H') (h : TabG H P) : Tb P H H' := ⟨Same.but s, h.same s⟩
theorem _root_.GxR.TabG.ne {P b : Addr} {H : Hp} {o : HO} (h : TabG H P) (e : H b = some o) (n : ∀ ps, o ≠ .tbl ps) : b ≠ P := by
  obtain ⟨ps, q, _⟩ := h
  rintro rfl
  rw [e] at q
  exact n _ (Option.some.inj q)
theorem SqT.tb {K : PySem.W.Frag} {P : Addr} {H H' : Hp} {a : Addr} {xs : List V} (g : TabG H P) (t : Tb P H H') (h : SqT K H a xs) : SqT K H' a xs := by
  rcases h with h | h
  · rcases h with h | ⟨u, h⟩
    · exact .inl (.inl (t.1 _ _ (g.ne h (by intro _ z; cases z)) h))
    · exact .inl (.inr ⟨u, t.1 _ _ (g.ne h (by intro _ z; cases z)) h⟩)
  · exact .inr h
theorem tabbed_tb {P : Addr} {H H' : Hp} (h : Tabbed P H H') : Tb P H H' := ⟨fun b o n e => by rw [h.2 b n]; exact e, h.1⟩
/-- what it has written of the errors -/
structure TxtEW (K : PySem.W.Frag) (mg : Str → Option Value) (NC : Addr) : Prop where
  gC : mg "InvalidWorld" = some (.ref NC)
  xC : PySem.W.excIn K NC [.type "ValueError", .type "Exception", .type "BaseException", .type "object"] "ValueError.__new__" = true
  kC : PySem.W.keepIn K (.ref NC) = true
  bC : PySem.W.subIn K (.ref NC) (.type "BaseException") = some true
  tC : PySem.W.typeIn K (.ref NC) = some (.type "type")
  eC : PySem.W.exmOne K (.ref NC) (.ref NC) = some true
structure TxtL (mg : Str → Option Value) (t1 t2 t3 : Tok) : Prop where
  m_MOST_LABELS : mg "MOST_LABELS" = some (.int 3 t1)
  m_MOST_FACTS : mg "MOST_FACTS" = some (.int 6 t2)
  m_MOST_STATES : mg "MOST_STATES" = some (.int 400 t3)
section
variable {P : Program} {w : World} {K : PySem.W.Frag} {mg : Str → Option Value} {base : Heap} {C J B NC WC cA tA : Addr} {t1 t2 t3 : Tok}
def spNum : Sp := fun vs H Q _ => ∃ n lo hi : Int, vs = [.int n, .int lo, .int hi] ∧ Q (.bl (decide (lo ≤ n) && decide (n ≤ hi))) H
theorem ok_is_number {f : Addr} {fd : FuncData} (FF : Fun K "is_number" "is_number" s_is_number f fd) (T : Txt K mg C J B) : FnOk P w K mg base CX0 1 f fd a_is_number spNum := by
  refine FF.ok sc_is_number (fun vs H Q E h => ?_) (fun cdv A outer s H vs Q E hr h => ?_)
  · obtain ⟨n, lo, hi, rfl, _⟩ := h
    rfl
  · obtain ⟨n, lo, hi, rfl, k⟩ := h
    refine ⟨_, (pss_one (ps_ret (pe_and (pe_callB call_isi rfl T.z_isinstance (by decide +kernel) (pa_cons (pv 0) (pa_cons (pe_bltn (v := .ty "int") (u := .type "int") rfl T.z_int (by decide +kernel) rfl) pa_nil))) (pe_and (pe_not (pe_callB call_isi rfl T.z_isinstance (by decide +kernel) (pa_cons (pv 0) (pa_cons (pe_bltn (v := .ty "bool") (u := .type "bool") rfl T.z_bool (by decide +kernel) rfl) pa_nil)))) (pe_one (pe_chain op_le op_le (pv 1) (pv 0) (pv 2))))))), ?_⟩
    refine ⟨.int n, rfl, .int n, .ty "int", .type "int", .type "int", true, rfl, .ty "int", .base (.int n), kit_ty (by decide +kernel), true, rfl, iteT ?_⟩
    refine ⟨.int n, rfl, .int n, .ty "bool", .type "int", .type "bool", false, rfl, .ty "bool", .base (.int n), kit_ty (by decide +kernel), false, rfl, true, rfl, iteT ?_⟩
    refine ⟨.int lo, rfl, .int n, rfl, lo, n, rfl, rfl, _, rfl, ?_⟩
    by_cases c : lo ≤ n
    · refine (if_pos (decide_eq_true c)).mpr ⟨.int hi, rfl, n, hi, rfl, rfl, ?_⟩
      rw [decide_eq_true c, Bool.true_and] at k
      exact k
    · refine (if_neg (by rw [decide_eq_false c]; exact Bool.false_ne_true)).mpr ?_
      rw [decide_eq_false c, Bool.false_and] at k
      exact k
end
end Fw

set_option maxRecDepth 100000
set_option maxHeartbeats 4000000
namespace Fw
open PySem PySem.Spec PyProof.Rows L2
def FAt (H : Hp) (as : List Addr) (Xs : List (List Int)) : Prop := as.length = Xs.length ∧ ∀ (i : Nat) (a : Addr) (X : List Int), as[i]? = some a → Xs[i]? = some X → IL H a X
def PAt (H : Hp) (as : List Addr) (ps : List (Int × Int × Int)) : Prop := as.length = ps.length ∧ ∀ (i : Nat) (a : Addr) (p : Int × Int × Int), as[i]? = some a → ps[i]? = some p → H a = some (.tup [.int p.1, .int p.2.1, .int p.2.2])
structure WAx (H : Hp) (wa sa pa : Addr) (fas pas : List Addr) (W : Wd) : Prop where
  w : H wa = some (.tup [.ref sa, .ref pa])
  s : H sa = some (.lst (fas.map V.ref))
  p : H pa = some (.lst (pas.map V.ref))
  f : FAt H fas W.facts
  t : PAt H pas W.steps
def WAt (H : Hp) (v : V) (W : Wd) : Prop := ∃ (wa sa pa : Addr) (fas pas : List Addr), v = .ref wa ∧ WAx H wa sa pa fas pas W
theorem WAx.same {H H' : Hp} {wa sa pa : Addr} {fas pas : List Addr} {W : Wd} (z : Same H H') (h : WAx H wa sa pa fas pas W) : WAx H' wa sa pa fas pas W :=
  ⟨z _ _ h.w, z _ _ h.s, z _ _ h.p, ⟨h.f.1, fun i a X e1 e2 => z _ _ (h.f.2 i a X e1 e2)⟩, ⟨h.t.1, fun i a X e1 e2 => z _ _ (h.t.2 i a X e1 e2)⟩⟩
theorem WAt.same {H H' : Hp} {v : V} {W : Wd} (z : Same H H') (h : WAt H v W) : WAt H' v W := by
  obtain ⟨wa, sa, pa, fas, pas, e, x⟩ := h
  exact ⟨wa, sa, pa, fas, pas, e, x.same z⟩
/-- the world's size fits -/
structure Wd.Fit (W : Wd) : Prop where
  good : W.Good
  one : 1 ≤ W.n
  n8 : W.n ≤ 8
  st : W.steps.length ≤ 200
  fc : ∀ X ∈ W.facts, X.length ≤ 8
theorem FAt.nil (H : Hp) : FAt H [] [] := ⟨rfl, fun i a X e _ => by cases e⟩
theorem PAt.nil (H : Hp) : PAt H [] [] := ⟨rfl, fun i a X e _ => by cases e⟩
theorem FAt.map {H H' : Hp} {as : List Addr} {Xs : List (List Int)} (h : FAt H as Xs) (z : ∀ a o, a ∈ as → H a = some o → H' a = some o) : FAt H' as Xs :=
  ⟨h.1, fun i a X e1 e2 => z _ _ (List.mem_of_getElem? e1) (h.2 i a X e1 e2)⟩
theorem PAt.map {H H' : Hp} {as : List Addr} {Xs : List (Int × Int × Int)} (h : PAt H as Xs) (z : ∀ a o, a ∈ as → H a = some o → H' a = some o) : PAt H' as Xs :=
  ⟨h.1, fun i a X e1 e2 => z _ _ (List.mem_of_getElem? e1) (h.2 i a X e1 e2)⟩
theorem get_snoc {α : Type} {l : List α} {x : α} {i : Nat} {y : α} (h : (l ++ [x])[i]? = some y) : l[i]? = some y ∨ (i = l.length ∧ x = y) := by
  by_cases lt : i < l.length
  · rw [List.getElem?_append_left lt] at h
    exact .inl h
  · have e : i = l.length := by
      have := (List.getElem?_eq_some_iff.mp h).1
      rw [List.length_append, List.length_singleton] at this
      omega
    subst e
    rw [List.getElem?_append_right (Nat.le_refl _), Nat.sub_self] at h
    exact .inr ⟨rfl, Option.some.inj h⟩
theorem get_len {α : Type} {l : List α} {i : Nat} {y : α} (h : l[i]? = some y) : i < l.length := (List.getElem?_eq_some_iff.mp h).1
theorem FAt.snoc {H : Hp} {as : List Addr} {Xs : List (List Int)} {a : Addr} {X : List Int} (h : FAt H as Xs) (z : IL H a X) : FAt H (as ++ [a]) (Xs ++ [X]) :=
  ⟨by rw [List.length_append, List.length_append, h.1]; rfl, fun i b Y e1 e2 => by
    rcases get_snoc e1 with e1' | ⟨q, rfl⟩
    · rcases get_snoc e2 with e2' | ⟨q, rfl⟩
      · exact h.2 i b Y e1' e2'
      · have := get_len e1'; rw [h.1] at this; omega
    · rcases get_snoc e2 with e2' | ⟨q2, rfl⟩
      · have := get_len e2'; rw [← h.1] at this; omega
      · exact z⟩
theorem PAt.snoc {H : Hp} {as : List Addr} {Xs : List (Int × Int × Int)} {a : Addr} {p : Int × Int × Int} (h : PAt H as Xs) (z : H a = some (.tup [.int p.1, .int p.2.1, .int p.2.2])) : PAt H (as ++ [a]) (Xs ++ [p]) :=
  ⟨by rw [List.length_append, List.length_append, h.1]; rfl, fun i b Y e1 e2 => by
    rcases get_snoc e1 with e1' | ⟨q, rfl⟩
    · rcases get_snoc e2 with e2' | ⟨q, rfl⟩
      · exact h.2 i b Y e1' e2'
      · have := get_len e1'; rw [h.1] at this; omega
    · rcases get_snoc e2 with e2' | ⟨q2, rfl⟩
      · have := get_len e2'; rw [← h.1] at this; omega
      · exact z⟩
section
variable {P : Program} {w : World} {K : PySem.W.Frag} {mg : Str → Option Value} {base : Heap} {C J B NC FE OD : Addr}
def RowUp (f : Int) (X : List Int) : Prop := X.Pairwise (· < ·) ∧ ∀ x ∈ X, 0 ≤ x ∧ x < f
def StUp (n : Nat) (q p : T3) : Prop := 0 ≤ p.1 ∧ p.1 < (n : Int) ∧ 0 ≤ p.2.1 ∧ p.2.1 < 2 ∧ 0 ≤ p.2.2 ∧ p.2.2 < (n : Int) ∧ lex3 p q = true
theorem StUp.up {n : Nat} {q q' p : T3} (h : StUp n q p) (z : Lt3 p q → Lt3 p q') : StUp n q' p := by
  obtain ⟨a, b, c, d, e, f, g⟩ := h
  exact ⟨a, b, c, d, e, f, lex3_iff.mpr (z (lex3_iff.mp g))⟩
/-- its rows ascend, and its steps -/
structure Wd.Up (W : Wd) (f : Int) : Prop where
  rows : ∀ X ∈ W.facts, RowUp f X
  steps : W.steps.Pairwise fun x y => lex3 x y = true
  in_ : ∀ p ∈ W.steps, StUp W.n (W.n, 0, 0) p
def spWorld : Sp := fun vs H Q _ => ∃ (d : Addr) (mo fc : Int), vs = [.ref d, .int mo, .int fc] ∧ Draws H d ∧ 1 ≤ mo ∧ mo ≤ 8 ∧ 0 ≤ fc ∧ fc ≤ 8 ∧
  ∀ (wa sa pa : Addr) (fas pas : List Addr) W H', But d H H' → Draws H' d → WAx H' wa sa pa fas pas W → sa ≠ d → pa ≠ d → (∀ a ∈ fas, a ≠ d) → W.Fit → W.Up fc → (W.n : Int) ≤ mo → Q (.ref wa) H'
theorem ok_law_world {f : Addr} {fd : FuncData} (FF : Fun K "_law_world" "_law_world" s_law_world f fd) (T : Txt K mg C J B) (h_law_take : Has P w K mg base "_law_take" 1 a_law_take spTake) : FnOk P w K mg base CX0 2 f fd a_law_world spWorld := by
  refine FF.ok sc_law_world (fun vs H Q E h => ?_) (fun cdv A outer s H vs Q E hr h => ?_)
  · obtain ⟨d, mo, fc, rfl, _⟩ := h
    rfl
  · obtain ⟨d, mo, fc, rfl, hd, m1, m8, f0, f8, k⟩ := h
    refine ⟨_, (pss_cons (ps_set (i := 3) sc_law_world.nd rfl (.inl rfl) (pe_op op_add pe_int (pe_callH h_law_take (hr.mono (by omega)) (pa_cons (pv 0) (pa_cons (pv 1) pa_nil)))))
      (pss_cons (ps_setLc (i := 5) (own := [("state", 4)]) (g := gName 4) rfl sc_law_world.nd rfl rfl (sw_true rfl rfl rfl (by decide +kernel)) (pi_range1 rfl T.z_range (pa_cons (pv 3) pa_nil)) (blkOk_by (own := [("state", 4)]) (N := n_law_world) (sc := defScope s_law_world) (by decide +kernel)) (fun _ _ _ _ _ => (pg_name (i := 4) sc_law_world.nd rfl (.inl rfl))) (fun _ _ _ _ _ => pts_nil) (fun _ _ _ _ _ => (pe_lc (own := [("fact", 9)]) (g := gName 9) rfl sc_law_world.nd (pi_range1 rfl T.z_range (pa_cons (pv 2) pa_nil)) (blkOk_by (own := [("fact", 9)]) (N := n_law_world) (sc := { kind := PySem.ScopeKind.function, names := [ (PySem.Str.ofString ".0", PySem.NameKind.local), (PySem.Str.ofString "state", PySem.NameKind.local), (PySem.Str.ofString "range", PySem.NameKind.globalImplicit), (PySem.Str.ofString "draws", PySem.NameKind.cell), (PySem.Str.ofString "facts", PySem.NameKind.cell)], isGenerator := false, isCoroutine := false, more := [] : PySem.Scope }) (by decide +kernel)) (fun _ _ _ _ _ => (pg_name (i := 9) sc_law_world.nd rfl (.inl rfl))) (fun _ _ _ _ _ => (pts_one (pt_cmpR op_eq (pe_callH h_law_take (hr.mono (by omega)) (pa_cons (pv 0) (pa_cons pe_int pa_nil))) pe_int (nomark _)))) (fun _ _ _ _ _ => (pv 9)))))
      (pss_cons (ps_set (i := 6) sc_law_world.nd rfl (.inl rfl) (pe_lst pa_nil))
      (pss_cons (ps_for PassesOwn.never rfl (pi_range1 rfl T.z_range (pa_cons (pv 3) pa_nil)) (pg_name (i := 4) sc_law_world.nd rfl (.inl rfl)) (pss_one (ps_for PassesOwn.never rfl (pi_range1 rfl T.z_range (pa_cons pe_int pa_nil)) (pg_name (i := 7) sc_law_world.nd rfl (.inl rfl)) (pss_one (ps_for PassesOwn.never rfl (pi_range1 rfl T.z_range (pa_cons (pv 3) pa_nil)) (pg_name (i := 8) sc_law_world.nd rfl (.inl rfl)) (pss_one (ps_if (pt_cmpR op_lt (pe_callH h_law_take (hr.mono (by omega)) (pa_cons (pv 0) (pa_cons (pe_op op_add pe_int (pv 3)) pa_nil))) pe_int (nomark _)) (pss_one (ps_expr (pe_bm PySem.F.plainAttrs_list PySem.F.slot_list_append PySem.F.type_list_append mt_append (pv 6) (pa_cons (pe_tup (pa_cons (pv 4) (pa_cons (pv 7) (pa_cons (pv 8) pa_nil)))) pa_nil)))) pss_nil)))))))
      (pss_one (ps_ret (pe_tup (pa_cons (pv 5) (pa_cons (pv 6) pa_nil))))))))), ?_⟩
    refine ⟨.ref d, rfl, .int mo, rfl, d, mo, rfl, hd, by omega, fun v1 H1 v10 v1m b1 d1 => ⟨1, v1, rfl, rfl, ?_⟩⟩
    obtain ⟨n, hn⟩ : ∃ n : Nat, 1 + v1 = (n : Int) := ⟨(1 + v1).toNat, by omega⟩
    show gName 3 (V.int (1 + v1)) _ _ _
    rw [hn]
    have n1 : 1 ≤ n := by omega
    have n8 : n ≤ 8 := by omega
    refine ⟨.int (n : Nat), rfl, (n : Nat), rfl, by omega, by omega, fun D hD => ?_⟩
    have dD : D ≠ d := d1.ne hD
    refine lc_range (lo := 0) (n := ((n : Int)).toNat) (fun i G => But d H1 G ∧ Draws G d ∧ ∃ (fas : List Addr) (Xs : List (List Int)), G D = some (.lst (fas.map V.ref)) ∧ fas.length = i ∧ FAt G fas Xs ∧ (∀ a ∈ fas, a ≠ d ∧ a ≠ D) ∧ ∀ X ∈ Xs, X.length ≤ 8 ∧ RowUp fc X)
      ⟨Same.but (Same.new hD), d1.same (Same.new hD), [], [], upd_same, rfl, FAt.nil _, fun a h => (by cases h), fun X h => (by cases h)⟩ ?_ ?_
    · rintro i G hi ⟨bG, dG, fas, Xs, gD, li, fa, ne, x8⟩
      rw [Int.toNat_natCast] at hi
      refine ⟨rfl, ?_⟩
      refine ⟨.int fc, rfl, fc, rfl, by omega, by omega, fun D2 hD2 => ?_⟩
      have dD2 : D2 ≠ d := dG.ne hD2
      have dDD : D2 ≠ D := fun e => by rw [e, gD] at hD2; cases hD2
      refine lc_range (lo := 0) (n := fc.toNat) (fun j G2 => But d G G2 ∧ Draws G2 d ∧ ∃ X : List Int, IL G2 D2 X ∧ X.length ≤ j ∧ RowUp j X)
        ⟨Same.but (Same.new hD2), dG.same (Same.new hD2), [], upd_same, Nat.le_refl 0, List.Pairwise.nil, fun x hx => (by cases hx)⟩ ?_ ?_
      · rintro j G2 hj ⟨bG2, dG2, X, gD2, lX, rX⟩
        refine ⟨rfl, ?_⟩
        refine ⟨.ref d, rfl, d, 2, rfl, dG2, by decide, fun v2 H2 v20 v22 b2 d2 => ⟨rfl, _, rfl, ?_⟩⟩
        have gD2' := b2 _ _ dD2 gD2
        refine ite2 (fun c => ?_) (fun c => ?_)
        · refine ⟨_, rfl, _, gD2', by rw [List.length_map]; exact small1000 (by omega), fun b o nb e => ?_, ?_, X ++ [0 + (j : Int)], ?_, by rw [List.length_append]; exact Nat.succ_le_succ lX, ?_⟩
          · rw [upd_ne (ne_of_none e hD2)]
            exact b2 _ _ nb (bG2 _ _ nb e)
          · obtain ⟨ds, e⟩ := d2
            exact ⟨ds, by rw [upd_ne dD2.symm]; exact e⟩
          · show _ = _
            rw [upd_same, List.map_append]
            rfl
          · refine ⟨List.pairwise_append.mpr ⟨rX.1, List.pairwise_singleton _ _, fun a ha b hb => ?_⟩, fun x hx => ?_⟩
            · rw [List.mem_singleton.mp hb]
              have := (rX.2 a ha).2
              omega
            · rcases List.mem_append.mp hx with hx | hx
              · have := rX.2 x hx
                omega
              · rw [List.mem_singleton.mp hx]
                omega
        · exact ⟨bG2.trans b2, d2, X, gD2', Nat.le_succ_of_le lX, rX.1, fun x hx => by have := rX.2 x hx; omega⟩
      · rintro G2 ⟨bG2, dG2, X, gD2, lX, rX⟩
        have gD' := bG2 _ _ dD gD
        refine ⟨_, gD', by rw [List.length_map]; exact small1000 (by omega), fun b o nb e => ?_, ?_, fas ++ [D2], Xs ++ [X], by rw [upd_same, List.map_append]; rfl, by rw [List.length_append, li]; rfl, FAt.snoc (fa.map fun a o ha e => ?_) ?_, fun a ha => ?_, fun Y hY => ?_⟩
        · rw [upd_ne (ne_of_none e hD)]
          exact bG2 _ _ nb (bG _ _ nb e)
        · obtain ⟨ds, e⟩ := dG2
          exact ⟨ds, by rw [upd_ne dD.symm]; exact e⟩
        · rw [upd_ne (ne a ha).2]
          exact bG2 _ _ (ne a ha).1 e
        · show _ = _
          rw [upd_ne dDD]
          exact gD2
        · rcases List.mem_append.mp ha with ha | ha
          · exact ne a ha
          · rw [List.mem_singleton.mp ha]
            exact ⟨dD2, dDD⟩
        · rcases List.mem_append.mp hY with hY | hY
          · exact x8 Y hY
          · rw [List.mem_singleton.mp hY]
            refine ⟨by omega, rX.1, fun x hx => ?_⟩
            have := rX.2 x hx
            omega
    · rintro G0 ⟨bG0, dG0, fas, Xs, gD, li, fa, ne, x8⟩
      rw [Int.toNat_natCast] at li
      refine ⟨Nat.zero_le _, fun L hL => ?_⟩
      have s2 := Same.new (o := .lst []) hL
      have dL : L ≠ d := dG0.ne hL
      have bH := bG0.trans (Same.but s2)
      refine ⟨.int (n : Nat), rfl, (n : Nat), rfl, by omega, by omega, ?_⟩
      refine for_range (lo := 0) (n := ((n : Int)).toNat) (fun i σ G => ∃ (y4 y7 y8 y9 : Option V) (pas : List Addr) (ps : List (Int × Int × Int)), σ = [some (.ref d), some (.int mo), some (.int fc), some (.int (n : Nat)), y4, some (.ref D), some (.ref L), y7, y8, y9] ∧
          But d G0 G ∧ Draws G d ∧ G L = some (.lst (pas.map V.ref)) ∧ PAt G pas ps ∧ (∀ a ∈ pas, a ≠ d ∧ a ≠ L) ∧ ps.length ≤ i * 16 ∧ ps.Pairwise (fun x y => lex3 x y = true) ∧ ∀ p ∈ ps, StUp n ((i : Int), 0, 0) p)
        ⟨_, _, _, _, [], [], rfl, Same.but s2, dG0.same s2, upd_same, PAt.nil _, fun a h => (by cases h), Nat.zero_le _, List.Pairwise.nil, fun p h => (by cases h)⟩ ?_ ?_
      · rintro i σ G hi ⟨y4, y7, y8, y9, pas, ps, rfl, bG, dG, gL, pAt, ne2, pl, pw, pg⟩
        rw [Int.toNat_natCast] at hi
        refine ⟨2, rfl, by omega, by omega, ?_⟩
        refine for_range (lo := 0) (n := 2) (fun j σ G => ∃ (y7 y8 y9 : Option V) (pas : List Addr) (ps : List (Int × Int × Int)), σ = [some (.ref d), some (.int mo), some (.int fc), some (.int (n : Nat)), some (.int (0 + (i : Int))), some (.ref D), some (.ref L), y7, y8, y9] ∧
            But d G0 G ∧ Draws G d ∧ G L = some (.lst (pas.map V.ref)) ∧ PAt G pas ps ∧ (∀ a ∈ pas, a ≠ d ∧ a ≠ L) ∧ ps.length ≤ i * 16 + j * 8 ∧ ps.Pairwise (fun x y => lex3 x y = true) ∧ ∀ p ∈ ps, StUp n ((i : Int), (j : Int), 0) p)
          ⟨_, _, _, pas, ps, rfl, bG, dG, gL, pAt, ne2, pl, pw, pg⟩ ?_ ?_
        · clear bG dG gL pAt ne2 pl pw pg
          rintro j σ G hj ⟨y7, y8, y9, pas, ps, rfl, bG, dG, gL, pAt, ne2, pl, pw, pg⟩
          refine ⟨.int (n : Nat), rfl, (n : Nat), rfl, by omega, by omega, ?_⟩
          refine for_range (lo := 0) (n := ((n : Int)).toNat) (fun o σ G => ∃ (y8 y9 : Option V) (pas : List Addr) (ps : List (Int × Int × Int)), σ = [some (.ref d), some (.int mo), some (.int fc), some (.int (n : Nat)), some (.int (0 + (i : Int))), some (.ref D), some (.ref L), some (.int (0 + (j : Int))), y8, y9] ∧
              But d G0 G ∧ Draws G d ∧ G L = some (.lst (pas.map V.ref)) ∧ PAt G pas ps ∧ (∀ a ∈ pas, a ≠ d ∧ a ≠ L) ∧ ps.length ≤ i * 16 + j * 8 + o ∧ ps.Pairwise (fun x y => lex3 x y = true) ∧ ∀ p ∈ ps, StUp n ((i : Int), (j : Int), (o : Int)) p)
            ⟨_, _, pas, ps, rfl, bG, dG, gL, pAt, ne2, pl, pw, pg⟩ ?_ ?_
          · clear bG dG gL pAt ne2 pl pw pg
            rintro o σ G ho ⟨y8, y9, pas, ps, rfl, bG, dG, gL, pAt, ne2, pl, pw, pg⟩
            rw [Int.toNat_natCast] at ho
            refine ⟨.ref d, rfl, .int (n : Nat), rfl, 2, _, rfl, rfl, d, _, rfl, dG, by omega, fun v3 H3 v30 v3m b3 d3 => ⟨_, _, rfl, rfl, _, rfl, ?_⟩⟩
            have gL3 := b3 _ _ dL gL
            refine ite2 (fun c => ?_) (fun c => ?_)
            · refine ⟨.ref L, rfl, .inl ⟨rfl, _, SqL.of gL3⟩, _, rfl, _, rfl, _, rfl, by show 3 ≤ sizeLine; decide, fun p hp => ?_⟩
              have s4 := Same.new (o := .tup [.int (0 + (i : Int)), .int (0 + (j : Int)), .int (0 + (o : Int))]) hp
              have gL4 := s4 _ _ gL3
              have pd : p ≠ d := d3.ne hp
              have pL : p ≠ L := fun e => by rw [e, gL3] at hp; cases hp
              refine ⟨L, _, _, rfl, rfl, gL4, by rw [List.length_map, pAt.1]; exact small1000 (by omega), ?_⟩
              refine ⟨_, _, pas ++ [p], ps ++ [(0 + (i : Int), 0 + (j : Int), 0 + (o : Int))], rfl, fun b u nb e => ?_, ?_, by rw [upd_same, List.map_append]; rfl, PAt.snoc (pAt.map fun a u ha e => ?_) ?_, fun a ha => ?_, by rw [List.length_append, List.length_singleton]; omega, ?_, fun q hq => ?_⟩
              · rw [upd_ne (ne_of_none e hL)]
                exact s4 _ _ (b3 _ _ nb (bG _ _ nb e))
              · obtain ⟨ds, e⟩ := d3.same s4
                exact ⟨ds, by rw [upd_ne dL.symm]; exact e⟩
              · rw [upd_ne (ne2 a ha).2]
                exact s4 _ _ (b3 _ _ (ne2 a ha).1 e)
              · rw [upd_ne pL]
                exact upd_same
              · rcases List.mem_append.mp ha with ha | ha
                · exact ne2 a ha
                · rw [List.mem_singleton.mp ha]
                  exact ⟨pd, pL⟩
              · refine List.pairwise_append.mpr ⟨pw, List.pairwise_singleton _ _, fun a ha b hb => ?_⟩
                rw [List.mem_singleton.mp hb, Int.zero_add, Int.zero_add, Int.zero_add]
                exact (pg a ha).2.2.2.2.2.2
              · rcases List.mem_append.mp hq with hq | hq
                · exact (pg q hq).up fun z => by unfold Lt3 at *; simp only at *; omega
                · rw [List.mem_singleton.mp hq, Int.zero_add, Int.zero_add, Int.zero_add]
                  refine ⟨by simp only; omega, by simp only; omega, by simp only; omega, by simp only; omega, by simp only; omega, by simp only; omega, lex3_iff.mpr ?_⟩
                  exact .inr ⟨rfl, .inr ⟨rfl, by show (o : Int) < ((o + 1 : Nat) : Int); omega⟩⟩
            · exact ⟨_, _, pas, ps, rfl, bG.trans b3, d3, gL3, pAt.map fun a u ha e => b3 _ _ (ne2 a ha).1 e, ne2, by omega, pw, fun q hq => (pg q hq).up fun z => by unfold Lt3 at *; simp only at *; omega⟩
          · rintro σ G ⟨y8, y9, pas, ps, rfl, bG, dG, gL, pAt, ne2, pl, pw, pg⟩
            rw [Int.toNat_natCast] at pl pg
            exact ⟨_, _, _, pas, ps, rfl, bG, dG, gL, pAt, ne2, by omega, pw, fun q hq => (pg q hq).up fun z => by unfold Lt3 at *; simp only at *; omega⟩
        · rintro σ G ⟨y7, y8, y9, pas, ps, rfl, bG, dG, gL, pAt, ne2, pl, pw, pg⟩
          exact ⟨_, _, _, _, pas, ps, rfl, bG, dG, gL, pAt, ne2, by omega, pw, fun q hq => (pg q hq).up fun z => by have := (pg q hq).2.2.2.1; unfold Lt3 at *; simp only at *; omega⟩
      · rintro σ G ⟨y4, y7, y8, y9, pas, ps, rfl, bG, dG, gL, pAt, ne2, pl, pw, pg⟩
        rw [Int.toNat_natCast] at pl pg
        refine ⟨_, rfl, _, rfl, by show 2 ≤ sizeLine; decide, fun p hp => ?_⟩
        have s5 := Same.new (o := .tup [.ref D, .ref L]) hp
        have eL : Xs.length = n := by rw [← fa.1]; exact li
        refine k p D L fas pas ⟨Xs, ps⟩ _ (b1.trans ((bG0.trans bG).trans (Same.but s5))) (dG.same s5) ⟨upd_same, s5 _ _ (bG _ _ dD gD), s5 _ _ gL, fa.map fun a u ha e => s5 _ _ (bG _ _ (ne a ha).1 e), pAt.map fun a u _ e => s5 _ _ e⟩ dD dL (fun a ha => (ne a ha).1) ⟨?_, ?_, ?_, ?_, fun X hX => (x8 X hX).1⟩ ⟨fun X hX => (x8 X hX).2, pw, fun q hq => ?_⟩ (by show ((Xs.length : Nat) : Int) ≤ mo; omega)
        · intro q hq
          show 0 ≤ q.2.2 ∧ q.2.2 < ((Xs.length : Nat) : Int)
          rw [eL]
          have := pg q hq
          exact ⟨this.2.2.2.2.1, this.2.2.2.2.2.1⟩
        · show 1 ≤ Xs.length
          omega
        · show Xs.length ≤ 8
          omega
        · show ps.length ≤ 200
          omega
        · show StUp Xs.length (((Xs.length : Nat) : Int), 0, 0) q
          rw [eL]
          exact pg q hq
/-! ### where the steps lead -/
/-- lists or tuples -/
abbrev Sq (K : PySem.W.Frag) (H : Hp) (a : Addr) (xs : List V) : Prop := SqL K H a xs ∨ SqT K H a xs
theorem Sq.same {K : PySem.W.Frag} {H H' : Hp} {a : Addr} {xs : List V} (z : Same H H') (h : Sq K H a xs) : Sq K H' a xs := h.imp (SqL.keepAt fun o e => z a o e) (SqT.same z)
structure WSx (K : PySem.W.Frag) (H : Hp) (wa sa pa : Addr) (fas pas : List Addr) (W : Wd) : Prop where
  w : H wa = some (.tup [.ref sa, .ref pa])
  s : Sq K H sa (fas.map V.ref)
  p : Sq K H pa (pas.map V.ref)
  f : fas.length = W.facts.length ∧ ∀ (i : Nat) (a : Addr) (X : List Int), fas[i]? = some a → W.facts[i]? = some X → Sq K H a (X.map V.int)
  t : PAt H pas W.steps
def WSt (K : PySem.W.Frag) (H : Hp) (v : V) (W : Wd) : Prop := ∃ (wa sa pa : Addr) (fas pas : List Addr), v = .ref wa ∧ WSx K H wa sa pa fas pas W
theorem WSx.same {K : PySem.W.Frag} {H H' : Hp} {wa sa pa : Addr} {fas pas : List Addr} {W : Wd} (z : Same H H') (h : WSx K H wa sa pa fas pas W) : WSx K H' wa sa pa fas pas W :=
  ⟨z _ _ h.w, h.s.same z, h.p.same z, ⟨h.f.1, fun i a X e1 e2 => (h.f.2 i a X e1 e2).same z⟩, ⟨h.t.1, fun i a X e1 e2 => z _ _ (h.t.2 i a X e1 e2)⟩⟩
theorem WSt.same {K : PySem.W.Frag} {H H' : Hp} {v : V} {W : Wd} (z : Same H H') (h : WSt K H v W) : WSt K H' v W := by
  obtain ⟨wa, sa, pa, fas, pas, e, x⟩ := h
  exact ⟨wa, sa, pa, fas, pas, e, x.same z⟩
theorem WAx.gen {K : PySem.W.Frag} {H : Hp} {wa sa pa : Addr} {fas pas : List Addr} {W : Wd} (h : WAx H wa sa pa fas pas W) : WSx K H wa sa pa fas pas W :=
  ⟨h.w, .inl (SqL.of h.s), .inl (SqL.of h.p), ⟨h.f.1, fun i a X e1 e2 => .inl (SqL.of (h.f.2 i a X e1 e2))⟩, h.t⟩
/-- the size of a world that is walked -/
structure Wd.Fix (W : Wd) : Prop where
  n16 : W.n ≤ 16
  st : W.steps.length ≤ 400
theorem pe_alt {X : Cx} {e : Expr} {t1 t2 : TE} (h1 : PE X e t1) (h2 : PE X e t2) : PE X e (fun σ H Q => t1 σ H Q ∨ t2 σ H Q) :=
  ⟨fun pins s σ H Q I h => h.elim (h1.run pins s σ H Q I) (h2.run pins s σ H Q I)⟩
def spBehind (K : PySem.W.Frag) : Sp := fun vs H Q _ => ∃ (v : V) (W : Wd) (s l : Int), vs = [v, .int s, .int l] ∧ WSt K H v W ∧ W.steps.length ≤ 400 ∧
  ∀ (b : Addr) H', Same H H' → H b = none → IL H' b (W.beh s l) → Q (.ref b) H'
theorem beh_snoc (ps : List (Int × Int × Int)) (p : Int × Int × Int) (s l : Int) :
    ((ps ++ [p]).filter fun p => decide (p.1 = s) && decide (p.2.1 = l)).map (fun p => p.2.2) = (ps.filter fun p => decide (p.1 = s) && decide (p.2.1 = l)).map (fun p => p.2.2) ++ (if (decide (p.1 = s) && decide (p.2.1 = l)) = true then [p.2.2] else []) := by
  rw [List.filter_append, List.map_append]
  congr 1
  cases c : decide (p.1 = s) && decide (p.2.1 = l)
  · simp [c]
  · simp [c]
theorem ok_law_behind {f : Addr} {fd : FuncData} (FF : Fun K "_law_behind" "_law_behind" s_law_behind f fd) (T : Txt K mg C J B) : FnOk P w K mg base CX0 1 f fd a_law_behind (spBehind K) := by
  refine FF.ok sc_law_behind (fun vs H Q E h => ?_) (fun cdv A outer s H vs Q E hr h => ?_)
  · obtain ⟨v, W, s, l, rfl, _⟩ := h
    rfl
  · obtain ⟨v, W, x, l, rfl, hW, hs, k⟩ := h
    refine ⟨_, (pss_one (ps_ret (pe_alt (pe_lc (own := [("step", 3)]) (g := gName 3) rfl sc_law_behind.nd (pi_list (pe_ix ix_tup (pv 0) pe_int (fun _ _ => rfl))) (blkOk_by (own := [("step", 3)]) (N := n_law_behind) (sc := defScope s_law_behind) (by decide +kernel)) (fun _ _ _ _ _ => (pg_name (i := 3) sc_law_behind.nd rfl (.inl rfl))) (fun _ _ _ _ _ => (pts_one (PW.pt (pw_and (pt_cmpR op_eq (pe_ix (@id (IxR _ (rIxT K)) ix_tup) (pv 3) pe_int (fun _ _ => rfl)) (pv 1) (nomark _)) (pw_and1 (pt_cmpR op_eq (pe_ix (@id (IxR _ (rIxT K)) ix_tup) (pv 3) pe_int (fun _ _ => rfl)) (pv 2) (nomark _))))))) (fun _ _ _ _ _ => (pe_ix (@id (IxR _ (rIxT K)) ix_tup) (pv 3) pe_int (fun _ _ => rfl)))) (pe_lc (own := [("step", 3)]) (g := gName 3) rfl sc_law_behind.nd (pi_tup (pe_ix ix_tup (pv 0) pe_int (fun _ _ => rfl))) (blkOk_by (own := [("step", 3)]) (N := n_law_behind) (sc := defScope s_law_behind) (by decide +kernel)) (fun _ _ _ _ _ => (pg_name (i := 3) sc_law_behind.nd rfl (.inl rfl))) (fun _ _ _ _ _ => (pts_one (PW.pt (pw_and (pt_cmpR op_eq (pe_ix (@id (IxR _ (rIxT K)) ix_tup) (pv 3) pe_int (fun _ _ => rfl)) (pv 1) (nomark _)) (pw_and1 (pt_cmpR op_eq (pe_ix (@id (IxR _ (rIxT K)) ix_tup) (pv 3) pe_int (fun _ _ => rfl)) (pv 2) (nomark _))))))) (fun _ _ _ _ _ => (pe_ix (@id (IxR _ (rIxT K)) ix_tup) (pv 3) pe_int (fun _ _ => rfl))))))), ?_⟩
    obtain ⟨wa, sa, pa, fas, pas, rfl, X⟩ := hW
    rcases X.p with hp | hp
    · refine .inl ⟨.ref wa, rfl, wa, _, _, .ref pa, rfl, rfl, SqT.of X.w, rfl, pa, rfl, ⟨_, hp⟩, fun D hD => ?_⟩
      refine lc_list (xs := pas.map V.ref) (fun i G => Same H G ∧ IL G D (((W.steps.take i).filter fun p => decide (p.1 = x) && decide (p.2.1 = l)).map fun p => p.2.2)) ⟨Same.new hD, upd_same⟩ (fun i G _ q => SqL.keepAt (fun o e => q.1 _ o e) hp) ?_ ?_
      · rintro i y G hy ⟨sG, gD⟩
        have XG := X.same sG
        obtain ⟨a, ha, rfl⟩ : ∃ a, pas[i]? = some a ∧ V.ref a = y := by
          rw [List.getElem?_map] at hy
          cases e : pas[i]? with
          | none => rw [e] at hy; cases hy
          | some a => rw [e] at hy; exact ⟨a, rfl, Option.some.inj hy⟩
        have il : i < W.steps.length := by rw [← X.t.1]; exact get_len ha
        obtain ⟨p, hp⟩ : ∃ p, W.steps[i]? = some p := ⟨W.steps[i], by simp [il]⟩
        have at_ := XG.t.2 i a p ha hp
        have nx : (W.steps.take (i + 1)) = W.steps.take i ++ [p] := by rw [List.take_add_one, hp]; rfl
        have sz : (((W.steps.take i).filter fun p => decide (p.1 = x) && decide (p.2.1 = l)).map fun p => p.2.2).length ≤ 400 := by
          rw [List.length_map]
          refine Nat.le_trans (List.length_filter_le _ _) ?_
          rw [List.length_take]
          omega
        rw [nx, beh_snoc]
        refine ⟨rfl, ?_⟩
        refine ⟨.ref a, rfl, a, _, _, _, rfl, rfl, SqT.of at_, rfl, .int x, rfl, rfl, _, rfl, ?_⟩
        by_cases c1 : p.1 = x
        · refine (if_pos (decide_eq_true (congrArg V.int c1))).mpr ?_
          refine ⟨.ref a, rfl, a, _, _, _, rfl, rfl, SqT.of at_, rfl, .int l, rfl, rfl, _, rfl, ?_⟩
          by_cases c2 : p.2.1 = l
          · refine (if_pos (decide_eq_true (congrArg V.int c2))).mpr ?_
            refine ⟨.ref a, rfl, a, _, _, _, rfl, rfl, SqT.of at_, rfl, _, gD, by rw [List.length_map]; exact small1000 (by omega), fun b o e => by rw [upd_ne (ne_of_none e hD)]; exact sG b o e, ?_⟩
            show _ = _
            rw [upd_same, decide_eq_true c1, decide_eq_true c2, List.map_append]
            rfl
          · refine (if_neg (by rw [decide_eq_false (fun e : V.int p.2.1 = V.int l => c2 (by injection e))]; exact Bool.false_ne_true)).mpr ?_
            refine ⟨sG, ?_⟩
            rw [decide_eq_false c2, Bool.and_false, if_neg Bool.false_ne_true, List.append_nil]
            exact gD
        · refine (if_neg (by rw [decide_eq_false (fun e : V.int p.1 = V.int x => c1 (by injection e))]; exact Bool.false_ne_true)).mpr ?_
          refine ⟨sG, ?_⟩
          rw [decide_eq_false c1, Bool.false_and, if_neg Bool.false_ne_true, List.append_nil]
          exact gD
      · rintro G ⟨sG, gD⟩
        rw [List.length_map, X.t.1, List.take_length] at gD
        exact k D G sG hD gD
    · refine .inr ⟨.ref wa, rfl, wa, _, _, .ref pa, rfl, rfl, SqT.of X.w, rfl, pa, rfl, ⟨_, hp⟩, fun D hD => ?_⟩
      refine lc_tup (xs := pas.map V.ref) (fun i G => Same H G ∧ IL G D (((W.steps.take i).filter fun p => decide (p.1 = x) && decide (p.2.1 = l)).map fun p => p.2.2)) ⟨Same.new hD, upd_same⟩ (fun i G _ q => SqT.same q.1 hp) ?_ ?_
      · rintro i y G hy ⟨sG, gD⟩
        have XG := X.same sG
        obtain ⟨a, ha, rfl⟩ : ∃ a, pas[i]? = some a ∧ V.ref a = y := by
          rw [List.getElem?_map] at hy
          cases e : pas[i]? with
          | none => rw [e] at hy; cases hy
          | some a => rw [e] at hy; exact ⟨a, rfl, Option.some.inj hy⟩
        have il : i < W.steps.length := by rw [← X.t.1]; exact get_len ha
        obtain ⟨p, hp⟩ : ∃ p, W.steps[i]? = some p := ⟨W.steps[i], by simp [il]⟩
        have at_ := XG.t.2 i a p ha hp
        have nx : (W.steps.take (i + 1)) = W.steps.take i ++ [p] := by rw [List.take_add_one, hp]; rfl
        have sz : (((W.steps.take i).filter fun p => decide (p.1 = x) && decide (p.2.1 = l)).map fun p => p.2.2).length ≤ 400 := by
          rw [List.length_map]
          refine Nat.le_trans (List.length_filter_le _ _) ?_
          rw [List.length_take]
          omega
        rw [nx, beh_snoc]
        refine ⟨rfl, ?_⟩
        refine ⟨.ref a, rfl, a, _, _, _, rfl, rfl, SqT.of at_, rfl, .int x, rfl, rfl, _, rfl, ?_⟩
        by_cases c1 : p.1 = x
        · refine (if_pos (decide_eq_true (congrArg V.int c1))).mpr ?_
          refine ⟨.ref a, rfl, a, _, _, _, rfl, rfl, SqT.of at_, rfl, .int l, rfl, rfl, _, rfl, ?_⟩
          by_cases c2 : p.2.1 = l
          · refine (if_pos (decide_eq_true (congrArg V.int c2))).mpr ?_
            refine ⟨.ref a, rfl, a, _, _, _, rfl, rfl, SqT.of at_, rfl, _, gD, by rw [List.length_map]; exact small1000 (by omega), fun b o e => by rw [upd_ne (ne_of_none e hD)]; exact sG b o e, ?_⟩
            show _ = _
            rw [upd_same, decide_eq_true c1, decide_eq_true c2, List.map_append]
            rfl
          · refine (if_neg (by rw [decide_eq_false (fun e : V.int p.2.1 = V.int l => c2 (by injection e))]; exact Bool.false_ne_true)).mpr ?_
            refine ⟨sG, ?_⟩
            rw [decide_eq_false c2, Bool.and_false, if_neg Bool.false_ne_true, List.append_nil]
            exact gD
        · refine (if_neg (by rw [decide_eq_false (fun e : V.int p.1 = V.int x => c1 (by injection e))]; exact Bool.false_ne_true)).mpr ?_
          refine ⟨sG, ?_⟩
          rw [decide_eq_false c1, Bool.false_and, if_neg Bool.false_ne_true, List.append_nil]
          exact gD
      · rintro G ⟨sG, gD⟩
        rw [List.length_map, X.t.1, List.take_length] at gD
        exact k D G sG hD gD
end
end Fw

set_option maxRecDepth 100000
set_option maxHeartbeats 8000000
namespace Fw
open PySem PySem.Spec PyProof.Rows L2
abbrev rLenS (K : PySem.W.Frag) : List V → Hp → VK → Prop := fun xs H Q => ∃ p ys, xs = [.ref p] ∧ (SqL K H p ys ∨ SqT K H p ys) ∧ Q (.int ys.length) H
theorem nd_putW {kvs : List (Key × V)} {k : Key} {v : V} (h : (kvs.map (·.1)).Nodup) : ((putK kvs k v).map (·.1)).Nodup := by
  cases e : valV kvs k with
  | none => exact nd_putK v h e
  | some u =>
    have : (putK kvs k v).map (·.1) = kvs.map (·.1) := by
      unfold putK
      rw [valV_any, e]
      simp only [Option.isSome_some, if_true, List.map_map]
      refine List.map_congr_left fun x _ => ?_
      simp only [Function.comp]
      split <;> rfl
    rw [this]
    exact h
theorem valV_atW : ∀ {kvs : List (Key × V)} {i : Nat} {k : Key} {v : V}, (kvs.map (·.1)).Nodup → kvs[i]? = some (k, v) → valV kvs k = some v ∧ valV (kvs.take i) k = none
  | [], i, k, v, _, h => by simp at h
  | p :: r, 0, k, v, _, h => by
    cases h
    exact ⟨valV_pos rfl, rfl⟩
  | p :: r, i + 1, k, v, nd, h => by
    have nd' := List.nodup_cons.mp (show (p.1 :: r.map (·.1)).Nodup from nd)
    have ih := valV_atW nd'.2 (show r[i]? = some (k, v) from h)
    have ne : ¬ p.1 = k := fun e => nd'.1 (by rw [e]; exact List.mem_map.mpr ⟨(k, v), List.mem_of_getElem? (show r[i]? = some (k, v) from h), rfl⟩)
    exact ⟨by rw [valV_neg ne]; exact ih.1, by rw [List.take_succ_cons, valV_neg ne]; exact ih.2⟩
theorem rgV_rng (n : Nat) : rgV 0 (n : Int) = (rng n).map V.int := by
  unfold rgV rng
  rw [Int.sub_zero, Int.toNat_natCast, List.map_map]
  refine List.map_congr_left fun i _ => ?_
  show V.int (0 + (i : Int)) = V.int (i : Int)
  rw [Int.zero_add]
theorem kF {a b : Str} {A B : Prop} (n : a ≠ b) (h : B) : if decide (V.str a = V.str b) = true then A else B :=
  (if_neg (by rw [decide_eq_false (fun e : V.str a = V.str b => n (by injection e))]; exact Bool.false_ne_true)).mpr h
theorem kT {a : Str} {A B : Prop} (h : A) : if decide (V.str a = V.str a) = true then A else B := (if_pos (decide_eq_true rfl)).mpr h
/-- a list of those items of a list of numbers that a test takes -/
theorem lc_fil {K : PySem.W.Frag} {la : Addr} {X : List Int} {g : TG} {tt : TT} {te : TE} {vs : List Nat} {σ : L2.St} {H0 : Hp} {D : Addr} {Qd : Hp → Prop} (p : Int → Bool)
    (hl : IL H0 la X) (hD : H0 D = none) (hX : X.length ≤ 400)
    (hs : ∀ x ∈ X, ∀ (G : Hp) (Y : VK) (N : Hp → Prop), Same H0 G → (p x = true → ∀ G', Same G G' → Y (.int x) G') → (p x = false → ∀ G', Same G G' → N G') →
      g (.int x) (wipe σ vs) G fun σ2 H2 => wipe σ2 vs = wipe σ vs ∧ tt σ2 H2 fun b H3 => if b = true then te σ2 H3 Y else N H3)
    (hd : ∀ G, Same H0 G → IL G D (X.filter p) → Qd G) :
    ∃ Wm : Nat → Nat → Hp → Prop, (∃ k, Wm 0 k (upd H0 D (.lst []))) ∧ ∀ i k G, Wm i k G →
      ((Itl K la).stop i G ∧ Qd G) ∨
      ((Itl K la).go i G ∧ ∃ Nn : Hp → Prop, (∀ G', Nn G' → ∃ k', k' < k ∧ Wm (i + 1) k' G') ∧ ∀ x G', (Itl K la).yld i G x G' →
        g x (wipe σ vs) G' fun σ2 G2 => wipe σ2 vs = wipe σ vs ∧ tt σ2 G2 fun b G3 =>
          if b = true then te σ2 G3 fun y G4 => ∃ ys, G4 D = some (.lst ys) ∧ ys.length < sizeLine ∧ Nn (upd G4 D (.lst (ys ++ [y])))
          else Nn G3) := by
  refine lc_list (xs := X.map V.int) (fun i G => Same H0 G ∧ IL G D ((X.take i).filter p)) ⟨Same.new hD, upd_same⟩ (fun i G _ q => SqL.of (q.1 _ _ hl)) ?_ ?_
  · rintro i y G hy ⟨sG, gD⟩
    obtain ⟨x, hx, rfl⟩ : ∃ x, X[i]? = some x ∧ V.int x = y := by
      rw [List.getElem?_map] at hy
      cases e : X[i]? with
      | none => rw [e] at hy; cases hy
      | some x => rw [e] at hy; exact ⟨x, rfl, Option.some.inj hy⟩
    have nx : X.take (i + 1) = X.take i ++ [x] := by rw [List.take_add_one, hx]; rfl
    have sz : ((X.take i).filter p).length ≤ 400 := by
      refine Nat.le_trans (List.length_filter_le _ _) ?_
      rw [List.length_take]
      omega
    refine hs x (List.mem_of_getElem? hx) G _ _ sG (fun c G' s' => ⟨_, s' _ _ gD, by rw [List.length_map]; exact small1000 (by omega), fun b o e => by rw [upd_ne (ne_of_none e hD)]; exact s' _ _ (sG b o e), ?_⟩) (fun c G' s' => ⟨sG.trans s', ?_⟩)
    · show _ = _
      rw [upd_same, nx, List.filter_append, List.map_append, List.filter_cons_of_pos c]
      rfl
    · rw [nx, List.filter_append, List.filter_cons_of_neg (by rw [c]; exact Bool.false_ne_true)]
      rw [show List.filter p [] = [] from rfl, List.append_nil]
      exact s' _ _ gD
  · rintro G ⟨sG, gD⟩
    rw [List.length_map, List.take_length] at gD
    exact hd G sG gD
theorem ix_sq {K : PySem.W.Frag} {H : Hp} {a : Addr} {xs : List V} {j : Int} {v : V} {Q : VK} (h : Sq K H a xs) (e : atI xs j = some v) (q : Q v H) : rIx K (.ref a) (.int j) H Q :=
  h.elim (fun h => .inl ⟨a, xs, j, v, rfl, rfl, h, e, q⟩) (fun h => .inr (.inl ⟨a, xs, j, v, rfl, rfl, h, e, q⟩))
def spVal (K : PySem.W.Frag) : Nat → Sp
  | 0 => fun _ _ _ _ => False
  | n + 1 => fun vs H Q _ => ∃ (v sv : V) (W : Wd) (t : F) (na : Addr) (kvs : List (Key × V)) (e : Int → List Int), vs = [v, sv, .ref na] ∧ WSt K H v W ∧ W.Fix ∧ IsF K H sv t ∧ t.depth ≤ n + 1 ∧ H na = some (.dK kvs) ∧ kvs.length + n ≤ 100 ∧ (kvs.map (·.1)).Nodup ∧
      (∀ x ∈ fv t, ∃ a, valV kvs (Sum.inl x) = some (.ref a) ∧ IL H a (e x)) ∧
      ∀ (a : Addr) H', Same H H' → IL H' a (val W t e) → Q (.ref a) H'
section
variable {P : Program} {w : World} {K : PySem.W.Frag} {mg : Str → Option Value} {base : Heap} {C J B NC FE OD : Addr}
theorem ok_law_value {f : Addr} {fd : FuncData} (n : Nat) (FF : Fun K "_law_value" "_law_value" s_law_value f fd) (T : Txt K mg C J B) (h_law_behind : Has P w K mg base "_law_behind" 1 a_law_behind (spBehind K))
    (h_law_value : Has P w K mg base "_law_value" (n + 2) a_law_value (spVal K n)) : FnOk P w K mg base CX0 (n + 3) f fd a_law_value (spVal K (n + 1)) := by
  refine FF.ok sc_law_value (fun vs H Q E h => ?_) (fun cdv A outer s H vs Q E hr h => ?_)
  · obtain ⟨v, sv, W, t, na, kvs, e, rfl, _⟩ := h
    rfl
  · obtain ⟨v, sv, W, t, na, kvs, e, rfl, hW, fit, ht, hdep, hN, hkl, hnd, henv, k⟩ := h
    have hu := hu_of hr
    refine ⟨_, (pss_cons (ps_set (i := 3) sc_law_value.nd rfl (.inl rfl) (pe_listRg rfl rfl T.z_list (prg_1 rfl T.z_range (pe_callB call_len_seq rfl T.z_len (by decide +kernel) (pa_cons (pe_ix ix_tup (pv 0) pe_int (fun _ _ => rfl)) pa_nil)))))
      (pss_cons (ps_set (i := 4) sc_law_value.nd rfl (.inl rfl) (pe_ix ix_tup (pv 1) pe_int (fun _ _ => rfl)))
      (pss_cons (ps_if (pt_cmpR op_eq (pv 4) pe_str (nomark _)) (pss_one (ps_ret (pv 3))) pss_nil)
      (pss_cons (ps_if (pt_cmpR op_eq (pv 4) pe_str (nomark _)) (pss_one (ps_ret (pe_lst pa_nil))) pss_nil)
      (pss_cons (ps_if (pt_cmpR op_eq (pv 4) pe_str (nomark _)) (pss_one (ps_ret (pe_lc (own := [("state", 11)]) (g := gName 11) rfl sc_law_value.nd (pi_list (pv 3)) (blkOk_by (own := [("state", 11)]) (N := n_law_value) (sc := defScope s_law_value) (by decide +kernel)) (fun _ _ _ _ _ => (pg_name (i := 11) sc_law_value.nd rfl (.inl rfl))) (fun _ _ _ _ _ => (pts_one (pt_cmpR (@id (OpR _ _ (rIn K false)) op_in_seq) (pe_ix (@id (IxR _ (rIxT K)) ix_tup) (pv 1) pe_int (fun _ _ => rfl)) (pe_ix (@id (IxR _ (rIx K)) ix_seq) (pe_ix (@id (IxR _ (rIxT K)) ix_tup) (pv 0) pe_int (fun _ _ => rfl)) (pv 11) (fun _ _ => rfl)) (by rfl)))) (fun _ _ _ _ _ => (pv 11))))) pss_nil)
      (pss_cons (ps_if (pt_cmpR op_eq (pv 4) pe_str (nomark _)) (pss_one (ps_ret (pe_lc (own := [("state", 11)]) (g := gName 11) rfl sc_law_value.nd (pi_list (pv 3)) (blkOk_by (own := [("state", 11)]) (N := n_law_value) (sc := defScope s_law_value) (by decide +kernel)) (fun _ _ _ _ _ => (pg_name (i := 11) sc_law_value.nd rfl (.inl rfl))) (fun _ _ _ _ _ => (pts_one (pt_cmpR (@id (OpR _ _ (rIn K true)) op_notIn_seq) (pe_ix (@id (IxR _ (rIxT K)) ix_tup) (pv 1) pe_int (fun _ _ => rfl)) (pe_ix (@id (IxR _ (rIx K)) ix_seq) (pe_ix (@id (IxR _ (rIxT K)) ix_tup) (pv 0) pe_int (fun _ _ => rfl)) (pv 11) (fun _ _ => rfl)) (by rfl)))) (fun _ _ _ _ _ => (pv 11))))) pss_nil)
      (pss_cons (ps_if (pt_cmpR op_eq (pv 4) pe_str (nomark _)) (pss_one (ps_ret (pe_dget hu (pv 2) (pe_ix ix_tup (pv 1) pe_int (fun _ _ => rfl)) (fun _ _ => rfl)))) pss_nil)
      (pss_cons (ps_if (pt_cmpR op_in_seq (pv 4) (pe_tup (pa_cons pe_str (pa_cons pe_str pa_nil))) (by rfl)) (pss_cons (ps_set (i := 5) sc_law_value.nd rfl (.inl rfl) (pe_lst pa_nil))
      (pss_cons (ps_if (pt_cmpR op_eq (pv 4) pe_str (nomark _)) (pss_one (ps_set (i := 5) sc_law_value.nd rfl (.inl rfl) (pe_callTy call_list_of rfl T.z_list (by decide +kernel) (pa_cons (pv 3) pa_nil)))) pss_nil)
      (pss_cons (ps_for PassesOwn.never rfl (pi_range1 rfl T.z_range (pa_cons (pe_op op_add (pe_callB call_len_seq rfl T.z_len (by decide +kernel) (pa_cons (pe_ix ix_tup (pv 0) pe_int (fun _ _ => rfl)) pa_nil)) pe_int) pa_nil)) (pg_name (i := 6) sc_law_value.nd rfl (.inl rfl)) (pss_cons (ps_set (i := 7) sc_law_value.nd rfl (.inl rfl) pe_dnewK)
      (pss_cons (ps_lock (ps_for PassesOwn.never rfl (pi_keys (pv 2)) (pg_name (i := 8) sc_law_value.nd rfl (.inl rfl)) (pss_one (ps_dput hu (pv 7) (pv 8) (pe_dget hu (pv 2) (pv 8) (fun _ _ => rfl)) rfl))))
      (pss_cons (ps_dput hu (pv 7) (pe_ix ix_tup (pv 1) pe_int (fun _ _ => rfl)) (pv 5) rfl)
      (pss_one (ps_set (i := 5) sc_law_value.nd rfl (.inl rfl) (pe_callH h_law_value (hr.mono (by omega)) (pa_cons (pv 0) (pa_cons (pe_ix ix_tup (pv 1) pe_int (fun _ _ => rfl)) (pa_cons (pv 7) pa_nil))))))))))
      (pss_one (ps_ret (pv 5)))))) pss_nil)
      (pss_cons (ps_set (i := 9) sc_law_value.nd rfl (.inr rfl) (pe_callH h_law_value (hr.mono (by omega)) (pa_cons (pv 0) (pa_cons (pe_ix ix_tup (pv 1) (pe_op op_sub (pe_callB call_len_seq rfl T.z_len (by decide +kernel) (pa_cons (pv 1) pa_nil)) pe_int) (fun _ _ => rfl)) (pa_cons (pv 2) pa_nil)))))
      (pss_cons (ps_if (pt_cmpR op_eq (pv 4) pe_str (nomark _)) (pss_one (ps_ret (pe_lc (own := [("state", 11)]) (g := gName 11) rfl sc_law_value.nd (pi_list (pv 3)) (blkOk_by (own := [("state", 11)]) (N := n_law_value) (sc := defScope s_law_value) (by decide +kernel)) (fun _ _ _ _ _ => (pg_name (i := 11) sc_law_value.nd rfl (.inl rfl))) (fun _ _ _ _ _ => (pts_one (pt_cmpR op_gt (pe_callB (@id (CallR _ _ (rLenS K)) call_len_seq) rfl T.z_len (by decide +kernel) (pa_cons (pe_lc (own := [("k", 12)]) (g := gName 12) rfl sc_law_value.nd (@id (PI _ _ _ (iList K _)) (pi_list (pe_callH h_law_behind (hr.mono (by omega)) (pa_cons (pv 0) (pa_cons (pv 11) (pa_cons (pe_ix (@id (IxR _ (rIxT K)) ix_tup) (pv 1) pe_int (fun _ _ => rfl)) pa_nil)))))) (blkOk_by (own := [("k", 12)]) (N := n_law_value) (sc := { kind := PySem.ScopeKind.function, names := [ (PySem.Str.ofString ".0", PySem.NameKind.local), (PySem.Str.ofString "state", PySem.NameKind.local), (PySem.Str.ofString "len", PySem.NameKind.globalImplicit), (PySem.Str.ofString "_law_behind", PySem.NameKind.globalImplicit), (PySem.Str.ofString "first", PySem.NameKind.cell), (PySem.Str.ofString "statement", PySem.NameKind.cell), (PySem.Str.ofString "world", PySem.NameKind.cell)], isGenerator := false, isCoroutine := false, more := [] : PySem.Scope }) (by decide +kernel)) (fun _ _ _ _ _ => (pg_name (i := 12) sc_law_value.nd rfl (.inl rfl))) (fun _ _ _ _ _ => (pts_one (pt_cmpR (@id (OpR _ _ (rIn K false)) op_in_seq) (pv 12) (pv 9) (by rfl)))) (fun _ _ _ _ _ => (pv 12))) pa_nil)) pe_int (nomark _)))) (fun _ _ _ _ _ => (pv 11))))) pss_nil)
      (pss_cons (ps_if (pt_cmpR op_eq (pv 4) pe_str (nomark _)) (pss_one (ps_ret (pe_lc (own := [("state", 11)]) (g := gName 11) rfl sc_law_value.nd (pi_list (pv 3)) (blkOk_by (own := [("state", 11)]) (N := n_law_value) (sc := defScope s_law_value) (by decide +kernel)) (fun _ _ _ _ _ => (pg_name (i := 11) sc_law_value.nd rfl (.inl rfl))) (fun _ _ _ _ _ => (pts_one (pt_cmpR op_eq (pe_callB (@id (CallR _ _ (rLenS K)) call_len_seq) rfl T.z_len (by decide +kernel) (pa_cons (pe_lc (own := [("k", 12)]) (g := gName 12) rfl sc_law_value.nd (@id (PI _ _ _ (iList K _)) (pi_list (pe_callH h_law_behind (hr.mono (by omega)) (pa_cons (pv 0) (pa_cons (pv 11) (pa_cons (pe_ix (@id (IxR _ (rIxT K)) ix_tup) (pv 1) pe_int (fun _ _ => rfl)) pa_nil)))))) (blkOk_by (own := [("k", 12)]) (N := n_law_value) (sc := { kind := PySem.ScopeKind.function, names := [ (PySem.Str.ofString ".0", PySem.NameKind.local), (PySem.Str.ofString "state", PySem.NameKind.local), (PySem.Str.ofString "len", PySem.NameKind.globalImplicit), (PySem.Str.ofString "_law_behind", PySem.NameKind.globalImplicit), (PySem.Str.ofString "first", PySem.NameKind.cell), (PySem.Str.ofString "statement", PySem.NameKind.cell), (PySem.Str.ofString "world", PySem.NameKind.cell)], isGenerator := false, isCoroutine := false, more := [] : PySem.Scope }) (by decide +kernel)) (fun _ _ _ _ _ => (pg_name (i := 12) sc_law_value.nd rfl (.inl rfl))) (fun _ _ _ _ _ => (pts_one (pt_cmpR (@id (OpR _ _ (rIn K true)) op_notIn_seq) (pv 12) (pv 9) (by rfl)))) (fun _ _ _ _ _ => (pv 12))) pa_nil)) pe_int (nomark _)))) (fun _ _ _ _ _ => (pv 11))))) pss_nil)
      (pss_cons (ps_set (i := 10) sc_law_value.nd rfl (.inr rfl) (pe_callH h_law_value (hr.mono (by omega)) (pa_cons (pv 0) (pa_cons (pe_ix ix_tup (pv 1) pe_int (fun _ _ => rfl)) (pa_cons (pv 2) pa_nil)))))
      (pss_cons (ps_if (pt_cmpR op_eq (pv 4) pe_str (nomark _)) (pss_one (ps_ret (pe_lc (own := [("state", 11)]) (g := gName 11) rfl sc_law_value.nd (pi_list (pv 3)) (blkOk_by (own := [("state", 11)]) (N := n_law_value) (sc := defScope s_law_value) (by decide +kernel)) (fun _ _ _ _ _ => (pg_name (i := 11) sc_law_value.nd rfl (.inl rfl))) (fun _ _ _ _ _ => (pts_one (PW.pt (pw_and (pt_cmpR (@id (OpR _ _ (rIn K false)) op_in_seq) (pv 11) (pv 9) (by rfl)) (pw_and1 (pt_cmpR (@id (OpR _ _ (rIn K false)) op_in_seq) (pv 11) (pv 10) (by rfl))))))) (fun _ _ _ _ _ => (pv 11))))) pss_nil)
      (pss_one (ps_ret (pe_lc (own := [("state", 11)]) (g := gName 11) rfl sc_law_value.nd (pi_list (pv 3)) (blkOk_by (own := [("state", 11)]) (N := n_law_value) (sc := defScope s_law_value) (by decide +kernel)) (fun _ _ _ _ _ => (pg_name (i := 11) sc_law_value.nd rfl (.inl rfl))) (fun _ _ _ _ _ => (pts_one (PW.pt (pw_or (pt_cmpR (@id (OpR _ _ (rIn K false)) op_in_seq) (pv 11) (pv 9) (by rfl)) (pw_or1 (pt_cmpR (@id (OpR _ _ (rIn K false)) op_in_seq) (pv 11) (pv 10) (by rfl))))))) (fun _ _ _ _ _ => (pv 11)))))))))))))))))), ?_⟩
    obtain ⟨a, ks, rfl, sq, ak⟩ := ht.open
    have at0 : atI (hv t.hd ++ ks) 0 = some (.str (hw t.hd)) := atI_nat (j := 0) (by rw [List.getElem?_append_left (by rcases hv_len t.hd with e | e <;> omega)]; exact hv_head _)
    obtain ⟨wa, sa, pa, fas, pas, rfl, X⟩ := hW
    have nW : ((fas.map V.ref).length : Int) = (W.n : Int) := by rw [List.length_map, X.f.1]; rfl
    refine ⟨.ref wa, rfl, wa, _, _, .ref sa, rfl, rfl, SqT.of X.w, rfl, sa, _, rfl, X.s, _, rfl, ?_⟩
    rw [nW]
    refine ⟨.of_le (Int.le_refl 0) (by have := fit.n16; omega) (by omega) (by omega), fun la hla => ?_⟩
    rw [rgV_rng]
    have s1 := Same.new (o := .lst ((rng W.n).map V.int)) hla
    have gl1 : IL (upd H la (.lst ((rng W.n).map V.int))) la (rng W.n) := upd_same
    generalize upd H la (.lst ((rng W.n).map V.int)) = H1 at s1 gl1
    have X1 := X.same s1
    have sq1 := SqT.same s1 sq
    have ak1 := ak.lk (LKp.same s1)
    have hN1 := s1 _ _ hN
    have henv1 : ∀ x ∈ fv t, ∃ a, valV kvs (Sum.inl x) = some (.ref a) ∧ IL H1 a (e x) := fun x hx => by
      obtain ⟨b, b1, b2⟩ := henv x hx
      exact ⟨b, b1, s1 _ _ b2⟩
    have k1 : ∀ (a : Addr) H', Same H1 H' → IL H' a (val W t e) → Q (.ref a) H' := fun b H' s' g => k b H' (s1.trans s') g
    clear k henv hN sq X s1 hla ht ak
    refine ⟨.ref a, rfl, a, _, _, _, rfl, rfl, sq1, at0, ?_⟩
    cases t with
    | nul b =>
      cases b with
      | true =>
        refine ⟨.str "true", rfl, rfl, _, rfl, kT ?_⟩
        exact ⟨.ref la, rfl, k1 la _ (Same.refl _) gl1⟩
      | false =>
        refine ⟨.str "false", rfl, rfl, _, rfl, kF (by decide) ?_⟩
        refine ⟨.str "false", rfl, rfl, _, rfl, kT ?_⟩
        exact ⟨Nat.zero_le _, fun p hp => k1 p _ (Same.new hp) upd_same⟩
    | leaf kd x =>
      cases ak1
      have at1 : atI (hv (F.leaf kd x).hd ++ []) 1 = some (.int x) := atI_nat (j := 1) rfl
      cases kd with
      | has =>
        refine ⟨.str "has", rfl, rfl, _, rfl, kF (by decide) ?_⟩
        refine ⟨.str "has", rfl, rfl, _, rfl, kF (by decide) ?_⟩
        refine ⟨.str "has", rfl, rfl, _, rfl, kT ?_⟩
        refine ⟨.ref la, rfl, la, rfl, ⟨_, SqL.of gl1⟩, fun D hD => ?_⟩
        refine lc_fil (fun s => sIn (W.at s) x) gl1 hD (by rw [rng_len]; have := fit.n16; omega) (fun s hs G Y N sG hY hN' => ?_) (fun G sG g => k1 D G sG g)
        obtain ⟨j, hj, rfl⟩ : ∃ j : Nat, j < W.n ∧ s = (j : Int) := by
          have := rng_mem.mp hs
          exact ⟨s.toNat, by omega, by omega⟩
        obtain ⟨fa, hfa, hfx⟩ : ∃ fa, fas[j]? = some fa ∧ Sq K H1 fa ((W.at (j : Int)).map V.int) := by
          have jl : j < fas.length := by rw [X1.f.1]; exact hj
          refine ⟨fas[j], by simp [jl], ?_⟩
          refine X1.f.2 j _ _ (by simp [jl]) ?_
          unfold Wd.at
          rw [Int.toNat_natCast, List.getElem?_eq_getElem (by exact hj)]
          rfl
        refine ⟨rfl, .ref a, rfl, a, _, _, .int x, rfl, rfl, SqT.same sG sq1, at1, .ref wa, rfl, wa, _, _, .ref sa, rfl, rfl, SqT.of (sG _ _ X1.w), rfl, .int (j : Nat), rfl, ix_sq (X1.s.same sG) (atI_nat (j := j) (by rw [List.getElem?_map, hfa]; rfl)) ⟨fa, _, rfl, hfx.same sG, rfl, flat_ints _, _, rfl, ?_⟩⟩
        rw [if_neg Bool.false_ne_true, in_ints]
        cases c : sIn (W.at (j : Int)) x with
        | true =>
          refine (if_pos c).mpr ?_
          exact ⟨_, rfl, hY c _ (Same.refl _)⟩
        | false =>
          refine (if_neg (by rw [show decide (x ∈ W.at (j : Int)) = false from c]; exact Bool.false_ne_true)).mpr ?_
          exact hN' c _ (Same.refl _)
      | lacks =>
        refine ⟨.str "lacks", rfl, rfl, _, rfl, kF (by decide) ?_⟩
        refine ⟨.str "lacks", rfl, rfl, _, rfl, kF (by decide) ?_⟩
        refine ⟨.str "lacks", rfl, rfl, _, rfl, kF (by decide) ?_⟩
        refine ⟨.str "lacks", rfl, rfl, _, rfl, kT ?_⟩
        refine ⟨.ref la, rfl, la, rfl, ⟨_, SqL.of gl1⟩, fun D hD => ?_⟩
        refine lc_fil (fun s => !sIn (W.at s) x) gl1 hD (by rw [rng_len]; have := fit.n16; omega) (fun s hs G Y N sG hY hN' => ?_) (fun G sG g => k1 D G sG g)
        obtain ⟨j, hj, rfl⟩ : ∃ j : Nat, j < W.n ∧ s = (j : Int) := by
          have := rng_mem.mp hs
          exact ⟨s.toNat, by omega, by omega⟩
        obtain ⟨fa, hfa, hfx⟩ : ∃ fa, fas[j]? = some fa ∧ Sq K H1 fa ((W.at (j : Int)).map V.int) := by
          have jl : j < fas.length := by rw [X1.f.1]; exact hj
          refine ⟨fas[j], by simp [jl], ?_⟩
          refine X1.f.2 j _ _ (by simp [jl]) ?_
          unfold Wd.at
          rw [Int.toNat_natCast, List.getElem?_eq_getElem (by exact hj)]
          rfl
        refine ⟨rfl, .ref a, rfl, a, _, _, .int x, rfl, rfl, SqT.same sG sq1, at1, .ref wa, rfl, wa, _, _, .ref sa, rfl, rfl, SqT.of (sG _ _ X1.w), rfl, .int (j : Nat), rfl, ix_sq (X1.s.same sG) (atI_nat (j := j) (by rw [List.getElem?_map, hfa]; rfl)) ⟨fa, _, rfl, hfx.same sG, rfl, flat_ints _, _, rfl, ?_⟩⟩
        rw [if_pos rfl, in_ints]
        show if (!sIn (W.at (j : Int)) x) = true then _ else _
        cases c : !sIn (W.at (j : Int)) x with
        | true => exact iteT ⟨_, rfl, hY c _ (Same.refl _)⟩
        | false => exact iteF (hN' c _ (Same.refl _))
      | var =>
        refine ⟨.str "var", rfl, rfl, _, rfl, kF (by decide) ?_⟩
        refine ⟨.str "var", rfl, rfl, _, rfl, kF (by decide) ?_⟩
        refine ⟨.str "var", rfl, rfl, _, rfl, kF (by decide) ?_⟩
        refine ⟨.str "var", rfl, rfl, _, rfl, kF (by decide) ?_⟩
        refine ⟨.str "var", rfl, rfl, _, rfl, kT ?_⟩
        obtain ⟨b, hb, hx⟩ := henv1 x (List.mem_singleton.mpr rfl)
        have hget := DGet.k (k := Sum.inl x) hN1
        rw [hb] at hget
        exact ⟨.ref na, rfl, .ref a, rfl, a, _, 1, .int x, rfl, rfl, sq1, at1, na, _, rfl, hget, k1 b _ (Same.refl _) hx⟩
    | two b f g =>
      cases ak1 with
      | cons hf hn =>
      cases hn with
      | cons hg hn =>
      cases hn
      rename_i vf vg
      obtain ⟨m, rfl⟩ : ∃ m, n = m + 1 := by
        cases n with
        | zero => exact absurd hdep (by have : 0 < f.depth := (by cases f <;> simp [F.depth]); simp only [F.depth]; omega)
        | succ m => exact ⟨m, rfl⟩
      simp only [F.depth] at hdep
      cases b with
      | true =>
        refine ⟨.str "and", rfl, rfl, _, rfl, kF (by decide) ?_⟩
        refine ⟨.str "and", rfl, rfl, _, rfl, kF (by decide) ?_⟩
        refine ⟨.str "and", rfl, rfl, _, rfl, kF (by decide) ?_⟩
        refine ⟨.str "and", rfl, rfl, _, rfl, kF (by decide) ?_⟩
        refine ⟨.str "and", rfl, rfl, _, rfl, kF (by decide) ?_⟩
        refine ⟨.str "and", rfl, by show 2 ≤ sizeLine; decide, fun p hp => ⟨p, _, rfl, .inr (SqT.of upd_same), rfl, rfl, _, rfl, ?_⟩⟩
        have s2 := Same.new (o := .tup [.str "least", .str "most"]) hp
        generalize upd H1 p (.tup [.str "least", .str "most"]) = H2 at s2
        have X2 := X1.same s2
        have sq2 := SqT.same s2 sq1
        have hN2 := s2 _ _ hN1
        refine iteF ?_
        have at1 : atI (hv (F.two true f g).hd ++ [vf, vg]) 1 = some vf := atI_nat (j := 1) rfl
        have at2 : atI (hv (F.two true f g).hd ++ [vf, vg]) ((((hv (F.two true f g).hd ++ [vf, vg]).length : Nat) : Int) - 1) = some vg := atI_nat (j := 2) rfl
        refine ⟨.ref wa, rfl, .ref a, rfl, .ref a, rfl, a, _, rfl, .inr sq2, _, 1, rfl, rfl, a, _, _, vg, rfl, rfl, sq2, at2, .ref na, rfl, .ref wa, vg, W, g, na, kvs, e, rfl, ⟨wa, sa, pa, fas, pas, rfl, X2⟩, fit, hg.same s2, by omega, hN2, by omega, hnd, fun x hx => ?_, fun ra H3 s3 hra => ?_⟩
        · obtain ⟨b, b1, b2⟩ := henv1 x (List.mem_append_right _ hx)
          exact ⟨b, b1, s2 _ _ b2⟩
        refine ⟨.str "and", rfl, rfl, _, rfl, kF (by decide) ?_⟩
        refine ⟨.str "and", rfl, rfl, _, rfl, kF (by decide) ?_⟩
        have X3 := X2.same s3
        have sq3 := SqT.same s3 sq2
        have hN3 := s3 _ _ hN2
        refine ⟨.ref wa, rfl, .ref a, rfl, a, _, 1, vf, rfl, rfl, sq3, at1, .ref na, rfl, .ref wa, vf, W, f, na, kvs, e, rfl, ⟨wa, sa, pa, fas, pas, rfl, X3⟩, fit, (hf.same s2).same s3, by omega, hN3, by omega, hnd, fun x hx => ?_, fun rb H4 s4 hrb4 => ?_⟩
        · obtain ⟨b, b1, b2⟩ := henv1 x (List.mem_append_left _ hx)
          exact ⟨b, b1, s3 _ _ (s2 _ _ b2)⟩
        have hra4 := s4 _ _ hra
        have gl5 : IL H4 la (rng W.n) := s4 _ _ (s3 _ _ (s2 _ _ gl1))
        refine ⟨.str "and", rfl, rfl, _, rfl, kT ?_⟩
        refine ⟨.ref la, rfl, la, rfl, ⟨_, SqL.of gl5⟩, fun D hD => ?_⟩
        refine lc_fil (fun s => sIn (val W g e) s && sIn (val W f e) s) gl5 hD (by rw [rng_len]; have := fit.n16; omega) (fun s hs G Y N sG hY hN' => ?_) (fun G sG gg => k1 D G ((s2.trans (s3.trans s4)).trans sG) gg)
        refine ⟨rfl, .int s, rfl, .ref ra, rfl, ra, _, rfl, .inl (SqL.of (sG _ _ hra4)), rfl, flat_ints _, _, rfl, ?_⟩
        rw [if_neg Bool.false_ne_true, in_ints]
        show if sIn (val W g e) s = true then _ else _
        cases c1 : sIn (val W g e) s with
        | false => exact iteF (hN' (by rw [c1]; rfl) _ (Same.refl _))
        | true =>
          refine iteT ⟨.int s, rfl, .ref rb, rfl, rb, _, rfl, .inl (SqL.of (sG _ _ hrb4)), rfl, flat_ints _, _, rfl, ?_⟩
          rw [if_neg Bool.false_ne_true, in_ints]
          show if sIn (val W f e) s = true then _ else _
          cases c2 : sIn (val W f e) s with
          | false => exact iteF (hN' (by rw [c1, c2]; rfl) _ (Same.refl _))
          | true => exact iteT ⟨_, rfl, hY (by rw [c1, c2]; rfl) _ (Same.refl _)⟩
      | false =>
        refine ⟨.str "or", rfl, rfl, _, rfl, kF (by decide) ?_⟩
        refine ⟨.str "or", rfl, rfl, _, rfl, kF (by decide) ?_⟩
        refine ⟨.str "or", rfl, rfl, _, rfl, kF (by decide) ?_⟩
        refine ⟨.str "or", rfl, rfl, _, rfl, kF (by decide) ?_⟩
        refine ⟨.str "or", rfl, rfl, _, rfl, kF (by decide) ?_⟩
        refine ⟨.str "or", rfl, by show 2 ≤ sizeLine; decide, fun p hp => ⟨p, _, rfl, .inr (SqT.of upd_same), rfl, rfl, _, rfl, ?_⟩⟩
        have s2 := Same.new (o := .tup [.str "least", .str "most"]) hp
        generalize upd H1 p (.tup [.str "least", .str "most"]) = H2 at s2
        have X2 := X1.same s2
        have sq2 := SqT.same s2 sq1
        have hN2 := s2 _ _ hN1
        refine iteF ?_
        have at1 : atI (hv (F.two false f g).hd ++ [vf, vg]) 1 = some vf := atI_nat (j := 1) rfl
        have at2 : atI (hv (F.two false f g).hd ++ [vf, vg]) ((((hv (F.two false f g).hd ++ [vf, vg]).length : Nat) : Int) - 1) = some vg := atI_nat (j := 2) rfl
        refine ⟨.ref wa, rfl, .ref a, rfl, .ref a, rfl, a, _, rfl, .inr sq2, _, 1, rfl, rfl, a, _, _, vg, rfl, rfl, sq2, at2, .ref na, rfl, .ref wa, vg, W, g, na, kvs, e, rfl, ⟨wa, sa, pa, fas, pas, rfl, X2⟩, fit, hg.same s2, by omega, hN2, by omega, hnd, fun x hx => ?_, fun ra H3 s3 hra => ?_⟩
        · obtain ⟨b, b1, b2⟩ := henv1 x (List.mem_append_right _ hx)
          exact ⟨b, b1, s2 _ _ b2⟩
        refine ⟨.str "or", rfl, rfl, _, rfl, kF (by decide) ?_⟩
        refine ⟨.str "or", rfl, rfl, _, rfl, kF (by decide) ?_⟩
        have X3 := X2.same s3
        have sq3 := SqT.same s3 sq2
        have hN3 := s3 _ _ hN2
        refine ⟨.ref wa, rfl, .ref a, rfl, a, _, 1, vf, rfl, rfl, sq3, at1, .ref na, rfl, .ref wa, vf, W, f, na, kvs, e, rfl, ⟨wa, sa, pa, fas, pas, rfl, X3⟩, fit, (hf.same s2).same s3, by omega, hN3, by omega, hnd, fun x hx => ?_, fun rb H4 s4 hrb4 => ?_⟩
        · obtain ⟨b, b1, b2⟩ := henv1 x (List.mem_append_left _ hx)
          exact ⟨b, b1, s3 _ _ (s2 _ _ b2)⟩
        have hra4 := s4 _ _ hra
        have gl5 : IL H4 la (rng W.n) := s4 _ _ (s3 _ _ (s2 _ _ gl1))
        refine ⟨.str "or", rfl, rfl, _, rfl, kF (by decide) ?_⟩
        refine ⟨.ref la, rfl, la, rfl, ⟨_, SqL.of gl5⟩, fun D hD => ?_⟩
        refine lc_fil (fun s => sIn (val W g e) s || sIn (val W f e) s) gl5 hD (by rw [rng_len]; have := fit.n16; omega) (fun s hs G Y N sG hY hN' => ?_) (fun G sG gg => k1 D G ((s2.trans (s3.trans s4)).trans sG) gg)
        refine ⟨rfl, .int s, rfl, .ref ra, rfl, ra, _, rfl, .inl (SqL.of (sG _ _ hra4)), rfl, flat_ints _, _, rfl, ?_⟩
        rw [if_neg Bool.false_ne_true, in_ints]
        show if sIn (val W g e) s = true then _ else _
        cases c1 : sIn (val W g e) s with
        | true => exact iteT ⟨_, rfl, hY (by rw [c1]; rfl) _ (Same.refl _)⟩
        | false =>
          refine iteF ⟨.int s, rfl, .ref rb, rfl, rb, _, rfl, .inl (SqL.of (sG _ _ hrb4)), rfl, flat_ints _, _, rfl, ?_⟩
          rw [if_neg Bool.false_ne_true, in_ints]
          show if sIn (val W f e) s = true then _ else _
          cases c2 : sIn (val W f e) s with
          | false => exact iteF (hN' (by rw [c1, c2]; rfl) _ (Same.refl _))
          | true => exact iteT ⟨_, rfl, hY (by rw [c1, c2]; rfl) _ (Same.refl _)⟩
    | one kd x f =>
      cases ak1 with
      | cons hf hn =>
      cases hn
      rename_i vf
      obtain ⟨m, rfl⟩ : ∃ m, n = m + 1 := by
        cases n with
        | zero => exact absurd hdep (by have : 0 < f.depth := (by cases f <;> simp [F.depth]); simp only [F.depth]; omega)
        | succ m => exact ⟨m, rfl⟩
      simp only [F.depth] at hdep
      cases kd with
      | some =>
        refine ⟨.str "some", rfl, rfl, _, rfl, kF (by decide) ?_⟩
        refine ⟨.str "some", rfl, rfl, _, rfl, kF (by decide) ?_⟩
        refine ⟨.str "some", rfl, rfl, _, rfl, kF (by decide) ?_⟩
        refine ⟨.str "some", rfl, rfl, _, rfl, kF (by decide) ?_⟩
        refine ⟨.str "some", rfl, rfl, _, rfl, kF (by decide) ?_⟩
        refine ⟨.str "some", rfl, by show 2 ≤ sizeLine; decide, fun p hp => ⟨p, _, rfl, .inr (SqT.of upd_same), rfl, rfl, _, rfl, ?_⟩⟩
        have s2 := Same.new (o := .tup [.str "least", .str "most"]) hp
        generalize upd H1 p (.tup [.str "least", .str "most"]) = H2 at s2
        have X2 := X1.same s2
        have sq2 := SqT.same s2 sq1
        have hN2 := s2 _ _ hN1
        have at1 : atI (hv (F.one .some x f).hd ++ [vf]) 1 = some (.int x) := atI_nat (j := 1) rfl
        have at2 : atI (hv (F.one .some x f).hd ++ [vf]) 2 = some vf := atI_nat (j := 2) rfl
        refine iteF ?_
        have at3 : atI (hv (F.one .some x f).hd ++ [vf]) ((((hv (F.one .some x f).hd ++ [vf]).length : Nat) : Int) - 1) = some vf := atI_nat (j := 2) rfl
        refine ⟨.ref wa, rfl, .ref a, rfl, .ref a, rfl, a, _, rfl, .inr sq2, _, 1, rfl, rfl, a, _, _, vf, rfl, rfl, sq2, at3, .ref na, rfl, .ref wa, vf, W, f, na, kvs, e, rfl, ⟨wa, sa, pa, fas, pas, rfl, X2⟩, fit, hf.same s2, by omega, hN2, by omega, hnd, fun y hy => ?_, fun ra H3 s3 hra => ?_⟩
        · obtain ⟨b, b1, b2⟩ := henv1 y hy
          exact ⟨b, b1, s2 _ _ b2⟩
        have X3 := X2.same s3
        have sq3 := SqT.same s3 sq2
        have gl3 : IL H3 la (rng W.n) := s3 _ _ (s2 _ _ gl1)
        refine ⟨.str "some", rfl, rfl, _, rfl, kT ?_⟩
        refine ⟨.ref la, rfl, la, rfl, ⟨_, SqL.of gl3⟩, fun D hD => ?_⟩
        refine lc_fil (fun s => decide (0 < (((W.beh s x).filter (sIn (val W f e))).length : Int))) gl3 hD (by rw [rng_len]; have := fit.n16; omega) (fun s hs G Y N sG hY hN' => ?_) (fun G sG gg => k1 D G ((s2.trans s3).trans sG) gg)
        refine ⟨rfl, .ref wa, rfl, .int s, rfl, .ref a, rfl, a, _, _, .int x, rfl, rfl, SqT.same sG sq3, at1, .ref wa, W, s, x, rfl, ⟨wa, sa, pa, fas, pas, rfl, X3.same sG⟩, fit.st, fun b G2 sb nb hb => ?_⟩
        refine ⟨b, rfl, ⟨_, SqL.of hb⟩, fun D2 hD2 => ?_⟩
        have hra2 := sb _ _ (sG _ _ hra)
        refine lc_fil (sIn (val W f e)) hb hD2 (by unfold Wd.beh; rw [List.length_map]; exact Nat.le_trans (List.length_filter_le _ _) fit.st) (fun j hj G3 Y3 N3 s3' hY3 hN3 => ?_) (fun G3 s3' g3 => ?_)
        · refine ⟨rfl, .int j, rfl, .ref ra, rfl, ra, _, rfl, .inl (SqL.of (s3' _ _ hra2)), rfl, flat_ints _, _, rfl, ?_⟩
          rw [if_neg Bool.false_ne_true, in_ints]
          show if sIn (val W f e) j = true then _ else _
          cases c : sIn (val W f e) j with
          | true => exact iteT ⟨_, rfl, hY3 c _ (Same.refl _)⟩
          | false => exact iteF (hN3 c _ (Same.refl _))
        · refine ⟨D2, _, rfl, .inl (SqL.of g3), _, _, rfl, rfl, _, rfl, ite2 (fun c => ?_) (fun c => ?_)⟩
          · exact ⟨_, rfl, hY (by rw [List.length_map] at c; exact c) _ (sb.trans s3')⟩
          · exact hN' (by rw [List.length_map] at c; exact Bool.eq_false_iff.mpr c) _ (sb.trans s3')
      | all =>
        refine ⟨.str "all", rfl, rfl, _, rfl, kF (by decide) ?_⟩
        refine ⟨.str "all", rfl, rfl, _, rfl, kF (by decide) ?_⟩
        refine ⟨.str "all", rfl, rfl, _, rfl, kF (by decide) ?_⟩
        refine ⟨.str "all", rfl, rfl, _, rfl, kF (by decide) ?_⟩
        refine ⟨.str "all", rfl, rfl, _, rfl, kF (by decide) ?_⟩
        refine ⟨.str "all", rfl, by show 2 ≤ sizeLine; decide, fun p hp => ⟨p, _, rfl, .inr (SqT.of upd_same), rfl, rfl, _, rfl, ?_⟩⟩
        have s2 := Same.new (o := .tup [.str "least", .str "most"]) hp
        generalize upd H1 p (.tup [.str "least", .str "most"]) = H2 at s2
        have X2 := X1.same s2
        have sq2 := SqT.same s2 sq1
        have hN2 := s2 _ _ hN1
        have at1 : atI (hv (F.one .all x f).hd ++ [vf]) 1 = some (.int x) := atI_nat (j := 1) rfl
        have at2 : atI (hv (F.one .all x f).hd ++ [vf]) 2 = some vf := atI_nat (j := 2) rfl
        refine iteF ?_
        have at3 : atI (hv (F.one .all x f).hd ++ [vf]) ((((hv (F.one .all x f).hd ++ [vf]).length : Nat) : Int) - 1) = some vf := atI_nat (j := 2) rfl
        refine ⟨.ref wa, rfl, .ref a, rfl, .ref a, rfl, a, _, rfl, .inr sq2, _, 1, rfl, rfl, a, _, _, vf, rfl, rfl, sq2, at3, .ref na, rfl, .ref wa, vf, W, f, na, kvs, e, rfl, ⟨wa, sa, pa, fas, pas, rfl, X2⟩, fit, hf.same s2, by omega, hN2, by omega, hnd, fun y hy => ?_, fun ra H3 s3 hra => ?_⟩
        · obtain ⟨b, b1, b2⟩ := henv1 y hy
          exact ⟨b, b1, s2 _ _ b2⟩
        have X3 := X2.same s3
        have sq3 := SqT.same s3 sq2
        have gl3 : IL H3 la (rng W.n) := s3 _ _ (s2 _ _ gl1)
        refine ⟨.str "all", rfl, rfl, _, rfl, kF (by decide) ?_⟩
        refine ⟨.str "all", rfl, rfl, _, rfl, kT ?_⟩
        refine ⟨.ref la, rfl, la, rfl, ⟨_, SqL.of gl3⟩, fun D hD => ?_⟩
        refine lc_fil (fun s => decide ((((W.beh s x).filter (fun k => !sIn (val W f e) k)).length : Int) = 0)) gl3 hD (by rw [rng_len]; have := fit.n16; omega) (fun s hs G Y N sG hY hN' => ?_) (fun G sG gg => k1 D G ((s2.trans s3).trans sG) gg)
        refine ⟨rfl, .ref wa, rfl, .int s, rfl, .ref a, rfl, a, _, _, .int x, rfl, rfl, SqT.same sG sq3, at1, .ref wa, W, s, x, rfl, ⟨wa, sa, pa, fas, pas, rfl, X3.same sG⟩, fit.st, fun b G2 sb nb hb => ?_⟩
        refine ⟨b, rfl, ⟨_, SqL.of hb⟩, fun D2 hD2 => ?_⟩
        have hra2 := sb _ _ (sG _ _ hra)
        refine lc_fil (fun k => !sIn (val W f e) k) hb hD2 (by unfold Wd.beh; rw [List.length_map]; exact Nat.le_trans (List.length_filter_le _ _) fit.st) (fun j hj G3 Y3 N3 s3' hY3 hN3 => ?_) (fun G3 s3' g3 => ?_)
        · refine ⟨rfl, .int j, rfl, .ref ra, rfl, ra, _, rfl, .inl (SqL.of (s3' _ _ hra2)), rfl, flat_ints _, _, rfl, ?_⟩
          rw [if_pos rfl, in_ints]
          show if (!sIn (val W f e) j) = true then _ else _
          cases c : (!sIn (val W f e) j) with
          | true => exact iteT ⟨_, rfl, hY3 c _ (Same.refl _)⟩
          | false => exact iteF (hN3 c _ (Same.refl _))
        · refine ⟨D2, _, rfl, .inl (SqL.of g3), rfl, _, rfl, ite2 (fun c => ?_) (fun c => ?_)⟩
          · exact ⟨_, rfl, hY (by rw [List.length_map] at c; exact decide_eq_true (by have := of_decide_eq_true c; injection this)) _ (sb.trans s3')⟩
          · exact hN' (by rw [List.length_map] at c; exact decide_eq_false (fun z => c (decide_eq_true (congrArg V.int z)))) _ (sb.trans s3')
      | least =>
        refine ⟨.str "least", rfl, rfl, _, rfl, kF (by decide) ?_⟩
        refine ⟨.str "least", rfl, rfl, _, rfl, kF (by decide) ?_⟩
        refine ⟨.str "least", rfl, rfl, _, rfl, kF (by decide) ?_⟩
        refine ⟨.str "least", rfl, rfl, _, rfl, kF (by decide) ?_⟩
        refine ⟨.str "least", rfl, rfl, _, rfl, kF (by decide) ?_⟩
        refine ⟨.str "least", rfl, by show 2 ≤ sizeLine; decide, fun p hp => ⟨p, _, rfl, .inr (SqT.of upd_same), rfl, rfl, _, rfl, ?_⟩⟩
        have s2 := Same.new (o := .tup [.str "least", .str "most"]) hp
        generalize upd H1 p (.tup [.str "least", .str "most"]) = H2 at s2
        have X2 := X1.same s2
        have sq2 := SqT.same s2 sq1
        have hN2 := s2 _ _ hN1
        have at1 : atI (hv (F.one .least x f).hd ++ [vf]) 1 = some (.int x) := atI_nat (j := 1) rfl
        have at2 : atI (hv (F.one .least x f).hd ++ [vf]) 2 = some vf := atI_nat (j := 2) rfl
        refine iteT ?_
        refine ⟨Nat.zero_le _, fun q0 hq0 => ?_⟩
        have s3 := Same.new (o := .lst []) hq0
        have gq0 : IL (upd H2 q0 (.lst [])) q0 [] := upd_same
        generalize upd H2 q0 (.lst []) = H3 at s3 gq0
        refine ⟨.str "least", rfl, rfl, _, rfl, kF (by decide) ?_⟩
        have s23 := s2.trans s3
        have X3 := X1.same s23
        refine ⟨.ref wa, rfl, wa, _, _, .ref sa, rfl, rfl, SqT.of X3.w, rfl, sa, _, rfl, X3.s, _, 1, rfl, rfl, _, rfl, ?_⟩
        rw [nW]
        refine ⟨by have := fit.n16; omega, by have := fit.n16; omega, ?_⟩
        refine for_range (lo := 0) (n := (((W.n : Nat) : Int) + 1).toNat) (fun i σ G => ∃ (y6 y7 y8 : Option V) (q : Addr), σ = [some (.ref wa), some (.ref a), some (.ref na), some (.ref la), some (.str "least"), some (.ref q), y6, y7, y8, none, none, none, none] ∧ Same H1 G ∧ IL G q (iter (fun X => val W f (setE e x X)) i []))
          ⟨_, _, _, _, rfl, s23, gq0⟩ ?_ ?_
        · clear X3 s23 gq0 s3 s2 sq2 hN2 X2
          rintro i σ G hi ⟨y6, y7, y8, q, rfl, sG, gq⟩
          have X3 := X1.same sG
          have sq3 := SqT.same sG sq1
          have hN3 := sG _ _ hN1
          intro na2 hna2
          have s2 := Same.new (o := .dK []) hna2
          have nn : na ≠ na2 := ne_of_none hN3 hna2
          refine ⟨na, _, s2 _ _ hN3, trivial, fun od => ?_⟩
          refine ⟨.ref na, rfl, na, od, rfl, .inl ⟨kvs, upd_same, ?_⟩⟩
          refine for_it (walk_keys (d := na) (o := od) (kvs := kvs)) (fun j σ G' => ∃ (y8 : Option V), σ = [some (.ref wa), some (.ref a), some (.ref na), some (.ref la), some (.str "least"), some (.ref q), some (.int (0 + (i : Int))), some (.ref na2), y8, none, none, none, none] ∧ G' na = some (.frz od (.dK kvs)) ∧ G' na2 = some (.dK (kvs.take j)) ∧
              ∀ b o, b ≠ na → b ≠ na2 → G b = some o → G' b = some o)
            ⟨_, rfl, upd_same, by rw [upd_ne nn.symm, upd_same]; rfl, fun b o n1 n2 e => by rw [upd_ne n1, upd_ne n2]; exact e⟩ (fun i σ G _ ⟨_, _, g, _⟩ => g) ?_ ?_
          · rintro j x0 σ G1 G2 hj ⟨y8, rfl, gN, gI, gK⟩ ⟨rfl, kk, vv, hkv, rfl⟩
            obtain ⟨v1, v2⟩ := valV_atW hnd hkv
            refine ⟨.ref na, rfl, kV kk, rfl, na, vv, rfl, .inl ⟨kvs, kk, .inr ⟨od, gN⟩, rfl, v1.symm⟩, .ref na2, rfl, kV kk, rfl, na2, _, rfl, DPut.k (k := kk) gI (by rw [List.length_take]; exact small1000 (by omega)), ?_⟩
            refine ⟨_, rfl, by rw [upd_ne nn]; exact gN, ?_, fun b o n1 n2 e => by rw [upd_ne n2]; exact gK b o n1 n2 e⟩
            rw [upd_same, putK_new _ v2, List.take_add_one, hkv]
            rfl
          · rintro σ G1 ⟨y8, rfl, gN, gI, gK⟩
            rw [List.take_length] at gI
            refine ⟨gN, ?_⟩
            have s3 : Same G (upd G1 na (.dK kvs)) := fun b o e => by
              by_cases e1 : b = na
              · subst e1
                rw [hN3] at e
                cases e
                exact upd_same
              · rw [upd_ne e1]
                exact gK b o e1 (ne_of_none e hna2) e
            have gI3 : (upd G1 na (.dK kvs)) na2 = some (.dK kvs) := by rw [upd_ne nn.symm]; exact gI
            generalize upd G1 na (.dK kvs) = G3 at s3 gI3
            refine ⟨.ref q, rfl, .ref na2, rfl, .ref a, rfl, a, _, 1, .int x, rfl, rfl, SqT.same s3 sq3, at1, na2, _, rfl, DPut.k (k := Sum.inl x) gI3 (small1000 (by omega)), ?_⟩
            have s4 : Same G (upd G3 na2 (.dK (putK kvs (Sum.inl x) (.ref q)))) := fun b o e => by
              rw [upd_ne (ne_of_none e hna2)]
              exact s3 b o e
            have gI4 : (upd G3 na2 (.dK (putK kvs (Sum.inl x) (.ref q)))) na2 = some (.dK (putK kvs (Sum.inl x) (.ref q))) := upd_same
            generalize upd G3 na2 (.dK (putK kvs (Sum.inl x) (.ref q))) = G4 at s4 gI4
            have lp := length_putK kvs (Sum.inl x) (V.ref q)
            have sG4 := sG.trans s4
            refine ⟨.ref wa, rfl, .ref a, rfl, a, _, 2, vf, rfl, rfl, SqT.same s4 sq3, at2, .ref na2, rfl, .ref wa, vf, W, f, na2, putK kvs (Sum.inl x) (.ref q), setE e x (iter (fun X => val W f (setE e x X)) i []), rfl, ⟨wa, sa, pa, fas, pas, rfl, X3.same s4⟩, fit, hf.same sG4, by omega, gI4, by omega, nd_putW hnd, fun y hy => ?_, fun ra H5 s5 hra => ⟨_, _, _, ra, rfl, sG4.trans s5, hra⟩⟩
            rw [valV_put]
            unfold setE
            by_cases c : y = x
            · rw [if_pos (by rw [c]), if_pos c]
              exact ⟨q, rfl, s4 _ _ gq⟩
            · rw [if_neg (fun z => c (by injection z)), if_neg c]
              obtain ⟨b, b1, b2⟩ := henv1 y (by simp only [fv, if_pos (show One.least.bind = true from rfl), List.mem_filter, decide_eq_true_eq]; exact ⟨hy, c⟩)
              exact ⟨b, b1, sG4 _ _ b2⟩
        · rintro σ G ⟨y6, y7, y8, q, rfl, sG, gq⟩
          refine ⟨.ref q, rfl, k1 q _ sG ?_⟩
          have : (((W.n : Nat) : Int) + 1).toNat = W.n + 1 := by omega
          rw [this] at gq
          exact gq
      | most =>
        refine ⟨.str "most", rfl, rfl, _, rfl, kF (by decide) ?_⟩
        refine ⟨.str "most", rfl, rfl, _, rfl, kF (by decide) ?_⟩
        refine ⟨.str "most", rfl, rfl, _, rfl, kF (by decide) ?_⟩
        refine ⟨.str "most", rfl, rfl, _, rfl, kF (by decide) ?_⟩
        refine ⟨.str "most", rfl, rfl, _, rfl, kF (by decide) ?_⟩
        refine ⟨.str "most", rfl, by show 2 ≤ sizeLine; decide, fun p hp => ⟨p, _, rfl, .inr (SqT.of upd_same), rfl, rfl, _, rfl, ?_⟩⟩
        have s2 := Same.new (o := .tup [.str "least", .str "most"]) hp
        generalize upd H1 p (.tup [.str "least", .str "most"]) = H2 at s2
        have X2 := X1.same s2
        have sq2 := SqT.same s2 sq1
        have hN2 := s2 _ _ hN1
        have at1 : atI (hv (F.one .most x f).hd ++ [vf]) 1 = some (.int x) := atI_nat (j := 1) rfl
        have at2 : atI (hv (F.one .most x f).hd ++ [vf]) 2 = some vf := atI_nat (j := 2) rfl
        refine iteT ?_
        refine ⟨Nat.zero_le _, fun q0 hq0 => ?_⟩
        have s3 := Same.new (o := .lst []) hq0
        have gq0 : IL (upd H2 q0 (.lst [])) q0 [] := upd_same
        generalize upd H2 q0 (.lst []) = H3 at s3 gq0
        refine ⟨.str "most", rfl, rfl, _, rfl, kT ?_⟩
        have gl3 : IL H3 la (rng W.n) := s3 _ _ (s2 _ _ gl1)
        refine ⟨.ref la, rfl, la, _, rfl, .inl (SqL.of gl3), fun q1 hq1 => ?_⟩
        have s3b := Same.new (o := .lst ((rng W.n).map V.int)) hq1
        replace s3 := s3.trans s3b
        replace gq0 : IL (upd H3 q1 (.lst ((rng W.n).map V.int))) q1 (rng W.n) := upd_same
        generalize upd H3 q1 (.lst ((rng W.n).map V.int)) = H4 at s3 gq0
        have s23 := s2.trans s3
        have X3 := X1.same s23
        refine ⟨.ref wa, rfl, wa, _, _, .ref sa, rfl, rfl, SqT.of X3.w, rfl, sa, _, rfl, X3.s, _, 1, rfl, rfl, _, rfl, ?_⟩
        rw [nW]
        refine ⟨by have := fit.n16; omega, by have := fit.n16; omega, ?_⟩
        refine for_range (lo := 0) (n := (((W.n : Nat) : Int) + 1).toNat) (fun i σ G => ∃ (y6 y7 y8 : Option V) (q : Addr), σ = [some (.ref wa), some (.ref a), some (.ref na), some (.ref la), some (.str "most"), some (.ref q), y6, y7, y8, none, none, none, none] ∧ Same H1 G ∧ IL G q (iter (fun X => val W f (setE e x X)) i (rng W.n)))
          ⟨_, _, _, _, rfl, s23, gq0⟩ ?_ ?_
        · clear X3 s23 gq0 s3 s2 sq2 hN2 X2
          rintro i σ G hi ⟨y6, y7, y8, q, rfl, sG, gq⟩
          have X3 := X1.same sG
          have sq3 := SqT.same sG sq1
          have hN3 := sG _ _ hN1
          intro na2 hna2
          have s2 := Same.new (o := .dK []) hna2
          have nn : na ≠ na2 := ne_of_none hN3 hna2
          refine ⟨na, _, s2 _ _ hN3, trivial, fun od => ?_⟩
          refine ⟨.ref na, rfl, na, od, rfl, .inl ⟨kvs, upd_same, ?_⟩⟩
          refine for_it (walk_keys (d := na) (o := od) (kvs := kvs)) (fun j σ G' => ∃ (y8 : Option V), σ = [some (.ref wa), some (.ref a), some (.ref na), some (.ref la), some (.str "most"), some (.ref q), some (.int (0 + (i : Int))), some (.ref na2), y8, none, none, none, none] ∧ G' na = some (.frz od (.dK kvs)) ∧ G' na2 = some (.dK (kvs.take j)) ∧
              ∀ b o, b ≠ na → b ≠ na2 → G b = some o → G' b = some o)
            ⟨_, rfl, upd_same, by rw [upd_ne nn.symm, upd_same]; rfl, fun b o n1 n2 e => by rw [upd_ne n1, upd_ne n2]; exact e⟩ (fun i σ G _ ⟨_, _, g, _⟩ => g) ?_ ?_
          · rintro j x0 σ G1 G2 hj ⟨y8, rfl, gN, gI, gK⟩ ⟨rfl, kk, vv, hkv, rfl⟩
            obtain ⟨v1, v2⟩ := valV_atW hnd hkv
            refine ⟨.ref na, rfl, kV kk, rfl, na, vv, rfl, .inl ⟨kvs, kk, .inr ⟨od, gN⟩, rfl, v1.symm⟩, .ref na2, rfl, kV kk, rfl, na2, _, rfl, DPut.k (k := kk) gI (by rw [List.length_take]; exact small1000 (by omega)), ?_⟩
            refine ⟨_, rfl, by rw [upd_ne nn]; exact gN, ?_, fun b o n1 n2 e => by rw [upd_ne n2]; exact gK b o n1 n2 e⟩
            rw [upd_same, putK_new _ v2, List.take_add_one, hkv]
            rfl
          · rintro σ G1 ⟨y8, rfl, gN, gI, gK⟩
            rw [List.take_length] at gI
            refine ⟨gN, ?_⟩
            have s3 : Same G (upd G1 na (.dK kvs)) := fun b o e => by
              by_cases e1 : b = na
              · subst e1
                rw [hN3] at e
                cases e
                exact upd_same
              · rw [upd_ne e1]
                exact gK b o e1 (ne_of_none e hna2) e
            have gI3 : (upd G1 na (.dK kvs)) na2 = some (.dK kvs) := by rw [upd_ne nn.symm]; exact gI
            generalize upd G1 na (.dK kvs) = G3 at s3 gI3
            refine ⟨.ref q, rfl, .ref na2, rfl, .ref a, rfl, a, _, 1, .int x, rfl, rfl, SqT.same s3 sq3, at1, na2, _, rfl, DPut.k (k := Sum.inl x) gI3 (small1000 (by omega)), ?_⟩
            have s4 : Same G (upd G3 na2 (.dK (putK kvs (Sum.inl x) (.ref q)))) := fun b o e => by
              rw [upd_ne (ne_of_none e hna2)]
              exact s3 b o e
            have gI4 : (upd G3 na2 (.dK (putK kvs (Sum.inl x) (.ref q)))) na2 = some (.dK (putK kvs (Sum.inl x) (.ref q))) := upd_same
            generalize upd G3 na2 (.dK (putK kvs (Sum.inl x) (.ref q))) = G4 at s4 gI4
            have lp := length_putK kvs (Sum.inl x) (V.ref q)
            have sG4 := sG.trans s4
            refine ⟨.ref wa, rfl, .ref a, rfl, a, _, 2, vf, rfl, rfl, SqT.same s4 sq3, at2, .ref na2, rfl, .ref wa, vf, W, f, na2, putK kvs (Sum.inl x) (.ref q), setE e x (iter (fun X => val W f (setE e x X)) i (rng W.n)), rfl, ⟨wa, sa, pa, fas, pas, rfl, X3.same s4⟩, fit, hf.same sG4, by omega, gI4, by omega, nd_putW hnd, fun y hy => ?_, fun ra H5 s5 hra => ⟨_, _, _, ra, rfl, sG4.trans s5, hra⟩⟩
            rw [valV_put]
            unfold setE
            by_cases c : y = x
            · rw [if_pos (by rw [c]), if_pos c]
              exact ⟨q, rfl, s4 _ _ gq⟩
            · rw [if_neg (fun z => c (by injection z)), if_neg c]
              obtain ⟨b, b1, b2⟩ := henv1 y (by simp only [fv, if_pos (show One.most.bind = true from rfl), List.mem_filter, decide_eq_true_eq]; exact ⟨hy, c⟩)
              exact ⟨b, b1, sG4 _ _ b2⟩
        · rintro σ G ⟨y6, y7, y8, q, rfl, sG, gq⟩
          refine ⟨.ref q, rfl, k1 q _ sG ?_⟩
          have : (((W.n : Nat) : Int) + 1).toNat = W.n + 1 := by omega
          rw [this] at gq
          exact gq
end
end Fw

set_option maxRecDepth 100000
set_option maxHeartbeats 4000000
namespace Fw
open PySem PySem.Spec PyProof.Rows L2
section
variable {P : Program} {w : World} {K : PySem.W.Frag} {mg : Str → Option Value} {base : Heap} {C J B NC FE OD : Addr}
theorem all_value {f : Addr} {fd : FuncData} (FF : Fun K "_law_value" "_law_value" s_law_value f fd) (b : Binds K fd a_law_value []) (m : mg "_law_value" = some (.ref f)) (T : Txt K mg C J B)
    (h_law_behind : Has P w K mg base "_law_behind" 1 a_law_behind (spBehind K)) : ∀ n, Has P w K mg base "_law_value" (n + 2) a_law_value (spVal K n)
  | 0 => ⟨f, fd, m, FF.kp, b, noneOk⟩
  | n + 1 => ⟨f, fd, m, FF.kp, b, ok_law_value n FF T h_law_behind (all_value FF b m T h_law_behind n)⟩
def spTruth (K : PySem.W.Frag) : Sp := fun vs H Q _ => ∃ (v sv : V) (W : Wd) (t : F) (e : Int → List Int), vs = [v, sv] ∧ WSt K H v W ∧ W.Fix ∧ IsF K H sv t ∧ t.depth ≤ 20 ∧ fv t = [] ∧
  ∀ (a : Addr) H', Same H H' → IL H' a (val W t e) → Q (.ref a) H'
theorem ok_law_truth {f : Addr} {fd : FuncData} (FF : Fun K "_law_truth" "_law_truth" s_law_truth f fd) (T : Txt K mg C J B) (h_law_value : Has P w K mg base "_law_value" 22 a_law_value (spVal K 20)) : FnOk P w K mg base CX0 23 f fd a_law_truth (spTruth K) := by
  refine FF.ok sc_law_truth (fun vs H Q E h => ?_) (fun cdv A outer s H vs Q E hr h => ?_)
  · obtain ⟨v, sv, W, t, e, rfl, _⟩ := h
    rfl
  · obtain ⟨v, sv, W, t, e, rfl, hW, fit, ht, hdep, hc, k⟩ := h
    refine ⟨_, (pss_one (ps_ret (pe_callH h_law_value (hr.mono (by omega)) (pa_cons (pv 0) (pa_cons (pv 1) (pa_cons pe_dnewK pa_nil)))))), ?_⟩
    refine ⟨v, rfl, sv, rfl, fun na hna => ⟨v, sv, W, t, na, [], e, rfl, hW.same (Same.new hna), fit, ht.same (Same.new hna), hdep, upd_same, by simp, List.nodup_nil, fun x hx => ?_, fun a H' s' ha => ?_⟩⟩
    · rw [hc] at hx
      cases hx
    · exact k a H' ((Same.new hna).trans s') ha
end
end Fw

set_option maxRecDepth 100000
set_option maxHeartbeats 4000000
namespace Fw
open PySem PySem.Spec PyProof.Rows L2 GxR
/-- a row of ints, or of triples, and whether it ascends -/
inductive RowA (H : Hp) : List V → Bool → Prop
  | i (ns : List Int) : RowA H (ns.map V.int) (asc ltI ns)
  | t {as : List Addr} {ts : List T3} : PAt H as ts → RowA H (as.map V.ref) (asc lex3 ts)
abbrev genSc : Stmt → Scope
  | .FunctionDef (body := [.Return (some (.Call _ [.GeneratorExp _ _ sc _] _ _)) _]) .. => sc
  | _ => default
abbrev genEl : Stmt → Expr
  | .FunctionDef (body := [.Return (some (.Call _ [.GeneratorExp e _ _ _] _ _)) _]) .. => e
  | _ => .Constant .none 0 ⟨0, 0, 0, 0⟩
theorem asc_free : ∀ y ∈ (genSc s_ascends).names, y.2 ≠ .free := by decide +kernel
theorem map_tail {α β : Type} (f : α → β) : ∀ l : List α, (l.map f).tail = l.tail.map f
  | [] => rfl
  | _ :: _ => rfl
theorem cut_tail (xs : List V) : cutV xs (some 1) none = xs.tail := by
  cases xs with
  | nil => rfl
  | cons x xs =>
    unfold cutV
    rw [HT.sIx_none, show (1 : Int) = ((1 : Nat) : Int) from rfl, HT.sIx_nat]
    rw [List.length_cons, Nat.min_eq_left (by omega)]
    show (xs.take (xs.length + 1 - 1)) = xs
    rw [Nat.add_sub_cancel, List.take_length]
section
variable {P : Program} {w : World} {K : PySem.W.Frag} {mg : Str → Option Value} {base : Heap} {C J B NC WC cA tA : Addr} {t1 t2 t3 : Tok}
def spAsc (K : PySem.W.Frag) (tA : Addr) : Sp := fun vs H Q _ => ∃ (a : Addr) (xs : List V) (r : Bool), vs = [.ref a] ∧ SqT K H a xs ∧ TabG H tA ∧ RowA H xs r ∧ ∀ H', Tb tA H H' → Q (.bl r) H'
theorem ok_ascends {f : Addr} {fd : FuncData} (FF : FunC K "ascends" "ascends" s_ascends f fd cA) (T : Txt K mg C J B) (TB : TabB base mg cA tA) : FnOk P w K mg base CX0 4 f fd a_ascends (spAsc K tA) := by
  refine FF.ok sc_ascends (fun vs H Q E h => ?_) (fun A outer s H vs Q E hr h => ?_)
  · obtain ⟨a, xs, r, rfl, _⟩ := h
    rfl
  · obtain ⟨a, xs, r, rfl, sq, tg, ra, k⟩ := h
    have gs2 : GenS2 (envOfC "ascends" (defScope s_ascends) s.heap.objs.size f (.ref cA)) (genSc s_ascends) "low" "high" := ⟨rfl, rfl, by decide +kernel, rfl, rfl, rfl, fun y hy e => absurd e (asc_free y hy)⟩
    refine ⟨_, (pss_one (ps_ret (pe_allZ hr TB rfl gs2 (by decide) rfl T.z_all rfl T.z_zip (pa_cons (pv 0) (pa_cons (pe_slice sl_tupA (pv 0) (po_some pe_int) po_none) pa_nil))))), ?_⟩
    -- from the tail on, wherever it stands
    have go : ∀ (q : Addr) (G : Hp), Same H G → SqT K G q xs.tail → ∃ rs : List Bool, EltsZ (cxOf CX0 P w K mg base n_ascends "ascends" (defScope s_ascends) f (.ref cA) A outer s H E).nox (genSc s_ascends) "low" "high" (genEl s_ascends) tA G xs xs.tail rs ∧ rs.all id = r := by
      intro q G sG sqt
      cases ra with
      | i ns =>
        refine ⟨adj ltI ns, ⟨?_, fun s' pins σ I i x y r hx hy hr' => ?_⟩, adj_asc ltI ns⟩
        · rw [adj_len, map_tail, List.length_map, List.length_map]
        · obtain ⟨x', y', e1, e2, rfl⟩ := adj_get hr'
          rw [map_tail, List.getElem?_map, e2] at hy
          rw [List.getElem?_map, e1] at hx
          cases hx
          cases hy
          exact eltZ_lt_int x' y' rfl rfl rfl
      | @t as ts pa =>
        have pa' : PAt G as ts := pa.map fun a o _ e => sG a o e
        refine ⟨adj lex3 ts, ⟨?_, fun s' pins σ I i x y r hx hy hr' => ?_⟩, adj_asc lex3 ts⟩
        · rw [adj_len, map_tail, List.length_map, List.length_map, List.length_tail, List.length_tail, pa.1]
        · obtain ⟨x', y', e1, e2, rfl⟩ := adj_get hr'
          rw [map_tail, List.getElem?_map] at hy
          rw [List.getElem?_map] at hx
          cases ex : as[i]? with
          | none => rw [ex] at hx; cases hx
          | some u =>
          cases ey : as.tail[i]? with
          | none => rw [ey] at hy; cases hy
          | some v =>
          rw [ex] at hx
          rw [ey] at hy
          cases hx
          cases hy
          rw [List.getElem?_tail] at ey e2
          exact eltZ_lt_trip I (tg.same sG) (by have := hr.un; show (A.deeper (envOfC "ascends" (defScope s_ascends) s.heap.objs.size f (.ref cA))).units + 8 < _; omega) (pa'.2 _ _ _ ex e1) (pa'.2 _ _ _ ey e2) rfl rfl rfl
    refine ⟨.ref a, rfl, .ref a, rfl, 1, rfl, a, xs, rfl, sq, fun hw => ?_, fun _ q hq => ?_⟩
    · have e : xs.tail = xs := by
        have h1 := hw.1
        cases xs with
        | nil => rfl
        | cons x xs =>
          rw [show (1 : Int) = ((1 : Nat) : Int) from rfl, HT.sIx_nat, List.length_cons, Nat.min_eq_left (by omega)] at h1
          cases h1
      obtain ⟨rs, el, er⟩ := go a H (fun _ _ e => e) (by rw [e]; exact sq)
      rw [e] at el
      refine ⟨a, a, xs, xs, rs, rfl, .inr ⟨sq, sq⟩, tg, el, fun H2 t2 => ?_⟩
      rw [er]
      exact k H2 (tabbed_tb t2)
    · have s1 := Same.new (o := .tup (cutV xs (some 1) none)) hq
      obtain ⟨rs, el, er⟩ := go q _ s1 (SqT.of (by rw [upd_same, cut_tail]))
      refine ⟨a, q, xs, xs.tail, rs, rfl, .inr ⟨SqT.same s1 sq, SqT.of (by rw [upd_same, cut_tail])⟩, tg.same s1, el, fun H2 t2 => ?_⟩
      rw [er]
      exact k H2 ((Tb.same s1 tg).trans (tabbed_tb t2))
end
end Fw

set_option maxRecDepth 100000
set_option maxHeartbeats 4000000
namespace Fw
open PySem PySem.Spec PyProof.Rows L2 GxR
def RAt (K : PySem.W.Frag) (H : Hp) (as : List Addr) (Xs : List (List Int)) : Prop := as.length = Xs.length ∧ ∀ (i : Nat) (a : Addr) (X : List Int), as[i]? = some a → Xs[i]? = some X → SqT K H a (X.map V.int)
def wf (l f : Int) (ta tb : Addr) : List (Str × V) := [("labels", .int l), ("facts", .int f), ("states", .ref ta), ("steps", .ref tb)]
/-- a world being made: its parts, without its ends -/
structure WoA (K : PySem.W.Frag) (WC : Addr) (H : Hp) (p dx : Addr) (l f : Int) (ta tb : Addr) (ras as : List Addr) (Xs : List (List Int)) (ss : List T3) : Prop where
  ob : H p = some (.ins WC dx (wf l f ta tb))
  st : SqT K H ta (ras.map V.ref)
  rw : RAt K H ras Xs
  sp : SqT K H tb (as.map V.ref)
  tr : PAt H as ss
theorem RAt.tb {K : PySem.W.Frag} {P : Addr} {H H' : Hp} {as : List Addr} {Xs : List (List Int)} (g : TabG H P) (t : Tb P H H') (h : RAt K H as Xs) : RAt K H' as Xs := ⟨h.1, fun i a X e1 e2 => SqT.tb g t (h.2 i a X e1 e2)⟩
theorem PAt.tb {P : Addr} {H H' : Hp} {as : List Addr} {ts : List T3} (g : TabG H P) (t : Tb P H H') (h : PAt H as ts) : PAt H' as ts :=
  ⟨h.1, fun i a p e1 e2 => t.1 _ _ (g.ne (h.2 i a p e1 e2) (by intro _ z; cases z)) (h.2 i a p e1 e2)⟩
theorem WoA.tb {K : PySem.W.Frag} {WC P : Addr} {H H' : Hp} {p dx : Addr} {l f : Int} {ta tb : Addr} {ras as : List Addr} {Xs : List (List Int)} {ss : List T3} (g : TabG H P) (t : Tb P H H') (h : WoA K WC H p dx l f ta tb ras as Xs ss) : WoA K WC H' p dx l f ta tb ras as Xs ss :=
  ⟨t.1 _ _ (g.ne h.ob (by intro _ z; cases z)) h.ob, SqT.tb g t h.st, h.rw.tb g t, SqT.tb g t h.sp, h.tr.tb g t⟩
theorem all_take {α : Type} {l : List α} {q : α → Bool} (h : ∀ (i : Nat) (x : α), l[i]? = some x → q x = true) : l.all q = true := List.all_eq_true.mpr fun x hx => by
  obtain ⟨i, hi, e⟩ := List.getElem_of_mem hx
  exact h i x (by rw [List.getElem?_eq_getElem hi, e])
theorem all_no {α : Type} {l : List α} {q : α → Bool} {i : Nat} {x : α} (h : l[i]? = some x) (n : q x = false) : l.all q = false := by
  cases e : l.all q with
  | false => rfl
  | true =>
    have := List.all_eq_true.mp e x (List.mem_of_getElem? h)
    rw [n] at this
    cases this
theorem RAt.nth {K : PySem.W.Frag} {H : Hp} {as : List Addr} {Xs : List (List Int)} (h : RAt K H as Xs) {i : Nat} {x : V} (e : (as.map V.ref)[i]? = some x) : ∃ a X, x = .ref a ∧ as[i]? = some a ∧ Xs[i]? = some X ∧ SqT K H a (X.map V.int) := by
  rw [List.getElem?_map] at e
  cases q : as[i]? with
  | none => rw [q] at e; cases e
  | some a =>
    rw [q] at e
    have il : i < Xs.length := by rw [← h.1]; exact (List.getElem?_eq_some_iff.mp q).1
    exact ⟨a, Xs[i], (Option.some.inj e).symm, rfl, List.getElem?_eq_getElem il, h.2 i a _ q (List.getElem?_eq_getElem il)⟩
theorem PAt.nth {H : Hp} {as : List Addr} {ss : List T3} (h : PAt H as ss) {i : Nat} {x : V} (e : (as.map V.ref)[i]? = some x) : ∃ a p, x = .ref a ∧ as[i]? = some a ∧ ss[i]? = some p ∧ H a = some (.tup [.int p.1, .int p.2.1, .int p.2.2]) := by
  rw [List.getElem?_map] at e
  cases q : as[i]? with
  | none => rw [q] at e; cases e
  | some a =>
    rw [q] at e
    have il : i < ss.length := by rw [← h.1]; exact (List.getElem?_eq_some_iff.mp q).1
    exact ⟨a, ss[i], (Option.some.inj e).symm, rfl, List.getElem?_eq_getElem il, h.2 i a _ q (List.getElem?_eq_getElem il)⟩
section
variable {P : Program} {w : World} {K : PySem.W.Frag} {mg : Str → Option Value} {base : Heap} {C J B NC WC cA tA : Addr} {t1 t2 t3 : Tok}
def spCkN (NC : Addr) : Sp := fun vs H Q E => ∃ l f : Int, vs = [.int l, .int f] ∧ (okNums l f = true → Q .non H) ∧ (okNums l f = false → E (.ref NC) none H)
theorem ok_check_numbers {f : Addr} {fd : FuncData} (FF : Fun K "check_numbers" "check_numbers" s_check_numbers f fd) (T : Txt K mg C J B) (TE : TxtEW K mg NC) (TR : TxtL mg t1 t2 t3)
    (h_is_number : Has P w K mg base "is_number" 1 a_is_number spNum) : FnOk P w K mg base (L2.CX P w) 2 f fd a_check_numbers (spCkN NC) := by
  refine FF.okX sc_check_numbers (fun vs H Q E h => ?_) (fun cdv A outer s H vs Q E hr h => ?_)
  · obtain ⟨l, f, rfl, _⟩ := h
    rfl
  · obtain ⟨l, f, rfl, k1, k2⟩ := h
    refine ⟨_, (pss_cons (ps_if (pt_not (pt_val (pe_callH h_is_number (hr.mono (by omega)) (pa_cons (pv 0) (pa_cons pe_int (pa_cons (pe_glob rfl TR.m_MOST_LABELS (show RelV (.int 3) _ from ⟨_, rfl⟩)) pa_nil)))))) (pss_one (ps_raise rfl (takes_of rfl rfl rfl rfl) (pmk_own PySem.F.excBase_ValueError TE.xC TE.gC TE.kC (raises_own TE.bC TE.tC) (by exact rfl)))) pss_nil)
      (pss_one (ps_if (pt_not (pt_val (pe_callH h_is_number (hr.mono (by omega)) (pa_cons (pv 1) (pa_cons pe_int (pa_cons (pe_glob rfl TR.m_MOST_FACTS (show RelV (.int 6) _ from ⟨_, rfl⟩)) pa_nil)))))) (pss_one (ps_raise rfl (takes_of rfl rfl rfl rfl) (pmk_own PySem.F.excBase_ValueError TE.xC TE.gC TE.kC (raises_own TE.bC TE.tC) (by exact rfl)))) pss_nil))), ?_⟩
    unfold okNums at k1 k2
    refine ⟨.int l, rfl, l, 1, 3, rfl, _, rfl, ?_⟩
    cases c1 : decide (1 ≤ l) && decide (l ≤ 3) with
    | false =>
      rw [c1] at k2
      exact iteT (k2 rfl)
    | true =>
      rw [c1, Bool.true_and] at k1 k2
      refine iteF ⟨.int f, rfl, f, 0, 6, rfl, _, rfl, ?_⟩
      cases c2 : decide (0 ≤ f) && decide (f ≤ 6) with
      | false => exact iteT (k2 c2)
      | true => exact iteF (k1 c2)
def spCkS (K : PySem.W.Frag) (NC WC tA : Addr) : Sp := fun vs H Q E => ∃ (p dx : Addr) (l f : Int) (ta tb : Addr) (ras as : List Addr) (Xs : List (List Int)) (ss : List T3), vs = [.ref p] ∧ WoA K WC H p dx l f ta tb ras as Xs ss ∧ TabG H tA ∧ Xs.length ≤ 1000 ∧
  (okRows f Xs = true → ∀ H', Tb tA H H' → Q .non H') ∧ (okRows f Xs = false → ∀ H', E (.ref NC) none H')
theorem ok_check_states {f : Addr} {fd : FuncData} (FF : Fun K "check_states" "check_states" s_check_states f fd) (T : Txt K mg C J B) (TC : TxtC K WC) (TE : TxtEW K mg NC) (TR : TxtL mg t1 t2 t3)
    (h_is_number : Has P w K mg base "is_number" 1 a_is_number spNum) (h_ascends : Has P w K mg base "ascends" 4 a_ascends (spAsc K tA)) : FnOk P w K mg base (L2.CX P w) 5 f fd a_check_states (spCkS K NC WC tA) := by
  refine FF.okX sc_check_states (fun vs H Q E h => ?_) (fun cdv A outer s H vs Q E hr h => ?_)
  · obtain ⟨p, dx, l, f, ta, tb, ras, as, Xs, ss, rfl, _⟩ := h
    rfl
  · obtain ⟨p, dx, l, f, ta, tb, ras, as, Xs, ss, rfl, W, tg, hsz, k1, k2⟩ := h
    refine ⟨_, (pss_cons (ps_if (pt_not (pt_val (pe_callH h_is_number (hr.mono (by omega)) (pa_cons (pe_callB call_len_seq rfl T.z_len (by decide +kernel) (pa_cons (pe_fld (pv 0) rfl) pa_nil)) (pa_cons pe_int (pa_cons (pe_glob rfl TR.m_MOST_STATES (show RelV (.int 400) _ from ⟨_, rfl⟩)) pa_nil)))))) (pss_one (ps_raise rfl (takes_of rfl rfl rfl rfl) (pmk_own PySem.F.excBase_ValueError TE.xC TE.gC TE.kC (raises_own TE.bC TE.tC) (by exact rfl)))) pss_nil)
      (pss_one (ps_for (passes_of rfl) rfl (pi_tup (pe_fld (pv 0) rfl)) (pg_name (i := 1) sc_check_states.nd rfl (.inl rfl)) (pss_cons (ps_for (passes_of rfl) rfl (pi_tup (pv 1)) (pg_name (i := 2) sc_check_states.nd rfl (.inl rfl)) (pss_one (ps_if (pt_not (pt_val (pe_callH h_is_number (hr.mono (by omega)) (pa_cons (pv 2) (pa_cons pe_int (pa_cons (pe_op op_sub (pe_fld (pv 0) rfl) pe_int) pa_nil)))))) (pss_one (ps_raise rfl (takes_of rfl rfl rfl rfl) (pmk_own PySem.F.excBase_ValueError TE.xC TE.gC TE.kC (raises_own TE.bC TE.tC) (by exact rfl)))) pss_nil)))
      (pss_one (ps_if (pt_not (pt_val (pe_callH h_ascends (hr.mono (by omega)) (pa_cons (pv 1) pa_nil)))) (pss_one (ps_raise rfl (takes_of rfl rfl rfl rfl) (pmk_own PySem.F.excBase_ValueError TE.xC TE.gC TE.kC (raises_own TE.bC TE.tC) (by exact rfl)))) pss_nil)))))), ?_⟩
    unfold okRows at k1 k2
    have len : (ras.map V.ref).length = Xs.length := by rw [List.length_map, W.rw.1]
    refine ⟨.ref p, rfl, p, WC, dx, _, .ref ta, rfl, W.ob, TC.cl, TC.nS, rfl, ta, _, rfl, .inr W.st, ?_⟩
    rw [len]
    refine ⟨Xs.length, 1, 400, rfl, _, rfl, ?_⟩
    cases c1 : decide (1 ≤ (Xs.length : Int)) && decide ((Xs.length : Int) ≤ 400) with
    | false =>
      rw [c1] at k2
      exact iteT (k2 rfl _)
    | true =>
      rw [c1, Bool.true_and] at k1 k2
      refine iteF ?_
      refine ⟨.ref p, rfl, p, WC, dx, _, .ref ta, rfl, W.ob, TC.cl, TC.nS, rfl, ta, rfl, ⟨_, W.st⟩, ?_⟩
      refine for_tup (xs := ras.map V.ref) (fun i σ G => ∃ (y1 y2 : Option V), σ = [some (.ref p), y1, y2] ∧ Tb tA H G ∧ ∀ j X, j < i → Xs[j]? = some X → okRow f X = true)
        ⟨none, none, rfl, Tb.refl tg, fun j X hj => absurd hj (Nat.not_lt_zero _)⟩ (fun i σ G _ ⟨_, _, _, t, _⟩ => SqT.tb tg t W.st) ?_ ?_
      · rintro i x σ G hx ⟨y1, y2, rfl, tG, pre⟩
        have WG := W.tb tg tG
        obtain ⟨a, X, rfl, ha, hX, sqX⟩ := WG.rw.nth hx
        have bad : okRow f X = false → ∀ H', E (.ref NC) none H' := fun n => k2 (all_no hX n)
        unfold okRow at bad
        refine ⟨.ref a, rfl, a, rfl, ⟨_, sqX⟩, ?_⟩
        refine for_tup (xs := X.map V.int) (fun j σ G2 => ∃ y2 : Option V, σ = [some (.ref p), some (.ref a), y2] ∧ G2 = G ∧ ∀ m x, m < j → X[m]? = some x → (decide (0 ≤ x) && decide (x ≤ f - 1)) = true)
          ⟨_, rfl, rfl, fun m x hm => absurd hm (Nat.not_lt_zero _)⟩ (fun j σ G2 _ ⟨_, _, e, _⟩ => by rw [e]; exact sqX) ?_ ?_
        · rintro j y σ G2 hy ⟨y2, rfl, rfl, pre2⟩
          obtain ⟨n, hn, rfl⟩ : ∃ n, X[j]? = some n ∧ V.int n = y := by
            rw [List.getElem?_map] at hy
            cases e : X[j]? with
            | none => rw [e] at hy; cases hy
            | some n => rw [e] at hy; exact ⟨n, rfl, Option.some.inj hy⟩
          refine ⟨.int n, rfl, .ref p, rfl, p, WC, dx, _, .int f, rfl, WG.ob, TC.cl, TC.nF, rfl, f, 1, rfl, rfl, n, 0, f - 1, rfl, _, rfl, ?_⟩
          cases c2 : decide (0 ≤ n) && decide (n ≤ f - 1) with
          | false =>
            refine iteT (bad ?_ _)
            rw [all_no hn c2, Bool.false_and]
          | true =>
            refine iteF ⟨_, rfl, rfl, fun m x hm hx => ?_⟩
            by_cases e : m = j
            · subst e
              rw [hn] at hx
              cases hx
              exact c2
            · exact pre2 m x (by omega) hx
        · rintro σ G2 ⟨y2, rfl, rfl, pre2⟩
          rw [List.length_map] at pre2
          have all : X.all (fun x => decide (0 ≤ x) && decide (x ≤ f - 1)) = true := all_take fun m x hm => pre2 m x (List.getElem?_eq_some_iff.mp hm).1 hm
          refine ⟨.ref a, rfl, a, _, asc ltI X, rfl, sqX, tG.2, .i X, fun H' t' => ⟨_, rfl, ?_⟩⟩
          rw [all, Bool.true_and] at bad
          cases c3 : asc ltI X with
          | false => exact iteT (bad c3 _)
          | true =>
            refine iteF ⟨_, _, rfl, tG.trans t', fun j Y hj hY => ?_⟩
            by_cases e : j = i
            · subst e
              rw [hX] at hY
              cases hY
              unfold okRow
              rw [all, c3]
              rfl
            · exact pre j Y (by omega) hY
      · rintro σ G ⟨y1, y2, rfl, tG, pre⟩
        rw [len] at pre
        exact k1 (all_take fun j X hj => pre j X (List.getElem?_eq_some_iff.mp hj).1 hj) G tG
end
end Fw

set_option maxRecDepth 100000
set_option maxHeartbeats 4000000
namespace Fw
open PySem PySem.Spec PyProof.Rows L2 GxR
abbrev kSL (s l : Int) : List Key := [Sum.inl s, Sum.inl l]
/-- the dict of the steps' ends, as it grows -/
structure EndsK (H G : Hp) (kvs : List (List Key × V)) (ss : List T3) : Prop where
  one : ∀ k v, valV kvs k = some v → ∃ s l la, k = kSL s l ∧ v = .ref la ∧ H la = none ∧ IL G la (begS ss s l)
  no : ∀ s l, valV kvs (kSL s l) = none → begS ss s l = []
  inj : ∀ k k' la, valV kvs k = some (.ref la) → valV kvs k' = some (.ref la) → k = k'
def EndsAt (H0 H : Hp) (d : Addr) (ss : List T3) : Prop := ∃ kvs : List (List Key × V), H d = some (.dT kvs) ∧ ∀ s l, (∃ la, valV kvs (kSL s l) = some (.ref la) ∧ H0 la = none ∧ IL H la (begS ss s l)) ∨ (valV kvs (kSL s l) = none ∧ begS ss s l = [])
theorem kSL_inj {s l s' l' : Int} (h : kSL s l = kSL s' l') : s = s' ∧ l = l' := by
  injection h with h1 h2
  injection h2 with h2 _
  exact ⟨Sum.inl.inj h1, Sum.inl.inj h2⟩
theorem EndsK.at_ {H G : Hp} {d : Addr} {kvs : List (List Key × V)} {ss : List T3} (h : EndsK H G kvs ss) (e : G d = some (.dT kvs)) : EndsAt H G d ss := ⟨kvs, e, fun s l => by
  cases q : valV kvs (kSL s l) with
  | none => exact .inr ⟨rfl, h.no s l q⟩
  | some v =>
    obtain ⟨s', l', la, e1, e2, e3, il⟩ := h.one _ _ q
    obtain ⟨rfl, rfl⟩ := kSL_inj e1
    exact .inl ⟨la, by rw [e2], e3, il⟩⟩
theorem EndsAt.map {H0 H H' : Hp} {d : Addr} {ss : List T3} (hd : ∀ kvs, H d = some (.dT kvs) → H' d = some (.dT kvs)) (hl : ∀ a xs, H0 a = none → H a = some (.lst xs) → H' a = some (.lst xs)) (h : EndsAt H0 H d ss) : EndsAt H0 H' d ss := by
  obtain ⟨kvs, e, x⟩ := h
  refine ⟨kvs, hd _ e, fun s l => ?_⟩
  rcases x s l with ⟨la, e1, e0, e2⟩ | z
  · exact .inl ⟨la, e1, e0, hl _ _ e0 e2⟩
  · exact .inr z
theorem EndsAt.weak {H0 H0' H : Hp} {d : Addr} {ss : List T3} (dom : ∀ b, H0' b = none → H0 b = none) (h : EndsAt H0' H d ss) : EndsAt H0 H d ss := by
  obtain ⟨kvs, e, x⟩ := h
  refine ⟨kvs, e, fun s l => ?_⟩
  rcases x s l with ⟨la, e1, e0, e2⟩ | z
  · exact .inl ⟨la, e1, dom _ e0, e2⟩
  · exact .inr z
theorem EndsAt.tb {P : Addr} {H0 H H' : Hp} {d : Addr} {ss : List T3} (g : TabG H P) (t : Tb P H H') (h : EndsAt H0 H d ss) : EndsAt H0 H' d ss :=
  h.map (fun kvs e => t.1 _ _ (g.ne e (by intro _ z; cases z)) e) fun a xs _ e => t.1 _ _ (g.ne e (by intro _ z; cases z)) e
/-- a world that is made -/
structure WoE (K : PySem.W.Frag) (WC : Addr) (H0 H : Hp) (p dx : Addr) (l f : Int) (ta tb d : Addr) (ras as : List Addr) (Xs : List (List Int)) (ss : List T3) : Prop where
  ob : H p = some (.ins WC dx (wf l f ta tb ++ ([("_ends", V.ref d)] : List (Str × V))))
  st : SqT K H ta (ras.map V.ref)
  rw : RAt K H ras Xs
  sp : SqT K H tb (as.map V.ref)
  tr : PAt H as ss
  en : EndsAt H0 H d ss
section
variable {P : Program} {w : World} {K : PySem.W.Frag} {mg : Str → Option Value} {base : Heap} {C J B NC WC cA tA : Addr} {t1 t2 t3 : Tok}
def spCkT (K : PySem.W.Frag) (NC WC tA : Addr) : Sp := fun vs H Q E => ∃ (p dx : Addr) (l f : Int) (ta tb : Addr) (ras as : List Addr) (Xs : List (List Int)) (ss : List T3), vs = [.ref p] ∧ WoA K WC H p dx l f ta tb ras as Xs ss ∧ TabG H tA ∧
  (okSteps l Xs.length ss = true → ∀ H', Tb tA H H' → Q .non H') ∧ (okSteps l Xs.length ss = false → ∀ H', E (.ref NC) none H')
theorem ok_check_steps {f : Addr} {fd : FuncData} (FF : Fun K "check_steps" "check_steps" s_check_steps f fd) (T : Txt K mg C J B) (TC : TxtC K WC) (TE : TxtEW K mg NC)
    (h_is_number : Has P w K mg base "is_number" 1 a_is_number spNum) (h_ascends : Has P w K mg base "ascends" 4 a_ascends (spAsc K tA)) : FnOk P w K mg base (L2.CX P w) 5 f fd a_check_steps (spCkT K NC WC tA) := by
  refine FF.okX sc_check_steps (fun vs H Q E h => ?_) (fun cdv A outer s H vs Q E hr h => ?_)
  · obtain ⟨p, dx, l, f, ta, tb, ras, as, Xs, ss, rfl, _⟩ := h
    rfl
  · obtain ⟨p, dx, l, f, ta, tb, ras, as, Xs, ss, rfl, W, tg, k1, k2⟩ := h
    refine ⟨_, (pss_cons (ps_set (i := 1) sc_check_steps.nd rfl (.inl rfl) (pe_op op_sub (pe_callB call_len_seq rfl T.z_len (by decide +kernel) (pa_cons (pe_fld (pv 0) rfl) pa_nil)) pe_int))
      (pss_cons (ps_for (passes_of rfl) rfl (pi_tup (pe_fld (pv 0) rfl)) (pg_name (i := 2) sc_check_steps.nd rfl (.inl rfl)) (pss_cons (ps_if (PW.pt (pw_or (pt_cmpR op_ne (pe_callB call_len_seq rfl T.z_len (by decide +kernel) (pa_cons (pv 2) pa_nil)) pe_int (nomark _)) (pw_or1 (pt_not (pt_val (pe_callH h_is_number (hr.mono (by omega)) (pa_cons (pe_ix ix_tup (pv 2) pe_int (fun _ _ => rfl)) (pa_cons pe_int (pa_cons (pe_op op_sub (pe_fld (pv 0) rfl) pe_int) pa_nil))))))))) (pss_one (ps_raise rfl (takes_of rfl rfl rfl rfl) (pmk_own PySem.F.excBase_ValueError TE.xC TE.gC TE.kC (raises_own TE.bC TE.tC) (by exact rfl)))) pss_nil)
      (pss_one (ps_if (PW.pt (pw_or (pt_not (pt_val (pe_callH h_is_number (hr.mono (by omega)) (pa_cons (pe_ix ix_tup (pv 2) pe_int (fun _ _ => rfl)) (pa_cons pe_int (pa_cons (pv 1) pa_nil)))))) (pw_or1 (pt_not (pt_val (pe_callH h_is_number (hr.mono (by omega)) (pa_cons (pe_ix ix_tup (pv 2) pe_int (fun _ _ => rfl)) (pa_cons pe_int (pa_cons (pv 1) pa_nil))))))))) (pss_one (ps_raise rfl (takes_of rfl rfl rfl rfl) (pmk_own PySem.F.excBase_ValueError TE.xC TE.gC TE.kC (raises_own TE.bC TE.tC) (by exact rfl)))) pss_nil))))
      (pss_one (ps_if (pt_not (pt_val (pe_callH h_ascends (hr.mono (by omega)) (pa_cons (pe_fld (pv 0) rfl) pa_nil)))) (pss_one (ps_raise rfl (takes_of rfl rfl rfl rfl) (pmk_own PySem.F.excBase_ValueError TE.xC TE.gC TE.kC (raises_own TE.bC TE.tC) (by exact rfl)))) pss_nil)))), ?_⟩
    unfold okSteps at k1 k2
    have len : (ras.map V.ref).length = Xs.length := by rw [List.length_map, W.rw.1]
    have lens : (as.map V.ref).length = ss.length := by rw [List.length_map, W.tr.1]
    refine ⟨.ref p, rfl, p, WC, dx, _, .ref ta, rfl, W.ob, TC.cl, TC.nS, rfl, ta, _, rfl, .inr W.st, ?_⟩
    rw [len]
    refine ⟨Xs.length, 1, rfl, rfl, ?_⟩
    refine ⟨.ref p, rfl, p, WC, dx, _, .ref tb, rfl, W.ob, TC.cl, TC.nT, rfl, tb, rfl, ⟨_, W.sp⟩, ?_⟩
    refine for_tup (xs := as.map V.ref) (fun i σ G => ∃ (y2 : Option V), σ = [some (.ref p), some (.int ((Xs.length : Int) - 1)), y2] ∧ G = H ∧ ∀ (j : Nat) p, j < i → ss[j]? = some p → okStep l Xs.length p = true)
      ⟨none, rfl, rfl, fun j X hj => absurd hj (Nat.not_lt_zero _)⟩ (fun i σ G _ ⟨_, _, e, _⟩ => by rw [e]; exact W.sp) ?_ ?_
    · rintro i x σ G hx ⟨y2, rfl, rfl, pre⟩
      obtain ⟨a, q, rfl, ha, hq, at_⟩ := W.tr.nth hx
      have bad : okStep l Xs.length q = false → ∀ H', E (.ref NC) none H' := fun n => k2 (by rw [all_no hq n, Bool.false_and])
      unfold okStep at bad
      have sq := SqT.of (K := K) at_
      have i0 : atI [V.int q.1, V.int q.2.1, V.int q.2.2] 0 = some (.int q.1) := rfl
      have i1 : atI [V.int q.1, V.int q.2.1, V.int q.2.2] 1 = some (.int q.2.1) := rfl
      have i2 : atI [V.int q.1, V.int q.2.1, V.int q.2.2] 2 = some (.int q.2.2) := rfl
      refine ⟨.ref a, rfl, a, _, rfl, .inr sq, rfl, _, rfl, ?_⟩
      have l3 : V.int (([V.int q.1, V.int q.2.1, V.int q.2.2] : List V).length : Int) = V.int 3 := rfl
      refine (if_neg (by rw [decide_eq_true l3]; exact Bool.false_ne_true)).mpr ?_
      refine ⟨.ref a, rfl, a, _, 1, _, rfl, rfl, sq, i1, .ref p, rfl, p, WC, dx, _, .int l, rfl, W.ob, TC.cl, TC.nL, rfl, l, 1, rfl, rfl, q.2.1, 0, l - 1, rfl, _, rfl, ?_⟩
      cases c1 : decide (0 ≤ q.2.1) && decide (q.2.1 ≤ l - 1) with
      | false =>
        rw [c1] at bad
        exact iteT (bad rfl _)
      | true =>
        rw [c1, Bool.true_and] at bad
        refine iteF ?_
        refine ⟨.ref a, rfl, a, _, 0, _, rfl, rfl, sq, i0, .int ((Xs.length : Int) - 1), rfl, q.1, 0, (Xs.length : Int) - 1, rfl, _, rfl, ?_⟩
        cases c2 : decide (0 ≤ q.1) && decide (q.1 ≤ (Xs.length : Int) - 1) with
        | false =>
          rw [c2] at bad
          exact iteT (bad rfl _)
        | true =>
          rw [c2, Bool.true_and] at bad
          refine iteF ?_
          refine ⟨.ref a, rfl, a, _, 2, _, rfl, rfl, sq, i2, .int ((Xs.length : Int) - 1), rfl, q.2.2, 0, (Xs.length : Int) - 1, rfl, _, rfl, ?_⟩
          cases c3 : decide (0 ≤ q.2.2) && decide (q.2.2 ≤ (Xs.length : Int) - 1) with
          | false => exact iteT (bad c3 _)
          | true =>
            refine iteF ⟨_, rfl, rfl, fun j r hj hr' => ?_⟩
            by_cases e : j = i
            · subst e
              rw [hq] at hr'
              cases hr'
              unfold okStep
              rw [c1, c2, c3]
              rfl
            · exact pre j r (by omega) hr'
    · rintro σ G ⟨y2, rfl, rfl, pre⟩
      rw [lens] at pre
      have all : ss.all (okStep l Xs.length) = true := all_take fun j q hj => pre j q (List.getElem?_eq_some_iff.mp hj).1 hj
      rw [all, Bool.true_and] at k1 k2
      refine ⟨.ref p, rfl, p, WC, dx, _, .ref tb, rfl, W.ob, TC.cl, TC.nT, rfl, tb, _, asc lex3 ss, rfl, W.sp, tg, .t W.tr, fun H' t' => ⟨_, rfl, ?_⟩⟩
      cases c : asc lex3 ss with
      | false => exact iteT (k2 c _)
      | true => exact iteF (k1 c _ t')
def spEnds (K : PySem.W.Frag) : Sp := fun vs H Q _ => ∃ (tb : Addr) (as : List Addr) (ss : List T3), vs = [.ref tb] ∧ SqT K H tb (as.map V.ref) ∧ PAt H as ss ∧ ss.length ≤ 1000 ∧ ∀ d H', Same H H' → EndsAt H H' d ss → Q (.ref d) H'
theorem ok_ends_of {f : Addr} {fd : FuncData} (FF : Fun K "ends_of" "ends_of" s_ends_of f fd) (T : Txt K mg C J B) : FnOk P w K mg base CX0 1 f fd a_ends_of (spEnds K) := by
  refine FF.ok sc_ends_of (fun vs H Q E h => ?_) (fun cdv A outer s H vs Q E hr h => ?_)
  · obtain ⟨tb, as, ss, rfl, _⟩ := h
    rfl
  · obtain ⟨tb, as, ss, rfl, sq, tr, hsz, k⟩ := h
    have hu := hu_of hr
    refine ⟨_, (pss_cons (ps_set (i := 1) sc_ends_of.nd rfl (.inl rfl) pe_dnewT)
      (pss_cons (ps_for PassesOwn.never rfl (pi_tup (pv 0)) (pg_tup rfl (pgs_cons (pg_name (i := 2) sc_ends_of.nd rfl (.inl rfl)) (pgs_cons (pg_name (i := 3) sc_ends_of.nd rfl (.inl rfl)) (pgs_cons (pg_name (i := 4) sc_ends_of.nd rfl (.inl rfl)) pgs_nil)))) (pss_one (ps_expr (pe_bm PySem.F.plainAttrs_list PySem.F.slot_list_append PySem.F.type_list_append mt_append (pe_dsetdT hu (pv 1) (pe_tup (pa_cons (pv 2) (pa_cons (pv 3) pa_nil))) (pe_lst pa_nil) ⟨rfl, rfl, rfl, rfl⟩) (pa_cons (pv 4) pa_nil)))))
      (pss_one (ps_ret (pv 1))))), ?_⟩
    have lens : (as.map V.ref).length = ss.length := by rw [List.length_map, tr.1]
    intro d hd
    have s0 := Same.new (o := .dT []) hd
    refine ⟨.ref tb, rfl, tb, rfl, ⟨_, SqT.same s0 sq⟩, ?_⟩
    refine for_tup (xs := as.map V.ref) (fun i σ G => ∃ (y2 y3 y4 : Option V) (kvs : List (List Key × V)), σ = [some (.ref tb), some (.ref d), y2, y3, y4] ∧ Same H G ∧ G d = some (.dT kvs) ∧ kvs.length ≤ i ∧ (ss.take i).length ≤ i ∧ EndsK H G kvs (ss.take i))
      ⟨none, none, none, [], rfl, s0, upd_same, Nat.le_refl _, by simp, ⟨fun k v e => (by cases e), fun s l _ => rfl, fun k k' la e => (by cases e)⟩⟩ (fun i σ G _ ⟨_, _, _, _, _, sG, _⟩ => SqT.same sG sq) ?_ ?_
    · rintro i x σ G hx ⟨y2, y3, y4, kvs, rfl, sG, gD, lk, lt, EK⟩
      have il : i < ss.length := by
        have := (List.getElem?_eq_some_iff.mp hx).1
        rw [lens] at this
        exact this
      obtain ⟨a, q, rfl, ha, hq, at0⟩ := tr.nth hx
      have at_ := sG _ _ at0
      have nx : ss.take (i + 1) = ss.take i ++ [q] := by rw [List.take_add_one, hq]; rfl
      refine ⟨a, _, rfl, SqT.of at_, rfl, .int q.1, _, rfl, .int q.2.1, _, rfl, .int q.2.2, _, rfl, rfl, ?_⟩
      refine ⟨.ref d, rfl, d, rfl, .inr ⟨kvs, .inl gD⟩, .int q.1, rfl, .int q.2.1, rfl, by show 2 ≤ sizeLine; decide, fun kt hkt => ⟨Nat.zero_le _, fun ql hql => ?_⟩⟩
      have s1 := Same.new (o := .tup [.int q.1, .int q.2.1]) hkt
      have s2 := Same.new (o := .lst []) hql
      have kt2 := s2 _ _ (upd_same (H := G) (a := kt) (o := .tup [.int q.1, .int q.2.1]))
      have gD2 := s2 _ _ (s1 _ _ gD)
      have gq2 : (upd (upd G kt (.tup [.int q.1, .int q.2.1])) ql (.lst [])) ql = some (.lst []) := upd_same
      have s12 := s1.trans s2
      have qn : H ql = none := sG.free (s1.free hql)
      have qd : ql ≠ d := fun e => by rw [e] at hql; rw [s1 _ _ gD] at hql; cases hql
      have sG2 := sG.trans s12
      have EK2 : EndsK H (upd (upd G kt (.tup [.int q.1, .int q.2.1])) ql (.lst [])) kvs (ss.take i) := ⟨fun k v e => by
        obtain ⟨s', l', la, e1, e2, e3, e4⟩ := EK.one k v e
        exact ⟨s', l', la, e1, e2, e3, s12 _ _ e4⟩, EK.no, EK.inj⟩
      have old : ∀ k la, valV kvs k = some (.ref la) → la ≠ ql := fun k la e z => by
        obtain ⟨s', l', la', e1, e2, e3, e4⟩ := EK.one k _ e
        cases e2
        rw [z] at e4
        rw [s1 _ _ e4] at hql
        cases hql
      generalize upd (upd G kt (.tup [.int q.1, .int q.2.1])) ql (.lst []) = G2 at s12 kt2 gD2 gq2 sG2 EK2
      have dl : ∀ k la, valV kvs k = some (.ref la) → la ≠ d := fun k la e z => by
        obtain ⟨s', l', la', e1, e2, e3, e4⟩ := EK2.one k _ e
        cases e2
        rw [z] at e4
        have e5 := gD2.symm.trans e4
        cases e5
      refine ⟨kvs, kSL q.1 q.2.1, kt, gD2, rfl, kt2, small1000 (by omega), fun v hv => ?_, fun hn => ?_⟩
      · obtain ⟨s', l', la, e1, rfl, e3, e4⟩ := EK2.one _ _ hv
        obtain ⟨rfl, rfl⟩ := kSL_inj e1
        have bl : (begS (ss.take i) q.1 q.2.1).length ≤ 1000 := by
          unfold begS
          rw [List.length_map]
          have := List.length_filter_le (fun p : T3 => decide (p.1 = q.1) && decide (p.2.1 = q.2.1)) (ss.take i)
          omega
        refine ⟨.inl ⟨rfl, _, SqL.of e4⟩, .int q.2.2, rfl, la, _, _, rfl, rfl, e4, by rw [List.length_map]; exact small1000 (by have := bl; unfold begS at *; rw [List.length_map] at *; have := List.length_filter_le (fun p : T3 => decide (p.1 = q.1) && decide (p.2.1 = q.2.1)) (ss.take i); omega), ?_⟩
        refine ⟨_, _, _, kvs, rfl, fun b o e => by rw [upd_ne (ne_of_none e e3)]; exact sG2 _ _ e, by rw [upd_ne (dl _ _ hv).symm]; exact gD2, by omega, by rw [List.length_take]; omega, ?_⟩
        rw [nx]
        refine ⟨fun k v e => ?_, fun s2 l2 e => ?_, EK2.inj⟩
        · obtain ⟨s2, l2, la2, f1, f2, f3, f4⟩ := EK2.one k v e
          refine ⟨s2, l2, la2, f1, f2, f3, ?_⟩
          rw [begS_snoc]
          by_cases c : la2 = la
          · subst c
            rw [f2] at e
            have kk := EK2.inj _ _ _ e hv
            rw [f1] at kk
            obtain ⟨rfl, rfl⟩ := kSL_inj kk
            show _ = _
            rw [upd_same, decide_eq_true rfl, decide_eq_true rfl, List.map_append]
            rfl
          · show _ = _
            have nk : ¬ (q.1 = s2 ∧ q.2.1 = l2) := fun z => by
              obtain ⟨z1, z2⟩ := z
              rw [f1, ← z1, ← z2] at e
              rw [hv] at e
              rw [f2] at e
              exact c (V.ref.inj (Option.some.inj e)).symm
            rw [upd_ne c, if_neg (by rw [Bool.and_eq_true, decide_eq_true_eq, decide_eq_true_eq]; exact nk), List.append_nil]
            exact f4
        · rw [begS_snoc, EK2.no s2 l2 e]
          have nk : ¬ (q.1 = s2 ∧ q.2.1 = l2) := fun z => by
            obtain ⟨z1, z2⟩ := z
            rw [← z1, ← z2, hv] at e
            cases e
          rw [if_neg (by rw [Bool.and_eq_true, decide_eq_true_eq, decide_eq_true_eq]; exact nk)]
          rfl
      · have e0 := EK2.no _ _ hn
        have gq3 : (upd G2 d (.dT (putK kvs (kSL q.1 q.2.1) (.ref ql)))) ql = some (.lst []) := by rw [upd_ne qd]; exact gq2
        refine ⟨.inl ⟨rfl, _, SqL.of gq3⟩, .int q.2.2, rfl, ql, _, _, rfl, rfl, gq3, by show 0 < sizeLine; decide, ?_⟩
        refine ⟨_, _, _, putK kvs (kSL q.1 q.2.1) (.ref ql), rfl, fun b o e => by rw [upd_ne (ne_of_none e qn), upd_ne (ne_of_none e hd)]; exact sG2 _ _ e, by rw [upd_ne qd.symm, upd_same], by have := length_putK kvs (kSL q.1 q.2.1) (.ref ql); omega, by rw [List.length_take]; omega, ?_⟩
        rw [nx]
        refine ⟨fun k v e => ?_, fun s2 l2 e => ?_, fun k k' la e e' => ?_⟩
        · rw [valV_put] at e
          by_cases c : k = kSL q.1 q.2.1
          · rw [if_pos c] at e
            cases e
            refine ⟨q.1, q.2.1, ql, c, rfl, qn, ?_⟩
            show _ = _
            rw [upd_same, begS_snoc, e0, decide_eq_true rfl, decide_eq_true rfl]
            rfl
          · rw [if_neg c] at e
            obtain ⟨s2, l2, la2, f1, f2, f3, f4⟩ := EK2.one k v e
            refine ⟨s2, l2, la2, f1, f2, f3, ?_⟩
            rw [f2] at e
            have nk : ¬ (q.1 = s2 ∧ q.2.1 = l2) := fun z => by
              obtain ⟨z1, z2⟩ := z
              rw [f1, ← z1, ← z2] at c
              exact c rfl
            show _ = _
            rw [upd_ne (old _ _ e), upd_ne (dl _ _ e), begS_snoc, if_neg (by rw [Bool.and_eq_true, decide_eq_true_eq, decide_eq_true_eq]; exact nk), List.append_nil]
            exact f4
        · rw [valV_put] at e
          by_cases c : kSL s2 l2 = kSL q.1 q.2.1
          · rw [if_pos c] at e
            cases e
          · rw [if_neg c] at e
            rw [begS_snoc, EK2.no s2 l2 e]
            have nk : ¬ (q.1 = s2 ∧ q.2.1 = l2) := fun z => by
              obtain ⟨z1, z2⟩ := z
              rw [← z1, ← z2] at c
              exact c rfl
            rw [if_neg (by rw [Bool.and_eq_true, decide_eq_true_eq, decide_eq_true_eq]; exact nk)]
            rfl
        · rw [valV_put] at e e'
          by_cases c : k = kSL q.1 q.2.1
          · by_cases c' : k' = kSL q.1 q.2.1
            · rw [c, c']
            · rw [if_pos c] at e
              rw [if_neg c'] at e'
              cases e
              exact absurd rfl (old _ _ e')
          · by_cases c' : k' = kSL q.1 q.2.1
            · rw [if_neg c] at e
              rw [if_pos c'] at e'
              cases e'
              exact absurd rfl (old _ _ e)
            · rw [if_neg c] at e
              rw [if_neg c'] at e'
              exact EK2.inj _ _ _ e e'
    · rintro σ G ⟨y2, y3, y4, kvs, rfl, sG, gD, lk, lt, EK⟩
      rw [lens, List.take_length] at EK
      exact ⟨_, rfl, k d G sG (EK.at_ gD)⟩
def spFol (K : PySem.W.Frag) (WC : Addr) : Sp := fun vs H Q _ => ∃ (H0 : Hp) (p dx : Addr) (l f : Int) (ta tb d : Addr) (ras as : List Addr) (Xs : List (List Int)) (ss : List T3) (x y : Int), vs = [.ref p, .int x, .int y] ∧ WoE K WC H0 H p dx l f ta tb d ras as Xs ss ∧
  ∀ b H', Same H H' → H b = none → IL H' b (begS ss x y) → Q (.ref b) H'
theorem ok_followers {f : Addr} {fd : FuncData} (FF : Fun K "followers" "followers" s_followers f fd) (T : Txt K mg C J B) (TC : TxtC K WC) : FnOk P w K mg base CX0 1 f fd a_followers (spFol K WC) := by
  refine FF.ok sc_followers (fun vs H Q E h => ?_) (fun cdv A outer s H vs Q E hr h => ?_)
  · obtain ⟨H0, p, dx, l, f, ta, tb, d, ras, as, Xs, ss, x, y, rfl, _⟩ := h
    rfl
  · obtain ⟨H0, p, dx, l, f, ta, tb, d, ras, as, Xs, ss, x, y, rfl, W, k⟩ := h
    have hu := hu_of hr
    refine ⟨_, (pss_one (ps_ret (pe_callTy call_list_of rfl T.z_list (by decide +kernel) (pa_cons (pe_dget2 hu (pe_fld (pv 0) rfl) (pe_tup (pa_cons (pv 1) (pa_cons (pv 2) pa_nil))) (pe_lst pa_nil) ⟨rfl, rfl, rfl, rfl⟩) pa_nil)))), ?_⟩
    obtain ⟨kvs, gD, en⟩ := W.en
    refine ⟨.ref p, rfl, p, WC, dx, _, .ref d, rfl, W.ob, TC.cl, TC.nE, rfl, d, rfl, .inr ⟨kvs, .inl gD⟩, .int x, rfl, .int y, rfl, by show 2 ≤ sizeLine; decide, fun kt hkt => ⟨Nat.zero_le _, fun ql hql => ?_⟩⟩
    have s1 := Same.new (o := .tup [.int x, .int y]) hkt
    have s2 := Same.new (o := .lst []) hql
    have kt2 := s2 _ _ (upd_same (H := H) (a := kt) (o := .tup [.int x, .int y]))
    have gD2 := s2 _ _ (s1 _ _ gD)
    have s12 := s1.trans s2
    rcases en x y with ⟨la, e1, _, e2⟩ | ⟨e1, e2⟩
    · refine ⟨some (.ref la), ?_, la, _, rfl, .inl (SqL.of (s12 _ _ e2)), fun b hb => ?_⟩
      · rw [← e1]
        exact DGet.t gD2 kt2
      · exact k b _ (s12.trans (Same.new hb)) (s12.free hb) (by show _ = _; rw [upd_same])
    · refine ⟨none, ?_, ql, _, rfl, .inl (SqL.of upd_same), fun b hb => ?_⟩
      · rw [← e1]
        exact DGet.t gD2 kt2
      · exact k b _ (s12.trans (Same.new hb)) (s12.free hb) (by show _ = _; rw [upd_same, e2]; rfl)
end
end Fw

set_option maxRecDepth 100000
set_option maxHeartbeats 8000000
namespace Fw
open PySem PySem.Spec PyProof.Rows L2 GxR
abbrev rTupOf (K : PySem.W.Frag) : List V → Hp → VK → Prop := fun xs H Q => ∃ p ys, xs = [.ref p] ∧ ((SqL K H p ys ∧ ∀ l, H l = none → Q (.ref l) (upd H l (.tup ys))) ∨ (SqT K H p ys ∧ Q (.ref p) H))
abbrev rListOf (K : PySem.W.Frag) : List V → Hp → VK → Prop := fun xs H Q => ∃ p ys, xs = [.ref p] ∧ (SqL K H p ys ∨ SqT K H p ys) ∧ ∀ l, H l = none → Q (.ref l) (upd H l (.lst ys))
theorem FAt.same {H H' : Hp} {as : List Addr} {Xs : List (List Int)} (s : Same H H') (h : FAt H as Xs) : FAt H' as Xs := ⟨h.1, fun i a X e1 e2 => s _ _ (h.2 i a X e1 e2)⟩
theorem PAt.same {H H' : Hp} {as : List Addr} {ts : List T3} (s : Same H H') (h : PAt H as ts) : PAt H' as ts := ⟨h.1, fun i a X e1 e2 => s _ _ (h.2 i a X e1 e2)⟩
theorem RAt.same {K : PySem.W.Frag} {H H' : Hp} {as : List Addr} {Xs : List (List Int)} (s : Same H H') (h : RAt K H as Xs) : RAt K H' as Xs := ⟨h.1, fun i a X e1 e2 => SqT.same s (h.2 i a X e1 e2)⟩
theorem FAt.nth {H : Hp} {as : List Addr} {Xs : List (List Int)} (h : FAt H as Xs) {i : Nat} {x : V} (e : (as.map V.ref)[i]? = some x) : ∃ a X, x = .ref a ∧ as[i]? = some a ∧ Xs[i]? = some X ∧ IL H a X := by
  rw [List.getElem?_map] at e
  cases q : as[i]? with
  | none => rw [q] at e; cases e
  | some a =>
    rw [q] at e
    have il : i < Xs.length := by rw [← h.1]; exact (List.getElem?_eq_some_iff.mp q).1
    exact ⟨a, Xs[i], (Option.some.inj e).symm, rfl, List.getElem?_eq_getElem il, h.2 i a _ q (List.getElem?_eq_getElem il)⟩
/-- what was there is there, but for the object at p -/
theorem but_new {p q : Addr} {H G : Hp} {o : HO} (b : But p H G) (h : G q = none) : But p H (upd G q o) := fun a u n e => by
  have := b a u n e
  rw [upd_ne (ne_of_none this h)]
  exact this
theorem SqT.butO {K : PySem.W.Frag} {H H' : Hp} {a d : Addr} {xs : List V} {C dx : Addr} {fs : List (Str × V)} (hd : H d = some (.ins C dx fs)) (s : But d H H') (h : SqT K H a xs) : SqT K H' a xs := by
  rcases h with h | h
  · rcases h with h | ⟨u, h⟩
    · exact .inl (.inl (s _ _ (ne_of h hd (by intro z; cases z)) h))
    · exact .inl (.inr ⟨u, s _ _ (ne_of h hd (by intro z; cases z)) h⟩)
  · exact .inr h
theorem PAt.butO {H H' : Hp} {as : List Addr} {ts : List T3} {d C dx : Addr} {fs : List (Str × V)} (hd : H d = some (.ins C dx fs)) (s : But d H H') (h : PAt H as ts) : PAt H' as ts :=
  ⟨h.1, fun i a p e1 e2 => s _ _ (ne_of (h.2 i a p e1 e2) hd (by intro z; cases z)) (h.2 i a p e1 e2)⟩
theorem RAt.butO {K : PySem.W.Frag} {H H' : Hp} {as : List Addr} {Xs : List (List Int)} {d C dx : Addr} {fs : List (Str × V)} (hd : H d = some (.ins C dx fs)) (s : But d H H') (h : RAt K H as Xs) : RAt K H' as Xs :=
  ⟨h.1, fun i a X e1 e2 => SqT.butO hd s (h.2 i a X e1 e2)⟩
theorem EndsAt.butO {H0 H H' : Hp} {ss : List T3} {e d C dx : Addr} {fs : List (Str × V)} (hd : H d = some (.ins C dx fs)) (s : But d H H') (h : EndsAt H0 H e ss) : EndsAt H0 H' e ss :=
  h.map (fun kvs q => s _ _ (ne_of q hd (by intro z; cases z)) q) fun a xs _ q => s _ _ (ne_of q hd (by intro z; cases z)) q
/-- triples at addresses that came out of a sort -/
theorem trips_back {H : Hp} {as : List Addr} {ts : List T3} (h : PAt H as ts) : ∃ k : V → T3, ∀ (a : Addr) (p : T3) (i : Nat), as[i]? = some a → ts[i]? = some p → k (.ref a) = p := by
  refine ⟨fun v => match v with | .ref a => (match H a with | some (.tup [.int x, .int y, .int z]) => (x, y, z) | _ => (0, 0, 0)) | _ => (0, 0, 0), fun a p i e1 e2 => ?_⟩
  show (match H a with | some (.tup [.int x, .int y, .int z]) => (x, y, z) | _ => (0, 0, 0)) = p
  rw [h.2 i a p e1 e2]
/-! ### a list or a tuple -/
def IsSq (K : PySem.W.Frag) (H : Hp) (a : Addr) (xs : List V) (It : It) : Prop := (It = Itl K a ∧ SqL K H a xs) ∨ (It = Itt K a ∧ SqT K H a xs)
def iSq (K : PySem.W.Frag) (tl : TE) : TI := fun σ H R => tl σ H fun x H1 => ∃ a xs, x = .ref a ∧ Sq K H1 a xs ∧ ∀ It, IsSq K H1 a xs It → R It H1
theorem pi_sq {X : Cx} {tg l : Expr} {tl : TE} (hl : PE X l tl) : PI X tg l (iSq X.K tl) := by
  have hv : PE X l tl := hl
  refine ⟨fun pins s σ H R I h => ?_⟩
  have key := hv.run pins s σ H _ I h
  refine thn key fun v s1 ⟨x, H1, I1, r1, q1⟩ => ?_
  obtain ⟨a, xs, e, hs, q⟩ := q1
  subst e
  cases r1
  rcases hs with hq | hq
  · obtain ⟨its, rv, p, hz⟩ := I1.list hq
    refine wpAny_pyIter_list p.isList ?_
    refine ⟨s1.heap.objs.size, [s1.heap.objs.size], _, _, H1, rfl, I1.kept (t' := s1.toks) fun b o e => Heap.get?_push_of_some _ e, turn_list a _, ⟨_, Heap.get?_push_size _ rfl, rfl, rfl⟩, fun b hb => ?_, q _ (.inl ⟨rfl, hq⟩)⟩
    have e : b = s1.heap.objs.size := by simpa using hb
    subst e
    exact I1.fpOk (Nat.le_refl _) (I1.hok.fresh (Nat.le_refl _))
  · obtain ⟨its, rv, p, hz⟩ := I1.tuple hq
    refine wpAny_pyIter_tuple (show s1.heap.IsTuple a its.toArray from p) ?_
    refine ⟨s1.heap.objs.size, [s1.heap.objs.size], _, _, H1, rfl, I1.kept (t' := s1.toks) fun b o e => Heap.get?_push_of_some _ e, turn_tuple a _, ⟨_, Heap.get?_push_size _ rfl, rfl, rfl⟩, fun b hb => ?_, q _ (.inr ⟨rfl, hq⟩)⟩
    have e : b = s1.heap.objs.size := by simpa using hb
    subst e
    exact I1.fpOk (Nat.le_refl _) (I1.hok.fresh (Nat.le_refl _))
theorem lc_sq {K : PySem.W.Frag} {It : It} {a : Addr} {xs : List V} {g : TG} {tt : TT} {te : TE} {vs : List Nat} {σ : L2.St} {H0 H1 : Hp} {D : Addr} {Qd : Hp → Prop} (hIt : IsSq K H0 a xs It) (Pv : Nat → Hp → Prop) (h0 : Pv 0 (upd H1 D (.lst []))) (hk : ∀ i H, Pv i H → Same H0 H)
    (hs : ∀ i x H, xs[i]? = some x → Pv i H → g x (wipe σ vs) H fun σ2 H2 => wipe σ2 vs = wipe σ vs ∧ tt σ2 H2 fun b H3 =>
      if b = true then te σ2 H3 fun y H4 => ∃ acc, H4 D = some (.lst acc) ∧ acc.length < sizeLine ∧ Pv (i + 1) (upd H4 D (.lst (acc ++ [y]))) else Pv (i + 1) H3) (hd : ∀ H, Pv xs.length H → Qd H) :
    ∃ W : Nat → Nat → Hp → Prop, (∃ m, W 0 m (upd H1 D (.lst []))) ∧ ∀ i m H, W i m H →
      (It.stop i H ∧ Qd H) ∨ (It.go i H ∧ ∃ Nx : Hp → Prop, (∀ H', Nx H' → ∃ m', m' < m ∧ W (i + 1) m' H') ∧ ∀ x H', It.yld i H x H' → g x (wipe σ vs) H' fun σ2 H2 => wipe σ2 vs = wipe σ vs ∧ tt σ2 H2 fun b H3 =>
        if b = true then te σ2 H3 fun y H4 => ∃ acc, H4 D = some (.lst acc) ∧ acc.length < sizeLine ∧ Nx (upd H4 D (.lst (acc ++ [y]))) else Nx H3) := by
  rcases hIt with ⟨rfl, h⟩ | ⟨rfl, h⟩
  · exact lc_list Pv h0 (fun i H _ q => SqL.keepAt (fun o e => hk i H q _ o e) h) hs hd
  · exact lc_tup Pv h0 (fun i H _ q => SqT.same (hk i H q) h) hs hd
def FAtS (K : PySem.W.Frag) (H : Hp) (as : List Addr) (Xs : List (List Int)) : Prop := as.length = Xs.length ∧ ∀ (i : Nat) (a : Addr) (X : List Int), as[i]? = some a → Xs[i]? = some X → Sq K H a (X.map V.int)
theorem FAtS.same {K : PySem.W.Frag} {H H' : Hp} {as : List Addr} {Xs : List (List Int)} (s : Same H H') (h : FAtS K H as Xs) : FAtS K H' as Xs := ⟨h.1, fun i a X e1 e2 => (h.2 i a X e1 e2).same s⟩
theorem FAt.sq {K : PySem.W.Frag} {H : Hp} {as : List Addr} {Xs : List (List Int)} (h : FAt H as Xs) : FAtS K H as Xs := ⟨h.1, fun i a X e1 e2 => .inl (SqL.of (h.2 i a X e1 e2))⟩
theorem RAt.sq {K : PySem.W.Frag} {H : Hp} {as : List Addr} {Xs : List (List Int)} (h : RAt K H as Xs) : FAtS K H as Xs := ⟨h.1, fun i a X e1 e2 => .inr (h.2 i a X e1 e2)⟩
theorem FAtS.nth {K : PySem.W.Frag} {H : Hp} {as : List Addr} {Xs : List (List Int)} (h : FAtS K H as Xs) {i : Nat} {x : V} (e : (as.map V.ref)[i]? = some x) : ∃ a X, x = .ref a ∧ as[i]? = some a ∧ Xs[i]? = some X ∧ Sq K H a (X.map V.int) := by
  rw [List.getElem?_map] at e
  cases q : as[i]? with
  | none => rw [q] at e; cases e
  | some a =>
    rw [q] at e
    have il : i < Xs.length := by rw [← h.1]; exact (List.getElem?_eq_some_iff.mp q).1
    exact ⟨a, Xs[i], (Option.some.inj e).symm, rfl, List.getElem?_eq_getElem il, h.2 i a _ q (List.getElem?_eq_getElem il)⟩
theorem Sq.butO {K : PySem.W.Frag} {H H' : Hp} {a d : Addr} {xs : List V} {C dx : Addr} {fs : List (Str × V)} (hd : H d = some (.ins C dx fs)) (s : But d H H') (h : Sq K H a xs) : Sq K H' a xs := by
  rcases h with h | h
  · rcases h with h | h
    · rcases h with h | ⟨u, h⟩
      · exact .inl (.inl (.inl (s _ _ (ne_of h hd (by intro z; cases z)) h)))
      · exact .inl (.inl (.inr ⟨u, s _ _ (ne_of h hd (by intro z; cases z)) h⟩))
    · exact .inl (.inr h)
  · exact .inr (SqT.butO hd s h)
section
variable {P : Program} {w : World} {K : PySem.W.Frag} {mg : Str → Option Value} {base : Heap} {C J B NC WC cA tA : Addr} {t1 t2 t3 : Tok}
def okWorld (l f : Int) (Xs : List (List Int)) (ss : List T3) : Bool := okNums l f && (okRows f Xs && okSteps l Xs.length ss)
def But2 (p q : Addr) (H H' : Hp) : Prop := ∀ b o, b ≠ p → b ≠ q → H b = some o → H' b = some o
def spWInit (K : PySem.W.Frag) (NC WC tA : Addr) : Sp := fun vs H Q E => ∃ (p dx : Addr) (l f : Int) (sa pa : Addr) (ras0 as0 : List Addr) (Xs : List (List Int)) (ps : List T3), vs = [.ref p, .int l, .int f, .ref sa, .ref pa] ∧ H p = some (.ins WC dx []) ∧
  Sq K H sa (ras0.map V.ref) ∧ FAtS K H ras0 Xs ∧ Sq K H pa (as0.map V.ref) ∧ PAt H as0 ps ∧ TabG H tA ∧ Xs.length ≤ 1000 ∧ (∀ X ∈ Xs, X.length ≤ 1000) ∧ ps.length ≤ 1000 ∧
  (∀ (ss : List T3) (ta tb d : Addr) (ras as : List Addr) H', (ss.Pairwise fun x y => lex3 y x = false) → ss.Perm ps → okWorld l f Xs ss = true → But2 p tA H H' → TabG H' tA → WoE K WC H H' p dx l f ta tb d ras as Xs ss → Q .non H') ∧
  (∀ (ss : List T3), (ss.Pairwise fun x y => lex3 y x = false) → ss.Perm ps → okWorld l f Xs ss = false → ∀ H', E (.ref NC) none H')
theorem ok_World_init {f : Addr} {fd : FuncData} (FF : Fun K "__init__" "World.__init__" s_World_init f fd) (T : Txt K mg C J B) (TC : TxtC K WC)
    (h_check_numbers : HasX P w K mg base "check_numbers" 2 a_check_numbers (spCkN NC)) (h_check_states : HasX P w K mg base "check_states" 5 a_check_states (spCkS K NC WC tA)) (h_check_steps : HasX P w K mg base "check_steps" 5 a_check_steps (spCkT K NC WC tA))
    (h_ends_of : Has P w K mg base "ends_of" 1 a_ends_of (spEnds K)) : FnOk P w K mg base (L2.CX P w) 6 f fd a_World_init (spWInit K NC WC tA) := by
  refine FF.okX sc_World_init (fun vs H Q E h => ?_) (fun cdv A outer s H vs Q E hr h => ?_)
  · obtain ⟨p, dx, l, f, sa, pa, ras0, as0, Xs, ps, rfl, _⟩ := h
    rfl
  · obtain ⟨p, dx, l, f, sa, pa, ras0, as0, Xs, ps, rfl, hp, hsa, fat, hpa, pat, tg, xs1, xs2, ps1, k1, k2⟩ := h
    refine ⟨_, (pss_cons (ps_fld (pv 0) (pv 1) rfl)
      (pss_cons (ps_fld (pv 0) (pv 2) rfl)
      (pss_cons (ps_fld (pv 0) (pe_callTy call_tuple_of rfl T.z_tuple (by decide +kernel) (pa_cons (pe_lc (own := [("row", 5)]) (g := gName 5) rfl sc_World_init.nd (pi_sq (pv 3)) (blkOk_by (own := [("row", 5)]) (N := n_World_init) (sc := defScope s_World_init) (by decide +kernel)) (fun _ _ _ _ _ => (pg_name (i := 5) sc_World_init.nd rfl (.inl rfl))) (fun _ _ _ _ _ => pts_nil) (fun _ _ _ _ _ => (pe_callTy (@id (CallR _ (.type "tuple") (rTupOf K)) call_tuple_of) rfl T.z_tuple (by decide +kernel) (pa_cons (pv 5) pa_nil)))) pa_nil)) rfl)
      (pss_cons (ps_fld (pv 0) (pe_callTy call_tuple_of rfl T.z_tuple (by decide +kernel) (pa_cons (pe_callB cr_sorted3 rfl T.z_sorted (by decide +kernel) (pa_cons (pe_lc (own := [("step", 6)]) (g := gName 6) rfl sc_World_init.nd (pi_sq (pv 4)) (blkOk_by (own := [("step", 6)]) (N := n_World_init) (sc := defScope s_World_init) (by decide +kernel)) (fun _ _ _ _ _ => (pg_name (i := 6) sc_World_init.nd rfl (.inl rfl))) (fun _ _ _ _ _ => pts_nil) (fun _ _ _ _ _ => (pe_callTy (@id (CallR _ (.type "tuple") (rTupOf K)) call_tuple_of) rfl T.z_tuple (by decide +kernel) (pa_cons (pv 6) pa_nil)))) pa_nil)) pa_nil)) rfl)
      (pss_cons (ps_expr (pe_callX h_check_numbers (hr.mono (by omega)) (takes_of rfl rfl rfl rfl) (pa_cons (pv 1) (pa_cons (pv 2) pa_nil))))
      (pss_cons (ps_expr (pe_callX h_check_states (hr.mono (by omega)) (takes_of rfl rfl rfl rfl) (pa_cons (pv 0) pa_nil)))
      (pss_cons (ps_expr (pe_callX h_check_steps (hr.mono (by omega)) (takes_of rfl rfl rfl rfl) (pa_cons (pv 0) pa_nil)))
      (PSs.nox (pss_one (ps_fld (pv 0) (pe_callH h_ends_of (hr.mono (by omega)) (pa_cons (pe_fld (pv 0) rfl) pa_nil)) rfl)))))))))), ?_⟩
    refine ⟨.int l, rfl, .ref p, rfl, p, WC, dx, [], rfl, hp, TC.cl, TC.nL, by show 0 < 1000; decide, ?_⟩
    refine ⟨.int f, rfl, .ref p, rfl, p, WC, dx, _, rfl, upd_same, TC.cl, TC.nF, by show 1 < 1000; decide, ?_⟩
    have bu2 : But p H (upd (upd H p (.ins WC dx (putF "labels" (V.int l) []))) p (.ins WC dx (putF "facts" (V.int f) (putF "labels" (V.int l) [])))) := (But.upd).trans But.upd
    have g2 : (upd (upd H p (.ins WC dx (putF "labels" (V.int l) []))) p (.ins WC dx (putF "facts" (V.int f) (putF "labels" (V.int l) [])))) p = some (.ins WC dx [("labels", .int l), ("facts", .int f)]) := by rw [upd_same]; rfl
    generalize upd (upd H p (.ins WC dx (putF "labels" (V.int l) []))) p (.ins WC dx (putF "facts" (V.int f) (putF "labels" (V.int l) []))) = G2 at bu2 g2
    have ntA : tA ≠ p := fun e => by obtain ⟨qs, q, _⟩ := tg; rw [e, hp] at q; cases q
    have fat2 : FAtS K G2 ras0 Xs := ⟨fat.1, fun i a X e1 e2 => Sq.butO hp bu2 (fat.2 i a X e1 e2)⟩
    have pat2 : PAt G2 as0 ps := pat.butO hp bu2
    have tg2 : TabG G2 tA := by obtain ⟨qs, q, t⟩ := tg; exact ⟨qs, bu2 _ _ ntA q, t⟩
    have hsa2 := Sq.butO hp bu2 hsa
    have hpa2 := Sq.butO hp bu2 hpa
    -- the rows
    refine ⟨.ref sa, rfl, sa, _, rfl, hsa2, fun It hIt D hD => ?_⟩
    have nDp : D ≠ p := fun e => by rw [e, g2] at hD; cases hD
    refine lc_sq hIt (fun i G => ∃ ras : List Addr, Same G2 G ∧ G D = some (.lst (ras.map V.ref)) ∧ RAt K G ras (Xs.take i)) ⟨[], Same.new hD, upd_same, by simp [RAt]⟩ (fun i G ⟨_, sG, _⟩ => sG) ?_ ?_
    · rintro i x G hx ⟨ras, sG, gD, rat⟩
      obtain ⟨a, X, rfl, ha, hX, il⟩ := (fat2.same sG).nth hx
      have lt : i < Xs.length := (List.getElem?_eq_some_iff.mp hX).1
      rcases il with il | il
      · refine ⟨rfl, .ref a, rfl, a, _, rfl, .inl ⟨il, fun q hq => ?_⟩⟩
        have s1 := Same.new (o := .tup (X.map V.int)) hq
        have nD : q ≠ D := fun e => by rw [e, gD] at hq; cases hq
        refine ⟨_, s1 _ _ gD, by rw [List.length_map, rat.1, List.length_take]; exact small1000 (by omega), ras ++ [q], fun b o e => by rw [upd_ne (ne_of_none e hD)]; exact s1 _ _ (sG b o e), by rw [upd_same, List.map_append]; rfl, ?_⟩
        rw [List.take_add_one, hX, Option.toList_some]
        have sD : ∀ b ys, SqT K (upd G q (.tup (X.map V.int))) b ys → SqT K (upd (upd G q (.tup (X.map V.int))) D (.lst (ras.map V.ref ++ [.ref q]))) b ys := fun b ys e => SqT.lk (LKp.upd (s1 _ _ gD)) e
        refine ⟨by rw [List.length_append, List.length_append, rat.1]; rfl, fun j b Y e1 e2 => ?_⟩
        rcases get_snoc e1 with e1' | ⟨z1, rfl⟩
        · rcases get_snoc e2 with e2' | ⟨z2, rfl⟩
          · exact sD _ _ (SqT.same s1 (rat.2 j b Y e1' e2'))
          · have := get_len e1'; rw [rat.1] at this; omega
        · rcases get_snoc e2 with e2' | ⟨z2, rfl⟩
          · have := get_len e2'; rw [← rat.1] at this; omega
          · exact sD _ _ (SqT.of upd_same)
      · refine ⟨rfl, .ref a, rfl, a, _, rfl, .inr ⟨il, ?_⟩⟩
        refine ⟨_, gD, by rw [List.length_map, rat.1, List.length_take]; exact small1000 (by omega), ras ++ [a], fun b o e => by rw [upd_ne (ne_of_none e hD)]; exact sG b o e, by rw [upd_same, List.map_append]; rfl, ?_⟩
        rw [List.take_add_one, hX, Option.toList_some]
        have sD : ∀ b ys, SqT K G b ys → SqT K (upd G D (.lst (ras.map V.ref ++ [.ref a]))) b ys := fun b ys e => SqT.lk (LKp.upd gD) e
        refine ⟨by rw [List.length_append, List.length_append, rat.1]; rfl, fun j b Y e1 e2 => ?_⟩
        rcases get_snoc e1 with e1' | ⟨z1, rfl⟩
        · rcases get_snoc e2 with e2' | ⟨z2, rfl⟩
          · exact sD _ _ (rat.2 j b Y e1' e2')
          · have := get_len e1'; rw [rat.1] at this; omega
        · rcases get_snoc e2 with e2' | ⟨z2, rfl⟩
          · have := get_len e2'; rw [← rat.1] at this; omega
          · exact sD _ _ il
    rintro G3 ⟨ras, s3, gD, rat⟩
    rw [List.length_map, fat.1, List.take_length] at rat
    refine ⟨D, _, rfl, .inl ⟨SqL.of gD, fun ta hta => ?_⟩⟩
    have s4 := Same.new (o := .tup (ras.map V.ref)) hta
    have s24 := s3.trans s4
    have nta : ta ≠ p := fun e => by rw [e, s3 _ _ g2] at hta; cases hta
    refine ⟨.ref p, rfl, p, WC, dx, _, rfl, s24 _ _ g2, TC.cl, TC.nS, by show 2 < 1000; decide, ?_⟩
    have bu5 : But p (upd G3 ta (.tup (ras.map V.ref))) (upd (upd G3 ta (.tup (ras.map V.ref))) p (.ins WC dx (putF "states" (V.ref ta) [("labels", .int l), ("facts", .int f)]))) := But.upd
    have g5 : (upd (upd G3 ta (.tup (ras.map V.ref))) p (.ins WC dx (putF "states" (V.ref ta) [("labels", .int l), ("facts", .int f)]))) p = some (.ins WC dx [("labels", .int l), ("facts", .int f), ("states", .ref ta)]) := by rw [upd_same]; rfl
    have st4 : SqT K (upd G3 ta (.tup (ras.map V.ref))) ta (ras.map V.ref) := SqT.of upd_same
    have st5 := SqT.butO (s24 _ _ g2) bu5 st4
    have rat5 := (rat.same s4).butO (s24 _ _ g2) bu5
    have pat5 := (pat2.same s24).butO (s24 _ _ g2) bu5
    have hpa5 := Sq.butO (s24 _ _ g2) bu5 (hpa2.same s24)
    have bH5 : But p H (upd (upd G3 ta (.tup (ras.map V.ref))) p (.ins WC dx (putF "states" (V.ref ta) [("labels", .int l), ("facts", .int f)]))) := (bu2.trans (Same.but s24)).trans bu5
    generalize upd (upd G3 ta (.tup (ras.map V.ref))) p (.ins WC dx (putF "states" (V.ref ta) [("labels", .int l), ("facts", .int f)])) = G5 at bu5 g5 st5 rat5 pat5 hpa5 bH5
    -- the steps
    refine ⟨.ref pa, rfl, pa, _, rfl, hpa5, fun It2 hIt2 D2 hD2 => ?_⟩
    refine lc_sq hIt2 (fun i G => Same G5 G ∧ G D2 = some (.lst ((as0.take i).map V.ref))) ⟨Same.new hD2, upd_same⟩ (fun i G ⟨sG, _⟩ => sG) ?_ ?_
    · rintro i x G hx ⟨sG, gD2⟩
      obtain ⟨a, q, rfl, ha, hq, at_⟩ := (pat5.same sG).nth hx
      have lt : i < as0.length := (List.getElem?_eq_some_iff.mp ha).1
      refine ⟨rfl, .ref a, rfl, a, _, rfl, .inr ⟨SqT.of at_, _, gD2, by rw [List.length_map, List.length_take]; exact small1000 (by have := pat.1; omega), fun b o e => by rw [upd_ne (ne_of_none e hD2)]; exact sG b o e, ?_⟩⟩
      rw [upd_same, List.take_add_one, ha, Option.toList_some, List.map_append]
      rfl
    rintro G6 ⟨s6, gD2⟩
    rw [List.length_map, List.take_length] at gD2
    have pat6 := pat5.same s6
    obtain ⟨kk, hkk⟩ := trips_back pat6
    refine ⟨D2, as0.map V.ref, kk, rfl, SqL.of gD2, fun x hx => ?_, fun ys q srt stb hq => ?_⟩
    · obtain ⟨i, hi, e⟩ := List.getElem_of_mem hx
      obtain ⟨a, r, rfl, ha, hr', at_⟩ := pat6.nth (by rw [List.getElem?_eq_getElem hi, e])
      refine ⟨a, rfl, ?_⟩
      rw [hkk a r i ha hr']
      exact at_
    have s7 := Same.new (o := .lst ys) hq
    refine ⟨q, _, rfl, .inl ⟨SqL.of upd_same, fun tb htb => ?_⟩⟩
    have s8 := Same.new (o := .tup ys) htb
    -- which triples they are
    obtain ⟨as, hys⟩ : ∃ as : List Addr, ys = as.map V.ref := by
      have mem : ∀ y ∈ ys, ∃ a, y = V.ref a := fun y hy => by
        obtain ⟨a, _, e⟩ := List.mem_map.mp (stb.perm.mem_iff.mp hy)
        exact ⟨a, e.symm⟩
      clear srt stb s7 s8 htb hq
      induction ys with
      | nil => exact ⟨[], rfl⟩
      | cons y ys ih =>
        obtain ⟨a, rfl⟩ := mem y List.mem_cons_self
        obtain ⟨as, e⟩ := ih fun z hz => mem z (List.mem_cons_of_mem _ hz)
        exact ⟨a :: as, by rw [e]; rfl⟩
    subst hys
    have perm : (as.map fun a => kk (.ref a)).Perm ps := by
      have e1 := stb.perm.map kk
      rw [List.map_map, List.map_map] at e1
      have e2 : as0.map (kk ∘ V.ref) = ps := by
        refine List.ext_getElem? fun i => ?_
        rw [List.getElem?_map]
        cases e3 : as0[i]? with
        | none =>
          have := List.getElem?_eq_none_iff.mp e3
          rw [pat.1] at this
          rw [List.getElem?_eq_none_iff.mpr this]
          rfl
        | some a =>
          have il : i < ps.length := by rw [← pat.1]; exact (List.getElem?_eq_some_iff.mp e3).1
          have e4 := List.getElem?_eq_getElem il
          rw [e4]
          exact congrArg some (hkk a _ i e3 e4)
      rw [e2] at e1
      exact e1
    have sort : (as.map fun a => kk (.ref a)).Pairwise fun x y => lex3 y x = false := by
      have e1 := List.pairwise_map.mp srt
      exact List.pairwise_map.mpr e1
    have pas : PAt G6 as (as.map fun a => kk (.ref a)) := ⟨by rw [List.length_map], fun i a r e1 e2 => by
      rw [List.getElem?_map, e1] at e2
      have e3 := (Option.some.inj e2).symm
      subst e3
      have hm : V.ref a ∈ as0.map V.ref := stb.perm.mem_iff.mp (List.mem_map.mpr ⟨a, List.mem_of_getElem? e1, rfl⟩)
      obtain ⟨j, hj, e4⟩ := List.getElem_of_mem hm
      obtain ⟨a', r', e5, ha', hr', at_⟩ := pat6.nth (by rw [List.getElem?_eq_getElem hj, e4])
      cases e5
      show G6 a = some (.tup [.int (kk (.ref a)).1, .int (kk (.ref a)).2.1, .int (kk (.ref a)).2.2])
      rw [hkk a r' j ha' hr']
      exact at_⟩
    generalize (as.map fun a => kk (.ref a)) = ss at perm sort pas
    have s58 := s6.trans (s7.trans s8)
    refine ⟨.ref p, rfl, p, WC, dx, _, rfl, s58 _ _ g5, TC.cl, TC.nT, by show 3 < 1000; decide, ?_⟩
    have bu9 : But p (upd (upd G6 q (.lst (as.map V.ref))) tb (.tup (as.map V.ref))) (upd (upd (upd G6 q (.lst (as.map V.ref))) tb (.tup (as.map V.ref))) p (.ins WC dx (putF "steps" (V.ref tb) [("labels", .int l), ("facts", .int f), ("states", .ref ta)]))) := But.upd
    have g9 : (upd (upd (upd G6 q (.lst (as.map V.ref))) tb (.tup (as.map V.ref))) p (.ins WC dx (putF "steps" (V.ref tb) [("labels", .int l), ("facts", .int f), ("states", .ref ta)]))) p = some (.ins WC dx (wf l f ta tb)) := by rw [upd_same]; rfl
    have g8 := s58 _ _ g5
    have W : WoA K WC (upd (upd (upd G6 q (.lst (as.map V.ref))) tb (.tup (as.map V.ref))) p (.ins WC dx (putF "steps" (V.ref tb) [("labels", .int l), ("facts", .int f), ("states", .ref ta)]))) p dx l f ta tb ras as Xs ss :=
      ⟨g9, SqT.butO g8 bu9 (SqT.same s58 st5), (rat5.same s58).butO g8 bu9, SqT.butO g8 bu9 (SqT.of upd_same), (pas.same (s7.trans s8)).butO g8 bu9⟩
    have bH9 := (bH5.trans (Same.but s58)).trans bu9
    have tg9 : TabG (upd (upd (upd G6 q (.lst (as.map V.ref))) tb (.tup (as.map V.ref))) p (.ins WC dx (putF "steps" (V.ref tb) [("labels", .int l), ("facts", .int f), ("states", .ref ta)]))) tA := by
      obtain ⟨qs, z, t⟩ := tg
      exact ⟨qs, bH9 _ _ ntA z, t⟩
    generalize upd (upd (upd G6 q (.lst (as.map V.ref))) tb (.tup (as.map V.ref))) p (.ins WC dx (putF "steps" (V.ref tb) [("labels", .int l), ("facts", .int f), ("states", .ref ta)])) = G9 at W bH9 tg9
    -- the checks
    have bad := k2 ss sort perm
    have good := k1 ss ta tb
    unfold okWorld at bad good
    refine ⟨.int l, rfl, .int f, rfl, l, f, rfl, fun o1 => ?_, fun o1 => bad (by rw [o1, Bool.false_and]) _⟩
    rw [o1, Bool.true_and] at bad good
    refine ⟨.ref p, rfl, p, dx, l, f, ta, tb, ras, as, Xs, ss, rfl, W, tg9, xs1, fun o2 H10 t10 => ?_, fun o2 H10 => bad (by rw [o2, Bool.false_and]) _⟩
    rw [o2, Bool.true_and] at bad good
    have W10 := W.tb tg9 t10
    refine ⟨.ref p, rfl, p, dx, l, f, ta, tb, ras, as, Xs, ss, rfl, W10, t10.2, fun o3 H11 t11 => ?_, fun o3 H11 => bad o3 _⟩
    have W11 := W10.tb t10.2 t11
    have lss : ss.length ≤ 1000 := by rw [perm.length_eq]; exact ps1
    refine ⟨.ref p, rfl, p, WC, dx, _, .ref tb, rfl, W11.ob, TC.cl, TC.nT, rfl, tb, as, ss, rfl, W11.sp, W11.tr, lss, fun d H12 s12 en => ?_⟩
    refine ⟨.ref p, rfl, p, WC, dx, _, rfl, s12 _ _ W11.ob, TC.cl, TC.nE, by show 4 < 1000; decide, ?_⟩
    have g12 := s12 _ _ W11.ob
    have bu13 : But p H12 (upd H12 p (.ins WC dx (putF "_ends" (V.ref d) (wf l f ta tb)))) := But.upd
    have tg12 := t11.2.same s12
    refine good d ras as _ sort perm o3 (fun b o n1 n2 e => ?_) ?_ ⟨by rw [upd_same]; rfl, SqT.butO g12 bu13 (SqT.same s12 W11.st), (W11.rw.same s12).butO g12 bu13, SqT.butO g12 bu13 (SqT.same s12 W11.sp), (W11.tr.same s12).butO g12 bu13, (en.butO g12 bu13).weak fun b hb => ?_⟩
    · exact bu13 _ _ n1 (s12 _ _ (t11.1 _ _ n2 (t10.1 _ _ n2 (bH9 _ _ n1 e))))
    · obtain ⟨qs, z, t⟩ := tg12
      exact ⟨qs, bu13 _ _ ntA z, t⟩
    · cases q : H b with
      | none => rfl
      | some o =>
        by_cases n1 : b = p
        · rw [n1, W11.ob] at hb
          cases hb
        · by_cases n2 : b = tA
          · obtain ⟨qs, z, t⟩ := t11.2
            rw [n2, z] at hb
            cases hb
          · rw [t11.1 _ _ n2 (t10.1 _ _ n2 (bH9 _ _ n1 q))] at hb
            cases hb
end
end Fw

set_option maxRecDepth 100000
set_option maxHeartbeats 8000000
namespace Fw
open PySem PySem.Spec PyProof.Rows L2 GxR
theorem ok_of {l f : Int} {Xs : List (List Int)} {ss : List T3} (hl : 1 ≤ l ∧ l ≤ 3) (hf : 0 ≤ f ∧ f ≤ 6) (h1 : 1 ≤ Xs.length) (h4 : Xs.length ≤ 400) (hr : ∀ X ∈ Xs, RowUp f X) (hs : ss.Pairwise fun x y => lex3 x y = true)
    (hb : ∀ p ∈ ss, 0 ≤ p.2.1 ∧ p.2.1 < l ∧ 0 ≤ p.1 ∧ p.1 < (Xs.length : Int) ∧ 0 ≤ p.2.2 ∧ p.2.2 < (Xs.length : Int)) : okWorld l f Xs ss = true := by
  unfold okWorld okNums okRows okSteps
  have a1 : Xs.all (okRow f) = true := List.all_eq_true.mpr fun X hX => by
    have r := hr X hX
    unfold okRow
    rw [Bool.and_eq_true]
    refine ⟨List.all_eq_true.mpr fun x hx => ?_, (asc_pair ltI_tr).mpr (r.1.imp fun {a b} h => decide_eq_true h)⟩
    have := r.2 x hx
    rw [Bool.and_eq_true, decide_eq_true_eq, decide_eq_true_eq]
    omega
  have a2 : ss.all (okStep l Xs.length) = true := List.all_eq_true.mpr fun p hp => by
    have r := hb p hp
    unfold okStep
    simp only [Bool.and_eq_true, decide_eq_true_eq]
    omega
  rw [a1, a2, (asc_pair lex3_tr).mpr hs, decide_eq_true hl.1, decide_eq_true hl.2, decide_eq_true hf.1, decide_eq_true hf.2, decide_eq_true (by omega : 1 ≤ (Xs.length : Int)), decide_eq_true (by omega : (Xs.length : Int) ≤ 400)]
  rfl
theorem ints_nth {xs : List Int} {i : Nat} {x : V} (hx : (xs.map V.int)[i]? = some x) : ∃ z, xs[i]? = some z ∧ x = V.int z := by
  rw [List.getElem?_map] at hx
  cases e : xs[i]? with
  | none => rw [e] at hx; cases hx
  | some z => rw [e] at hx; exact ⟨z, rfl, (Option.some.inj hx).symm⟩
theorem WoE.same {K : PySem.W.Frag} {WC : Addr} {H0 H H' : Hp} {p dx : Addr} {l f : Int} {ta tb d : Addr} {ras as : List Addr} {Xs : List (List Int)} {ss : List T3} (z : Same H H') (h : WoE K WC H0 H p dx l f ta tb d ras as Xs ss) : WoE K WC H0 H' p dx l f ta tb d ras as Xs ss :=
  ⟨z _ _ h.ob, SqT.same z h.st, h.rw.same z, SqT.same z h.sp, h.tr.same z, h.en.map (fun kvs e => z _ _ e) fun a xs _ e => z _ _ e⟩
theorem RAt.snoc {K : PySem.W.Frag} {H : Hp} {as : List Addr} {Xs : List (List Int)} {a : Addr} {X : List Int} (h : RAt K H as Xs) (z : SqT K H a (X.map V.int)) : RAt K H (as ++ [a]) (Xs ++ [X]) :=
  ⟨by rw [List.length_append, List.length_append, h.1]; rfl, fun i b Y e1 e2 => by
    rcases get_snoc e1 with e1' | ⟨q, rfl⟩
    · rcases get_snoc e2 with e2' | ⟨q, rfl⟩
      · exact h.2 i b Y e1' e2'
      · have := get_len e1'; rw [h.1] at this; omega
    · rcases get_snoc e2 with e2' | ⟨q2, rfl⟩
      · have := get_len e2'; rw [← h.1] at this; omega
      · exact z⟩
theorem RowUp.mono {f g : Int} {X : List Int} (h : RowUp f X) (l : f ≤ g) : RowUp g X := ⟨h.1, fun x hx => by have := h.2 x hx; omega⟩
theorem itN {a b : Int} {A B : Prop} (h : a ≠ b) (x : B) : if decide (V.int a = V.int b) = true then A else B := (if_neg (by rw [decide_eq_false (fun e => h (V.int.inj e))]; exact Bool.false_ne_true)).mpr x
theorem itY {a b : Int} {A B : Prop} (h : a = b) (x : A) : if decide (V.int a = V.int b) = true then A else B := (if_pos (decide_eq_true (congrArg V.int h))).mpr x
theorem sorted_back {H : Hp} {as0 : List Addr} {ts : List T3} {kk : V → T3} (pat : PAt H as0 ts) (hkk : ∀ (a : Addr) (p : T3) (i : Nat), as0[i]? = some a → ts[i]? = some p → kk (.ref a) = p) {ys : List V}
    (srt : SrtO.Srtd (fun x y => lex3 (kk x) (kk y)) ys) (stb : SrtO.Stb (fun x y => lex3 (kk x) (kk y)) ys (as0.map V.ref)) : ∃ (as : List Addr) (ss : List T3), ys = as.map V.ref ∧ (ss.Pairwise fun x y => lex3 y x = false) ∧ ss.Perm ts ∧ PAt H as ss := by
  obtain ⟨as, hys⟩ : ∃ as : List Addr, ys = as.map V.ref := by
    have mem : ∀ y ∈ ys, ∃ a, y = V.ref a := fun y hy => by
      obtain ⟨a, _, e⟩ := List.mem_map.mp (stb.perm.mem_iff.mp hy)
      exact ⟨a, e.symm⟩
    clear srt stb
    induction ys with
    | nil => exact ⟨[], rfl⟩
    | cons y ys ih =>
      obtain ⟨a, rfl⟩ := mem y List.mem_cons_self
      obtain ⟨as, e⟩ := ih fun z hz => mem z (List.mem_cons_of_mem _ hz)
      exact ⟨a :: as, by rw [e]; rfl⟩
  subst hys
  refine ⟨as, as.map fun a => kk (.ref a), rfl, List.pairwise_map.mpr (List.pairwise_map.mp srt), ?_, by rw [List.length_map], fun i a r e1 e2 => ?_⟩
  · have e1 := stb.perm.map kk
    rw [List.map_map, List.map_map] at e1
    have e2 : as0.map (kk ∘ V.ref) = ts := by
      refine List.ext_getElem? fun i => ?_
      rw [List.getElem?_map]
      cases e3 : as0[i]? with
      | none =>
        have := List.getElem?_eq_none_iff.mp e3
        rw [pat.1] at this
        rw [List.getElem?_eq_none_iff.mpr this]
        rfl
      | some a =>
        have il : i < ts.length := by rw [← pat.1]; exact (List.getElem?_eq_some_iff.mp e3).1
        have e4 := List.getElem?_eq_getElem il
        rw [e4]
        exact congrArg some (hkk a _ i e3 e4)
    rw [e2] at e1
    exact e1
  · rw [List.getElem?_map, e1] at e2
    have e3 := (Option.some.inj e2).symm
    subst e3
    have hm : V.ref a ∈ as0.map V.ref := stb.perm.mem_iff.mp (List.mem_map.mpr ⟨a, List.mem_of_getElem? e1, rfl⟩)
    obtain ⟨j, hj, e4⟩ := List.getElem_of_mem hm
    obtain ⟨a', r', e5, ha', hr', at_⟩ := pat.nth (by rw [List.getElem?_eq_getElem hj, e4])
    cases e5
    show H a = some (.tup [.int (kk (.ref a)).1, .int (kk (.ref a)).2.1, .int (kk (.ref a)).2.2])
    rw [hkk a r' j ha' hr']
    exact at_
theorem trips_say {H : Hp} {as0 : List Addr} {ts : List T3} {kk : V → T3} (pat : PAt H as0 ts) (hkk : ∀ (a : Addr) (p : T3) (i : Nat), as0[i]? = some a → ts[i]? = some p → kk (.ref a) = p) :
    ∀ x ∈ as0.map V.ref, ∃ t, x = V.ref t ∧ H t = some (.tup [.int (kk x).1, .int (kk x).2.1, .int (kk x).2.2]) := fun x hx => by
  obtain ⟨i, hi, e⟩ := List.getElem_of_mem hx
  obtain ⟨a, r, rfl, ha, hr', at_⟩ := pat.nth (by rw [List.getElem?_eq_getElem hi, e])
  refine ⟨a, rfl, ?_⟩
  rw [hkk a r i ha hr']
  exact at_
theorem up_one {a b : List Int} (h : a.Perm b) (ha : a.Pairwise (· ≤ ·)) (hb : b.Pairwise (· < ·)) : a = b := by
  have nb : b.Nodup := hb.imp fun {x y} h e => by omega
  have na : a.Nodup := h.nodup_iff.mpr nb
  refine rising_one ?_ hb fun x => h.mem_iff
  exact (List.pairwise_and_iff.mpr ⟨ha, na⟩).imp fun {x y} h => by have := h.1; have := h.2; omega
theorem PAt.butD {H H' : Hp} {d : Addr} {as : List Addr} {ts : List T3} (dr : Draws H d) (b : But d H H') (h : PAt H as ts) : PAt H' as ts := by
  obtain ⟨ds, q⟩ := dr
  exact ⟨h.1, fun i a p e1 e2 => b _ _ (ne_of (h.2 i a p e1 e2) q (by intro z; cases z)) (h.2 i a p e1 e2)⟩
theorem WAx.butD {H H' : Hp} {d wa sa pa : Addr} {fas pas : List Addr} {W : Wd} (dr : Draws H d) (b : But d H H') (n1 : sa ≠ d) (n2 : pa ≠ d) (n3 : ∀ a ∈ fas, a ≠ d) (h : WAx H wa sa pa fas pas W) : WAx H' wa sa pa fas pas W := by
  have pt := h.t.butD dr b
  obtain ⟨ds, q⟩ := dr
  exact ⟨b _ _ (ne_of h.w q (by intro z; cases z)) h.w, b _ _ n1 h.s, b _ _ n2 h.p, h.f.map fun a o ha e => b _ _ (n3 a ha) e, pt⟩
theorem FAt.tb {P : Addr} {H H' : Hp} {as : List Addr} {Xs : List (List Int)} (g : TabG H P) (t : Tb P H H') (h : FAt H as Xs) : FAt H' as Xs := ⟨h.1, fun i a X e1 e2 => t.1 _ _ (g.ne (h.2 i a X e1 e2) (by intro _ z; cases z)) (h.2 i a X e1 e2)⟩
theorem WAx.tb {P : Addr} {H H' : Hp} {wa sa pa : Addr} {fas pas : List Addr} {W : Wd} (g : TabG H P) (t : Tb P H H') (h : WAx H wa sa pa fas pas W) : WAx H' wa sa pa fas pas W :=
  ⟨t.1 _ _ (g.ne h.w (by intro _ z; cases z)) h.w, t.1 _ _ (g.ne h.s (by intro _ z; cases z)) h.s, t.1 _ _ (g.ne h.p (by intro _ z; cases z)) h.p, h.f.tb g t, h.t.tb g t⟩
theorem IsF.tb {K : PySem.W.Frag} {P : Addr} {H H' : Hp} (g : TabG H P) (t : Tb P H H') {v : V} {f : F} (h : IsF K H v f) : IsF K H' v f := h.map fun _ _ => SqT.tb g t
theorem WoE.tb {K : PySem.W.Frag} {WC P : Addr} {H0 H H' : Hp} {p dx : Addr} {l f : Int} {ta tb d : Addr} {ras as : List Addr} {Xs : List (List Int)} {ss : List T3} (g : TabG H P) (t : Tb P H H') (h : WoE K WC H0 H p dx l f ta tb d ras as Xs ss) : WoE K WC H0 H' p dx l f ta tb d ras as Xs ss :=
  ⟨t.1 _ _ (g.ne h.ob (by intro _ z; cases z)) h.ob, SqT.tb g t h.st, h.rw.tb g t, SqT.tb g t h.sp, h.tr.tb g t, h.en.tb g t⟩
theorem joinS {c : Bool} {A : Prop} {C : L2.St → Hp → Prop} {σ : L2.St} {G : Hp} (Fa : L2.St → Hp → Prop) (hr : ∀ σ5 G5, Fa σ5 G5 → C σ5 G5) (h1 : c = true → (∀ σ5 G5, Fa σ5 G5 → C σ5 G5) → A) (h2 : c = false → Fa σ G) : if c = true then A else C σ G := by
  cases c with
  | true => exact h1 rfl hr
  | false => exact hr _ _ (h2 rfl)
theorem WoE.wst {K : PySem.W.Frag} {WC : Addr} {H0 H : Hp} {p dx : Addr} {l f : Int} {ta tb d r : Addr} {ras as : List Addr} {Xs : List (List Int)} {ss : List T3} (h : WoE K WC H0 H p dx l f ta tb d ras as Xs ss) (e : H r = some (.tup [.ref ta, .ref tb])) : WSt K H (.ref r) ⟨Xs, ss⟩ :=
  ⟨r, ta, tb, ras, as, rfl, ⟨e, .inr h.st, .inr h.sp, ⟨h.rw.1, fun i a X e1 e2 => .inr (h.rw.2 i a X e1 e2)⟩, h.tr⟩⟩
section
variable {P : Program} {w : World} {K : PySem.W.Frag} {mg : Str → Option Value} {base : Heap} {C J B NC WC cA tA : Addr} {t1 t2 t3 : Tok}
def spMade (K : PySem.W.Frag) (WC tA : Addr) : Sp := fun vs H Q _ => ∃ (wa sa pa : Addr) (fas pas : List Addr) (W : Wd) (l f f0 : Int), vs = [.ref wa, .int l, .int f] ∧ WAx H wa sa pa fas pas W ∧ W.Fit ∧ W.Up f0 ∧ 2 ≤ l ∧ l ≤ 3 ∧ f0 ≤ f ∧ 0 ≤ f ∧ f ≤ 6 ∧ TabG H tA ∧
  ∀ (p dx ta tb d : Addr) (ras as : List Addr) H', Tb tA H H' → WoE K WC H H' p dx l f ta tb d ras as W.facts W.steps → Q (.ref p) H'
theorem ok_law_made {f : Addr} {fd : FuncData} (FF : Fun K "_law_made" "_law_made" s_law_made f fd) (T : Txt K mg C J B) (h_World : HasCX P w K mg base "World" WC 6 a_World_init (spWInit K NC WC tA)) : FnOk P w K mg base (L2.CX P w) 8 f fd a_law_made (spMade K WC tA) := by
  refine FF.okX sc_law_made (fun vs H Q E h => ?_) (fun cdv A outer s H vs Q E hr h => ?_)
  · obtain ⟨wa, sa, pa, fas, pas, W, l, f, f0, rfl, _⟩ := h
    rfl
  · obtain ⟨wa, sa, pa, fas, pas, W, l, f, f0, rfl, X, fit, up, l2, l3, ff, f1, f6, tg, k⟩ := h
    refine ⟨_, (pss_one (ps_ret (pe_makeX h_World (hr.mono (by omega)) (takes_of rfl rfl rfl rfl) (pa_cons (pv 1) (pa_cons (pv 2) (pa_cons (pe_lc (own := [("state", 3)]) (g := gName 3) rfl sc_law_made.nd (pi_list (pe_ix ix_tup (pv 0) pe_int (fun _ _ => rfl))) (blkOk_by (own := [("state", 3)]) (N := n_law_made) (sc := defScope s_law_made) (by decide +kernel)) (fun _ _ _ _ _ => (pg_name (i := 3) sc_law_made.nd rfl (.inl rfl))) (fun _ _ _ _ _ => pts_nil) (fun _ _ _ _ _ => (pe_callTy (@id (CallR _ (.type "list") (rListOf K)) call_list_of) rfl T.z_list (by decide +kernel) (pa_cons (pv 3) pa_nil)))) (pa_cons (pe_callTy call_list_of rfl T.z_list (by decide +kernel) (pa_cons (pe_ix ix_tup (pv 0) pe_int (fun _ _ => rfl)) pa_nil)) pa_nil))))))), ?_⟩
    refine ⟨.int l, rfl, .int f, rfl, .ref wa, rfl, wa, _, _, .ref sa, rfl, rfl, SqT.of X.w, rfl, sa, rfl, ⟨_, SqL.of X.s⟩, fun D hD => ?_⟩
    refine lc_list (xs := fas.map V.ref) (fun i G => ∃ gs : List Addr, Same H G ∧ G D = some (.lst (gs.map V.ref)) ∧ FAt G gs (W.facts.take i) ∧ ∀ a ∈ gs, a ≠ D) ⟨[], Same.new hD, upd_same, FAt.nil _, fun a h => by cases h⟩ (fun i G _ ⟨_, sG, _⟩ => SqL.of (sG _ _ X.s)) ?_ ?_
    · rintro i x G hx ⟨gs, sG, gD, fa, nd⟩
      obtain ⟨a, Y, rfl, ha, hY, il⟩ := (X.f.same sG).nth hx
      refine ⟨rfl, .ref a, rfl, a, _, rfl, .inl (SqL.of il), fun q hq => ?_⟩
      have s1 := Same.new (o := .lst (Y.map V.int)) hq
      have lt : i < W.facts.length := (List.getElem?_eq_some_iff.mp hY).1
      have n8 : W.facts.length ≤ 8 := fit.n8
      have nqD : q ≠ D := (ne_of_none gD hq).symm
      refine ⟨_, s1 _ _ gD, by rw [List.length_map, fa.1, List.length_take]; exact small1000 (by omega), gs ++ [q], fun b o e => by rw [upd_ne (ne_of_none e hD)]; exact s1 _ _ (sG b o e), by rw [upd_same, List.map_append]; rfl, ?_⟩
      rw [List.take_add_one, hY, Option.toList_some]
      refine ⟨?_, fun g hg => (List.mem_append.mp hg).elim (nd g) fun z => by rw [List.mem_singleton.mp z]; exact nqD⟩
      refine FAt.snoc (fa.map fun a' o' hm e => ?_) (by show _ = _; rw [upd_ne nqD, upd_same])
      rw [upd_ne (nd a' hm)]
      exact s1 _ _ e
    rintro G1 ⟨gs, sG, gD, fa, _⟩
    rw [List.length_map, X.f.1, List.take_length] at fa
    refine ⟨.ref wa, rfl, wa, _, _, .ref pa, rfl, rfl, SqT.of (sG _ _ X.w), rfl, pa, _, rfl, .inl (SqL.of (sG _ _ X.p)), fun L hL => fun x dx hx hdx ne => ?_⟩
    have s2 := Same.new (o := .lst (pas.map V.ref)) hL
    have s3 : Same (upd G1 L (.lst (pas.map V.ref))) (upd (upd (upd G1 L (.lst (pas.map V.ref))) dx (.own x)) x (.ins WC dx [])) := fun b u e => by rw [upd_ne (ne_of_none e hx), upd_ne (ne_of_none e hdx)]; exact e
    have s13 := sG.trans (s2.trans s3)
    have n8 : W.facts.length ≤ 8 := fit.n8
    have n1 : 1 ≤ W.facts.length := fit.one
    have good : okWorld l f W.facts W.steps = true := ok_of (by omega) (by omega) n1 (by omega) (fun Y hY => (up.rows Y hY).mono ff) up.steps fun q hq => by
      have := up.in_ q hq
      unfold StUp Wd.n at this
      omega
    refine ⟨x, dx, l, f, D, L, gs, pas, W.facts, W.steps, rfl, upd_same, .inl (SqL.of (s3 _ _ (s2 _ _ gD))), (fa.same (s2.trans s3)).sq, .inl (SqL.of (s3 _ _ upd_same)), X.t.same s13, tg.same s13, by omega, fun Y hY => by have := fit.fc Y hY; omega, by have := fit.st; omega, fun ss ta tb d ras as H' so pe ok b2 tg' W2 => ⟨rfl, ?_⟩, fun ss so pe ok H' => ?_⟩
    · have e := sorted_one so up.steps pe
      subst e
      refine k x dx ta tb d ras as H' ⟨fun b u n e => b2 _ _ (ne_of_none (s2 _ _ (sG _ _ e)) hx) n (s13 _ _ e), tg'⟩ ⟨W2.ob, W2.st, W2.rw, W2.sp, W2.tr, W2.en.weak fun b hb => ?_⟩
      cases q : H b with
      | none => rfl
      | some u => rw [s13 _ _ q] at hb; cases hb
    · have e := sorted_one so up.steps pe
      subst e
      rw [good] at ok
      cases ok
end
end Fw

set_option maxRecDepth 100000
set_option maxHeartbeats 4000000
namespace Fw
open PySem PySem.Spec PyProof.Rows L2 GxR
theorem ip_or {X : Cx} : PIp X .BitOr (rI0 fun i j => .int (Builtin.bitOr i j)) := fun pins s σ H x y v u Q I r1 r2 h => iop_or pins s σ H x y v u Q I r1 r2 h
/-! ### what a dict's change leaves -/
theorem SqT.butE {K : PySem.W.Frag} {H H' : Hp} {a d : Addr} {xs : List V} {q : Heap → Prop} (hd : H d = some (.ext q)) (s : But d H H') (h : SqT K H a xs) : SqT K H' a xs := by
  rcases h with h | h
  · rcases h with h | ⟨u, h⟩
    · exact .inl (.inl (s _ _ (ne_of h hd (by intro z; cases z)) h))
    · exact .inl (.inr ⟨u, s _ _ (ne_of h hd (by intro z; cases z)) h⟩)
  · exact .inr h
theorem PAt.butE {H H' : Hp} {as : List Addr} {ts : List T3} {d : Addr} {q : Heap → Prop} (hd : H d = some (.ext q)) (s : But d H H') (h : PAt H as ts) : PAt H' as ts :=
  ⟨h.1, fun i a p e1 e2 => s _ _ (ne_of (h.2 i a p e1 e2) hd (by intro z; cases z)) (h.2 i a p e1 e2)⟩
theorem RAt.butE {K : PySem.W.Frag} {H H' : Hp} {as : List Addr} {Xs : List (List Int)} {d : Addr} {q : Heap → Prop} (hd : H d = some (.ext q)) (s : But d H H') (h : RAt K H as Xs) : RAt K H' as Xs :=
  ⟨h.1, fun i a X e1 e2 => SqT.butE hd s (h.2 i a X e1 e2)⟩
theorem WoE.butE {K : PySem.W.Frag} {WC : Addr} {H0 H H' : Hp} {p dx : Addr} {l f : Int} {ta tb d e : Addr} {ras as : List Addr} {Xs : List (List Int)} {ss : List T3} {q : Heap → Prop} (hd : H e = some (.ext q)) (z : But e H H') (h : WoE K WC H0 H p dx l f ta tb d ras as Xs ss) : WoE K WC H0 H' p dx l f ta tb d ras as Xs ss :=
  ⟨z _ _ (ne_of h.ob hd (by intro z; cases z)) h.ob, SqT.butE hd z h.st, h.rw.butE hd z, SqT.butE hd z h.sp, h.tr.butE hd z, h.en.map (fun kvs u => z _ _ (ne_of u hd (by intro z; cases z)) u) fun a xs _ u => z _ _ (ne_of u hd (by intro z; cases z)) u⟩
theorem PartsAt.butE {K : PySem.W.Frag} {C : Addr} {H H' : Hp} {pa d : Addr} {L : List (Hd × Int)} {q : Heap → Prop} (hd : H d = some (.ext q)) (s : But d H H') (h : PartsAt K C H pa L) : PartsAt K C H' pa L := by
  obtain ⟨R, h1, h2, h3⟩ := h
  have sq : ∀ {a : Addr} {xs : List V}, SqL K H a xs → SqL K H' a xs := fun h => by
    rcases h with h | h
    · rcases h with h | ⟨u, h⟩
      · exact .inl (.inl (s _ _ (ne_of h hd (by intro z; cases z)) h))
      · exact .inl (.inr ⟨u, s _ _ (ne_of h hd (by intro z; cases z)) h⟩)
    · exact .inr h
  exact ⟨R, sq h1, h2, fun i pr hd' a e1 e2 => by
    have z := h3 i pr hd' a e1 e2
    exact ⟨s _ _ (ne_of z.ob hd (by intro z; cases z)) z.ob, SqT.butE hd s z.hd, s _ _ (ne_of z.inn hd (by intro z; cases z)) z.inn⟩⟩
theorem catA_ok {K : PySem.W.Frag} {a b : Addr} {xs ys : List V} {H : Hp} {Q : VK} (ha : SqT K H a xs) (hb : SqT K H b ys) (hl : xs.length + ys.length ≤ sizeLine) (k : ∀ c H', Same H H' → SqT K H' c (xs ++ ys) → Q (.ref c) H') : rCatA K (.ref a) (.ref b) H Q :=
  ⟨a, b, xs, ys, rfl, rfl, ha, hb, hl, fun e => k b H (fun _ _ z => z) (by rw [e]; exact hb), fun _ e => k a H (fun _ _ z => z) (by rw [e, List.append_nil]; exact ha), fun _ _ p hp => k p _ (Same.new hp) (SqT.of upd_same)⟩
theorem cut_whole {xs : List V} {lo hi : Option Int} (h : HT.sIx xs.length 0 lo = 0 ∧ HT.sIx xs.length xs.length hi = xs.length) : cutV xs lo hi = xs := by
  unfold cutV
  rw [h.1, h.2]
  simp
theorem slA_ok {K : PySem.W.Frag} {a : Addr} {xs : List V} {lo hi : Option Int} {H : Hp} {Q : VK} (ha : SqT K H a xs) (k : ∀ c H', Same H H' → SqT K H' c (cutV xs lo hi) → Q (.ref c) H') : rSlA K (.ref a) lo hi H Q :=
  ⟨a, xs, rfl, ha, fun e => k a H (fun _ _ z => z) (by rw [cut_whole e]; exact ha), fun _ p hp => k p _ (Same.new hp) (SqT.of upd_same)⟩
theorem cut_to (xs : List V) (n : Nat) : cutV xs none (some (n : Int)) = xs.take n := by
  unfold cutV HT.sIx
  simp only [Nat.sub_zero, List.drop_zero]
  rw [if_neg (by omega)]
  by_cases c : n ≤ xs.length
  · rw [show min (n : Int).toNat xs.length = n by omega]
  · rw [show min (n : Int).toNat xs.length = xs.length by omega, List.take_length, List.take_of_length_le (by omega)]
theorem cut_last (ys : List V) (x : V) : cutV (ys ++ [x]) none (some (-1)) = ys := by
  unfold cutV HT.sIx
  simp only [Nat.sub_zero, List.drop_zero]
  rw [if_pos (by decide), List.length_append, List.length_singleton, show (-1 + ((ys.length + 1 : Nat) : Int)).toNat = ys.length by omega, List.take_left']
  rfl
theorem at_last {α : Type} (ys : List α) (x : α) : atI (ys ++ [x]) (-1) = some x := by
  unfold atI ixN
  rw [if_neg (by decide), List.length_append, List.length_singleton, if_pos (by omega)]
  show (ys ++ [x])[(-1 + ((ys.length + 1 : Nat) : Int)).toNat]? = _
  rw [show (-1 + ((ys.length + 1 : Nat) : Int)).toNat = ys.length by omega]
  simp
/-! ### the questions' object -/
structure TxtQ (K : PySem.W.Frag) (QC : Addr) : Prop where
  cl : Cls K QC
  nW : NoAttr K QC "_world"
  nP : NoAttr K QC "_parts"
  nB : NoAttr K QC "_binders"
  nD : NoAttr K QC "_depths"
  nK : NoAttr K QC "_known"
structure QR where
  (p dx wp pa la da ka : Addr)
def qf (x : QR) : List (Str × V) := [("_world", .ref x.wp), ("_parts", .ref x.pa), ("_binders", .ref x.la), ("_depths", .ref x.da), ("_known", .ref x.ka)]
def depthL (t : F) : List Int := (infos t).map fun r => (r.stk.length : Int) + if isB r.sub = true then 1 else 0
def WoX (K : PySem.W.Frag) (WC : Addr) (H : Hp) (p : Addr) (W : Wd) : Prop := ∃ (H0 : Hp) (dx : Addr) (l f : Int) (ta tb d : Addr) (ras as : List Addr), WoE K WC H0 H p dx l f ta tb d ras as W.facts W.steps
theorem WoX.same {K : PySem.W.Frag} {WC : Addr} {H H' : Hp} {p : Addr} {W : Wd} (s : Same H H') (h : WoX K WC H p W) : WoX K WC H' p W := by
  obtain ⟨H0, dx, l, f, ta, tb, d, ras, as, h⟩ := h
  exact ⟨H0, dx, l, f, ta, tb, d, ras, as, h.same s⟩
structure Qs (K : PySem.W.Frag) (C WC QC : Addr) (H : Hp) (x : QR) (t : F) (W : Wd) : Prop where
  ob : H x.p = some (.ins QC x.dx (qf x))
  wo : WoX K WC H x.wp W
  pt : PartsAt K C H x.pa (pre t (-1) 0)
  bi : H x.la = some (.lst ((placeL t).map V.int))
  de : H x.da = some (.lst ((depthL t).map V.int))
theorem Qs.same {K : PySem.W.Frag} {C WC QC : Addr} {H H' : Hp} {x : QR} {t : F} {W : Wd} (s : Same H H') (h : Qs K C WC QC H x t W) : Qs K C WC QC H' x t W :=
  ⟨s _ _ h.ob, h.wo.same s, h.pt.same s, s _ _ h.bi, s _ _ h.de⟩
theorem Qs.butE {K : PySem.W.Frag} {C WC QC : Addr} {H H' : Hp} {x : QR} {t : F} {W : Wd} {d : Addr} {q : Heap → Prop} (hd : H d = some (.ext q)) (s : But d H H') (h : Qs K C WC QC H x t W) : Qs K C WC QC H' x t W := by
  obtain ⟨H0, dx, l, f, ta, tb, d', ras, as, wo⟩ := h.wo
  exact ⟨s _ _ (ne_of h.ob hd (by intro z; cases z)) h.ob, ⟨H0, dx, l, f, ta, tb, d', ras, as, wo.butE hd s⟩, h.pt.butE hd s, s _ _ (ne_of h.bi hd (by intro z; cases z)) h.bi, s _ _ (ne_of h.de hd (by intro z; cases z)) h.de⟩
/-- a tuple of masks, outermost first -/
def msV (ms : List Nat) : List V := ms.reverse.map fun m => V.int (m : Nat)
theorem msV_cons (m : Nat) (ms : List Nat) : msV (m :: ms) = msV ms ++ [V.int (m : Nat)] := by simp [msV]
theorem msV_len (ms : List Nat) : (msV ms).length = ms.length := by simp [msV]
def QAt (K : PySem.W.Frag) (H : Hp) (a : Addr) (q : Qn) : Prop := ∃ b, SqT K H a [.int (q.pl : Nat), .int (q.st : Nat), .ref b] ∧ SqT K H b (msV q.ms)
theorem QAt.same {K : PySem.W.Frag} {H H' : Hp} {a : Addr} {q : Qn} (s : Same H H') (h : QAt K H a q) : QAt K H' a q := by
  obtain ⟨b, h1, h2⟩ := h
  exact ⟨b, SqT.same s h1, SqT.same s h2⟩
theorem QAt.butE {K : PySem.W.Frag} {H H' : Hp} {a d : Addr} {q : Qn} {z : Heap → Prop} (hd : H d = some (.ext z)) (s : But d H H') (h : QAt K H a q) : QAt K H' a q := by
  obtain ⟨b, h1, h2⟩ := h
  exact ⟨b, SqT.butE hd s h1, SqT.butE hd s h2⟩
theorem QAt.lk {K : PySem.W.Frag} {H H' : Hp} {a : Addr} {q : Qn} (s : LKp H H') (h : QAt K H a q) : QAt K H' a q := by
  obtain ⟨b, h1, h2⟩ := h
  exact ⟨b, SqT.lk s h1, SqT.lk s h2⟩
def keyQ (q : Qn) : NestedKey := .tup [.num (q.pl : Nat), .num (q.st : Nat), .tup (q.ms.reverse.map fun m => .num ((m : Nat) : Int))]
theorem kall_ms {K : PySem.W.Frag} {H : Hp} : ∀ ms : List Nat, KAll K H (ms.map fun m => V.int (m : Nat)) (ms.map fun m => NestedKey.num ((m : Nat) : Int))
  | [] => .nil
  | m :: ms => .cons (.int _) (kall_ms ms)
theorem QAt.key {K : PySem.W.Frag} {H : Hp} {a : Addr} {q : Qn} (h : QAt K H a q) : KIs K H (.ref a) (keyQ q) := by
  obtain ⟨b, h1, h2⟩ := h
  exact .tup h1 (.cons (.int _) (.cons (.int _) (.cons (.tup h2 (kall_ms _)) .nil)))
theorem keyQ_depth (q : Qn) : (keyQ q).depth ≤ 8 := by
  have e : ∀ ms : List Nat, NestedKey.depthAll (ms.map fun m => NestedKey.num ((m : Nat) : Int)) = 0 := fun ms => by
    induction ms with
    | nil => rfl
    | cons m ms ih => simp [NestedKey.depthAll, NestedKey.depth, ih]
  unfold keyQ
  simp only [NestedKey.depth, NestedKey.depthAll]
  rw [e]
  decide
theorem keyQ_inj {q q' : Qn} (h : keyQ q = keyQ q') : q = q' := by
  obtain ⟨a, b, c⟩ := q
  obtain ⟨a', b', c'⟩ := q'
  unfold keyQ at h
  injection h with h
  injection h with h1 h
  injection h with h2 h
  injection h with h3 _
  injection h1 with h1
  injection h2 with h2
  injection h3 with h3
  have e1 : a = a' := Int.ofNat.inj h1
  have e2 : b = b' := Int.ofNat.inj h2
  have e3 : c = c' := by
    have := (List.map_inj_right (f := fun m : Nat => NestedKey.num ((m : Nat) : Int)) fun x y h => by
      injection h with h
      exact Int.ofNat.inj h).mp h3
    exact List.reverse_inj.mp this
  rw [e1, e2, e3]
/-! ### a list of states as a mask -/
def orAll : List Nat → Nat
  | [] => 0
  | x :: xs => x ||| orAll xs
theorem orAll_app : ∀ xs ys : List Nat, orAll (xs ++ ys) = (orAll xs ||| orAll ys)
  | [], ys => by simp [orAll]
  | x :: xs, ys => by simp [orAll, orAll_app xs ys, Nat.or_assoc]
def maskOf (X : List Int) : Nat := orAll (X.map fun x => 2 ^ x.toNat)
theorem orAll_bit {i : Nat} : ∀ {xs : List Nat}, (orAll xs).testBit i = xs.any fun x => x.testBit i
  | [] => by simp [orAll]
  | x :: xs => by simp [orAll, orAll_bit (xs := xs)]
theorem orAll_lt {n : Nat} : ∀ {xs : List Nat}, (∀ x ∈ xs, x < 2 ^ n) → orAll xs < 2 ^ n
  | [], _ => Nat.two_pow_pos n
  | x :: xs, h => Nat.or_lt_two_pow (h x List.mem_cons_self) (orAll_lt fun y hy => h y (List.mem_cons_of_mem _ hy))
theorem maskOf_in {X : List Int} (h0 : ∀ x ∈ X, 0 ≤ x) {s : Int} (hs : 0 ≤ s) : mIn (maskOf X) s = sIn X s := by
  unfold mIn maskOf
  rw [orAll_bit]
  cases e : sIn X s with
  | true =>
    refine List.any_eq_true.mpr ⟨2 ^ s.toNat, List.mem_map.mpr ⟨s, sIn_iff.mp e, rfl⟩, ?_⟩
    rw [Nat.testBit_two_pow]
    exact decide_eq_true rfl
  | false =>
    refine List.any_eq_false.mpr fun y hy h => ?_
    obtain ⟨x, hx, rfl⟩ := List.mem_map.mp hy
    rw [Nat.testBit_two_pow, decide_eq_true_eq] at h
    have := h0 x hx
    have : x = s := by omega
    subst this
    rw [sIn_iff.mpr hx] at e
    cases e
theorem maskOf_lt {X : List Int} {n : Nat} (h : ∀ x ∈ X, 0 ≤ x ∧ x < (n : Int)) : maskOf X < 2 ^ n := orAll_lt fun y hy => by
  obtain ⟨x, hx, rfl⟩ := List.mem_map.mp hy
  have := h x hx
  exact Nat.pow_lt_pow_right (by decide) (by omega)
section
variable {P : Program} {w : World} {K : PySem.W.Frag} {mg : Str → Option Value} {base : Heap} {C J B WC QC : Addr}
def spMask : Sp := fun vs H Q _ => ∃ (a : Addr) (X : List Int), vs = [.ref a] ∧ IL H a X ∧ (∀ x ∈ X, 0 ≤ x ∧ x ≤ 900) ∧ Q (.int (maskOf X : Nat)) H
theorem ok_mask_of {f : Addr} {fd : FuncData} (FF : Fun K "mask_of" "mask_of" s_mask_of f fd) : FnOk P w K mg base CX0 1 f fd a_mask_of spMask := by
  refine FF.ok sc_mask_of (fun vs H Q E h => ?_) (fun cdv A outer s H vs Q E hr h => ?_)
  · obtain ⟨a, X, rfl, _⟩ := h
    rfl
  · obtain ⟨a, X, rfl, gl, hX, k⟩ := h
    refine ⟨_, (pss_cons (ps_set (i := 1) sc_mask_of.nd rfl (.inl rfl) pe_int)
      (pss_cons (ps_for PassesOwn.never rfl (pi_list (pv 0)) (pg_name (i := 2) sc_mask_of.nd rfl (.inl rfl)) (pss_one (ps_aug (i := 1) sc_mask_of.nd rfl (.inl rfl) (pe_op op_oneShl pe_int (pv 2)) ip_or)))
      (pss_one (ps_ret (pv 1))))), ?_⟩
    refine ⟨.ref a, rfl, a, rfl, ⟨_, SqL.of gl⟩, for_list (xs := X.map V.int) (fun i σ G => ∃ y, G = H ∧ σ = [some (.ref a), some (.int (maskOf (X.take i) : Nat)), y]) ⟨none, rfl, rfl⟩ (fun i σ G _ ⟨_, e, _⟩ => by rw [e]; exact SqL.of gl) ?_ ?_⟩
    · rintro i x σ G hx ⟨y, rfl, rfl⟩
      obtain ⟨z, hz, rfl⟩ := ints_nth hx
      obtain ⟨z0, z9⟩ := hX z (List.mem_of_getElem? hz)
      obtain ⟨n, rfl⟩ := Int.eq_ofNat_of_zero_le z0
      refine ⟨_, rfl, .int (n : Nat), rfl, n, rfl, rfl, by omega, _, _, rfl, rfl, some (.int (n : Nat)), rfl, ?_⟩
      have hp : ((2 : Int) ^ n) = ((2 ^ n : Nat) : Int) := by rw [Int.natCast_pow]; rfl
      have ho : (fun i j : Int => V.int (Builtin.bitOr i j)) ((maskOf (X.take i) : Nat) : Int) ((2 : Int) ^ n) = V.int ((maskOf (X.take (i + 1)) : Nat) : Int) := by
        show V.int _ = _
        rw [hp, or_nat]
        unfold maskOf
        rw [List.take_add_one, hz, List.map_append, orAll_app]
        simp [orAll]
      rw [ho]
      rfl
    · rintro σ G ⟨y, rfl, rfl⟩
      refine ⟨_, rfl, ?_⟩
      rw [List.length_map, List.take_length]
      exact k
/-! ### entered -/
def spEnt (K : PySem.W.Frag) (C WC QC : Addr) : Sp := fun vs H Q _ => ∃ (x : QR) (t : F) (W : Wd) (j s : Nat) (b : Addr) (ms : List Nat), vs = [.ref x.p, .int (j : Nat), .int (s : Nat), .ref b] ∧ Qs K C WC QC H x t W ∧ j < t.size ∧ SqT K H b (msV ms) ∧ ms.length ≤ 1000 ∧
  ∀ a H', Same H H' → QAt K H' a (ent t j s ms) → Q (.ref a) H'
theorem ok_entered {f : Addr} {fd : FuncData} (FF : Fun K "entered" "Questions.entered" s_Questions_entered f fd) (T : Txt K mg C J B) (TQ : TxtQ K QC) : FnOk P w K mg base CX0 1 f fd a_Questions_entered (spEnt K C WC QC) := by
  refine FF.ok sc_Questions_entered (fun vs H Q E h => ?_) (fun cdv A outer s H vs Q E hr h => ?_)
  · obtain ⟨x, t, W, j, s, b, ms, rfl, _⟩ := h
    rfl
  · obtain ⟨x, t, W, j, s, b, ms, rfl, q, hj, hb, hl, k⟩ := h
    obtain ⟨R, hR, PR⟩ := id q.pt
    obtain ⟨r, pr, hr', hpr, z⟩ := PartsAt.nth (pa := x.pa) PR hj
    refine ⟨_, (pss_cons (ps_if (pt_cmpR op_in_seq (pe_ix ix_tup (pe_fld (pe_ix ix_list (pe_fld (pv 0) rfl) (pv 1) (fun _ _ => rfl)) rfl) pe_int (fun _ _ => rfl)) (pe_glob rfl T.m_BINDERS (show RelV (.ref _) _ from rfl)) (by rfl)) (pss_one (ps_ret (pe_tup (pa_cons (pv 1) (pa_cons (pv 2) (pa_cons (pe_op op_catA (pv 3) (pe_tup (pa_cons pe_int pa_nil))) pa_nil)))))) pss_nil)
      (pss_one (ps_ret (pe_tup (pa_cons (pv 1) (pa_cons (pv 2) (pa_cons (pv 3) pa_nil))))))), ?_⟩
    refine ⟨.ref x.p, rfl, x.p, QC, x.dx, _, .ref x.pa, rfl, q.ob, TQ.cl, TQ.nP, rfl, .int (j : Nat), rfl, x.pa, _, _, .ref pr.p, rfl, rfl, hR, atI_nat (j := j) (by rw [List.getElem?_map, hpr]; rfl), pr.p, C, pr.dx, _, .ref pr.h, rfl, z.ob, T.cl, T.nH, fld_head _ _ _, pr.h, _, _, _, rfl, rfl, z.hd, hd_at0 _, B, _, rfl, .inr (T.c_BINDERS _), rfl, rfl, _, rfl, ?_⟩
    rw [if_neg Bool.false_ne_true, in_binders, isB_hd]
    have es : isB (subAt t j) = isB r.sub := by rw [subAt_of hr']
    cases hb' : isB r.sub with
    | true =>
      refine iteT ?_
      have e0 : (ent t j s ms).ms = 0 :: ms := by
        unfold ent
        rw [es, hb']
        rfl
      refine ⟨.int (j : Nat), rfl, .int (s : Nat), rfl, .ref b, rfl, by show 1 ≤ sizeLine; decide, fun o ho => ?_⟩
      have s1 := Same.new (o := .tup [.int 0]) ho
      have z0 : (upd H o (.tup [.int 0])) o = some (.tup [.int 0]) := upd_same
      generalize upd H o (.tup [.int 0]) = H1 at s1 z0
      refine catA_ok (SqT.same s1 hb) (SqT.of z0) (by rw [msV_len]; exact Nat.le_trans (Nat.add_le_add_right hl 1) (by decide)) fun c H2 s2 z1 => ?_
      refine ⟨by show 3 ≤ sizeLine; decide, fun a ha => k a _ (s1.trans (s2.trans (Same.new ha))) ⟨c, SqT.of upd_same, SqT.same (Same.new ha) ?_⟩⟩
      rw [e0, msV_cons]
      exact z1
    | false =>
      refine iteF ?_
      have e0 : (ent t j s ms).ms = ms := by
        unfold ent
        rw [es, hb']
        rfl
      refine ⟨.int (j : Nat), rfl, .int (s : Nat), rfl, .ref b, rfl, by show 3 ≤ sizeLine; decide, fun a ha => k a _ (Same.new ha) ⟨b, SqT.of upd_same, ?_⟩⟩
      rw [e0]
      exact SqT.same (Same.new ha) hb
end
end Fw

set_option maxRecDepth 100000
set_option maxHeartbeats 4000000
namespace Fw
open PySem PySem.Spec PyProof.Rows L2 GxR
theorem bit_truth (m s : Nat) : (Builtin.bitAnd ((m : Int) / 2 ^ s) 1 != 0) = m.testBit s := by
  have e1 : ((m : Int) / 2 ^ s) = ((m / 2 ^ s : Nat) : Int) := by
    rw [Int.natCast_ediv, Int.natCast_pow]
    rfl
  rw [e1, show (1 : Int) = ((1 : Nat) : Int) from rfl, and_nat, Nat.and_one_is_mod, Nat.testBit_eq_decide_div_mod_eq]
  have : m / 2 ^ s % 2 = 0 ∨ m / 2 ^ s % 2 = 1 := by omega
  rcases this with e | e <;> rw [e] <;> rfl
theorem or_bit (m s : Nat) : Builtin.bitOr (m : Int) ((2 : Int) ^ s) = ((m ||| 2 ^ s : Nat) : Int) := by
  have hp : ((2 : Int) ^ s) = ((2 ^ s : Nat) : Int) := by rw [Int.natCast_pow]; rfl
  rw [hp, or_nat]
theorem onw_bind {W : Wd} {t : F} {j s m : Nat} {ms : List Nat} {k : One} {y : Int} {f : F} (hk : k.bind = true) (es : subAt t j = .one k y f) :
    onw W t ⟨j, s, m :: ms⟩ = if m.testBit s = true then (decide (k = .least), []) else (true, [ent t (j + 1) s ((m ||| 2 ^ s) :: ms)]) := by
  unfold onw
  rw [show subAt t (Qn.mk j s (m :: ms)).pl = .one k y f from es]
  have e : mIn ((m :: ms).headD 0) (s : Int) = m.testBit s := by
    unfold mIn
    rw [Int.toNat_natCast]
    rfl
  cases k with
  | least =>
    show (if mIn ((m :: ms).headD 0) (s : Int) = true then _ else _) = _
    rw [e]
    rfl
  | most =>
    show (if mIn ((m :: ms).headD 0) (s : Int) = true then _ else _) = _
    rw [e]
    rfl
  | some => cases hk
  | all => cases hk
theorem wO_least : ∀ {k : One}, k.bind = true → decide (V.str (wO k) = V.str "least") = decide (k = .least)
  | .least, _ => by decide +kernel
  | .most, _ => by decide +kernel
  | .some, h => by cases h
  | .all, h => by cases h
def QAll (K : PySem.W.Frag) (H : Hp) (as : List Addr) (L : List Qn) : Prop := as.length = L.length ∧ ∀ (i : Nat) (a : Addr) (q : Qn), as[i]? = some a → L[i]? = some q → QAt K H a q
theorem QAll.nil (K : PySem.W.Frag) (H : Hp) : QAll K H [] [] := ⟨rfl, fun i a q e => by cases e⟩
theorem QAll.same {K : PySem.W.Frag} {H H' : Hp} {as : List Addr} {L : List Qn} (s : Same H H') (h : QAll K H as L) : QAll K H' as L := ⟨h.1, fun i a q e1 e2 => (h.2 i a q e1 e2).same s⟩
theorem QAll.one {K : PySem.W.Frag} {H : Hp} {a : Addr} {q : Qn} (h : QAt K H a q) : QAll K H [a] [q] := ⟨rfl, fun i b u e1 e2 => by
  cases i with
  | zero => cases e1; cases e2; exact h
  | succ i => cases e1⟩
def Res (K : PySem.W.Frag) (H : Hp) (d : Bool) (L : List Qn) (Q : VK) : Prop := ∀ (r l : Addr) (as : List Addr) H', Same H H' → SqT K H' r [.bl d, .ref l] → H' l = some (.lst (as.map V.ref)) → QAll K H' as L → Q (.ref r) H'
section
variable {P : Program} {w : World} {K : PySem.W.Frag} {mg : Str → Option Value} {base : Heap} {C J B WC QC : Addr}
def spBnd (K : PySem.W.Frag) (C WC QC : Addr) : Sp := fun vs H Q _ => ∃ (x : QR) (t : F) (W : Wd) (j s : Nat) (b : Addr) (m : Nat) (ms : List Nat) (pr : PRec) (k : One) (y : Int) (f : F) (a : Int) (st : Stk), vs = [.ref x.p, .ref pr.p, .int (s : Nat), .ref b] ∧ Qs K C WC QC H x t W ∧
  (infos t)[j]? = some ⟨.one k y f, a, st⟩ ∧ k.bind = true ∧ PartIs K C H pr (F.one k y f).hd a (inPlaces (.one k y f) j) ∧ SqT K H b (msV (m :: ms)) ∧ ms.length ≤ 900 ∧ s ≤ 900 ∧
  Res K H (onw W t ⟨j, s, m :: ms⟩).1 (onw W t ⟨j, s, m :: ms⟩).2 Q
theorem ok_bound {f : Addr} {fd : FuncData} {fe : Addr} {fde : FuncData} (FF : Fun K "_bound" "Questions._bound" s_Questions__bound f fd) (T : Txt K mg C J B) (TQ : TxtQ K QC)
    (m_Questions_entered : Meth K QC "entered" fe) (g_Questions_entered : FnOk P w K mg base CX0 1 fe fde a_Questions_entered (spEnt K C WC QC)) (b_Questions_entered : L2.Binds K fde a_Questions_entered []) : FnOk P w K mg base CX0 2 f fd a_Questions__bound (spBnd K C WC QC) := by
  refine FF.ok sc_Questions__bound (fun vs H Q E h => ?_) (fun cdv A outer s H vs Q E hr h => ?_)
  · obtain ⟨x, t, W, j, s, b, m, ms, pr, k, y, f, a, st, rfl, _⟩ := h
    rfl
  · obtain ⟨x, t, W, j, s, b, m, ms, pr, k, y, f, a, st, rfl, q, hr', hk, z, hb, hl, hs, kk⟩ := h
    have es := subAt_of hr'
    rw [onw_bind hk es] at kk
    refine ⟨_, (pss_cons (ps_if (pt_truth (pe_op op_and (pe_op op_shrN (pe_ix ix_tup (pv 3) (pe_un un_neg pe_int) (fun _ _ => rfl)) (pv 2)) pe_int) (by intro _; rfl)) (pss_one (ps_ret (pe_tup (pa_cons (pe_cmpR op_eq (pe_ix ix_tup (pe_fld (pv 1) rfl) pe_int (fun _ _ => rfl)) pe_str (nomark _)) (pa_cons (pe_lst pa_nil) pa_nil))))) pss_nil)
      (pss_one (ps_ret (pe_tup (pa_cons pe_bl (pa_cons (pe_lst (pa_cons (pe_meth (pv 0) TQ.cl m_Questions_entered g_Questions_entered (hr.mono (by omega)) b_Questions_entered .nil pass0 (pa_cons (pe_ix ix_list (pe_fld (pv 1) rfl) pe_int (fun _ _ => rfl)) (pa_cons (pv 2) (pa_cons (pe_op op_catA (pe_slice sl_tupA (pv 3) po_none (po_some (pe_un un_neg pe_int))) (pe_tup (pa_cons (pe_op op_or (pe_ix ix_tup (pv 3) (pe_un un_neg pe_int) (fun _ _ => rfl)) (pe_op op_oneShl pe_int (pv 2))) pa_nil))) pa_nil)))) pa_nil)) pa_nil)))))), ?_⟩
    refine ⟨.ref b, rfl, 1, rfl, b, _, -1, .int (m : Nat), rfl, rfl, hb, by rw [msV_cons]; exact at_last _ _, .int (s : Nat), rfl, (m : Nat), s, rfl, rfl, _, _, rfl, rfl, _, rfl, ?_⟩
    rw [bit_truth]
    cases c : m.testBit s with
    | true =>
      rw [if_pos c] at kk
      refine iteT ?_
      refine ⟨.ref pr.p, rfl, pr.p, C, pr.dx, _, .ref pr.h, rfl, z.ob, T.cl, T.nH, fld_head _ _ _, pr.h, _, _, _, rfl, rfl, z.hd, hd_at0 _, rfl, Nat.zero_le _, fun l hl => ⟨by show 2 ≤ sizeLine; decide, fun r hr => ?_⟩⟩
      have s1 := Same.new (o := .lst []) hl
      have z1 : (upd H l (.lst [])) l = some (.lst (([] : List Addr).map V.ref)) := upd_same
      generalize upd H l (.lst []) = H1 at s1 z1 hr
      refine kk r l [] _ (s1.trans (Same.new hr)) ?_ (Same.new hr _ _ z1) (QAll.nil _ _)
      have e : decide (V.str (hw (F.one k y f).hd) = V.str "least") = decide (k = .least) := wO_least hk
      rw [← e]
      exact SqT.of upd_same
    | false =>
      rw [if_neg (by rw [c]; exact Bool.false_ne_true)] at kk
      refine iteF ?_
      have hj : j + 1 < t.size := by
        have := (List.getElem?_eq_some_iff.mp (kid_one hr')).1
        rwa [show (infos t).length = t.size from info_len _ _ _ _] at this
      refine ⟨.ref x.p, rfl, x.p, x.dx, _, rfl, q.ob, rfl, .ref pr.p, rfl, pr.p, C, pr.dx, _, .ref pr.l, rfl, z.ob, T.cl, T.nI, rfl, pr.l, _, 0, .int ((j + 1 : Nat) : Int), rfl, rfl, SqL.of z.inn, atI_nat (j := 0) rfl, .int (s : Nat), rfl, .ref b, rfl, 1, rfl, -1, rfl, ?_⟩
      refine slA_ok hb fun c1 H1 s1 h1 => ?_
      rw [msV_cons, cut_last] at h1
      have hb1 := SqT.same s1 hb
      refine ⟨.ref b, rfl, 1, rfl, b, _, -1, .int (m : Nat), rfl, rfl, hb1, by rw [msV_cons]; exact at_last _ _, .int (s : Nat), rfl, s, rfl, rfl, by omega, _, _, rfl, rfl, by show 1 ≤ sizeLine; decide, fun o ho => ?_⟩
      have ho' : (fun i j : Int => V.int (Builtin.bitOr i j)) ((m : Nat) : Int) ((2 : Int) ^ s) = V.int ((m ||| 2 ^ s : Nat) : Int) := by
        show V.int _ = _
        rw [or_bit]
      rw [ho']
      have s2 := Same.new (o := .tup [.int ((m ||| 2 ^ s : Nat) : Int)]) ho
      have z2 : (upd H1 o (.tup [.int ((m ||| 2 ^ s : Nat) : Int)])) o = some (.tup [.int ((m ||| 2 ^ s : Nat) : Int)]) := upd_same
      generalize upd H1 o (.tup [.int ((m ||| 2 ^ s : Nat) : Int)]) = H2 at s2 z2
      refine catA_ok (SqT.same s2 h1) (SqT.of z2) (by rw [msV_len]; exact Nat.le_trans (Nat.add_le_add_right hl 1) (by decide)) fun c2 H3 s3 h3 => ?_
      rw [← msV_cons] at h3
      have s13 := s1.trans (s2.trans s3)
      refine ⟨x, t, W, j + 1, s, c2, (m ||| 2 ^ s) :: ms, rfl, q.same s13, hj, h3, by rw [List.length_cons]; omega, fun a' H4 s4 h4 => ?_⟩
      refine ⟨by show 1 ≤ sizeLine; decide, fun l hl => ⟨by show 2 ≤ sizeLine; decide, fun r hr => ?_⟩⟩
      have s5 := Same.new (o := .lst [.ref a']) hl
      have z5 : (upd H4 l (.lst [.ref a'])) l = some (.lst (([a'] : List Addr).map V.ref)) := upd_same
      generalize upd H4 l (.lst [.ref a']) = H5 at s5 z5 hr
      exact kk r l [a'] _ (s13.trans (s4.trans (s5.trans (Same.new hr)))) (SqT.of upd_same) (Same.new hr _ _ z5) (QAll.one (h4.same (s5.trans (Same.new hr))))
end
end Fw

set_option maxRecDepth 100000
set_option maxHeartbeats 8000000
namespace Fw
open PySem PySem.Spec PyProof.Rows L2 GxR
structure TxtP (K : PySem.W.Frag) (mg : Str → Option Value) (STP : Addr) : Prop where
  m_STEPPERS : mg "STEPPERS" = some (.ref STP)
  c_STEPPERS : ∀ H, SqT K H STP [.str "some", .str "all"]
def vH : Hd → Bool
  | .leaf .var _ => true
  | _ => false
def hlH : Hd → Bool
  | .leaf .has _ => true
  | .leaf .lacks _ => true
  | _ => false
def stH : Hd → Bool
  | .one .some _ => true
  | .one .all _ => true
  | _ => false
def anyH : Hd → Bool
  | .nul false => true
  | .two false => true
  | .one .some _ => true
  | _ => false
theorem is_var : ∀ h : Hd, decide (V.str (hw h) = V.str "var") = vH h
  | .nul b => decide_eq_false (nv_N b)
  | .two b => decide_eq_false (nv_T b)
  | .one k _ => decide_eq_false (nv_O k)
  | .leaf .has _ => decide_eq_false nv_has
  | .leaf .lacks _ => decide_eq_false nv_lacks
  | .leaf .var _ => decide_eq_true rfl
theorem is_hl : ∀ h : Hd, inV (V.str (hw h)) [.str "has", .str "lacks"] = hlH h
  | .nul true => by show inV (V.str (wN true)) [.str "has", .str "lacks"] = false; decide +kernel
  | .nul false => by show inV (V.str (wN false)) [.str "has", .str "lacks"] = false; decide +kernel
  | .two true => by show inV (V.str (wT true)) [.str "has", .str "lacks"] = false; decide +kernel
  | .two false => by show inV (V.str (wT false)) [.str "has", .str "lacks"] = false; decide +kernel
  | .one .some _ => by show inV (V.str (wO .some)) [.str "has", .str "lacks"] = false; decide +kernel
  | .one .all _ => by show inV (V.str (wO .all)) [.str "has", .str "lacks"] = false; decide +kernel
  | .one .least _ => by show inV (V.str (wO .least)) [.str "has", .str "lacks"] = false; decide +kernel
  | .one .most _ => by show inV (V.str (wO .most)) [.str "has", .str "lacks"] = false; decide +kernel
  | .leaf .has _ => by show inV (V.str (wL .has)) [.str "has", .str "lacks"] = true; decide +kernel
  | .leaf .lacks _ => by show inV (V.str (wL .lacks)) [.str "has", .str "lacks"] = true; decide +kernel
  | .leaf .var _ => by show inV (V.str (wL .var)) [.str "has", .str "lacks"] = false; decide +kernel
theorem is_st : ∀ h : Hd, inV (V.str (hw h)) [.str "some", .str "all"] = stH h
  | .nul true => by show inV (V.str (wN true)) [.str "some", .str "all"] = false; decide +kernel
  | .nul false => by show inV (V.str (wN false)) [.str "some", .str "all"] = false; decide +kernel
  | .two true => by show inV (V.str (wT true)) [.str "some", .str "all"] = false; decide +kernel
  | .two false => by show inV (V.str (wT false)) [.str "some", .str "all"] = false; decide +kernel
  | .one .some _ => by show inV (V.str (wO .some)) [.str "some", .str "all"] = true; decide +kernel
  | .one .all _ => by show inV (V.str (wO .all)) [.str "some", .str "all"] = true; decide +kernel
  | .one .least _ => by show inV (V.str (wO .least)) [.str "some", .str "all"] = false; decide +kernel
  | .one .most _ => by show inV (V.str (wO .most)) [.str "some", .str "all"] = false; decide +kernel
  | .leaf .has _ => by show inV (V.str (wL .has)) [.str "some", .str "all"] = false; decide +kernel
  | .leaf .lacks _ => by show inV (V.str (wL .lacks)) [.str "some", .str "all"] = false; decide +kernel
  | .leaf .var _ => by show inV (V.str (wL .var)) [.str "some", .str "all"] = false; decide +kernel
theorem is_any : ∀ h : Hd, inV (V.str (hw h)) [.str "false", .str "or", .str "some"] = anyH h
  | .nul true => by show inV (V.str (wN true)) [.str "false", .str "or", .str "some"] = false; decide +kernel
  | .nul false => by show inV (V.str (wN false)) [.str "false", .str "or", .str "some"] = true; decide +kernel
  | .two true => by show inV (V.str (wT true)) [.str "false", .str "or", .str "some"] = false; decide +kernel
  | .two false => by show inV (V.str (wT false)) [.str "false", .str "or", .str "some"] = true; decide +kernel
  | .one .some _ => by show inV (V.str (wO .some)) [.str "false", .str "or", .str "some"] = true; decide +kernel
  | .one .all _ => by show inV (V.str (wO .all)) [.str "false", .str "or", .str "some"] = false; decide +kernel
  | .one .least _ => by show inV (V.str (wO .least)) [.str "false", .str "or", .str "some"] = false; decide +kernel
  | .one .most _ => by show inV (V.str (wO .most)) [.str "false", .str "or", .str "some"] = false; decide +kernel
  | .leaf .has _ => by show inV (V.str (wL .has)) [.str "false", .str "or", .str "some"] = false; decide +kernel
  | .leaf .lacks _ => by show inV (V.str (wL .lacks)) [.str "false", .str "or", .str "some"] = false; decide +kernel
  | .leaf .var _ => by show inV (V.str (wL .var)) [.str "false", .str "or", .str "some"] = false; decide +kernel
/-- the states that a part asks of -/
def stOf (W : Wd) (f : F) (s : Nat) : List Int := match f with
  | .one k l _ => if k.bind = true then [(s : Int)] else W.beh s l
  | _ => [(s : Int)]
def needR (W : Wd) (t : F) (f : F) (j s : Nat) (ms : List Nat) (X : List Int) : List Qn := X.flatMap fun z => (inPlaces f j).map fun p => ent t p z.toNat ms
theorem flat_one {α β : Type} (f : α → β) : ∀ l : List α, (l.flatMap fun x => [f x]) = l.map f
  | [] => rfl
  | x :: l => by rw [List.flatMap_cons, flat_one f l]; rfl
theorem flat_nil {α β : Type} : ∀ l : List α, (l.flatMap fun _ => ([] : List β)) = []
  | [] => rfl
  | x :: l => by rw [List.flatMap_cons, flat_nil l]; rfl
theorem onw_rest {W : Wd} {t f : F} {j s : Nat} {ms : List Nat} (es : subAt t j = f) (h1 : isB f = false) (h2 : vH f.hd = false) (h3 : hlH f.hd = false) : onw W t ⟨j, s, ms⟩ = (anyH f.hd, needR W t f j s ms (stOf W f s)) := by
  unfold onw
  rw [show subAt t (Qn.mk j s ms).pl = f from es]
  cases f with
  | nul b =>
    show (!b, []) = _
    unfold needR stOf inPlaces
    cases b <;> rfl
  | leaf k n =>
    cases k with
    | has => cases h3
    | lacks => cases h3
    | var => cases h2
  | two b f g =>
    show (!b, _) = _
    unfold needR stOf inPlaces
    cases b <;> rfl
  | one k l f =>
    cases k with
    | least => cases h1
    | most => cases h1
    | some =>
      show (true, _) = (true, _)
      unfold needR stOf inPlaces
      exact congrArg _ (flat_one _ _).symm
    | all =>
      show (false, _) = (false, _)
      unfold needR stOf inPlaces
      exact congrArg _ (flat_one _ _).symm
theorem stOf_nn {W : Wd} (G : W.Good) {f : F} {s : Nat} : ∀ y ∈ stOf W f s, 0 ≤ y := fun y hy => by
  unfold stOf at hy
  split at hy
  · split at hy
    · rw [List.mem_singleton] at hy; omega
    · exact (beh_in G hy).1
  · rw [List.mem_singleton] at hy; omega
theorem stOf_len {W : Wd} {f : F} {s : Nat} (h : W.steps.length ≤ 200) : (stOf W f s).length ≤ 200 := by
  unfold stOf
  split
  · split
    · exact Nat.le_trans (Nat.le_refl 1) (by decide)
    · unfold Wd.beh
      rw [List.length_map]
      exact Nat.le_trans (List.length_filter_le _ _) h
  · exact Nat.le_trans (Nat.le_refl 1) (by decide)
theorem in_len : ∀ (f : F) (j : Nat), (inPlaces f j).length ≤ 2
  | .nul _, _ => Nat.zero_le _
  | .leaf _ _, _ => Nat.zero_le _
  | .two _ _ _, _ => Nat.le_refl _
  | .one _ _ _, _ => Nat.le_succ _
theorem QAll.snoc {K : PySem.W.Frag} {H : Hp} {as : List Addr} {L : List Qn} {a : Addr} {q : Qn} (h : QAll K H as L) (z : QAt K H a q) : QAll K H (as ++ [a]) (L ++ [q]) :=
  ⟨by rw [List.length_append, List.length_append, h.1]; rfl, fun i b Y e1 e2 => by
    rcases get_snoc e1 with e1' | ⟨q, rfl⟩
    · rcases get_snoc e2 with e2' | ⟨q, rfl⟩
      · exact h.2 i b Y e1' e2'
      · have := get_len e1'; rw [h.1] at this; omega
    · rcases get_snoc e2 with e2' | ⟨q2, rfl⟩
      · have := get_len e2'; rw [← h.1] at this; omega
      · exact z⟩
theorem QAll.lk {K : PySem.W.Frag} {H H' : Hp} {as : List Addr} {L : List Qn} (s : LKp H H') (h : QAll K H as L) : QAll K H' as L := ⟨h.1, fun i a q e1 e2 => (h.2 i a q e1 e2).lk s⟩
section
variable {P : Program} {w : World} {K : PySem.W.Frag} {mg : Str → Option Value} {base : Heap} {C J B WC QC STP : Addr}
def spOnw (K : PySem.W.Frag) (C WC QC : Addr) : Sp := fun vs H Q _ => ∃ (x : QR) (t : F) (W : Wd) (a : Addr) (q : Qn), vs = [.ref x.p, .ref a] ∧ Qs K C WC QC H x t W ∧ QAt K H a q ∧ Vq W t q ∧ Closed t ∧ W.Good ∧ W.n ≤ 8 ∧ W.steps.length ≤ 200 ∧ t.size ≤ 1000 ∧ (∀ X ∈ W.facts, X.length ≤ 8) ∧ q.ms.length ≤ 900 ∧
  Res K H (onw W t q).1 (onw W t q).2 Q
theorem ok_onward {f : Addr} {fd : FuncData} {fe fb : Addr} {fde fdb : FuncData} (FF : Fun K "_onward" "Questions._onward" s_Questions__onward f fd) (T : Txt K mg C J B) (TQ : TxtQ K QC) (TC : TxtC K WC) (TP : TxtP K mg STP)
    (m_Questions_entered : Meth K QC "entered" fe) (g_Questions_entered : FnOk P w K mg base CX0 1 fe fde a_Questions_entered (spEnt K C WC QC)) (b_Questions_entered : L2.Binds K fde a_Questions_entered [])
    (m_Questions_bound : Meth K QC "_bound" fb) (g_Questions_bound : FnOk P w K mg base CX0 2 fb fdb a_Questions__bound (spBnd K C WC QC)) (b_Questions_bound : L2.Binds K fdb a_Questions__bound [])
    (h_followers : Has P w K mg base "followers" 1 a_followers (spFol K WC)) : FnOk P w K mg base CX0 3 f fd a_Questions__onward (spOnw K C WC QC) := by
  refine FF.ok sc_Questions__onward (fun vs H Q E h => ?_) (fun cdv A outer s H vs Q E hr h => ?_)
  · obtain ⟨x, t, W, a, q, rfl, _⟩ := h
    rfl
  · obtain ⟨x, t, W, a, q, rfl, o, qa, v, hc, gd0, n8, st2, tsz, fc8, ml, kk⟩ := h
    obtain ⟨j, s, ms⟩ := q
    obtain ⟨b, h1, h2⟩ := qa
    simp only at h1 h2 ml
    have vp : j < t.size := v.pl
    have vs' : s < W.n := v.st
    obtain ⟨R, hR, PR⟩ := id o.pt
    obtain ⟨r, pr, hr', hpr, z⟩ := PartsAt.nth (pa := x.pa) PR vp
    have es := subAt_of hr'
    have vl : ms.length = depB t j := v.len
    refine ⟨_, (pss_cons (ps_asg (pv 1) (pg_tup rfl (pgs_cons (pg_name (i := 2) sc_Questions__onward.nd rfl (.inl rfl)) (pgs_cons (pg_name (i := 3) sc_Questions__onward.nd rfl (.inl rfl)) (pgs_cons (pg_name (i := 4) sc_Questions__onward.nd rfl (.inr rfl)) pgs_nil)))))
      (pss_cons (ps_set (i := 5) sc_Questions__onward.nd rfl (.inr rfl) (pe_ix ix_list (pe_fld (pv 0) rfl) (pv 2) (fun _ _ => rfl)))
      (pss_cons (ps_set (i := 6) sc_Questions__onward.nd rfl (.inl rfl) (pe_ix ix_tup (pe_fld (pv 5) rfl) pe_int (fun _ _ => rfl)))
      (pss_cons (ps_if (pt_cmpR op_in_seq (pv 6) (pe_glob rfl T.m_BINDERS (show RelV (.ref _) _ from rfl)) (by rfl)) (pss_one (ps_ret (pe_meth (pv 0) TQ.cl m_Questions_bound g_Questions_bound (hr.mono (by omega)) b_Questions_bound .nil pass0 (pa_cons (pv 5) (pa_cons (pv 3) (pa_cons (pv 4) pa_nil)))))) pss_nil)
      (pss_cons (ps_if (pt_cmpR op_eq (pv 6) pe_str (nomark _)) (pss_cons (ps_set (i := 7) sc_Questions__onward.nd rfl (.inl rfl) (pe_ix ix_list (pe_fld (pv 0) rfl) (pv 2) (fun _ _ => rfl)))
      (pss_one (ps_ret (pe_tup (pa_cons pe_bl (pa_cons (pe_lst (pa_cons (pe_tup (pa_cons (pv 7) (pa_cons (pv 3) (pa_cons (pe_slice sl_tupA (pv 4) po_none (po_some (pe_ix ix_list (pe_fld (pv 0) rfl) (pv 7) (fun _ _ => rfl)))) pa_nil)))) pa_nil)) pa_nil)))))) pss_nil)
      (pss_cons (ps_if (pt_cmpR op_in_seq (pv 6) (pe_tup (pa_cons pe_str (pa_cons pe_str pa_nil))) (by rfl)) (pss_one (ps_ret (pe_tup (pa_cons (pe_cmpR op_eq (pe_cmpR op_in_seq (pe_ix ix_tup (pe_fld (pv 5) rfl) pe_int (fun _ _ => rfl)) (pe_ix ix_tup (pe_fld (pe_fld (pv 0) rfl) rfl) (pv 3) (fun _ _ => rfl)) (by rfl)) (pe_cmpR op_eq (pv 6) pe_str (nomark _)) (nomark _)) (pa_cons (pe_lst pa_nil) pa_nil))))) pss_nil)
      (pss_cons (ps_set (i := 8) sc_Questions__onward.nd rfl (.inl rfl) (pe_lst (pa_cons (pv 3) pa_nil)))
      (pss_cons (ps_if (pt_cmpR op_in_seq (pv 6) (pe_glob rfl TP.m_STEPPERS (show RelV (.ref _) _ from rfl)) (by rfl)) (pss_one (ps_set (i := 8) sc_Questions__onward.nd rfl (.inl rfl) (pe_callH h_followers (hr.mono (by omega)) (pa_cons (pe_fld (pv 0) rfl) (pa_cons (pv 3) (pa_cons (pe_ix ix_tup (pe_fld (pv 5) rfl) pe_int (fun _ _ => rfl)) pa_nil)))))) pss_nil)
      (pss_cons (ps_setLc2 (i := 9) (own := [("each", 10), ("inner", 11)]) (vs1 := [11]) rfl sc_Questions__onward.nd rfl rfl (sw_true rfl rfl rfl (by decide +kernel)) (pi_list (pv 8)) (blkOk_by (own := [("each", 10), ("inner", 11)]) (N := n_Questions__onward) (sc := defScope s_Questions__onward) (by decide +kernel)) (by decide) (fun _ _ _ _ _ => (pg_name (i := 10) sc_Questions__onward.nd rfl (.inl rfl))) (fun _ _ _ _ _ => pts_nil) (fun _ _ _ _ _ => (@id (PI _ _ _ (iList K _)) (pi_list (show PE _ _ (tFld K _ "inner") from pe_fld (pv 5) rfl)))) (fun _ _ _ _ _ => (pg_name (i := 11) sc_Questions__onward.nd rfl (.inl rfl))) (fun _ _ _ _ _ => pts_nil) (fun _ _ _ _ _ => (pe_meth (pv 0) TQ.cl m_Questions_entered g_Questions_entered (hr.mono (by omega)) b_Questions_entered .nil pass0 (pa_cons (pv 11) (pa_cons (pv 10) (pa_cons (pv 4) pa_nil))))))
      (pss_one (ps_ret (pe_tup (pa_cons (pe_cmpR op_in_seq (pv 6) (pe_tup (pa_cons pe_str (pa_cons pe_str (pa_cons pe_str pa_nil)))) (by rfl)) (pa_cons (pv 9) pa_nil)))))))))))))), ?_⟩
    refine ⟨.ref a, rfl, a, _, rfl, h1, rfl, .int (j : Nat), _, rfl, .int (s : Nat), _, rfl, .ref b, _, rfl, rfl, ?_⟩
    refine ⟨.ref x.p, rfl, x.p, QC, x.dx, _, .ref x.pa, rfl, o.ob, TQ.cl, TQ.nP, rfl, .int (j : Nat), rfl, x.pa, _, _, .ref pr.p, rfl, rfl, hR, atI_nat (j := j) (by rw [List.getElem?_map, hpr]; rfl), ?_⟩
    refine ⟨.ref pr.p, rfl, pr.p, C, pr.dx, _, .ref pr.h, rfl, z.ob, T.cl, T.nH, fld_head _ _ _, pr.h, _, _, _, rfl, rfl, z.hd, hd_at0 _, ?_⟩
    refine ⟨_, rfl, B, _, rfl, .inr (T.c_BINDERS _), rfl, rfl, _, rfl, ?_⟩
    rw [if_neg Bool.false_ne_true, in_binders, isB_hd]
    obtain ⟨sub, ar, stk⟩ := r
    simp only at es z ⊢
    cases hb' : isB sub with
    | true =>
      refine iteT ?_
      obtain ⟨k, y, f', rfl, hk⟩ : ∃ k y f', sub = .one k y f' ∧ k.bind = true := by
        cases sub with
        | one k y f' => exact ⟨k, y, f', rfl, hb'⟩
        | nul b => cases hb'
        | leaf k n => cases hb'
        | two b f g => cases hb'
      obtain ⟨m, ms', rfl⟩ : ∃ m ms', ms = m :: ms' := by
        cases ms with
        | nil =>
          unfold depB at vl
          rw [es, hb', if_pos rfl] at vl
          simp at vl
        | cons m ms' => exact ⟨m, ms', rfl⟩
      rw [List.length_cons] at ml
      exact ⟨.ref x.p, rfl, x.p, x.dx, _, rfl, o.ob, rfl, .ref pr.p, rfl, .int (s : Nat), rfl, .ref b, rfl, x, t, W, j, s, b, m, ms', pr, k, y, f', ar, stk, rfl, o, hr', hk, z, h2, by omega, by omega, kk⟩
    | false =>
      refine iteF ?_
      refine ⟨_, rfl, rfl, _, rfl, ?_⟩
      rw [is_var]
      cases hv : vH sub.hd with
      | true =>
        refine iteT ?_
        obtain ⟨n, rfl⟩ : ∃ n, sub = .leaf .var n := by
          cases sub with
          | leaf k n => cases k with
            | var => exact ⟨n, rfl⟩
            | has => cases hv
            | lacks => cases hv
          | nul b => cases hv
          | two b f g => cases hv
          | one k y f => cases hv
        have hx : n ∈ stk.map (·.1) := hc _ (List.mem_of_getElem? hr') n rfl
        obtain ⟨p, r', hp, lp, hr2, ib⟩ := infos_pos stk j _ hr' rfl hx
        have pB : posB n stk = p := by unfold posB; rw [hp]; exact Int.toNat_natCast p
        have dB : depB t p = r'.stk.length + 1 := by
          unfold depB
          rw [subAt_of hr2, ib, if_pos rfl, stkAt_of hr2]
        have eo : onw W t ⟨j, s, ms⟩ = (true, [⟨p, s, ms.drop (ms.length - depB t p)⟩]) := by
          unfold onw
          rw [show subAt t (Qn.mk j s ms).pl = .leaf .var n from es]
          show (true, [Qn.mk (posB n (stkAt t j)) s (ms.drop (ms.length - depB t (posB n (stkAt t j))))]) = _
          rw [stkAt_of hr']
          simp only [pB]
        rw [eo] at kk
        have gp : ((placeL t).map V.int)[j]? = some (.int (p : Nat)) := by
          unfold placeL
          rw [List.getElem?_map, List.getElem?_map, hr']
          show some (V.int (placeOf ⟨.leaf .var n, ar, stk⟩)) = _
          rw [show placeOf ⟨.leaf .var n, ar, stk⟩ = posOf n stk from rfl, hp]
        have gd : ((depthL t).map V.int)[p]? = some (.int ((depB t p : Nat) : Int)) := by
          unfold depthL
          rw [List.getElem?_map, List.getElem?_map, hr2, dB]
          show some (V.int ((r'.stk.length : Int) + if isB r'.sub = true then 1 else 0)) = _
          rw [ib, if_pos rfl]
          rfl
        refine ⟨.ref x.p, rfl, x.p, QC, x.dx, _, .ref x.la, rfl, o.ob, TQ.cl, TQ.nB, rfl, .int (j : Nat), rfl, x.la, _, _, .int (p : Nat), rfl, rfl, SqL.of o.bi, atI_nat (j := j) gp, ?_⟩
        refine ⟨.int (p : Nat), rfl, .int (s : Nat), rfl, .ref b, rfl, .ref x.p, rfl, x.p, QC, x.dx, _, .ref x.da, rfl, o.ob, TQ.cl, TQ.nD, rfl, .int (p : Nat), rfl, x.da, _, _, .int ((depB t p : Nat) : Int), rfl, rfl, SqL.of o.de, atI_nat (j := p) gd, ((depB t p : Nat) : Int), rfl, ?_⟩
        refine slA_ok h2 fun c1 H1 s1 g1 => ?_
        have ec : cutV (msV ms) none (some ((depB t p : Nat) : Int)) = msV (ms.drop (ms.length - depB t p)) := by
          rw [cut_to]
          unfold msV
          rw [← List.map_take, List.take_reverse]
        rw [ec] at g1
        refine ⟨by show 3 ≤ sizeLine; decide, fun a1 ha1 => ?_⟩
        have s2 := Same.new (o := .tup [.int (p : Nat), .int (s : Nat), .ref c1]) ha1
        have z2 : QAt K (upd H1 a1 (.tup [.int (p : Nat), .int (s : Nat), .ref c1])) a1 ⟨p, s, ms.drop (ms.length - depB t p)⟩ := ⟨c1, SqT.of upd_same, SqT.same s2 g1⟩
        generalize upd H1 a1 (.tup [.int (p : Nat), .int (s : Nat), .ref c1]) = H2 at s2 z2
        refine ⟨by show 1 ≤ sizeLine; decide, fun l hl => ⟨by show 2 ≤ sizeLine; decide, fun r0 hr0 => ?_⟩⟩
        have s3 := Same.new (o := .lst [.ref a1]) hl
        have z3 : (upd H2 l (.lst [.ref a1])) l = some (.lst (([a1] : List Addr).map V.ref)) := upd_same
        generalize upd H2 l (.lst [.ref a1]) = H3 at s3 z3 hr0
        exact kk r0 l [a1] _ (s1.trans (s2.trans (s3.trans (Same.new hr0)))) (SqT.of upd_same) (Same.new hr0 _ _ z3) (QAll.one (z2.same (s3.trans (Same.new hr0))))
      | false =>
        refine iteF ?_
        refine ⟨_, rfl, by show 2 ≤ sizeLine; decide, fun o1 ho1 => ?_⟩
        have s1 := Same.new (o := .tup [.str "has", .str "lacks"]) ho1
        have z1 : (upd H o1 (.tup [.str "has", .str "lacks"])) o1 = some (.tup [.str "has", .str "lacks"]) := upd_same
        generalize upd H o1 (.tup [.str "has", .str "lacks"]) = H1 at s1 z1
        refine ⟨o1, _, rfl, .inr (SqT.of z1), rfl, rfl, _, rfl, ?_⟩
        rw [if_neg Bool.false_ne_true, is_hl]
        have o1' := o.same s1
        have z' := z.same s1
        cases hh : hlH sub.hd with
        | true =>
          refine iteT ?_
          obtain ⟨k, n, rfl, hk⟩ : ∃ k n, sub = .leaf k n ∧ (k = .has ∨ k = .lacks) := by
            cases sub with
            | leaf k n => cases k with
              | var => cases hh
              | has => exact ⟨_, n, rfl, .inl rfl⟩
              | lacks => exact ⟨_, n, rfl, .inr rfl⟩
            | nul b => cases hh
            | two b f g => cases hh
            | one k y f => cases hh
          obtain ⟨H0, wdx, l, f, ta, tb, d, ras, as, wo⟩ := o1'.wo
          have ls : s < ras.length := by rw [wo.rw.1]; exact vs'
          have hX : W.facts[s]? = some W.facts[s] := List.getElem?_eq_getElem vs'
          have hra : ras[s]? = some ras[s] := List.getElem?_eq_getElem ls
          have row := wo.rw.2 s _ _ hra hX
          have eat : W.at (s : Nat) = W.facts[s] := by
            unfold Wd.at
            rw [Int.toNat_natCast, hX]
            rfl
          have zh := z'.hd
          refine ⟨.ref pr.p, rfl, pr.p, C, pr.dx, _, .ref pr.h, rfl, z'.ob, T.cl, T.nH, fld_head _ _ _, pr.h, _, 1, .int n, rfl, rfl, zh, atI_nat (j := 1) rfl, .ref x.p, rfl, x.p, QC, x.dx, _, .ref x.wp, rfl, o1'.ob, TQ.cl, TQ.nW, rfl, x.wp, WC, wdx, _, .ref ta, rfl, wo.ob, TC.cl, TC.nS, rfl, .int (s : Nat), rfl, ta, _, _, .ref ras[s], rfl, rfl, wo.st, atI_nat (j := s) (by rw [List.getElem?_map, hra]; rfl), ras[s], _, rfl, .inr row, rfl, flat_ints _, ?_⟩
          refine ⟨_, rfl, rfl, rfl, Nat.zero_le _, fun l1 hl1 => ⟨by show 2 ≤ sizeLine; decide, fun r0 hr0 => ?_⟩⟩
          have s2 := Same.new (o := .lst []) hl1
          have z2 : (upd H1 l1 (.lst [])) l1 = some (.lst (([] : List Addr).map V.ref)) := upd_same
          generalize upd H1 l1 (.lst []) = H2 at s2 z2 hr0
          have eo : onw W t ⟨j, s, ms⟩ = (decide (sIn (W.at (s : Nat)) n = decide (k = .lacks)), []) := by
            unfold onw
            rw [show subAt t (Qn.mk j s ms).pl = .leaf k n from es]
            rcases hk with rfl | rfl <;> rfl
          have hd2 : decide (V.str (hw (F.leaf k n).hd) = V.str "lacks") = decide (k = .lacks) := by
            rcases hk with rfl | rfl
            · show decide (V.str (wL .has) = V.str "lacks") = decide (Leaf.has = Leaf.lacks)
              decide +kernel
            · show decide (V.str (wL .lacks) = V.str "lacks") = decide (Leaf.lacks = Leaf.lacks)
              decide +kernel
          have e1 : (V.bl (decide (V.bl (inV (.int n) (W.facts[s].map V.int)) = V.bl (decide (V.str (hw (F.leaf k n).hd) = V.str "lacks"))))) = V.bl (onw W t ⟨j, s, ms⟩).1 := by
            rw [in_ints, hd2, eo]
            show V.bl (decide (V.bl (decide (n ∈ W.facts[s])) = V.bl (decide (k = .lacks)))) = V.bl (decide (sIn (W.at (s : Nat)) n = decide (k = .lacks)))
            rw [eat]
            congr 1
            exact decide_eq_decide.mpr ⟨fun h => V.bl.inj h, fun h => congrArg V.bl h⟩
          refine kk r0 l1 [] _ (s1.trans (s2.trans (Same.new hr0))) ?_ (Same.new hr0 _ _ z2) ?_
          · rw [← e1]
            exact SqT.of upd_same
          · rw [eo]
            exact QAll.nil _ _
        | false =>
          refine iteF ?_
          rw [onw_rest es hb' hv hh] at kk
          refine ⟨.int (s : Nat), rfl, by show 1 ≤ sizeLine; decide, fun la hla => ?_⟩
          have s2 := Same.new (o := .lst [.int (s : Nat)]) hla
          have z2 : (upd H1 la (.lst [.int (s : Nat)])) la = some (.lst (([(s : Int)] : List Int).map V.int)) := upd_same
          generalize upd H1 la (.lst [.int (s : Nat)]) = H2 at s2 z2
          have o2 := o1'.same s2
          have zz := z'.same s2
          refine ⟨_, rfl, STP, _, rfl, .inr (TP.c_STEPPERS _), rfl, rfl, _, rfl, ?_⟩
          rw [if_neg Bool.false_ne_true, is_st]
          refine joinS (fun σ5 G5 => ∃ lb, σ5 = [some (.ref x.p), some (.ref a), some (.int (j : Nat)), some (.int (s : Nat)), some (.ref b), some (.ref pr.p), some (.str (hw sub.hd)), none, some (.ref lb), none, none, none] ∧ Same H2 G5 ∧ IL G5 lb (stOf W sub s)) ?_ ?_ ?_
          · rintro σ5 G5 ⟨lb, rfl, s5, il⟩
            have o5 := o2.same s5
            have z5 := zz.same s5
            have b5 : SqT K G5 b (msV ms) := SqT.same (s1.trans (s2.trans s5)) h2
            have hst0 : ∀ y ∈ stOf W sub s, 0 ≤ y := stOf_nn gd0
            have hstl : (stOf W sub s).length ≤ 200 := stOf_len st2
            have hin : (inPlaces sub j).length ≤ 2 := in_len sub j
            have hpl : ∀ p ∈ inPlaces sub j, p < t.size := fun p hp => by
              obtain ⟨m, hm, rfl⟩ := List.getElem_of_mem hp
              obtain ⟨r', h', _⟩ := (kids_recs hr').2 m _ (List.getElem?_eq_getElem hm)
              have := (List.getElem?_eq_some_iff.mp h').1
              rwa [show (infos t).length = t.size from info_len _ _ _ _] at this
            refine ⟨.ref lb, rfl, lb, rfl, ⟨_, SqL.of il⟩, fun D hD => ?_⟩
            refine lc2_it walk_list (fun m G => Same G5 G ∧ ∃ bs : List Addr, G D = some (.lst (bs.map V.ref)) ∧ QAll K G bs (needR W t sub j s ms ((stOf W sub s).take m))) ⟨Same.new hD, [], upd_same, QAll.nil _ _⟩ (fun m G _ q => SqL.of (q.1 _ _ il)) ?_ ?_
            · rintro m y G G' hm ⟨sG, bs, gD, qs⟩ ⟨rfl, hx⟩
              rw [List.length_map] at hm
              obtain ⟨y, hy, rfl⟩ := ints_nth hx
              have y0 := hst0 y (List.mem_of_getElem? hy)
              obtain ⟨n, rfl⟩ := Int.eq_ofNat_of_zero_le y0
              have zG := z5.same sG
              have nm : needR W t sub j s ms ((stOf W sub s).take (m + 1)) = needR W t sub j s ms ((stOf W sub s).take m) ++ (inPlaces sub j).map fun p => ent t p n ms := by
                unfold needR
                rw [List.take_add_one, hy, List.flatMap_append]
                simp
              have ln : (needR W t sub j s ms ((stOf W sub s).take m)).length ≤ 400 := by
                have := flat_len (l := (stOf W sub s).take m) (f := fun z => (inPlaces sub j).map fun p => ent t p z.toNat ms) (b := 2) fun z _ => by rw [List.length_map]; exact hin
                rw [List.length_take] at this
                unfold needR
                omega
              refine ⟨rfl, .ref pr.p, rfl, pr.p, C, pr.dx, _, .ref pr.l, rfl, zG.ob, T.cl, T.nI, rfl, pr.l, rfl, ⟨_, SqL.of zG.inn⟩, ?_⟩
              refine in2_it walk_list (fun i G' => Same G5 G' ∧ ∃ cs : List Addr, G' D = some (.lst (cs.map V.ref)) ∧ QAll K G' cs (needR W t sub j s ms ((stOf W sub s).take m) ++ ((inPlaces sub j).take i).map fun p => ent t p n ms)) ⟨sG, bs, gD, by simpa using qs⟩ (fun i G' _ q => SqL.of ((z5.same q.1).inn)) ?_ ?_
              · rintro i u G1 G2 hi ⟨sG1, cs, gD1, qs1⟩ ⟨rfl, hu⟩
                rw [List.length_map] at hi
                obtain ⟨p, hp⟩ : ∃ p, (inPlaces sub j)[i]? = some p := ⟨_, List.getElem?_eq_getElem hi⟩
                rw [List.getElem?_map, hp] at hu
                obtain rfl := Option.some.inj hu
                refine ⟨rfl, .ref x.p, rfl, x.p, x.dx, _, rfl, sG1 _ _ o5.ob, rfl, .int (p : Nat), rfl, .int (n : Nat), rfl, .ref b, rfl, x, t, W, p, n, b, ms, rfl, o5.same sG1, hpl p (List.mem_of_getElem? hp), SqT.same sG1 b5, by omega, fun a' G3 s3 qa' => ?_⟩
                have gD3 := s3 _ _ gD1
                have lc : cs.length ≤ 402 := by
                  rw [qs1.1, List.length_append, List.length_map, List.length_take]
                  omega
                refine ⟨_, gD3, by rw [List.length_map]; exact small1000 (by omega), fun b' u e => by rw [upd_ne (ne_of_none e hD)]; exact s3 _ _ (sG1 _ _ e), cs ++ [a'], by rw [upd_same, List.map_append]; rfl, ?_⟩
                rw [List.take_add_one, hp, Option.toList_some, List.map_append, ← List.append_assoc]
                exact QAll.snoc ((qs1.same s3).lk (LKp.upd gD3)) (qa'.lk (LKp.upd gD3))
              · rintro G1 ⟨sG1, cs, gD1, qs1⟩
                rw [List.length_map, List.take_length] at qs1
                exact ⟨sG1, cs, gD1, by rw [nm]; exact qs1⟩
            · rintro G6 ⟨s6, bs, gD, qs⟩
              rw [List.length_map, List.take_length] at qs
              refine ⟨_, rfl, by show 3 ≤ sizeLine; decide, fun o3 ho3 => ?_⟩
              have s7 := Same.new (o := .tup [.str "false", .str "or", .str "some"]) ho3
              have z7 : (upd G6 o3 (.tup [.str "false", .str "or", .str "some"])) o3 = some (.tup [.str "false", .str "or", .str "some"]) := upd_same
              generalize upd G6 o3 (.tup [.str "false", .str "or", .str "some"]) = G7 at s7 z7
              refine ⟨o3, _, rfl, .inr (SqT.of z7), rfl, rfl, .ref D, rfl, by show 2 ≤ sizeLine; decide, fun r0 hr0 => ?_⟩
              rw [if_neg Bool.false_ne_true, is_any]
              have s8 := Same.new (o := .tup [.bl (anyH sub.hd), .ref D]) hr0
              exact kk r0 D bs _ (s1.trans (s2.trans (s5.trans (s6.trans (s7.trans s8))))) (SqT.of upd_same) (s8 _ _ (s7 _ _ gD)) (qs.same (s7.trans s8))
          · intro hst cont
            obtain ⟨k, y, f', rfl, hk⟩ : ∃ k y f', sub = .one k y f' ∧ k.bind = false := by
              cases sub with
              | one k y f' => exact ⟨k, y, f', rfl, hb'⟩
              | nul b => cases hst
              | leaf k n => cases hst
              | two b f g => cases hst
            obtain ⟨H0, wdx, l, f, ta, tb, d, ras, as, wo⟩ := o2.wo
            refine ⟨.ref x.p, rfl, x.p, QC, x.dx, _, .ref x.wp, rfl, o2.ob, TQ.cl, TQ.nW, rfl, .int (s : Nat), rfl, .ref pr.p, rfl, pr.p, C, pr.dx, _, .ref pr.h, rfl, zz.ob, T.cl, T.nH, fld_head _ _ _, pr.h, _, 1, .int y, rfl, rfl, zz.hd, atI_nat (j := 1) rfl, H0, x.wp, wdx, l, f, ta, tb, d, ras, as, _, _, _, _, rfl, wo, fun b' G s3 _ il => cont _ _ ⟨b', rfl, s3, ?_⟩⟩
            unfold stOf
            simp only [hk]
            exact il
          · intro hst
            refine ⟨la, rfl, fun _ _ e => e, ?_⟩
            have e : stOf W sub s = [(s : Int)] := by
              unfold stOf
              cases sub with
              | one k y f' =>
                cases k with
                | least => rfl
                | most => rfl
                | some => cases hst
                | all => cases hst
              | nul b => rfl
              | leaf k n => rfl
              | two b f g => rfl
            rw [e]
            exact z2
end
end Fw

set_option maxRecDepth 100000
set_option maxHeartbeats 8000000
namespace Fw
open PySem PySem.Spec PyProof.Rows L2 GxR
theorem onw_len {W : Wd} {t : F} {q : Qn} (h : W.steps.length ≤ 200) : (onw W t q).2.length ≤ 200 := by
  have hb : ∀ s l, (W.beh s l).length ≤ 200 := fun s l => by
    unfold Wd.beh
    rw [List.length_map]
    exact Nat.le_trans (List.length_filter_le _ _) h
  unfold onw
  split
  · exact Nat.zero_le _
  · exact Nat.zero_le _
  · exact Nat.zero_le _
  · exact Nat.le_trans (Nat.le_refl 1) (by decide)
  · exact Nat.le_trans (Nat.le_refl 2) (by decide)
  · split
    · exact Nat.zero_le _
    · exact Nat.le_trans (Nat.le_refl 1) (by decide)
  · split
    · exact Nat.zero_le _
    · exact Nat.le_trans (Nat.le_refl 1) (by decide)
  · show (List.map _ _).length ≤ 200
    rw [List.length_map]
    exact hb _ _
  · show (List.map _ _).length ≤ 200
    rw [List.length_map]
    exact hb _ _
/-- what is known of a question -/
def knQ (kvs : List NK) (u : Qn) : V := (valN kvs (keyQ u)).getD .non
def KO (K : PySem.W.Frag) (G : Hp) (W : Wd) (t : F) (kvs : List NK) : Prop := ∀ e ∈ kvs, ∃ u, e.1 = keyQ u ∧ Vq W t u ∧ e.2.2 = .bl (truQ W t u) ∧ QAt K G e.2.1 u
theorem KO.keys {K : PySem.W.Frag} {G : Hp} {W : Wd} {t : F} {kvs : List NK} (h : KO K G W t kvs) : KeysOk K G kvs := fun e he => by
  obtain ⟨u, e1, _, _, qa⟩ := h e he
  rw [e1]
  exact ⟨qa.key, keyQ_depth u⟩
theorem KO.val {K : PySem.W.Frag} {G : Hp} {W : Wd} {t : F} {kvs : List NK} (h : KO K G W t kvs) {u : Qn} {v : V} (e : valN kvs (keyQ u) = some v) : v = .bl (truQ W t u) := by
  unfold valN at e
  obtain ⟨p, hp, rfl⟩ := Option.map_eq_some_iff.mp e
  obtain ⟨u', e1, _, e2, _⟩ := h p (List.mem_of_find?_eq_some hp)
  have := List.find?_some hp
  have : p.1 = keyQ u := of_decide_eq_true this
  rw [e1] at this
  rw [e2, keyQ_inj this]
theorem KO.kn {K : PySem.W.Frag} {G : Hp} {W : Wd} {t : F} {kvs : List NK} (h : KO K G W t kvs) (u : Qn) : knQ kvs u = .non ∧ valN kvs (keyQ u) = none ∨ knQ kvs u = .bl (truQ W t u) := by
  unfold knQ
  cases e : valN kvs (keyQ u) with
  | none => exact .inl ⟨rfl, rfl⟩
  | some v => rw [h.val e]; exact .inr rfl
theorem kn_flat {K : PySem.W.Frag} {G : Hp} {W : Wd} {t : F} {kvs : List NK} (h : KO K G W t kvs) (L : List Qn) : (L.map (knQ kvs)).all flatV = true := List.all_eq_true.mpr fun v hv => by
  obtain ⟨u, _, rfl⟩ := List.mem_map.mp hv
  rcases h.kn u with ⟨e, _⟩ | e <;> rw [e] <;> rfl
theorem kn_len {K : PySem.W.Frag} {G : Hp} {W : Wd} {t : F} {kvs : List NK} (h : KO K G W t kvs) (nd : (kvs.map (·.1)).Nodup) (hd : t.depth ≤ 4) : kvs.length ≤ (allQ t.size W.n 3).length := by
  have := nodup_leG (Vs := (allQ t.size W.n 3).map keyQ) nd fun k hk => by
    obtain ⟨e, he, rfl⟩ := List.mem_map.mp hk
    obtain ⟨u, e1, v, _⟩ := h e he
    rw [e1]
    exact List.mem_map.mpr ⟨u, mem_allQ v hd, rfl⟩
  rwa [List.length_map, List.length_map] at this
theorem st_lenQ {W : Wd} {t : F} {S : List Qn} (G : W.Good) (hc : Closed t) (v : ∀ u ∈ S, Vq W t u) (c : Chn W t S) (hd : t.depth ≤ 4) : S.length ≤ (allQ t.size W.n 3).length :=
  nodup_leG (chn_nodup G hc v c) fun u hu => mem_allQ (v u hu) hd
structure An (P : Program) (w : World) (K : PySem.W.Frag) (H G : Hp) (x : QR) (t : F) (W : Wd) (q : Qn) (la : Addr) (as : List Addr) (S : List Qn) (kvs : List NK) : Prop where
  bt : But x.ka H G
  li : G la = some (.lst ((as.map V.ref).reverse))
  qa : QAll K G as S
  kn : G x.ka = some (DNs P w x.ka kvs)
  ko : KO K G W t kvs
  nd : (kvs.map (·.1)).Nodup
  ch : Chn W t S
  vq : ∀ u ∈ S, Vq W t u
  un : ∀ u ∈ S, valN kvs (keyQ u) = none
  e0 : S = [] → valN kvs (keyQ q) = some (.bl (truQ W t q))
  e1 : S ≠ [] → S.getLast? = some q
theorem KO.lk {K : PySem.W.Frag} {G G' : Hp} {W : Wd} {t : F} {kvs : List NK} (s : LKp G G') (h : KO K G W t kvs) : KO K G' W t kvs := fun e he => by
  obtain ⟨u, a, b, c, d⟩ := h e he
  exact ⟨u, a, b, c, d.lk s⟩
theorem KO.butE {K : PySem.W.Frag} {G G' : Hp} {W : Wd} {t : F} {kvs : List NK} {d : Addr} {z : Heap → Prop} (hd : G d = some (.ext z)) (s : But d G G') (h : KO K G W t kvs) : KO K G' W t kvs := fun e he => by
  obtain ⟨u, a, b, c, f⟩ := h e he
  exact ⟨u, a, b, c, f.butE hd s⟩
theorem QAll.butE {K : PySem.W.Frag} {H H' : Hp} {as : List Addr} {L : List Qn} {d : Addr} {z : Heap → Prop} (hd : H d = some (.ext z)) (s : But d H H') (h : QAll K H as L) : QAll K H' as L := ⟨h.1, fun i a q e1 e2 => (h.2 i a q e1 e2).butE hd s⟩
theorem QAll.cons {K : PySem.W.Frag} {H : Hp} {as : List Addr} {L : List Qn} {a : Addr} {q : Qn} (h : QAll K H as L) (z : QAt K H a q) : QAll K H (a :: as) (q :: L) := ⟨by rw [List.length_cons, List.length_cons, h.1], fun i b u e1 e2 => by
  cases i with
  | zero => cases e1; cases e2; exact z
  | succ i => exact h.2 i b u (by simpa using e1) (by simpa using e2)⟩
theorem QAll.tail {K : PySem.W.Frag} {H : Hp} {as : List Addr} {L : List Qn} {a : Addr} {q : Qn} (h : QAll K H (a :: as) (q :: L)) : QAll K H as L := ⟨by simpa using h.1, fun i b u e1 e2 => h.2 (i + 1) b u (by simpa using e1) (by simpa using e2)⟩
theorem first_of {y : V} : ∀ {ys : List V}, inV y ys = true → ∃ j z, ys[j]? = some z ∧ eqV z y = true ∧ ∀ (m : Nat) (z' : V), m < j → ys[m]? = some z' → eqV z' y = false
  | [], h => by cases h
  | a :: ys, h => by
    cases c : eqV a y with
    | true => exact ⟨0, a, rfl, c, fun m z' hm => absurd hm (Nat.not_lt_zero m)⟩
    | false =>
      have h' : inV y ys = true := by
        unfold inV at h ⊢
        rw [List.any_cons, c, Bool.false_or] at h
        exact h
      obtain ⟨j, z, h1, h2, h3⟩ := first_of h'
      refine ⟨j + 1, z, h1, h2, fun m z' hm e => ?_⟩
      cases m with
      | zero => cases e; exact c
      | succ m => exact h3 m z' (by omega) e
theorem meas_pop {M k s : Nat} (h : k + 1 ≤ M) : (M - (k + 1)) * (M + 2) + (M + 1 - s) < (M - k) * (M + 2) + (M + 1 - (s + 1)) := by
  obtain ⟨m, rfl⟩ : ∃ m, M = m + (k + 1) := ⟨M - (k + 1), by omega⟩
  rw [show m + (k + 1) - (k + 1) = m by omega, show m + (k + 1) - k = m + 1 by omega, Nat.succ_mul]
  omega
section
variable {P : Program} {w : World} {K : PySem.W.Frag} {mg : Str → Option Value} {base : Heap} {C J B WC QC STP : Addr}
theorem An.same {H G G' : Hp} {x : QR} {t : F} {W : Wd} {q : Qn} {la : Addr} {as : List Addr} {S : List Qn} {kvs : List NK} (s : Same G G') (h : An P w K H G x t W q la as S kvs) : An P w K H G' x t W q la as S kvs :=
  ⟨fun b o n e => s _ _ (h.bt b o n e), s _ _ h.li, h.qa.same s, s _ _ h.kn, h.ko.lk (LKp.same s), h.nd, h.ch, h.vq, h.un, h.e0, h.e1⟩
theorem An.push {H G : Hp} {x : QR} {t : F} {W : Wd} {q : Qn} {la a' : Addr} {as : List Addr} {S : List Qn} {kvs : List NK} {top u : Qn} (hla : H la = none) (h : An P w K H G x t W q la as (top :: S) kvs)
    (hu : u ∈ (onw W t top).2) (vu : Vq W t u) (nu : valN kvs (keyQ u) = none) (qu : QAt K G a' u) : An P w K H (upd G la (.lst ((as.map V.ref).reverse ++ [.ref a']))) x t W q la (a' :: as) (u :: top :: S) kvs := by
  have nla : x.ka ≠ la := ne_of h.kn h.li (by intro z; cases z)
  refine ⟨fun b o n e => by rw [upd_ne (ne_of_none e hla)]; exact h.bt b o n e, by rw [upd_same, List.map_cons, List.reverse_cons], (h.qa.lk (LKp.upd h.li)).cons (qu.lk (LKp.upd h.li)), by rw [upd_ne nla]; exact h.kn, h.ko.lk (LKp.upd h.li), h.nd, ⟨hu, h.ch⟩, fun z hz => ?_, fun z hz => ?_, (fun e => by cases e), fun _ => ?_⟩
  · rcases List.mem_cons.mp hz with rfl | hz
    · exact vu
    · exact h.vq z hz
  · rcases List.mem_cons.mp hz with rfl | hz
    · exact nu
    · exact h.un z hz
  · rw [List.getLast?_cons_cons]
    exact h.e1 (by simp)
theorem An.pop {H G : Hp} {x : QR} {t : F} {W : Wd} {q : Qn} {la a' : Addr} {as : List Addr} {S : List Qn} {kvs : List NK} {top : Qn} (gd : W.Good) (hc : Closed t) (hla : H la = none) (h : An P w K H G x t W q la (a' :: as) (top :: S) kvs) :
    An P w K H (upd (upd G la (.lst ((as.map V.ref).reverse))) x.ka (DNs P w x.ka (kvs ++ [(keyQ top, a', .bl (truQ W t top))]))) x t W q la as S (kvs ++ [(keyQ top, a', .bl (truQ W t top))]) := by
  have nla : x.ka ≠ la := ne_of h.kn h.li (by intro z; cases z)
  have qt : QAt K G a' top := h.qa.2 0 _ _ rfl rfl
  have l1 : LKp G (upd G la (.lst ((as.map V.ref).reverse))) := LKp.upd h.li
  have k1 : (upd G la (.lst ((as.map V.ref).reverse))) x.ka = some (DNs P w x.ka kvs) := by rw [upd_ne nla]; exact h.kn
  have g1 : (upd G la (.lst ((as.map V.ref).reverse))) la = some (.lst ((as.map V.ref).reverse)) := upd_same
  have b1 : ∀ b o, H b = some o → b ≠ x.ka → (upd G la (.lst ((as.map V.ref).reverse))) b = some o := fun b o e n => by rw [upd_ne (ne_of_none e hla)]; exact h.bt b o n e
  have q1 := h.qa.lk l1
  have o1 := h.ko.lk l1
  have t1 := qt.lk l1
  generalize upd G la (.lst ((as.map V.ref).reverse)) = G1 at k1 g1 b1 q1 o1 t1
  have bt2 : But x.ka G1 (upd G1 x.ka (DNs P w x.ka (kvs ++ [(keyQ top, a', .bl (truQ W t top))]))) := fun b o n e => by rw [upd_ne n]; exact e
  have nt := h.un top List.mem_cons_self
  have up := chn_up gd hc h.vq h.ch
  have dist : ∀ u ∈ S, keyQ u ≠ keyQ top := fun u hu e => by
    have := (List.pairwise_cons.mp up).1 u hu
    rw [keyQ_inj e] at this
    exact Nat.lt_irrefl _ this
  refine ⟨fun b o n e => by rw [upd_ne n]; exact b1 b o e n, by rw [upd_ne nla.symm]; exact g1, (q1.butE k1 bt2).tail, upd_same, fun e he => ?_, ?_, ?_, fun u hu => h.vq u (List.mem_cons_of_mem _ hu), fun u hu => ?_, fun e => ?_, fun ne => ?_⟩
  · rcases List.mem_append.mp he with he | he
    · exact o1.butE k1 bt2 e he
    · rw [List.mem_singleton] at he
      subst he
      exact ⟨top, rfl, h.vq top List.mem_cons_self, rfl, t1.butE k1 bt2⟩
  · rw [List.map_append, List.nodup_append]
    refine ⟨h.nd, by simp, fun k hk k' hk' e => ?_⟩
    rw [List.map_cons, List.map_nil, List.mem_singleton] at hk'
    subst hk'
    subst e
    obtain ⟨e, he, e2⟩ := List.mem_map.mp hk
    have : (valN kvs (keyQ top)).isSome = true := by
      unfold valN
      rw [Option.isSome_map, List.find?_isSome]
      exact ⟨e, he, decide_eq_true e2⟩
    rw [nt] at this
    cases this
  · have := h.ch
    cases S with
    | nil => trivial
    | cons b r => exact this.2
  · rw [valN_snoc nt, if_neg (dist u hu)]
    exact h.un u (List.mem_cons_of_mem _ hu)
  · subst e
    have := h.e1 (by simp)
    have e : top = q := Option.some.inj this
    rw [← e, valN_snoc nt, if_pos rfl]
  · have := h.e1 (by simp)
    cases S with
    | nil => exact absurd rfl ne
    | cons b r => rwa [List.getLast?_cons_cons] at this
def spAns (P : Program) (w : World) (K : PySem.W.Frag) (C WC QC : Addr) : Sp := fun vs H Q _ => ∃ (x : QR) (t : F) (W : Wd) (a : Addr) (q : Qn), vs = [.ref x.p, .ref a] ∧ Qs K C WC QC H x t W ∧ H x.ka = some (DNs P w x.ka []) ∧ QAt K H a q ∧ Vq W t q ∧ Closed t ∧ W.Good ∧ W.n ≤ 4 ∧ W.steps.length ≤ 200 ∧ t.depth ≤ 4 ∧ (∀ X ∈ W.facts, X.length ≤ 8) ∧
  ∀ H', But x.ka H H' → Q (.bl (truQ W t q)) H'
theorem ok_answer {f : Addr} {fd : FuncData} {fo : Addr} {fdo : FuncData} (FF : Fun K "answer" "Questions.answer" s_Questions_answer f fd) (T : Txt K mg C J B) (TQ : TxtQ K QC)
    (m_Questions_onward : Meth K QC "_onward" fo) (g_Questions_onward : FnOk P w K mg base CX0 3 fo fdo a_Questions__onward (spOnw K C WC QC)) (b_Questions_onward : L2.Binds K fdo a_Questions__onward []) : FnOk P w K mg base CX0 4 f fd a_Questions_answer (spAns P w K C WC QC) := by
  refine FF.ok sc_Questions_answer (fun vs H Q E h => ?_) (fun cdv A outer s H vs Q E hr h => ?_)
  · obtain ⟨x, t, W, a, q, rfl, _⟩ := h
    rfl
  · obtain ⟨x, t, W, a, q, rfl, o, hka, qa, v, hc, gd, n4, st2, d4, fc8, kk⟩ := h
    have tsz : t.size ≤ 15 := by
      have := F.size_depth t
      have : 2 ^ t.depth ≤ 2 ^ 4 := Nat.pow_le_pow_right (by decide) d4
      omega
    have aq := allQ_len tsz n4
    refine ⟨_, (pss_cons (ps_set (i := 2) sc_Questions_answer.nd rfl (.inl rfl) (pe_lst (pa_cons (pv 1) pa_nil)))
      (pss_cons (ps_while PassesOwn.never (pt_truth (pv 2) (by intro _; rfl)) (pss_cons (ps_asg (pe_meth (pv 0) TQ.cl m_Questions_onward g_Questions_onward (hr.mono (by omega)) b_Questions_onward .nil pass0 (pa_cons (pe_ix ix_list (pv 2) (pe_un un_neg pe_int) (fun _ _ => rfl)) pa_nil)) (pg_tup rfl (pgs_cons (pg_name (i := 3) sc_Questions_answer.nd rfl (.inl rfl)) (pgs_cons (pg_name (i := 4) sc_Questions_answer.nd rfl (.inl rfl)) pgs_nil))))
      (pss_cons (ps_setLc (i := 5) (own := [("each", 6)]) (g := gName 6) rfl sc_Questions_answer.nd rfl rfl (sw_true rfl rfl rfl (by decide +kernel)) (pi_list (pv 4)) (blkOk_by (own := [("each", 6)]) (N := n_Questions_answer) (sc := defScope s_Questions_answer) (by decide +kernel)) (fun _ _ _ _ _ => (pg_name (i := 6) sc_Questions_answer.nd rfl (.inl rfl))) (fun _ _ _ _ _ => pts_nil) (fun _ _ _ _ _ => (@id (PE _ _ (tDGetN P w K _ _)) (pe_dgetN hr.units (show PE _ _ (tFld K _ "_known") from pe_fld (pv 0) rfl) (pv 6) ⟨rfl, rfl, rfl, rfl⟩))))
      (pss_one (ps_if (pt_cmpR op_in_seq (pv 3) (pv 5) (by rfl)) (pss_one (ps_asg (pv 3) (pg_sub (pe_fld (pv 0) rfl) (pe_bm0 PySem.F.plainAttrs_list PySem.F.slot_list_pop PySem.F.type_list_pop mt_pop (pv 2)) (@id (PSet _ (rSetN P w K)) (set_nest hr.units))))) (pss_one (ps_if (pt_cmpR op_in_seq pe_non (pv 5) (by rfl)) (pss_one (ps_expr (pe_bm PySem.F.plainAttrs_list PySem.F.slot_list_append PySem.F.type_list_append mt_append (pv 2) (pa_cons (pe_ix ix_list (pv 4) (pe_bm PySem.F.plainAttrs_list PySem.F.slot_list_index PySem.F.type_list_index mt_index (pv 5) (pa_cons pe_non pa_nil)) (fun _ _ => rfl)) pa_nil)))) (pss_one (ps_asg (pe_not (pv 3)) (pg_sub (pe_fld (pv 0) rfl) (pe_bm0 PySem.F.plainAttrs_list PySem.F.slot_list_pop PySem.F.type_list_pop mt_pop (pv 2)) (@id (PSet _ (rSetN P w K)) (set_nest hr.units))))))))))))
      (pss_one (ps_ret (pe_ix (@id (IxR _ (rIxN P w K)) (ix_nest hr.units)) (pe_fld (pv 0) rfl) (pv 1) (fun _ _ => rfl)))))), ?_⟩
    refine ⟨.ref a, rfl, by show 1 ≤ sizeLine; decide, fun la hla => ?_⟩
    have A0 : An P w K H (upd H la (.lst [.ref a])) x t W q la [a] [q] [] :=
      ⟨fun b o n e => by rw [upd_ne (ne_of_none e hla)]; exact e, upd_same, QAll.one (qa.same (Same.new hla)), Same.new hla _ _ hka, (fun e h => by cases h), List.nodup_nil, trivial, (fun u hu => by rw [List.mem_singleton.mp hu]; exact v), fun u hu => rfl, (fun e => by cases e), fun _ => rfl⟩
    generalize upd H la (.lst [.ref a]) = H0 at A0
    refine ⟨fun d σ G => ∃ (as : List Addr) (S : List Qn) (kvs : List NK) (y3 y4 y5 : Option V), σ = [some (.ref x.p), some (.ref a), some (.ref la), y3, y4, y5, none] ∧ An P w K H G x t W q la as S kvs ∧
      d = ((allQ t.size W.n 3).length - kvs.length) * ((allQ t.size W.n 3).length + 2) + ((allQ t.size W.n 3).length + 1 - S.length), ⟨_, [a], [q], [], none, none, none, rfl, A0, rfl⟩, ?_⟩
    rintro d σ G ⟨as, S, kvs, y3, y4, y5, rfl, A1, rfl⟩
    refine ⟨.ref la, rfl, !((as.map V.ref).reverse).isEmpty, .inl ⟨_, SqL.of A1.li, rfl⟩, ?_⟩
    have lk := kn_len A1.ko A1.nd d4
    have ls := st_lenQ gd hc A1.vq A1.ch d4
    have oG : Qs K C WC QC G x t W := o.butE hka A1.bt
    cases S with
    | nil =>
      have : as = [] := List.eq_nil_of_length_eq_zero A1.qa.1
      subst this
      refine iteF ?_
      have qa' : QAt K G a q := qa.butE hka A1.bt
      exact ⟨.ref x.p, rfl, x.p, QC, x.dx, _, .ref x.ka, rfl, oG.ob, TQ.cl, TQ.nK, rfl, .ref a, rfl, x.ka, a, kvs, keyQ q, _, rfl, rfl, A1.kn, A1.ko.keys, qa'.key, keyQ_depth q, A1.e0 rfl, kk G A1.bt⟩
    | cons top S =>
      obtain ⟨a0, as', rfl⟩ : ∃ a0 as', as = a0 :: as' := by
        cases as with
        | nil => have := A1.qa.1; simp at this
        | cons a0 as' => exact ⟨a0, as', rfl⟩
      have e1 : (!(((a0 :: as').map V.ref).reverse).isEmpty) = true := by simp
      rw [e1]
      refine iteT ?_
      refine ⟨_, fun σ' H' z => z, ?_⟩
      have vt := A1.vq top List.mem_cons_self
      have qt : QAt K G a0 top := A1.qa.2 0 _ _ rfl rfl
      have hget : ((a0 :: as').map V.ref).reverse = (as'.map V.ref).reverse ++ [.ref a0] := by simp
      have li := A1.li
      rw [hget] at li
      obtain ⟨tt, tn⟩ := onw_ok gd hc vt
      have ol := onw_len (q := top) (t := t) st2
      have mlen : top.ms.length ≤ 900 := by have := vq_len vt; omega
      refine ⟨.ref x.p, rfl, x.p, x.dx, _, rfl, oG.ob, rfl, .ref la, rfl, 1, rfl, la, _, -1, .ref a0, rfl, rfl, SqL.of li, at_last _ _, x, t, W, a0, top, rfl, oG, qt, vt, hc, gd, by omega, st2, by omega, fc8, mlen, fun r l bs G1 s1 hr1 hl1 qb => ?_⟩
      refine ⟨r, _, rfl, hr1, rfl, .bl _, _, rfl, .ref l, _, rfl, rfl, ?_⟩
      have A2 := A1.same s1
      have oG2 := oG.same s1
      refine ⟨.ref l, rfl, l, rfl, ⟨_, SqL.of hl1⟩, fun D hD => ?_⟩
      refine lc_list (xs := bs.map V.ref) (fun i F => Same G1 F ∧ F D = some (.lst (((onw W t top).2.take i).map (knQ kvs)))) ⟨Same.new hD, upd_same⟩ (fun i F _ q => SqL.of (q.1 _ _ hl1)) ?_ ?_
      · rintro i y F hy ⟨sF, gD⟩
        have il : i < bs.length := by
          have := (List.getElem?_eq_some_iff.mp hy).1
          rwa [List.length_map] at this
        have hb := List.getElem?_eq_getElem il
        rw [List.getElem?_map, hb] at hy
        obtain rfl := Option.some.inj hy
        have hu : (onw W t top).2[i]? = some ((onw W t top).2[i]'(by rw [← qb.1]; exact il)) := List.getElem?_eq_getElem _
        generalize ((onw W t top).2[i]'(by rw [← qb.1]; exact il)) = u at hu
        have qu := qb.2 i _ u hb hu
        have A3 := A2.same sF
        refine ⟨rfl, .ref x.p, rfl, x.p, QC, x.dx, _, .ref x.ka, rfl, sF _ _ oG2.ob, TQ.cl, TQ.nK, rfl, x.ka, kvs, rfl, A3.kn, A3.ko.keys, .ref bs[i], rfl, bs[i], kvs, keyQ u, rfl, A3.kn, A3.ko.keys, (qu.same sF).key, keyQ_depth u, _, gD, by rw [List.length_map, List.length_take]; exact small1000 (by omega), fun b' z e => by rw [upd_ne (ne_of_none e hD)]; exact sF b' z e, ?_⟩
        rw [upd_same, List.take_add_one, hu, List.map_append]
        rfl
      · rintro G3 ⟨s3, gD⟩
        rw [List.length_map, qb.1, List.take_length] at gD
        have A3 := A2.same s3
        have oG3 := oG2.same s3
        have hl3 := s3 _ _ hl1
        have qb3 := qb.same s3
        have kf := kn_flat A3.ko (onw W t top).2
        clear qt li oG A1 A2 oG2 hr1 hl1 qb hget
        cases ho : onw W t top with
        | mk d L =>
        rw [ho] at tt tn ol gD qb3 kf
        simp only at tt tn ol gD qb3 kf ⊢
        refine ⟨.bl d, rfl, .ref D, rfl, D, _, rfl, .inl (SqL.of gD), rfl, kf, _, rfl, ?_⟩
        rw [if_neg Bool.false_ne_true]
        have li3 := A3.li
        have hget : ((a0 :: as').map V.ref).reverse = (as'.map V.ref).reverse ++ [.ref a0] := by simp
        rw [hget] at li3
        have nla : x.ka ≠ la := ne_of A3.kn A3.li (by intro z; cases z)
        have nt := A3.un top List.mem_cons_self
        have setk : truQ W t top = truQ W t top → ∃ G', G' = upd G3 la (.lst ((as'.map V.ref).reverse)) ∧ G' x.ka = some (DNs P w x.ka kvs) ∧ KeysOk K G' kvs ∧ KIs K G' (.ref a0) (keyQ top) := fun _ =>
          ⟨_, rfl, by rw [upd_ne nla]; exact A3.kn, (A3.ko.lk (LKp.upd A3.li)).keys, ((A3.qa.2 0 _ _ rfl rfl).lk (LKp.upd A3.li)).key⟩
        obtain ⟨G', eG', k1, k2, k3⟩ := setk rfl
        have PP := An.pop gd hc hla A3
        rw [← eG'] at PP
        have lk' := kn_len PP.ko PP.nd d4
        rw [List.length_append, List.length_singleton] at lk'
        cases c : inV (.bl d) (L.map (knQ kvs)) with
        | true =>
          refine iteT ?_
          have td : truQ W t top = d := by
            obtain ⟨v', hv', ev⟩ := List.any_eq_true.mp c
            obtain ⟨u, hu, rfl⟩ := List.mem_map.mp hv'
            rcases A3.ko.kn u with ⟨e, _⟩ | e
            · rw [e] at ev; cases ev
            · rw [e] at ev
              have e2 : truQ W t u = d := eq_of_beq ev
              rw [tt]
              exact if_pos (List.mem_map.mpr ⟨u, hu, e2⟩)
          rw [td] at PP
          refine ⟨.bl d, rfl, .ref x.p, rfl, x.p, QC, x.dx, _, .ref x.ka, rfl, oG3.ob, TQ.cl, TQ.nK, rfl, .ref la, rfl, .inl ⟨rfl, _, SqL.of li3⟩, la, _, .ref a0, rfl, rfl, li3, by simp, ?_⟩
          rw [List.dropLast_concat, ← eG']
          refine ⟨x.ka, a0, kvs, keyQ top, rfl, rfl, k1, k2, k3, keyQ_depth top, nt, by show kvs.length < 16777216; omega, ?_⟩
          refine ⟨_, ?_, as', S, _, _, _, _, rfl, PP, rfl⟩
          rw [List.length_append, List.length_singleton]
          exact meas_pop lk'
        | false =>
          refine iteF ?_
          refine ⟨.ref D, rfl, D, _, rfl, .inl (SqL.of gD), rfl, kf, _, rfl, ?_⟩
          rw [if_neg Bool.false_ne_true]
          cases c2 : inV .non (L.map (knQ kvs)) with
          | true =>
            refine iteT ?_
            obtain ⟨j, z, hj, ez, first⟩ := first_of c2
            obtain ⟨u, hu, rfl⟩ : ∃ u, L[j]? = some u ∧ knQ kvs u = z := by
              rw [List.getElem?_map] at hj
              cases e : L[j]? with
              | none => rw [e] at hj; cases hj
              | some u => rw [e] at hj; exact ⟨u, rfl, Option.some.inj hj⟩
            have nu : valN kvs (keyQ u) = none := by
              rcases A3.ko.kn u with ⟨_, e⟩ | e
              · exact e
              · rw [e] at ez; cases ez
            have jl : j < bs.length := by rw [qb3.1]; exact (List.getElem?_eq_some_iff.mp hu).1
            have hb := List.getElem?_eq_getElem jl
            have hul : u ∈ (onw W t top).2 := by rw [ho]; exact List.mem_of_getElem? hu
            have AA := An.push hla A3 hul (tn u (List.mem_of_getElem? hu)) nu (qb3.2 j _ u hb hu)
            have ls' := st_lenQ gd hc AA.vq AA.ch d4
            rw [List.length_cons, List.length_cons] at ls'
            refine ⟨.ref la, rfl, .inl ⟨rfl, _, SqL.of li3⟩, .ref l, rfl, .ref D, rfl, .inl ⟨rfl, _, SqL.of gD⟩, D, _, .non, j, _, rfl, rfl, SqL.of gD, rfl, kf, hj, ez, first, l, _, _, .ref bs[j], rfl, rfl, SqL.of hl3, atI_nat (j := j) (by rw [List.getElem?_map, hb]; rfl), la, _, _, rfl, rfl, li3, ?_, ?_⟩
            · rw [List.length_append, List.length_reverse, List.length_map]
              have := A3.qa.1
              rw [List.length_cons, List.length_cons] at this
              show as'.length + 1 < 16777216
              omega
            · rw [hget] at AA
              refine ⟨_, ?_, _, _, kvs, _, _, _, rfl, AA, rfl⟩
              simp only [List.length_cons]
              omega
          | false =>
            refine iteF ?_
            have td : truQ W t top = !d := by
              rw [tt]
              refine if_neg fun h => ?_
              obtain ⟨u, hu, e2⟩ := List.mem_map.mp h
              have c' := List.any_eq_false.mp c _ (List.mem_map.mpr ⟨u, hu, rfl⟩)
              have c2' := List.any_eq_false.mp c2 _ (List.mem_map.mpr ⟨u, hu, rfl⟩)
              rcases A3.ko.kn u with ⟨e, _⟩ | e
              · rw [e] at c2'; exact c2' rfl
              · rw [e, e2] at c'
                exact c' (beq_self_eq_true d)
            rw [td] at PP
            refine ⟨.bl d, rfl, d, rfl, .ref x.p, rfl, x.p, QC, x.dx, _, .ref x.ka, rfl, oG3.ob, TQ.cl, TQ.nK, rfl, .ref la, rfl, .inl ⟨rfl, _, SqL.of li3⟩, la, _, .ref a0, rfl, rfl, li3, by simp, ?_⟩
            rw [List.dropLast_concat, ← eG']
            refine ⟨x.ka, a0, kvs, keyQ top, rfl, rfl, k1, k2, k3, keyQ_depth top, nt, by show kvs.length < 16777216; omega, ?_⟩
            refine ⟨_, ?_, as', S, _, _, _, _, rfl, PP, rfl⟩
            rw [List.length_append, List.length_singleton]
            exact meas_pop lk'
end
end Fw

set_option maxRecDepth 100000
set_option maxHeartbeats 8000000
namespace Fw
open PySem PySem.Spec PyProof.Rows L2 GxR
theorem not_part {C dx QC dx' h l wp : Addr} {a : Int} {fs : List (Str × V)} : HO.ins C dx (pf (.ref h) a l) ≠ HO.ins QC dx' (("_world", V.ref wp) :: fs) := fun z => by
  have e := congrArg (fun o => match o with | HO.ins _ _ gs => (gs.map Prod.fst).head? | _ => (none : Option Str)) z
  exact absurd e (show ¬ (some ("head" : Str) = some ("_world" : Str)) by decide +kernel)
theorem SqL.butO {K : PySem.W.Frag} {H H' : Hp} {a d : Addr} {xs : List V} {C dx : Addr} {fs : List (Str × V)} (hd : H d = some (.ins C dx fs)) (s : But d H H') (h : SqL K H a xs) : SqL K H' a xs := by
  rcases h with h | h
  · rcases h with h | ⟨u, h⟩
    · exact .inl (.inl (s _ _ (ne_of h hd (by intro z; cases z)) h))
    · exact .inl (.inr ⟨u, s _ _ (ne_of h hd (by intro z; cases z)) h⟩)
  · exact .inr h
theorem Parts.butO {K : PySem.W.Frag} {C : Addr} {H H' : Hp} {d QC dx wp : Addr} {R : List PRec} {L : List (Hd × Int)} {fs : List (Str × V)} (hd : H d = some (.ins QC dx (("_world", V.ref wp) :: fs))) (s : But d H H') (h : Parts K C H R L) : Parts K C H' R L :=
  ⟨h.1, fun i pr hd' a e1 e2 => by
    have z := h.2 i pr hd' a e1 e2
    exact ⟨s _ _ (ne_of z.ob hd not_part) z.ob, SqT.butO hd s z.hd, s _ _ (ne_of z.inn hd (by intro z; cases z)) z.inn⟩⟩
theorem PartsAt.butO {K : PySem.W.Frag} {C : Addr} {H H' : Hp} {pa d QC dx wp : Addr} {L : List (Hd × Int)} {fs : List (Str × V)} (hd : H d = some (.ins QC dx (("_world", V.ref wp) :: fs))) (s : But d H H') (h : PartsAt K C H pa L) : PartsAt K C H' pa L := by
  obtain ⟨R, h1, h2⟩ := h
  exact ⟨R, SqL.butO hd s h1, h2.butO hd s⟩
theorem near_dep {t : F} {i : Nat} {r : Rec} (hr : (infos t)[i]? = some r) : (topPos r.stk < 0 ∧ r.stk = []) ∨ ∃ p : Nat, topPos r.stk = (p : Int) ∧ p < i ∧ (depthL t)[p]? = some (r.stk.length : Int) := by
  cases e : r.stk with
  | nil => exact .inl ⟨by decide, rfl⟩
  | cons y rest =>
    obtain ⟨y, q⟩ := y
    obtain ⟨hq, k, f, a, h2, h3⟩ := infos_stk i i r y q rest (Nat.le_refl _) hr e
    refine .inr ⟨q, rfl, hq, ?_⟩
    unfold depthL
    rw [List.getElem?_map, h2]
    show some ((rest.length : Int) + if isB (.one k y f) = true then 1 else 0) = _
    rw [show isB (.one k y f) = true from h3, if_pos rfl]
    rfl
section
variable {P : Program} {w : World} {K : PySem.W.Frag} {mg : Str → Option Value} {base : Heap} {C J B WC QC STP : Addr}
def spQI (P : Program) (w : World) (K : PySem.W.Frag) (C WC QC : Addr) : Sp := fun vs H Q _ => ∃ (H0 : Hp) (p dx wp : Addr) (v : V) (t : F) (W : Wd), vs = [.ref p, .ref wp, v] ∧ H p = some (.ins QC dx []) ∧ Same H0 H ∧ H0 p = none ∧ WoX K WC H0 wp W ∧ IsF K H0 v t ∧ t.size ≤ 1000 ∧
  ∀ (x : QR) H', x.p = p → Same H0 H' → H0 x.ka = none → Qs K C WC QC H' x t W → H' x.ka = some (DNs P w x.ka []) → Q .non H'
theorem ok_Questions_init {f : Addr} {fd : FuncData} (FF : Fun K "__init__" "Questions.__init__" s_Questions_init f fd) (T : Txt K mg C J B) (TQ : TxtQ K QC) (h_parts_of : Has P w K mg base "parts_of" 3 a_parts_of (spParts K C))
    (h_nearest_around : Has P w K mg base "nearest_around" 1 a_nearest_around (spNear K C B)) (h_binder_places : Has P w K mg base "binder_places" 2 a_binder_places (spPlaces K C)) : FnOk P w K mg base CX0 4 f fd a_Questions_init (spQI P w K C WC QC) := by
  refine FF.ok sc_Questions_init (fun vs H Q E h => ?_) (fun cdv A outer s H vs Q E hr h => ?_)
  · obtain ⟨H0, p, dx, wp, v, t, W, rfl, _⟩ := h
    rfl
  · obtain ⟨H0, p, dx, wp, v, t, W, rfl, g0, s0, n0, wo, ht, tsz, kk⟩ := h
    refine ⟨_, (pss_cons (ps_fld (pv 0) (pv 1) rfl)
      (pss_cons (ps_fld (pv 0) (pe_callH h_parts_of (hr.mono (by omega)) (pa_cons (pv 2) pa_nil)) rfl)
      (pss_cons (ps_fld (pv 0) (pe_callH h_binder_places (hr.mono (by omega)) (pa_cons (pe_fld (pv 0) rfl) pa_nil)) rfl)
      (pss_cons (ps_fld (pv 0) (pe_lst pa_nil) rfl)
      (pss_cons (ps_for PassesOwn.never rfl (pi_zip rfl T.z_zip (pa_cons (pe_fld (pv 0) rfl) (pa_cons (pe_callH h_nearest_around (hr.mono (by omega)) (pa_cons (pe_fld (pv 0) rfl) (pa_cons (pe_glob rfl T.m_BINDERS (show RelV (.ref _) _ from rfl)) pa_nil))) pa_nil))) (pg_tup rfl (pgs_cons (pg_name (i := 3) sc_Questions_init.nd rfl (.inl rfl)) (pgs_cons (pg_name (i := 4) sc_Questions_init.nd rfl (.inl rfl)) pgs_nil))) (pss_cons (ps_set (i := 5) sc_Questions_init.nd rfl (.inl rfl) (pe_ifExp (pt_cmpR op_lt (pv 4) pe_int (nomark _)) pe_int (pe_ix ix_list (pe_fld (pv 0) rfl) (pv 4) (fun _ _ => rfl))))
      (pss_one (ps_expr (pe_bm PySem.F.plainAttrs_list PySem.F.slot_list_append PySem.F.type_list_append mt_append (pe_fld (pv 0) rfl) (pa_cons (pe_ifExp (pt_cmpR op_in_seq (pe_ix ix_tup (pe_fld (pv 3) rfl) pe_int (fun _ _ => rfl)) (pe_glob rfl T.m_BINDERS (show RelV (.ref _) _ from rfl)) (by rfl)) (pe_op op_add (pv 5) pe_int) (pv 5)) pa_nil))))))
      (pss_one (ps_fld (pv 0) (@id (PE _ _ (tDNewN P w)) pe_dnewN) rfl))))))), ?_⟩
    have up : ∀ {G : Hp} (o : HO), Same H0 G → Same H0 (upd G p o) := fun o s b u e => by rw [upd_ne (ne_of_none e n0)]; exact s b u e
    refine ⟨.ref wp, rfl, .ref p, rfl, p, QC, dx, _, rfl, g0, TQ.cl, TQ.nW, by show 0 < 1000; decide, ?_⟩
    have s1 := up (.ins QC dx [("_world", V.ref wp)]) s0
    have g1 : (upd H p (.ins QC dx [("_world", V.ref wp)])) p = some (.ins QC dx [("_world", V.ref wp)]) := upd_same
    rw [show putF "_world" (V.ref wp) ([] : List (Str × V)) = ([("_world", V.ref wp)] : List (Str × V)) from rfl]
    generalize upd H p (.ins QC dx [("_world", V.ref wp)]) = H1 at s1 g1
    refine ⟨v, rfl, v, t, rfl, ht.same s1, tsz, fun pa H2 s12 PA => ?_⟩
    have s2 := s1.trans s12
    have g2 := s12 _ _ g1
    refine ⟨.ref p, rfl, p, QC, dx, _, rfl, g2, TQ.cl, TQ.nP, by show 1 < 1000; decide, ?_⟩
    rw [show putF "_parts" (V.ref pa) ([("_world", V.ref wp)] : List (Str × V)) = ([("_world", V.ref wp), ("_parts", V.ref pa)] : List (Str × V)) from rfl]
    have s3 := up (.ins QC dx [("_world", V.ref wp), ("_parts", V.ref pa)]) s2
    have g3 : (upd H2 p (.ins QC dx [("_world", V.ref wp), ("_parts", V.ref pa)])) p = some (.ins QC dx [("_world", V.ref wp), ("_parts", V.ref pa)]) := upd_same
    have P3 : PartsAt K C (upd H2 p (.ins QC dx [("_world", V.ref wp), ("_parts", V.ref pa)])) pa (pre t (-1) 0) := PA.butO g2 fun b o n e => by rw [upd_ne n]; exact e
    generalize upd H2 p (.ins QC dx [("_world", V.ref wp), ("_parts", V.ref pa)]) = H3 at s3 g3 P3
    refine ⟨.ref p, rfl, p, QC, dx, _, .ref pa, rfl, g3, TQ.cl, TQ.nP, rfl, pa, t, rfl, P3, tsz, fun la H4 s34 hla => ?_⟩
    have s4 := s3.trans s34
    have g4 := s34 _ _ g3
    refine ⟨.ref p, rfl, p, QC, dx, _, rfl, g4, TQ.cl, TQ.nB, by show 2 < 1000; decide, ?_⟩
    rw [show putF "_binders" (V.ref la) ([("_world", V.ref wp), ("_parts", V.ref pa)] : List (Str × V)) = ([("_world", V.ref wp), ("_parts", V.ref pa), ("_binders", V.ref la)] : List (Str × V)) from rfl]
    have s5 := up (.ins QC dx [("_world", V.ref wp), ("_parts", V.ref pa), ("_binders", V.ref la)]) s4
    have g5 : (upd H4 p (.ins QC dx [("_world", V.ref wp), ("_parts", V.ref pa), ("_binders", V.ref la)])) p = some (.ins QC dx [("_world", V.ref wp), ("_parts", V.ref pa), ("_binders", V.ref la)]) := upd_same
    have b45 : But p H4 (upd H4 p (.ins QC dx [("_world", V.ref wp), ("_parts", V.ref pa), ("_binders", V.ref la)])) := fun b o n e => by rw [upd_ne n]; exact e
    have P5 := (P3.same s34).butO g4 b45
    have l5 := b45 _ _ (ne_of hla g4 (by intro z; cases z)) hla
    generalize upd H4 p (.ins QC dx [("_world", V.ref wp), ("_parts", V.ref pa), ("_binders", V.ref la)]) = H5 at s5 g5 P5 l5
    clear s0 g0 s1 g1 s12 s2 g2 PA s3 g3 P3 s34 s4 g4 hla b45
    refine ⟨Nat.zero_le _, fun da hda => ?_⟩
    have s56 := Same.new (o := .lst []) hda
    have g6 := s56 _ _ g5
    have d6 : (upd H5 da (.lst [])) da = some (.lst []) := upd_same
    have npd : da ≠ p := ne_of d6 g6 (by intro z; cases z)
    generalize upd H5 da (.lst []) = H6 at s56 g6 d6
    refine ⟨.ref p, rfl, p, QC, dx, _, rfl, g6, TQ.cl, TQ.nD, by show 3 < 1000; decide, ?_⟩
    rw [show putF "_depths" (V.ref da) ([("_world", V.ref wp), ("_parts", V.ref pa), ("_binders", V.ref la)] : List (Str × V)) = ([("_world", V.ref wp), ("_parts", V.ref pa), ("_binders", V.ref la), ("_depths", V.ref da)] : List (Str × V)) from rfl]
    have b57 : But p H5 (upd H6 p (.ins QC dx [("_world", V.ref wp), ("_parts", V.ref pa), ("_binders", V.ref la), ("_depths", V.ref da)])) := fun b o n e => by rw [upd_ne n]; exact s56 _ _ e
    have g7 : (upd H6 p (.ins QC dx [("_world", V.ref wp), ("_parts", V.ref pa), ("_binders", V.ref la), ("_depths", V.ref da)])) p = some (.ins QC dx [("_world", V.ref wp), ("_parts", V.ref pa), ("_binders", V.ref la), ("_depths", V.ref da)]) := upd_same
    have d7 : (upd H6 p (.ins QC dx [("_world", V.ref wp), ("_parts", V.ref pa), ("_binders", V.ref la), ("_depths", V.ref da)])) da = some (.lst []) := by rw [upd_ne npd]; exact d6
    generalize upd H6 p (.ins QC dx [("_world", V.ref wp), ("_parts", V.ref pa), ("_binders", V.ref la), ("_depths", V.ref da)]) = H7 at b57 g7 d7
    clear s56 g6 d6
    have P7 := P5.butO g5 b57
    refine ⟨.ref p, rfl, p, QC, dx, _, .ref pa, rfl, g7, TQ.cl, TQ.nP, rfl, .ref p, rfl, p, QC, dx, _, .ref pa, rfl, g7, TQ.cl, TQ.nP, rfl, pa, t, rfl, P7, tsz, fun na H8 s78 hna => ?_⟩
    have g8 := s78 _ _ g7
    have d8 := s78 _ _ d7
    have b58 : But p H5 H8 := fun b o n e => s78 _ _ (b57 _ _ n e)
    have lenI : (infos t).length = t.size := info_len _ _ _ _
    have nnd : na ≠ da := fun e => by
      rw [e, d8] at hna
      have := congrArg (fun o => match o with | some (HO.lst xs) => xs.length | _ => 0) hna
      simp only [List.length_nil, List.length_map, nearL, lenI] at this
      have := F.size_pos t
      omega
    obtain ⟨R, hR, PR⟩ := id P5
    have lenR : R.length = t.size := by rw [PR.1, pre_len]
    have dL : (depthL t).length = t.size := by rw [depthL, List.length_map, lenI]
    refine ⟨pa, na, _, _, rfl, SqL.butO g5 b58 hR, SqL.of hna, for_it (walk_zip (n := t.size) (xs := R.map fun (r : PRec) => V.ref r.p) (ys := (nearL t).map V.int) (by rw [List.length_map, List.length_map, nearL, List.length_map, lenI, lenR, Nat.min_self]))
      (fun i σ G => ∃ (y3 y4 y5 : Option V), σ = [some (.ref p), some (.ref wp), some v, y3, y4, y5] ∧ But da H8 G ∧ G da = some (.lst (((depthL t).take i).map V.int)))
      ⟨none, none, none, rfl, fun b o _ e => e, d8⟩ (fun i σ G _ ⟨_, _, _, _, bG, _⟩ => ⟨SqL.butO g5 (fun b o n e => bG _ _ (ne_of_none e hda) (b58 _ _ n e)) hR, SqL.of (bG _ _ nnd hna)⟩) ?_ ?_⟩
    · rintro i y σ G G' hi ⟨y3, y4, y5, rfl, bG, gd⟩ ⟨tp, x1, x2, rfl, htp, rfl, e1, e2⟩
      have bG5 : But p H5 G := fun b o n e => bG _ _ (ne_of_none e hda) (b58 _ _ n e)
      obtain ⟨r, pr, hr', hpr, z0⟩ := PartsAt.nth (pa := pa) (PR.butO g5 bG5) hi
      have e1' : (R.map fun (r : PRec) => V.ref r.p)[i]? = some x1 := e1
      have e2' : ((nearL t).map V.int)[i]? = some x2 := e2
      rw [List.getElem?_map, hpr] at e1'
      rw [List.getElem?_map, nearL, List.getElem?_map, hr'] at e2'
      cases e1'
      cases e2'
      have st := Same.new (o := .tup [.ref pr.p, .int (topPos r.stk)]) htp
      have z := z0.same st
      have gG := bG _ _ npd.symm g8
      have tT : SqT K (upd G tp (.tup [.ref pr.p, .int (topPos r.stk)])) tp [.ref pr.p, .int (topPos r.stk)] := SqT.of upd_same
      have gG1 := st _ _ gG
      have gd1 := st _ _ gd
      have bG1 : But da H8 (upd G tp (.tup [.ref pr.p, .int (topPos r.stk)])) := fun b o n e => st _ _ (bG b o n e)
      generalize upd G tp (.tup [.ref pr.p, .int (topPos r.stk)]) = G1 at st z tT gG1 gd1 bG1
      have dget : (depthL t)[i]? = some ((r.stk.length : Int) + if isB r.sub = true then 1 else 0) := by
        unfold depthL
        rw [List.getElem?_map, hr']
        rfl
      have fin : ∀ (c : Int) (y6 : Option V), c = (r.stk.length : Int) + (if isB r.sub = true then 1 else 0) → ∃ (y3 y4 y5 : Option V), ([some (.ref p), some (.ref wp), some v, some (.ref pr.p), some (.int (topPos r.stk)), y6] : List (Option V)) = [some (.ref p), some (.ref wp), some v, y3, y4, y5] ∧
          But da H8 (upd G1 da (.lst (((depthL t).take i).map V.int ++ [.int c]))) ∧ (upd G1 da (.lst (((depthL t).take i).map V.int ++ [.int c]))) da = some (.lst (((depthL t).take (i + 1)).map V.int)) := fun c y6 e => by
        subst e
        refine ⟨_, _, _, rfl, fun b o n e => by rw [upd_ne n]; exact bG1 b o n e, ?_⟩
        rw [upd_same, List.take_add_one, dget, List.map_append]
        rfl
      have lsz : (((depthL t).take i).map V.int).length < sizeLine := by
        rw [List.length_map, List.length_take]
        exact small1000 (by omega)
      refine ⟨tp, _, rfl, tT, rfl, .ref pr.p, _, rfl, .int (topPos r.stk), _, rfl, rfl, ?_⟩
      refine ⟨.int (topPos r.stk), rfl, _, _, rfl, rfl, _, rfl, ?_⟩
      rcases near_dep hr' with ⟨h1, h2⟩ | ⟨q, h1, h2, h3⟩
      · refine ite2 (fun c => ?_) (fun c => absurd (decide_eq_true h1) c)
        refine ⟨.ref p, rfl, p, QC, dx, _, .ref da, rfl, gG1, TQ.cl, TQ.nD, rfl, .inl ⟨rfl, _, SqL.of gd1⟩, .ref pr.p, rfl, pr.p, C, pr.dx, _, .ref pr.h, rfl, z.ob, T.cl, T.nH, fld_head _ _ _, pr.h, hv r.sub.hd, 0, .str (hw r.sub.hd), rfl, rfl, z.hd, hd_at0 _, B, _, rfl, .inr (T.c_BINDERS _), rfl, rfl, _, rfl, ?_⟩
        rw [if_neg Bool.false_ne_true, in_binders, isB_hd]
        cases hb : isB r.sub with
        | true =>
          refine iteT ?_
          refine ⟨.int 0, rfl, _, _, rfl, rfl, da, _, _, rfl, rfl, gd1, lsz, ?_⟩
          exact fin _ _ (by rw [hb, h2]; rfl)
        | false =>
          refine iteF ?_
          refine ⟨.int 0, rfl, da, _, _, rfl, rfl, gd1, lsz, ?_⟩
          exact fin _ _ (by rw [hb, h2]; rfl)
      · refine ite2 (fun c => ?_) (fun c => ?_)
        · have := of_decide_eq_true c
          omega
        refine ⟨.ref p, rfl, p, QC, dx, _, .ref da, rfl, gG1, TQ.cl, TQ.nD, rfl, .int (topPos r.stk), rfl, da, _, _, .int (r.stk.length : Int), rfl, rfl, SqL.of gd1, ?_, ?_⟩
        · rw [h1]
          exact atI_nat (j := q) (by rw [List.getElem?_map, List.getElem?_take, if_pos h2, h3]; rfl)
        refine ⟨.ref p, rfl, p, QC, dx, _, .ref da, rfl, gG1, TQ.cl, TQ.nD, rfl, .inl ⟨rfl, _, SqL.of gd1⟩, .ref pr.p, rfl, pr.p, C, pr.dx, _, .ref pr.h, rfl, z.ob, T.cl, T.nH, fld_head _ _ _, pr.h, hv r.sub.hd, 0, .str (hw r.sub.hd), rfl, rfl, z.hd, hd_at0 _, B, _, rfl, .inr (T.c_BINDERS _), rfl, rfl, _, rfl, ?_⟩
        rw [if_neg Bool.false_ne_true, in_binders, isB_hd]
        cases hb : isB r.sub with
        | true =>
          refine iteT ?_
          refine ⟨.int (r.stk.length : Int), rfl, _, _, rfl, rfl, da, _, _, rfl, rfl, gd1, lsz, ?_⟩
          exact fin _ _ (by rw [hb]; rfl)
        | false =>
          refine iteF ?_
          refine ⟨.int (r.stk.length : Int), rfl, da, _, _, rfl, rfl, gd1, lsz, ?_⟩
          exact fin _ _ (by rw [hb, if_neg Bool.false_ne_true, Int.add_zero])
    · rintro σ G ⟨y3, y4, y5, rfl, bG, gd⟩
      rw [List.take_of_length_le (by rw [dL]; exact Nat.le_refl _)] at gd
      have bG5 : But p H5 G := fun b o n e => bG _ _ (ne_of_none e hda) (b58 _ _ n e)
      have gG := bG _ _ npd.symm g8
      intro ka hka
      have s1 := Same.new (o := DNs P w ka []) hka
      have z1 : (upd G ka (DNs P w ka [])) ka = some (DNs P w ka []) := upd_same
      have nkp : ka ≠ p := (ne_of_none gG hka).symm
      have nkd : ka ≠ da := (ne_of_none gd hka).symm
      have gG1 := s1 _ _ gG
      have gd1 := s1 _ _ gd
      have bG1 : But p H5 (upd G ka (DNs P w ka [])) := fun b o n e => s1 _ _ (bG5 b o n e)
      generalize upd G ka (DNs P w ka []) = G1 at z1 gG1 gd1 bG1
      refine ⟨.ref p, rfl, p, QC, dx, _, rfl, gG1, TQ.cl, TQ.nK, by show 4 < 1000; decide, ?_⟩
      rw [show putF "_known" (V.ref ka) ([("_world", V.ref wp), ("_parts", V.ref pa), ("_binders", V.ref la), ("_depths", V.ref da)] : List (Str × V)) = ([("_world", V.ref wp), ("_parts", V.ref pa), ("_binders", V.ref la), ("_depths", V.ref da), ("_known", V.ref ka)] : List (Str × V)) from rfl]
      have b2 : But p H5 (upd G1 p (.ins QC dx [("_world", V.ref wp), ("_parts", V.ref pa), ("_binders", V.ref la), ("_depths", V.ref da), ("_known", V.ref ka)])) := fun b o n e => by rw [upd_ne n]; exact bG1 b o n e
      have sf : Same H0 (upd G1 p (.ins QC dx [("_world", V.ref wp), ("_parts", V.ref pa), ("_binders", V.ref la), ("_depths", V.ref da), ("_known", V.ref ka)])) := fun b o e => b2 _ _ (ne_of_none e n0) (s5 _ _ e)
      refine kk ⟨p, dx, wp, pa, la, da, ka⟩ _ rfl sf ?_ ⟨upd_same, wo.same sf, P5.butO g5 b2, b2 _ _ (ne_of l5 g5 (by intro z; cases z)) l5, by show _ = _; rw [upd_ne npd]; exact gd1⟩ (by show _ = _; rw [upd_ne nkp]; exact z1)
      show H0 ka = none
      cases e : H0 ka with
      | none => rfl
      | some u =>
        have e5 := s5 _ _ e
        have := bG5 _ _ nkp e5
        rw [hka] at this
        cases this
end
end Fw

set_option maxRecDepth 100000
set_option maxHeartbeats 8000000
namespace Fw
open PySem PySem.Spec PyProof.Rows L2 GxR
theorem same_ka {d : Addr} {H0 H H' : Hp} (s : Same H0 H) (n : H0 d = none) (b : But d H H') : Same H0 H' := fun c o e => b _ _ (ne_of_none e n) (s _ _ e)
section
variable {P : Program} {w : World} {K : PySem.W.Frag} {mg : Str → Option Value} {base : Heap} {C J B NC FE WC QC STP : Addr}
structure Cfg (W : Wd) (t : F) : Prop where
  gd : W.Good
  n4 : W.n ≤ 4
  st : W.steps.length ≤ 200
  fc : ∀ X ∈ W.facts, X.length ≤ 8
  d4 : t.depth ≤ 4
  cl : Closed t
theorem Cfg.sz {W : Wd} {t : F} (c : Cfg W t) : t.size ≤ 1000 := by
  have := F.size_depth t
  have : 2 ^ t.depth ≤ 2 ^ 4 := Nat.pow_le_pow_right (by decide) c.d4
  omega
def spAt (K : PySem.W.Frag) (WC : Addr) : Sp := fun vs H Q _ => ∃ (wp : Addr) (v : V) (t : F) (W : Wd) (s : Nat), vs = [.ref wp, v, .int (s : Nat)] ∧ WoX K WC H wp W ∧ IsF K H v t ∧ Cfg W t ∧ s < W.n ∧
  ∀ H', Same H H' → Q (.bl (sIn (val W t fun _ => []) s)) H'
theorem ok_is_true_at {f : Addr} {fd : FuncData} {fe fa : Addr} {fde fda : FuncData} (FF : Fun K "is_true_at" "is_true_at" s_is_true_at f fd) (T : Txt K mg C J B) (TQ : TxtQ K QC)
    (h_ensure_closed : HasX P w K mg base "ensure_closed" 5 a_ensure_closed (spEnsure K NC)) (h_Questions : HasC P w K mg base "Questions" QC 4 a_Questions_init (spQI P w K C WC QC))
    (m_Questions_entered : Meth K QC "entered" fe) (g_Questions_entered : FnOk P w K mg base CX0 1 fe fde a_Questions_entered (spEnt K C WC QC)) (b_Questions_entered : L2.Binds K fde a_Questions_entered [])
    (m_Questions_answer : Meth K QC "answer" fa) (g_Questions_answer : FnOk P w K mg base CX0 4 fa fda a_Questions_answer (spAns P w K C WC QC)) (b_Questions_answer : L2.Binds K fda a_Questions_answer []) : FnOk P w K mg base CX0 6 f fd a_is_true_at (spAt K WC) := by
  refine FF.ok sc_is_true_at (fun vs H Q E h => ?_) (fun cdv A outer s H vs Q E hr h => ?_)
  · obtain ⟨wp, v, t, W, s, rfl, _⟩ := h
    rfl
  · obtain ⟨wp, v, t, W, s, rfl, wo, ht, cf, hs, kk⟩ := h
    refine ⟨_, (pss_cons (ps_expr (pe_callL h_ensure_closed (hr.mono (by omega)) (pa_cons (pv 1) pa_nil)))
      (pss_cons (ps_set (i := 3) sc_is_true_at.nd rfl (.inl rfl) (pe_makeH h_Questions (hr.mono (by omega)) (pa_cons (pv 0) (pa_cons (pv 1) pa_nil))))
      (pss_one (ps_ret (pe_meth (pv 3) TQ.cl m_Questions_answer g_Questions_answer (hr.mono (by omega)) b_Questions_answer .nil pass0 (pa_cons (pe_meth (pv 3) TQ.cl m_Questions_entered g_Questions_entered (hr.mono (by omega)) b_Questions_entered .nil pass0 (pa_cons pe_int (pa_cons (pv 2) (pa_cons (pe_tup pa_nil) pa_nil)))) pa_nil)))))), ?_⟩
    refine ⟨v, rfl, v, t, rfl, ht, cf.sz, Few.closed cf.cl, fun _ H1 s1 => ?_, fun c => absurd cf.cl c⟩
    refine ⟨.ref wp, rfl, v, rfl, fun p dx hp hdx ne => ?_⟩
    have s2 : Same H1 (upd (upd H1 dx (.own p)) p (.ins QC dx [])) := fun b u e => by rw [upd_ne (ne_of_none e hp), upd_ne (ne_of_none e hdx)]; exact e
    refine ⟨H1, p, dx, wp, v, t, W, rfl, upd_same, s2, hp, wo.same s1, ht.same s1, cf.sz, fun x H3 ex s3 nk q kn => ?_⟩
    subst ex
    refine ⟨rfl, .ref x.p, rfl, x.p, x.dx, _, rfl, q.ob, rfl, .ref x.p, rfl, x.p, x.dx, _, rfl, q.ob, rfl, .int (s : Nat), rfl, Nat.zero_le _, fun e he => ?_⟩
    have s4 := Same.new (o := .tup []) he
    have z4 : SqT K (upd H3 e (.tup [])) e (msV []) := SqT.of upd_same
    generalize upd H3 e (.tup []) = H4 at s4 z4
    have h0 : (infos t)[0]? = some ⟨t, -1, []⟩ := info_head _ _ _ _
    refine ⟨x, t, W, 0, s, e, [], rfl, q.same s4, F.size_pos t, z4, Nat.zero_le _, fun a H5 s5 qa => ?_⟩
    refine ⟨x, t, W, a, ent t 0 s [], rfl, q.same (s4.trans s5), s5 _ _ (s4 _ _ kn), qa, vq_ent h0 hs rfl (fun m h => by cases h), cf.cl, cf.gd, cf.n4, cf.st, cf.d4, cf.fc, fun H6 b6 => ?_⟩
    rw [tru_ent h0]
    exact kk H6 (s1.trans (same_ka (s3.trans (s4.trans s5)) nk b6))
def spWo (K : PySem.W.Frag) (WC : Addr) : Sp := fun vs H Q _ => ∃ (wp sa : Addr) (v : V) (k : One) (y : Int) (f : F) (W : Wd) (s : Nat) (X : List Int), vs = [.ref wp, v, .int (s : Nat), .ref sa] ∧ WoX K WC H wp W ∧ IsF K H v (.one k y f) ∧ k.bind = true ∧ Cfg W (.one k y f) ∧ s < W.n ∧ IL H sa X ∧ (∀ x ∈ X, 0 ≤ x ∧ x < (W.n : Int)) ∧
  ∀ H', Same H H' → Q (.bl (sIn (gfx W (decide (k = .least)) f y (fun _ => []) (maskOf X)) s)) H'
theorem ok_is_true_without {f : Addr} {fd : FuncData} {fa : Addr} {fda : FuncData} (FF : Fun K "is_true_without" "is_true_without" s_is_true_without f fd) (T : Txt K mg C J B) (TQ : TxtQ K QC)
    (h_mask_of : Has P w K mg base "mask_of" 1 a_mask_of spMask) (h_Questions : HasC P w K mg base "Questions" QC 4 a_Questions_init (spQI P w K C WC QC))
    (m_Questions_answer : Meth K QC "answer" fa) (g_Questions_answer : FnOk P w K mg base CX0 4 fa fda a_Questions_answer (spAns P w K C WC QC)) (b_Questions_answer : L2.Binds K fda a_Questions_answer []) : FnOk P w K mg base CX0 6 f fd a_is_true_without (spWo K WC) := by
  refine FF.ok sc_is_true_without (fun vs H Q E h => ?_) (fun cdv A outer s H vs Q E hr h => ?_)
  · obtain ⟨wp, sa, v, k, y, f, W, s, X, rfl, _⟩ := h
    rfl
  · obtain ⟨wp, sa, v, k, y, f, W, s, X, rfl, wo, ht, hk, cf, hs, il, hX, kk⟩ := h
    refine ⟨_, (pss_one (ps_ret (pe_meth (pe_makeH h_Questions (hr.mono (by omega)) (pa_cons (pv 0) (pa_cons (pv 1) pa_nil))) TQ.cl m_Questions_answer g_Questions_answer (hr.mono (by omega)) b_Questions_answer .nil pass0 (pa_cons (pe_tup (pa_cons pe_int (pa_cons (pv 2) (pa_cons (pe_tup (pa_cons (pe_callH h_mask_of (hr.mono (by omega)) (pa_cons (pv 3) pa_nil)) pa_nil)) pa_nil)))) pa_nil)))), ?_⟩
    refine ⟨.ref wp, rfl, v, rfl, fun p dx hp hdx ne => ?_⟩
    have s2 : Same H (upd (upd H dx (.own p)) p (.ins QC dx [])) := fun b u e => by rw [upd_ne (ne_of_none e hp), upd_ne (ne_of_none e hdx)]; exact e
    refine ⟨H, p, dx, wp, v, .one k y f, W, rfl, upd_same, s2, hp, wo, ht, cf.sz, fun x H3 ex s3 nk q kn => ?_⟩
    subst ex
    have n4 := cf.n4
    refine ⟨rfl, x.p, x.dx, _, rfl, q.ob, rfl, .int (s : Nat), rfl, .ref sa, rfl, sa, X, rfl, s3 _ _ il, fun z hz => ⟨(hX z hz).1, by have := (hX z hz).2; omega⟩, by show 1 ≤ sizeLine; decide, fun e he => ?_⟩
    have s4 := Same.new (o := .tup [.int (maskOf X : Nat)]) he
    have z4 : SqT K (upd H3 e (.tup [.int (maskOf X : Nat)])) e (msV [maskOf X]) := SqT.of upd_same
    generalize upd H3 e (.tup [.int (maskOf X : Nat)]) = H4 at s4 z4
    refine ⟨by show 3 ≤ sizeLine; decide, fun a ha => ?_⟩
    have s5 := Same.new (o := .tup [.int 0, .int (s : Nat), .ref e]) ha
    have z5 : QAt K (upd H4 a (.tup [.int 0, .int (s : Nat), .ref e])) a ⟨0, s, [maskOf X]⟩ := ⟨e, SqT.of upd_same, SqT.same s5 z4⟩
    generalize upd H4 a (.tup [.int 0, .int (s : Nat), .ref e]) = H5 at s5 z5
    have h0 : (infos (.one k y f))[0]? = some ⟨.one k y f, -1, []⟩ := info_head _ _ _ _
    have vq : Vq W (.one k y f) ⟨0, s, [maskOf X]⟩ := ⟨F.size_pos _, hs, by
      unfold depB
      rw [subAt_of h0, stkAt_of h0, show isB (.one k y f) = true from hk]
      rfl, fun m hm => by rw [List.mem_singleton.mp hm]; exact maskOf_lt hX⟩
    refine ⟨x, .one k y f, W, a, ⟨0, s, [maskOf X]⟩, rfl, q.same (s4.trans s5), s5 _ _ (s4 _ _ kn), z5, vq, cf.cl, cf.gd, cf.n4, cf.st, cf.d4, cf.fc, fun H6 b6 => ?_⟩
    have et : truQ W (.one k y f) ⟨0, s, [maskOf X]⟩ = sIn (gfx W (decide (k = .least)) f y (fun _ => []) (maskOf X)) s := by
      unfold truQ
      simp only
      rw [subAt_of h0, stkAt_of h0, show isB (.one k y f) = true from hk, if_pos rfl]
      rfl
    rw [et]
    exact kk H6 (same_ka (s3.trans (s4.trans s5)) nk b6)
end
end Fw

set_option maxRecDepth 100000
set_option maxHeartbeats 8000000
namespace Fw
open PySem PySem.Spec PyProof.Rows L2 GxR
theorem norm_fil {n : Nat} {Y : List Int} (h : Norm n Y) (p : Int → Bool) : Y.filter p = flt n fun s => sIn Y s && p s := by
  conv => lhs; rw [h]
  unfold flt
  rw [List.filter_filter]
  exact List.filter_congr fun s _ => Bool.and_comm _ _
theorem cut_least {n : Nat} {X Y : List Int} (h : Norm n Y) (h0 : ∀ x ∈ X, 0 ≤ x) : Y.filter (fun s => !sIn X s) = cut n true (maskOf X) Y := by
  rw [norm_fil h]
  exact flt_congr fun s s0 _ => by rw [maskOf_in h0 s0]
theorem cut_most {n : Nat} {X Y : List Int} (h0 : ∀ x ∈ X, 0 ≤ x) : ((rng n).filter fun s => sIn Y s || sIn X s) = cut n false (maskOf X) Y :=
  flt_congr fun s s0 _ => by rw [maskOf_in h0 s0]
theorem three_at {α : Type} {v : Int} (h0 : 0 ≤ v) (h1 : v < 3) : v ∈ V4 := by
  simp only [List.mem_cons, List.not_mem_nil, or_false]
  omega
theorem kid_depth {t f : F} (h : f ∈ t.kids) : f.depth < t.depth := by
  cases t with
  | nul b => cases h
  | leaf k n => cases h
  | two b x y =>
    simp only [F.kids, List.mem_cons, List.not_mem_nil, or_false] at h
    simp only [F.depth]
    rcases h with rfl | rfl <;> omega
  | one k n x =>
    simp only [F.kids, List.mem_cons, List.not_mem_nil, or_false] at h
    simp only [F.depth]
    subst h
    omega
section
variable {P : Program} {w : World} {K : PySem.W.Frag} {mg : Str → Option Value} {base : Heap} {C J B NC FE WC QC STP : Addr}
def spLBnd (K : PySem.W.Frag) : Sp := fun vs H Q _ => ∃ (d : Addr), vs = [.ref d, .int 2] ∧ Draws H d ∧ ∀ v k y f H', But d H H' → Draws H' d → IsF K H' v (.one k y f) → k.bind = true → f.depth ≤ 3 → Ok f → (∀ x ∈ fv f, x = y) → Q v H'
theorem ok_law_bound {f : Addr} {fd : FuncData} (FF : Fun K "_law_bound" "_law_bound" s_law_bound f fd) (T : Txt K mg C J B) (h_law_take : Has P w K mg base "_law_take" 1 a_law_take spTake)
    (h_law_statement : Has P w K mg base "_law_statement" 5 a_law_statement (spS K 3)) : FnOk P w K mg base CX0 6 f fd a_law_bound (spLBnd K) := by
  refine FF.ok sc_law_bound (fun vs H Q E h => ?_) (fun cdv A outer s H vs Q E hr h => ?_)
  · obtain ⟨d, rfl, _⟩ := h
    rfl
  · obtain ⟨d, rfl, hd, k⟩ := h
    refine ⟨_, (pss_cons (ps_set (i := 2) sc_law_bound.nd rfl (.inl rfl) (pe_ix ix_list (pe_lst (pa_cons pe_str (pa_cons pe_str pa_nil))) (pe_callH h_law_take (hr.mono (by omega)) (pa_cons (pv 0) (pa_cons pe_int pa_nil))) (fun _ _ => rfl)))
      (pss_cons (ps_set (i := 3) sc_law_bound.nd rfl (.inl rfl) (pe_callH h_law_take (hr.mono (by omega)) (pa_cons (pv 0) (pa_cons pe_int pa_nil))))
      (pss_one (ps_ret (pe_tup (pa_cons (pv 2) (pa_cons (pv 3) (pa_cons (pe_callH h_law_statement (hr.mono (by omega)) (pa_cons (pv 0) (pa_cons (pv 1) (pa_cons (pe_lst (pa_cons (pv 3) pa_nil)) (pa_cons (pe_lst pa_nil) (pa_cons pe_bl pa_nil)))))) pa_nil)))))))), ?_⟩
    refine ⟨by show 2 ≤ sizeLine; decide, fun l hl => ?_⟩
    have s1 := Same.new (o := .lst [.str "least", .str "most"]) hl
    have ld := hd.ne hl
    have l1 := upd_same (H := H) (a := l) (o := .lst [.str "least", .str "most"])
    refine ⟨.ref d, rfl, d, 2, rfl, hd.same s1, by decide, fun v8 H2 v80 v82 b2 d2 => ?_⟩
    obtain ⟨bb, hbb⟩ := two_at (x := V.str "least") (y := V.str "most") v80 v82
    refine ⟨l, _, _, _, rfl, rfl, SqL.of (b2 _ _ ld l1), hbb, ?_⟩
    refine ⟨.ref d, rfl, d, 3, rfl, d2, by decide, fun y H3 y0 y3 b3 d3 => ?_⟩
    have B3 := (Same.but s1).trans (b2.trans b3)
    refine ⟨_, rfl, .int y, rfl, .ref d, rfl, .int 2, rfl, .int y, rfl, by show 1 ≤ sizeLine; decide, fun wa hwa => ⟨Nat.zero_le _, fun ra hra => ?_⟩⟩
    have s4 := Same.new (o := .lst [.int y]) hwa
    have w4 : IL (upd H3 wa (.lst [.int y])) wa [y] := upd_same
    have nwd := d3.ne hwa
    generalize upd H3 wa (.lst [.int y]) = H4 at s4 w4 hra
    have d4 := d3.same s4
    have s5 := Same.new (o := .lst []) hra
    have r5 : IL (upd H4 ra (.lst [])) ra [] := upd_same
    have nrd := d4.ne hra
    generalize upd H4 ra (.lst []) = H5 at s5 r5
    refine ⟨d, wa, ra, [y], [], rfl, d4.same s5, s5 _ _ w4, r5, nwd, nrd, by show 1 + 0 + 2 ≤ 20; decide, fun x hx => by rw [List.mem_singleton.mp hx]; exact three_at (α := Nat) y0 y3, (fun x hx => by cases hx), fun v t H6 b6 d6 ht g => ?_⟩
    refine ⟨by show 3 ≤ sizeLine; decide, fun p hp => ?_⟩
    have BB := (B3.trans (Same.but (s4.trans s5))).trans b6
    have fr : ∀ x ∈ fv t, x = y := fun x hx => (g.fr x hx).elim (fun z => List.mem_singleton.mp z) fun z => by cases z
    cases bb with
    | true =>
      have s7 := Same.new (o := .tup [.str "least", .int y, v]) hp
      exact k _ .least y t _ (BB.trans (Same.but s7)) (d6.same s7) (.one (SqT.of upd_same) (ht.same s7)) rfl g.dep g.ok fr
    | false =>
      have s7 := Same.new (o := .tup [.str "most", .int y, v]) hp
      exact k _ .most y t _ (BB.trans (Same.but s7)) (d6.same s7) (.one (SqT.of upd_same) (ht.same s7)) rfl g.dep g.ok fr
/-! ### how many binders: some number -/
def spBin (K : PySem.W.Frag) : Nat → Sp
  | 0 => fun _ _ _ _ => False
  | n + 1 => fun vs H Q _ => ∃ (v : V) (t : F), vs = [v] ∧ IsF K H v t ∧ t.depth ≤ n + 1 ∧ ∀ (m : Int) H', Same H H' → Q (.int m) H'
theorem ok_law_binders {f : Addr} {fd : FuncData} (n : Nat) (FF : Fun K "_law_binders" "_law_binders" s_law_binders f fd) (T : Txt K mg C J B)
    (h_law_binders : Has P w K mg base "_law_binders" (n + 1) a_law_binders (spBin K n)) : FnOk P w K mg base CX0 (n + 2) f fd a_law_binders (spBin K (n + 1)) := by
  refine FF.ok sc_law_binders (fun vs H Q E h => ?_) (fun cdv A outer s H vs Q E hr h => ?_)
  · obtain ⟨v, t, rfl, _⟩ := h
    rfl
  · obtain ⟨v, t, rfl, ht, hdep, k⟩ := h
    obtain ⟨a, ks, rfl, sq, ak⟩ := ht.open
    have at0 : atI (hv t.hd ++ ks) 0 = some (.str (hw t.hd)) := atI_nat (j := 0) (by rw [List.getElem?_append_left (by rcases hv_len t.hd with e | e <;> omega)]; exact hv_head _)
    refine ⟨_, (pss_cons (ps_setLc (i := 1) (own := [("part", 2)]) (g := gName 2) rfl sc_law_binders.nd rfl rfl (sw_true rfl rfl rfl (by decide +kernel)) (pi_tup (pe_slice sl_tupA (pv 0) (po_some pe_int) po_none)) (blkOk_by (own := [("part", 2)]) (N := n_law_binders) (sc := defScope s_law_binders) (by decide +kernel)) (fun _ _ _ _ _ => (pg_name (i := 2) sc_law_binders.nd rfl (.inl rfl))) (fun _ _ _ _ _ => (pts_one (pt_val (pe_callB (@id (CallR _ _ (rIsi K)) call_isi) rfl T.z_isinstance (by decide +kernel) (pa_cons (pv 2) (pa_cons (pe_bltn (v := .ty "tuple") (u := .type "tuple") rfl T.z_tuple (by decide +kernel) rfl) pa_nil)))))) (fun _ _ _ _ _ => (pv 2)))
      (pss_one (ps_ret (pe_op op_add (pe_callTy call_int1 rfl T.z_int (by decide +kernel) (pa_cons (pe_cmpR op_in_seq (pe_ix ix_tup (pv 0) pe_int (fun _ _ => rfl)) (pe_lst (pa_cons pe_str (pa_cons pe_str pa_nil))) (by rfl)) pa_nil)) (pe_callB (cr_sum rfl) rfl T.z_sum (by decide +kernel) (pa_cons (pe_lc (own := [("part", 2)]) (g := gName 2) rfl sc_law_binders.nd (pi_list (pv 1)) (blkOk_by (own := [("part", 2)]) (N := n_law_binders) (sc := defScope s_law_binders) (by decide +kernel)) (fun _ _ _ _ _ => (pg_name (i := 2) sc_law_binders.nd rfl (.inl rfl))) (fun _ _ _ _ _ => pts_nil) (fun _ _ _ _ _ => (pe_callH h_law_binders (hr.mono (by omega)) (pa_cons (pv 2) pa_nil)))) pa_nil)))))), ?_⟩
    have hl := hv_len t.hd
    refine ⟨.ref a, rfl, 1, rfl, a, _, rfl, sq, fun whole => ?_, fun _ z hz => ?_⟩
    · exfalso
      rw [show HT.sIx (hv t.hd ++ ks).length 0 (some 1) = min 1 (hv t.hd ++ ks).length from HT.sIx_nat _ _ 1, List.length_append] at whole
      omega
    rw [cut_one]
    have s1 := Same.new (o := .tup ((hv t.hd ++ ks).drop 1)) hz
    have zT : SqT K (upd H z (.tup ((hv t.hd ++ ks).drop 1))) z ((hv t.hd ++ ks).drop 1) := SqT.of upd_same
    generalize upd H z (.tup ((hv t.hd ++ ks).drop 1)) = H1 at s1 zT
    have ak1 := ak.lk (LKp.same s1)
    obtain ⟨ns, hns, nsi⟩ : ∃ ns : List V, (hv t.hd ++ ks).drop 1 = ns ++ ks ∧ ∀ x ∈ ns, ∃ n, x = V.int n := by
      cases t with
      | nul b => exact ⟨[], rfl, by simp⟩
      | leaf k n => exact ⟨[.int n], rfl, by simp⟩
      | two b f g => exact ⟨[], rfl, by simp⟩
      | one k n f => exact ⟨[.int n], rfl, by simp⟩
    rw [hns] at zT
    refine ⟨z, rfl, ⟨_, zT⟩, fun D hD => ?_⟩
    refine lc_tup (xs := ns ++ ks) (fun i G => Same H1 G ∧ G D = some (.lst ((ns ++ ks).take i |>.drop ns.length))) ⟨Same.new hD, by rw [upd_same]; simp⟩ (fun i G _ q => SqT.same q.1 zT) ?_ ?_
    · rintro i x G hx ⟨sG, gD⟩
      have nd : ∀ b o, H1 b = some o → b ≠ D := fun b o e => ne_of_none e hD
      have e1 : (ns ++ ks).take (i + 1) = (ns ++ ks).take i ++ [x] := by
        rw [List.take_add_one, hx]
        rfl
      have il := (List.getElem?_eq_some_iff.mp hx).1
      rw [List.length_append] at il
      by_cases lt : i < ns.length
      · obtain ⟨n, rfl⟩ := nsi x (by rw [List.getElem?_append_left lt] at hx; exact List.mem_of_getElem? hx)
        refine ⟨rfl, .int n, rfl, .int n, .ty "tuple", .type "int", .type "tuple", false, rfl, ?_, .base (.int n), kit_ty (by decide +kernel), false, rfl, ?_⟩
        · exact .ty "tuple"
        · refine ⟨sG, ?_⟩
          rw [gD, e1, List.drop_append, List.drop_eq_nil_of_le (by rw [List.length_take]; omega), List.length_take, List.nil_append, List.drop_eq_nil_of_le (by simp; omega)]
      · obtain ⟨f, hf⟩ : ∃ f, t.kids[i - ns.length]? = some f := ⟨t.kids[i - ns.length]'(by rw [← ak.len]; omega), by simp⟩
        have ty := (ak1.get (by rw [List.getElem?_append_right (by omega)] at hx; exact hx) hf).lk (LKp.same sG) |>.ty
        refine ⟨rfl, x, rfl, x, .ty "tuple", .type "tuple", .type "tuple", true, rfl, .ty "tuple", ty, kit_ty (by decide +kernel), true, rfl, ?_⟩
        refine ⟨x, rfl, _, gD, ?_, ?_⟩
        · have := F.kids_le t
          have := ak.len
          rw [List.length_drop, List.length_take, List.length_append]
          exact small1000 (by omega)
        · refine ⟨fun b o e => by rw [upd_ne (nd b o e)]; exact sG b o e, ?_⟩
          rw [upd_same, e1, List.drop_append, List.length_take, List.length_append]
          congr 2
          rw [show ns.length - min i (ns.length + ks.length) = 0 by omega]
          rfl
    rintro G2 ⟨s2, gD⟩
    rw [List.take_of_length_le (Nat.le_refl _), List.drop_left] at gD
    have ak2 := ak1.lk (LKp.same s2)
    have kl := F.kids_le t
    have al := ak.len
    refine ⟨.ref a, rfl, a, _, 0, _, rfl, rfl, SqT.same (s1.trans s2) sq, at0, by show 2 ≤ sizeLine; decide, fun o ho => ?_⟩
    have s3 := Same.new (o := .lst [.str "least", .str "most"]) ho
    have z3 : (upd G2 o (.lst [.str "least", .str "most"])) o = some (.lst [.str "least", .str "most"]) := upd_same
    have gD3 := s3 _ _ gD
    have ak3 := ak2.lk (LKp.same s3)
    generalize upd G2 o (.lst [.str "least", .str "most"]) = G3 at s3 z3 gD3 ak3
    refine ⟨o, _, rfl, .inl (SqL.of z3), rfl, rfl, .inr ⟨_, rfl, ?_⟩⟩
    refine ⟨.ref D, rfl, D, rfl, ⟨_, SqL.of gD3⟩, fun D2 hD2 => ?_⟩
    refine lc_list (xs := ks) (fun i G => Same G3 G ∧ ∃ ms : List Int, ms.length = i ∧ IL G D2 ms) ⟨Same.new hD2, [], rfl, upd_same⟩ (fun i G _ q => SqL.of (q.1 _ _ gD3)) ?_ ?_
    · rintro i x G hx ⟨sG, ms, lm, gD2⟩
      have il := (List.getElem?_eq_some_iff.mp hx).1
      obtain ⟨f, hf⟩ : ∃ f, t.kids[i]? = some f := ⟨t.kids[i]'(by omega), by simp⟩
      have fm := kid_depth (List.mem_of_getElem? hf)
      obtain ⟨m, rfl⟩ : ∃ m, n = m + 1 := by
        cases n with
        | zero => exact absurd hdep (by have : 0 < f.depth := (by cases f <;> simp [F.depth]); omega)
        | succ m => exact ⟨m, rfl⟩
      refine ⟨rfl, x, rfl, x, f, rfl, (ak3.get hx hf).same sG, by omega, fun mm H5 s5 => ⟨_, s5 _ _ gD2, ?_, fun b o e => by rw [upd_ne (ne_of_none e hD2)]; exact s5 _ _ (sG b o e), ms ++ [mm], by rw [List.length_append, lm]; rfl, ?_⟩⟩
      · rw [List.length_map]
        exact small1000 (by omega)
      · show _ = _
        rw [upd_same, List.map_append]
        rfl
    · rintro G ⟨sG, ms, lm, gD2⟩
      refine ⟨D2, _, rfl, SqL.of gD2, _, _, rfl, rfl, ?_⟩
      exact k _ G (s1.trans (s2.trans (s3.trans sG)))
theorem all_binders {f : Addr} {fd : FuncData} (FF : Fun K "_law_binders" "_law_binders" s_law_binders f fd) (b : Binds K fd a_law_binders []) (m : mg "_law_binders" = some (.ref f)) (T : Txt K mg C J B) : ∀ n, Has P w K mg base "_law_binders" (n + 1) a_law_binders (spBin K n)
  | 0 => ⟨f, fd, m, FF.kp, b, noneOk⟩
  | n + 1 => ⟨f, fd, m, FF.kp, b, ok_law_binders n FF T (all_binders FF b m T n)⟩
end
end Fw

set_option maxRecDepth 100000
set_option maxHeartbeats 8000000
namespace Fw
open PySem PySem.Spec PyProof.Rows L2 GxR
section
variable {P : Program} {w : World} {K : PySem.W.Frag} {mg : Str → Option Value} {base : Heap} {C J B NC FE WC QC STP : Addr}
def spLWo (K : PySem.W.Frag) : Sp := fun vs H Q _ => ∃ (v bv : V) (sa : Addr) (W : Wd) (k : One) (y : Int) (f : F) (S : List Int), vs = [v, bv, .ref sa] ∧ WSt K H v W ∧ W.Fix ∧ IsF K H bv (.one k y f) ∧ k.bind = true ∧ f.depth ≤ 20 ∧ (∀ x ∈ fv f, x = y) ∧ IL H sa S ∧ (∀ x ∈ S, 0 ≤ x) ∧ S.length ≤ 100 ∧
  ∀ (a : Addr) H', Same H H' → IL H' a (gfx W (decide (k = .least)) f y (fun _ => []) (maskOf S)) → Q (.ref a) H'
theorem ok_law_without {f : Addr} {fd : FuncData} (FF : Fun K "_law_without" "_law_without" s_law_without f fd) (T : Txt K mg C J B) (h_law_value : Has P w K mg base "_law_value" 22 a_law_value (spVal K 20)) : FnOk P w K mg base CX0 23 f fd a_law_without (spLWo K) := by
  refine FF.ok sc_law_without (fun vs H Q E h => ?_) (fun cdv A outer s H vs Q E hr h => ?_)
  · obtain ⟨v, bv, sa, W, k, y, f, S, rfl, _⟩ := h
    rfl
  · obtain ⟨v, bv, sa, W, k, y, f, S, rfl, hW, fx, ht, hk, hdep, hfv, il, h0, hS, kk⟩ := h
    refine ⟨_, (pss_cons (ps_set (i := 3) sc_law_without.nd rfl (.inl rfl) (pe_callB call_len_seq rfl T.z_len (by decide +kernel) (pa_cons (pe_ix ix_tup (pv 0) pe_int (fun _ _ => rfl)) pa_nil)))
      (pss_cons (ps_set (i := 4) sc_law_without.nd rfl (.inl rfl) (pe_lst pa_nil))
      (pss_cons (ps_if (pt_cmpR op_eq (pe_ix ix_tup (pv 1) pe_int (fun _ _ => rfl)) pe_str (nomark _)) (pss_one (ps_set (i := 4) sc_law_without.nd rfl (.inl rfl) (pe_listRg rfl rfl T.z_list (prg_1 rfl T.z_range (pv 3))))) pss_nil)
      (pss_cons (ps_for PassesOwn.never rfl (pi_range1 rfl T.z_range (pa_cons (pe_op op_add (pv 3) pe_int) pa_nil)) (pg_name (i := 5) sc_law_without.nd rfl (.inl rfl)) (pss_cons (ps_set (i := 6) sc_law_without.nd rfl (.inr rfl) (pe_callH h_law_value (hr.mono (by omega)) (pa_cons (pv 0) (pa_cons (pe_ix ix_tup (pv 1) pe_int (fun _ _ => rfl)) (pa_cons (pe_disp (pps_cons (pe_ix ix_tup (pv 1) pe_int (fun _ _ => rfl)) (pv 4) pps_nil) (by rfl) (by rfl) (fun z => by cases z) (by decide)) pa_nil)))))
      (pss_one (ps_if (pt_cmpR op_eq (pe_ix ix_tup (pv 1) pe_int (fun _ _ => rfl)) pe_str (nomark _)) (pss_one (ps_setLc (i := 4) (own := [("state", 7)]) (g := gName 7) rfl sc_law_without.nd rfl rfl (sw_true rfl rfl rfl (by decide +kernel)) (pi_list (pv 6)) (blkOk_by (own := [("state", 7)]) (N := n_law_without) (sc := defScope s_law_without) (by decide +kernel)) (fun _ _ _ _ _ => (pg_name (i := 7) sc_law_without.nd rfl (.inl rfl))) (fun _ _ _ _ _ => (pts_one (pt_cmpR (@id (OpR _ _ (rIn K true)) op_notIn_seq) (pv 7) (pv 2) (by rfl)))) (fun _ _ _ _ _ => (pv 7)))) (pss_one (ps_setLc (i := 4) (own := [("state", 7)]) (g := gName 7) rfl sc_law_without.nd rfl rfl (sw_true rfl rfl rfl (by decide +kernel)) (pi_range1 rfl T.z_range (pa_cons (pv 3) pa_nil)) (blkOk_by (own := [("state", 7)]) (N := n_law_without) (sc := defScope s_law_without) (by decide +kernel)) (fun _ _ _ _ _ => (pg_name (i := 7) sc_law_without.nd rfl (.inl rfl))) (fun _ _ _ _ _ => (pts_one (PW.pt (pw_or (pt_cmpR (@id (OpR _ _ (rIn K false)) op_in_seq) (pv 7) (pv 6) (by rfl)) (pw_or1 (pt_cmpR (@id (OpR _ _ (rIn K false)) op_in_seq) (pv 7) (pv 2) (by rfl))))))) (fun _ _ _ _ _ => (pv 7))))))))
      (pss_one (ps_ret (pv 4))))))), ?_⟩
    obtain ⟨ba, ks, rfl, sq, ak⟩ := ht.open
    obtain ⟨vf, rfl, hf⟩ : ∃ vf, ks = [vf] ∧ IsF K H vf f := by
      cases ak with
      | cons h r => cases r; exact ⟨_, rfl, h⟩
    obtain ⟨wa, xa, pa, fas, pas, rfl, X⟩ := hW
    have nW : ((fas.map V.ref).length : Int) = (W.n : Int) := by rw [List.length_map, X.f.1]; rfl
    refine ⟨.ref wa, rfl, wa, _, _, .ref xa, rfl, rfl, SqT.of X.w, rfl, xa, _, rfl, X.s, ?_⟩
    rw [nW]
    refine ⟨Nat.zero_le _, fun q0 hq0 => ?_⟩
    have s3 := Same.new (o := .lst []) hq0
    have gq0 : IL (upd H q0 (.lst [])) q0 (bot W.n true) := upd_same
    generalize upd H q0 (.lst []) = H3 at s3 gq0
    cases k with
    | some => cases hk
    | all => cases hk
    | least =>
      refine ⟨.ref ba, rfl, ba, _, 0, .str "least", rfl, rfl, SqT.same s3 sq, atI_nat (j := 0) rfl, rfl, _, rfl, kF (by decide) ?_⟩
      refine ⟨.int (W.n : Nat), rfl, _, 1, rfl, rfl, _, rfl, by have := fx.n16; omega, by have := fx.n16; omega, ?_⟩
      refine for_range (lo := 0) (n := (((W.n : Nat) : Int) + 1).toNat) (fun i σ G => ∃ (y5 y6 : Option V) (q : Addr), σ = [some (.ref wa), some (.ref ba), some (.ref sa), some (.int (W.n : Nat)), some (.ref q), y5, y6, none] ∧ Same H G ∧ IL G q (iter (fun X => cut W.n true (maskOf S) (val W f (setE (fun _ => []) y X))) i (bot W.n true)))
        ⟨_, _, _, rfl, s3, gq0⟩ ?_ ?_
      · clear gq0 s3
        rintro ii σ G hi ⟨y5, y6, q, rfl, sG, gq⟩
        have X3 := X.same sG
        have sq3 := SqT.same sG sq
        have nI : Norm W.n (iter (fun X => cut W.n true (maskOf S) (val W f (setE (fun _ => []) y X))) ii (bot W.n true)) := iter_norm (fun X _ => cut_norm _ _ _ _) (bot_norm _ _) ii
        refine ⟨.ref wa, rfl, .ref ba, rfl, ba, _, 2, vf, rfl, rfl, sq3, atI_nat (j := 2) rfl, fun p hp => ?_⟩
        have s4 := Same.new (o := .dK []) hp
        have z4 : (upd G p (.dK [])) p = some (.dK []) := upd_same
        refine ⟨.ref ba, rfl, ba, _, 1, .int y, rfl, rfl, SqT.same s4 sq3, atI_nat (j := 1) rfl, .ref q, rfl, z4, [(Sum.inl y, V.ref q)], rfl, (show 1 ≤ 15 by decide), ?_⟩
        have s5 : Same G (upd (upd G p (.dK [])) p (.dK (mergeK [] [(Sum.inl y, V.ref q)]))) := fun b o e => by
          rw [upd_ne (ne_of_none e hp), upd_ne (ne_of_none e hp)]
          exact e
        have z5 : (upd (upd G p (.dK [])) p (.dK (mergeK [] [(Sum.inl y, V.ref q)]))) p = some (.dK [(Sum.inl y, V.ref q)]) := upd_same
        generalize upd (upd G p (.dK [])) p (.dK (mergeK [] [(Sum.inl y, V.ref q)])) = G1 at s5 z5
        refine ⟨.ref wa, vf, W, f, p, [(Sum.inl y, V.ref q)], setE (fun _ => []) y (iter (fun X => cut W.n true (maskOf S) (val W f (setE (fun _ => []) y X))) ii (bot W.n true)), rfl, ⟨wa, xa, pa, fas, pas, rfl, X3.same s5⟩, fx, hf.same (sG.trans s5), hdep, z5, (show 1 + 19 ≤ 100 by decide), by simp, fun x hx => ?_, fun ra G2 s6 hra => ?_⟩
        · obtain rfl := hfv x hx
          rw [setE_same]
          exact ⟨q, valV_pos rfl, s5 _ _ gq⟩
        have nV : Norm W.n (val W f (setE (fun _ => []) y (iter (fun X => cut W.n true (maskOf S) (val W f (setE (fun _ => []) y X))) ii (bot W.n true)))) := val_norm f _ fun x hx => by
          obtain rfl := hfv x hx
          rw [setE_same]
          exact nI
        have s26 := sG.trans (s5.trans s6)
        have il2 := s26 _ _ il
        have n16 := fx.n16
        have lV := nV.len
        refine ⟨.ref ba, rfl, ba, _, 0, .str "least", rfl, rfl, SqT.same s26 sq, atI_nat (j := 0) rfl, rfl, _, rfl, kT ?_⟩
        refine ⟨.ref ra, rfl, ra, rfl, ⟨_, SqL.of hra⟩, fun D hD => ?_⟩
        refine lc_fil (fun s => !sIn S s) hra hD (by omega) (fun s hs G' Y N sG' hY hN' => ?_) (fun G' sG' gg => ?_)
        · refine ⟨rfl, .int s, rfl, .ref sa, rfl, sa, _, rfl, .inl (SqL.of (sG' _ _ il2)), rfl, flat_ints _, _, rfl, ?_⟩
          rw [if_pos rfl, in_ints]
          cases c : sIn S s with
          | true =>
            refine (if_neg (by rw [show decide (s ∈ S) = true from c]; exact Bool.false_ne_true)).mpr ?_
            exact hN' (by rw [c]; rfl) _ (Same.refl _)
          | false =>
            refine (if_pos (by rw [show decide (s ∈ S) = false from c]; rfl)).mpr ?_
            exact ⟨_, rfl, hY (by rw [c]; rfl) _ (Same.refl _)⟩
        · refine ⟨_, _, D, rfl, s26.trans sG', ?_⟩
          rw [cut_least nV h0] at gg
          exact gg
      · rintro σ G ⟨y5, y6, q, rfl, sG, gq⟩
        refine ⟨.ref q, rfl, kk q G sG ?_⟩
        have : (((W.n : Nat) : Int) + 1).toNat = W.n + 1 := by omega
        rw [this] at gq
        exact gq
    | most =>
      refine ⟨.ref ba, rfl, ba, _, 0, .str "most", rfl, rfl, SqT.same s3 sq, atI_nat (j := 0) rfl, rfl, _, rfl, kT ?_⟩
      refine ⟨.int (W.n : Nat), rfl, _, rfl, .of_le (Int.le_refl 0) (by have := fx.n16; omega) (by omega) (by omega), fun q1 hq1 => ?_⟩
      rw [rgV_rng]
      replace s3 := s3.trans (Same.new (o := .lst ((rng W.n).map V.int)) hq1)
      replace gq0 : IL (upd H3 q1 (.lst ((rng W.n).map V.int))) q1 (bot W.n false) := upd_same
      generalize upd H3 q1 (.lst ((rng W.n).map V.int)) = H4 at s3 gq0
      refine ⟨.int (W.n : Nat), rfl, _, 1, rfl, rfl, _, rfl, by have := fx.n16; omega, by have := fx.n16; omega, ?_⟩
      refine for_range (lo := 0) (n := (((W.n : Nat) : Int) + 1).toNat) (fun i σ G => ∃ (y5 y6 : Option V) (q : Addr), σ = [some (.ref wa), some (.ref ba), some (.ref sa), some (.int (W.n : Nat)), some (.ref q), y5, y6, none] ∧ Same H G ∧ IL G q (iter (fun X => cut W.n false (maskOf S) (val W f (setE (fun _ => []) y X))) i (bot W.n false)))
        ⟨_, _, _, rfl, s3, gq0⟩ ?_ ?_
      · clear gq0 s3
        rintro ii σ G hi ⟨y5, y6, q, rfl, sG, gq⟩
        have X3 := X.same sG
        have sq3 := SqT.same sG sq
        have nI : Norm W.n (iter (fun X => cut W.n false (maskOf S) (val W f (setE (fun _ => []) y X))) ii (bot W.n false)) := iter_norm (fun X _ => cut_norm _ _ _ _) (bot_norm _ _) ii
        refine ⟨.ref wa, rfl, .ref ba, rfl, ba, _, 2, vf, rfl, rfl, sq3, atI_nat (j := 2) rfl, fun p hp => ?_⟩
        have s4 := Same.new (o := .dK []) hp
        have z4 : (upd G p (.dK [])) p = some (.dK []) := upd_same
        refine ⟨.ref ba, rfl, ba, _, 1, .int y, rfl, rfl, SqT.same s4 sq3, atI_nat (j := 1) rfl, .ref q, rfl, z4, [(Sum.inl y, V.ref q)], rfl, (show 1 ≤ 15 by decide), ?_⟩
        have s5 : Same G (upd (upd G p (.dK [])) p (.dK (mergeK [] [(Sum.inl y, V.ref q)]))) := fun b o e => by
          rw [upd_ne (ne_of_none e hp), upd_ne (ne_of_none e hp)]
          exact e
        have z5 : (upd (upd G p (.dK [])) p (.dK (mergeK [] [(Sum.inl y, V.ref q)]))) p = some (.dK [(Sum.inl y, V.ref q)]) := upd_same
        generalize upd (upd G p (.dK [])) p (.dK (mergeK [] [(Sum.inl y, V.ref q)])) = G1 at s5 z5
        refine ⟨.ref wa, vf, W, f, p, [(Sum.inl y, V.ref q)], setE (fun _ => []) y (iter (fun X => cut W.n false (maskOf S) (val W f (setE (fun _ => []) y X))) ii (bot W.n false)), rfl, ⟨wa, xa, pa, fas, pas, rfl, X3.same s5⟩, fx, hf.same (sG.trans s5), hdep, z5, (show 1 + 19 ≤ 100 by decide), by simp, fun x hx => ?_, fun ra G2 s6 hra => ?_⟩
        · obtain rfl := hfv x hx
          rw [setE_same]
          exact ⟨q, valV_pos rfl, s5 _ _ gq⟩
        have nV : Norm W.n (val W f (setE (fun _ => []) y (iter (fun X => cut W.n false (maskOf S) (val W f (setE (fun _ => []) y X))) ii (bot W.n false)))) := val_norm f _ fun x hx => by
          obtain rfl := hfv x hx
          rw [setE_same]
          exact nI
        have s26 := sG.trans (s5.trans s6)
        have il2 := s26 _ _ il
        have n16 := fx.n16
        have lV := nV.len
        refine ⟨.ref ba, rfl, ba, _, 0, .str "most", rfl, rfl, SqT.same s26 sq, atI_nat (j := 0) rfl, rfl, _, rfl, kF (by decide) ?_⟩
        refine ⟨.int (W.n : Nat), rfl, _, rfl, by omega, by omega, fun D hD => ?_⟩
        obtain ⟨Yv, eY⟩ : ∃ Yv, Yv = val W f (setE (fun _ => []) y (iter (fun X => cut W.n false (maskOf S) (val W f (setE (fun _ => []) y X))) ii (bot W.n false))) := ⟨_, rfl⟩
        rw [← eY] at hra nV lV
        refine lc_range (lo := 0) (n := ((W.n : Nat) : Int).toNat) (fun i G' => Same G2 G' ∧ IL G' D ((rng i).filter fun s => sIn Yv s || sIn S s)) ⟨Same.new hD, upd_same⟩ ?_ ?_
        · rintro i0 G' hi0 ⟨sG', gD⟩
          have e0 : (0 + (i0 : Int)) = (i0 : Int) := Int.zero_add _
          have yes : ∀ b : Bool, (sIn Yv (i0 : Int) || sIn S (i0 : Int)) = b → b = true → ∃ acc, G' D = some (.lst acc) ∧ acc.length < sizeLine ∧ Same G2 (upd G' D (.lst (acc ++ [V.int (i0 : Int)]))) ∧ IL (upd G' D (.lst (acc ++ [V.int (i0 : Int)]))) D ((rng (i0 + 1)).filter fun s => sIn Yv s || sIn S s) := fun b e1 e2 => by
            subst e2
            refine ⟨_, gD, ?_, fun b u e => by rw [upd_ne (ne_of_none e hD)]; exact sG' b u e, ?_⟩
            · rw [List.length_map]
              have := List.length_filter_le (fun s => sIn Yv s || sIn S s) (rng i0)
              rw [rng_len] at this
              exact small1000 (by omega)
            · show _ = _
              rw [upd_same, rng_succ, List.filter_append, List.map_append, List.filter_cons_of_pos (p := fun s => sIn Yv s || sIn S s) e1]
              rfl
          refine ⟨rfl, .int (0 + (i0 : Int)), rfl, .ref ra, rfl, ra, _, rfl, .inl (SqL.of (sG' _ _ hra)), rfl, flat_ints _, _, rfl, ?_⟩
          rw [if_neg Bool.false_ne_true, in_ints, e0]
          show if sIn Yv (i0 : Int) = true then _ else _
          cases c1 : sIn Yv (i0 : Int) with
          | true => exact iteT ⟨_, rfl, yes _ (by rw [c1]; rfl) rfl⟩
          | false =>
            refine iteF ⟨.int (i0 : Int), rfl, .ref sa, rfl, sa, _, rfl, .inl (SqL.of (sG' _ _ il2)), rfl, flat_ints _, _, rfl, ?_⟩
            rw [if_neg Bool.false_ne_true, in_ints]
            show if sIn S (i0 : Int) = true then _ else _
            cases c2 : sIn S (i0 : Int) with
            | true => exact iteT ⟨_, rfl, yes _ (by rw [c1, c2]; rfl) rfl⟩
            | false =>
              refine iteF ⟨sG', ?_⟩
              rw [rng_succ, List.filter_append, List.filter_cons_of_neg (p := fun s => sIn Yv s || sIn S s) (by rw [c1, c2]; exact Bool.false_ne_true), show ∀ p : Int → Bool, List.filter p [] = [] from fun _ => rfl, List.append_nil]
              exact gD
        · rintro G' ⟨sG', gD⟩
          rw [Int.toNat_natCast, cut_most h0, eY] at gD
          exact ⟨_, _, D, rfl, s26.trans sG', gD⟩
      · rintro σ G ⟨y5, y6, q, rfl, sG, gq⟩
        refine ⟨.ref q, rfl, kk q G sG ?_⟩
        have : (((W.n : Nat) : Int) + 1).toNat = W.n + 1 := by omega
        rw [this] at gq
        exact gq
end
end Fw

set_option maxRecDepth 100000
set_option maxHeartbeats 8000000
namespace Fw
open PySem PySem.Spec PyProof.Rows L2 GxR
theorem Draws.tb {A d : Addr} {H H' : Hp} (g : TabG H A) (t : Tb A H H') (h : Draws H d) : Draws H' d := by
  obtain ⟨ds, q⟩ := h
  exact ⟨ds, t.1 _ _ (g.ne q (by intro _ z; cases z)) q⟩
theorem WoE.butD {K : PySem.W.Frag} {WC : Addr} {H0 H H' : Hp} {p dx d0 : Addr} {l f : Int} {ta tb d : Addr} {ras as : List Addr} {Xs : List (List Int)} {ss : List T3} (h0 : H0 d0 ≠ none) (dr : Draws H d0) (z : But d0 H H') (h : WoE K WC H0 H p dx l f ta tb d ras as Xs ss) : WoE K WC H0 H' p dx l f ta tb d ras as Xs ss := by
  have lst := dr.lst
  obtain ⟨ds, q⟩ := id dr
  exact ⟨z _ _ (ne_of h.ob q (by intro z; cases z)) h.ob, SqT.but lst z h.st, ⟨h.rw.1, fun i a X e1 e2 => SqT.but lst z (h.rw.2 i a X e1 e2)⟩, SqT.but lst z h.sp, h.tr.butD dr z,
    h.en.map (fun kvs e => z _ _ (ne_of e q (by intro z; cases z)) e) fun a xs n e => z _ _ (fun e2 => h0 (by rw [← e2]; exact n)) e⟩
theorem cut_at (b c : Bool) (A B : Prop) (h : B) (e : b = c) : if (!decide (V.bl b = V.bl c)) = true then A else B := by
  rw [e, decide_eq_true rfl]
  exact h
section
variable {P : Program} {w : World} {K : PySem.W.Frag} {mg : Str → Option Value} {base : Heap} {C J B NC FE WC QC STP cA tA : Addr}
def spLaw (K : PySem.W.Frag) (tA : Addr) : Sp := fun vs H Q _ => ∃ (a : Addr) (ns : List Int), vs = [.ref a] ∧ SqL K H a (ns.map V.int) ∧ TabG H tA ∧ ns.length ≤ 63 ∧ ∀ H', Q (.bl true) H'
theorem ok_law {f : Addr} {fd : FuncData} (FF : Fun K "law" "law" s_law f fd) (T : Txt K mg C J B) (h_law_draws : Has P w K mg base "_law_draws" 1 a_law_draws (spDraws K)) (h_law_take : Has P w K mg base "_law_take" 1 a_law_take spTake)
    (h_law_closed : Has P w K mg base "_law_closed" 7 a_law_closed (spClosed K 3)) (h_law_closed2 : Has P w K mg base "_law_closed" 6 a_law_closed (spClosed K 2)) (h_law_bound : Has P w K mg base "_law_bound" 6 a_law_bound (spLBnd K)) (h_law_binders : Has P w K mg base "_law_binders" 6 a_law_binders (spBin K 5))
    (h_law_world : Has P w K mg base "_law_world" 2 a_law_world spWorld) (h_law_made : HasX P w K mg base "_law_made" 8 a_law_made (spMade K WC tA))
    (h_law_truth : Has P w K mg base "_law_truth" 23 a_law_truth (spTruth K)) (h_law_without : Has P w K mg base "_law_without" 23 a_law_without (spLWo K))
    (h_is_true_at : Has P w K mg base "is_true_at" 6 a_is_true_at (spAt K WC)) (h_is_true_without : Has P w K mg base "is_true_without" 6 a_is_true_without (spWo K WC)) : FnOk P w K mg base CX0 24 f fd a_law (spLaw K tA) := by
  refine FF.ok sc_law (fun vs H Q E h => ?_) (fun cdv A outer s H vs Q E hr h => ?_)
  · obtain ⟨a, ns, rfl, _⟩ := h
    rfl
  · obtain ⟨a, ns, rfl, hS, tg, hlen, k⟩ := h
    refine ⟨_, (pss_cons (ps_set (i := 1) sc_law.nd rfl (.inr rfl) (pe_callH h_law_draws (hr.mono (by omega)) (pa_cons (pv 0) (pa_cons pe_int pa_nil))))
      (pss_cons (ps_set (i := 2) sc_law.nd rfl (.inl rfl) (pe_callH h_law_world (hr.mono (by omega)) (pa_cons (pv 1) (pa_cons pe_int (pa_cons pe_int pa_nil)))))
      (pss_cons (ps_set (i := 3) sc_law.nd rfl (.inl rfl) (pe_callL h_law_made (hr.mono (by omega)) (pa_cons (pv 2) (pa_cons pe_int (pa_cons pe_int pa_nil)))))
      (pss_cons (ps_set (i := 4) sc_law.nd rfl (.inl rfl) (pe_callH h_law_closed (hr.mono (by omega)) (pa_cons (pv 1) (pa_cons pe_int pa_nil))))
      (pss_cons (ps_if (pt_cmpR op_gt (pe_callH h_law_binders (hr.mono (by omega)) (pa_cons (pv 4) pa_nil)) pe_int (nomark _)) (pss_one (ps_set (i := 4) sc_law.nd rfl (.inl rfl) (pe_callH h_law_closed2 (hr.mono (by omega)) (pa_cons (pv 1) (pa_cons pe_int pa_nil))))) pss_nil)
      (pss_cons (ps_set (i := 5) sc_law.nd rfl (.inl rfl) (pe_callH h_law_bound (hr.mono (by omega)) (pa_cons (pv 1) (pa_cons pe_int pa_nil))))
      (pss_cons (ps_setLc (i := 7) (own := [("state", 6)]) (g := gName 6) rfl sc_law.nd rfl rfl (sw_true rfl rfl rfl (by decide +kernel)) (pi_range1 rfl T.z_range (pa_cons (pe_callB call_len_seq rfl T.z_len (by decide +kernel) (pa_cons (pe_ix ix_tup (pv 2) pe_int (fun _ _ => rfl)) pa_nil)) pa_nil)) (blkOk_by (own := [("state", 6)]) (N := n_law) (sc := defScope s_law) (by decide +kernel)) (fun _ _ _ _ _ => (pg_name (i := 6) sc_law.nd rfl (.inl rfl))) (fun _ _ _ _ _ => (pts_one (pt_cmpR op_eq (pe_callH h_law_take (hr.mono (by omega)) (pa_cons (pv 1) (pa_cons pe_int pa_nil))) pe_int (nomark _)))) (fun _ _ _ _ _ => (pv 6)))
      (pss_cons (ps_set (i := 8) sc_law.nd rfl (.inl rfl) (pe_callH h_law_truth (hr.mono (by omega)) (pa_cons (pv 2) (pa_cons (pv 4) pa_nil))))
      (pss_cons (ps_for PassesOwn.never rfl (pi_range1 rfl T.z_range (pa_cons (pe_callB call_len_seq rfl T.z_len (by decide +kernel) (pa_cons (pe_ix ix_tup (pv 2) pe_int (fun _ _ => rfl)) pa_nil)) pa_nil)) (pg_name (i := 6) sc_law.nd rfl (.inl rfl)) (pss_cons (ps_set (i := 9) sc_law.nd rfl (.inl rfl) (pe_callH h_is_true_at (hr.mono (by omega)) (pa_cons (pv 3) (pa_cons (pv 4) (pa_cons (pv 6) pa_nil)))))
      (pss_one (ps_if (PW.pt (pw_or (pt_not (pt_val (pe_callB call_isi rfl T.z_isinstance (by decide +kernel) (pa_cons (pv 9) (pa_cons (pe_bltn (v := .ty "bool") (u := .type "bool") rfl T.z_bool (by decide +kernel) rfl) pa_nil))))) (pw_or1 (pt_cmpR op_ne (pv 9) (pe_cmpR op_in_seq (pv 6) (pv 8) (by rfl)) (nomark _))))) (pss_one (ps_ret pe_bl)) pss_nil))))
      (pss_cons (ps_set (i := 10) sc_law.nd rfl (.inl rfl) (pe_callH h_law_without (hr.mono (by omega)) (pa_cons (pv 2) (pa_cons (pv 5) (pa_cons (pv 7) pa_nil)))))
      (pss_cons (ps_for PassesOwn.never rfl (pi_range1 rfl T.z_range (pa_cons (pe_callB call_len_seq rfl T.z_len (by decide +kernel) (pa_cons (pe_ix ix_tup (pv 2) pe_int (fun _ _ => rfl)) pa_nil)) pa_nil)) (pg_name (i := 6) sc_law.nd rfl (.inl rfl)) (pss_cons (ps_set (i := 9) sc_law.nd rfl (.inl rfl) (pe_callH h_is_true_without (hr.mono (by omega)) (pa_cons (pv 3) (pa_cons (pv 5) (pa_cons (pv 6) (pa_cons (pe_callTy call_list_of rfl T.z_list (by decide +kernel) (pa_cons (pv 7) pa_nil)) pa_nil))))))
      (pss_one (ps_if (PW.pt (pw_or (pt_not (pt_val (pe_callB call_isi rfl T.z_isinstance (by decide +kernel) (pa_cons (pv 9) (pa_cons (pe_bltn (v := .ty "bool") (u := .type "bool") rfl T.z_bool (by decide +kernel) rfl) pa_nil))))) (pw_or1 (pt_cmpR op_ne (pv 9) (pe_cmpR op_in_seq (pv 6) (pv 10) (by rfl)) (nomark _))))) (pss_one (ps_ret pe_bl)) pss_nil))))
      (pss_one (ps_ret pe_bl))))))))))))), ?_⟩
    refine ⟨.ref a, rfl, a, ns, 300, rfl, hS, hlen, by decide, by decide, fun d H1 s1 hd0 d1 => ?_⟩
    have ntd : tA ≠ d := fun e => by obtain ⟨qs, q, _⟩ := tg; rw [e, hd0] at q; cases q
    refine ⟨.ref d, rfl, d, 4, 2, rfl, d1, by decide, by decide, by decide, by decide, fun wa sa pa fas pas W H2 b2 d2 X nsd npd nfd fit up n4 => ?_⟩
    have tg2 : TabG H2 tA := by
      obtain ⟨qs, q, t⟩ := tg.same s1
      exact ⟨qs, b2 _ _ ntd q, t⟩
    refine ⟨.ref wa, rfl, wa, sa, pa, fas, pas, W, 2, 2, 2, rfl, X, fit, up, by decide, by decide, by decide, by decide, by decide, tg2, fun p dx ta tb dd ras as H3 t3 WE3 => ?_⟩
    have X3 := X.tb tg2 t3
    have d3 := d2.tb tg2 t3
    have hd2 : H2 d ≠ none := by
      obtain ⟨ds, q⟩ := d2
      rw [q]
      intro z
      cases z
    clear X d1 d2 hS hlen tg s1 hd0 b2 tg2 t3
    refine ⟨.ref d, rfl, d, rfl, d3, by decide, fun v t H4 b4 d4 ht g => ?_⟩
    have X4 := X3.butD d3 b4 nsd npd nfd
    have WE4 := WE3.butD hd2 d3 b4
    clear X3 WE3 d3 b4
    refine ⟨v, rfl, v, t, rfl, ht, Nat.le_trans g.dep (by decide), fun m H5 s5 => ?_⟩
    refine ⟨_, _, rfl, rfl, _, rfl, ?_⟩
    refine joinS (fun σ5 G5 => ∃ v t, σ5 = [some (.ref a), some (.ref d), some (.ref wa), some (.ref p), some v, none, none, none, none, none, none] ∧ Draws G5 d ∧ WAx G5 wa sa pa fas pas W ∧ WoE K WC H2 G5 p dx 2 2 ta tb dd ras as W.facts W.steps ∧ IsF K G5 v t ∧ t.depth ≤ 4 ∧ fv t = []) ?_ ?_ ?_
    · clear WE4 X4 s5 d4 ht g
      rintro σ5 G5 ⟨v, t, rfl, d5, X5, WE5, ht5, dep, hfv⟩
      have eN : ((fas.map V.ref).length : Int) = (W.n : Int) := by rw [List.length_map, X5.f.1]; rfl
      have n8 := fit.n8
      have n1 := fit.one
      refine ⟨.ref d, rfl, d, rfl, d5, fun vb kb y f H6 b6 d6 hb6 hk hdf okf hff => ?_⟩
      have X6 := X5.butD d5 b6 nsd npd nfd
      have WE6 := WE5.butD hd2 d5 b6
      have ht6 := ht5.but d5.lst b6
      clear X5 WE5 ht5 b6 d5
      refine ⟨.ref wa, rfl, wa, _, _, .ref sa, rfl, rfl, SqT.of X6.w, rfl, sa, _, rfl, .inl (SqL.of X6.s), _, rfl, ?_⟩
      rw [eN]
      refine ⟨by omega, by omega, fun D hD => ?_⟩
      have dD : D ≠ d := d6.ne hD
      refine lc_range (lo := 0) (n := ((W.n : Nat) : Int).toNat) (fun i G => But d H6 G ∧ Draws G d ∧ ∃ o : List Int, IL G D o ∧ (∀ x ∈ o, 0 ≤ x ∧ x < (i : Int)) ∧ o.length ≤ i) ⟨Same.but (Same.new hD), d6.same (Same.new hD), [], upd_same, (fun x hx => by cases hx), Nat.le_refl 0⟩ ?_ ?_
      · rintro i G hi ⟨bG, dG, o, gD, ho, hl⟩
        rw [Int.toNat_natCast] at hi
        refine ⟨rfl, .ref d, rfl, d, 3, rfl, dG, by decide, fun v1 G1 v10 v13 b1 d1 => ⟨rfl, _, rfl, ?_⟩⟩
        have gD1 := b1 _ _ dD gD
        refine ite2 (fun c => ?_) (fun c => ?_)
        · refine ⟨_, rfl, _, gD1, by rw [List.length_map]; exact small1000 (by omega), fun b u n e => by rw [upd_ne (ne_of_none e hD)]; exact b1 _ _ n (bG b u n e), d1.but fun u e => by rw [upd_ne dD.symm]; exact e, o ++ [(i : Int)], ?_, fun x hx => ?_, ?_⟩
          · show _ = _
            rw [upd_same, List.map_append, Int.zero_add]
            rfl
          · rcases List.mem_append.mp hx with hx | hx
            · have := ho x hx; omega
            · rw [List.mem_singleton] at hx; omega
          · rw [List.length_append, List.length_singleton]; omega
        · exact ⟨bG.trans b1, d1, o, gD1, fun x hx => by have := ho x hx; omega, by omega⟩
      rintro G7 ⟨b7, d7, S, gS, hS, lS⟩
      rw [Int.toNat_natCast] at hS lS
      have X7 := X6.butD d6 b7 nsd npd nfd
      have WE7 := WE6.butD hd2 d6 b7
      have ht7 := ht6.but d6.lst b7
      have hb7 := hb6.but d6.lst b7
      clear X6 WE6 ht6 hb6 b7 d6 d7 hD dD
      have fx : W.Fix := ⟨by omega, by have := fit.st; omega⟩
      have st := fit.st
      have n4' : W.n ≤ 4 := by omega
      refine ⟨.ref wa, rfl, v, rfl, .ref wa, v, W, t, fun _ => [], rfl, ⟨wa, sa, pa, fas, pas, rfl, X7.gen⟩, fx, ht7, Nat.le_trans dep (by decide), hfv, fun ga H8 s8 hga => ?_⟩
      have X8 := X7.same s8
      have WE8 := WE7.same s8
      have ht8 := ht7.same s8
      have hb8 := hb7.same s8
      have gS8 := s8 _ _ gS
      clear X7 WE7 ht7 hb7 gS s8
      have cf : Cfg W t := ⟨fit.good, n4', st, fit.fc, dep, closed_fv.mp hfv⟩
      have cb : Cfg W (.one kb y f) := ⟨fit.good, n4', st, fit.fc, by show f.depth + 1 ≤ 4; omega, closed_fv.mp (by
        simp only [fv, if_pos hk]
        exact List.filter_eq_nil_iff.mpr fun x hx => by rw [hff x hx]; simp)⟩
      refine ⟨.ref wa, rfl, wa, _, _, .ref sa, rfl, rfl, SqT.of X8.w, rfl, sa, _, rfl, .inl (SqL.of X8.s), _, rfl, ?_⟩
      rw [eN]
      refine ⟨by omega, by omega, for_range (lo := 0) (n := ((W.n : Nat) : Int).toNat) (fun i σ G => ∃ y6 y9 : Option V, σ = [some (.ref a), some (.ref d), some (.ref wa), some (.ref p), some v, some vb, y6, some (.ref D), some (.ref ga), y9, none] ∧ Same H8 G) ⟨_, _, rfl, Same.refl _⟩ ?_ ?_⟩
      · rintro i σ G hi ⟨y6, y9, rfl, sG⟩
        rw [Int.toNat_natCast] at hi
        have e0 : V.int (0 + (i : Int)) = V.int (i : Int) := by rw [Int.zero_add]
        rw [e0]
        refine ⟨.ref p, rfl, v, rfl, .int (i : Nat), rfl, p, v, t, W, i, rfl, ⟨_, _, _, _, _, _, _, _, _, WE8.same sG⟩, ht8.same sG, cf, hi, fun G1 s1 => ?_⟩
        refine ⟨_, rfl, .bl _, .ty "bool", .type "bool", .type "bool", true, rfl, .ty "bool", .base (.bl _), kit_ty (by decide +kernel), true, rfl, iteF ?_⟩
        refine ⟨_, rfl, .int (i : Nat), rfl, .ref ga, rfl, ga, _, rfl, .inl (SqL.of (s1 _ _ (sG _ _ hga))), rfl, flat_ints _, rfl, _, rfl, ?_⟩
        rw [if_neg Bool.false_ne_true, in_ints]
        exact cut_at _ _ _ _ ⟨_, _, rfl, sG.trans s1⟩ rfl
      rintro σ G9 ⟨y6, y9, rfl, s9⟩
      have X9 := X8.same s9
      have WE9 := WE8.same s9
      have hb9 := hb8.same s9
      have gS9 := s9 _ _ gS8
      clear X8 WE8 ht8 hb8 gS8 s9 hga cf
      refine ⟨.ref wa, rfl, vb, rfl, .ref D, rfl, .ref wa, vb, D, W, kb, y, f, S, rfl, ⟨wa, sa, pa, fas, pas, rfl, X9.gen⟩, fx, hb9, hk, by omega, hff, gS9, fun x hx => (hS x hx).1, by omega, fun ua H10 s10 hua => ?_⟩
      have X10 := X9.same s10
      refine ⟨.ref wa, rfl, wa, _, _, .ref sa, rfl, rfl, SqT.of X10.w, rfl, sa, _, rfl, .inl (SqL.of X10.s), _, rfl, ?_⟩
      rw [eN]
      refine ⟨by omega, by omega, for_range (lo := 0) (n := ((W.n : Nat) : Int).toNat) (fun i σ G => ∃ y6 y9 : Option V, σ = [some (.ref a), some (.ref d), some (.ref wa), some (.ref p), some v, some vb, y6, some (.ref D), some (.ref ga), y9, some (.ref ua)] ∧ Same H10 G) ⟨_, _, rfl, Same.refl _⟩ ?_ ?_⟩
      · rintro i σ G hi ⟨y6, y9, rfl, sG⟩
        rw [Int.toNat_natCast] at hi
        have e0 : V.int (0 + (i : Int)) = V.int (i : Int) := by rw [Int.zero_add]
        rw [e0]
        have sG9 := s10.trans sG
        refine ⟨.ref p, rfl, vb, rfl, .int (i : Nat), rfl, .ref D, rfl, D, _, rfl, .inl (SqL.of (sG9 _ _ gS9)), fun L hL => ?_⟩
        have sL := Same.new (o := .lst (S.map V.int)) hL
        refine ⟨p, L, vb, kb, y, f, W, i, S, rfl, ⟨_, _, _, _, _, _, _, _, _, WE9.same (sG9.trans sL)⟩, hb9.same (sG9.trans sL), hk, cb, hi, upd_same, hS, fun G1 s1 => ?_⟩
        have sa1 := sL.trans s1
        refine ⟨_, rfl, .bl _, .ty "bool", .type "bool", .type "bool", true, rfl, .ty "bool", .base (.bl _), kit_ty (by decide +kernel), true, rfl, iteF ?_⟩
        refine ⟨_, rfl, .int (i : Nat), rfl, .ref ua, rfl, ua, _, rfl, .inl (SqL.of (sa1 _ _ (sG _ _ hua))), rfl, flat_ints _, rfl, _, rfl, ?_⟩
        rw [if_neg Bool.false_ne_true, in_ints]
        exact cut_at _ _ _ _ ⟨_, _, rfl, sG.trans sa1⟩ rfl
      rintro σ G11 ⟨y6, y9, rfl, s11⟩
      exact k _
    · intro _ cont
      refine ⟨.ref d, rfl, d, rfl, d4.same s5, by decide, fun v6 t6 H6 b6 d6 ht6 g6 => cont _ _ ⟨v6, t6, rfl, d6, (X4.same s5).butD (d4.same s5) b6 nsd npd nfd, (WE4.same s5).butD hd2 (d4.same s5) b6, ht6, Nat.le_trans g6.dep (by decide), ?_⟩⟩
      exact List.eq_nil_iff_forall_not_mem.mpr fun x hx => (g6.fr x hx).elim (fun z => by cases z) fun z => by cases z
    · intro _
      exact ⟨v, t, rfl, d4.same s5, X4.same s5, WE4.same s5, ht.same s5, Nat.le_trans g.dep (by decide), List.eq_nil_iff_forall_not_mem.mpr fun x hx => (g.fr x hx).elim (fun z => by cases z) fun z => by cases z⟩
end
end Fw

set_option maxRecDepth 100000
set_option maxHeartbeats 4000000
namespace Fw
open PySem PySem.Spec PyProof.Rows L2
theorem exm_own {K : PySem.W.Frag} {S : Addr} (h1 : PySem.W.subIn K (.ref S) (.type "BaseException") = some true) (h2 : PySem.W.hasDictIn K S = true) (h3 : PySem.W.typeIn K (.ref S) = some (.type "type")) (h4 : PySem.W.subIn K (.ref S) (.ref S) = some true) :
    PySem.W.exmOne K (.ref S) (.ref S) = some true := PySem.W.exm_ref h1 h2 h3 h4
/-- what is known of the law where the worlds are tried -/
def Top35 (P : Program) (w : World) (K : PySem.W.Frag) (mg : Str → Option Value) (fa : Addr) : Prop :=
  ∃ (fd : FuncData) (cA tA : Addr), PySem.W.tabIn K "ascends" = some (cA, tA) ∧ K.lookup tA = none ∧ (∀ (s : Shared) (u : Value), BindsTo s fd ⟨[u], []⟩ [("script", u)]) ∧
    ∀ base : Heap, K.In base → base.Ns mainGlobals mg → GxR.TabB base mg cA tA → FnOk P w K mg base CX0 24 fa fd ["script"] (spLaw K tA)
theorem pairK {K : PySem.W.Frag} {J : Addr} {d : Option Addr} {n : Nat} {sl : Array (Option Value)} {t1 t2 : Tok} {x y : Str} (l : K.lookup J = some ⟨.type "tuple", d, .seq #[.str x t1, .str y t2] n, sl⟩) (H : Hp) : SqT K H J [.str x, .str y] :=
  .inr ⟨_, #[.str x t1, .str y t2], n, l, rfl, rfl, by show 2 ≤ sizeLine; decide, .cons ⟨t1, rfl⟩ (.cons ⟨t2, rfl⟩ .nil)⟩
theorem all_mk {P : Program} {w : World} {K : PySem.W.Frag} {h : Heap} {mg : Str → Option Value} {c_ascends t_ascends : Addr}
    {NW : Addr}
    {NC FE : Addr}
    {C_Questions : Addr}
    {C_World : Addr}
    {C_Part : Addr}
    {fa f0 f1 f2 f3 f4 f5 f6 f7 f8 f9 f10 f11 f12 f13 f14 f15 f16 f17 f18 f19 f20 f21 f22 f23 f24 f25 f26 f27 f28 f29 f30 f31 f32 f33 f34 f35 f36 : Addr}
    {od0 an0 od1 an1 od2 an2 od3 an3 od4 an4 od5 an5 od6 an6 od7 an7 od8 an8 od9 an9 od10 an10 od11 an11 od12 an12 od13 an13 od14 an14 od15 an15 od16 an16 od17 an17 od18 an18 od19 an19 od20 an20 od21 an21 od22 an22 od23 an23 od24 an24 od25 an25 od26 an26 od27 an27 od28 an28 od29 an29 od30 an30 od31 an31 od32 an32 od33 an33 od34 an34 od35 an35 od36 an36 : Option Addr} {sl0 sl1 sl2 sl3 sl4 sl5 sl6 sl7 sl8 sl9 sl10 sl11 sl12 sl13 sl14 sl15 sl16 sl17 sl18 sl19 sl20 sl21 sl22 sl23 sl24 sl25 sl26 sl27 sl28 sl29 sl30 sl31 sl32 sl33 sl34 sl35 sl36 : Array (Option Value)} {oc0 kV0 dc0 pm0 cd0 ct0 oc1 kV1 dc1 pm1 cd1 ct1 oc2 kV2 dc2 pm2 cd2 ct2 oc3 kV3 dc3 pm3 cd3 ct3 oc4 kV4 dc4 pm4 cd4 ct4 oc5 kV5 dc5 pm5 cd5 ct5 oc6 kV6 dc6 pm6 cd6 ct6 oc7 kV7 dc7 pm7 cd7 ct7 oc8 kV8 dc8 pm8 cd8 ct8 oc9 kV9 dc9 pm9 cd9 ct9 oc10 kV10 dc10 pm10 cd10 ct10 oc11 kV11 dc11 pm11 cd11 ct11 oc12 kV12 dc12 pm12 cd12 ct12 oc13 kV13 dc13 pm13 cd13 ct13 oc14 kV14 dc14 pm14 cd14 ct14 oc15 kV15 dc15 pm15 cd15 ct15 oc16 kV16 dc16 pm16 cd16 ct16 oc17 kV17 dc17 pm17 cd17 ct17 oc18 kV18 dc18 pm18 cd18 ct18 oc19 kV19 dc19 pm19 cd19 ct19 oc20 kV20 dc20 pm20 cd20 ct20 oc21 kV21 dc21 pm21 cd21 ct21 oc22 kV22 dc22 pm22 cd22 ct22 oc23 kV23 dc23 pm23 cd23 ct23 oc24 kV24 dc24 pm24 cd24 ct24 oc25 kV25 dc25 pm25 cd25 ct25 oc26 kV26 dc26 pm26 cd26 ct26 oc27 kV27 dc27 pm27 cd27 ct27 oc28 kV28 dc28 pm28 cd28 ct28 oc29 kV29 dc29 pm29 cd29 ct29 oc30 kV30 dc30 pm30 cd30 ct30 oc31 kV31 dc31 pm31 cd31 ct31 oc32 kV32 dc32 pm32 cd32 ct32 oc33 kV33 dc33 pm33 cd33 ct33 oc34 kV34 dc34 pm34 cd34 ct34 oc35 kV35 dc35 pm35 cd35 ct35 oc36 kV36 dc36 pm36 cd36 ct36 : Value}
    {J_BINDERS : Addr} {dJ_BINDERS : Option Addr} {nJ_BINDERS : Nat} {sJ_BINDERS : Array (Option Value)} {t_BINDERS_0 t_BINDERS_1 : Tok}
    {J_JOINS : Addr} {dJ_JOINS : Option Addr} {nJ_JOINS : Nat} {sJ_JOINS : Array (Option Value)} {t_JOINS_0 t_JOINS_1 : Tok}
    {J_STEPPERS : Addr} {dJ_STEPPERS : Option Addr} {nJ_STEPPERS : Nat} {sJ_STEPPERS : Array (Option Value)} {t_STEPPERS_0 t_STEPPERS_1 : Tok}
    {t_MOST_LABELS : Tok}
    {t_MOST_FACTS : Tok}
    {t_MOST_STATES : Tok}
    {cc_ascends : Value} {cd_ascends : Option Addr} {cv_ascends : Array Value} {cn_ascends : Array (Option Value)}
    (X : K.In h) (G : h.Ns mainGlobals mg) (hfa : mg "law" = some (.ref fa))
    (aC_Part : PySem.W.nsIn K mainGlobals "Part" = some (some (.ref C_Part)))
    (aC_World : PySem.W.nsIn K mainGlobals "World" = some (some (.ref C_World)))
    (aC_Questions : PySem.W.nsIn K mainGlobals "Questions" = some (some (.ref C_Questions)))
    (a0 : PySem.W.nsIn K mainGlobals "mask_of" = some (some (.ref f0)))
    (l0 : K.lookup f0 = some ⟨oc0, od0, .func (PySem.W.fnOf "mask_of" "mask_of" (defArgs s_mask_of) (defBody s_mask_of) (defScope s_mask_of) .none kV0 dc0 pm0 an0 cd0 ct0), sl0⟩)
    (c0 : PySem.W.codeIn K cd0 "mask_of" = true)
    (k0 : PySem.W.keepIn K (.ref f0) = true)
    (a1 : PySem.W.findIn K (.ref C_Part) "__init__" = some (some (.ref f1)))
    (i1 : PySem.W.isFn K (.ref f1) = true)
    (l1 : K.lookup f1 = some ⟨oc1, od1, .func (PySem.W.fnOf "__init__" "Part.__init__" (defArgs s_Part_init) (defBody s_Part_init) (defScope s_Part_init) .none kV1 dc1 pm1 an1 cd1 ct1), sl1⟩)
    (c1 : PySem.W.codeIn K cd1 "Part.__init__" = true)
    (k1 : PySem.W.keepIn K (.ref f1) = true)
    (a2 : PySem.W.nsIn K mainGlobals "head_of" = some (some (.ref f2)))
    (l2 : K.lookup f2 = some ⟨oc2, od2, .func (PySem.W.fnOf "head_of" "head_of" (defArgs s_head_of) (defBody s_head_of) (defScope s_head_of) .none kV2 dc2 pm2 an2 cd2 ct2), sl2⟩)
    (c2 : PySem.W.codeIn K cd2 "head_of" = true)
    (k2 : PySem.W.keepIn K (.ref f2) = true)
    (a3 : PySem.W.nsIn K mainGlobals "parts_of" = some (some (.ref f3)))
    (l3 : K.lookup f3 = some ⟨oc3, od3, .func (PySem.W.fnOf "parts_of" "parts_of" (defArgs s_parts_of) (defBody s_parts_of) (defScope s_parts_of) .none kV3 dc3 pm3 an3 cd3 ct3), sl3⟩)
    (c3 : PySem.W.codeIn K cd3 "parts_of" = true)
    (k3 : PySem.W.keepIn K (.ref f3) = true)
    (a4 : PySem.W.nsIn K mainGlobals "nearest_around" = some (some (.ref f4)))
    (l4 : K.lookup f4 = some ⟨oc4, od4, .func (PySem.W.fnOf "nearest_around" "nearest_around" (defArgs s_nearest_around) (defBody s_nearest_around) (defScope s_nearest_around) .none kV4 dc4 pm4 an4 cd4 ct4), sl4⟩)
    (c4 : PySem.W.codeIn K cd4 "nearest_around" = true)
    (k4 : PySem.W.keepIn K (.ref f4) = true)
    (a5 : PySem.W.nsIn K mainGlobals "binder_places" = some (some (.ref f5)))
    (l5 : K.lookup f5 = some ⟨oc5, od5, .func (PySem.W.fnOf "binder_places" "binder_places" (defArgs s_binder_places) (defBody s_binder_places) (defScope s_binder_places) .none kV5 dc5 pm5 an5 cd5 ct5), sl5⟩)
    (c5 : PySem.W.codeIn K cd5 "binder_places" = true)
    (k5 : PySem.W.keepIn K (.ref f5) = true)
    (a6 : PySem.W.nsIn K mainGlobals "free_variables" = some (some (.ref f6)))
    (l6 : K.lookup f6 = some ⟨oc6, od6, .func (PySem.W.fnOf "free_variables" "free_variables" (defArgs s_free_variables) (defBody s_free_variables) (defScope s_free_variables) .none kV6 dc6 pm6 an6 cd6 ct6), sl6⟩)
    (c6 : PySem.W.codeIn K cd6 "free_variables" = true)
    (k6 : PySem.W.keepIn K (.ref f6) = true)
    (a7 : PySem.W.nsIn K mainGlobals "ensure_closed" = some (some (.ref f7)))
    (l7 : K.lookup f7 = some ⟨oc7, od7, .func (PySem.W.fnOf "ensure_closed" "ensure_closed" (defArgs s_ensure_closed) (defBody s_ensure_closed) (defScope s_ensure_closed) .none kV7 dc7 pm7 an7 cd7 ct7), sl7⟩)
    (c7 : PySem.W.codeIn K cd7 "ensure_closed" = true)
    (k7 : PySem.W.keepIn K (.ref f7) = true)
    (a8 : PySem.W.nsIn K mainGlobals "is_number" = some (some (.ref f8)))
    (l8 : K.lookup f8 = some ⟨oc8, od8, .func (PySem.W.fnOf "is_number" "is_number" (defArgs s_is_number) (defBody s_is_number) (defScope s_is_number) .none kV8 dc8 pm8 an8 cd8 ct8), sl8⟩)
    (c8 : PySem.W.codeIn K cd8 "is_number" = true)
    (k8 : PySem.W.keepIn K (.ref f8) = true)
    (a9 : PySem.W.nsIn K mainGlobals "ascends" = some (some (.ref f9)))
    (l9 : K.lookup f9 = some ⟨oc9, od9, .func (PySem.W.fnOf "ascends" "ascends" (defArgs s_ascends) (defBody s_ascends) (defScope s_ascends) .none kV9 dc9 pm9 an9 cd9 ct9), sl9⟩)
    (c9 : PySem.W.codeIn K cd9 "ascends" = true)
    (k9 : PySem.W.keepIn K (.ref f9) = true)
    (a10 : PySem.W.findIn K (.ref C_World) "__init__" = some (some (.ref f10)))
    (i10 : PySem.W.isFn K (.ref f10) = true)
    (l10 : K.lookup f10 = some ⟨oc10, od10, .func (PySem.W.fnOf "__init__" "World.__init__" (defArgs s_World_init) (defBody s_World_init) (defScope s_World_init) .none kV10 dc10 pm10 an10 cd10 ct10), sl10⟩)
    (c10 : PySem.W.codeIn K cd10 "World.__init__" = true)
    (k10 : PySem.W.keepIn K (.ref f10) = true)
    (a11 : PySem.W.nsIn K mainGlobals "check_numbers" = some (some (.ref f11)))
    (l11 : K.lookup f11 = some ⟨oc11, od11, .func (PySem.W.fnOf "check_numbers" "check_numbers" (defArgs s_check_numbers) (defBody s_check_numbers) (defScope s_check_numbers) .none kV11 dc11 pm11 an11 cd11 ct11), sl11⟩)
    (c11 : PySem.W.codeIn K cd11 "check_numbers" = true)
    (k11 : PySem.W.keepIn K (.ref f11) = true)
    (a12 : PySem.W.nsIn K mainGlobals "check_states" = some (some (.ref f12)))
    (l12 : K.lookup f12 = some ⟨oc12, od12, .func (PySem.W.fnOf "check_states" "check_states" (defArgs s_check_states) (defBody s_check_states) (defScope s_check_states) .none kV12 dc12 pm12 an12 cd12 ct12), sl12⟩)
    (c12 : PySem.W.codeIn K cd12 "check_states" = true)
    (k12 : PySem.W.keepIn K (.ref f12) = true)
    (a13 : PySem.W.nsIn K mainGlobals "check_steps" = some (some (.ref f13)))
    (l13 : K.lookup f13 = some ⟨oc13, od13, .func (PySem.W.fnOf "check_steps" "check_steps" (defArgs s_check_steps) (defBody s_check_steps) (defScope s_check_steps) .none kV13 dc13 pm13 an13 cd13 ct13), sl13⟩)
    (c13 : PySem.W.codeIn K cd13 "check_steps" = true)
    (k13 : PySem.W.keepIn K (.ref f13) = true)
    (a14 : PySem.W.nsIn K mainGlobals "ends_of" = some (some (.ref f14)))
    (l14 : K.lookup f14 = some ⟨oc14, od14, .func (PySem.W.fnOf "ends_of" "ends_of" (defArgs s_ends_of) (defBody s_ends_of) (defScope s_ends_of) .none kV14 dc14 pm14 an14 cd14 ct14), sl14⟩)
    (c14 : PySem.W.codeIn K cd14 "ends_of" = true)
    (k14 : PySem.W.keepIn K (.ref f14) = true)
    (a15 : PySem.W.nsIn K mainGlobals "followers" = some (some (.ref f15)))
    (l15 : K.lookup f15 = some ⟨oc15, od15, .func (PySem.W.fnOf "followers" "followers" (defArgs s_followers) (defBody s_followers) (defScope s_followers) .none kV15 dc15 pm15 an15 cd15 ct15), sl15⟩)
    (c15 : PySem.W.codeIn K cd15 "followers" = true)
    (k15 : PySem.W.keepIn K (.ref f15) = true)
    (a16 : PySem.W.findIn K (.ref C_Questions) "__init__" = some (some (.ref f16)))
    (i16 : PySem.W.isFn K (.ref f16) = true)
    (l16 : K.lookup f16 = some ⟨oc16, od16, .func (PySem.W.fnOf "__init__" "Questions.__init__" (defArgs s_Questions_init) (defBody s_Questions_init) (defScope s_Questions_init) .none kV16 dc16 pm16 an16 cd16 ct16), sl16⟩)
    (c16 : PySem.W.codeIn K cd16 "Questions.__init__" = true)
    (k16 : PySem.W.keepIn K (.ref f16) = true)
    (a17 : PySem.W.findIn K (.ref C_Questions) "entered" = some (some (.ref f17)))
    (i17 : PySem.W.isFn K (.ref f17) = true)
    (l17 : K.lookup f17 = some ⟨oc17, od17, .func (PySem.W.fnOf "entered" "Questions.entered" (defArgs s_Questions_entered) (defBody s_Questions_entered) (defScope s_Questions_entered) .none kV17 dc17 pm17 an17 cd17 ct17), sl17⟩)
    (c17 : PySem.W.codeIn K cd17 "Questions.entered" = true)
    (k17 : PySem.W.keepIn K (.ref f17) = true)
    (a18 : PySem.W.findIn K (.ref C_Questions) "answer" = some (some (.ref f18)))
    (i18 : PySem.W.isFn K (.ref f18) = true)
    (l18 : K.lookup f18 = some ⟨oc18, od18, .func (PySem.W.fnOf "answer" "Questions.answer" (defArgs s_Questions_answer) (defBody s_Questions_answer) (defScope s_Questions_answer) .none kV18 dc18 pm18 an18 cd18 ct18), sl18⟩)
    (c18 : PySem.W.codeIn K cd18 "Questions.answer" = true)
    (k18 : PySem.W.keepIn K (.ref f18) = true)
    (a19 : PySem.W.findIn K (.ref C_Questions) "_onward" = some (some (.ref f19)))
    (i19 : PySem.W.isFn K (.ref f19) = true)
    (l19 : K.lookup f19 = some ⟨oc19, od19, .func (PySem.W.fnOf "_onward" "Questions._onward" (defArgs s_Questions__onward) (defBody s_Questions__onward) (defScope s_Questions__onward) .none kV19 dc19 pm19 an19 cd19 ct19), sl19⟩)
    (c19 : PySem.W.codeIn K cd19 "Questions._onward" = true)
    (k19 : PySem.W.keepIn K (.ref f19) = true)
    (a20 : PySem.W.findIn K (.ref C_Questions) "_bound" = some (some (.ref f20)))
    (i20 : PySem.W.isFn K (.ref f20) = true)
    (l20 : K.lookup f20 = some ⟨oc20, od20, .func (PySem.W.fnOf "_bound" "Questions._bound" (defArgs s_Questions__bound) (defBody s_Questions__bound) (defScope s_Questions__bound) .none kV20 dc20 pm20 an20 cd20 ct20), sl20⟩)
    (c20 : PySem.W.codeIn K cd20 "Questions._bound" = true)
    (k20 : PySem.W.keepIn K (.ref f20) = true)
    (a21 : PySem.W.nsIn K mainGlobals "is_true_at" = some (some (.ref f21)))
    (l21 : K.lookup f21 = some ⟨oc21, od21, .func (PySem.W.fnOf "is_true_at" "is_true_at" (defArgs s_is_true_at) (defBody s_is_true_at) (defScope s_is_true_at) .none kV21 dc21 pm21 an21 cd21 ct21), sl21⟩)
    (c21 : PySem.W.codeIn K cd21 "is_true_at" = true)
    (k21 : PySem.W.keepIn K (.ref f21) = true)
    (a22 : PySem.W.nsIn K mainGlobals "is_true_without" = some (some (.ref f22)))
    (l22 : K.lookup f22 = some ⟨oc22, od22, .func (PySem.W.fnOf "is_true_without" "is_true_without" (defArgs s_is_true_without) (defBody s_is_true_without) (defScope s_is_true_without) .none kV22 dc22 pm22 an22 cd22 ct22), sl22⟩)
    (c22 : PySem.W.codeIn K cd22 "is_true_without" = true)
    (k22 : PySem.W.keepIn K (.ref f22) = true)
    (a23 : PySem.W.nsIn K mainGlobals "_law_draws" = some (some (.ref f23)))
    (l23 : K.lookup f23 = some ⟨oc23, od23, .func (PySem.W.fnOf "_law_draws" "_law_draws" (defArgs s_law_draws) (defBody s_law_draws) (defScope s_law_draws) .none kV23 dc23 pm23 an23 cd23 ct23), sl23⟩)
    (c23 : PySem.W.codeIn K cd23 "_law_draws" = true)
    (k23 : PySem.W.keepIn K (.ref f23) = true)
    (a24 : PySem.W.nsIn K mainGlobals "_law_take" = some (some (.ref f24)))
    (l24 : K.lookup f24 = some ⟨oc24, od24, .func (PySem.W.fnOf "_law_take" "_law_take" (defArgs s_law_take) (defBody s_law_take) (defScope s_law_take) .none kV24 dc24 pm24 an24 cd24 ct24), sl24⟩)
    (c24 : PySem.W.codeIn K cd24 "_law_take" = true)
    (k24 : PySem.W.keepIn K (.ref f24) = true)
    (a25 : PySem.W.nsIn K mainGlobals "_law_atom" = some (some (.ref f25)))
    (l25 : K.lookup f25 = some ⟨oc25, od25, .func (PySem.W.fnOf "_law_atom" "_law_atom" (defArgs s_law_atom) (defBody s_law_atom) (defScope s_law_atom) .none kV25 dc25 pm25 an25 cd25 ct25), sl25⟩)
    (c25 : PySem.W.codeIn K cd25 "_law_atom" = true)
    (k25 : PySem.W.keepIn K (.ref f25) = true)
    (a26 : PySem.W.nsIn K mainGlobals "_law_statement" = some (some (.ref f26)))
    (l26 : K.lookup f26 = some ⟨oc26, od26, .func (PySem.W.fnOf "_law_statement" "_law_statement" (defArgs s_law_statement) (defBody s_law_statement) (defScope s_law_statement) .none kV26 dc26 pm26 an26 cd26 ct26), sl26⟩)
    (c26 : PySem.W.codeIn K cd26 "_law_statement" = true)
    (k26 : PySem.W.keepIn K (.ref f26) = true)
    (a27 : PySem.W.nsIn K mainGlobals "_law_closed" = some (some (.ref f27)))
    (l27 : K.lookup f27 = some ⟨oc27, od27, .func (PySem.W.fnOf "_law_closed" "_law_closed" (defArgs s_law_closed) (defBody s_law_closed) (defScope s_law_closed) .none kV27 dc27 pm27 an27 cd27 ct27), sl27⟩)
    (c27 : PySem.W.codeIn K cd27 "_law_closed" = true)
    (k27 : PySem.W.keepIn K (.ref f27) = true)
    (a28 : PySem.W.nsIn K mainGlobals "_law_bound" = some (some (.ref f28)))
    (l28 : K.lookup f28 = some ⟨oc28, od28, .func (PySem.W.fnOf "_law_bound" "_law_bound" (defArgs s_law_bound) (defBody s_law_bound) (defScope s_law_bound) .none kV28 dc28 pm28 an28 cd28 ct28), sl28⟩)
    (c28 : PySem.W.codeIn K cd28 "_law_bound" = true)
    (k28 : PySem.W.keepIn K (.ref f28) = true)
    (a29 : PySem.W.nsIn K mainGlobals "_law_world" = some (some (.ref f29)))
    (l29 : K.lookup f29 = some ⟨oc29, od29, .func (PySem.W.fnOf "_law_world" "_law_world" (defArgs s_law_world) (defBody s_law_world) (defScope s_law_world) .none kV29 dc29 pm29 an29 cd29 ct29), sl29⟩)
    (c29 : PySem.W.codeIn K cd29 "_law_world" = true)
    (k29 : PySem.W.keepIn K (.ref f29) = true)
    (a30 : PySem.W.nsIn K mainGlobals "_law_made" = some (some (.ref f30)))
    (l30 : K.lookup f30 = some ⟨oc30, od30, .func (PySem.W.fnOf "_law_made" "_law_made" (defArgs s_law_made) (defBody s_law_made) (defScope s_law_made) .none kV30 dc30 pm30 an30 cd30 ct30), sl30⟩)
    (c30 : PySem.W.codeIn K cd30 "_law_made" = true)
    (k30 : PySem.W.keepIn K (.ref f30) = true)
    (a31 : PySem.W.nsIn K mainGlobals "_law_behind" = some (some (.ref f31)))
    (l31 : K.lookup f31 = some ⟨oc31, od31, .func (PySem.W.fnOf "_law_behind" "_law_behind" (defArgs s_law_behind) (defBody s_law_behind) (defScope s_law_behind) .none kV31 dc31 pm31 an31 cd31 ct31), sl31⟩)
    (c31 : PySem.W.codeIn K cd31 "_law_behind" = true)
    (k31 : PySem.W.keepIn K (.ref f31) = true)
    (a32 : PySem.W.nsIn K mainGlobals "_law_value" = some (some (.ref f32)))
    (l32 : K.lookup f32 = some ⟨oc32, od32, .func (PySem.W.fnOf "_law_value" "_law_value" (defArgs s_law_value) (defBody s_law_value) (defScope s_law_value) .none kV32 dc32 pm32 an32 cd32 ct32), sl32⟩)
    (c32 : PySem.W.codeIn K cd32 "_law_value" = true)
    (k32 : PySem.W.keepIn K (.ref f32) = true)
    (a33 : PySem.W.nsIn K mainGlobals "_law_truth" = some (some (.ref f33)))
    (l33 : K.lookup f33 = some ⟨oc33, od33, .func (PySem.W.fnOf "_law_truth" "_law_truth" (defArgs s_law_truth) (defBody s_law_truth) (defScope s_law_truth) .none kV33 dc33 pm33 an33 cd33 ct33), sl33⟩)
    (c33 : PySem.W.codeIn K cd33 "_law_truth" = true)
    (k33 : PySem.W.keepIn K (.ref f33) = true)
    (a34 : PySem.W.nsIn K mainGlobals "_law_without" = some (some (.ref f34)))
    (l34 : K.lookup f34 = some ⟨oc34, od34, .func (PySem.W.fnOf "_law_without" "_law_without" (defArgs s_law_without) (defBody s_law_without) (defScope s_law_without) .none kV34 dc34 pm34 an34 cd34 ct34), sl34⟩)
    (c34 : PySem.W.codeIn K cd34 "_law_without" = true)
    (k34 : PySem.W.keepIn K (.ref f34) = true)
    (a35 : PySem.W.nsIn K mainGlobals "_law_binders" = some (some (.ref f35)))
    (l35 : K.lookup f35 = some ⟨oc35, od35, .func (PySem.W.fnOf "_law_binders" "_law_binders" (defArgs s_law_binders) (defBody s_law_binders) (defScope s_law_binders) .none kV35 dc35 pm35 an35 cd35 ct35), sl35⟩)
    (c35 : PySem.W.codeIn K cd35 "_law_binders" = true)
    (k35 : PySem.W.keepIn K (.ref f35) = true)
    (a36 : PySem.W.nsIn K mainGlobals "law" = some (some (.ref f36)))
    (l36 : K.lookup f36 = some ⟨oc36, od36, .func (PySem.W.fnOf "law" "law" (defArgs s_law) (defBody s_law) (defScope s_law) .none kV36 dc36 pm36 an36 cd36 ct36), sl36⟩)
    (c36 : PySem.W.codeIn K cd36 "law" = true)
    (k36 : PySem.W.keepIn K (.ref f36) = true)
    (pg_Part : PySem.W.plainGet K C_Part Str.empty = true)
    (hd_Part : PySem.W.hasDictIn K C_Part = true)
    (po_Part : PySem.W.plainOver K C_Part = true)
    (sa_Part : PySem.W.findIn K (.ref C_Part) "__setattr__" = some (some (.builtin "object.__setattr__")))
    (mk_Part : PySem.W.makesIn K C_Part = true)
    (kc_Part : PySem.W.keepIn K (.ref C_Part) = true)
    (n_Part_head : PySem.W.findIn K (.ref C_Part) "head" = some none)
    (n_Part_around : PySem.W.findIn K (.ref C_Part) "around" = some none)
    (n_Part_inner : PySem.W.findIn K (.ref C_Part) "inner" = some none)
    (pg_World : PySem.W.plainGet K C_World Str.empty = true)
    (hd_World : PySem.W.hasDictIn K C_World = true)
    (po_World : PySem.W.plainOver K C_World = true)
    (sa_World : PySem.W.findIn K (.ref C_World) "__setattr__" = some (some (.builtin "object.__setattr__")))
    (mk_World : PySem.W.makesIn K C_World = true)
    (kc_World : PySem.W.keepIn K (.ref C_World) = true)
    (n_World_labels : PySem.W.findIn K (.ref C_World) "labels" = some none)
    (n_World_facts : PySem.W.findIn K (.ref C_World) "facts" = some none)
    (n_World_states : PySem.W.findIn K (.ref C_World) "states" = some none)
    (n_World_steps : PySem.W.findIn K (.ref C_World) "steps" = some none)
    (n_World__ends : PySem.W.findIn K (.ref C_World) "_ends" = some none)
    (pg_Questions : PySem.W.plainGet K C_Questions Str.empty = true)
    (hd_Questions : PySem.W.hasDictIn K C_Questions = true)
    (po_Questions : PySem.W.plainOver K C_Questions = true)
    (sa_Questions : PySem.W.findIn K (.ref C_Questions) "__setattr__" = some (some (.builtin "object.__setattr__")))
    (mk_Questions : PySem.W.makesIn K C_Questions = true)
    (kc_Questions : PySem.W.keepIn K (.ref C_Questions) = true)
    (n_Questions__world : PySem.W.findIn K (.ref C_Questions) "_world" = some none)
    (n_Questions__parts : PySem.W.findIn K (.ref C_Questions) "_parts" = some none)
    (n_Questions__binders : PySem.W.findIn K (.ref C_Questions) "_binders" = some none)
    (n_Questions__depths : PySem.W.findIn K (.ref C_Questions) "_depths" = some none)
    (n_Questions__known : PySem.W.findIn K (.ref C_Questions) "_known" = some none)
    (z_all : PySem.W.nsIn K mainGlobals "all" = some none)
    (z_bool : PySem.W.nsIn K mainGlobals "bool" = some none)
    (z_enumerate : PySem.W.nsIn K mainGlobals "enumerate" = some none)
    (z_int : PySem.W.nsIn K mainGlobals "int" = some none)
    (z_isinstance : PySem.W.nsIn K mainGlobals "isinstance" = some none)
    (z_len : PySem.W.nsIn K mainGlobals "len" = some none)
    (z_list : PySem.W.nsIn K mainGlobals "list" = some none)
    (z_range : PySem.W.nsIn K mainGlobals "range" = some none)
    (z_reversed : PySem.W.nsIn K mainGlobals "reversed" = some none)
    (z_sorted : PySem.W.nsIn K mainGlobals "sorted" = some none)
    (z_sum : PySem.W.nsIn K mainGlobals "sum" = some none)
    (z_tuple : PySem.W.nsIn K mainGlobals "tuple" = some none)
    (z_zip : PySem.W.nsIn K mainGlobals "zip" = some none)
    (aJ_BINDERS : PySem.W.nsIn K mainGlobals "BINDERS" = some (some (.ref J_BINDERS)))
    (lJ_BINDERS : K.lookup J_BINDERS = some ⟨.type "tuple", dJ_BINDERS, .seq #[.str "least" t_BINDERS_0, .str "most" t_BINDERS_1] nJ_BINDERS, sJ_BINDERS⟩)
    (aJ_JOINS : PySem.W.nsIn K mainGlobals "JOINS" = some (some (.ref J_JOINS)))
    (lJ_JOINS : K.lookup J_JOINS = some ⟨.type "tuple", dJ_JOINS, .seq #[.str "and" t_JOINS_0, .str "or" t_JOINS_1] nJ_JOINS, sJ_JOINS⟩)
    (aJ_STEPPERS : PySem.W.nsIn K mainGlobals "STEPPERS" = some (some (.ref J_STEPPERS)))
    (lJ_STEPPERS : K.lookup J_STEPPERS = some ⟨.type "tuple", dJ_STEPPERS, .seq #[.str "some" t_STEPPERS_0, .str "all" t_STEPPERS_1] nJ_STEPPERS, sJ_STEPPERS⟩)
    (aI_MOST_LABELS : PySem.W.nsIn K mainGlobals "MOST_LABELS" = some (some (.int 3 t_MOST_LABELS)))
    (aI_MOST_FACTS : PySem.W.nsIn K mainGlobals "MOST_FACTS" = some (some (.int 6 t_MOST_FACTS)))
    (aI_MOST_STATES : PySem.W.nsIn K mainGlobals "MOST_STATES" = some (some (.int 400 t_MOST_STATES)))
    (e_gC : PySem.W.nsIn K mainGlobals "NotClosed" = some (some (.ref NC)))
    (e_gF : PySem.W.nsIn K mainGlobals "FixError" = some (some (.ref FE)))
    (e_xC : PySem.W.excIn K NC [.type "ValueError", .type "Exception", .type "BaseException", .type "object"] "ValueError.__new__" = true)
    (e_kC : PySem.W.keepIn K (.ref NC) = true)
    (e_bC : PySem.W.subIn K (.ref NC) (.type "BaseException") = some true)
    (e_tC : PySem.W.typeIn K (.ref NC) = some (.type "type"))
    (e_iC : PySem.W.isClsIn K NC = true)
    (e_sC : PySem.W.subIn K (.ref NC) (.ref NC) = some true)
    (e_xg : PySem.W.findIn K (.ref NC) "__getattribute__" = some (some (.builtin "BaseException.__getattribute__")))
    (e_xk : PySem.W.findIn K (.ref NC) "__getattr__" = some none)
    (e_xd : PySem.W.hasDictIn K NC = true)
    (e_xa : PySem.W.findIn K (.ref NC) "__class__" = some (some (.builtin "object.__class__")))
    (e_xn : PySem.W.specialIn K (.builtin "object.__class__") "__get__" = some (some (.builtin "getset_descriptor.__get__")))
    (e_xt : PySem.W.takesIn K (.builtin "object.__class__") = some true)
    (e_xm : PySem.W.mroIn K NC (.type "object") = some true)
    (e_kF : PySem.W.kitOne K (.ref NC) (.ref FE) = some true)
    (e_kV : PySem.W.kitOne K (.ref NC) (.type "ValueError") = some true)
    (w_gC : PySem.W.nsIn K mainGlobals "InvalidWorld" = some (some (.ref NW)))
    (w_xC : PySem.W.excIn K NW [.type "ValueError", .type "Exception", .type "BaseException", .type "object"] "ValueError.__new__" = true)
    (w_kC : PySem.W.keepIn K (.ref NW) = true)
    (w_bC : PySem.W.subIn K (.ref NW) (.type "BaseException") = some true)
    (w_tC : PySem.W.typeIn K (.ref NW) = some (.type "type"))
    (w_sC : PySem.W.subIn K (.ref NW) (.ref NW) = some true)
    (w_xd : PySem.W.hasDictIn K NW = true)
    (hc_ascends : cd9 = .ref c_ascends)
    (lc_ascends : K.lookup c_ascends = some ⟨cc_ascends, cd_ascends, .fields cv_ascends, cn_ascends⟩)
    (pT_ascends : (cv_ascends[11]? : Option Value) = some (.ref t_ascends))
    (nT_ascends : K.lookup t_ascends = none) :
    Top35 P w K mg fa := by
  have e := hfa.symm.trans (PySem.W.mg_of X G a36)
  cases e
  have F_mask_of := fun_mk (st := s_mask_of) l0 c0 k0
  have b_mask_of := F_mask_of.binds (ps := a_mask_of) fun _ _ _ _ _ _ us hl => match us, hl with | [_], _ => rfl
  have m_mask_of := PySem.W.mg_of X G a0
  have F_Part_init := fun_mk (st := s_Part_init) l1 c1 k1
  have b_Part_init := F_Part_init.binds (ps := a_Part_init) fun _ _ _ _ _ _ us hl => match us, hl with | [_, _, _], _ => rfl
  have F_head_of := fun_mk (st := s_head_of) l2 c2 k2
  have b_head_of := F_head_of.binds (ps := a_head_of) fun _ _ _ _ _ _ us hl => match us, hl with | [_], _ => rfl
  have m_head_of := PySem.W.mg_of X G a2
  have F_parts_of := fun_mk (st := s_parts_of) l3 c3 k3
  have b_parts_of := F_parts_of.binds (ps := a_parts_of) fun _ _ _ _ _ _ us hl => match us, hl with | [_], _ => rfl
  have m_parts_of := PySem.W.mg_of X G a3
  have F_nearest_around := fun_mk (st := s_nearest_around) l4 c4 k4
  have b_nearest_around := F_nearest_around.binds (ps := a_nearest_around) fun _ _ _ _ _ _ us hl => match us, hl with | [_, _], _ => rfl
  have m_nearest_around := PySem.W.mg_of X G a4
  have F_binder_places := fun_mk (st := s_binder_places) l5 c5 k5
  have b_binder_places := F_binder_places.binds (ps := a_binder_places) fun _ _ _ _ _ _ us hl => match us, hl with | [_], _ => rfl
  have m_binder_places := PySem.W.mg_of X G a5
  have F_free_variables := fun_mk (st := s_free_variables) l6 c6 k6
  have b_free_variables := F_free_variables.binds (ps := a_free_variables) fun _ _ _ _ _ _ us hl => match us, hl with | [_], _ => rfl
  have m_free_variables := PySem.W.mg_of X G a6
  have F_ensure_closed := fun_mk (st := s_ensure_closed) l7 c7 k7
  have b_ensure_closed := F_ensure_closed.binds (ps := a_ensure_closed) fun _ _ _ _ _ _ us hl => match us, hl with | [_], _ => rfl
  have m_ensure_closed := PySem.W.mg_of X G a7
  have F_is_number := fun_mk (st := s_is_number) l8 c8 k8
  have b_is_number := F_is_number.binds (ps := a_is_number) fun _ _ _ _ _ _ us hl => match us, hl with | [_, _, _], _ => rfl
  have m_is_number := PySem.W.mg_of X G a8
  have F_ascends := fun_mk (st := s_ascends) l9 c9 k9
  have b_ascends := F_ascends.binds (ps := a_ascends) fun _ _ _ _ _ _ us hl => match us, hl with | [_], _ => rfl
  have m_ascends := PySem.W.mg_of X G a9
  have F_World_init := fun_mk (st := s_World_init) l10 c10 k10
  have b_World_init := F_World_init.binds (ps := a_World_init) fun _ _ _ _ _ _ us hl => match us, hl with | [_, _, _, _, _], _ => rfl
  have F_check_numbers := fun_mk (st := s_check_numbers) l11 c11 k11
  have b_check_numbers := F_check_numbers.binds (ps := a_check_numbers) fun _ _ _ _ _ _ us hl => match us, hl with | [_, _], _ => rfl
  have m_check_numbers := PySem.W.mg_of X G a11
  have F_check_states := fun_mk (st := s_check_states) l12 c12 k12
  have b_check_states := F_check_states.binds (ps := a_check_states) fun _ _ _ _ _ _ us hl => match us, hl with | [_], _ => rfl
  have m_check_states := PySem.W.mg_of X G a12
  have F_check_steps := fun_mk (st := s_check_steps) l13 c13 k13
  have b_check_steps := F_check_steps.binds (ps := a_check_steps) fun _ _ _ _ _ _ us hl => match us, hl with | [_], _ => rfl
  have m_check_steps := PySem.W.mg_of X G a13
  have F_ends_of := fun_mk (st := s_ends_of) l14 c14 k14
  have b_ends_of := F_ends_of.binds (ps := a_ends_of) fun _ _ _ _ _ _ us hl => match us, hl with | [_], _ => rfl
  have m_ends_of := PySem.W.mg_of X G a14
  have F_followers := fun_mk (st := s_followers) l15 c15 k15
  have b_followers := F_followers.binds (ps := a_followers) fun _ _ _ _ _ _ us hl => match us, hl with | [_, _, _], _ => rfl
  have m_followers := PySem.W.mg_of X G a15
  have F_Questions_init := fun_mk (st := s_Questions_init) l16 c16 k16
  have b_Questions_init := F_Questions_init.binds (ps := a_Questions_init) fun _ _ _ _ _ _ us hl => match us, hl with | [_, _, _], _ => rfl
  have F_Questions_entered := fun_mk (st := s_Questions_entered) l17 c17 k17
  have b_Questions_entered := F_Questions_entered.binds (ps := a_Questions_entered) fun _ _ _ _ _ _ us hl => match us, hl with | [_, _, _, _], _ => rfl
  have F_Questions_answer := fun_mk (st := s_Questions_answer) l18 c18 k18
  have b_Questions_answer := F_Questions_answer.binds (ps := a_Questions_answer) fun _ _ _ _ _ _ us hl => match us, hl with | [_, _], _ => rfl
  have F_Questions__onward := fun_mk (st := s_Questions__onward) l19 c19 k19
  have b_Questions__onward := F_Questions__onward.binds (ps := a_Questions__onward) fun _ _ _ _ _ _ us hl => match us, hl with | [_, _], _ => rfl
  have F_Questions__bound := fun_mk (st := s_Questions__bound) l20 c20 k20
  have b_Questions__bound := F_Questions__bound.binds (ps := a_Questions__bound) fun _ _ _ _ _ _ us hl => match us, hl with | [_, _, _, _], _ => rfl
  have F_is_true_at := fun_mk (st := s_is_true_at) l21 c21 k21
  have b_is_true_at := F_is_true_at.binds (ps := a_is_true_at) fun _ _ _ _ _ _ us hl => match us, hl with | [_, _, _], _ => rfl
  have m_is_true_at := PySem.W.mg_of X G a21
  have F_is_true_without := fun_mk (st := s_is_true_without) l22 c22 k22
  have b_is_true_without := F_is_true_without.binds (ps := a_is_true_without) fun _ _ _ _ _ _ us hl => match us, hl with | [_, _, _, _], _ => rfl
  have m_is_true_without := PySem.W.mg_of X G a22
  have F_law_draws := fun_mk (st := s_law_draws) l23 c23 k23
  have b_law_draws := F_law_draws.binds (ps := a_law_draws) fun _ _ _ _ _ _ us hl => match us, hl with | [_, _], _ => rfl
  have m_law_draws := PySem.W.mg_of X G a23
  have F_law_take := fun_mk (st := s_law_take) l24 c24 k24
  have b_law_take := F_law_take.binds (ps := a_law_take) fun _ _ _ _ _ _ us hl => match us, hl with | [_, _], _ => rfl
  have m_law_take := PySem.W.mg_of X G a24
  have F_law_atom := fun_mk (st := s_law_atom) l25 c25 k25
  have b_law_atom := F_law_atom.binds (ps := a_law_atom) fun _ _ _ _ _ _ us hl => match us, hl with | [_, _], _ => rfl
  have m_law_atom := PySem.W.mg_of X G a25
  have F_law_statement := fun_mk (st := s_law_statement) l26 c26 k26
  have b_law_statement := F_law_statement.binds (ps := a_law_statement) fun _ _ _ _ _ _ us hl => match us, hl with | [_, _, _, _, _], _ => rfl
  have m_law_statement := PySem.W.mg_of X G a26
  have F_law_closed := fun_mk (st := s_law_closed) l27 c27 k27
  have b_law_closed := F_law_closed.binds (ps := a_law_closed) fun _ _ _ _ _ _ us hl => match us, hl with | [_, _], _ => rfl
  have m_law_closed := PySem.W.mg_of X G a27
  have F_law_bound := fun_mk (st := s_law_bound) l28 c28 k28
  have b_law_bound := F_law_bound.binds (ps := a_law_bound) fun _ _ _ _ _ _ us hl => match us, hl with | [_, _], _ => rfl
  have m_law_bound := PySem.W.mg_of X G a28
  have F_law_world := fun_mk (st := s_law_world) l29 c29 k29
  have b_law_world := F_law_world.binds (ps := a_law_world) fun _ _ _ _ _ _ us hl => match us, hl with | [_, _, _], _ => rfl
  have m_law_world := PySem.W.mg_of X G a29
  have F_law_made := fun_mk (st := s_law_made) l30 c30 k30
  have b_law_made := F_law_made.binds (ps := a_law_made) fun _ _ _ _ _ _ us hl => match us, hl with | [_, _, _], _ => rfl
  have m_law_made := PySem.W.mg_of X G a30
  have F_law_behind := fun_mk (st := s_law_behind) l31 c31 k31
  have b_law_behind := F_law_behind.binds (ps := a_law_behind) fun _ _ _ _ _ _ us hl => match us, hl with | [_, _, _], _ => rfl
  have m_law_behind := PySem.W.mg_of X G a31
  have F_law_value := fun_mk (st := s_law_value) l32 c32 k32
  have b_law_value := F_law_value.binds (ps := a_law_value) fun _ _ _ _ _ _ us hl => match us, hl with | [_, _, _], _ => rfl
  have m_law_value := PySem.W.mg_of X G a32
  have F_law_truth := fun_mk (st := s_law_truth) l33 c33 k33
  have b_law_truth := F_law_truth.binds (ps := a_law_truth) fun _ _ _ _ _ _ us hl => match us, hl with | [_, _], _ => rfl
  have m_law_truth := PySem.W.mg_of X G a33
  have F_law_without := fun_mk (st := s_law_without) l34 c34 k34
  have b_law_without := F_law_without.binds (ps := a_law_without) fun _ _ _ _ _ _ us hl => match us, hl with | [_, _, _], _ => rfl
  have m_law_without := PySem.W.mg_of X G a34
  have F_law_binders := fun_mk (st := s_law_binders) l35 c35 k35
  have b_law_binders := F_law_binders.binds (ps := a_law_binders) fun _ _ _ _ _ _ us hl => match us, hl with | [_], _ => rfl
  have m_law_binders := PySem.W.mg_of X G a35
  have F_law := fun_mk (st := s_law) l36 c36 k36
  have T : Txt K mg C_Part J_JOINS J_BINDERS := ⟨PySem.W.mg_none_of X G z_all, PySem.W.mg_none_of X G z_bool, PySem.W.mg_none_of X G z_enumerate, PySem.W.mg_none_of X G z_int, PySem.W.mg_none_of X G z_isinstance, PySem.W.mg_none_of X G z_len, PySem.W.mg_none_of X G z_list, PySem.W.mg_none_of X G z_range, PySem.W.mg_none_of X G z_reversed, PySem.W.mg_none_of X G z_sorted, PySem.W.mg_none_of X G z_sum, PySem.W.mg_none_of X G z_tuple, PySem.W.mg_none_of X G z_zip, PySem.W.mg_of X G aJ_JOINS, pairK lJ_JOINS, PySem.W.mg_of X G aJ_BINDERS, pairK lJ_BINDERS, ⟨pg_Part, hd_Part, po_Part, sa_Part⟩, n_Part_head, n_Part_around, n_Part_inner⟩
  have TN : TxtE K mg NC FE := ⟨PySem.W.mg_of X G e_gC, PySem.W.mg_of X G e_gF, e_xC, e_kC, e_bC, e_tC, exm_own e_bC e_xd e_tC e_sC, ⟨e_xg, e_xk, e_bC, e_xd, e_xa, e_xn, e_xt, e_xm⟩, e_kF, e_kV⟩
  have TE : TxtEW K mg NW := ⟨PySem.W.mg_of X G w_gC, w_xC, w_kC, w_bC, w_tC, exm_own w_bC w_xd w_tC w_sC⟩
  have TP : TxtP K mg J_STEPPERS := ⟨PySem.W.mg_of X G aJ_STEPPERS, pairK lJ_STEPPERS⟩
  have TC : TxtC K C_World := ⟨⟨pg_World, hd_World, po_World, sa_World⟩, n_World_labels, n_World_facts, n_World_states, n_World_steps, n_World__ends⟩
  have TQ : TxtQ K C_Questions := ⟨⟨pg_Questions, hd_Questions, po_Questions, sa_Questions⟩, n_Questions__world, n_Questions__parts, n_Questions__binders, n_Questions__depths, n_Questions__known⟩
  have TR : TxtL mg t_MOST_LABELS t_MOST_FACTS t_MOST_STATES := ⟨PySem.W.mg_of X G aI_MOST_LABELS, PySem.W.mg_of X G aI_MOST_FACTS, PySem.W.mg_of X G aI_MOST_STATES⟩
  subst hc_ascends
  have aT_ascends : PySem.W.tabIn K "ascends" = some (c_ascends, t_ascends) := by
    simp only [PySem.W.tabIn, a9, l9, PySem.W.fnOf, lc_ascends, pT_ascends]
  have FC : FunC K "ascends" "ascends" s_ascends f9 _ c_ascends := ⟨⟨_, _, _, _, _, _, _, _, rfl, l9, c9⟩⟩
  refine ⟨PySem.W.fnOf "law" "law" (defArgs s_law) (defBody s_law) (defScope s_law) .none kV36 dc36 pm36 an36 cd36 ct36, c_ascends, t_ascends, aT_ascends, nT_ascends, fun s u => .of_eq rfl, fun base _ _ TB => ?_⟩
  have h_num : Has P w K mg base "is_number" 1 a_is_number spNum := ⟨_, _, m_is_number, F_is_number.kp, b_is_number, ok_is_number F_is_number T⟩
  have h_asc : Has P w K mg base "ascends" 4 a_ascends (spAsc K t_ascends) := ⟨_, _, m_ascends, F_ascends.kp, b_ascends, ok_ascends FC T TB⟩
  have h_ckn : HasX P w K mg base "check_numbers" 2 a_check_numbers (spCkN NW) := ⟨_, _, m_check_numbers, F_check_numbers.kp, b_check_numbers, ok_check_numbers F_check_numbers T TE TR h_num⟩
  have h_cks : HasX P w K mg base "check_states" 5 a_check_states (spCkS K NW C_World t_ascends) := ⟨_, _, m_check_states, F_check_states.kp, b_check_states, ok_check_states F_check_states T TC TE TR h_num h_asc⟩
  have h_ckt : HasX P w K mg base "check_steps" 5 a_check_steps (spCkT K NW C_World t_ascends) := ⟨_, _, m_check_steps, F_check_steps.kp, b_check_steps, ok_check_steps F_check_steps T TC TE h_num h_asc⟩
  have h_ends : Has P w K mg base "ends_of" 1 a_ends_of (spEnds K) := ⟨_, _, m_ends_of, F_ends_of.kp, b_ends_of, ok_ends_of F_ends_of T⟩
  have h_World : HasCX P w K mg base "World" C_World 6 a_World_init (spWInit K NW C_World t_ascends) := ⟨_, _, PySem.W.mg_of X G aC_World, ⟨mk_World, a10, i10, kc_World⟩, b_World_init, ok_World_init F_World_init T TC h_ckn h_cks h_ckt h_ends⟩
  have h_Part : HasC P w K mg base "Part" C_Part 1 a_Part_init (spPart K C_Part) := ⟨_, _, PySem.W.mg_of X G aC_Part, ⟨mk_Part, a1, i1, kc_Part⟩, b_Part_init, ok_Part F_Part_init T⟩
  have h_head_of : Has P w K mg base "head_of" 1 a_head_of (spHead K) := ⟨_, _, m_head_of, F_head_of.kp, b_head_of, ok_head_of F_head_of T⟩
  have h_parts_of : Has P w K mg base "parts_of" 3 a_parts_of (spParts K C_Part) := ⟨_, _, m_parts_of, F_parts_of.kp, b_parts_of, ok_parts_of F_parts_of T h_head_of h_Part⟩
  have h_near : Has P w K mg base "nearest_around" 1 a_nearest_around (spNear K C_Part J_BINDERS) := ⟨_, _, m_nearest_around, F_nearest_around.kp, b_nearest_around, ok_nearest_around F_nearest_around T⟩
  have h_places : Has P w K mg base "binder_places" 2 a_binder_places (spPlaces K C_Part) := ⟨_, _, m_binder_places, F_binder_places.kp, b_binder_places, ok_binder_places F_binder_places T h_near⟩
  have h_free : Has P w K mg base "free_variables" 4 a_free_variables (spFree K) := ⟨_, _, m_free_variables, F_free_variables.kp, b_free_variables, ok_free_variables F_free_variables T h_parts_of h_places⟩
  have h_ens : HasX P w K mg base "ensure_closed" 5 a_ensure_closed (spEnsure K NC) := ⟨_, _, m_ensure_closed, F_ensure_closed.kp, b_ensure_closed, ok_ensure_closed F_ensure_closed T TN h_free⟩
  have h_fol : Has P w K mg base "followers" 1 a_followers (spFol K C_World) := ⟨_, _, m_followers, F_followers.kp, b_followers, ok_followers F_followers T TC⟩
  have h_mask : Has P w K mg base "mask_of" 1 a_mask_of spMask := ⟨_, _, m_mask_of, F_mask_of.kp, b_mask_of, ok_mask_of F_mask_of⟩
  have M_en : Meth K C_Questions "entered" f17 := ⟨a17, i17, k17⟩
  have M_an : Meth K C_Questions "answer" f18 := ⟨a18, i18, k18⟩
  have M_on : Meth K C_Questions "_onward" f19 := ⟨a19, i19, k19⟩
  have M_bo : Meth K C_Questions "_bound" f20 := ⟨a20, i20, k20⟩
  have g_en := ok_entered (P := P) (w := w) (mg := mg) (base := base) (WC := C_World) F_Questions_entered T TQ
  have g_bo := ok_bound (P := P) (w := w) (mg := mg) (base := base) F_Questions__bound T TQ M_en g_en b_Questions_entered
  have g_on := ok_onward (P := P) (w := w) (mg := mg) (base := base) F_Questions__onward T TQ TC TP M_en g_en b_Questions_entered M_bo g_bo b_Questions__bound h_fol
  have g_an := ok_answer (P := P) (w := w) (mg := mg) (base := base) F_Questions_answer T TQ M_on g_on b_Questions__onward
  have h_Questions : HasC P w K mg base "Questions" C_Questions 4 a_Questions_init (spQI P w K C_Part C_World C_Questions) := ⟨_, _, PySem.W.mg_of X G aC_Questions, ⟨mk_Questions, a16, i16, kc_Questions⟩, b_Questions_init, ok_Questions_init F_Questions_init T TQ h_parts_of h_near h_places⟩
  have h_at : Has P w K mg base "is_true_at" 6 a_is_true_at (spAt K C_World) := ⟨_, _, m_is_true_at, F_is_true_at.kp, b_is_true_at, ok_is_true_at F_is_true_at T TQ h_ens h_Questions M_en g_en b_Questions_entered M_an g_an b_Questions_answer⟩
  have h_wo : Has P w K mg base "is_true_without" 6 a_is_true_without (spWo K C_World) := ⟨_, _, m_is_true_without, F_is_true_without.kp, b_is_true_without, ok_is_true_without F_is_true_without T TQ h_mask h_Questions M_an g_an b_Questions_answer⟩
  have h_draws : Has P w K mg base "_law_draws" 1 a_law_draws (spDraws K) := ⟨_, _, m_law_draws, F_law_draws.kp, b_law_draws, ok_law_draws F_law_draws T⟩
  have h_take : Has P w K mg base "_law_take" 1 a_law_take spTake := ⟨_, _, m_law_take, F_law_take.kp, b_law_take, ok_law_take F_law_take T⟩
  have h_atom : Has P w K mg base "_law_atom" 2 a_law_atom (spAtom K) := ⟨_, _, m_law_atom, F_law_atom.kp, b_law_atom, ok_law_atom F_law_atom T h_take⟩
  have h_st := all_statement (P := P) (w := w) (base := base) F_law_statement b_law_statement m_law_statement T h_take h_atom
  have h_closed : Has P w K mg base "_law_closed" 7 a_law_closed (spClosed K 3) := ⟨_, _, m_law_closed, F_law_closed.kp, b_law_closed, ok_law_closed 3 F_law_closed (h_st 4)⟩
  have h_closed2 : Has P w K mg base "_law_closed" 6 a_law_closed (spClosed K 2) := ⟨_, _, m_law_closed, F_law_closed.kp, b_law_closed, ok_law_closed 2 F_law_closed (h_st 3)⟩
  have h_lbnd : Has P w K mg base "_law_bound" 6 a_law_bound (spLBnd K) := ⟨_, _, m_law_bound, F_law_bound.kp, b_law_bound, ok_law_bound F_law_bound T h_take (h_st 3)⟩
  have h_lbin := all_binders (P := P) (w := w) (base := base) F_law_binders b_law_binders m_law_binders T 5
  have h_world : Has P w K mg base "_law_world" 2 a_law_world spWorld := ⟨_, _, m_law_world, F_law_world.kp, b_law_world, ok_law_world F_law_world T h_take⟩
  have h_behind : Has P w K mg base "_law_behind" 1 a_law_behind (spBehind K) := ⟨_, _, m_law_behind, F_law_behind.kp, b_law_behind, ok_law_behind F_law_behind T⟩
  have h_value := all_value (P := P) (w := w) (base := base) F_law_value b_law_value m_law_value T h_behind 20
  have h_truth : Has P w K mg base "_law_truth" 23 a_law_truth (spTruth K) := ⟨_, _, m_law_truth, F_law_truth.kp, b_law_truth, ok_law_truth F_law_truth T h_value⟩
  have h_lwo : Has P w K mg base "_law_without" 23 a_law_without (spLWo K) := ⟨_, _, m_law_without, F_law_without.kp, b_law_without, ok_law_without F_law_without T h_value⟩
  have h_made : HasX P w K mg base "_law_made" 8 a_law_made (spMade K C_World t_ascends) := ⟨_, _, m_law_made, F_law_made.kp, b_law_made, ok_law_made F_law_made T h_World⟩
  exact ok_law F_law T h_draws h_take h_closed h_closed2 h_lbnd h_lbin h_world h_made h_truth h_lwo h_at h_wo
theorem walk {l : PySem.W.OpenLaw} {q : Program} {loose : List Str} {XP : (Str → Option Value) → Heap → Prop} {YP : World → Heap → Prop} {d dA : DefRec} {K : Params → PySem.W.Frag} (hn : l.most = some 63) (hdf : d.params.defaults = [])
    (hY : ∀ (w : World) (h : Heap), YP w h → (K w.params).In h) (hA : (recsOf q).find? (fun e => e.name == ("ascends" : Str)) = some dA)
    (F : ∀ (w : World) (mg : Str → Option Value) (fa : Addr) (h : Heap), (K w.params).In h → h.Ns mainGlobals mg → mg d.name = some (.ref fa) → Top35 l.prog w (K w.params) mg fa) :
    PySem.W.WalkO q loose XP YP l.row.toRowW d [] (fun f vs => PySem.call f vs) := by
  refine Att.attach_callB hn hdf fun w s₀ s₁ mg mb fa o pm cd doc a vs ns G Y ho hd hcd hmg hobj hints hlen hbits hg => ?_
  have KX := hY w _ Y
  obtain ⟨fd, cA, tA, tA1, nT, hb, hF⟩ := F w mg fa _ KX G.T.g hmg
  obtain ⟨C, hT⟩ := PySem.W.tab_of G.T KX hA tA1
  refine LamX.law_callTs (cs := [(cA, tA)]) (k := 24) (sp := spLaw (K w.params) tA) (CX := CX0) KX G.T.g G.T.b G.T.builtins G.T.nolimit hg (fun p hp => ?_) (fun p hp => ?_) (fun p hp => ?_) G.T.bmain hobj hints (Nat.le_trans hlen (by decide)) ⟨rfl, by decide, by decide⟩ (fun base b1 b2 TB => ?_) hb (fun H hH hS => ?_) fun H e s' z => z
  · rw [List.mem_singleton.mp hp]; exact hT
  · rw [List.mem_singleton.mp hp]; exact nT
  · rw [List.mem_singleton.mp hp]; exact C
  · have tb := TB _ List.mem_cons_self
    exact hF base b1 b2 ⟨tb.code, tb.bm, tb.gP⟩
  · exact ⟨a, ns, rfl, hS, ⟨_, hH _ List.mem_cons_self, trivial⟩, hlen, fun _ => rfl⟩
end Fw

set_option maxRecDepth 100000
open PySem PySem.W PyProof.Rows
set_option maxHeartbeats 0 in
theorem PySem.Challenge.cw_fixworlds_k35_local_truth_holds : PySem.Challenge.rw_fixworlds_k35_local_truth.Holds := by
  w_on; o_law; k_head; (case hw => w_witness2)
  k_fill
  refine Fw.walk (l := PySem.Challenge.rw_fixworlds_k35_local_truth) rfl rfl (fun w h Y => PySem.W.kIn_of Y) rfl ?F
  case F =>
    intro w mg fa h KX G hmg
    refine' Fw.all_mk KX G hmg ?aC_Part ?aC_World ?aC_Questions ?a0 ?l0 ?c0 ?k0 ?a1 ?i1 ?l1 ?c1 ?k1 ?a2 ?l2 ?c2 ?k2 ?a3 ?l3 ?c3 ?k3 ?a4 ?l4 ?c4 ?k4 ?a5 ?l5 ?c5 ?k5 ?a6 ?l6 ?c6 ?k6 ?a7 ?l7 ?c7 ?k7 ?a8 ?l8 ?c8 ?k8 ?a9 ?l9 ?c9 ?k9 ?a10 ?i10 ?l10 ?c10 ?k10 ?a11 ?l11 ?c11 ?k11 ?a12 ?l12 ?c12 ?k12 ?a13 ?l13 ?c13 ?k13 ?a14 ?l14 ?c14 ?k14 ?a15 ?l15 ?c15 ?k15 ?a16 ?i16 ?l16 ?c16 ?k16 ?a17 ?i17 ?l17 ?c17 ?k17 ?a18 ?i18 ?l18 ?c18 ?k18 ?a19 ?i19 ?l19 ?c19 ?k19 ?a20 ?i20 ?l20 ?c20 ?k20 ?a21 ?l21 ?c21 ?k21 ?a22 ?l22 ?c22 ?k22 ?a23 ?l23 ?c23 ?k23 ?a24 ?l24 ?c24 ?k24 ?a25 ?l25 ?c25 ?k25 ?a26 ?l26 ?c26 ?k26 ?a27 ?l27 ?c27 ?k27 ?a28 ?l28 ?c28 ?k28 ?a29 ?l29 ?c29 ?k29 ?a30 ?l30 ?c30 ?k30 ?a31 ?l31 ?c31 ?k31 ?a32 ?l32 ?c32 ?k32 ?a33 ?l33 ?c33 ?k33 ?a34 ?l34 ?c34 ?k34 ?a35 ?l35 ?c35 ?k35 ?a36 ?l36 ?c36 ?k36 ?pg_Part ?hd_Part ?po_Part ?sa_Part ?mk_Part ?kc_Part ?n_Part_head ?n_Part_around ?n_Part_inner ?pg_World ?hd_World ?po_World ?sa_World ?mk_World ?kc_World ?n_World_labels ?n_World_facts ?n_World_states ?n_World_steps ?n_World__ends ?pg_Questions ?hd_Questions ?po_Questions ?sa_Questions ?mk_Questions ?kc_Questions ?n_Questions__world ?n_Questions__parts ?n_Questions__binders ?n_Questions__depths ?n_Questions__known ?z_all ?z_bool ?z_enumerate ?z_int ?z_isinstance ?z_len ?z_list ?z_range ?z_reversed ?z_sorted ?z_sum ?z_tuple ?z_zip ?aJ_BINDERS ?lJ_BINDERS ?aJ_JOINS ?lJ_JOINS ?aJ_STEPPERS ?lJ_STEPPERS ?aI_MOST_LABELS ?aI_MOST_FACTS ?aI_MOST_STATES ?e_gC ?e_gF ?e_xC ?e_kC ?e_bC ?e_tC ?e_iC ?e_sC ?e_xg ?e_xk ?e_xd ?e_xa ?e_xn ?e_xt ?e_xm ?e_kF ?e_kV ?w_gC ?w_xC ?w_kC ?w_bC ?w_tC ?w_sC ?w_xd ?hc_ascends ?lc_ascends ?pT_ascends ?nT_ascends
    (case aC_Part => k_is)
    (case aC_World => k_is)
    (case aC_Questions => k_is)
    (case a0 => k_is)
    (case l0 => k_is)
    (case c0 => k_is)
    (case k0 => k_is)
    (case a1 => k_is)
    (case i1 => k_is)
    (case l1 => k_is)
    (case c1 => k_is)
    (case k1 => k_is)
    (case a2 => k_is)
    (case l2 => k_is)
    (case c2 => k_is)
    (case k2 => k_is)
    (case a3 => k_is)
    (case l3 => k_is)
    (case c3 => k_is)
    (case k3 => k_is)
    (case a4 => k_is)
    (case l4 => k_is)
    (case c4 => k_is)
    (case k4 => k_is)
    (case a5 => k_is)
    (case l5 => k_is)
    (case c5 => k_is)
    (case k5 => k_is)
    (case a6 => k_is)
    (case l6 => k_is)
    (case c6 => k_is)
    (case k6 => k_is)
    (case a7 => k_is)
    (case l7 => k_is)
    (case c7 => k_is)
    (case k7 => k_is)
    (case a8 => k_is)
    (case l8 => k_is)
    (case c8 => k_is)
    (case k8 => k_is)
    (case a9 => k_is)
    (case l9 => k_is)
    (case c9 => k_is)
    (case k9 => k_is)
    (case a10 => k_is)
    (case i10 => k_is)
    (case l10 => k_is)
    (case c10 => k_is)
    (case k10 => k_is)
    (case a11 => k_is)
    (case l11 => k_is)
    (case c11 => k_is)
    (case k11 => k_is)
    (case a12 => k_is)
    (case l12 => k_is)
    (case c12 => k_is)
    (case k12 => k_is)
    (case a13 => k_is)
    (case l13 => k_is)
    (case c13 => k_is)
    (case k13 => k_is)
    (case a14 => k_is)
    (case l14 => k_is)
    (case c14 => k_is)
    (case k14 => k_is)
    (case a15 => k_is)
    (case l15 => k_is)
    (case c15 => k_is)
    (case k15 => k_is)
    (case a16 => k_is)
    (case i16 => k_is)
    (case l16 => k_is)
    (case c16 => k_is)
    (case k16 => k_is)
    (case a17 => k_is)
    (case i17 => k_is)
    (case l17 => k_is)
    (case c17 => k_is)
    (case k17 => k_is)
    (case a18 => k_is)
    (case i18 => k_is)
    (case l18 => k_is)
    (case c18 => k_is)
    (case k18 => k_is)
    (case a19 => k_is)
    (case i19 => k_is)
    (case l19 => k_is)
    (case c19 => k_is)
    (case k19 => k_is)
    (case a20 => k_is)
    (case i20 => k_is)
    (case l20 => k_is)
    (case c20 => k_is)
    (case k20 => k_is)
    (case a21 => k_is)
    (case l21 => k_is)
    (case c21 => k_is)
    (case k21 => k_is)
    (case a22 => k_is)
    (case l22 => k_is)
    (case c22 => k_is)
    (case k22 => k_is)
    (case a23 => k_is)
    (case l23 => k_is)
    (case c23 => k_is)
    (case k23 => k_is)
    (case a24 => k_is)
    (case l24 => k_is)
    (case c24 => k_is)
    (case k24 => k_is)
    (case a25 => k_is)
    (case l25 => k_is)
    (case c25 => k_is)
    (case k25 => k_is)
    (case a26 => k_is)
    (case l26 => k_is)
    (case c26 => k_is)
    (case k26 => k_is)
    (case a27 => k_is)
    (case l27 => k_is)
    (case c27 => k_is)
    (case k27 => k_is)
    (case a28 => k_is)
    (case l28 => k_is)
    (case c28 => k_is)
    (case k28 => k_is)
    (case a29 => k_is)
    (case l29 => k_is)
    (case c29 => k_is)
    (case k29 => k_is)
    (case a30 => k_is)
    (case l30 => k_is)
    (case c30 => k_is)
    (case k30 => k_is)
    (case a31 => k_is)
    (case l31 => k_is)
    (case c31 => k_is)
    (case k31 => k_is)
    (case a32 => k_is)
    (case l32 => k_is)
    (case c32 => k_is)
    (case k32 => k_is)
    (case a33 => k_is)
    (case l33 => k_is)
    (case c33 => k_is)
    (case k33 => k_is)
    (case a34 => k_is)
    (case l34 => k_is)
    (case c34 => k_is)
    (case k34 => k_is)
    (case a35 => k_is)
    (case l35 => k_is)
    (case c35 => k_is)
    (case k35 => k_is)
    (case a36 => k_is)
    (case l36 => k_is)
    (case c36 => k_is)
    (case k36 => k_is)
    (case pg_Part => k_is)
    (case hd_Part => k_is)
    (case po_Part => k_is)
    (case sa_Part => k_is)
    (case mk_Part => k_is)
    (case kc_Part => k_is)
    (case n_Part_head => k_is)
    (case n_Part_around => k_is)
    (case n_Part_inner => k_is)
    (case pg_World => k_is)
    (case hd_World => k_is)
    (case po_World => k_is)
    (case sa_World => k_is)
    (case mk_World => k_is)
    (case kc_World => k_is)
    (case n_World_labels => k_is)
    (case n_World_facts => k_is)
    (case n_World_states => k_is)
    (case n_World_steps => k_is)
    (case n_World__ends => k_is)
    (case pg_Questions => k_is)
    (case hd_Questions => k_is)
    (case po_Questions => k_is)
    (case sa_Questions => k_is)
    (case mk_Questions => k_is)
    (case kc_Questions => k_is)
    (case n_Questions__world => k_is)
    (case n_Questions__parts => k_is)
    (case n_Questions__binders => k_is)
    (case n_Questions__depths => k_is)
    (case n_Questions__known => k_is)
    (case z_all => k_is)
    (case z_bool => k_is)
    (case z_enumerate => k_is)
    (case z_int => k_is)
    (case z_isinstance => k_is)
    (case z_len => k_is)
    (case z_list => k_is)
    (case z_range => k_is)
    (case z_reversed => k_is)
    (case z_sorted => k_is)
    (case z_sum => k_is)
    (case z_tuple => k_is)
    (case z_zip => k_is)
    (case aJ_BINDERS => k_is)
    (case lJ_BINDERS => k_is)
    (case aJ_JOINS => k_is)
    (case lJ_JOINS => k_is)
    (case aJ_STEPPERS => k_is)
    (case lJ_STEPPERS => k_is)
    (case aI_MOST_LABELS => k_is)
    (case aI_MOST_FACTS => k_is)
    (case aI_MOST_STATES => k_is)
    (case e_gC => k_is)
    (case e_gF => k_is)
    (case e_xC => k_exc)
    (case e_kC => k_is)
    (case e_bC => k_is)
    (case e_tC => k_is)
    (case e_iC => k_is)
    (case e_sC => first | rfl | k_is)
    (case e_xg => k_is)
    (case e_xk => k_is)
    (case e_xd => k_is)
    (case e_xa => k_is)
    (case e_xn => k_is)
    (case e_xt => k_is)
    (case e_xm => k_is)
    (case e_kF => first | rfl | k_is)
    (case e_kV => first | rfl | k_is)
    (case w_gC => k_is)
    (case w_xC => k_exc)
    (case w_kC => k_is)
    (case w_bC => k_is)
    (case w_tC => k_is)
    (case w_sC => first | rfl | k_is)
    (case w_xd => k_is)
    (case hc_ascends => rfl)
    (case lc_ascends => k_is)
    (case pT_ascends => rfl)
    (case nT_ascends => first | rfl | kernel_rfl | decide)

