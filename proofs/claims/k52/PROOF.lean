import PyProof.Rows.All
import PySem.Challenge.RW_topups_k52_pots_call_by_call
import HandS.ForMost
import HandS.AnyAll
import HandS.GenOver
import HandS.Gcd
import HandS.Wide
import HandS.IsInst
import HandS.More
import HandS.EndTab
import PyProof.TypeEq
import PyProof.ReprRoads
import PyProof.ReprLen
import HandS.Style
import PyProof.CallFns
import PyProof.Rows.RuleB_floordiv
import HandS.Zip
import HandS.Walk
import HandS.TupLen
import HandS.Dict
import PyProof.SumWalkG
import HandS.SetBool
import HandS.SetKeys
import HandS.WideBits
import HandS.OwnIter
import HandS.Iter
import KE.KDictZip
import HandS.Property
import HandS.Deep
import HandS.Exc
import HandS.ExcOwn
import HandS.WordsExc
import HandS.TryOnly
import PyProof.InstEq
import KE.HD3
section
set_option Elab.async false
set_option linter.all false
set_option maxRecDepth 100000
set_option maxHeartbeats 4000000
/-! Generator expressions walked by all(..), with the element any expression of the layer; a code object's table is held as an open thing. -/
namespace Gx
open PySem PySem.Spec PyProof.Rows L2 GxR

/-- a code object's table, whatever it holds so far -/
def tabPhi (P : Addr) : Heap → Prop := fun h => ∃ ps : Array Value, h.get? P = some { cls := .none, data := .fields ps } ∧ TriplesOk ps.toList
def TabO (P : Addr) : HO := .ext (tabPhi P)
theorem tab_stay {P : Addr} : ∀ h1 h2 : Heap, tabPhi P h1 → (∀ o, h1.get? P = some o → h2.get? P = some o) → tabPhi P h2 := fun h1 h2 ⟨ps, e, t⟩ k => ⟨ps, k _ e, t⟩
theorem tab_ok {Pr : Program} {w : World} {H : Hp} {h : Heap} {P : Addr} (t : tabPhi P h) : ObjOk Pr w H h P (TabO P) := ⟨t, let ⟨ps, e, _⟩ := t; ⟨_, e⟩, tab_stay⟩

theorem inv_same {X : Cx} {pins : List (Addr × Obj)} {σ : L2.St} {H : Hp} {s s' : Shared} (I : Inv X pins σ H s) (h : s'.heap = s.heap) (o : s'.os = s.os) (b : AllBare s'.gens) : Inv X pins σ H s' :=
  ⟨I.ok, o.trans I.os, b, by rw [h]; exact I.base, by rw [h]; exact I.loc, by rw [h]; exact I.cell, I.free, I.freeC, by rw [h]; exact I.pin, by rw [h]; exact I.hok, I.len⟩
theorem bare_set {s : Shared} {g : Nat} {x : GenState} (h : AllBare s.gens) (hx : x.bare = true) : AllBare (s.setGen g x).gens :=
  AllBare.moved h (.inr ⟨GenOnly.setGen s g x, fun y hy => by
    have h1 : (s.gens.setIfInBounds g x)[g]? = some y := hy
    rw [Array.getElem?_setIfInBounds_self] at h1
    split at h1
    · cases h1; exact hx
    · cases h1⟩)
theorem setGen_at {s : Shared} {g : Nat} {x : GenState} (h : g < s.gens.size) : (s.setGen g x).gens[g]? = some x := by
  show (s.gens.setIfInBounds g x)[g]? = some x
  rw [Array.getElem?_setIfInBounds_self, if_pos h]

/-- the context of a generator expression's frame: made at s; fp: its iterator's objects -/
abbrev gcx (X : Cx) (s : Shared) (H : Hp) (N : List Str) (cenv : Env) (fp : List Addr) (A : Around) : Cx :=
  { X with A := A, N := N, s_0 := s, H_0 := H, env := cenv, outer := X.stack, stack := cenv :: X.stack, ex := fp, fn := fun _ => false, calm := true, pn := [], xe := fun _ _ => False }
/-- the expression's own scope: x its target; ns: the names that it captures, with their places in the def -/
structure GOk (N : List Str) (sc scope : Scope) (x : Str) (ns : List (Str × Nat)) : Prop where
  kind : scope.kind = .function
  co : scope.isCoroutine = false
  cell : ∀ y ∈ scope.names, y.2 ≠ .cell
  dot : scope.names.lookup (".0" : Str) = some NameKind.local
  loc : scope.names.lookup x = some .local
  free : ∀ y ∈ scope.names, y.2 = .free → sc.names.lookup y.1 = some .cell ∨ sc.names.lookup y.1 = some .free
  caps : ∀ p ∈ ns, N[p.2]? = some p.1 ∧ (p.1, NameKind.free) ∈ scope.names
  uniq : ∀ y ∈ scope.names, scope.names.lookup y.1 = some y.2
def capsOf (σ : L2.St) (ns : List (Str × Nat)) : L2.St := ns.map fun p => (σ[p.2]?).join

section
variable {X : Cx} {pins : List (Addr × Obj)} {σ : L2.St} {H : Hp} {s : Shared}
theorem clo_lookup {cells : List (Str × Addr)} {names : List (Str × NameKind)} {y : Str} {c : Addr} (h : (y, NameKind.free) ∈ names) (hc : cells.lookup y = some c) : (cloFrom cells names []).lookup y = some c := by
  obtain ⟨c', e⟩ := mem_lookup (cloFrom_has (cells := cells) (acc := []) h)
  rcases cloFrom_mem (PySem.mem_of_lookup e) with z | ⟨_, z⟩
  · cases z
  · rw [e, z, hc]; rfl
theorem clo_of {cells : List (Str × Addr)} {names : List (Str × NameKind)} {y : Str} {c : Addr} (hf : ∀ y ∈ names, y.2 = .free → ∃ c, cells.lookup y.1 = some c) (h : (cloFrom cells names []).lookup y = some c) : (y, NameKind.free) ∈ names ∧ cells.lookup y = some c := by
  rcases cloFrom_mem (PySem.mem_of_lookup h) with z | ⟨z1, z2⟩
  · cases z
  · obtain ⟨d, hd⟩ := hf _ z1 rfl
    refine ⟨z1, ?_⟩
    have hd' : cells.lookup y = some d := hd
    rw [hd'] at z2
    rw [hd', z2]; rfl
theorem inv_gen {s5 : Shared} {scope : Scope} {x : Str} {ns : List (Str × Nat)} {fp : List Addr} {P C a : Addr} {go : Obj} {code it : Value} {A : Around}
    (I : Inv X pins σ H s) (S : GOk X.N X.env.scope scope x ns) (hP : H P = some (TabO P)) (hf : ∀ b ∈ fp, FpOk X pins H b) (hfo : ∀ b ∈ fp, ∃ o, s.heap.get? b = some o)
    (hA : A.frames = some (genEnv scope (cloFrom X.env.cells scope.names []) C code builtinsNs X.env :: X.stack)) (hh : A.handled = none) (hC : s.heap.objs.size ≤ C) (ha : C < a)
    (ho : s5.os = s.os) (hb : AllBare s5.gens) (k : ∀ b o, b ≠ P → s.heap.get? b = some o → s5.heap.get? b = some o) (hp : tabPhi P s5.heap)
    (hn : s5.heap.Ns C (fun y => if y = ".0" then some it else none)) (hgo : s5.heap.get? a = some go) (hgd : ∀ v, go.data ≠ .cell v) :
    Inv (gcx X s H (x :: ns.map (·.1)) (genEnv scope (cloFrom X.env.cells scope.names []) C code builtinsNs X.env) fp A) [(a, go)] (none :: capsOf σ ns) H s5 := by
  have hfree : ∀ y ∈ scope.names, y.2 = .free → ∃ c, X.env.cells.lookup y.1 = some c := fun y hy e => by
    rcases S.free y hy e with k | k
    · exact I.ok.has _ (.inl k)
    · exact I.ok.has _ (.inr k)
  have nP : ∀ b, H b = none → b ≠ P := fun b e z => by
    rw [z, hP] at e
    cases e
  have fplt : ∀ b ∈ fp, b < s.heap.objs.size := fun b hb => let ⟨o, e⟩ := hfo b hb; Heap.lt_size e
  have stk : ∀ b ∈ fp, b ∉ frs X.stack := fun b hb hm => by
    obtain ⟨_, f1, f2, _⟩ := hf b hb
    rcases List.mem_cons.mp (I.stkSub b hm) with z | z
    · exact f1 z
    · exact f2 z
  have noA : ∀ b, s.heap.objs.size ≤ b → b ∉ frs X.stack := fun b hb hm => by
    rcases List.mem_cons.mp (I.stkSub b hm) with z | z
    · have := I.lt
      rw [← z] at this
      exact absurd (Nat.lt_of_lt_of_le this hb) (Nat.lt_irrefl _)
    · exact I.nofs hb z
  refine ⟨⟨I.mod, S.kind, I.ok.glob, rfl, hC, fun y z c h1 h2 => ?_, fun y hy => ?_, fun y c h _ => (by cases h), fun _ => hh, hA, .inr ⟨rfl, rfl⟩, fun b hb => ⟨?_, fun y c h z => ?_⟩, fun b o e => I.bs b o e, Nat.le_trans I.ok.bsz I.sz, fun b o e hm => ?_, fun b hb => stk b hb, I.stack, I.stkFree⟩,
    ho, hb, ⟨fun b o e n _ _ => k b o (nP b n) e, fun b o e n _ _ => ⟨o.slots, k b o (nP b n) e⟩, fun _ _ _ n _ => n, fun b o e _ => ?_, fun _ _ q => q, fun _ _ _ q => q, fun b ps q => ⟨#[], by
      have q' : H b = some (.tbl ps) := q
      rw [q']; simp⟩⟩,
    ⟨_, hn, fun i y v h1 h2 h3 => ?_⟩, fun y c h => ?_, I.hok.fresh hC, fun y c h => ?_, fun p hp' => ?_, fun b u e => ?_, ?_⟩
  · exact I.ok.inj _ _ _ (clo_of hfree h1).2 (clo_of hfree h2).2
  · have hy : scope.names.lookup y = some .cell ∨ scope.names.lookup y = some .free := hy
    rcases hy with hy | hy
    · exact absurd rfl (S.cell _ (PySem.mem_of_lookup hy))
    · obtain ⟨c, e⟩ := hfree _ (PySem.mem_of_lookup hy) rfl
      exact ⟨c, clo_lookup (PySem.mem_of_lookup hy) e⟩
  · exact Nat.ne_of_lt (Nat.lt_of_lt_of_le (fplt b hb) hC)
  · obtain ⟨_, _, _, _, f4, _⟩ := hf b hb
    exact f4 y c (clo_of hfree h).2 z
  · obtain ⟨_, _, _, f3, _⟩ := hf b hm
    rcases f3 with z | z
    · exact I.ok.noex b o e z
    · exact absurd (Nat.lt_of_lt_of_le (Heap.lt_size e) (Nat.le_trans I.ok.bsz z)) (Nat.lt_irrefl _)
  · by_cases hb : b = P
    · obtain ⟨ps, e2, _⟩ := hp
      exact ⟨_, by rw [hb]; exact e2⟩
    · exact ⟨o, k b o hb e⟩
  · cases i with
    | zero => cases h2
    | succ i =>
      have h1' : (ns.map (·.1))[i]? = some y := h1
      have h2' : (capsOf σ ns)[i]? = some (some v) := h2
      unfold capsOf at h2'
      rw [List.getElem?_map] at h1' h2'
      cases e : ns[i]? with
      | none => rw [e] at h1'; cases h1'
      | some p =>
        rw [e] at h1' h2'
        have e1 : p.1 = y := Option.some.inj h1'
        have e2 : (σ[p.2]?).join = some v := Option.some.inj h2'
        obtain ⟨c1, c2⟩ := S.caps p (List.mem_of_getElem? e)
        obtain ⟨m, hm, hl⟩ := I.loc
        have e3 : σ[p.2]? = some (some v) := by
          cases q : σ[p.2]? with
          | none => rw [q] at e2; cases e2
          | some w => rw [q] at e2; have e2' : w = some v := e2; rw [e2']
        have hk := S.free _ c2 rfl
        have hvis : Vis X.env.scope p.1 := .inr hk
        obtain ⟨u, r, lk⟩ := hl p.2 p.1 v c1 e3 hvis
        refine ⟨u, r, ?_⟩
        rcases lk with ⟨kl, _⟩ | ⟨_, c, hc, ic⟩
        · have kl' : X.env.scope.names.lookup p.1 = some .local := kl
          rcases hk with hk | hk
          · rw [show X.env.scope.names.lookup p.1 = some .cell from hk] at kl'; cases kl'
          · rw [show X.env.scope.names.lookup p.1 = some .free from hk] at kl'; cases kl'
        · rw [← e1]
          refine .inr ⟨.inr (S.uniq _ c2), c, clo_lookup c2 hc, ?_⟩
          obtain ⟨oc, ho', hd'⟩ := ic
          exact ⟨oc, k c oc (nP c (I.freeC _ _ hc)) ho', hd'⟩
  · have hc := (clo_of hfree h).2
    obtain ⟨v, oc, ho', hd'⟩ := I.cell y c hc
    exact ⟨v, oc, k c oc (nP c (I.freeC _ _ hc)) ho', hd'⟩
  · exact I.freeC _ _ (clo_of hfree h).2
  · have hp2 : p ∈ [(a, go)] := hp'
    rw [List.mem_singleton.mp hp2]
    have hsa : s.heap.objs.size ≤ a := Nat.le_trans hC (Nat.le_of_lt ha)
    exact ⟨hgo, I.hok.fresh hsa, Nat.ne_of_gt ha, noA a hsa, hgd⟩
  · by_cases hb : b = P
    · rw [hb, hP] at e
      cases e
      rw [hb]
      exact tab_ok hp
    · refine (I.hok b u e).stay (fun c v hc q => k c v ?_ q) (fun _ q => q) fun _ _ q => q
      rcases hc with z | z
      · rw [z]; exact hb
      · intro w
        rw [w, hP] at z
        cases z
  · show (none :: capsOf σ ns).length = (x :: ns.map (·.1)).length
    unfold capsOf
    simp
/-- back in the def -/
theorem inv_back {N : List Str} {cenv : Env} {fp : List Addr} {A : Around} {pins' : List (Addr × Obj)} {σ' : L2.St} {H' : Hp} {s' : Shared} (I : Inv X pins σ H s) (hf : ∀ b ∈ fp, FpOk X pins H b)
    (J : Inv (gcx X s H N cenv fp A) pins' σ' H' s') : Inv X pins σ H' s' :=
  I.call' (ch := fp) J.os J.base J.hok J.bare fun b hb => let ⟨_, f1, _, f3, f4, f5⟩ := hf b hb; ⟨f3, f1, f4, f5⟩
end

/-! ### the segment -/
def GEnd (G : Cx) (a : Addr) (go : Obj) (caps : L2.St) (L : Nat) (Pv : Nat → Hp → Prop) : Nat → Shared → Shared → Prop := fun n _ s => n = 1 ∧ ∃ H, Inv G [(a, go)] (none :: caps) H s ∧ Pv L H
def GYld (G : Cx) (a : Addr) (go : Obj) (caps : L2.St) (L : Nat) (Pv : Nat → Hp → Prop) (Ye : Nat → V → Hp → Prop) : Protocol := fun n _ v s kap =>
  ∃ i y H, i < L ∧ n + i = L ∧ RelV y v ∧ Inv G [(a, go)] (none :: caps) H s ∧ Ye i y H ∧ ∀ s', s'.heap = s.heap → s'.os = s.os → AllBare s'.gens → Pv (i + 1) H → kap (.send .none) s'
section
variable {G : Cx} {A : Around} {elt iter : Expr} {x : Str} {px : Pos} {scope : Scope} {pos : Pos} {it a : Addr} {go : Obj} {fp : List Addr} {tn : Nat → Heap → Prop} {J : It} {caps : L2.St} {te : TE} {L : Nat} {Pv : Nat → Hp → Prop} {Ye : Nat → V → Hp → Prop}
theorem seg_gloop (hA : A.over (.compLoop (.GeneratorExp elt [⟨.Name x px, iter, [], 0⟩] scope pos) 0 (.ref it) .none G.env) [] = G.A) (hc : G.calm = true) (hex : G.ex = fp) (hxe : G.xe = fun _ _ => False) (hpn : G.pn = []) (hco : G.env.scope.isCoroutine = false)
    (T : Turn G.prog G.w G.K (.Name x px) J fp it tn) (hg : PG G (.Name x px) (gName 0)) (he : PE G elt te) (ha : ∀ b ∈ fp, a ≠ b)
    (step : ∀ i H, i < L → Pv i H → J.go i H ∧ ∀ y H', J.yld i H y H' → te (some y :: caps) H' (Ye i)) (stop : ∀ H, Pv L H → J.stop L H) :
    ∀ (k i : Nat) (s₀ s : Shared) (H : Hp), L - i = k → i ≤ L → Inv G [(a, go)] (none :: caps) H s → tn i s.heap → (∀ b ∈ fp, H b = none) → Pv i H →
      Seg (model G.prog G.w) A (fun n s₀ r s₁ => r = .ok .next ∧ GEnd G a go caps L Pv n s₀ s₁) (GYld G a go caps L Pv Ye) (k + 1) s₀
        (.compLoop (.GeneratorExp elt [⟨.Name x px, iter, [], 0⟩] scope pos) 0 (.ref it) .none G.env)
        ((model G.prog G.w).den (.compLoop (.GeneratorExp elt [⟨.Name x px, iter, [], 0⟩] scope pos) 0 (.ref it) .none G.env)) [] s := by
  have fpok : ∀ {H : Hp} {σ : L2.St} {s : Shared}, Inv G [(a, go)] σ H s → (∀ b ∈ fp, H b = none) → ∀ b ∈ fp, FpOk G [(a, go)] H b := fun {H σ s} I hn b hb => by
    have hb' : b ∈ G.ex := by rw [hex]; exact hb
    obtain ⟨e1, e2⟩ := I.ok.exf b hb'
    refine ⟨hn b hb, e1, I.ok.exfs b hb', .inl hb', e2, fun p hp => ?_⟩
    rw [hpn, List.nil_append] at hp
    rw [List.mem_singleton.mp hp]
    exact ha b hb
  intro k
  induction k with
  | zero =>
    intro i s₀ s H hk hi I st fr pv
    have hin : i = L := by omega
    subst hin
    show Seg _ A _ _ _ s₀ _ ((compTurn (.GeneratorExp elt [⟨.Name x px, iter, [], 0⟩] scope pos) 0 (.ref it) .none G.env).onRaise (leaving G.env)) [] s
    rw [compTurn_gen, Sem.onRaise_eq_wrap]
    refine seg_bind_wrap (wpAny_standAt ?_)
    refine seg_bind_wrap ?_
    rw [hA]
    refine thn (T.done G rfl rfl rfl hc i _ s _ H _ I (fpok I fr) st (stop H pv)) fun r s1 ⟨hr, I1⟩ => ?_
    subst hr
    exact seg_end (.ok .next) ⟨rfl, rfl, H, I1, pv⟩
  | succ k ih =>
    intro i s₀ s H hk hi I st fr pv
    have hlt : i < L := by omega
    obtain ⟨hgo, hstep⟩ := step i H hlt pv
    show Seg _ A _ _ _ s₀ _ ((compTurn (.GeneratorExp elt [⟨.Name x px, iter, [], 0⟩] scope pos) 0 (.ref it) .none G.env).onRaise (leaving G.env)) [] s
    rw [compTurn_gen, Sem.onRaise_eq_wrap]
    refine seg_bind_wrap (wpAny_standAt ?_)
    refine seg_bind_wrap ?_
    rw [hA]
    refine thn (T.item G rfl rfl rfl hc i _ s _ H _ I (fpok I fr) st hgo) fun r s1 ⟨u, hr, h1⟩ => ?_
    subst hr
    refine seg_bind_wrap ?_
    rw [hA]
    refine thn h1 fun _ s2 ⟨y, H2, I2, ru, yl, st2, fr2⟩ => ?_
    have I2p := I2.pinned (fpok I2 fr2) (T.obj _ _ st2)
    refine seg_bind_wrap ?_
    rw [hA]
    refine wpAny_mono (hg.run _ s2 _ H2 y u (fun σ' H' => σ' = some y :: caps ∧ H' = H2) I2p ru ⟨rfl, rfl⟩) (fun _ s3 h3 => ?_) (fun e s' hx => by rw [hxe] at hx; exact hx.elim)
    obtain ⟨σ3, H3, I3, e3, e3'⟩ := h3
    subst e3 e3'
    simp only [List.forIn_nil]
    refine seg_bind_wrap (wpAny_pure ?_)
    simp only [if_true]
    have hy : ∀ v, yieldOut G.env v = yieldValue v := fun v => by simp only [yieldOut, hco, Bool.false_eq_true, if_false]
    simp only [hy]
    rw [Sem.bind_eq_wrap', Sem.bind_eq_wrap', Sem.wrap_wrap, Sem.wrap_wrap]
    refine seg_wrap ?_
    rw [hA]
    refine wpAny_mono (he.run _ s3 _ _ (Ye i) I3 (hstep y _ yl)) (fun v s4 h4 => ?_) (fun e s' hx => by rw [hxe] at hx; exact hx.elim)
    obtain ⟨y4, H4, I4, r4, q4⟩ := h4
    have pinAt : ∀ b ∈ fp, ∀ o, s2.heap.get? b = some o → s4.heap.get? b = some o ∧ H4 b = none := fun b hb o e =>
      let z := I4.pin (b, o) (List.mem_append_right _ (List.mem_append_right _ (mem_pinsAt hb e))); ⟨z.1, z.2.1⟩
    have st4 : tn (i + 1) s4.heap := T.keep _ _ _ st2 fun b hb o e => (pinAt b hb o e).1
    have fr4 : ∀ b ∈ fp, H4 b = none := fun b hb => by
      obtain ⟨o, e, _⟩ := T.obj _ _ st2 b hb
      exact (pinAt b hb o e).2
    have I4w : Inv G [(a, go)] (none :: caps) H4 s4 := I4.unpinned.weak rfl fun j v hj => by
      cases j with
      | zero => cases hj
      | succ j => exact hj
    refine seg_at (seg_yield rfl rfl rfl ⟨i, y4, H4, hlt, by omega, r4, I4w, q4, fun s5 eh eo eb pv5 => ?_⟩)
    exact seg_again rfl (ih (i + 1) s5 s5 H4 (by omega) hlt (inv_same I4w eh eo eb) (by rw [eh]; exact st4) fr4 pv5)

theorem seg_gstart (hA : A.over (.compLoop (.GeneratorExp elt [⟨.Name x px, iter, [], 0⟩] scope pos) 0 (.ref it) .none G.env) [] = G.A) (hc : G.calm = true) (hex : G.ex = fp) (hxe : G.xe = fun _ _ => False) (hpn : G.pn = []) (hco : G.env.scope.isCoroutine = false)
    (T : Turn G.prog G.w G.K (.Name x px) J fp it tn) (hg : PG G (.Name x px) (gName 0)) (he : PE G elt te) (ha : ∀ b ∈ fp, a ≠ b)
    (step : ∀ i H, i < L → Pv i H → J.go i H ∧ ∀ y H', J.yld i H y H' → te (some y :: caps) H' (Ye i)) (stop : ∀ H, Pv L H → J.stop L H)
    (s₀ s : Shared) (H : Hp) (I : Inv G [(a, go)] (none :: caps) H s) (st : tn 0 s.heap) (fr : ∀ b ∈ fp, H b = none) (pv : Pv 0 H) :
      Seg (model G.prog G.w) A (fun n s₀ r s₁ => r = .ok .next ∧ GEnd G a go caps L Pv n s₀ s₁) (GYld G a go caps L Pv Ye) (L + 1) s₀
        (.compStart (.GeneratorExp elt [⟨.Name x px, iter, [], 0⟩] scope pos) 0 (.ref it) .none G.env)
        ((model G.prog G.w).den (.compStart (.GeneratorExp elt [⟨.Name x px, iter, [], 0⟩] scope pos) 0 (.ref it) .none G.env)) [] s := by
  have loop := seg_gloop (a := a) (go := go) hA hc hex hxe hpn hco T hg he ha step stop L 0 s₀ s H (Nat.sub_zero _) (Nat.zero_le _) I st fr pv
  show Seg _ A _ _ _ s₀ _ ((compStart (.GeneratorExp elt [⟨.Name x px, iter, [], 0⟩] scope pos) 0 (.ref it) .none G.env).onRaise (leaving G.env)) [] s
  unfold compStart
  rw [Sem.onRaise_eq_wrap]
  show Seg _ A _ _ _ s₀ _ ((ask >>= _).wrap _ _ _ _) [] s
  refine seg_bind_wrap (wpAny_askSetting ?_)
  split
  · exact seg_again rfl loop
  · first
      | exact seg_bind_wrap (wpAny_rule (seg_bind_wrap (wpAny_standAt (seg_bind_wrap (T.self _ 0 s _ _ st (seg_again rfl loop))))))
      | (refine seg_bind_wrap (wpAny_rule ?_); show Seg _ A _ _ _ s₀ _ ((standAt iter.pos >>= _).wrap _ _ _ _) [] s; exact seg_bind_wrap (wpAny_standAt (seg_bind_wrap (T.self _ 0 s _ _ st (seg_again rfl loop)))))
end
end Gx
end

section
set_option Elab.async false
set_option linter.all false
set_option maxRecDepth 100000
set_option maxHeartbeats 4000000
namespace Gx
open PySem PySem.Spec PyProof.Rows L2 GxR
/-- what stands when a generator expression has been made -/
def GReady (X : Cx) (pins : List (Addr × Obj)) (σ : L2.St) (J : It) (H2 : Hp) (te : TE) (caps : L2.St) (k : Nat) (a : Addr) (s5 : Shared) : Prop :=
  ∃ (g : Nat) (go : Obj) (c : Code), (∀ h : Heap, h.get? a = some go → h.IsGen a g) ∧ s5.gens[g]? = some (.fresh c) ∧
    ∀ A : Around, Room (k + 1) A → A.frames = some X.stack → ∃ G : Cx, G.prog = X.prog ∧ G.w = X.w ∧ (∀ H' s', Inv G [(a, go)] (none :: caps) H' s' → Inv X pins σ H' s') ∧ Inv G [(a, go)] (none :: caps) H2 s5 ∧
      ∀ (L : Nat) (Pv : Nat → Hp → Prop) (Ye : Nat → V → Hp → Prop), (∀ i H, i < L → Pv i H → J.go i H ∧ ∀ y H', J.yld i H y H' → te (some y :: caps) H' (Ye i)) → (∀ H, Pv L H → J.stop L H) → Pv 0 H2 →
        ∀ s', s'.heap = s5.heap → s'.os = s5.os → AllBare s'.gens →
          (GenState.fresh c).Goes (model X.prog X.w) A (fun n s₀ r s₁ => r = .ok .next ∧ GEnd G a go caps L Pv n s₀ s₁) (GYld G a go caps L Pv Ye) (L + 1) (.send .none) s'
section
variable {X : Cx} {pins : List (Addr × Obj)} {σ : L2.St} {H : Hp} {s : Shared}
theorem gen_made {c P : Addr} {elt iter : Expr} {x : Str} {px gpos : Pos} {scope : Scope} {ns : List (Str × Nat)} {wi : TI} {te : TE} {k k' : Nat} {Q' : Value → Shared → Prop} {R : It → Hp → Prop}
    (hr : Room k X.A) (TB : TabB X.base X.mg c P) (hcode : X.env.code = .ref c) (S : GOk X.N X.env.scope scope x ns) (hnd : (x :: ns.map (·.1)).Nodup) (hi : PI X (.Name x px) iter wi)
    (he : ∀ (s : Shared) (H : Hp) (C : Addr) (code : Value) (fp : List Addr) (A : Around), Room k' A → PE (gcx X s H (x :: ns.map (·.1)) (genEnv scope (cloFrom X.env.cells scope.names []) C code builtinsNs X.env) fp A) elt te)
    (hs : ∀ v, genFold iter X.env v = pure v) (I : Inv X pins σ H s) (h : wi σ H fun J H1 => H1 P = some (TabO P) ∧ R J H1)
    (hQ : ∀ J H2 a s5, R J H2 → GReady X pins σ J H2 te (capsOf σ ns) k' a s5 → Q' (.ref a) s5) :
    wpAny (model X.prog X.w) X.A (eval (.GeneratorExp elt [⟨.Name x px, iter, [], 0⟩] scope gpos) X.env) Q' X.xe s := by
  have hfree : ∀ y ∈ scope.names, y.2 = .free → ∃ c, X.env.cells.lookup y.1 = some c := fun y hy e => by
    rcases S.free y hy e with k | k
    · exact I.ok.has _ (.inl k)
    · exact I.ok.has _ (.inr k)
  refine wpAny_GeneratorExp_make S.co (closure_ok hfree) S.cell S.dot S.kind (by have := hr.dp; omega) (thn (hi.run pins s σ H _ I h) fun xv s1 hx => thn hx fun itv s2 h2 => ?_) hs
  obtain ⟨it, fp, tn, J, H2, e, I2, T, st2, f2, hP, q⟩ := h2
  subst e
  obtain ⟨⟨ps, hPs, ht⟩, _, _⟩ := I2.hok P _ hP
  have hPlt : P < s2.heap.objs.size := Heap.lt_size hPs
  have cd : PySem.W.CodeHd s2.heap c P := TB.code.keeps fun b u e => I2.bk b u e
  have cont : ∀ (code : Value) (h3 : Heap) (tk : Nat), Heap.ExtBut P s2.heap h3 → s2.heap.objs.size ≤ h3.objs.size → tabPhi P h3 →
      wpAny (model X.prog X.w) X.A (builtinsFor X.env.globals X.env.builtins) (fun bi s₄ =>
        ∀ h', h'.Ns s₄.heap.objs.size (fun y => if y = ".0" then some (.ref it) else none) → Heap.SameBut s₄.heap.objs.size (s₄.heap.push { cls := .type "frame", data := .dict #[] }) h' →
          Q' (.ref h'.objs.size) { s₄ with
            gens := s₄.gens.push (.fresh (.compStart (.GeneratorExp elt [⟨.Name x px, iter, [], 0⟩] scope gpos) 0 (.ref it) .none (genEnv scope (cloFrom X.env.cells scope.names []) s₄.heap.objs.size code bi X.env))),
            toks := s₄.toks + 1 + 1 + 1,
            heap := h'.push { cls := .type "generator", data := .fields #[.int s₄.gens.size 0, .str "<genexpr>" (s₄.toks + 1), .str (X.env.qual ++ "<genexpr>") (s₄.toks + 1 + 1)] } }) X.xe { s2 with heap := h3, toks := tk } := by
    intro code h3 tk hx hsz hp3
    obtain ⟨bm, ob, e1, e2, e3, e4, e5, e6, e7, e8⟩ := TB.bm
    have keep3 : ∀ b u, b ≠ P → s2.heap.get? b = some u → h3.get? b = some u := fun b u hb e => hx b u hb e
    refine wpAny_builtinsFor (m := X.mg) (by rw [I2.ok.glob]; exact (I2.mod.glob.keeps I2.bk).extBut hx TB.gP) e1 e2 (keep3 _ _ e4 (I2.bk _ _ e5)) e6 e7 e8 ?_
    intro h' hn' hs'
    have hn' : h'.Ns h3.objs.size (fun y => if y = ".0" then some (.ref it) else none) := hn'
    have hs' : Heap.SameBut h3.objs.size (h3.push { cls := .type "frame", data := .dict #[] }) h' := hs'
    have hsz' : h'.objs.size = h3.objs.size + 1 := by rw [hs'.1, Heap.size_push]
    have keep' : ∀ b o, h3.get? b = some o → h'.get? b = some o := fun b o e => hs'.extBut b o (Nat.ne_of_lt (Heap.lt_size e)) (Heap.get?_push_of_some _ e)
    generalize hgo : ({ cls := .type "generator", data := .fields #[.int s2.gens.size 0, .str "<genexpr>" (tk + 1), .str (X.env.qual ++ "<genexpr>") (tk + 1 + 1)] } : Obj) = go
    have hgen : ∀ h : Heap, h.get? h'.objs.size = some go → h.IsGen h'.objs.size s2.gens.size := fun h e => ⟨go, _, _, e, by rw [← hgo], by rw [← hgo], by rw [← hgo]⟩
    have hgd : ∀ v, go.data ≠ .cell v := fun v z => by rw [← hgo] at z; cases z
    have hself : (h'.push go).get? h'.objs.size = some go := Heap.get?_push_size _ (by rw [← hgo]; rfl)
    have keep5 : ∀ b o, b ≠ P → s2.heap.get? b = some o → (h'.push go).get? b = some o := fun b o hb e => Heap.get?_push_of_some _ (keep' b o (keep3 b o hb e))
    have phi5 : tabPhi P (h'.push go) := tab_stay _ _ hp3 fun o e => Heap.get?_push_of_some _ (keep' _ o e)
    have CP : fp = fp := rfl
    have hfo : ∀ b ∈ fp, ∃ o, s2.heap.get? b = some o := fun b hb => let ⟨o, e, _⟩ := T.obj _ _ st2 b hb; ⟨o, e⟩
    have fpP : ∀ b ∈ fp, b ≠ P := fun b hb z => by
      obtain ⟨f0, _⟩ := f2 b hb
      rw [z, hP] at f0
      cases f0
    refine hQ J H2 h'.objs.size _ q ?_
    refine ⟨s2.gens.size, go, _, hgen, Array.getElem?_push_size .., fun A hA hfr => ?_⟩
    have hAf : (A.over (.compLoop (.GeneratorExp elt [⟨.Name x px, iter, [], 0⟩] scope gpos) 0 (.ref it) .none (genEnv scope (cloFrom X.env.cells scope.names []) h3.objs.size code builtinsNs X.env)) []).frames = some ((genEnv scope (cloFrom X.env.cells scope.names []) h3.objs.size code builtinsNs X.env) :: X.stack) := by
      show pushEnvs [(genEnv scope (cloFrom X.env.cells scope.names []) h3.objs.size code builtinsNs X.env)] (pushEnvs [] A.frames) = _
      rw [hfr]
      rfl
    have hAr : Room k' (A.over (.compLoop (.GeneratorExp elt [⟨.Name x px, iter, [], 0⟩] scope gpos) 0 (.ref it) .none (genEnv scope (cloFrom X.env.cells scope.names []) h3.objs.size code builtinsNs X.env)) []) := by
      refine ⟨hA.hd, ?_, ?_⟩
      · have := hA.dp
        show A.depth + 1 + 3 * k' + 5 < _
        omega
      · have := hA.un
        show A.units + 3 + 16 * k' + 200 < _
        omega
    have I5 := inv_gen (s5 := { s2 with gens := s2.gens.push (.fresh (.compStart (.GeneratorExp elt [⟨.Name x px, iter, [], 0⟩] scope gpos) 0 (.ref it) .none (genEnv scope (cloFrom X.env.cells scope.names []) h3.objs.size code builtinsNs X.env))), toks := tk + 1 + 1 + 1, heap := h'.push go }) (code := code) (it := .ref it) (A := A.over (.compLoop (.GeneratorExp elt [⟨.Name x px, iter, [], 0⟩] scope gpos) 0 (.ref it) .none (genEnv scope (cloFrom X.env.cells scope.names []) h3.objs.size code builtinsNs X.env)) []) (a := h'.objs.size)
      I2 S hP f2 hfo hAf hAr.hd hsz (by rw [hsz']; exact Nat.lt_succ_self _) rfl (I2.bare.push rfl) keep5 phi5 (hn'.push _) hself hgd
    refine ⟨gcx X s2 H2 (x :: ns.map (·.1)) (genEnv scope (cloFrom X.env.cells scope.names []) h3.objs.size code builtinsNs X.env) fp (A.over (.compLoop (.GeneratorExp elt [⟨.Name x px, iter, [], 0⟩] scope gpos) 0 (.ref it) .none (genEnv scope (cloFrom X.env.cells scope.names []) h3.objs.size code builtinsNs X.env)) []), rfl, rfl, fun H' s' J' => inv_back I2 f2 J', I5, fun L Pv Ye step stop pv s' eh eo eb => ⟨rfl, ?_⟩⟩
    refine seg_gstart (G := gcx X s2 H2 (x :: ns.map (·.1)) (genEnv scope (cloFrom X.env.cells scope.names []) h3.objs.size code builtinsNs X.env) fp (A.over (.compLoop (.GeneratorExp elt [⟨.Name x px, iter, [], 0⟩] scope gpos) 0 (.ref it) .none (genEnv scope (cloFrom X.env.cells scope.names []) h3.objs.size code builtinsNs X.env)) [])) (fp := fp) (tn := tn) (J := J) rfl rfl rfl rfl rfl (S.co) T ?_ ?_ (fun b hb z => ?_) step stop s' s' H2 (inv_same I5 eh eo eb) ?_ (fun b hb => (f2 b hb).1) pv
    · refine pg_name (i := 0) hnd rfl (.inl S.loc) (.inr S.loc)
    · exact he s2 H2 h3.objs.size code fp (A.over (.compLoop (.GeneratorExp elt [⟨.Name x px, iter, [], 0⟩] scope gpos) 0 (.ref it) .none (genEnv scope (cloFrom X.env.cells scope.names []) h3.objs.size code builtinsNs X.env)) []) hAr
    · obtain ⟨o, e⟩ := hfo b hb
      have h1 := Heap.lt_size e
      rw [← z, hsz'] at h1
      have h1' : h3.objs.size + 1 < s2.heap.objs.size := h1
      omega
    · rw [eh]
      exact T.keep _ _ _ st2 fun b hb o e => keep5 b o (fpP b hb) e
  refine ⟨I2.nolimit, ?_⟩
  cases hf : codeAmong gpos ps.toList with
  | none =>
    refine wpAny_genexprCodeX hcode (cd.code hPs ht) (cd.tab hPs) hf fun c' h' tk hx hge hlt hco' _ htab' _ => ?_
    obtain ⟨o1, vs, f1, tf, fl, tg, inF, tx, tt, op, _, _, _, _, _, _, _, _, _, htr, _⟩ := hco'
    exact cont _ h' tk hx (Nat.le_trans hge (Nat.le_of_lt hlt)) ⟨_, htab'.2, htr⟩
  | some cv =>
    refine wpAny_genexprCode_hit hcode (cd.code hPs ht) hf ?_
    exact cont cv s2.heap s2.toks (Heap.ExtBut.refl _ _) (Nat.le_refl _) ⟨ps, hPs, ht⟩

theorem codeAny_allG {A0 : Around} {a : Addr} {g : Nat} {go : Obj} {G : Cx} {caps : L2.St} {L : Nat} {Pv : Nat → Hp → Prop} {Ye : Nat → V → Hp → Prop} {Qf : Hp → Prop} {R' : Result → Shared → Prop} {prog : Program} {w : World}
    (hG : G.prog = prog ∧ G.w = w) (hh : A0.handled = none) (hroom : A0.depth < recursionLimit) (hgen : ∀ h : Heap, h.get? a = some go → h.IsGen a g)
    (hYe : ∀ i y H, Ye i y H → ∃ b, y = .bl b ∧ if b = true then Pv (i + 1) H else Qf H)
    (hfalse : ∀ H s, Inv G [(a, go)] (none :: caps) H s → Qf H → R' (.ok (.ret (.bool false))) s) (htrue : ∀ H s, Inv G [(a, go)] (none :: caps) H s → Pv L H → R' (.ok (.ret (.bool true))) s) :
    ∀ (k i : Nat) (s : Shared) (gs : GenState), L - i = k → i ≤ L → (∃ H, Inv G [(a, go)] (none :: caps) H s) → s.gens[g]? = some gs →
      (∀ s', s'.heap = s.heap → s'.os = s.os → AllBare s'.gens → gs.Goes (model prog w) A0.in1.in1 (fun n s₀ r s₁ => r = .ok .next ∧ GEnd G a go caps L Pv n s₀ s₁) (GYld G a go caps L Pv Ye) (L - i + 1) (.send .none) s') →
      codeAny (model prog w) A0 (.builtin "all.loop" ⟨[.ref a], []⟩) R' s := by
  have pin : ∀ {H : Hp} {σ : L2.St} {s : Shared}, Inv G [(a, go)] σ H s → s.heap.IsGen a g := fun I => hgen _ (I.pin (a, go) (List.mem_append_right _ (List.mem_singleton.mpr rfl))).1
  intro k
  induction k with
  | zero =>
    intro i s gs hk hi ⟨H, I⟩ hgs hgo
    have hin : i = L := by omega
    subst hin
    refine codeAny_builtin F.entry_all_loop ?_
    rw [Around.under_plainId F.plain_all_loop _]
    show wpAny _ A0.in1 (pyNext (.ref a) >>= _) _ _ s
    refine wpAny_bind (wpAny_pyNext_genexpQ (n := i - i + 1) (P := GEnd G a go caps i Pv) hh I.nolimit hroom (pin I) hgs (hgo _ rfl rfl (bare_set I.bare rfl)) (fun v s₁ gs' hb hv => ?_) (fun s₁ hp h' hk => ?_))
    · obtain ⟨j, y, H2, hl, hj, _⟩ := hv
      have hj' : i - i + 1 - 1 + j = i := hj
      omega
    · obtain ⟨_, H2, I2, pv⟩ := hp
      refine wpAny_bind (wpAny_rule (wpAny_pure ?_))
      exact htrue H2 _ (inv_same ((inv_same I2 rfl rfl (s' := s₁.setGen g .finished) (bare_set I2.bare rfl)).kept (t' := s₁.toks) hk) rfl rfl (bare_set I2.bare rfl)) pv
  | succ k ih =>
    intro i s gs hk hi ⟨H, I⟩ hgs hgo
    have hlt : i < L := by omega
    refine codeAny_builtin F.entry_all_loop ?_
    rw [Around.under_plainId F.plain_all_loop _]
    show wpAny _ A0.in1 (pyNext (.ref a) >>= _) _ _ s
    have hsz : g + 1 ≤ s.gens.size := (Array.getElem?_eq_some_iff.mp hgs).1
    refine wpAny_bind (GenW.wpAny_gsz hsz (wpAny_pyNext_genexpQ (n := L - i + 1) (P := GEnd G a go caps L Pv) hh I.nolimit hroom (pin I) hgs (hgo _ rfl rfl (bare_set I.bare rfl)) (fun v s₁ gs' hb hv => ?_) (fun s₁ hp h' hk => ?_)))
    · obtain ⟨j, y, H2, hl, hj, r2, I2, ye, kap⟩ := hv
      have hj' : L - i + 1 - 1 + j = L := hj
      have hji : j = i := by omega
      subst hji
      obtain ⟨b, eb, hb2⟩ := hYe j y H2 ye
      subst eb
      have r2' : v = Value.bool b := r2
      subst r2'
      intro hz
      rw [GenW.setGen_size] at hz
      refine wpAny_bind (wpAny_holding (wpAny_truthy_bool ?_))
      refine wpAny_bind (wpAny_letGo ?_)
      have I3 : Inv G [(a, go)] (none :: caps) H2 (s₁.setGen g gs') := inv_same I2 rfl rfl (bare_set I2.bare hb)
      cases b with
      | true =>
        rw [if_pos rfl] at hb2
        simp only [if_true]
        refine wpAny_pure ⟨plainId_quiet F.plain_all_loop _, ih (j + 1) _ gs' (by omega) hl ⟨H2, I3⟩ (setGen_at hz) fun s' eh eo eb => ?_⟩
        have e : L - j = L - (j + 1) + 1 := by omega
        have := kap s' eh eo eb hb2
        rw [e] at this
        exact this
      | false =>
        rw [if_neg Bool.false_ne_true] at hb2
        simp only [Bool.false_eq_true, if_false]
        refine wpAny_bind (wpAny_rule (wpAny_pure ?_))
        exact hfalse H2 _ I3 hb2
    · obtain ⟨h0, _⟩ := hp
      have h0' : L - i + 1 = 1 := h0
      omega
end
end Gx
namespace Gx
open PySem PySem.Spec PyProof.Rows L2 GxR
/-- all(elt for x in iter): Pv i, what holds when i items have passed -/
def rAllG (te : TE) (caps : L2.St) (Q : VK) : It → Hp → Prop := fun J H1 => ∃ (L : Nat) (Pv : Nat → Hp → Prop), Pv 0 H1 ∧ (∀ H, Pv L H → J.stop L H ∧ Q (.bl true) H) ∧
    ∀ i H, i < L → Pv i H → J.go i H ∧ ∀ y H', J.yld i H y H' → te (some y :: caps) H' fun z H2 => ∃ b, z = .bl b ∧ if b = true then Pv (i + 1) H2 else Q (.bl false) H2
def tAllG (P : Addr) (wi : TI) (te : TE) (ns : List (Str × Nat)) : TE := fun σ H Q => wi σ H fun J H1 => H1 P = some (TabO P) ∧ rAllG te (capsOf σ ns) Q J H1
section
variable {X : Cx}
theorem pe_allG {c P : Addr} {elt iter : Expr} {x : Str} {px p pos gpos : Pos} {scope : Scope} {ns : List (Str × Nat)} {wi : TI} {te : TE} {k' : Nat}
    (hr : Room (k' + 3) X.A) (hg : Gl X "all") (hm : X.mg "all" = none) (TB : TabB X.base X.mg c P) (hcode : X.env.code = .ref c) (S : GOk X.N X.env.scope scope x ns) (hnd : (x :: ns.map (·.1)).Nodup) (hi : PI X (.Name x px) iter wi)
    (he : ∀ (s : Shared) (H : Hp) (C : Addr) (code : Value) (fp : List Addr) (A : Around), Room k' A → PE (gcx X s H (x :: ns.map (·.1)) (genEnv scope (cloFrom X.env.cells scope.names []) C code builtinsNs X.env) fp A) elt te)
    (hs : ∀ v, genFold iter X.env v = pure v := by intro _; rfl) (hb : bootBuiltins "all" = some (.builtin "all") := by decide +kernel)
    (hst : starEach [.GeneratorExp elt [⟨.Name x px, iter, [], 0⟩] scope gpos] X.env = (false, eval (.GeneratorExp elt [⟨.Name x px, iter, [], 0⟩] scope gpos) X.env) :: starEach [] X.env := by rfl) :
    PE X (.Call (.Name "all" p) [.GeneratorExp elt [⟨.Name x px, iter, [], 0⟩] scope gpos] [] pos) (tAllG P wi te ns) := by
  refine ⟨fun pins s σ H Q I h => ?_⟩
  refine wpAny_Call_Name_kw (ld_blt I hg hm hb ?_)
  refine PyProof.Rows.callWith_builtin1 ?_ hst (by rfl)
  rw [hst]
  show wpAny _ _ (spliced ((false, eval (.GeneratorExp elt [⟨.Name x px, iter, [], 0⟩] scope gpos) X.env) :: backTo pos (starEach [] X.env))) _ _ s
  refine Calls.spliced_cons (gen_made (R := rAllG te (capsOf σ ns) Q) hr TB hcode S hnd hi he hs I h fun J H1 a s5 hR hG => ?_)
  obtain ⟨g, go, c5, hgen, hgs, hA⟩ := hG
  have hr1 : Room (k' + 1) X.A.in1.in1 := hr.in1.in1
  obtain ⟨G, hG1, hG2, back, I5, goes⟩ := hA X.A.in1.in1 hr1 (by rw [show X.A.in1.in1.frames = X.A.frames from rfl]; exact I.ok.frames)
  obtain ⟨L, Pv, p0, hstop, hstep⟩ := hR
  refine Calls.spliced_nil ?_
  refine call_function_tree F.kind_all F.plain_all F.entry_all (F.args_all1 _) ?_
  unfold Builtin.«all»
  refine wpAny_bind (m := oneArg "all" _) (wpAny_pure ?_)
  refine wpAny_bind (wpAny_pyIter_gen (hgen _ (I5.pin (a, go) (List.mem_append_right _ (List.mem_singleton.mpr rfl))).1) ?_)
  refine wpAny_pure ⟨plainId_quiet F.plain_all_loop _, ?_⟩
  refine codeAny_allG (G := G) (L := L) (Pv := Pv) (Qf := fun H => Q (.bl false) H) (Ye := fun i z H2 => ∃ b, z = .bl b ∧ if b = true then Pv (i + 1) H2 else Q (.bl false) H2) ⟨hG1, hG2⟩ hr.hd (by have := hr.dp; show X.A.depth < recursionLimit; omega) hgen (fun i y H h => h) (fun H' s' J' q => ?_) (fun H' s' J' q => ?_) L 0 s5 (.fresh c5) rfl (Nat.zero_le _) ⟨H1, I5⟩ hgs
    (goes L Pv _ (fun i H' hi hp => hstep i H' hi hp) (fun H' hp => (hstop H' hp).1) p0)
  · exact ⟨.bl false, H', back H' s' J', rfl, q⟩
  · exact ⟨.bl true, H', back H' s' J', rfl, (hstop H' q).2⟩
end
end Gx
end

section
set_option Elab.async false
set_option linter.all false
set_option maxRecDepth 100000
set_option maxHeartbeats 4000000
/-! Defs that lean on «no repr is under way» (their callers' guards are empty), and the end of a law whose tables are open things. -/
namespace Gx
open PySem PySem.Spec PyProof.Rows L2 GxR
structure FnG (P : Program) (w : World) (K : PySem.W.Frag) (mg : Str → Option Value) (base : Heap) (k : Nat) (f : Addr) (fd : FuncData) (ps : List Str) (sp : Sp) : Prop where
  len : ∀ vs H Q E, sp vs H Q E → vs.length = ps.length
  run : ∀ (A : Around) (outer : List Env) (s : Shared) (H : Hp) (args : Args) (us : List Value) (vs : List V) (Q : VK) (E : XK), Room k A → A.guards = some [] → Env0 P w K mg base A outer s H → BindsTo s fd args (ps.zip us) → Vals vs us → sp vs H Q E →
    codeAny (model P w) A (.call (.ref f) args) (CR CX0 outer P w H s Q E) s
section
variable {P : Program} {w : World} {K : PySem.W.Frag} {mg : Str → Option Value} {base : Heap} {k : Nat} {f : Addr}
theorem fnG_mono {j : Nat} {fd : FuncData} {ps : List Str} {sp : Sp} (F : FnG P w K mg base j f fd ps sp) (h : j ≤ k) : FnG P w K mg base k f fd ps sp :=
  ⟨F.len, fun A outer s H args us vs Q E hr => F.run A outer s H args us vs Q E (hr.mono h)⟩
theorem fnG_of {x qual : Str} {st : Stmt} {fd : FuncData} {N ps : List Str} {sp : Sp} (F : Fun K x qual st f fd) (S : FnScope N ps (defScope st)) (len : ∀ vs H Q E, sp vs H Q E → vs.length = ps.length)
    (hbody : ∀ (cdv : Value) (A : Around) (outer : List Env) (s : Shared) (H : Hp) (vs : List V) (Q : VK) (E : XK), Room k (A.deeper (envOfC qual (defScope st) s.heap.objs.size f cdv)) → A.guards = some [] → sp vs H Q E →
      ∃ t, PSs (cxOf CX0 P w K mg base N qual (defScope st) f cdv A outer s H E).nox (defBody st) t ∧ t { nx := fun _ H' => Q .non H', rt := Q } (start N vs) H) : FnG P w K mg base (k + 1) f fd ps sp := by
  obtain ⟨oc, od, kV, doc, pm, an, cdv, ct, osl, rfl, lk, hcd⟩ := F.ex
  refine ⟨len, fun A outer s H args us vs Q E hr hg e0 hb r hsp => ?_⟩
  have KX : K.In s.heap := e0.mod.kin.keeps fun b o e => (e0.bs b o e).1
  refine codeAny_call_function hr.depth (KX _ _ lk) rfl S.co S.gen rfl (PySem.W.codeRec_of KX hcd) (hb _ _ _ _ ?_)
  refine wpAny_newFunctionEnv_cells S.kind (fun y hy => ?_) fun env he s1 x => ?_
  · rcases S.par y.1 (List.of_mem_zip hy).1 with q | q
    · exact .inl q
    · exact .inr ⟨q, PySem.W.cellsFrom_some _ _ _ (.inl q)⟩
  · subst he
    refine ⟨(e0.mod.nolimit.keeps fun b o e => (e0.bs b o e).1).keeps x.toInCall.keep, codeAny_func ?_⟩
    obtain ⟨t, ht, hq⟩ := hbody cdv A outer s H vs Q E (hr.deeper _) hg hsp
    have I : Inv (cxOf CX0 P w K mg base N qual (defScope st) f cdv A outer s H E) [] (start N vs) H s1 := inv_start S hr.hd e0 (len _ _ _ _ hsp) r x
    refine wpAny_mono (ht.nox.run [] s1 (start N vs) H _ I hq) (fun fl s' hs => ?_) fun e s' hs => hs
    cases fl with
    | ret u => exact let ⟨v, σ', H', J, rv, q⟩ := hs; ⟨v, H', J.os, J.bare, J.base, J.hok, rv, q⟩
    | next => exact let ⟨σ', H', J, q⟩ := hs; ⟨V.non, H', J.os, J.bare, J.base, J.hok, rfl, q⟩
    | brk => exact let ⟨_, _, _, q⟩ := hs; q.elim
    | cont => exact let ⟨_, _, _, q⟩ := hs; q.elim
end
/-- a def that may be called by its name: positionally (G: with the guards known) -/
structure Cal (P : Program) (w : World) (K : PySem.W.Frag) (mg : Str → Option Value) (base : Heap) (k : Nat) (x : Str) (ps : List Str) (sp : Sp) : Prop where
  ex : ∃ f fd, FnOk P w K mg base CX0 k f fd ps sp ∧ mg x = some (.ref f) ∧ PySem.W.keepIn K (.ref f) = true ∧ Binds K fd ps []
structure CalG (P : Program) (w : World) (K : PySem.W.Frag) (mg : Str → Option Value) (base : Heap) (k : Nat) (x : Str) (ps : List Str) (sp : Sp) : Prop where
  ex : ∃ f fd, FnG P w K mg base k f fd ps sp ∧ mg x = some (.ref f) ∧ PySem.W.keepIn K (.ref f) = true ∧ Binds K fd ps []
/-- .. with all its arguments by keywords, in the order ks -/
structure CalK (P : Program) (w : World) (K : PySem.W.Frag) (mg : Str → Option Value) (base : Heap) (k : Nat) (x : Str) (ps ks : List Str) (gV : List V → List V → List V) (sp : Sp) : Prop where
  ex : ∃ f fd g, FnOk P w K mg base CX0 k f fd ps sp ∧ mg x = some (.ref f) ∧ PySem.W.keepIn K (.ref f) = true ∧ KBinds K fd ps ks g gV
section
variable {X : Cx} {k : Nat} {x : Str} {ps : List Str} {sp : Sp}
theorem pe_cal {e : Expr} {es : List Expr} {p pos : Pos} {t : TA} (C : Cal X.prog X.w X.K X.mg X.base k x ps sp) (hr : Room k X.A) (ha : PA X (e :: es) t) (hg : Gl X x := by rfl) (hdb : (x == ("__debug__" : Str)) = false := by decide)
    (he : starEach (e :: es) X.env = (false, eval e X.env) :: starEach es X.env := by rfl) (hpl : (backTo pos (starEach es X.env)).any (·.1) = false := by rfl) : PE X (.Call (.Name x p) (e :: es) [] pos) (tCall sp [] E0 t) := by
  obtain ⟨f, fd, F, hm, hk, hb⟩ := C.ex
  exact pe_call F hr hg hm hk hb .nil pass0 ha hdb he hpl
theorem pe_calG {e : Expr} {es : List Expr} {p pos : Pos} {t : TA} (C : CalG X.prog X.w X.K X.mg X.base k x ps sp) (hr : Room k X.A) (hgd : X.A.guards = some []) (ha : PA X (e :: es) t) (hg : Gl X x := by rfl) (hdb : (x == ("__debug__" : Str)) = false := by decide)
    (he : starEach (e :: es) X.env = (false, eval e X.env) :: starEach es X.env := by rfl) (hpl : (backTo pos (starEach es X.env)).any (·.1) = false := by rfl) : PE X (.Call (.Name x p) (e :: es) [] pos) (tCall sp [] E0 t) := by
  obtain ⟨f, fd, F, hm, hk, hb⟩ := C.ex
  refine ⟨fun pins s σ H Q I h => ?_⟩
  refine wpAny_Call_Name_kw (ld_glob I hg hm ?_ hdb)
  refine PySem.W.callWith_K (h₀ := X.base) I.ok.mod.kin hk (thn (ha.run pos pins s σ H _ I h) fun us s1 ⟨vs, H1, I1, r, q⟩ => ⟨I1.kIn, ?_⟩) he hpl
  have q' : sp (vs ++ []) H1 Q E0 := q
  rw [List.append_nil] at q'
  have hl : (us ++ []).length = ps.length := by rw [List.append_nil, ← r.length]; exact F.len _ _ _ _ q'
  have hbt := hb s1 us I1.kIn hl
  rw [List.append_nil] at hbt
  refine wpAny_call (codeAny_mono (F.run X.A X.stack s1 H1 ⟨us, []⟩ us vs Q E0 hr hgd I1.env0 hbt r q') fun r s' hq => ?_)
  cases r with
  | error e => exact False.elim hq
  | ok fl =>
    cases fl with
    | ret u => exact I1.after hq
    | next => exact False.elim hq
    | brk => exact False.elim hq
    | cont => exact False.elim hq
theorem pe_calK {kws : List Keyword} {p pos : Pos} {tk : TA} {ks : List Str} {gV : List V → List V → List V} (C : CalK X.prog X.w X.K X.mg X.base k x ps ks gV sp) (hr : Room k X.A) (hkw : PK X kws tk) (hg : Gl X x := by rfl) (hall : (backToKw pos (keywordEach kws X.env)).all (·.1.isSome) = true := by rfl) (hks : (backToKw pos (keywordEach kws X.env)).filterMap (·.1) = ks := by rfl)
    (hdb : (x == ("__debug__" : Str)) = false := by decide) (hpl : ((backTo pos (starEach [] X.env)).any (·.1) || (backToKw pos (keywordEach kws X.env)).any (·.1.isNone)) = false := by rfl) :
    PE X (.Call (.Name x p) [] kws pos) (tCallK sp gV E0 tNil tk) := by
  obtain ⟨f, fd, g, F, hm, hk, hb⟩ := C.ex
  refine ⟨fun pins s σ H Q I h => ?_⟩
  refine wpAny_Call_Name_kw (ld_glob I hg hm ?_ hdb)
  refine PySem.W.callWith_KW0 (h₀ := X.base) I.ok.mod.kin hk hall (thn (hkw.run pos pins s σ H _ I h) fun ws s2 ⟨zs, H2, I2, rz, q2⟩ => ⟨I2.kIn, ?_⟩) hpl
  rw [hks]
  exact run_fnk F hr hb pass0 I2 .nil rz q2
end
/-- the keywords' values in the parameters' order -/
def gVof (idx : List Nat) (n : Nat) : List V → List V → List V
  | [], zs => if zs.length = n then idx.map (fun i => zs.getD i .non) else []
  | _ :: _, _ => []
def gOf (idx : List Nat) (n : Nat) : List Value → List Value → List Value
  | [], zs => if zs.length = n then idx.map (fun i => zs.getD i .none) else []
  | _ :: _, _ => []
theorem vals_getD {zs : List V} {ws : List Value} (r : Vals zs ws) (i : Nat) : RelV (zs.getD i .non) (ws.getD i .none) := by
  rw [List.getD_eq_getElem?_getD, List.getD_eq_getElem?_getD]
  cases e : zs[i]? with
  | none => rw [r.none_of e]; exact rfl
  | some x => obtain ⟨u, h1, h2⟩ := r.get e; rw [h1]; exact h2
theorem vals_idx {zs : List V} {ws : List Value} (r : Vals zs ws) : ∀ idx : List Nat, Vals (idx.map fun i => zs.getD i .non) (idx.map fun i => ws.getD i .none)
  | [] => .nil
  | i :: l => .cons (vals_getD r i) (vals_idx r l)
theorem kbinds_mk {K : PySem.W.Frag} {x qual : Str} {st : Stmt} {f : Addr} {fd : FuncData} {ps ks : List Str} (F : Fun K x qual st f fd) (idx : List Nat) (n : Nat) (hn : ps.length ≠ 0)
    (h : ∀ (kV doc pm : Value) (an : Option Addr) (cdv ct : Value) (ws : List Value), ws.length = n → bindArgs (PySem.W.fnOf x qual (defArgs st) (defBody st) (defScope st) .none kV doc pm an cdv ct) ⟨[], ks.zip ws⟩ = pure (ps.zip (idx.map fun i => ws.getD i .none))) :
    KBinds K fd ps ks (gOf idx n) (gVof idx n) := by
  obtain ⟨oc, od, kV, doc, pm, an, cdv, ct, osl, rfl, lk, hcd⟩ := F.ex
  refine ⟨fun s us ws _ hl => ?_, fun {vs us zs ws} r rz => ?_⟩
  · cases us with
    | cons u us => exact absurd hl.symm hn
    | nil =>
      by_cases e : ws.length = n
      · have e2 : gOf idx n [] ws = idx.map fun i => ws.getD i .none := if_pos e
        rw [e2]
        exact .of_eq (h kV doc pm an cdv ct ws e)
      · have e2 : gOf idx n [] ws = [] := if_neg e
        rw [e2] at hl
        exact absurd hl.symm hn
  · cases r with
    | cons _ _ => exact .nil
    | nil =>
      by_cases e : ws.length = n
      · have e2 : gOf idx n [] ws = idx.map fun i => ws.getD i .none := if_pos e
        have e3 : gVof idx n [] zs = idx.map fun i => zs.getD i .non := if_pos (rz.length.trans e)
        rw [e2, e3]
        exact vals_idx rz idx
      · have e2 : gOf idx n [] ws = [] := if_neg e
        have e3 : gVof idx n [] zs = [] := if_neg (fun z => e (rz.length.symm.trans z))
        rw [e2, e3]
        exact .nil
/-! ### the end of a law -/
section
variable {P : Program} {w : World} {K : PySem.W.Frag} {mg mb : Str → Option Value} {k : Nat} {fa a : Addr} {cs : List (Addr × Addr)} {fd : FuncData} {x : Str} {sp : Sp} {s1 : Shared} {vs : List Value} {ns : List Int}
/-- what is tracked at the law's entry: the script (unless it is written), the tables -/
def H0 (cs : List (Addr × Addr)) (a : Addr) (wr : Bool) (o : Obj) (xs : List V) : Hp := fun b => if b = a ∧ wr = false then some (.frz o (.lst xs)) else if b ∈ cs.map (·.2) then some (TabO b) else none
theorem law_end (KX : K.In s1.heap) (hns : s1.heap.Ns mainGlobals mg) (hb : s1.heap.Ns builtinsNs mb) (hbb : ∀ x : Str, x ≠ "__name__" → mb x = bootBuiltins x) (hlim : s1.heap.NoLimit) (hg : s1.gens = #[])
    (hT : ∀ p ∈ cs, s1.heap.get? p.2 = some { cls := .none, data := .fields #[] }) (nT : ∀ p ∈ cs, K.lookup p.2 = none) (C : ∀ p ∈ cs, PySem.W.CodeHd s1.heap p.1 p.2)
    (hbm : ∃ (bm : Addr) (ob : Obj), mg "__builtins__" = some (.ref bm) ∧ bm ≠ builtinsNs ∧ s1.heap.get? bm = some ob ∧ ob.cls = .type "module" ∧ ob.dict = some builtinsNs ∧ ob.data = .plain)
    (ha : s1.heap.get? a = some { cls := .type "list", data := .seq vs.toArray }) (hi : IntsAre vs ns) (hl : ns.length ≤ sizeLine) (hr : Room k callerA)
    (F : ∀ base : Heap, K.In base → base.Ns mainGlobals mg → (∀ p ∈ cs, TabB base mg p.1 p.2) → FnG P w K mg base k fa fd [x] sp) (hbind : ∀ (s : Shared) (u : Value), BindsTo s fd ⟨[u], []⟩ [(x, u)])
    (hsp : ∀ H : Hp, (∀ p ∈ cs, H p.2 = some (TabO p.2)) → SqL K H a (ns.map V.int) → sp [.ref a] H (fun v H' => v = .bl true ∧ ∀ p ∈ cs, H' p.2 = some (TabO p.2)) E0) :
    codeAny (model P w) callerA (.call (.ref fa) ⟨[.ref a], []⟩) (fun r s' => r = .ok (.ret (.bool true)) ∧ OldK s1.heap s'.heap ∧ s'.os = s1.os ∧ AllBare s'.gens) s1 := by
  have rv := vals_ints hi
  obtain ⟨wr, hwr⟩ : ∃ wr : Bool, wr = (K.lookup a).isSome := ⟨_, rfl⟩
  obtain ⟨H, hH⟩ : ∃ H, H = H0 cs a wr { cls := .type "list", data := .seq vs.toArray } (ns.map V.int) := ⟨_, rfl⟩
  have tabNe : ∀ p ∈ cs, p.2 ≠ a := fun p hp z => by
    have e := hT p hp
    rw [z, ha] at e
    cases e
  have HT : ∀ p ∈ cs, H p.2 = some (TabO p.2) := fun p hp => by
    rw [hH]
    show (if p.2 = a ∧ wr = false then _ else if p.2 ∈ cs.map (·.2) then _ else _) = _
    rw [if_neg fun z => tabNe p hp z.1, if_pos (List.mem_map.mpr ⟨p, hp, rfl⟩)]
  -- an address that is tracked: the script, or a table
  have Hcase : ∀ b, H b = none ∨ (b = a ∧ wr = false ∧ H b = some (.frz { cls := .type "list", data := .seq vs.toArray } (.lst (ns.map V.int)))) ∨ (∃ p ∈ cs, p.2 = b ∧ H b = some (TabO b)) := fun b => by
    by_cases h1 : b = a ∧ wr = false
    · refine .inr (.inl ⟨h1.1, h1.2, ?_⟩)
      rw [hH]
      exact if_pos h1
    · by_cases h2 : b ∈ cs.map (·.2)
      · obtain ⟨p, hp, e⟩ := List.mem_map.mp h2
        refine .inr (.inr ⟨p, hp, e, ?_⟩)
        rw [← e]
        exact HT p hp
      · refine .inl ?_
        rw [hH]
        exact (if_neg h1).trans (if_neg h2)
  have free : ∀ {b : Addr} {o : Obj}, s1.heap.get? b = some o → (∀ z n, o.data ≠ .seq z n) → o.data ≠ .fields #[] → H b = none := fun {b o} e h1 h2 => by
    rcases Hcase b with z | ⟨z, _⟩ | ⟨p, hp, z, _⟩
    · exact z
    · rw [z, ha] at e
      cases e
      exact (h1 _ _ rfl).elim
    · have e2 := hT p hp
      rw [z, e] at e2
      cases e2
      exact (h2 rfl).elim
  have toBase : ∀ {b : Addr} {o : Obj}, s1.heap.get? b = some o → H b = none → (hidT s1.heap H).get? b = some o := fun e n => hidT_get e n
  have nsB : ∀ {b : Addr} {m : Str → Option Value}, s1.heap.Ns b m → (hidT s1.heap H).Ns b m := fun {b m} ⟨o, es, ep, e, d, r⟩ =>
    ⟨o, es, ep, toBase e (free e (fun z n q => by rw [d] at q; cases q) fun q => by rw [d] at q; cases q), d, r⟩
  have kinB : K.In (hidT s1.heap H) := fun b o e => toBase (KX b o e) (by
    rcases Hcase b with z | ⟨z, hw, _⟩ | ⟨p, hp, z, _⟩
    · exact z
    · rw [hwr, ← z, e] at hw
      cases hw
    · rw [← z, nT p hp] at e
      cases e)
  have modB : L2.Mod K mg (hidT s1.heap H) := ⟨kinB, nsB hns, ⟨mb, nsB hb, hbb⟩, let ⟨mc, h1, h2⟩ := hlim; ⟨mc, nsB h1, h2⟩⟩
  have TB : ∀ p ∈ cs, TabB (hidT s1.heap H) mg p.1 p.2 := fun p hp => by
    have e0 := hT p hp
    refine ⟨?_, ?_, fun z => ?_⟩
    · obtain ⟨o, us, file, tf, flags, tg, inF, text, tt, e1, r1, r2, r3, rest⟩ := C p hp
      refine ⟨o, us, file, tf, flags, tg, inF, text, tt, toBase e1 (free e1 (fun z n q => ?_) fun q => ?_), r1, r2, r3, rest⟩
      · rw [r2] at q; cases q
      · rw [r2] at q; cases q; simp at r3
    · obtain ⟨bm, ob, b1, b2, b3, b4, b5, b6⟩ := hbm
      refine ⟨bm, ob, b1, b2, fun q => ?_, fun q => ?_, toBase b3 (free b3 (fun z n q => by rw [b6] at q; cases q) fun q => by rw [b6] at q; cases q), b4, b5, b6⟩
      · obtain ⟨o, es, ep, e, hd, _⟩ := hns
        rw [q, e] at b3
        cases b3
        rw [hd] at b6
        cases b6
      · rw [q, e0] at b3
        cases b3
        cases b6
    · obtain ⟨o, es, ep, e, hd, _⟩ := hns
      rw [z, e0] at e
      cases e
      cases hd
  have okH : HOk P w H s1.heap := fun b u e => by
    rcases Hcase b with z | ⟨z, _, z2⟩ | ⟨p, hp, z, z2⟩
    · rw [z] at e; cases e
    · rw [z2] at e; cases e
      rw [z]
      exact ⟨ha, by rw [List.length_map]; exact hl, vs, _, rv, ha⟩
    · rw [z2] at e; cases e
      exact tab_ok ⟨#[], by rw [← z]; exact hT p hp, trivial⟩
  have e0 : Env0 P w K mg (hidT s1.heap H) callerA [] s1 H := ⟨rfl, modB, fun b o e => of_hidT e, Nat.le_of_eq (hidT_size _ _), trivial, fun b hb => absurd (show b ∈ ([] : List Addr) from hb) (by simp), okH, .of_eq hg⟩
  have hS : SqL K H a (ns.map V.int) := by
    cases hk : K.lookup a with
    | some o =>
      have e := KX a o hk
      rw [ha] at e
      cases e
      exact .inr ⟨_, vs.toArray, _, hk, rfl, rfl, rfl, by rw [List.size_toArray, hi.length]; exact hl, by simpa using rv⟩
    | none =>
      refine .inl (.inr ⟨{ cls := .type "list", data := .seq vs.toArray }, ?_⟩)
      rw [hH]
      exact if_pos ⟨rfl, by rw [hwr, hk]; rfl⟩
  refine codeAny_mono ((F _ kinB (nsB hns) TB).run callerA [] s1 H ⟨[.ref a], []⟩ [.ref a] [.ref a] _ _ hr rfl e0 (hbind s1 (.ref a)) (.cons rfl .nil) (hsp H HT hS)) fun r s' h => ?_
  cases r with
  | error e => exact False.elim h
  | ok fl =>
    cases fl with
    | next => exact False.elim h
    | brk => exact False.elim h
    | cont => exact False.elim h
    | ret u =>
      obtain ⟨v, H', os, bare, un, okH', r', q1, q2⟩ := h
      subst q1
      obtain rfl : u = Value.bool true := r'
      have grown : ∀ p ∈ cs, ∃ more : Array Value, s'.heap.get? p.2 = some { cls := .none, data := .fields more } := fun p hp => let ⟨⟨ps, e, _⟩, _⟩ := okH' p.2 _ (q2 p hp); ⟨ps, e⟩
      have other : ∀ b o, (∀ p ∈ cs, p.2 ≠ b) → s1.heap.get? b = some o → s'.heap.get? b = some o := fun b o nb e => by
        rcases Hcase b with z | ⟨z, _, z2⟩ | ⟨p, hp, z, _⟩
        · exact un.keep b o e z (by intro z; cases z) (by simp)
        · have e1 := (okH b _ z2).1
          rw [e] at e1
          cases e1
          exact (okH' b _ (un.frzs b _ _ z2)).1
        · exact (nb p hp z).elim
      refine ⟨rfl, ⟨fun b o e => ?_, fun b o e => ?_⟩, os, bare⟩
      · by_cases hb : ∃ p ∈ cs, p.2 = b
        · obtain ⟨p, hp, ep⟩ := hb
          obtain ⟨more, hm⟩ := grown p hp
          subst ep
          rw [hT p hp] at e
          cases e
          exact .inr (.inl ⟨((C p hp).tab (hT p hp)).isCodeTable, rfl, #[], more, rfl, by rw [Array.empty_append]; exact hm⟩)
        · exact .inl (other b o (fun p hp z => hb ⟨p, hp, z⟩) e)
      · by_cases hb : ∃ p ∈ cs, p.2 = b
        · obtain ⟨p, hp, ep⟩ := hb
          obtain ⟨more, hm⟩ := grown p hp
          rw [← ep]
          exact ⟨_, hm⟩
        · exact ⟨o, other b o (fun p hp z => hb ⟨p, hp, z⟩) e⟩
end
/-- what is to be shown of the law at the head's heap; tn: the defs whose tables may grow, their code objects and tables -/
def LawE (l : PySem.W.OpenLaw) (q : Program) (w : World) (K : PySem.W.Frag) (k n : Nat) (x : Str) (mg : Str → Option Value) (fa : Addr) : Prop :=
  ∃ (fd : FuncData) (tn : List (Str × Addr × Addr)) (sp : Sp), (∀ p ∈ tn, PySem.W.tabIn K p.1 = some p.2 ∧ ((recsOf q).any fun e => e.name == p.1) = true ∧ K.lookup p.2.2 = none) ∧ (∀ (s : Shared) (u : Value), BindsTo s fd ⟨[u], []⟩ [(x, u)]) ∧
    (∀ (H : Hp) (a : Addr) (ns : List Int), ns.length ≤ n → (∀ z ∈ ns, Builtin.Int.intBits z ≤ 1048576) → (∀ p ∈ tn, H p.2.2 = some (TabO p.2.2)) → SqL K H a (ns.map V.int) → sp [.ref a] H (fun v H' => v = .bl true ∧ ∀ p ∈ tn, H' p.2.2 = some (TabO p.2.2)) E0) ∧
    ∀ base : Heap, K.In base → base.Ns mainGlobals mg → (∀ p ∈ tn, TabB base mg p.2.1 p.2.2) → FnG l.prog w K mg base k fa fd [x] sp
theorem walk_E {l : PySem.W.OpenLaw} {n k : Nat} {q : Program} {loose : List Str} {XP : (Str → Option Value) → Heap → Prop} {YP : World → Heap → Prop} {d : DefRec} {K : Params → PySem.W.Frag} {x : Str}
    (hn : l.most = some n) (hn2 : n ≤ sizeLine) (hdf : d.params.defaults = []) (hr : Room k callerA) (hY : ∀ (w : World) (h : Heap), YP w h → (K w.params).In h)
    (F : ∀ (w : World) (mg : Str → Option Value) (fa : Addr) (h : Heap), (K w.params).In h → h.Ns mainGlobals mg → mg d.name = some (.ref fa) → LawE l q w (K w.params) k n x mg fa) :
    PySem.W.WalkO q loose XP YP l.row.toRowW d [] (fun f vs => PySem.call f vs) := by
  refine Att.attach_callB hn hdf fun w s₀ s1 mg mb fa o pm cd doc a vs ns G Y ho hd hcd hmg hobj hints hlen hbits hg => ?_
  have KX := hY w _ Y
  obtain ⟨fd, tn, sp, hT, hb, hsp, hF⟩ := F w mg fa _ KX G.T.g hmg
  have key : ∀ p ∈ tn, PySem.W.CodeHd s1.heap p.2.1 p.2.2 ∧ s1.heap.get? p.2.2 = some { cls := .none, data := .fields #[] } := fun p hp => by
    obtain ⟨h1, h2, _⟩ := hT p hp
    cases e : (recsOf q).find? (fun e => e.name == p.1) with
    | none =>
      rw [List.find?_eq_none] at e
      obtain ⟨z, z1, z2⟩ := List.any_eq_true.mp h2
      exact absurd z2 (e z z1)
    | some d0 => exact PySem.W.tab_of G.T KX e h1
  have tr : ∀ p ∈ tn.map (·.2), ∃ y ∈ tn, y.2 = p := fun p hp => let ⟨y, h1, h2⟩ := List.mem_map.mp hp; ⟨y, h1, h2⟩
  refine law_end (cs := tn.map (·.2)) KX G.T.g G.T.b G.T.builtins G.T.nolimit hg (fun p hp => ?_) (fun p hp => ?_) (fun p hp => ?_) G.T.bmain hobj hints (Nat.le_trans hlen hn2) hr (fun base h1 h2 h3 => hF base h1 h2 fun p hp => h3 p.2 (List.mem_map.mpr ⟨p, hp, rfl⟩)) hb fun H hH hS => ?_
  · obtain ⟨y, hy, e⟩ := tr p hp
    rw [← e]
    exact (key y hy).2
  · obtain ⟨y, hy, e⟩ := tr p hp
    rw [← e]
    exact (hT y hy).2.2
  · obtain ⟨y, hy, e⟩ := tr p hp
    rw [← e]
    exact (key y hy).1
  · have := hsp H a ns hlen hbits (fun p hp => hH p.2 (List.mem_map.mpr ⟨p, hp, rfl⟩)) hS
    have e : (fun (v : V) (H' : Hp) => v = V.bl true ∧ ∀ p ∈ tn.map (·.2), H' p.2 = some (TabO p.2)) = fun v H' => v = V.bl true ∧ ∀ p ∈ tn, H' p.2.2 = some (TabO p.2.2) := by
      funext v H'
      exact propext ⟨fun ⟨a, b⟩ => ⟨a, fun p hp => b p.2 (List.mem_map.mpr ⟨p, hp, rfl⟩)⟩, fun ⟨a, b⟩ => ⟨a, fun p hp => by
        obtain ⟨y, hy, e⟩ := tr p hp
        rw [← e]
        exact b y hy⟩⟩
    rw [e]
    exact this
end Gx
end

section
set_option Elab.async false
set_option linter.all false
set_option maxRecDepth 100000
set_option maxHeartbeats 4000000
/-! More rules: ** of great ints, repr of nested data of ints, xs[i] op= e, chains of three, != of types. -/
namespace Gx
open PySem PySem.Spec PyProof.Rows L2 GxR
/-! ### repr -/
mutual
def nod : PyData → Nat
  | .list xs => nodAll xs + 3
  | .tuple xs => nodAll xs + 3
  | _ => 1
def nodAll : List PyData → Nat
  | [] => 0
  | x :: xs => nod x + 2 + nodAll xs
end
mutual
def intsP (B : Nat) : PyData → Prop
  | .int i => i.natAbs < 2 ^ B
  | .list xs => intsAll B xs
  | .tuple xs => intsAll B xs
  | _ => False
def intsAll (B : Nat) : List PyData → Prop
  | [] => True
  | x :: xs => intsP B x ∧ intsAll B xs
end
mutual
theorem ints_shown {B : Nat} (hB : 0 < B) : ∀ d : PyData, intsP B d → d.shown.length ≤ (B + 1) * nod d
  | .int i, h => by
    have h' : i.natAbs < 2 ^ B := h
    have e := int_text_length_le (a := i) hB (PySem.Flt.log2_lt_of hB h')
    show (Str.ofString (toString i)).length ≤ (B + 1) * 1
    rw [PySem.ofString_length, Nat.mul_one]
    exact e
  | .list xs, h => by
    have h1 := ints_shownAll hB xs h
    have h2 := listText_len_le (PyData.shownAll xs)
    have h3 := PyData.shownAll_length xs
    have e : (B + 1) * (nodAll xs + 3) = (B + 1) * nodAll xs + (B + 1) * 3 := Nat.mul_add ..
    show (listText (PyData.shownAll xs)).length ≤ (B + 1) * (nodAll xs + 3)
    omega
  | .tuple xs, h => by
    have h1 := ints_shownAll hB xs h
    have h2 := tupleText_len_le (PyData.shownAll xs)
    have h3 := PyData.shownAll_length xs
    have e : (B + 1) * (nodAll xs + 3) = (B + 1) * nodAll xs + (B + 1) * 3 := Nat.mul_add ..
    show (tupleText (PyData.shownAll xs)).length ≤ (B + 1) * (nodAll xs + 3)
    omega
  | .none, h => h.elim
  | .bool _, h => h.elim
  | .str _, h => h.elim
  | .dict _, h => h.elim
theorem ints_shownAll {B : Nat} (hB : 0 < B) : ∀ xs : List PyData, intsAll B xs → ((PyData.shownAll xs).map (·.length)).sum + 2 * xs.length ≤ (B + 1) * nodAll xs
  | [], _ => by simp [PyData.shownAll]
  | x :: xs, h => by
    have h1 := ints_shown hB x h.1
    have h2 := ints_shownAll hB xs h.2
    have e : (B + 1) * nodAll (x :: xs) = (B + 1) * nod x + (B + 1) * 2 + (B + 1) * nodAll xs := by
      show (B + 1) * (nod x + 2 + nodAll xs) = _
      rw [Nat.mul_add, Nat.mul_add]
    rw [e]
    simp only [PyData.shownAll, List.map_cons, List.sum_cons, List.length_cons]
    omega
end
mutual
theorem ints_show {B : Nat} (h2 : B ≤ 1900) (hB : 0 < B) : ∀ d : PyData, intsP B d → d.showable = true ∧ d.hasDict = false
  | .int i, h => by
    have h' : i.natAbs < 2 ^ B := h
    exact ⟨decide_eq_true (Nat.lt_of_lt_of_le (PySem.Flt.log2_lt_of hB h') (by omega)), rfl⟩
  | .list xs, h => ints_showAll h2 hB xs h
  | .tuple xs, h => ints_showAll h2 hB xs h
  | .none, h => h.elim
  | .bool _, h => h.elim
  | .str _, h => h.elim
  | .dict _, h => h.elim
theorem ints_showAll {B : Nat} (h2 : B ≤ 1900) (hB : 0 < B) : ∀ xs : List PyData, intsAll B xs → PyData.showableAll xs = true ∧ PyData.hasDictAll xs = false
  | [], _ => ⟨rfl, rfl⟩
  | x :: xs, h => by
    obtain ⟨a1, a2⟩ := ints_show h2 hB x h.1
    obtain ⟨b1, b2⟩ := ints_showAll h2 hB xs h.2
    exact ⟨by simp only [PyData.showableAll, a1, b1, Bool.and_self], by simp only [PyData.hasDictAll, a2, b2, Bool.or_self]⟩
end
section
variable {X : Cx}
/-- repr of a list or a tuple of ints, at any depth -/
def rRepr (K : PySem.W.Frag) : List V → Hp → VK → Prop := fun vs H Q => ∃ (a : Addr) (d : PyData) (B : Nat), vs = [.ref a] ∧ Dp K H (.ref a) d ∧ intsP B d ∧ 0 < B ∧ B ≤ 1900 ∧ (B + 1) * nod d ≤ 16777216 ∧ d.depth ≤ 30 ∧ Q (.str d.shown) H
theorem cr_repr {k : Nat} (hr : Room k X.A) (hg : X.A.guards = some []) : CallR X (.builtin "repr") (rRepr X.K) := by
  intro pins s σ H vs us Q I r h
  obtain ⟨a, d, B, rfl, hd, hi, h0, hB, hn, hdp, q⟩ := h
  cases r with
  | cons r1 rr =>
    cases rr
    cases (show _ = Value.ref a from r1)
    obtain ⟨as, R⟩ := Dp.reads I d (.ref a) (.ref a) hd rfl
    obtain ⟨s1, s2⟩ := ints_show hB h0 d hi
    refine repr_of_reads' R s1 (PyData.noDict_hsm s2) hg (by have := hr.un; omega) (fun b o e => e) (fun h' u tk hk => ⟨.str d.shown, H, I.kept hk, ⟨u, rfl⟩, q⟩) ?_
    have := ints_shown h0 d hi
    show d.shown.length ≤ 16777216
    omega
/-! ### ** -/
def CPowW (i j : Int) : Prop := 0 ≤ j ∧ ∃ b : Nat, i.natAbs < 2 ^ b ∧ 0 < b ∧ (b : Int) * j ≤ 134217728
theorem op_powW : OpR X (binaryOp .Pow) (rI CPowW fun i j => .int (i ^ j.toNat)) := opI fun i j _ _ _ _ _ hc q => by
  obtain ⟨h0, b, hb, b0, hm⟩ := hc
  refine pow_int h0 ?_ q
  have h1 : Builtin.Int.intBits i ≤ b := by
    unfold Builtin.Int.intBits
    split
    · omega
    · have := PySem.Flt.log2_lt_of b0 hb
      omega
  have h2 : (Builtin.Int.intBits i : Int) * j ≤ (b : Int) * j := Int.mul_le_mul_of_nonneg_right (by omega) h0
  exact Int.le_trans h2 hm
/-! ### xs[i] op= e -/
def rGetL (K : PySem.W.Frag) : V → V → Hp → VK → Prop := fun x y H Q => ∃ p xs i v, x = .ref p ∧ y = .int i ∧ SqL K H p xs ∧ 0 ≤ i ∧ xs[i.toNat]? = some v ∧ Q v H
theorem get_list : PGet X (rGetL X.K) := by
  intro pins s σ H x y v u Q I rx ry h
  obtain ⟨p, xs, i, z, rfl, rfl, hq, h0, he, q⟩ := h
  cases rx
  obtain ⟨t, rfl⟩ := ry
  obtain ⟨its, r, pl, hz⟩ := I.list hq
  obtain ⟨w, ew, rw'⟩ := r.get he
  have hl := r.length
  have hn := line63
  have hlt := (List.getElem?_eq_some_iff.mp he).1
  exact wpAny_getItem_list pl.isList h0 (by omega) (by simpa using ew) ⟨z, H, I, rw', q⟩
/-! ### a < b < c <= d -/
def tChain3 (r r' r'' : R2) (ta tb tc td : TE) : TE := fun σ H Q => ta σ H fun x H1 => tb σ H1 fun y H2 => r x y H2 fun z H3 => ∃ k, z = .bl k ∧
  (if k = true then tc σ H3 fun x2 H4 => r' y x2 H4 fun z2 H5 => ∃ k2, z2 = .bl k2 ∧ (if k2 = true then td σ H5 fun x3 H6 => r'' x2 x3 H6 Q else Q (.bl false) H5) else Q (.bl false) H3)
theorem pe_chain3 {op op' op'' : CmpOp} {r r' r'' : R2} {a b c d : Expr} {ta tb tc td : TE} {pos : Pos} (ho : OpR X (compareOp op) r) (ho' : OpR X (compareOp op') r') (ho'' : OpR X (compareOp op'') r'') (ha : PE X a ta) (hb : PE X b tb) (hc : PE X c tc) (hd : PE X d td)
    (hm : lastMarks [op, op', op''] [b, c, d] = false := by with_unfolding_all rfl) : PE X (.Compare a [op, op', op''] [b, c, d] pos) (tChain3 r r' r'' ta tb tc td) := by
  refine ⟨fun pins s σ H Q I h => ?_⟩
  refine Compare_chain (thn (ha.run pins s σ H _ I h) fun v s1 ⟨x, H1, I1, r1, q1⟩ => chain_link (thn (hb.run pins s1 σ H1 _ I1 q1) fun u s2 ⟨y, H2, I2, r2, q2⟩ =>
    thn (ho pins s2 σ H2 x y v u _ I2 r1 r2 q2) fun d s3 ⟨z, H3, I3, r3, k, e, q3⟩ => ?_)) hm
  subst e
  cases r3
  refine wpAny_truthy_bool ?_
  cases k with
  | false => exact ite_ff ⟨.bl false, H3, I3, rfl, q3⟩
  | true =>
    refine ite_tt (chain_link (thn (hc.run pins s3 σ H3 _ I3 q3) fun w' s4 ⟨x2, H4, I4, r4, q4⟩ => thn (ho' pins s4 σ H4 y x2 u w' _ I4 r2 r4 q4) fun d2 s5 ⟨z2, H5, I5, r5, k2, e2, q5⟩ => ?_))
    subst e2
    cases r5
    refine wpAny_truthy_bool ?_
    cases k2 with
    | false => exact ite_ff ⟨.bl false, H5, I5, rfl, q5⟩
    | true => exact ite_tt (chain_last (thn (hd.run pins s5 σ H5 _ I5 q5) fun w2 s6 ⟨x3, H6, I6, r6, q6⟩ => ho'' pins s6 σ H6 x2 x3 w' w2 Q I6 r4 r6 q6))
/-! ### != of types -/
theorem slot_type_ne : Slot "type" (cmpInfo .NotEq).2.1 "object.__ne__" :=
  .of (owner := "object") (n := "__ne__") (by rw [typeLookup_type, builtinLookup_eq_fast]; kernel_rfl) (by decide +kernel) (by decide +kernel) (by decide +kernel)
    (by first | exact .inl (by decide +kernel) | exact .inr (by decide +kernel)) (by rw [isSubtype_type]; kernel_rfl)
theorem ne_type_same {prog : Program} {w : World} {A : Around} {E : Value → Shared → Prop} {s : Shared} {Q : Value → Shared → Prop} {T : String} (hX : ∀ s' : Shared, s'.TypeIs (.type T) "type") (h : Q (.bool false) s) :
    wpAny (model prog w) A (compareOp .NotEq (.type T) (.type T)) Q E s := by
  show wpAny _ A (richCompare .NotEq _ _) Q E s
  refine wpAny_richCompare_same (T := "type") (hX s) (hX s) slot_type_ne ?_
  refine wpAny_call_entry slot_type_ne (hX s) F.entry_object_ne ?_ (F.args_object_ne_2 _ _)
  unfold Builtin.«object.__ne__»
  refine wpAny_bind (wpAny_of_eq (a := (Value.type T, [Value.type T])) (by simp [slotArgs]) ?_)
  refine wpAny_bind (wpAny_cRoomFor_or (.inl rfl) ?_)
  refine wpAny_bind (wpAny_callSpecialIfBound?_slot (hX s) TypeEq.slot_type_eq (call_gives TypeEq.slot_type_eq (hX s) F.entry_object_eq (F.args_object_eq_2 _ _) (TypeEq.object_eq_same rfl (by simp)) ?_))
  refine wpAny_bind (wpAny_truthy_bool ?_)
  exact wpAny_pure ⟨.bool false, rfl, (by intro e; cases e), h⟩
end
end Gx
end

section
set_option Elab.async false
set_option linter.all false
set_option maxRecDepth 100000
set_option maxHeartbeats 4000000
/-! Defs of the text by their names. -/
namespace Gx
open PySem PySem.Spec PyProof.Rows L2 GxR
/-- a def whose code object stands at c -/
structure FunC (K : PySem.W.Frag) (x qual : Str) (st : Stmt) (f : Addr) (fd : FuncData) (c : Addr) : Prop where
  ex : ∃ (oc : Value) (od : Option Addr) (kV doc pm : Value) (an : Option Addr) (ct : Value) (osl : Array (Option Value)),
    fd = PySem.W.fnOf x qual (defArgs st) (defBody st) (defScope st) .none kV doc pm an (.ref c) ct ∧ K.lookup f = some ⟨oc, od, .func fd, osl⟩ ∧ PySem.W.codeIn K (.ref c) qual = true
  kp : PySem.W.keepIn K (.ref f) = true
theorem FunC.fn {K : PySem.W.Frag} {x qual : Str} {st : Stmt} {f : Addr} {fd : FuncData} {c : Addr} (F : FunC K x qual st f fd c) : Fun K x qual st f fd :=
  ⟨let ⟨oc, od, kV, doc, pm, an, ct, osl, h⟩ := F.ex; ⟨oc, od, kV, doc, pm, an, .ref c, ct, osl, h⟩, F.kp⟩
theorem FunC.ok {P : Program} {w : World} {K : PySem.W.Frag} {mg : Str → Option Value} {base : Heap} {x qual : Str} {st : Stmt} {f : Addr} {fd : FuncData} {c : Addr} {N ps : List Str} {k : Nat} {sp : Sp} (F : FunC K x qual st f fd c) (S : FnScope N ps (defScope st)) (len : ∀ vs H Q E, sp vs H Q E → vs.length = ps.length)
    (hbody : ∀ (A : Around) (outer : List Env) (s : Shared) (H : Hp) (vs : List V) (Q : VK) (E : XK), Room k (A.deeper (envOfC qual (defScope st) s.heap.objs.size f (.ref c))) → sp vs H Q E →
      ∃ t, PSs (cxOf CX0 P w K mg base N qual (defScope st) f (.ref c) A outer s H E).nox (defBody st) t ∧ t { nx := fun _ H' => Q .non H', rt := Q } (start N vs) H) : FnOk P w K mg base CX0 (k + 1) f fd ps sp := by
  obtain ⟨oc, od, kV, doc, pm, an, ct, osl, rfl, lk, hcd⟩ := F.ex
  refine fn_of lk hcd S len fun A outer s H vs Q E hr hsp => ?_
  obtain ⟨t, h, q⟩ := hbody A outer s H vs Q E hr hsp
  exact ⟨t, h.nox, q⟩
/-- the def x stands at its name -/
structure DF (K : PySem.W.Frag) (mg : Str → Option Value) (x : Str) (st : Stmt) : Prop where
  ex : ∃ f fd, Fun K x x st f fd ∧ mg x = some (.ref f)
structure DC (K : PySem.W.Frag) (mg : Str → Option Value) (x : Str) (st : Stmt) (c : Addr) : Prop where
  ex : ∃ f fd, FunC K x x st f fd c ∧ mg x = some (.ref f)
section
variable {K : PySem.W.Frag} {mg : Str → Option Value} {h : Heap}
theorem df_mk {x : Str} {st : Stmt} {f : Addr} {oc : Value} {od an : Option Addr} {osl : Array (Option Value)} {kV doc pm cdv ct : Value} (X : K.In h) (G : h.Ns mainGlobals mg) (a : PySem.W.nsIn K mainGlobals x = some (some (.ref f)))
    (l : K.lookup f = some ⟨oc, od, .func (PySem.W.fnOf x x (defArgs st) (defBody st) (defScope st) .none kV doc pm an cdv ct), osl⟩) (c : PySem.W.codeIn K cdv x = true) (k : PySem.W.keepIn K (.ref f) = true) : DF K mg x st :=
  ⟨⟨f, _, fun_mk l c k, PySem.W.mg_of X G a⟩⟩
theorem dc_mk {x : Str} {st : Stmt} {f cc : Addr} {oc : Value} {od an : Option Addr} {osl : Array (Option Value)} {kV doc pm ct : Value} (X : K.In h) (G : h.Ns mainGlobals mg) (a : PySem.W.nsIn K mainGlobals x = some (some (.ref f)))
    (l : K.lookup f = some ⟨oc, od, .func (PySem.W.fnOf x x (defArgs st) (defBody st) (defScope st) .none kV doc pm an (.ref cc) ct), osl⟩) (c : PySem.W.codeIn K (.ref cc) x = true) (k : PySem.W.keepIn K (.ref f) = true) : DC K mg x st cc :=
  ⟨⟨f, _, ⟨⟨oc, od, kV, doc, pm, an, ct, osl, rfl, l, c⟩, k⟩, PySem.W.mg_of X G a⟩⟩
end
section
variable {P : Program} {w : World} {K : PySem.W.Frag} {mg : Str → Option Value} {base : Heap} {k : Nat} {x : Str} {ps : List Str} {sp : Sp} {st : Stmt}
theorem cal_mk (D : DF K mg x st) (hb : ∀ f fd, Fun K x x st f fd → Binds K fd ps []) (F : ∀ f fd, Fun K x x st f fd → FnOk P w K mg base CX0 k f fd ps sp) : Cal P w K mg base k x ps sp :=
  let ⟨f, fd, F0, m⟩ := D.ex; ⟨⟨f, fd, F f fd F0, m, F0.kp, hb f fd F0⟩⟩
theorem calG_mk (D : DF K mg x st) (hb : ∀ f fd, Fun K x x st f fd → Binds K fd ps []) (F : ∀ f fd, Fun K x x st f fd → FnG P w K mg base k f fd ps sp) : CalG P w K mg base k x ps sp :=
  let ⟨f, fd, F0, m⟩ := D.ex; ⟨⟨f, fd, F f fd F0, m, F0.kp, hb f fd F0⟩⟩
theorem calC_mk {c : Addr} (D : DC K mg x st c) (hb : ∀ f fd, Fun K x x st f fd → Binds K fd ps []) (F : ∀ f fd, FunC K x x st f fd c → FnOk P w K mg base CX0 k f fd ps sp) : Cal P w K mg base k x ps sp :=
  let ⟨f, fd, F0, m⟩ := D.ex; ⟨⟨f, fd, F f fd F0, m, F0.kp, hb f fd F0.fn⟩⟩
theorem calK_mk {ks : List Str} {g : List Value → List Value → List Value} {gV : List V → List V → List V} (D : DF K mg x st) (hb : ∀ f fd, Fun K x x st f fd → KBinds K fd ps ks g gV) (F : ∀ f fd, Fun K x x st f fd → FnOk P w K mg base CX0 k f fd ps sp) : CalK P w K mg base k x ps ks gV sp :=
  let ⟨f, fd, F0, m⟩ := D.ex; ⟨⟨f, fd, g, F f fd F0, m, F0.kp, hb f fd F0⟩⟩
end
section
variable {X : Cx}
/-- a module's int -/
theorem pe_gi {x : Str} {n : Int} {pos : Pos} (h : ∃ t, X.mg x = some (.int n t)) (hg : Gl X x := by rfl) (hd : (x == ("__debug__" : Str)) = false := by decide) : PE X (.Name x pos) (tC (.int n)) :=
  let ⟨t, e⟩ := h; pe_glob hg e ⟨t, rfl⟩ hd
def rNeTy : R2 := fun x y H Q => ∃ n, x = .ty n ∧ y = .ty n ∧ (∀ s' : Shared, s'.TypeIs (.type n) "type") ∧ Q (.bl false) H
theorem op_neTy : OpR X (compareOp .NotEq) rNeTy := by
  intro pins s σ H x y v u Q I rx ry h
  obtain ⟨n, rfl, rfl, hm, q⟩ := h
  cases (show v = Value.type n from rx)
  cases (show u = Value.type n from ry)
  exact ne_type_same hm ⟨.bl false, H, I, rfl, q⟩
end
/-- the scope of a generator expression, decided -/
def gokB (N : List Str) (sc scope : Scope) (x : Str) (ns : List (Str × Nat)) : Bool :=
  decide (scope.kind = .function) && !scope.isCoroutine && scope.names.all (fun y => decide (y.2 ≠ .cell)) && decide (scope.names.lookup (".0" : Str) = some NameKind.local) && decide (scope.names.lookup x = some .local) &&
  scope.names.all (fun y => decide (y.2 = .free → sc.names.lookup y.1 = some .cell ∨ sc.names.lookup y.1 = some .free)) && ns.all (fun p => decide (N[p.2]? = some p.1) && decide ((p.1, NameKind.free) ∈ scope.names)) && scope.names.all (fun y => decide (scope.names.lookup y.1 = some y.2))
theorem gok_by {N : List Str} {sc scope : Scope} {x : Str} {ns : List (Str × Nat)} (h : gokB N sc scope x ns = true) : GOk N sc scope x ns := by
  unfold gokB at h
  simp only [Bool.and_eq_true, List.all_eq_true, decide_eq_true_eq, Bool.not_eq_true'] at h
  obtain ⟨⟨⟨⟨⟨⟨⟨h1, h2⟩, h3⟩, h4⟩, h5⟩, h6⟩, h7⟩, h8⟩ := h
  exact ⟨h1, h2, fun y hy => h3 y hy, h4, h5, fun y hy => h6 y hy, fun p hp => h7 p hp, fun y hy => h8 y hy⟩
end Gx
namespace Gx
open PySem PySem.Spec PyProof.Rows L2 GxR
section
variable {K : PySem.W.Frag} {mg : Str → Option Value} {h : Heap} {Goal : Prop}
theorem with_df {x : Str} {st : Stmt} {f : Addr} {oc : Value} {od an : Option Addr} {osl : Array (Option Value)} {kV doc pm cdv ct : Value} (X : K.In h) (G : h.Ns mainGlobals mg) (a : PySem.W.nsIn K mainGlobals x = some (some (.ref f)))
    (l : K.lookup f = some ⟨oc, od, .func (PySem.W.fnOf x x (defArgs st) (defBody st) (defScope st) .none kV doc pm an cdv ct), osl⟩) (c : PySem.W.codeIn K cdv x = true) (k : PySem.W.keepIn K (.ref f) = true) (go : DF K mg x st → Goal) : Goal := go (df_mk X G a l c k)
theorem tab_mk {x qual : Str} {st : Stmt} {f cc tt : Addr} {oc e : Value} {od an dd : Option Addr} {osl sl : Array (Option Value)} {kV doc pm ct : Value} {vs : Array Value} (a : PySem.W.nsIn K mainGlobals x = some (some (.ref f)))
    (l : K.lookup f = some ⟨oc, od, .func (PySem.W.fnOf qual qual (defArgs st) (defBody st) (defScope st) .none kV doc pm an (.ref cc) ct), osl⟩) (lc : K.lookup cc = some ⟨e, dd, .fields vs, sl⟩) (hv : vs[11]? = some (.ref tt)) : PySem.W.tabIn K x = some (cc, tt) := by
  unfold PySem.W.tabIn
  rw [a]
  simp only [l, PySem.W.fnOf, lc, hv]
theorem with_dc {x : Str} {st : Stmt} {f cc tt : Addr} {oc e : Value} {od an dd : Option Addr} {osl sl : Array (Option Value)} {kV doc pm ct : Value} {vs : Array Value} (X : K.In h) (G : h.Ns mainGlobals mg) (a : PySem.W.nsIn K mainGlobals x = some (some (.ref f)))
    (l : K.lookup f = some ⟨oc, od, .func (PySem.W.fnOf x x (defArgs st) (defBody st) (defScope st) .none kV doc pm an (.ref cc) ct), osl⟩) (c : PySem.W.codeIn K (.ref cc) x = true) (k : PySem.W.keepIn K (.ref f) = true)
    (lc : K.lookup cc = some ⟨e, dd, .fields vs, sl⟩) (hv : vs[11]? = some (.ref tt)) (n : K.lookup tt = none) (go : ∀ c P, DC K mg x st c → PySem.W.tabIn K x = some (c, P) → K.lookup P = none → Goal) : Goal := go cc tt (dc_mk X G a l c k) (tab_mk a l lc hv) n
theorem with_bl {x : Str} (X : K.In h) (G : h.Ns mainGlobals mg) (a : PySem.W.nsIn K mainGlobals x = some none) (go : mg x = none → Goal) : Goal := go (PySem.W.mg_none_of X G a)
theorem with_gi {x : Str} {n : Int} {t : Tok} (X : K.In h) (G : h.Ns mainGlobals mg) (a : PySem.W.nsIn K mainGlobals x = some (some (.int n t))) (go : (∃ t, mg x = some (.int n t)) → Goal) : Goal := go ⟨t, PySem.W.mg_of X G a⟩
theorem with_bf {x : Str} {id : String} (X : K.In h) (G : h.Ns mainGlobals mg) (a : PySem.W.nsIn K mainGlobals x = some (some (.builtin id))) (go : mg x = some (.builtin id) → Goal) : Goal := go (PySem.W.mg_of X G a)
end
end Gx
end

section
set_option Elab.async false
set_option linter.all false
set_option maxRecDepth 100000
set_option maxHeartbeats 4000000
/-! *= and //= of great ints; repr of ints, truth values, None and of nested data of these. -/
namespace Gx
open PySem PySem.Spec PyProof.Rows L2 GxR
section
variable {X : Cx}
def ipIC (C : Int → Int → Prop) (f : Int → Int → Int) : TIp := fun x y H Q => ∃ i j, x = .int i ∧ y = .int j ∧ C i j ∧ Q (.int (f i j)) H
theorem ip_mulW : PIp X .Mult (ipIC CMulW fun i j => i * j) := by
  intro pins s σ H x y v u Q I r1 r2 h
  obtain ⟨i, j, e1, e2, hc, q⟩ := h
  subst e1; subst e2
  obtain ⟨t, rfl⟩ := r1
  obtain ⟨t', rfl⟩ := r2
  refine PySem.AutoIntOps.imul_0 ?_ hc.ok
  exact ⟨.int _, H, I.tok _, ⟨_, rfl⟩, q⟩
theorem ip_fdivW : PIp X .FloorDiv (ipIC CDivW fun i j => i / j) := by
  intro pins s σ H x y v u Q I r1 r2 h
  obtain ⟨i, j, e1, e2, hc, q⟩ := h
  subst e1; subst e2
  obtain ⟨t, rfl⟩ := r1
  obtain ⟨t', rfl⟩ := r2
  have h1 : (0 : Int) < j := hc.1
  exact ifloordiv_int (by omega) (by rw [Int.fdiv_eq_ediv_of_nonneg i (by omega)]; exact ⟨.int _, H, I.tok _, ⟨_, rfl⟩, q⟩) (.inl (PyProof.noPylong_of_log2 hc.2))
end
mutual
/-- ints below 2 ^ B, truth values, None, and lists and tuples of these -/
def shP (B : Nat) : PyData → Prop
  | .int i => i.natAbs < 2 ^ B
  | .none => True
  | .bool _ => True
  | .list xs => shAll B xs
  | .tuple xs => shAll B xs
  | _ => False
def shAll (B : Nat) : List PyData → Prop
  | [] => True
  | x :: xs => shP B x ∧ shAll B xs
end
mutual
theorem sh_shown {B : Nat} (hB : 4 ≤ B) : ∀ d : PyData, shP B d → d.shown.length ≤ (B + 1) * nod d
  | .int i, h => by
    have h' : i.natAbs < 2 ^ B := h
    have e := int_text_length_le (a := i) (by omega) (PySem.Flt.log2_lt_of (by omega) h')
    show (Str.ofString (toString i)).length ≤ (B + 1) * 1
    rw [PySem.ofString_length, Nat.mul_one]
    exact e
  | .none, _ => by
    show (PyData.shown .none).length ≤ (B + 1) * 1
    rw [Nat.mul_one]
    exact Nat.le_trans (show (PyData.shown .none).length ≤ 5 by decide) (by omega)
  | .bool b, _ => by
    show (PyData.shown (.bool b)).length ≤ (B + 1) * 1
    rw [Nat.mul_one]
    exact Nat.le_trans (show (PyData.shown (.bool b)).length ≤ 5 by cases b <;> decide) (by omega)
  | .list xs, h => by
    have h1 := sh_shownAll hB xs h
    have h2 := listText_len_le (PyData.shownAll xs)
    have h3 := PyData.shownAll_length xs
    have e : (B + 1) * (nodAll xs + 3) = (B + 1) * nodAll xs + (B + 1) * 3 := Nat.mul_add ..
    show (listText (PyData.shownAll xs)).length ≤ (B + 1) * (nodAll xs + 3)
    omega
  | .tuple xs, h => by
    have h1 := sh_shownAll hB xs h
    have h2 := tupleText_len_le (PyData.shownAll xs)
    have h3 := PyData.shownAll_length xs
    have e : (B + 1) * (nodAll xs + 3) = (B + 1) * nodAll xs + (B + 1) * 3 := Nat.mul_add ..
    show (tupleText (PyData.shownAll xs)).length ≤ (B + 1) * (nodAll xs + 3)
    omega
  | .str _, h => h.elim
  | .dict _, h => h.elim
theorem sh_shownAll {B : Nat} (hB : 4 ≤ B) : ∀ xs : List PyData, shAll B xs → ((PyData.shownAll xs).map (·.length)).sum + 2 * xs.length ≤ (B + 1) * nodAll xs
  | [], _ => by simp [PyData.shownAll]
  | x :: xs, h => by
    have h1 := sh_shown hB x h.1
    have h2 := sh_shownAll hB xs h.2
    have e : (B + 1) * nodAll (x :: xs) = (B + 1) * nod x + (B + 1) * 2 + (B + 1) * nodAll xs := by
      show (B + 1) * (nod x + 2 + nodAll xs) = _
      rw [Nat.mul_add, Nat.mul_add]
    rw [e]
    simp only [PyData.shownAll, List.map_cons, List.sum_cons, List.length_cons]
    omega
end
mutual
theorem sh_show {B : Nat} (h2 : B ≤ 1900) (hB : 0 < B) : ∀ d : PyData, shP B d → d.showable = true ∧ d.hasDict = false
  | .int i, h => by
    have h' : i.natAbs < 2 ^ B := h
    exact ⟨decide_eq_true (Nat.lt_of_lt_of_le (PySem.Flt.log2_lt_of hB h') (by omega)), rfl⟩
  | .none, _ => ⟨rfl, rfl⟩
  | .bool _, _ => ⟨rfl, rfl⟩
  | .list xs, h => sh_showAll h2 hB xs h
  | .tuple xs, h => sh_showAll h2 hB xs h
  | .str _, h => h.elim
  | .dict _, h => h.elim
theorem sh_showAll {B : Nat} (h2 : B ≤ 1900) (hB : 0 < B) : ∀ xs : List PyData, shAll B xs → PyData.showableAll xs = true ∧ PyData.hasDictAll xs = false
  | [], _ => ⟨rfl, rfl⟩
  | x :: xs, h => by
    obtain ⟨a1, a2⟩ := sh_show h2 hB x h.1
    obtain ⟨b1, b2⟩ := sh_showAll h2 hB xs h.2
    exact ⟨by simp only [PyData.showableAll, a1, b1, Bool.and_self], by simp only [PyData.hasDictAll, a2, b2, Bool.or_self]⟩
end
/-- how repr writes a value: what it asks -/
structure Shows (d : PyData) : Prop where
  ex : ∃ B, shP B d ∧ 4 ≤ B ∧ B ≤ 1900 ∧ (B + 1) * nod d ≤ 16777216
  dp : d.depth ≤ 30
section
variable {X : Cx}
def rReprD (K : PySem.W.Frag) : List V → Hp → VK → Prop := fun vs H Q => ∃ (x : V) (d : PyData), vs = [x] ∧ Dp K H x d ∧ Shows d ∧ Q (.str d.shown) H
theorem cr_reprD {k : Nat} (hr : Room k X.A) (hg : X.A.guards = some []) : CallR X (.builtin "repr") (rReprD X.K) := by
  intro pins s σ H vs us Q I r h
  obtain ⟨x, d, rfl, hd, ⟨⟨B, hi, h0, hB, hn⟩, hdp⟩, q⟩ := h
  obtain ⟨s1, s2⟩ := sh_show hB (by omega) d hi
  cases r with
  | cons r1 rr =>
    cases rr
    cases hd with
    | non =>
      cases r1
      exact PySem.P.repr_of_none ⟨.str _, H, I.tok _, ⟨_, rfl⟩, q⟩
    | bl b =>
      cases (show _ = Value.bool b from r1)
      refine PySem.P.repr_of_bool ⟨.str _, H, I.tok _, ⟨_, rfl⟩, ?_⟩
      cases b <;> exact q
    | int i =>
      obtain ⟨t, rfl⟩ := r1
      have h' : i.natAbs < 2 ^ B := hi
      exact PySem.P.repr_of_int (Nat.lt_of_lt_of_le (PySem.Flt.log2_lt_of (by omega) h') (by omega)) ⟨.str _, H, I.tok _, ⟨_, rfl⟩, q⟩
    | str x => exact hi.elim
    | lst h1 h2 =>
      rename_i a xs ds
      cases (show _ = Value.ref a from r1)
      obtain ⟨as, R⟩ := Dp.reads I (.list ds) (.ref a) (.ref a) (.lst h1 h2) rfl
      refine repr_of_reads' R s1 (PyData.noDict_hsm s2) hg (by have := hr.un; omega) (fun b o e => e) (fun h' u tk hk => ⟨.str _, H, I.kept hk, ⟨u, rfl⟩, q⟩) ?_
      have := sh_shown h0 _ hi
      show (PyData.shown (.list ds)).length ≤ 16777216
      omega
    | tup h1 h2 =>
      rename_i a xs ds
      cases (show _ = Value.ref a from r1)
      obtain ⟨as, R⟩ := Dp.reads I (.tuple ds) (.ref a) (.ref a) (.tup h1 h2) rfl
      refine repr_of_reads' R s1 (PyData.noDict_hsm s2) hg (by have := hr.un; omega) (fun b o e => e) (fun h' u tk hk => ⟨.str _, H, I.kept hk, ⟨u, rfl⟩, q⟩) ?_
      have := sh_shown h0 _ hi
      show (PyData.shown (.tuple ds)).length ≤ 16777216
      omega
end
end Gx
end

section
set_option Elab.async false
set_option linter.all false
set_option maxRecDepth 100000
set_option maxHeartbeats 4000000
namespace K52
open PySem PySem.Spec PyProof.Rows L2 GxR Gx
def topS (i : Nat) : Stmt := PySem.Challenge.pw_topups_k52_pots_call_by_call.main.body.getD i (.Pass ⟨0, 0, 0, 0⟩)
abbrev s__wall : Stmt := topS 1
theorem sc__wall : FnScope ["k"] ["k"] (defScope s__wall) := ⟨rfl, rfl, rfl, by decide +kernel, rfl, by decide +kernel, by decide +kernel⟩
theorem bd__wall {K : PySem.W.Frag} : ∀ f fd, Fun K "_wall" "_wall" s__wall f fd → Binds K fd ["k"] [] := fun f fd F => F.binds fun _ _ _ _ _ _ us hl => match us, hl with | [_], _ => rfl
abbrev s_is_integer : Stmt := topS 16
theorem sc_is_integer : FnScope ["thing"] ["thing"] (defScope s_is_integer) := ⟨rfl, rfl, rfl, by decide +kernel, rfl, by decide +kernel, by decide +kernel⟩
theorem bd_is_integer {K : PySem.W.Frag} : ∀ f fd, Fun K "is_integer" "is_integer" s_is_integer f fd → Binds K fd ["thing"] [] := fun f fd F => F.binds fun _ _ _ _ _ _ us hl => match us, hl with | [_], _ => rfl
abbrev s_is_within : Stmt := topS 17
theorem sc_is_within : FnScope ["thing", "least", "most"] ["thing", "least", "most"] (defScope s_is_within) := ⟨rfl, rfl, rfl, by decide +kernel, rfl, by decide +kernel, by decide +kernel⟩
theorem bd_is_within {K : PySem.W.Frag} : ∀ f fd, Fun K "is_within" "is_within" s_is_within f fd → Binds K fd ["thing", "least", "most"] [] := fun f fd F => F.binds fun _ _ _ _ _ _ us hl => match us, hl with | [_, _, _], _ => rfl
abbrev s_is_pair_in_lowest_terms : Stmt := topS 18
theorem sc_is_pair_in_lowest_terms : FnScope ["thing", "one", "other"] ["thing"] (defScope s_is_pair_in_lowest_terms) := ⟨rfl, rfl, rfl, by decide +kernel, rfl, by decide +kernel, by decide +kernel⟩
theorem bd_is_pair_in_lowest_terms {K : PySem.W.Frag} : ∀ f fd, Fun K "is_pair_in_lowest_terms" "is_pair_in_lowest_terms" s_is_pair_in_lowest_terms f fd → Binds K fd ["thing"] [] := fun f fd F => F.binds fun _ _ _ _ _ _ us hl => match us, hl with | [_], _ => rfl
abbrev s_is_kept : Stmt := topS 19
theorem sc_is_kept : FnScope ["thing"] ["thing"] (defScope s_is_kept) := ⟨rfl, rfl, rfl, by decide +kernel, rfl, by decide +kernel, by decide +kernel⟩
theorem bd_is_kept {K : PySem.W.Frag} : ∀ f fd, Fun K "is_kept" "is_kept" s_is_kept f fd → Binds K fd ["thing"] [] := fun f fd F => F.binds fun _ _ _ _ _ _ us hl => match us, hl with | [_], _ => rfl
abbrev s_is_list_of_liquids : Stmt := topS 20
theorem sc_is_list_of_liquids : FnScope ["thing", "liquids"] ["thing", "liquids"] (defScope s_is_list_of_liquids) := ⟨rfl, rfl, rfl, by decide +kernel, rfl, by decide +kernel, by decide +kernel⟩
theorem bd_is_list_of_liquids {K : PySem.W.Frag} : ∀ f fd, Fun K "is_list_of_liquids" "is_list_of_liquids" s_is_list_of_liquids f fd → Binds K fd ["thing", "liquids"] [] := fun f fd F => F.binds fun _ _ _ _ _ _ us hl => match us, hl with | [_, _], _ => rfl
abbrev s_is_row : Stmt := topS 21
theorem sc_is_row : FnScope ["thing", "liquids"] ["thing", "liquids"] (defScope s_is_row) := ⟨rfl, rfl, rfl, by decide +kernel, rfl, by decide +kernel, by decide +kernel⟩
theorem bd_is_row {K : PySem.W.Frag} : ∀ f fd, Fun K "is_row" "is_row" s_is_row f fd → Binds K fd ["thing", "liquids"] [] := fun f fd F => F.binds fun _ _ _ _ _ _ us hl => match us, hl with | [_, _], _ => rfl
abbrev s_check_kept : Stmt := topS 22
theorem sc_check_kept : FnScope ["kept"] ["kept"] (defScope s_check_kept) := ⟨rfl, rfl, rfl, by decide +kernel, rfl, by decide +kernel, by decide +kernel⟩
theorem bd_check_kept {K : PySem.W.Frag} : ∀ f fd, Fun K "check_kept" "check_kept" s_check_kept f fd → Binds K fd ["kept"] [] := fun f fd F => F.binds fun _ _ _ _ _ _ us hl => match us, hl with | [_], _ => rfl
abbrev s_check_row : Stmt := topS 23
theorem sc_check_row : FnScope ["row", "liquids"] ["row", "liquids"] (defScope s_check_row) := ⟨rfl, rfl, rfl, by decide +kernel, rfl, by decide +kernel, by decide +kernel⟩
theorem bd_check_row {K : PySem.W.Frag} : ∀ f fd, Fun K "check_row" "check_row" s_check_row f fd → Binds K fd ["row", "liquids"] [] := fun f fd F => F.binds fun _ _ _ _ _ _ us hl => match us, hl with | [_, _], _ => rfl
abbrev s_check_liquid : Stmt := topS 24
theorem sc_check_liquid : FnScope ["liquid", "liquids"] ["liquid", "liquids"] (defScope s_check_liquid) := ⟨rfl, rfl, rfl, by decide +kernel, rfl, by decide +kernel, by decide +kernel⟩
theorem bd_check_liquid {K : PySem.W.Frag} : ∀ f fd, Fun K "check_liquid" "check_liquid" s_check_liquid f fd → Binds K fd ["liquid", "liquids"] [] := fun f fd F => F.binds fun _ _ _ _ _ _ us hl => match us, hl with | [_, _], _ => rfl
abbrev s_check_number : Stmt := topS 25
theorem sc_check_number : FnScope ["number", "least", "most"] ["number", "least", "most"] (defScope s_check_number) := ⟨rfl, rfl, rfl, by decide +kernel, rfl, by decide +kernel, by decide +kernel⟩
theorem bd_check_number {K : PySem.W.Frag} : ∀ f fd, Fun K "check_number" "check_number" s_check_number f fd → Binds K fd ["number", "least", "most"] [] := fun f fd F => F.binds fun _ _ _ _ _ _ us hl => match us, hl with | [_, _, _], _ => rfl
abbrev s_check_index : Stmt := topS 26
theorem sc_check_index : FnScope ["index", "most"] ["index", "most"] (defScope s_check_index) := ⟨rfl, rfl, rfl, by decide +kernel, rfl, by decide +kernel, by decide +kernel⟩
theorem bd_check_index {K : PySem.W.Frag} : ∀ f fd, Fun K "check_index" "check_index" s_check_index f fd → Binds K fd ["index", "most"] [] := fun f fd F => F.binds fun _ _ _ _ _ _ us hl => match us, hl with | [_, _], _ => rfl
abbrev s_lowest_terms : Stmt := topS 27
theorem sc_lowest_terms : FnScope ["top", "bottom", "divisor"] ["top", "bottom"] (defScope s_lowest_terms) := ⟨rfl, rfl, rfl, by decide +kernel, rfl, by decide +kernel, by decide +kernel⟩
theorem bd_lowest_terms {K : PySem.W.Frag} : ∀ f fd, Fun K "lowest_terms" "lowest_terms" s_lowest_terms f fd → Binds K fd ["top", "bottom"] [] := fun f fd F => F.binds fun _ _ _ _ _ _ us hl => match us, hl with | [_, _], _ => rfl
abbrev s_common_divisor : Stmt := topS 28
theorem sc_common_divisor : FnScope ["numbers", "divisor", "number"] ["numbers"] (defScope s_common_divisor) := ⟨rfl, rfl, rfl, by decide +kernel, rfl, by decide +kernel, by decide +kernel⟩
theorem bd_common_divisor {K : PySem.W.Frag} : ∀ f fd, Fun K "common_divisor" "common_divisor" s_common_divisor f fd → Binds K fd ["numbers"] [] := fun f fd F => F.binds fun _ _ _ _ _ _ us hl => match us, hl with | [_], _ => rfl
abbrev s_without_divisor : Stmt := topS 29
theorem sc_without_divisor : FnScope ["numbers", "divisor", "number"] ["numbers"] (defScope s_without_divisor) := ⟨rfl, rfl, rfl, by decide +kernel, rfl, by decide +kernel, by decide +kernel⟩
theorem bd_without_divisor {K : PySem.W.Frag} : ∀ f fd, Fun K "without_divisor" "without_divisor" s_without_divisor f fd → Binds K fd ["numbers"] [] := fun f fd F => F.binds fun _ _ _ _ _ _ us hl => match us, hl with | [_], _ => rfl
abbrev s_is_content : Stmt := topS 31
theorem sc_is_content : FnScope ["thing"] ["thing"] (defScope s_is_content) := ⟨rfl, rfl, rfl, by decide +kernel, rfl, by decide +kernel, by decide +kernel⟩
theorem bd_is_content {K : PySem.W.Frag} : ∀ f fd, Fun K "is_content" "is_content" s_is_content f fd → Binds K fd ["thing"] [] := fun f fd F => F.binds fun _ _ _ _ _ _ us hl => match us, hl with | [_], _ => rfl
abbrev s_pure_content : Stmt := topS 32
theorem sc_pure_content : FnScope ["count", "liquid", "content"] ["count", "liquid"] (defScope s_pure_content) := ⟨rfl, rfl, rfl, by decide +kernel, rfl, by decide +kernel, by decide +kernel⟩
theorem bd_pure_content {K : PySem.W.Frag} : ∀ f fd, Fun K "pure_content" "pure_content" s_pure_content f fd → Binds K fd ["count", "liquid"] [] := fun f fd F => F.binds fun _ _ _ _ _ _ us hl => match us, hl with | [_, _], _ => rfl
abbrev s_is_list_of_amounts : Stmt := topS 33
theorem sc_is_list_of_amounts : FnScope ["thing"] ["thing"] (defScope s_is_list_of_amounts) := ⟨rfl, rfl, rfl, by decide +kernel, rfl, by decide +kernel, by decide +kernel⟩
theorem bd_is_list_of_amounts {K : PySem.W.Frag} : ∀ f fd, Fun K "is_list_of_amounts" "is_list_of_amounts" s_is_list_of_amounts f fd → Binds K fd ["thing"] [] := fun f fd F => F.binds fun _ _ _ _ _ _ us hl => match us, hl with | [_], _ => rfl
abbrev s_check_content : Stmt := topS 34
theorem sc_check_content : FnScope ["content"] ["content"] (defScope s_check_content) := ⟨rfl, rfl, rfl, by decide +kernel, rfl, by decide +kernel, by decide +kernel⟩
theorem bd_check_content {K : PySem.W.Frag} : ∀ f fd, Fun K "check_content" "check_content" s_check_content f fd → Binds K fd ["content"] [] := fun f fd F => F.binds fun _ _ _ _ _ _ us hl => match us, hl with | [_], _ => rfl
abbrev s_strength_of : Stmt := topS 36
theorem sc_strength_of : FnScope ["content", "strengths", "top"] ["content", "strengths"] (defScope s_strength_of) := ⟨rfl, rfl, rfl, by decide +kernel, rfl, by decide +kernel, by decide +kernel⟩
theorem bd_strength_of {K : PySem.W.Frag} : ∀ f fd, Fun K "strength_of" "strength_of" s_strength_of f fd → Binds K fd ["content", "strengths"] [] := fun f fd F => F.binds fun _ _ _ _ _ _ us hl => match us, hl with | [_, _], _ => rfl
abbrev s_check_strengths : Stmt := topS 37
theorem sc_check_strengths : FnScope ["strengths"] ["strengths"] (defScope s_check_strengths) := ⟨rfl, rfl, rfl, by decide +kernel, rfl, by decide +kernel, by decide +kernel⟩
theorem bd_check_strengths {K : PySem.W.Frag} : ∀ f fd, Fun K "check_strengths" "check_strengths" s_check_strengths f fd → Binds K fd ["strengths"] [] := fun f fd F => F.binds fun _ _ _ _ _ _ us hl => match us, hl with | [_], _ => rfl
abbrev s_is_list_of_strengths : Stmt := topS 38
theorem sc_is_list_of_strengths : FnScope ["thing"] ["thing"] (defScope s_is_list_of_strengths) := ⟨rfl, rfl, rfl, by decide +kernel, rfl, by decide +kernel, by decide +kernel⟩
theorem bd_is_list_of_strengths {K : PySem.W.Frag} : ∀ f fd, Fun K "is_list_of_strengths" "is_list_of_strengths" s_is_list_of_strengths f fd → Binds K fd ["thing"] [] := fun f fd F => F.binds fun _ _ _ _ _ _ us hl => match us, hl with | [_], _ => rfl
abbrev s_content_behind : Stmt := topS 40
theorem sc_content_behind : FnScope ["content", "kept", "liquid", "stays", "whole", "mixture", "amount"] ["content", "kept", "liquid"] (defScope s_content_behind) := ⟨rfl, rfl, rfl, by decide +kernel, rfl, by decide +kernel, by decide +kernel⟩
theorem bd_content_behind {K : PySem.W.Frag} : ∀ f fd, Fun K "content_behind" "content_behind" s_content_behind f fd → Binds K fd ["content", "kept", "liquid"] [] := fun f fd F => F.binds fun _ _ _ _ _ _ us hl => match us, hl with | [_, _, _], _ => rfl
abbrev s_contents_by : Stmt := topS 41
theorem sc_contents_by : FnScope ["content", "keeps", "row", "contents", "kept", "liquid"] ["content", "keeps", "row"] (defScope s_contents_by) := ⟨rfl, rfl, rfl, by decide +kernel, rfl, by decide +kernel, by decide +kernel⟩
theorem bd_contents_by {K : PySem.W.Frag} : ∀ f fd, Fun K "contents_by" "contents_by" s_contents_by f fd → Binds K fd ["content", "keeps", "row"] [] := fun f fd F => F.binds fun _ _ _ _ _ _ us hl => match us, hl with | [_, _, _], _ => rfl
abbrev s_Pot___init__ : Stmt := inClass (topS 43) 0
theorem sc_Pot___init__ : FnScope ["self", "count", "start", "kept"] ["self", "count", "start", "kept"] (defScope s_Pot___init__) := ⟨rfl, rfl, rfl, by decide +kernel, rfl, by decide +kernel, by decide +kernel⟩
theorem bd_Pot___init__ {K : PySem.W.Frag} : ∀ f fd, Fun K "__init__" "Pot.__init__" s_Pot___init__ f fd → Binds K fd ["self", "count", "start", "kept"] [] := fun f fd F => F.binds fun _ _ _ _ _ _ us hl => match us, hl with | [_, _, _, _], _ => rfl
abbrev s_Pot_liquids : Stmt := inClass (topS 43) 1
theorem sc_Pot_liquids : FnScope ["self"] ["self"] (defScope s_Pot_liquids) := ⟨rfl, rfl, rfl, by decide +kernel, rfl, by decide +kernel, by decide +kernel⟩
theorem bd_Pot_liquids {K : PySem.W.Frag} : ∀ f fd, Fun K "liquids" "Pot.liquids" s_Pot_liquids f fd → Binds K fd ["self"] [] := fun f fd F => F.binds fun _ _ _ _ _ _ us hl => match us, hl with | [_], _ => rfl
abbrev s_Pot_start : Stmt := inClass (topS 43) 2
theorem sc_Pot_start : FnScope ["self"] ["self"] (defScope s_Pot_start) := ⟨rfl, rfl, rfl, by decide +kernel, rfl, by decide +kernel, by decide +kernel⟩
theorem bd_Pot_start {K : PySem.W.Frag} : ∀ f fd, Fun K "start" "Pot.start" s_Pot_start f fd → Binds K fd ["self"] [] := fun f fd F => F.binds fun _ _ _ _ _ _ us hl => match us, hl with | [_], _ => rfl
abbrev s_Pot_kept : Stmt := inClass (topS 43) 3
theorem sc_Pot_kept : FnScope ["self"] ["self"] (defScope s_Pot_kept) := ⟨rfl, rfl, rfl, by decide +kernel, rfl, by decide +kernel, by decide +kernel⟩
theorem bd_Pot_kept {K : PySem.W.Frag} : ∀ f fd, Fun K "kept" "Pot.kept" s_Pot_kept f fd → Binds K fd ["self"] [] := fun f fd F => F.binds fun _ _ _ _ _ _ us hl => match us, hl with | [_], _ => rfl
abbrev s_Pot_content : Stmt := inClass (topS 43) 4
theorem sc_Pot_content : FnScope ["self"] ["self"] (defScope s_Pot_content) := ⟨rfl, rfl, rfl, by decide +kernel, rfl, by decide +kernel, by decide +kernel⟩
theorem bd_Pot_content {K : PySem.W.Frag} : ∀ f fd, Fun K "content" "Pot.content" s_Pot_content f fd → Binds K fd ["self"] [] := fun f fd F => F.binds fun _ _ _ _ _ _ us hl => match us, hl with | [_], _ => rfl
abbrev s_Pot_past : Stmt := inClass (topS 43) 5
theorem sc_Pot_past : FnScope ["self"] ["self"] (defScope s_Pot_past) := ⟨rfl, rfl, rfl, by decide +kernel, rfl, by decide +kernel, by decide +kernel⟩
theorem bd_Pot_past {K : PySem.W.Frag} : ∀ f fd, Fun K "past" "Pot.past" s_Pot_past f fd → Binds K fd ["self"] [] := fun f fd F => F.binds fun _ _ _ _ _ _ us hl => match us, hl with | [_], _ => rfl
abbrev s_Pot_top_up : Stmt := inClass (topS 43) 6
theorem sc_Pot_top_up : FnScope ["self", "liquid"] ["self", "liquid"] (defScope s_Pot_top_up) := ⟨rfl, rfl, rfl, by decide +kernel, rfl, by decide +kernel, by decide +kernel⟩
theorem bd_Pot_top_up {K : PySem.W.Frag} : ∀ f fd, Fun K "top_up" "Pot.top_up" s_Pot_top_up f fd → Binds K fd ["self", "liquid"] [] := fun f fd F => F.binds fun _ _ _ _ _ _ us hl => match us, hl with | [_, _], _ => rfl
abbrev s_Pot_pour : Stmt := inClass (topS 43) 7
theorem sc_Pot_pour : FnScope ["self", "row"] ["self", "row"] (defScope s_Pot_pour) := ⟨rfl, rfl, rfl, by decide +kernel, rfl, by decide +kernel, by decide +kernel⟩
theorem bd_Pot_pour {K : PySem.W.Frag} : ∀ f fd, Fun K "pour" "Pot.pour" s_Pot_pour f fd → Binds K fd ["self", "row"] [] := fun f fd F => F.binds fun _ _ _ _ _ _ us hl => match us, hl with | [_, _], _ => rfl
abbrev s_Pot_keep : Stmt := inClass (topS 43) 8
theorem sc_Pot_keep : FnScope ["self", "kept"] ["self", "kept"] (defScope s_Pot_keep) := ⟨rfl, rfl, rfl, by decide +kernel, rfl, by decide +kernel, by decide +kernel⟩
theorem bd_Pot_keep {K : PySem.W.Frag} : ∀ f fd, Fun K "keep" "Pot.keep" s_Pot_keep f fd → Binds K fd ["self", "kept"] [] := fun f fd F => F.binds fun _ _ _ _ _ _ us hl => match us, hl with | [_, _], _ => rfl
abbrev s_Pot_undo : Stmt := inClass (topS 43) 9
theorem sc_Pot_undo : FnScope ["self"] ["self"] (defScope s_Pot_undo) := ⟨rfl, rfl, rfl, by decide +kernel, rfl, by decide +kernel, by decide +kernel⟩
theorem bd_Pot_undo {K : PySem.W.Frag} : ∀ f fd, Fun K "undo" "Pot.undo" s_Pot_undo f fd → Binds K fd ["self"] [] := fun f fd F => F.binds fun _ _ _ _ _ _ us hl => match us, hl with | [_], _ => rfl
abbrev s_Pot_mark : Stmt := inClass (topS 43) 10
theorem sc_Pot_mark : FnScope ["self"] ["self"] (defScope s_Pot_mark) := ⟨rfl, rfl, rfl, by decide +kernel, rfl, by decide +kernel, by decide +kernel⟩
theorem bd_Pot_mark {K : PySem.W.Frag} : ∀ f fd, Fun K "mark" "Pot.mark" s_Pot_mark f fd → Binds K fd ["self"] [] := fun f fd F => F.binds fun _ _ _ _ _ _ us hl => match us, hl with | [_], _ => rfl
abbrev s_Pot_undo_to : Stmt := inClass (topS 43) 11
theorem sc_Pot_undo_to : FnScope ["self", "index"] ["self", "index"] (defScope s_Pot_undo_to) := ⟨rfl, rfl, rfl, by decide +kernel, rfl, by decide +kernel, by decide +kernel⟩
theorem bd_Pot_undo_to {K : PySem.W.Frag} : ∀ f fd, Fun K "undo_to" "Pot.undo_to" s_Pot_undo_to f fd → Binds K fd ["self", "index"] [] := fun f fd F => F.binds fun _ _ _ _ _ _ us hl => match us, hl with | [_, _], _ => rfl
abbrev s_Pot_twin : Stmt := inClass (topS 43) 12
theorem sc_Pot_twin : FnScope ["self", "other"] ["self"] (defScope s_Pot_twin) := ⟨rfl, rfl, rfl, by decide +kernel, rfl, by decide +kernel, by decide +kernel⟩
theorem bd_Pot_twin {K : PySem.W.Frag} : ∀ f fd, Fun K "twin" "Pot.twin" s_Pot_twin f fd → Binds K fd ["self"] [] := fun f fd F => F.binds fun _ _ _ _ _ _ us hl => match us, hl with | [_], _ => rfl
abbrev s_Pot_histories : Stmt := inClass (topS 43) 13
theorem sc_Pot_histories : FnScope ["self"] ["self"] (defScope s_Pot_histories) := ⟨rfl, rfl, rfl, by decide +kernel, rfl, by decide +kernel, by decide +kernel⟩
theorem bd_Pot_histories {K : PySem.W.Frag} : ∀ f fd, Fun K "histories" "Pot.histories" s_Pot_histories f fd → Binds K fd ["self"] [] := fun f fd F => F.binds fun _ _ _ _ _ _ us hl => match us, hl with | [_], _ => rfl
abbrev s_Pot_strength : Stmt := inClass (topS 43) 14
theorem sc_Pot_strength : FnScope ["self", "strengths"] ["self", "strengths"] (defScope s_Pot_strength) := ⟨rfl, rfl, rfl, by decide +kernel, rfl, by decide +kernel, by decide +kernel⟩
theorem bd_Pot_strength {K : PySem.W.Frag} : ∀ f fd, Fun K "strength" "Pot.strength" s_Pot_strength f fd → Binds K fd ["self", "strengths"] [] := fun f fd F => F.binds fun _ _ _ _ _ _ us hl => match us, hl with | [_, _], _ => rfl
abbrev s_Pot___len__ : Stmt := inClass (topS 43) 15
theorem sc_Pot___len__ : FnScope ["self"] ["self"] (defScope s_Pot___len__) := ⟨rfl, rfl, rfl, by decide +kernel, rfl, by decide +kernel, by decide +kernel⟩
theorem bd_Pot___len__ {K : PySem.W.Frag} : ∀ f fd, Fun K "__len__" "Pot.__len__" s_Pot___len__ f fd → Binds K fd ["self"] [] := fun f fd F => F.binds fun _ _ _ _ _ _ us hl => match us, hl with | [_], _ => rfl
abbrev s_Pot__pour_all : Stmt := inClass (topS 43) 16
theorem sc_Pot__pour_all : FnScope ["self", "row", "keeps", "content"] ["self", "row"] (defScope s_Pot__pour_all) := ⟨rfl, rfl, rfl, by decide +kernel, rfl, by decide +kernel, by decide +kernel⟩
theorem bd_Pot__pour_all {K : PySem.W.Frag} : ∀ f fd, Fun K "_pour_all" "Pot._pour_all" s_Pot__pour_all f fd → Binds K fd ["self", "row"] [] := fun f fd F => F.binds fun _ _ _ _ _ _ us hl => match us, hl with | [_, _], _ => rfl
abbrev s_Pot__go_on : Stmt := inClass (topS 43) 17
theorem sc_Pot__go_on : FnScope ["self", "kept", "content", "past"] ["self", "kept", "content", "past"] (defScope s_Pot__go_on) := ⟨rfl, rfl, rfl, by decide +kernel, rfl, by decide +kernel, by decide +kernel⟩
theorem bd_Pot__go_on {K : PySem.W.Frag} : ∀ f fd, Fun K "_go_on" "Pot._go_on" s_Pot__go_on f fd → Binds K fd ["self", "kept", "content", "past"] [] := fun f fd F => F.binds fun _ _ _ _ _ _ us hl => match us, hl with | [_, _, _, _], _ => rfl
abbrev s__law_bag : Stmt := topS 45
theorem sc__law_bag : FnScope ["script", "stir", "cell"] ["script"] (defScope s__law_bag) := ⟨rfl, rfl, rfl, by decide +kernel, rfl, by decide +kernel, by decide +kernel⟩
theorem bd__law_bag {K : PySem.W.Frag} : ∀ f fd, Fun K "_law_bag" "_law_bag" s__law_bag f fd → Binds K fd ["script"] [] := fun f fd F => F.binds fun _ _ _ _ _ _ us hl => match us, hl with | [_], _ => rfl
abbrev s__law_stirred : Stmt := topS 46
theorem sc__law_stirred : FnScope ["bag", "wide", "found", "k", "mixed"] ["bag", "wide"] (defScope s__law_stirred) := ⟨rfl, rfl, rfl, by decide +kernel, rfl, by decide +kernel, by decide +kernel⟩
theorem bd__law_stirred {K : PySem.W.Frag} : ∀ f fd, Fun K "_law_stirred" "_law_stirred" s__law_stirred f fd → Binds K fd ["bag", "wide"] [] := fun f fd F => F.binds fun _ _ _ _ _ _ us hl => match us, hl with | [_, _], _ => rfl
abbrev s__law_draw : Stmt := topS 47
theorem sc__law_draw : FnScope ["bag", "wide", "found"] ["bag", "wide"] (defScope s__law_draw) := ⟨rfl, rfl, rfl, by decide +kernel, rfl, by decide +kernel, by decide +kernel⟩
theorem bd__law_draw {K : PySem.W.Frag} : ∀ f fd, Fun K "_law_draw" "_law_draw" s__law_draw f fd → Binds K fd ["bag", "wide"] [] := fun f fd F => F.binds fun _ _ _ _ _ _ us hl => match us, hl with | [_, _], _ => rfl
abbrev s__law_alike : Stmt := topS 48
theorem sc__law_alike : FnScope ["found", "due", "k"] ["found", "due"] (defScope s__law_alike) := ⟨rfl, rfl, rfl, by decide +kernel, rfl, by decide +kernel, by decide +kernel⟩
theorem bd__law_alike {K : PySem.W.Frag} : ∀ f fd, Fun K "_law_alike" "_law_alike" s__law_alike f fd → Binds K fd ["found", "due"] [] := fun f fd F => F.binds fun _ _ _ _ _ _ us hl => match us, hl with | [_, _], _ => rfl
abbrev s__law_common : Stmt := topS 49
theorem sc__law_common : FnScope ["one", "two"] ["one", "two"] (defScope s__law_common) := ⟨rfl, rfl, rfl, by decide +kernel, rfl, by decide +kernel, by decide +kernel⟩
theorem bd__law_common {K : PySem.W.Frag} : ∀ f fd, Fun K "_law_common" "_law_common" s__law_common f fd → Binds K fd ["one", "two"] [] := fun f fd F => F.binds fun _ _ _ _ _ _ us hl => match us, hl with | [_, _], _ => rfl
abbrev s__law_simple : Stmt := topS 50
theorem sc__law_simple : FnScope ["top", "bottom", "found"] ["top", "bottom"] (defScope s__law_simple) := ⟨rfl, rfl, rfl, by decide +kernel, rfl, by decide +kernel, by decide +kernel⟩
theorem bd__law_simple {K : PySem.W.Frag} : ∀ f fd, Fun K "_law_simple" "_law_simple" s__law_simple f fd → Binds K fd ["top", "bottom"] [] := fun f fd F => F.binds fun _ _ _ _ _ _ us hl => match us, hl with | [_, _], _ => rfl
abbrev s__law_held : Stmt := topS 51
theorem sc__law_held : FnScope ["bag", "most", "b", "one"] ["bag", "most"] (defScope s__law_held) := ⟨rfl, rfl, rfl, by decide +kernel, rfl, by decide +kernel, by decide +kernel⟩
theorem bd__law_held {K : PySem.W.Frag} : ∀ f fd, Fun K "_law_held" "_law_held" s__law_held f fd → Binds K fd ["bag", "most"] [] := fun f fd F => F.binds fun _ _ _ _ _ _ us hl => match us, hl with | [_, _], _ => rfl
abbrev s__law_point : Stmt := topS 52
theorem sc__law_point : FnScope ["bag", "most", "bottom"] ["bag", "most"] (defScope s__law_point) := ⟨rfl, rfl, rfl, by decide +kernel, rfl, by decide +kernel, by decide +kernel⟩
theorem bd__law_point {K : PySem.W.Frag} : ∀ f fd, Fun K "_law_point" "_law_point" s__law_point f fd → Binds K fd ["bag", "most"] [] := fun f fd F => F.binds fun _ _ _ _ _ _ us hl => match us, hl with | [_, _], _ => rfl
abbrev s__law_reduced : Stmt := topS 53
theorem sc__law_reduced : FnScope ["some", "found", "one"] ["some"] (defScope s__law_reduced) := ⟨rfl, rfl, rfl, by decide +kernel, rfl, by decide +kernel, by decide +kernel⟩
theorem bd__law_reduced {K : PySem.W.Frag} : ∀ f fd, Fun K "_law_reduced" "_law_reduced" s__law_reduced f fd → Binds K fd ["some"] [] := fun f fd F => F.binds fun _ _ _ _ _ _ us hl => match us, hl with | [_], _ => rfl
abbrev s__law_drawn : Stmt := topS 54
theorem sc__law_drawn : FnScope ["bag", "many", "far", "some", "k"] ["bag", "many", "far"] (defScope s__law_drawn) := ⟨rfl, rfl, rfl, by decide +kernel, rfl, by decide +kernel, by decide +kernel⟩
theorem bd__law_drawn {K : PySem.W.Frag} : ∀ f fd, Fun K "_law_drawn" "_law_drawn" s__law_drawn f fd → Binds K fd ["bag", "many", "far"] [] := fun f fd F => F.binds fun _ _ _ _ _ _ us hl => match us, hl with | [_, _, _], _ => rfl
abbrev s__law_behind : Stmt := topS 55
theorem sc__law_behind : FnScope ["some", "held", "k", "a", "b", "found", "one"] ["some", "held", "k"] (defScope s__law_behind) := ⟨rfl, rfl, rfl, by decide +kernel, rfl, by decide +kernel, by decide +kernel⟩
theorem bd__law_behind {K : PySem.W.Frag} : ∀ f fd, Fun K "_law_behind" "_law_behind" s__law_behind f fd → Binds K fd ["some", "held", "k"] [] := fun f fd F => F.binds fun _ _ _ _ _ _ us hl => match us, hl with | [_, _, _], _ => rfl
abbrev s__law_same : Stmt := topS 56
theorem sc__law_same : FnScope ["bag", "pot", "states", "held", "some", "past", "told", "many", "powers", "used", "due", "found", "one", "two"] ["bag", "pot", "states"] (defScope s__law_same) := ⟨rfl, rfl, rfl, by decide +kernel, rfl, by decide +kernel, by decide +kernel⟩
theorem bd__law_same {K : PySem.W.Frag} : ∀ f fd, Fun K "_law_same" "_law_same" s__law_same f fd → Binds K fd ["bag", "pot", "states"] [] := fun f fd F => F.binds fun _ _ _ _ _ _ us hl => match us, hl with | [_, _, _], _ => rfl
abbrev s__law_undone : Stmt := topS 57
theorem sc__law_undone : FnScope ["pot"] ["pot"] (defScope s__law_undone) := ⟨rfl, rfl, rfl, by decide +kernel, rfl, by decide +kernel, by decide +kernel⟩
theorem bd__law_undone {K : PySem.W.Frag} : ∀ f fd, Fun K "_law_undone" "_law_undone" s__law_undone f fd → Binds K fd ["pot"] [] := fun f fd F => F.binds fun _ _ _ _ _ _ us hl => match us, hl with | [_], _ => rfl
abbrev s__law_step : Stmt := topS 58
theorem sc__law_step : FnScope ["bag", "pot", "states", "many", "held", "some", "past", "way", "k", "rest", "used", "other", "left"] ["bag", "pot", "states", "many"] (defScope s__law_step) := ⟨rfl, rfl, rfl, by decide +kernel, rfl, by decide +kernel, by decide +kernel⟩
theorem bd__law_step {K : PySem.W.Frag} : ∀ f fd, Fun K "_law_step" "_law_step" s__law_step f fd → Binds K fd ["bag", "pot", "states", "many"] [] := fun f fd F => F.binds fun _ _ _ _ _ _ us hl => match us, hl with | [_, _, _, _], _ => rfl
abbrev s_law : Stmt := topS 59
theorem sc_law : FnScope ["script", "bag", "turn", "many", "held", "first", "pot", "k", "states", "other", "before"] ["script"] (defScope s_law) := ⟨rfl, rfl, rfl, by decide +kernel, rfl, by decide +kernel, by decide +kernel⟩
theorem bd_law {K : PySem.W.Frag} : ∀ f fd, Fun K "law" "law" s_law f fd → Binds K fd ["script"] [] := fun f fd F => F.binds fun _ _ _ _ _ _ us hl => match us, hl with | [_], _ => rfl
end K52
end

section
set_option linter.all false
set_option maxHeartbeats 1000000
/-! The mathematics of contents: common divisors, contents without one, top-ups. -/
namespace Ma
def gcdF (d : Nat) (ns : List Int) : Nat := ns.foldl (fun d n => Nat.gcd d n.natAbs) d
def gcdN (ns : List Int) : Nat := gcdF 0 ns
theorem dvd_gcdF {e : Nat} : ∀ (ns : List Int) (d : Nat), e ∣ gcdF d ns ↔ e ∣ d ∧ ∀ n ∈ ns, e ∣ n.natAbs
  | [], d => by simp [gcdF]
  | n :: r, d => by
    have h := dvd_gcdF (e := e) r (Nat.gcd d n.natAbs)
    show e ∣ gcdF (Nat.gcd d n.natAbs) r ↔ _
    rw [h, Nat.dvd_gcd_iff]
    constructor
    · rintro ⟨⟨a, b⟩, c⟩
      refine ⟨a, fun m hm => ?_⟩
      rcases List.mem_cons.mp hm with z | z
      · rw [z]; exact b
      · exact c m z
    · rintro ⟨a, b⟩
      exact ⟨⟨a, b n List.mem_cons_self⟩, fun m hm => b m (List.mem_cons_of_mem _ hm)⟩
theorem dvd_gcdN {e : Nat} {ns : List Int} : e ∣ gcdN ns ↔ ∀ n ∈ ns, e ∣ n.natAbs := by
  unfold gcdN
  rw [dvd_gcdF]
  exact ⟨fun h => h.2, fun h => ⟨Nat.dvd_zero e, h⟩⟩
theorem gcdF_take {ns : List Int} {i : Nat} {n : Int} (d : Nat) (h : ns[i]? = some n) : gcdF d (ns.take (i + 1)) = Nat.gcd (gcdF d (ns.take i)) n.natAbs := by
  rw [List.take_add_one, h]
  unfold gcdF
  rw [List.foldl_append]
  rfl
theorem gcdN_take {ns : List Int} {i : Nat} {n : Int} (h : ns[i]? = some n) : gcdN (ns.take (i + 1)) = Nat.gcd (gcdN (ns.take i)) n.natAbs := gcdF_take 0 h
theorem gcdN_dvd {ns : List Int} {n : Int} (h : n ∈ ns) : ((gcdN ns : Nat) : Int) ∣ n := by
  have := (dvd_gcdN (e := gcdN ns) (ns := ns)).mp (Nat.dvd_refl _) n h
  exact Int.ofNat_dvd_left.mpr this
/-- numbers from 0 on, not all 0 -/
structure Amt (ns : List Int) : Prop where
  nn : ∀ n ∈ ns, 0 ≤ n
  pos : 0 < ns.sum
structure Con (ns : List Int) : Prop where
  len : 0 < ns.length
  le8 : ns.length ≤ 8
  nn : ∀ n ∈ ns, 0 ≤ n
  g : gcdN ns = 1
theorem sum_nn : ∀ {ns : List Int}, (∀ n ∈ ns, 0 ≤ n) → 0 ≤ ns.sum
  | [], _ => by simp
  | n :: r, h => by
    rw [List.sum_cons]
    have h1 := h n List.mem_cons_self
    have h2 := sum_nn (ns := r) fun m hm => h m (List.mem_cons_of_mem _ hm)
    omega
theorem le_sum : ∀ {ns : List Int} {n : Int}, (∀ n ∈ ns, 0 ≤ n) → n ∈ ns → n ≤ ns.sum
  | [], _, _, h => by cases h
  | m :: r, n, h, hm => by
    rw [List.sum_cons]
    have h1 := h m List.mem_cons_self
    have hr : ∀ n ∈ r, 0 ≤ n := fun m hm => h m (List.mem_cons_of_mem _ hm)
    have h2 := sum_nn hr
    rcases List.mem_cons.mp hm with z | z
    · rw [z]; omega
    · have := le_sum hr z
      omega
theorem sum_zero {ns : List Int} (h : ∀ n ∈ ns, 0 ≤ n) (hs : ns.sum = 0) : ∀ n ∈ ns, n = 0 := fun n hn => by
  have := le_sum h hn
  have := h n hn
  omega
theorem gcdN_pos {ns : List Int} (h : Amt ns) : 0 < gcdN ns := by
  rcases Nat.eq_zero_or_pos (gcdN ns) with z | z
  · exfalso
    have h0 : ∀ n ∈ ns, n = 0 := fun n hn => by
      have := gcdN_dvd hn
      rw [z] at this
      exact Int.zero_dvd.mp this
    have : ns.sum = 0 := by
      clear h z
      induction ns with
      | nil => rfl
      | cons m r ih =>
        rw [List.sum_cons, h0 m List.mem_cons_self, ih fun n hn => h0 n (List.mem_cons_of_mem _ hn)]
        rfl
    have := h.pos
    omega
  · exact z
theorem Con.amt {ns : List Int} (h : Con ns) : Amt ns := by
  refine ⟨h.nn, ?_⟩
  have h1 := sum_nn h.nn
  by_cases z : ns.sum = 0
  · exfalso
    have h0 := sum_zero h.nn z
    have : 2 ∣ gcdN ns := dvd_gcdN.mpr fun n hn => by rw [h0 n hn]; exact ⟨0, rfl⟩
    rw [h.g] at this
    omega
  · omega
def plain (ns : List Int) : List Int := ns.map fun n => n / ((gcdN ns : Nat) : Int)
theorem plain_len (ns : List Int) : (plain ns).length = ns.length := List.length_map _
theorem plain_mul {ns : List Int} {n : Int} (h : n ∈ ns) : n / ((gcdN ns : Nat) : Int) * ((gcdN ns : Nat) : Int) = n := Int.ediv_mul_cancel (gcdN_dvd h)
theorem sum_div {g : Int} (hg : 0 < g) : ∀ {ns : List Int}, (∀ n ∈ ns, g ∣ n) → (ns.map fun n => n / g).sum * g = ns.sum
  | [], _ => by simp
  | n :: r, h => by
    rw [List.map_cons, List.sum_cons, List.sum_cons, Int.add_mul, sum_div hg (ns := r) fun m hm => h m (List.mem_cons_of_mem _ hm), Int.ediv_mul_cancel (h n List.mem_cons_self)]
theorem plain_sum {ns : List Int} (h : Amt ns) : (plain ns).sum * ((gcdN ns : Nat) : Int) = ns.sum := sum_div (by have := gcdN_pos h; omega) fun n hn => gcdN_dvd hn
theorem plain_con {ns : List Int} (h : Amt ns) (h1 : 0 < ns.length) (h8 : ns.length ≤ 8) : Con (plain ns) := by
  have hg := gcdN_pos h
  refine ⟨by rw [plain_len]; exact h1, by rw [plain_len]; exact h8, fun n hn => ?_, ?_⟩
  · obtain ⟨m, hm, e⟩ := List.mem_map.mp hn
    rw [← e]
    exact Int.ediv_nonneg (h.nn m hm) (Int.natCast_nonneg _)
  · have key : gcdN (plain ns) * gcdN ns ∣ gcdN ns := dvd_gcdN.mpr fun n hn => by
      have h2 : gcdN (plain ns) ∣ (n / ((gcdN ns : Nat) : Int)).natAbs := dvd_gcdN.mp (Nat.dvd_refl _) _ (List.mem_map.mpr ⟨n, hn, rfl⟩)
      have h3 := Nat.mul_dvd_mul_right h2 (gcdN ns)
      have h4 : (n / ((gcdN ns : Nat) : Int)).natAbs * gcdN ns = n.natAbs := by
        have := congrArg Int.natAbs (plain_mul hn)
        rw [Int.natAbs_mul, Int.natAbs_natCast] at this
        exact this
      rw [h4] at h3
      exact h3
    have h5 := Nat.le_of_dvd hg key
    have h6 : gcdN (plain ns) * gcdN ns ≤ 1 * gcdN ns := by omega
    have h7 := Nat.le_of_mul_le_mul_right h6 hg
    have h8 : gcdN (plain ns) ≠ 0 := fun z => by
      rw [z, Nat.zero_mul] at key
      have := Nat.eq_zero_of_zero_dvd key
      omega
    omega
theorem plain_sum_le {ns : List Int} (h : Amt ns) : (plain ns).sum ≤ ns.sum := by
  have e := plain_sum h
  have hg := gcdN_pos h
  have h1 : 0 ≤ (plain ns).sum := sum_nn fun n hn => by
    obtain ⟨m, hm, e⟩ := List.mem_map.mp hn
    rw [← e]
    exact Int.ediv_nonneg (h.nn m hm) (Int.natCast_nonneg _)
  have h2 : (plain ns).sum * 1 ≤ (plain ns).sum * ((gcdN ns : Nat) : Int) := Int.mul_le_mul_of_nonneg_left (by omega) h1
  omega
theorem plain_of_one {ns : List Int} (h : gcdN ns = 1) : plain ns = ns := by
  unfold plain
  rw [h]
  conv => rhs; rw [← List.map_id ns]
  exact List.map_congr_left fun n _ => by simp
/-! ### top-ups -/
structure Kep (a b : Int) : Prop where
  a1 : 1 ≤ a
  ab : a < b
  b100 : b ≤ 100
  g : Nat.gcd a.natAbs b.natAbs = 1
def pre (ns : List Int) (a b : Int) (c : Nat) : List Int := (ns.map fun n => n * a).set c ((ns.getD c 0) * a + (b - a) * ns.sum)
def step (ns : List Int) (a b : Int) (c : Nat) : List Int := plain (pre ns a b c)
theorem sum_map_mul (a : Int) : ∀ ns : List Int, (ns.map fun n => n * a).sum = ns.sum * a
  | [] => by simp
  | n :: r => by rw [List.map_cons, List.sum_cons, List.sum_cons, sum_map_mul a r, Int.add_mul]
theorem sum_set (v : Int) : ∀ (ns : List Int) (c : Nat), c < ns.length → (ns.set c v).sum = ns.sum - ns.getD c 0 + v
  | [], c, h => by simp at h
  | n :: r, 0, _ => by
    rw [List.set_cons_zero, List.sum_cons, List.sum_cons]
    show v + r.sum = n + r.sum - n + v
    omega
  | n :: r, c + 1, h => by
    rw [List.set_cons_succ, List.sum_cons, List.sum_cons, sum_set v r c (by simpa using h)]
    show n + (r.sum - r.getD c 0 + v) = n + r.sum - r.getD c 0 + v
    omega
theorem pre_len (ns : List Int) (a b : Int) (c : Nat) : (pre ns a b c).length = ns.length := by unfold pre; simp
theorem pre_sum {ns : List Int} {a b : Int} {c : Nat} (h : c < ns.length) : (pre ns a b c).sum = b * ns.sum := by
  unfold pre
  rw [sum_set _ _ _ (by simpa using h), sum_map_mul]
  have e : (ns.map fun n => n * a).getD c 0 = ns.getD c 0 * a := by
    rw [List.getD_eq_getElem?_getD, List.getD_eq_getElem?_getD, List.getElem?_map, List.getElem?_eq_getElem h]
    rfl
  rw [e, Int.sub_mul, Int.mul_comm ns.sum a]
  omega
theorem pre_nn {ns : List Int} {a b : Int} {c : Nat} (hn : ∀ n ∈ ns, 0 ≤ n) (ha : 0 ≤ a) (hb : a ≤ b) : ∀ n ∈ pre ns a b c, 0 ≤ n := fun n hm => by
  unfold pre at hm
  rcases List.mem_or_eq_of_mem_set hm with z | z
  · obtain ⟨m, h1, e⟩ := List.mem_map.mp z
    rw [← e]
    exact Int.mul_nonneg (hn m h1) ha
  · rw [z]
    have h1 : 0 ≤ ns.getD c 0 := by
      rw [List.getD_eq_getElem?_getD]
      cases q : ns[c]? with
      | none => exact Int.le_refl _
      | some m => exact hn m (List.mem_of_getElem? q)
    have h2 := Int.mul_nonneg h1 ha
    have h3 := Int.mul_nonneg (show 0 ≤ b - a by omega) (sum_nn hn)
    omega
theorem pre_amt {ns : List Int} {a b : Int} {c : Nat} (h : Con ns) (k : Kep a b) (hc : c < ns.length) : Amt (pre ns a b c) := by
  refine ⟨pre_nn h.nn (by have := k.a1; omega) (by have := k.ab; omega), ?_⟩
  rw [pre_sum hc]
  exact Int.mul_pos (by have := k.a1; have := k.ab; omega) h.amt.pos
theorem step_con {ns : List Int} {a b : Int} {c : Nat} (h : Con ns) (k : Kep a b) (hc : c < ns.length) : Con (step ns a b c) :=
  plain_con (pre_amt h k hc) (by rw [pre_len]; exact h.len) (by rw [pre_len]; exact h.le8)
theorem step_len (ns : List Int) (a b : Int) (c : Nat) : (step ns a b c).length = ns.length := by unfold step; rw [plain_len, pre_len]
theorem step_sum {ns : List Int} {a b : Int} {c : Nat} (h : Con ns) (k : Kep a b) (hc : c < ns.length) : (step ns a b c).sum ≤ 100 * ns.sum := by
  have h1 := plain_sum_le (pre_amt h k hc)
  rw [pre_sum hc] at h1
  have h2 : b * ns.sum ≤ 100 * ns.sum := Int.mul_le_mul_of_nonneg_right k.b100 (Int.le_of_lt h.amt.pos)
  have e : step ns a b c = plain (pre ns a b c) := rfl
  rw [e]
  omega
/-- the contents behind 0, 1 .. all top-ups -/
def walk (ns : List Int) (a b : Int) : List Nat → List (List Int)
  | [] => [ns]
  | c :: r => ns :: walk (step ns a b c) a b r
end Ma
end

section
set_option Elab.async false
set_option linter.all false
set_option maxRecDepth 100000
set_option maxHeartbeats 4000000
namespace K52
open PySem PySem.Spec PyProof.Rows L2 GxR Gx Ma
abbrev LI (H : Hp) (a : Addr) (ns : List Int) : Prop := H a = some (.lst (ns.map V.int))
structure Bl (mg : Str → Option Value) : Prop where
  abs : mg "abs" = none
  all : mg "all" = none
  bool : mg "bool" = none
  int : mg "int" = none
  isinstance : mg "isinstance" = none
  len : mg "len" = none
  list : mg "list" = none
  property : mg "property" = none
  range : mg "range" = none
  str : mg "str" = none
  sum : mg "sum" = none
  tuple : mg "tuple" = none
  type : mg "type" = none
  zip : mg "zip" = none
  MOST_LIQUIDS : ∃ t, mg "MOST_LIQUIDS" = some (.int 8 t)
  MOST_PARTS : ∃ t, mg "MOST_PARTS" = some (.int 100 t)
  MOST_TOP_UPS : ∃ t, mg "MOST_TOP_UPS" = some (.int 60 t)
  gcd : mg "gcd" = some (.builtin "math.gcd")
theorem same_new {H : Hp} {p : Addr} {o : HO} (h : H p = none) : Same H (upd H p o) := fun b x e => by
  rw [upd_ne (ne_of_none e h)]
  exact e
section
variable {P : Program} {w : World} {K : PySem.W.Frag} {mg : Str → Option Value} {base : Heap}

def sp_is_integer : Sp := fun vs H Q _ => ∃ i, vs = [V.int i] ∧ Q (.bl true) H

theorem ok_is_integer {f : Addr} {fd : FuncData}  (F : Fun K "is_integer" "is_integer" s_is_integer f fd) (B : Bl mg)  : FnOk P w K mg base CX0 1 f fd ["thing"] (sp_is_integer) := by
  refine F.ok sc_is_integer (fun vs H Q E h => ?_) (fun cdv A outer s H vs Q E hr h => ?_)
  · obtain ⟨i, rfl, _⟩ := h; rfl
  · obtain ⟨i, rfl, q⟩ := h
    have nd := sc_is_integer.nd
    refine ⟨_, (pss_one (ps_ret (pe_and (pe_callB call_isi (by rfl) B.isinstance (by decide +kernel) (pa_cons (pv 0) (pa_cons (pe_bltn (v := .ty "int") (by rfl) B.int (by decide +kernel) rfl) pa_nil))) (pe_one (pe_not (pe_callB call_isi (by rfl) B.isinstance (by decide +kernel) (pa_cons (pv 0) (pa_cons (pe_bltn (v := .ty "bool") (by rfl) B.bool (by decide +kernel) rfl) pa_nil)))))))), ?_⟩
    refine ⟨.int i, rfl, .int i, .ty "int", .type "int", .type "int", true, rfl, .ty _, .base (.int i), kit_ty (by decide +kernel), true, rfl, iteT ?_⟩
    exact ⟨.int i, rfl, .int i, .ty "bool", .type "int", .type "bool", false, rfl, .ty _, .base (.int i), kit_ty (by decide +kernel), false, rfl, q⟩

def sp_is_within : Sp := fun vs H Q _ => ∃ i lo hi, vs = [V.int i, V.int lo, V.int hi] ∧ lo ≤ i ∧ i ≤ hi ∧ Q (.bl true) H

theorem ok_is_within {f : Addr} {fd : FuncData}  (F : Fun K "is_within" "is_within" s_is_within f fd) (B : Bl mg) (C_is_integer : Cal P w K mg base 1 "is_integer" ["thing"] sp_is_integer) : FnOk P w K mg base CX0 2 f fd ["thing", "least", "most"] (sp_is_within) := by
  refine F.ok sc_is_within (fun vs H Q E h => ?_) (fun cdv A outer s H vs Q E hr h => ?_)
  · obtain ⟨i, lo, hi, rfl, _⟩ := h; rfl
  · obtain ⟨i, lo, hi, rfl, h1, h2, q⟩ := h
    have nd := sc_is_within.nd
    refine ⟨_, (pss_one (ps_ret (pe_and (pe_cal C_is_integer (hr.mono (by decide)) (pa_cons (pv 0) pa_nil)) (pe_one (pe_chain op_le op_le (pv 1) (pv 0) (pv 2)))))), ?_⟩
    refine ⟨.int i, rfl, i, rfl, true, rfl, iteT ?_⟩
    refine ⟨.int lo, rfl, .int i, rfl, lo, i, rfl, rfl, _, rfl, ?_⟩
    rw [decide_eq_true h1]
    refine iteT ⟨.int hi, rfl, i, hi, rfl, rfl, ?_⟩
    show Q (.bl (decide (i ≤ hi))) H
    rw [decide_eq_true h2]
    exact q

end
end K52
end

section
set_option Elab.async false
set_option linter.all false
set_option maxRecDepth 100000
set_option maxHeartbeats 4000000
namespace K52
open PySem PySem.Spec PyProof.Rows L2 GxR Gx Ma
section
variable {P : Program} {w : World} {K : PySem.W.Frag} {mg : Str → Option Value} {base : Heap}

def sp_is_pair : Sp := fun vs H Q _ => ∃ t a b, vs = [V.ref t] ∧ H t = some (.tup [.int a, .int b]) ∧ Nat.gcd a.natAbs b.natAbs = 1 ∧ Q (.bl true) H
def sp_is_kept : Sp := fun vs H Q _ => ∃ t a b, vs = [V.ref t] ∧ H t = some (.tup [.int a, .int b]) ∧ Kep a b ∧ Q (.bl true) H

theorem ok_is_pair_in_lowest_terms {f : Addr} {fd : FuncData}  (F : Fun K "is_pair_in_lowest_terms" "is_pair_in_lowest_terms" s_is_pair_in_lowest_terms f fd) (B : Bl mg) (C_is_integer : Cal P w K mg base 1 "is_integer" ["thing"] sp_is_integer) : FnOk P w K mg base CX0 2 f fd ["thing"] (sp_is_pair) := by
  refine F.ok sc_is_pair_in_lowest_terms (fun vs H Q E h => ?_) (fun cdv A outer s H vs Q E hr h => ?_)
  · obtain ⟨t, a, b, rfl, _⟩ := h; rfl
  · obtain ⟨t, a, b, rfl, ht, hg, q⟩ := h
    have nd := sc_is_pair_in_lowest_terms.nd
    refine ⟨_, (pss_cons (ps_if (PW.pt (pw_or (pt_cmpR op_neTy (pe_typeOf (by rfl) B.type (pv 0)) (pe_bltn (v := .ty "tuple") (by rfl) B.tuple (by decide +kernel) rfl) (nomark _)) (pw_or1 (pt_cmpR op_ne (pe_callB call_len_seq (by rfl) B.len PySem.boot_len (pa_cons (pv 0) pa_nil)) pe_int (nomark _)))))
      (pss_one (ps_ret pe_bl)) pss_nil)
      (pss_cons (ps_asg (pv 0) (pg_tup (by rfl) (pgs_cons (pg_name (i := 1) nd rfl (Or.inl rfl)) (pgs_cons (pg_name (i := 2) nd rfl (Or.inl rfl)) pgs_nil))))
      (pss_one (ps_ret (pe_and (pe_cal C_is_integer (hr.mono (by decide)) (pa_cons (pv 1) pa_nil)) (pe_and (pe_cal C_is_integer (hr.mono (by decide)) (pa_cons (pv 2) pa_nil)) (pe_one (pe_cmpR op_eq (pe_callBfun cr_gcd (by rfl) B.gcd (pa_cons (pv 1) (pa_cons (pv 2) pa_nil))) pe_int (nomark _))))))))), ?_⟩
    refine ⟨.ref t, rfl, "tuple", by simp only [zTyV, ht], "tuple", rfl, rfl, TypeEq.meta_tuple, false, rfl, iteF ?_⟩
    refine ⟨.ref t, rfl, t, _, rfl, .inr (SqT.of ht), rfl, _, rfl, iteNS rfl ?_⟩
    refine ⟨.ref t, rfl, t, [_, _], rfl, SqT.of ht, rfl, _, _, rfl, _, _, rfl, rfl, ?_⟩
    refine ⟨.int a, rfl, a, rfl, true, rfl, iteT ?_⟩
    refine ⟨.int b, rfl, b, rfl, true, rfl, iteT ?_⟩
    refine ⟨.int a, rfl, .int b, rfl, a, b, rfl, rfl, ?_⟩
    show Q (.bl (decide (V.int ((Nat.gcd a.natAbs b.natAbs : Nat) : Int) = V.int 1))) H
    rw [hg]
    exact q

theorem ok_is_kept {f : Addr} {fd : FuncData}  (F : Fun K "is_kept" "is_kept" s_is_kept f fd) (B : Bl mg) (C_is_pair_in_lowest_terms : Cal P w K mg base 2 "is_pair_in_lowest_terms" ["thing"] sp_is_pair) : FnOk P w K mg base CX0 3 f fd ["thing"] (sp_is_kept) := by
  refine F.ok sc_is_kept (fun vs H Q E h => ?_) (fun cdv A outer s H vs Q E hr h => ?_)
  · obtain ⟨t, a, b, rfl, _⟩ := h; rfl
  · obtain ⟨t, a, b, rfl, ht, k, q⟩ := h
    have nd := sc_is_kept.nd
    refine ⟨_, (pss_one (ps_ret (pe_and (pe_cal C_is_pair_in_lowest_terms (hr.mono (by decide)) (pa_cons (pv 0) pa_nil)) (pe_one (pe_chain3 op_le op_lt op_le pe_int (pe_ix ix_tup (pv 0) pe_int (fun _ _ => rfl)) (pe_ix ix_tup (pv 0) pe_int (fun _ _ => rfl)) (pe_gi B.MOST_PARTS)))))), ?_⟩
    refine ⟨.ref t, rfl, t, a, b, rfl, ht, k.g, true, rfl, iteT ?_⟩
    refine ⟨.ref t, rfl, t, _, 0, .int a, rfl, rfl, SqT.of ht, rfl, 1, a, rfl, rfl, _, rfl, ?_⟩
    rw [decide_eq_true k.a1]
    refine iteT ⟨.ref t, rfl, t, _, 1, .int b, rfl, rfl, SqT.of ht, rfl, a, b, rfl, rfl, _, rfl, ?_⟩
    rw [decide_eq_true k.ab]
    refine iteT ⟨b, 100, rfl, rfl, ?_⟩
    show Q (.bl (decide (b ≤ 100))) H
    rw [decide_eq_true k.b100]
    exact q

def sp_is_row (T : Addr) : Sp := fun vs H Q _ => ∃ l cs k, vs = [V.ref l, V.int k] ∧ LI H l cs ∧ cs.length ≤ 60 ∧ (∀ c ∈ cs, 0 ≤ c ∧ c ≤ k - 1) ∧ H T = some (TabO T) ∧ Q (.bl true) H
theorem map_get {ns : List Int} {i : Nat} {y : V} (h : (ns.map V.int)[i]? = some y) : ∃ n, ns[i]? = some n ∧ y = .int n := by
  rw [List.getElem?_map] at h
  cases e : ns[i]? with
  | none => rw [e] at h; cases h
  | some n => rw [e] at h; exact ⟨n, rfl, (Option.some.inj h).symm⟩
theorem get_map {ns : List Int} {i : Nat} {n : Int} (h : ns[i]? = some n) : (ns.map V.int)[i]? = some (.int n) := by
  rw [List.getElem?_map, h]; rfl
/-- all(..) over a list that stands still -/
theorem all_list {te : TE} {caps : L2.St} {Q : VK} {a : Addr} {xs : List V} {H : Hp} (hL : H a = some (.lst xs)) (h : ∀ (i : Nat) (y : V), xs[i]? = some y → ∀ R : VK, R (.bl true) H → te (some y :: caps) H R) (q : Q (.bl true) H) : rAllG te caps Q (Itl K a) H := by
  refine ⟨xs.length, fun _ H' => H' = H, rfl, fun H' e => ?_, fun i H' hi e => ?_⟩
  · subst e
    exact ⟨⟨xs, SqL.of hL, Nat.le_refl _⟩, q⟩
  · subst e
    refine ⟨⟨xs, xs[i], SqL.of hL, List.getElem?_eq_getElem hi⟩, fun y H2 hy => ?_⟩
    obtain ⟨e2, hy⟩ := hy
    subst e2
    exact h i y (hy xs (SqL.of hL)) _ ⟨true, rfl, iteT rfl⟩

def sp_is_list_of_liquids (T : Addr) : Sp := fun vs H Q _ => ∃ l cs k, vs = [V.ref l, V.int k] ∧ LI H l cs ∧ (∀ c ∈ cs, 0 ≤ c ∧ c ≤ k - 1) ∧ H T = some (TabO T) ∧ Q (.bl true) H
theorem ok_is_list_of_liquids {f : Addr} {fd : FuncData} {c : Addr} (F : FunC K "is_list_of_liquids" "is_list_of_liquids" s_is_list_of_liquids f fd c) (B : Bl mg) (C_is_within : Cal P w K mg base 2 "is_within" ["thing", "least", "most"] sp_is_within) {T : Addr} (TB_is_list_of_liquids : TabB base mg c T) : FnOk P w K mg base CX0 6 f fd ["thing", "liquids"] (sp_is_list_of_liquids T) := by
  refine F.ok sc_is_list_of_liquids (fun vs H Q E h => ?_) (fun A outer s H vs Q E hr h => ?_)
  · obtain ⟨l, cs, k, rfl, _⟩ := h; rfl
  · obtain ⟨l, cs, k, rfl, hl, hc, hT, q⟩ := h
    have hcode : (cxOf CX0 P w K mg base ["thing", "liquids"] "is_list_of_liquids" (defScope s_is_list_of_liquids) f (.ref c) A outer s H E).nox.env.code = .ref c := rfl
    have nd := sc_is_list_of_liquids.nd
    refine ⟨_, (pss_cons (ps_if (pt_cmpR op_neTy (pe_typeOf (by rfl) B.type (pv 0)) (pe_bltn (v := .ty "list") (by rfl) B.list (by decide +kernel) rfl) (nomark _))
      (pss_one (ps_ret pe_bl)) pss_nil)
      (pss_one (ps_ret (pe_allG (ns := [("liquids", 1)]) (k' := 2) (hr.mono (by decide)) (by rfl) B.all TB_is_list_of_liquids hcode (gok_by (N := ["thing", "liquids"]) (sc := defScope s_is_list_of_liquids) (by decide +kernel)) (by decide) (pi_list (pv 0)) (fun s H C code fp A hq => (pe_cal C_is_within (hq.mono (by decide)) (pa_cons (pv 0) (pa_cons pe_int (pa_cons (pe_op op_sub (pv 1) pe_int) pa_nil))))))))), ?_⟩
    refine ⟨.ref l, rfl, "list", by simp only [zTyV, hl], "list", rfl, rfl, TypeEq.meta_list, false, rfl, iteF ?_⟩
    refine ⟨.ref l, rfl, l, rfl, ⟨_, SqL.of hl⟩, hT, all_list hl (fun i y hy R r => ?_) q⟩
    obtain ⟨n, hn, rfl⟩ := map_get hy
    obtain ⟨h1, h2⟩ := hc n (List.mem_of_getElem? hn)
    exact ⟨.int n, rfl, .int k, rfl, k, 1, rfl, rfl, n, 0, k - 1, rfl, h1, h2, r⟩

theorem ok_is_row {f : Addr} {fd : FuncData}  (F : Fun K "is_row" "is_row" s_is_row f fd) (B : Bl mg) {T : Addr} (C_is_list_of_liquids : Cal P w K mg base 6 "is_list_of_liquids" ["thing", "liquids"] (sp_is_list_of_liquids T)) : FnOk P w K mg base CX0 7 f fd ["thing", "liquids"] (sp_is_row T) := by
  refine F.ok sc_is_row (fun vs H Q E h => ?_) (fun cdv A outer s H vs Q E hr h => ?_)
  · obtain ⟨l, cs, k, rfl, _⟩ := h; rfl
  · obtain ⟨l, cs, k, rfl, hl, h60, hc, hT, q⟩ := h
    have nd := sc_is_row.nd
    refine ⟨_, (pss_one (ps_ret (pe_and (pe_cal C_is_list_of_liquids (hr.mono (by decide)) (pa_cons (pv 0) (pa_cons (pv 1) pa_nil))) (pe_one (pe_cmpR op_le (pe_callB call_len_seq (by rfl) B.len PySem.boot_len (pa_cons (pv 0) pa_nil)) (pe_gi B.MOST_TOP_UPS) (nomark _)))))), ?_⟩
    refine ⟨.ref l, rfl, .int k, rfl, l, cs, k, rfl, hl, hc, hT, true, rfl, iteT ?_⟩
    refine ⟨.ref l, rfl, l, _, rfl, .inl (SqL.of hl), _, _, rfl, rfl, ?_⟩
    show Q (.bl (decide (((cs.map V.int).length : Int) ≤ 60))) H
    rw [decide_eq_true (by rw [List.length_map]; omega)]
    exact q

def sp_check_kept : Sp := fun vs H Q _ => ∃ t a b, vs = [V.ref t] ∧ H t = some (.tup [.int a, .int b]) ∧ Kep a b ∧ Q .non H
def sp_check_row (T : Addr) : Sp := fun vs H Q _ => ∃ l cs k, vs = [V.ref l, V.int k] ∧ LI H l cs ∧ cs.length ≤ 60 ∧ (∀ c ∈ cs, 0 ≤ c ∧ c ≤ k - 1) ∧ H T = some (TabO T) ∧ Q .non H
def sp_check_liquid : Sp := fun vs H Q _ => ∃ i k, vs = [V.int i, V.int k] ∧ 0 ≤ i ∧ i ≤ k - 1 ∧ Q .non H
def sp_check_number : Sp := fun vs H Q _ => ∃ i lo hi, vs = [V.int i, V.int lo, V.int hi] ∧ lo ≤ i ∧ i ≤ hi ∧ Q .non H

theorem ok_check_kept {f : Addr} {fd : FuncData}  (F : Fun K "check_kept" "check_kept" s_check_kept f fd) (B : Bl mg) (C_is_kept : Cal P w K mg base 3 "is_kept" ["thing"] sp_is_kept) : FnOk P w K mg base CX0 4 f fd ["kept"] (sp_check_kept) := by
  refine F.ok sc_check_kept (fun vs H Q E h => ?_) (fun cdv A outer s H vs Q E hr h => ?_)
  · obtain ⟨t, a, b, rfl, _⟩ := h; rfl
  · obtain ⟨t, a, b, rfl, ht, k, q⟩ := h
    have nd := sc_check_kept.nd
    refine ⟨_, (pss_one (ps_if (pt_not (pt_val (pe_cal C_is_kept (hr.mono (by decide)) (pa_cons (pv 0) pa_nil))))
      (pss_one ps_never) pss_nil)), ?_⟩
    exact ⟨.ref t, rfl, t, a, b, rfl, ht, k, true, rfl, iteF q⟩

theorem ok_check_row {f : Addr} {fd : FuncData}  (F : Fun K "check_row" "check_row" s_check_row f fd) (B : Bl mg) {T : Addr} (C_is_row : Cal P w K mg base 7 "is_row" ["thing", "liquids"] (sp_is_row T)) : FnOk P w K mg base CX0 8 f fd ["row", "liquids"] (sp_check_row T) := by
  refine F.ok sc_check_row (fun vs H Q E h => ?_) (fun cdv A outer s H vs Q E hr h => ?_)
  · obtain ⟨l, cs, k, rfl, _⟩ := h; rfl
  · obtain ⟨l, cs, k, rfl, hl, h60, hc, hT, q⟩ := h
    have nd := sc_check_row.nd
    refine ⟨_, (pss_one (ps_if (pt_not (pt_val (pe_cal C_is_row (hr.mono (by decide)) (pa_cons (pv 0) (pa_cons (pv 1) pa_nil)))))
      (pss_one ps_never) pss_nil)), ?_⟩
    exact ⟨.ref l, rfl, .int k, rfl, l, cs, k, rfl, hl, h60, hc, hT, true, rfl, iteF q⟩

theorem ok_check_liquid {f : Addr} {fd : FuncData}  (F : Fun K "check_liquid" "check_liquid" s_check_liquid f fd) (B : Bl mg) (C_is_within : Cal P w K mg base 2 "is_within" ["thing", "least", "most"] sp_is_within) : FnOk P w K mg base CX0 3 f fd ["liquid", "liquids"] (sp_check_liquid) := by
  refine F.ok sc_check_liquid (fun vs H Q E h => ?_) (fun cdv A outer s H vs Q E hr h => ?_)
  · obtain ⟨i, k, rfl, _⟩ := h; rfl
  · obtain ⟨i, k, rfl, h1, h2, q⟩ := h
    have nd := sc_check_liquid.nd
    refine ⟨_, (pss_one (ps_if (pt_not (pt_val (pe_cal C_is_within (hr.mono (by decide)) (pa_cons (pv 0) (pa_cons pe_int (pa_cons (pe_op op_sub (pv 1) pe_int) pa_nil))))))
      (pss_one ps_never) pss_nil)), ?_⟩
    exact ⟨.int i, rfl, .int k, rfl, k, 1, rfl, rfl, i, 0, k - 1, rfl, h1, h2, true, rfl, iteF q⟩

theorem ok_check_number {f : Addr} {fd : FuncData}  (F : Fun K "check_number" "check_number" s_check_number f fd) (B : Bl mg) (C_is_within : Cal P w K mg base 2 "is_within" ["thing", "least", "most"] sp_is_within) : FnOk P w K mg base CX0 3 f fd ["number", "least", "most"] (sp_check_number) := by
  refine F.ok sc_check_number (fun vs H Q E h => ?_) (fun cdv A outer s H vs Q E hr h => ?_)
  · obtain ⟨i, lo, hi, rfl, _⟩ := h; rfl
  · obtain ⟨i, lo, hi, rfl, h1, h2, q⟩ := h
    have nd := sc_check_number.nd
    refine ⟨_, (pss_one (ps_if (pt_not (pt_val (pe_cal C_is_within (hr.mono (by decide)) (pa_cons (pv 0) (pa_cons (pv 1) (pa_cons (pv 2) pa_nil))))))
      (pss_one ps_never) pss_nil)), ?_⟩
    exact ⟨.int i, rfl, .int lo, rfl, .int hi, rfl, i, lo, hi, rfl, h1, h2, true, rfl, iteF q⟩

def sp_common_divisor : Sp := fun vs H Q _ => ∃ l ns, vs = [V.ref l] ∧ LI H l ns ∧ Q (.int ((gcdN ns : Nat) : Int)) H

theorem ok_common_divisor {f : Addr} {fd : FuncData}  (F : Fun K "common_divisor" "common_divisor" s_common_divisor f fd) (B : Bl mg)  : FnOk P w K mg base CX0 1 f fd ["numbers"] (sp_common_divisor) := by
  refine F.ok sc_common_divisor (fun vs H Q E h => ?_) (fun cdv A outer s H vs Q E hr h => ?_)
  · obtain ⟨l, ns, rfl, _⟩ := h; rfl
  · obtain ⟨l, ns, rfl, hl, q⟩ := h
    have nd := sc_common_divisor.nd
    refine ⟨_, (pss_cons (ps_set (i := 1) nd rfl (Or.inl rfl) pe_int)
      (pss_cons (ps_for PassesOwn.never rfl (pi_list (pv 0)) (pg_name (i := 2) nd rfl (Or.inl rfl)) (pss_one (ps_set (i := 1) nd rfl (Or.inl rfl) (pe_callBfun cr_gcd (by rfl) B.gcd (pa_cons (pv 1) (pa_cons (pv 2) pa_nil))))))
      (pss_one (ps_ret (pv 1))))), ?_⟩
    refine ⟨.ref l, rfl, l, rfl, ⟨_, SqL.of hl⟩, for_list (xs := ns.map V.int) (fun i σ H' => ∃ y, σ = [some (.ref l), some (.int ((gcdN (ns.take i) : Nat) : Int)), y] ∧ H' = H) ⟨none, rfl, rfl⟩ (fun i σ H' _ ⟨_, _, e⟩ => by rw [e]; exact SqL.of hl) (fun i x σ H' hx ⟨y, e1, e2⟩ => ?_) (fun σ H' ⟨y, e1, e2⟩ => ?_)⟩
    · subst e1 e2
      obtain ⟨n, hn, rfl⟩ := map_get hx
      refine ⟨.int ((gcdN (ns.take i) : Nat) : Int), rfl, .int n, rfl, _, n, rfl, some (.int n), ?_, rfl⟩
      rw [gcdN_take hn]
      rfl
    · subst e1 e2
      rw [List.length_map, List.take_length]
      exact ⟨_, rfl, q⟩

def sp_without_divisor : Sp := fun vs H Q _ => ∃ l ns, vs = [V.ref l] ∧ LI H l ns ∧ Amt ns ∧ ns.length ≤ 100 ∧ gcdN ns < 2 ^ 8000 ∧ ∀ p H', Same H H' → H p = none → LI H' p (plain ns) → Q (.ref p) H'

theorem ok_without_divisor {f : Addr} {fd : FuncData}  (F : Fun K "without_divisor" "without_divisor" s_without_divisor f fd) (B : Bl mg) (C_common_divisor : Cal P w K mg base 1 "common_divisor" ["numbers"] sp_common_divisor) : FnOk P w K mg base CX0 2 f fd ["numbers"] (sp_without_divisor) := by
  refine F.ok sc_without_divisor (fun vs H Q E h => ?_) (fun cdv A outer s H vs Q E hr h => ?_)
  · obtain ⟨l, ns, rfl, _⟩ := h; rfl
  · obtain ⟨l, ns, rfl, hl, ha, hz, hg, q⟩ := h
    have nd := sc_without_divisor.nd
    refine ⟨_, (pss_cons (ps_set (i := 1) nd rfl (Or.inr rfl) (pe_cal C_common_divisor (hr.mono (by decide)) (pa_cons (pv 0) pa_nil)))
      (pss_one (ps_ret (pe_lc (own := [("number", 2)]) (g := gName 2) rfl nd (pi_list (pv 0)) (blkOk_by (own := [("number", 2)]) (N := ["numbers", "divisor", "number"]) (sc := defScope s_without_divisor) (by decide +kernel)) (fun _ _ _ _ _ => (pg_name (i := 2) nd rfl (Or.inl rfl))) (fun _ _ _ _ _ => pts_nil) (fun _ _ _ _ _ => (pe_op op_fdivW (pv 2) (pv 1))))))), ?_⟩
    refine ⟨.ref l, rfl, l, ns, rfl, hl, ?_⟩
    refine ⟨.ref l, rfl, l, rfl, ⟨_, SqL.of hl⟩, fun D hD => lc_list (xs := ns.map V.int) (fun i H' => Same H H' ∧ H' D = some (.lst (((plain ns).take i).map V.int))) ⟨same_new hD, upd_same⟩ (fun i H' _ ⟨e, _⟩ => SqL.of (e l _ hl)) (fun i x H' hx ⟨e1, e2⟩ => ?_) (fun H' ⟨e1, e2⟩ => ?_)⟩
    · obtain ⟨n, hn, rfl⟩ := map_get hx
      have hpos := gcdN_pos ha
      refine ⟨rfl, .int n, rfl, .int ((gcdN ns : Nat) : Int), rfl, n, _, rfl, rfl, wide_div (by omega) (b := 8000) (by rw [Int.natAbs_natCast]; exact hg) (by decide) (by decide), _, e2, ?_, fun b x hb => ?_, ?_⟩
      · rw [List.length_map, List.length_take]
        have := plain_len ns
        show min i (plain ns).length < 16777216
        omega
      · rw [upd_ne (ne_of_none hb hD)]
        exact e1 b x hb
      · have hp : (plain ns)[i]? = some (n / ((gcdN ns : Nat) : Int)) := by
          unfold Ma.plain
          rw [List.getElem?_map, hn]
          rfl
        rw [upd_same, List.take_add_one, hp, List.map_append]
        rfl
    · rw [List.length_map, ← plain_len ns, List.take_length] at e2
      exact q D H' e1 hD e2

end
end K52
end

section
set_option Elab.async false
set_option linter.all false
set_option maxRecDepth 100000
set_option maxHeartbeats 4000000
namespace K52
open PySem PySem.Spec PyProof.Rows L2 GxR Gx Ma
section
variable {P : Program} {w : World} {K : PySem.W.Frag} {mg : Str → Option Value} {base : Heap}

def sp_is_list_of_amounts (T : Addr) : Sp := fun vs H Q _ => ∃ l ns, vs = [V.ref l] ∧ LI H l ns ∧ 0 < ns.length ∧ ns.length ≤ 8 ∧ (∀ n ∈ ns, 0 ≤ n) ∧ H T = some (TabO T) ∧ Q (.bl true) H

theorem ok_is_list_of_amounts {f : Addr} {fd : FuncData} {c : Addr} (F : FunC K "is_list_of_amounts" "is_list_of_amounts" s_is_list_of_amounts f fd c) (B : Bl mg) (C_is_integer : Cal P w K mg base 1 "is_integer" ["thing"] sp_is_integer) {T : Addr} (TB_is_list_of_amounts : TabB base mg c T) : FnOk P w K mg base CX0 5 f fd ["thing"] (sp_is_list_of_amounts T) := by
  refine F.ok sc_is_list_of_amounts (fun vs H Q E h => ?_) (fun A outer s H vs Q E hr h => ?_)
  · obtain ⟨l, ns, rfl, _⟩ := h; rfl
  · obtain ⟨l, ns, rfl, hl, h1, h8, hn, hT, q⟩ := h
    have hcode : (cxOf CX0 P w K mg base ["thing"] "is_list_of_amounts" (defScope s_is_list_of_amounts) f (.ref c) A outer s H E).nox.env.code = .ref c := rfl
    have nd := sc_is_list_of_amounts.nd
    refine ⟨_, (pss_cons (ps_if (PW.pt (pw_or (pt_cmpR op_neTy (pe_typeOf (by rfl) B.type (pv 0)) (pe_bltn (v := .ty "list") (by rfl) B.list (by decide +kernel) rfl) (nomark _)) (pw_or1 (pt_not (pt_chain op_le op_le pe_int (pe_callB call_len_seq (by rfl) B.len PySem.boot_len (pa_cons (pv 0) pa_nil)) (pe_gi B.MOST_LIQUIDS))))))
      (pss_one (ps_ret pe_bl)) pss_nil)
      (pss_one (ps_ret (pe_allG (ns := []) (k' := 1) (hr.mono (by decide)) (by rfl) B.all TB_is_list_of_amounts hcode (gok_by (N := ["thing"]) (sc := defScope s_is_list_of_amounts) (by decide +kernel)) (by decide) (pi_list (pv 0)) (fun s H C code fp A hq => (pe_and (pe_cal C_is_integer (hq.mono (by decide)) (pa_cons (pv 0) pa_nil)) (pe_one (pe_cmpR op_ge (pv 0) pe_int (nomark _))))))))), ?_⟩
    refine ⟨.ref l, rfl, "list", by simp only [zTyV, hl], "list", rfl, rfl, TypeEq.meta_list, false, rfl, iteF ?_⟩
    refine ⟨.ref l, rfl, l, _, rfl, .inl (SqL.of hl), 1, _, rfl, rfl, _, rfl, ?_⟩
    rw [decide_eq_true (by rw [List.length_map]; omega)]
    refine iteT ⟨_, 8, rfl, rfl, _, rfl, ?_⟩
    rw [decide_eq_true (by rw [List.length_map]; omega)]
    refine iteF ⟨.ref l, rfl, l, rfl, ⟨_, SqL.of hl⟩, hT, all_list hl (fun i y hy R r => ?_) q⟩
    obtain ⟨n, e, rfl⟩ := map_get hy
    refine ⟨.int n, rfl, n, rfl, true, rfl, iteT ⟨.int n, rfl, n, 0, rfl, rfl, ?_⟩⟩
    show R (.bl (decide (0 ≤ n))) H
    rw [decide_eq_true (hn n (List.mem_of_getElem? e))]
    exact r

def sp_is_content (T : Addr) : Sp := fun vs H Q _ => ∃ l ns, vs = [V.ref l] ∧ LI H l ns ∧ Con ns ∧ H T = some (TabO T) ∧ Q (.bl true) H
def sp_check_content (T : Addr) : Sp := fun vs H Q _ => ∃ l ns, vs = [V.ref l] ∧ LI H l ns ∧ Con ns ∧ H T = some (TabO T) ∧ Q .non H

theorem ok_is_content {f : Addr} {fd : FuncData}  (F : Fun K "is_content" "is_content" s_is_content f fd) (B : Bl mg) {T : Addr} (C_is_list_of_amounts : Cal P w K mg base 5 "is_list_of_amounts" ["thing"] (sp_is_list_of_amounts T)) (C_common_divisor : Cal P w K mg base 1 "common_divisor" ["numbers"] sp_common_divisor) : FnOk P w K mg base CX0 6 f fd ["thing"] (sp_is_content T) := by
  refine F.ok sc_is_content (fun vs H Q E h => ?_) (fun cdv A outer s H vs Q E hr h => ?_)
  · obtain ⟨l, ns, rfl, _⟩ := h; rfl
  · obtain ⟨l, ns, rfl, hl, hc, hT, q⟩ := h
    have nd := sc_is_content.nd
    refine ⟨_, (pss_one (ps_ret (pe_and (pe_cal C_is_list_of_amounts (hr.mono (by decide)) (pa_cons (pv 0) pa_nil)) (pe_one (pe_cmpR op_eq (pe_cal C_common_divisor (hr.mono (by decide)) (pa_cons (pv 0) pa_nil)) pe_int (nomark _)))))), ?_⟩
    refine ⟨.ref l, rfl, l, ns, rfl, hl, hc.len, hc.le8, hc.nn, hT, true, rfl, iteT ⟨.ref l, rfl, l, ns, rfl, hl, rfl, ?_⟩⟩
    rw [hc.g]
    exact q

theorem ok_check_content {f : Addr} {fd : FuncData}  (F : Fun K "check_content" "check_content" s_check_content f fd) (B : Bl mg) {T : Addr} (C_is_content : Cal P w K mg base 6 "is_content" ["thing"] (sp_is_content T)) : FnOk P w K mg base CX0 7 f fd ["content"] (sp_check_content T) := by
  refine F.ok sc_check_content (fun vs H Q E h => ?_) (fun cdv A outer s H vs Q E hr h => ?_)
  · obtain ⟨l, ns, rfl, _⟩ := h; rfl
  · obtain ⟨l, ns, rfl, hl, hc, hT, q⟩ := h
    have nd := sc_check_content.nd
    refine ⟨_, (pss_one (ps_if (pt_not (pt_val (pe_cal C_is_content (hr.mono (by decide)) (pa_cons (pv 0) pa_nil))))
      (pss_one ps_never) pss_nil)), ?_⟩
    exact ⟨.ref l, rfl, l, ns, rfl, hl, hc, hT, true, rfl, iteF q⟩

/-- the fraction of two numbers without a common divisor -/
def fr (a b : Int) : Int × Int := (a / ((Nat.gcd a.natAbs b.natAbs : Nat) : Int), b / ((Nat.gcd a.natAbs b.natAbs : Nat) : Int))
def sp_share_of (T : Addr) : Sp := fun vs H Q _ => ∃ l ns n i, vs = [V.ref l, V.int i] ∧ LI H l ns ∧ Con ns ∧ ns.sum < 2 ^ 8000 ∧ 0 ≤ i ∧ ns[i.toNat]? = some n ∧ H T = some (TabO T) ∧ ∀ p H', Same H H' → H p = none → H' p = some (.tup [.int (fr n ns.sum).1, .int (fr n ns.sum).2]) → Q (.ref p) H'
theorem fr_gcd {n m : Int} (hm : 0 < m) (h : m < 2 ^ 8000) : (0 : Int) < ((Nat.gcd n.natAbs m.natAbs : Nat) : Int) ∧ ((Nat.gcd n.natAbs m.natAbs : Nat) : Int).natAbs < 2 ^ 8000 := by
  have h0 : 0 < m.natAbs := by omega
  have h1 := Nat.gcd_le_right n.natAbs h0
  have h2 := Nat.gcd_pos_of_pos_right n.natAbs h0
  refine ⟨by omega, ?_⟩
  rw [Int.natAbs_natCast]
  omega
theorem atI_map {ns : List Int} {i n : Int} (h0 : 0 ≤ i) (h : ns[i.toNat]? = some n) : atI (ns.map V.int) i = some (.int n) := by
  obtain ⟨j, rfl⟩ := Int.eq_ofNat_of_zero_le h0
  exact atI_nat (get_map h)

def sp_low : Sp := fun vs H Q _ => ∃ a b : Int, vs = [V.int a, V.int b] ∧ 0 < b ∧ b < 2 ^ 8000 ∧ ∀ p H', Same H H' → H p = none → H' p = some (.tup [.int (fr a b).1, .int (fr a b).2]) → Q (.ref p) H'

theorem ok_lowest_terms {f : Addr} {fd : FuncData}  (F : Fun K "lowest_terms" "lowest_terms" s_lowest_terms f fd) (B : Bl mg)  : FnOk P w K mg base CX0 1 f fd ["top", "bottom"] (sp_low) := by
  refine F.ok sc_lowest_terms (fun vs H Q E h => ?_) (fun cdv A outer s H vs Q E hr h => ?_)
  · obtain ⟨n, m, rfl, _⟩ := h; rfl
  · obtain ⟨n, m, rfl, hs, hz, q⟩ := h
    obtain ⟨g1, g2⟩ := fr_gcd (n := n) hs hz
    have nd := sc_lowest_terms.nd
    refine ⟨_, (pss_cons (ps_set (i := 2) nd rfl (Or.inl rfl) (pe_callBfun cr_gcd (by rfl) B.gcd (pa_cons (pv 0) (pa_cons (pv 1) pa_nil))))
      (pss_one (ps_ret (pe_tup (pa_cons (pe_op op_fdivW (pv 0) (pv 2)) (pa_cons (pe_op op_fdivW (pv 1) (pv 2)) pa_nil)))))), ?_⟩
    refine ⟨.int n, rfl, .int m, rfl, n, m, rfl, ?_⟩
    refine ⟨.int n, rfl, _, rfl, n, _, rfl, rfl, wide_div g1 g2 (by decide) (by decide), .int m, rfl, _, rfl, m, _, rfl, rfl, wide_div g1 g2 (by decide) (by decide), by show 2 ≤ 16777216; decide, fun p hp => ?_⟩
    exact q p _ (same_new hp) hp upd_same


def pur (k i : Nat) : List Int := (List.replicate k 0).set i 1
theorem rep_flat (v : V) : ∀ k : Nat, (List.replicate k [v]).flatten = List.replicate k v
  | 0 => rfl
  | k + 1 => by rw [List.replicate_succ, List.flatten_cons, rep_flat v k]; rfl
theorem ixN_of {n j : Nat} (h : j < n) : ixN n (j : Int) = some j := by
  unfold ixN
  rw [if_pos (by omega), if_pos (by omega), Int.toNat_natCast]
def sp_pure_content : Sp := fun vs H Q _ => ∃ k i : Nat, vs = [V.int k, V.int i] ∧ 1 ≤ k ∧ k ≤ 8 ∧ i < k ∧ ∀ p H', Same H H' → H p = none → LI H' p (pur k i) → Q (.ref p) H'

theorem ok_pure_content {f : Addr} {fd : FuncData}  (F : Fun K "pure_content" "pure_content" s_pure_content f fd) (B : Bl mg) (C_check_number : Cal P w K mg base 3 "check_number" ["number", "least", "most"] sp_check_number) (C_check_liquid : Cal P w K mg base 3 "check_liquid" ["liquid", "liquids"] sp_check_liquid) : FnOk P w K mg base CX0 4 f fd ["count", "liquid"] (sp_pure_content) := by
  refine F.ok sc_pure_content (fun vs H Q E h => ?_) (fun cdv A outer s H vs Q E hr h => ?_)
  · obtain ⟨k, i, rfl, _⟩ := h; rfl
  · obtain ⟨k, i, rfl, h1, h8, hi, q⟩ := h
    have nd := sc_pure_content.nd
    refine ⟨_, (pss_cons (ps_expr (pe_cal C_check_number (hr.mono (by decide)) (pa_cons (pv 0) (pa_cons pe_int (pa_cons (pe_gi B.MOST_LIQUIDS) pa_nil)))))
      (pss_cons (ps_expr (pe_cal C_check_liquid (hr.mono (by decide)) (pa_cons (pv 1) (pa_cons (pv 0) pa_nil))))
      (pss_cons (ps_set (i := 2) nd rfl (Or.inl rfl) (pe_op op_rep (pe_lst (pa_cons pe_int pa_nil)) (pv 0)))
      (pss_cons (ps_asg pe_int (pg_sub (pv 2) (pv 1) set_list))
      (pss_one (ps_ret (pv 2))))))), ?_⟩
    refine ⟨.int k, rfl, k, 1, 8, rfl, by omega, by omega, ?_⟩
    refine ⟨.int i, rfl, .int k, rfl, i, k, rfl, by omega, by omega, ?_⟩
    refine ⟨by show 1 ≤ 16777216; decide, fun o no => ?_⟩
    refine ⟨.int k, rfl, o, k, _, rfl, rfl, upd_same, by omega, by omega, by show 1 * (k : Int).toNat ≤ 16777216; omega, fun p hp => ?_⟩
    have e : (List.replicate (k : Int).toNat [V.int 0]).flatten = (List.replicate k (0 : Int)).map V.int := by
      rw [Int.toNat_natCast, List.map_replicate, rep_flat]
    rw [e]
    refine ⟨.ref p, rfl, .int i, rfl, p, _, i, i, rfl, rfl, upd_same, ixN_of (by rw [List.length_map, List.length_replicate]; exact hi), ?_⟩
    refine ⟨.ref p, rfl, q p _ (fun b x hb => ?_) (Same.free (same_new no) hp) ?_⟩
    · have hbp : b ≠ p := ne_of_none (same_new no b x hb) hp
      rw [upd_ne hbp, upd_ne hbp]
      exact same_new no b x hb
    · rw [upd_upd]
      show upd _ p _ p = _
      rw [upd_same]
      unfold pur
      rw [List.map_set]

end
end K52
end

section
set_option Elab.async false
set_option linter.all false
set_option maxRecDepth 100000
set_option maxHeartbeats 4000000
namespace K52
open PySem PySem.Spec PyProof.Rows L2 GxR Gx Ma
section
variable {P : Program} {w : World} {K : PySem.W.Frag} {mg : Str → Option Value} {base : Heap}

theorem gcd_le_sum {ns : List Int} (h : Amt ns) : ((gcdN ns : Nat) : Int) ≤ ns.sum := by
  have e := plain_sum h
  have hg := gcdN_pos h
  have hs := h.pos
  have h1 : 0 < (Ma.plain ns).sum := by
    by_cases z : 0 < (Ma.plain ns).sum
    · exact z
    · have : (Ma.plain ns).sum * ((gcdN ns : Nat) : Int) ≤ 0 * ((gcdN ns : Nat) : Int) := Int.mul_le_mul_of_nonneg_right (by omega) (by omega)
      omega
  have h2 : 1 * ((gcdN ns : Nat) : Int) ≤ (Ma.plain ns).sum * ((gcdN ns : Nat) : Int) := Int.mul_le_mul_of_nonneg_right (by omega) (by omega)
  omega
def sp_content_behind : Sp := fun vs H Q _ => ∃ l t ns a b, ∃ c : Nat, vs = [V.ref l, V.ref t, V.int c] ∧ LI H l ns ∧ Con ns ∧ H t = some (.tup [.int a, .int b]) ∧ Kep a b ∧ c < ns.length ∧ ns.sum < 2 ^ 7900 ∧ ∀ p H', Same H H' → H p = none → LI H' p (step ns a b c) → Q (.ref p) H'
theorem pow_le_of {m n : Nat} (h : m ≤ n) : (2 : Int) ^ m ≤ 2 ^ n := by
  have := Nat.pow_le_pow_right (show 0 < 2 by decide) h
  exact_mod_cast this
theorem abs_lt {n : Int} {k : Nat} (h0 : 0 ≤ n) (h : n < 2 ^ k) : n.natAbs < 2 ^ k := by
  have e : ((n.natAbs : Nat) : Int) = n := Int.natAbs_of_nonneg h0
  have : ((n.natAbs : Nat) : Int) < ((2 ^ k : Nat) : Int) := by
    rw [e]
    have e2 : ((2 ^ k : Nat) : Int) = (2 : Int) ^ k := by rw [Int.natCast_pow]; rfl
    rw [e2]
    exact h
  exact Int.ofNat_lt.mp this

theorem ok_content_behind {f : Addr} {fd : FuncData}  (F : Fun K "content_behind" "content_behind" s_content_behind f fd) (B : Bl mg) (C_without_divisor : Cal P w K mg base 2 "without_divisor" ["numbers"] sp_without_divisor) : FnOk P w K mg base CX0 3 f fd ["content", "kept", "liquid"] (sp_content_behind) := by
  refine F.ok sc_content_behind (fun vs H Q E h => ?_) (fun cdv A outer s H vs Q E hr h => ?_)
  · obtain ⟨l, t, ns, a, b, c, rfl, _⟩ := h; rfl
  · obtain ⟨l, t, ns, a, b, c, rfl, hl, hc, ht, k, hcl, hz, q⟩ := h
    obtain ⟨k1, k2, k3, k4⟩ := k
    have hs := hc.amt.pos
    have nd := sc_content_behind.nd
    refine ⟨_, (pss_cons (ps_asg (pv 1) (pg_tup (by rfl) (pgs_cons (pg_name (i := 3) nd rfl (Or.inr rfl)) (pgs_cons (pg_name (i := 4) nd rfl (Or.inl rfl)) pgs_nil))))
      (pss_cons (ps_setLc (i := 5) (own := [("amount", 6)]) (g := gName 6) rfl nd rfl rfl (sw_true rfl rfl rfl (by decide +kernel)) (pi_list (pv 0)) (blkOk_by (own := [("amount", 6)]) (N := ["content", "kept", "liquid", "stays", "whole", "mixture", "amount"]) (sc := defScope s_content_behind) (by decide +kernel)) (fun _ _ _ _ _ => (pg_name (i := 6) nd rfl (Or.inl rfl))) (fun _ _ _ _ _ => pts_nil) (fun _ _ _ _ _ => (pe_op op_mulW (pv 6) (pv 3))))
      (pss_cons (ps_augS (pv 5) (pv 2) get_list (pe_op op_mulW (pe_op op_sub (pv 4) (pv 3)) (pe_callB (cr_sum rfl) (by rfl) B.sum (by decide +kernel) (pa_cons (pv 0) pa_nil))) ip_add set_list)
      (pss_one (ps_ret (pe_cal C_without_divisor (hr.mono (by decide)) (pa_cons (pv 5) pa_nil))))))), ?_⟩
    refine ⟨.ref t, rfl, t, [_, _], rfl, SqT.of ht, rfl, _, _, rfl, _, _, rfl, rfl, ?_⟩
    refine ⟨.ref l, rfl, l, rfl, ⟨_, SqL.of hl⟩, fun D hD => lc_list (xs := ns.map V.int) (fun i H' => Same H H' ∧ H' D = some (.lst (((ns.map fun n => n * a).take i).map V.int))) ⟨same_new hD, upd_same⟩ (fun i H' _ ⟨e, _⟩ => SqL.of (e l _ hl)) (fun i x H' hx ⟨e1, e2⟩ => ?_) (fun H' ⟨e1, e2⟩ => ?_)⟩
    · obtain ⟨n, hn, rfl⟩ := map_get hx
      have hm := List.mem_of_getElem? hn
      have hn0 := hc.nn n hm
      have hn1 := le_sum hc.nn hm
      refine ⟨rfl, .int n, rfl, .int a, rfl, n, a, rfl, rfl, wide_mul (a := 7900) (b := 7) (abs_lt hn0 (Int.lt_of_le_of_lt hn1 hz)) (abs_lt (by omega) (by omega)) (by decide) (by decide) (by decide), _, e2, ?_, fun b x hb => ?_, ?_⟩
      · have := hc.le8
        rw [List.length_map, List.length_take, List.length_map]
        show min i ns.length < 16777216
        omega
      · rw [upd_ne (ne_of_none hb hD)]
        exact e1 b x hb
      · have hp : (ns.map fun n => n * a)[i]? = some (n * a) := by
          rw [List.getElem?_map, hn]
          rfl
        rw [upd_same, List.take_add_one, hp, List.map_append]
        rfl
    · have e2 : LI H' D (ns.map fun n => n * a) := by
        show H' D = _
        rw [e2, List.length_map, List.take_of_length_le (by rw [List.length_map]; exact Nat.le_refl _)]
      have hcm : (ns.map fun n => n * a)[c]? = some (ns.getD c 0 * a) := by
        rw [List.getElem?_map, List.getD_eq_getElem?_getD, List.getElem?_eq_getElem hcl]
        rfl
      have hba : (b - a).natAbs < 2 ^ 7 := abs_lt (by omega) (by omega)
      refine ⟨.ref D, rfl, .int c, rfl, D, _, c, .int (ns.getD c 0 * a), rfl, rfl, SqL.of e2, by omega, get_map hcm, ?_⟩
      refine ⟨.int b, rfl, .int a, rfl, b, a, rfl, rfl, .ref l, rfl, l, ns, rfl, SqL.of (e1 l _ hl), b - a, ns.sum, rfl, rfl, wide_mul (a := 7) (b := 7900) hba (abs_lt (by omega) hz) (by decide) (by decide) (by decide), ?_⟩
      refine ⟨_, _, rfl, rfl, D, _, c, c, rfl, rfl, e2, ixN_of (by rw [List.length_map, List.length_map]; exact hcl), ?_⟩
      have hk : Kep a b := ⟨k1, k2, k3, k4⟩
      have ha := pre_amt hc hk hcl
      have hps := pre_sum (a := a) (b := b) hcl
      have e3 : upd H' D (.lst (((ns.map fun n => n * a).map V.int).set c (.int (ns.getD c 0 * a + (b - a) * ns.sum)))) D = some (.lst ((pre ns a b c).map V.int)) := by
        rw [upd_same]
        unfold pre
        rw [List.map_set]
      refine ⟨.ref D, rfl, D, pre ns a b c, rfl, e3, ha, ?_, ?_, fun p H2 s2 np e4 => ?_⟩
      · rw [pre_len]
        have := hc.le8
        omega
      · have h1 := gcd_le_sum ha
        rw [hps] at h1
        have h2 : b * ns.sum ≤ 100 * ns.sum := Int.mul_le_mul_of_nonneg_right k3 (by omega)
        have h3 : (100 : Int) * ns.sum < 2 ^ 8000 := by
          have e : (2 : Int) ^ 8000 = 2 ^ 100 * 2 ^ 7900 := by rw [← Int.pow_add]
          have h4 : (2 : Int) ^ 7 * 2 ^ 7900 ≤ 2 ^ 100 * 2 ^ 7900 := Int.mul_le_mul_of_nonneg_right (pow_le_of (by decide)) (Int.le_of_lt (Int.pow_pos (by decide)))
          have h5 : (128 : Int) * ns.sum ≤ 2 ^ 7 * 2 ^ 7900 := Int.mul_le_mul_of_nonneg_left (Int.le_of_lt hz) (by decide)
          omega
        have h6 := abs_lt (n := ((gcdN (pre ns a b c) : Nat) : Int)) (by omega) (Int.lt_of_le_of_lt (Int.le_trans h1 h2) h3)
        rw [Int.natAbs_natCast] at h6
        exact h6
      · refine q p H2 (fun x u hx => s2 x u ?_) (Same.free (fun x u hx => ?_) np) e4
        · rw [upd_ne (ne_of_none hx hD)]
          exact e1 x u hx
        · rw [upd_ne (ne_of_none hx hD)]
          exact e1 x u hx

end
end K52
end

section
set_option Elab.async false
set_option linter.all false
set_option maxRecDepth 100000
set_option maxHeartbeats 4000000
namespace K52
open PySem PySem.Spec PyProof.Rows L2 GxR Gx Ma
section
variable {P : Program} {w : World} {K : PySem.W.Frag} {mg : Str → Option Value} {base : Heap}

/-- the content behind i top-ups, each by its own kept share -/
def ctn (ns : List Int) (ks : List (Int × Int)) (cs : List Nat) : Nat → List Int
  | 0 => ns
  | i + 1 => step (ctn ns ks cs i) (ks.getD i (1, 2)).1 (ks.getD i (1, 2)).2 (cs.getD i 0)
structure Rowy (ns : List Int) (ks : List (Int × Int)) (cs : List Nat) : Prop where
  con : Con ns
  len : ks.length = cs.length
  c60 : cs.length ≤ 60
  kep : ∀ q ∈ ks, Kep q.1 q.2
  liq : ∀ c ∈ cs, c < ns.length
theorem getD_mem {α : Type} {l : List α} {i : Nat} {d : α} (h : i < l.length) : l.getD i d ∈ l := by
  rw [List.getD_eq_getElem?_getD, List.getElem?_eq_getElem h]
  exact List.getElem_mem h
theorem ctn_len (ns : List Int) (ks : List (Int × Int)) (cs : List Nat) : ∀ i, (ctn ns ks cs i).length = ns.length
  | 0 => rfl
  | i + 1 => by rw [← ctn_len ns ks cs i]; exact step_len ..
theorem ctn_con {ns : List Int} {ks : List (Int × Int)} {cs : List Nat} (R : Rowy ns ks cs) : ∀ i, i ≤ cs.length → Con (ctn ns ks cs i)
  | 0, _ => R.con
  | i + 1, h => by
    have hik : i < ks.length := by have := R.len; omega
    have hic : i < cs.length := by omega
    exact step_con (ctn_con R i (by omega)) (R.kep _ (getD_mem hik)) (by rw [ctn_len]; exact R.liq _ (getD_mem hic))
theorem ctn_sum {ns : List Int} {ks : List (Int × Int)} {cs : List Nat} (R : Rowy ns ks cs) : ∀ i, i ≤ cs.length → (ctn ns ks cs i).sum ≤ 100 ^ i * ns.sum
  | 0, _ => by show ns.sum ≤ 100 ^ 0 * ns.sum; rw [Int.pow_zero, Int.one_mul]; exact Int.le_refl _
  | i + 1, h => by
    have hik : i < ks.length := by have := R.len; omega
    have hic : i < cs.length := by omega
    have h1 := step_sum (ctn_con R i (by omega)) (R.kep _ (getD_mem (d := (1, 2)) hik)) (c := cs.getD i 0) (by rw [ctn_len]; exact R.liq _ (getD_mem hic))
    have h2 := ctn_sum R i (by omega)
    have h3 : (100 : Int) * (ctn ns ks cs i).sum ≤ 100 * (100 ^ i * ns.sum) := Int.mul_le_mul_of_nonneg_left h2 (by decide)
    have e : (100 : Int) ^ (i + 1) * ns.sum = 100 * (100 ^ i * ns.sum) := by rw [Int.pow_succ, Int.mul_comm ((100 : Int) ^ i) 100, Int.mul_assoc]
    rw [e]
    exact Int.le_trans h1 h3
theorem hund_le (i : Nat) (h : i ≤ 60) : (100 : Int) ^ i ≤ 2 ^ 420 := by
  have h1 : (100 : Nat) ^ i ≤ 100 ^ 60 := Nat.pow_le_pow_right (by decide) h
  have h2 : (100 : Nat) ^ 60 ≤ 2 ^ 420 := by decide +kernel
  have h3 : (100 : Nat) ^ i ≤ 2 ^ 420 := Nat.le_trans h1 h2
  exact_mod_cast h3
theorem ctn_small {ns : List Int} {ks : List (Int × Int)} {cs : List Nat} {m : Nat} (R : Rowy ns ks cs) (i : Nat) (hi : i ≤ cs.length) (hz : ns.sum < 2 ^ m) : (ctn ns ks cs i).sum < 2 ^ (m + 420) := by
  have h1 := ctn_sum R i hi
  have hs := R.con.amt.pos
  have h2 : (100 : Int) ^ i * ns.sum ≤ 2 ^ 420 * ns.sum := Int.mul_le_mul_of_nonneg_right (hund_le i (by have := R.c60; omega)) (by omega)
  have h3 : (2 : Int) ^ 420 * ns.sum < 2 ^ 420 * 2 ^ m := Int.mul_lt_mul_of_pos_left hz (Int.pow_pos (by decide))
  have e : (2 : Int) ^ (m + 420) = 2 ^ 420 * 2 ^ m := by rw [Int.pow_add, Int.mul_comm]
  rw [e]
  exact Int.lt_of_le_of_lt (Int.le_trans h1 h2) h3
/-- a list of n + 1 new lists of ints -/
structure Rows (H H' : Hp) (p : Addr) (ps : List Addr) (n : Nat) (v : Nat → List Int) : Prop where
  at_ : H' p = some (.lst (ps.map V.ref))
  len : ps.length = n
  row : ∀ i a, ps[i]? = some a → LI H' a (v i)
  new : ∀ a ∈ ps, H a = none
  nd : ps.Nodup
  out : p ∉ ps
  pnew : H p = none
theorem Rows.grow {H H' H2 : Hp} {p a : Addr} {ps : List Addr} {n : Nat} {v : Nat → List Int} (R : Rows H H' p ps n v) (s : Same H H') (e : Same H' H2) (na : H' a = none) (ha : LI H2 a (v n)) : Rows H (upd H2 p (.lst (ps.map V.ref ++ [.ref a]))) p (ps ++ [a]) (n + 1) v := by
  have hpa : a ≠ p := fun z => by rw [z, R.at_] at na; cases na
  refine ⟨?_, ?_, fun i b hb => ?_, fun b hb => ?_, ?_, fun z => ?_, R.pnew⟩
  · rw [upd_same, List.map_append]
    rfl
  · rw [List.length_append, R.len]
    rfl
  · by_cases hi : i < ps.length
    · rw [List.getElem?_append_left hi] at hb
      have hbp : b ≠ p := fun z => R.out (by rw [← z]; exact List.mem_of_getElem? hb)
      show upd H2 p _ b = _
      rw [upd_ne hbp]
      exact e b _ (R.row i b hb)
    · have hi2 := (List.getElem?_eq_some_iff.mp hb).1
      rw [List.length_append] at hi2
      have e1 : i = ps.length := by
        have : i < ps.length + 1 := hi2
        omega
      rw [e1, List.getElem?_append_right (Nat.le_refl _), Nat.sub_self] at hb
      have e2 : a = b := Option.some.inj hb
      rw [← e2, e1, R.len]
      show upd H2 p _ a = _
      rw [upd_ne hpa]
      exact ha
  · rcases List.mem_append.mp hb with z | z
    · exact R.new b z
    · rw [List.mem_singleton.mp z]
      exact s.free na
  · refine List.nodup_append.mpr ⟨R.nd, List.nodup_cons.mpr ⟨List.not_mem_nil, List.nodup_nil⟩, fun x hx y hy z => ?_⟩
    rw [List.mem_singleton.mp hy] at z
    obtain ⟨i, hi⟩ := List.getElem?_of_mem hx
    have := R.row i x hi
    rw [z] at this
    have t2 : H' a = some _ := this
    rw [na] at t2
    cases t2
  · rcases List.mem_append.mp z with z | z
    · exact R.out z
    · exact hpa (List.mem_singleton.mp z).symm
theorem Rows.last {H H' : Hp} {p : Addr} {ps : List Addr} {n : Nat} {v : Nat → List Int} (R : Rows H H' p ps (n + 1) v) : ∃ a, atI (ps.map V.ref) (-1) = some (.ref a) ∧ LI H' a (v n) ∧ ps[n]? = some a := by
  have hl := R.len
  have hn : n < ps.length := by omega
  have e : ps.map V.ref = (ps.take n).map V.ref ++ [.ref ps[n]] := by
    have e1 : ps = ps.take n ++ [ps[n]] := by
      have := List.take_append_getElem hn
      rw [this, List.take_of_length_le (by omega)]
    conv => lhs; rw [e1]
    rw [List.map_append]
    rfl
  refine ⟨ps[n], ?_, R.row n _ (List.getElem?_eq_getElem hn), List.getElem?_eq_getElem hn⟩
  rw [e]
  exact atI_last _ _
def rowI (cs : List Nat) : List Int := cs.map fun (c : Nat) => (c : Int)
theorem rowI_get {cs : List Nat} {i : Nat} {y : V} (h : ((rowI cs).map V.int)[i]? = some y) : i < cs.length ∧ y = .int ((cs.getD i 0 : Nat) : Int) := by
  obtain ⟨n, hn, rfl⟩ := map_get h
  unfold rowI at hn
  rw [List.getElem?_map] at hn
  cases e : cs[i]? with
  | none => rw [e] at hn; cases hn
  | some c =>
    rw [e] at hn
    refine ⟨(List.getElem?_eq_some_iff.mp e).1, ?_⟩
    rw [List.getD_eq_getElem?_getD, e]
    exact congrArg V.int (Option.some.inj hn).symm
/-- a list of tuples of two ints -/
structure Keeps (H : Hp) (l : Addr) (ts : List Addr) (ks : List (Int × Int)) : Prop where
  at_ : H l = some (.lst (ts.map V.ref))
  len : ts.length = ks.length
  tup : ∀ i t, ts[i]? = some t → H t = some (.tup [.int (ks.getD i (1, 2)).1, .int (ks.getD i (1, 2)).2])
theorem Keeps.same {H H' : Hp} {l : Addr} {ts : List Addr} {ks : List (Int × Int)} (k : Keeps H l ts ks) (e : Same H H') : Keeps H' l ts ks := ⟨e _ _ k.at_, k.len, fun i t h => e _ _ (k.tup i t h)⟩
def sp_contents_by : Sp := fun vs H Q _ => ∃ l kl r ns ts ks cs, vs = [V.ref l, V.ref kl, V.ref r] ∧ LI H l ns ∧ Keeps H kl ts ks ∧ LI H r (rowI cs) ∧ Rowy ns ks cs ∧ ns.sum < 2 ^ 7000 ∧ ∀ p ps H', Same H H' → Rows H H' p ps (cs.length + 1) (ctn ns ks cs) → Q (.ref p) H'
theorem same_upd_new {H H' : Hp} {p : Addr} {o : HO} (e : Same H H') (h : H p = none) : Same H (upd H' p o) := fun b x hb => by
  rw [upd_ne (ne_of_none hb h)]
  exact e b x hb

theorem ok_contents_by {f : Addr} {fd : FuncData}  (F : Fun K "contents_by" "contents_by" s_contents_by f fd) (B : Bl mg) (C_content_behind : Cal P w K mg base 3 "content_behind" ["content", "kept", "liquid"] sp_content_behind) : FnOk P w K mg base CX0 4 f fd ["content", "keeps", "row"] (sp_contents_by) := by
  refine F.ok sc_contents_by (fun vs H Q E h => ?_) (fun cdv A outer s H vs Q E hr h => ?_)
  · obtain ⟨l, kl, r, ns, ts, ks, cs, rfl, _⟩ := h; rfl
  · obtain ⟨l, kl, r, ns, ts, ks, cs, rfl, hl, hk, hr2, R, hz, q⟩ := h
    have h60 := R.c60
    have hlen := R.len
    have nd := sc_contents_by.nd
    refine ⟨_, (pss_cons (ps_set (i := 3) nd rfl (Or.inl rfl) (pe_lst (pa_cons (pe_callTy call_list_of (by rfl) B.list (by decide +kernel) (pa_cons (pv 0) pa_nil)) pa_nil)))
      (pss_cons (ps_for PassesOwn.never rfl (pi_zip (by rfl) B.zip (pa_cons (pv 1) (pa_cons (pv 2) pa_nil))) (pg_tup (by rfl) (pgs_cons (pg_name (i := 4) nd rfl (Or.inl rfl)) (pgs_cons (pg_name (i := 5) nd rfl (Or.inl rfl)) pgs_nil))) (pss_one (ps_expr (pe_bm PySem.F.plainAttrs_list PySem.F.slot_list_append PySem.F.type_list_append mt_append (pv 3) (pa_cons (pe_cal C_content_behind (hr.mono (by decide)) (pa_cons (pe_ix ix_list (pv 3) (pe_un un_neg pe_int) (fun _ _ => rfl)) (pa_cons (pv 4) (pa_cons (pv 5) pa_nil)))) pa_nil)))))
      (pss_one (ps_ret (pv 3))))), ?_⟩
    refine ⟨.ref l, rfl, l, _, rfl, .inl (SqL.of hl), fun o no => ?_⟩
    have s1 : Same H (upd H o (.lst (ns.map V.int))) := same_new no
    refine ⟨by show 1 ≤ 16777216; decide, fun C nC => ?_⟩
    have s2 : Same (upd H o (.lst (ns.map V.int))) (upd (upd H o (.lst (ns.map V.int))) C (.lst [.ref o])) := same_new nC
    have noC : o ≠ C := fun e => by rw [← e, upd_same] at nC; cases nC
    refine ⟨.ref kl, rfl, .ref r, rfl, kl, r, ts.map V.ref, (rowI cs).map V.int, rfl, SqL.of (s2 _ _ (s1 _ _ hk.at_)), SqL.of (s2 _ _ (s1 _ _ hr2)), ?_⟩
    have h0 : Rows H (upd (upd H o (.lst (ns.map V.int))) C (.lst [.ref o])) C [o] 1 (ctn ns ks cs) := by
      refine ⟨upd_same, rfl, fun i a ha => ?_, fun a ha => ?_, by simp, fun z => noC (List.mem_singleton.mp z).symm, s1.free nC⟩
      · cases i with
        | zero =>
          have e : o = a := Option.some.inj ha
          rw [← e]
          show upd _ C _ o = _
          rw [upd_ne noC, upd_same]
          rfl
        | succ i => simp at ha
      · rw [List.mem_singleton.mp ha]
        exact no
    refine RZ.for_zipL (by rw [List.length_map, List.length_map]; unfold rowI; rw [List.length_map, hk.len]; exact hlen) (fun i σ H' => ∃ y4 y5 ps, σ = [some (.ref l), some (.ref kl), some (.ref r), some (.ref C), y4, y5] ∧ i ≤ cs.length ∧ Same H H' ∧ Rows H H' C ps (i + 1) (ctn ns ks cs))
      ⟨none, none, [o], rfl, Nat.zero_le _, s1.trans s2, h0⟩ (fun i σ H' ⟨_, _, _, _, _, e, _⟩ => ⟨SqL.of (e _ _ hk.at_), SqL.of (e _ _ hr2)⟩) (fun i x y T σ H' hx hy hP nT => ?_) (fun σ H' hP => ?_)
    · obtain ⟨y4, y5, ps, rfl, hi, e, RR⟩ := hP
      obtain ⟨hic, rfl⟩ := rowI_get hy
      rw [List.getElem?_map] at hx
      cases ht : ts[i]? with
      | none => rw [ht] at hx; cases hx
      | some t =>
        rw [ht] at hx
        have ex : V.ref t = x := Option.some.inj hx
        subst ex
        have htup := hk.tup i t ht
        have sT : Same H' (upd H' T (.tup [.ref t, .int ((cs.getD i 0 : Nat) : Int)])) := same_new nT
        obtain ⟨a, ea, la, _⟩ := RR.last
        have hCT := sT _ _ RR.at_
        refine ⟨T, _, rfl, SqT.of upd_same, rfl, _, _, rfl, _, _, rfl, rfl, ?_⟩
        refine ⟨.ref C, rfl, .inl ⟨rfl, _, SqL.of hCT⟩, ?_⟩
        refine ⟨.ref C, rfl, 1, rfl, C, _, -1, _, rfl, rfl, SqL.of hCT, ea, .ref t, rfl, .int ((cs.getD i 0 : Nat) : Int), rfl, ?_⟩
        refine ⟨a, t, ctn ns ks cs i, (ks.getD i (1, 2)).1, (ks.getD i (1, 2)).2, cs.getD i 0, rfl, sT _ _ la, ctn_con R i hi, sT _ _ (e _ _ htup), R.kep _ (getD_mem (by omega)), by rw [ctn_len]; exact R.liq _ (getD_mem hic), ?_, fun p H2 s3 np lp => ?_⟩
        · exact Int.lt_of_lt_of_le (ctn_small R i hi hz) (pow_le_of (by decide))
        · refine ⟨C, _, _, rfl, rfl, s3 _ _ hCT, ?_, ?_⟩
          · rw [List.length_map, RR.len]
            show i + 1 < 16777216
            omega
          · exact ⟨some (.ref t), some (.int ((cs.getD i 0 : Nat) : Int)), ps ++ [p], rfl, hic, same_upd_new (e.trans (sT.trans s3)) RR.pnew, RR.grow e (sT.trans s3) (sT.free np) lp⟩
    · obtain ⟨y4, y5, ps, rfl, hi, e, RR⟩ := hP
      have el : (ts.map V.ref).length = cs.length := by rw [List.length_map, hk.len]; exact hlen
      rw [el] at RR
      exact ⟨.ref C, rfl, q C ps H' e RR⟩

end
end K52
end

section
set_option Elab.async false
set_option linter.all false
set_option maxRecDepth 100000
set_option maxHeartbeats 4000000
namespace K52
open PySem PySem.Spec PyProof.Rows L2 GxR Gx Ma
section
variable {P : Program} {w : World} {K : PySem.W.Frag} {mg : Str → Option Value} {base : Heap}

def ctn1 (ns : List Int) (a b : Int) (cs : List Nat) : Nat → List Int := ctn ns (List.replicate cs.length (a, b)) cs
structure Row1 (ns : List Int) (a b : Int) (cs : List Nat) : Prop where
  con : Con ns
  c60 : cs.length ≤ 60
  kep : Kep a b
  liq : ∀ c ∈ cs, c < ns.length
theorem Row1.y {ns : List Int} {a b : Int} {cs : List Nat} (R : Row1 ns a b cs) : Rowy ns (List.replicate cs.length (a, b)) cs :=
  ⟨R.con, List.length_replicate, R.c60, fun q hq => by rw [(List.mem_replicate.mp hq).2]; exact R.kep, R.liq⟩
theorem keeps_rep {H : Hp} {l t : Addr} {a b : Int} {n : Nat} (h : H l = some (.lst ((List.replicate n t).map V.ref))) (ht : H t = some (.tup [.int a, .int b])) : Keeps H l (List.replicate n t) (List.replicate n (a, b)) := by
  refine ⟨h, by rw [List.length_replicate, List.length_replicate], fun i u hu => ?_⟩
  have hi := (List.getElem?_eq_some_iff.mp hu).1
  rw [List.length_replicate] at hi
  have e : t = u := by
    rw [List.getElem?_replicate, if_pos hi] at hu
    exact Option.some.inj hu
  rw [← e, List.getD_eq_getElem?_getD, List.getElem?_replicate, if_pos hi]
  exact ht
theorem rowI_le {cs : List Nat} {k : Nat} (h : ∀ c ∈ cs, c < k) : ∀ c ∈ rowI cs, 0 ≤ c ∧ c ≤ (k : Int) - 1 := fun c hc => by
  obtain ⟨m, hm, e⟩ := List.mem_map.mp hc
  have := h m hm
  have e2 : (m : Int) = c := e
  omega
def sp_contents_along (Tc Tr : Addr) : Sp := fun vs H Q _ => ∃ l t r ns a b cs, vs = [V.ref l, V.ref t, V.ref r] ∧ LI H l ns ∧ H t = some (.tup [.int a, .int b]) ∧ LI H r (rowI cs) ∧ Row1 ns a b cs ∧ ns.sum < 2 ^ 7000 ∧ H Tc = some (TabO Tc) ∧ H Tr = some (TabO Tr) ∧
  ∀ p ps H', Same H H' → Rows H H' p ps (cs.length + 1) (ctn1 ns a b cs) → Q (.ref p) H'
def sp_topped_row (Tc Tr : Addr) : Sp := fun vs H Q _ => ∃ l t r ns a b cs, vs = [V.ref l, V.ref t, V.ref r] ∧ LI H l ns ∧ H t = some (.tup [.int a, .int b]) ∧ LI H r (rowI cs) ∧ Row1 ns a b cs ∧ ns.sum < 2 ^ 7000 ∧ H Tc = some (TabO Tc) ∧ H Tr = some (TabO Tr) ∧
  ∀ p H', Same H H' → H p = none → LI H' p (ctn1 ns a b cs cs.length) → Q (.ref p) H'
theorem Rows.back {H0 H H' : Hp} {p : Addr} {ps : List Addr} {n : Nat} {v : Nat → List Int} (R : Rows H H' p ps n v) (s : Same H0 H) : Rows H0 H' p ps n v := ⟨R.at_, R.len, R.row, fun a h => s.free (R.new a h), R.nd, R.out, s.free R.pnew⟩



end
end K52
end

section
set_option linter.all false
set_option maxHeartbeats 1000000
/-! Mixtures: weighted sums of contents over a bottom, and that a common factor goes away. -/
namespace Ma
def mixN (cs : List (List Int)) (ws : List Int) (W : Int) (s : Nat) : Nat → Int
  | 0 => 0
  | i + 1 => mixN cs ws W s i + ws.getD i 0 * (W / (cs.getD i []).sum) * (cs.getD i []).getD s 0
def mixL (cs : List (List Int)) (ws : List Int) (W : Int) (n m : Nat) : List Int := (List.range n).map fun s => mixN cs ws W s m
def lcmZ (cs : List (List Int)) : Nat → Int
  | 0 => 1
  | i + 1 => ((Nat.lcm (lcmZ cs i).natAbs (cs.getD i []).sum.natAbs : Nat) : Int)
def prodZ (cs : List (List Int)) : Nat → Int
  | 0 => 1
  | i + 1 => prodZ cs i * (cs.getD i []).sum
def wsum (ws : List Int) : Nat → Int
  | 0 => 0
  | i + 1 => wsum ws i + ws.getD i 0
/-- contents of one length with weights -/
structure Mix (cs : List (List Int)) (ws : List Int) (n : Nat) : Prop where
  c0 : 0 < cs.length
  c8 : cs.length ≤ 8
  wl : ws.length = cs.length
  con : ∀ c ∈ cs, Con c
  len : ∀ c ∈ cs, c.length = n
  small : ∀ c ∈ cs, c.sum < 2 ^ 102
  w0 : ∀ w ∈ ws, 0 ≤ w ∧ w < 2 ^ 98
  wp : 0 < ws.sum
theorem Mix.at {cs : List (List Int)} {ws : List Int} {n : Nat} (M : Mix cs ws n) {i : Nat} (h : i < cs.length) : cs.getD i [] ∈ cs := by
  rw [List.getD_eq_getElem?_getD, List.getElem?_eq_getElem h]
  exact List.getElem_mem h
theorem Mix.wat {cs : List (List Int)} {ws : List Int} {n : Nat} (M : Mix cs ws n) {i : Nat} (h : i < cs.length) : ws.getD i 0 ∈ ws := by
  rw [List.getD_eq_getElem?_getD, List.getElem?_eq_getElem (by rw [M.wl]; exact h)]
  exact List.getElem_mem _
theorem Mix.sp {cs : List (List Int)} {ws : List Int} {n : Nat} (M : Mix cs ws n) {i : Nat} (h : i < cs.length) : 0 < (cs.getD i []).sum := (M.con _ (M.at h)).amt.pos
theorem lcm_pos {cs : List (List Int)} {ws : List Int} {n : Nat} (M : Mix cs ws n) : ∀ i, i ≤ cs.length → 0 < lcmZ cs i
  | 0, _ => by first | (show (0 : Int) < 1; decide) | (show (1 : Int) ≤ 2 ^ 0; decide)
  | i + 1, h => by
    have h1 := lcm_pos M i (by omega)
    have h2 := M.sp (i := i) (by omega)
    have := Nat.lcm_pos (m := (lcmZ cs i).natAbs) (n := (cs.getD i []).sum.natAbs) (by omega) (by omega)
    show 0 < ((Nat.lcm _ _ : Nat) : Int)
    omega
theorem prod_pos {cs : List (List Int)} {ws : List Int} {n : Nat} (M : Mix cs ws n) : ∀ i, i ≤ cs.length → 0 < prodZ cs i
  | 0, _ => by first | (show (0 : Int) < 1; decide) | (show (1 : Int) ≤ 2 ^ 0; decide)
  | i + 1, h => Int.mul_pos (prod_pos M i (by omega)) (M.sp (by omega))
theorem two_mul' {x y : Int} {a b : Nat} (hx : x ≤ 2 ^ a) (hy : y ≤ 2 ^ b) (h0 : 0 ≤ y) : x * y ≤ 2 ^ (a + b) := by
  rw [Int.pow_add]
  exact Int.mul_le_mul hx hy h0 (Int.le_of_lt (Int.pow_pos (by decide)))
theorem prod_le {cs : List (List Int)} {ws : List Int} {n : Nat} (M : Mix cs ws n) : ∀ i, i ≤ cs.length → prodZ cs i ≤ 2 ^ (102 * i)
  | 0, _ => by first | (show (0 : Int) < 1; decide) | (show (1 : Int) ≤ 2 ^ 0; decide)
  | i + 1, h => by
    have h1 := prod_le M i (by omega)
    exact two_mul' (a := 102 * i) (b := 102) h1 (Int.le_of_lt (M.small _ (M.at (by omega)))) (Int.le_of_lt (M.sp (by omega)))
theorem dvd_nat_of {a : Int} {n : Nat} (h : a.natAbs ∣ n) : a ∣ (n : Int) := Int.natAbs_dvd_natAbs.mp (by rw [Int.natAbs_natCast]; exact h)
theorem nat_dvd_of {n : Nat} {a : Int} (h : n ∣ a.natAbs) : (n : Int) ∣ a := Int.natAbs_dvd_natAbs.mp (by rw [Int.natAbs_natCast]; exact h)
theorem dvd_lcm {cs : List (List Int)} : ∀ (i k : Nat), k < i → (cs.getD k []).sum ∣ lcmZ cs i
  | 0, _, h => by omega
  | i + 1, k, h => by
    show _ ∣ ((Nat.lcm _ _ : Nat) : Int)
    by_cases e : k = i
    · subst e
      exact dvd_nat_of (Nat.dvd_lcm_right _ _)
    · have h1 := dvd_lcm (cs := cs) i k (by omega)
      exact Int.dvd_trans h1 (dvd_nat_of (Nat.dvd_lcm_left _ _))
theorem lcm_dvd {cs : List (List Int)} : ∀ i, lcmZ cs i ∣ prodZ cs i
  | 0 => Int.dvd_refl _
  | i + 1 => by
    have h1 := lcm_dvd (cs := cs) i
    show ((Nat.lcm _ _ : Nat) : Int) ∣ prodZ cs i * _
    refine nat_dvd_of (Nat.lcm_dvd ?_ ?_)
    · exact Int.natAbs_dvd_natAbs.mpr (Int.dvd_trans h1 (Int.dvd_mul_right _ _))
    · exact Int.natAbs_dvd_natAbs.mpr (Int.dvd_mul_left _ _)
theorem lcm_le {cs : List (List Int)} {ws : List Int} {n : Nat} (M : Mix cs ws n) (i : Nat) (h : i ≤ cs.length) : lcmZ cs i ≤ 2 ^ (102 * i) :=
  Int.le_trans (Int.le_of_dvd (prod_pos M i h) (lcm_dvd i)) (prod_le M i h)
/-! sums -/
def sumN (f : Nat → Int) : Nat → Int
  | 0 => 0
  | n + 1 => sumN f n + f n
theorem sum_range (f : Nat → Int) : ∀ n, ((List.range n).map f).sum = sumN f n
  | 0 => rfl
  | n + 1 => by
    rw [List.range_succ, List.map_append, List.sum_append, sum_range f n]
    show _ + (f n + 0) = _
    rw [Int.add_zero]
    rfl
theorem sumN_add (f g : Nat → Int) (a : Int) : ∀ n, sumN (fun s => f s + a * g s) n = sumN f n + a * sumN g n
  | 0 => by simp [sumN]
  | n + 1 => by
    show sumN _ n + (f n + a * g n) = (sumN f n + f n) + a * (sumN g n + g n)
    rw [sumN_add f g a n, Int.mul_add]
    omega
theorem sumN_take (c : List Int) : ∀ i, i ≤ c.length → sumN (fun s => c.getD s 0) i = (c.take i).sum
  | 0, _ => by rw [List.take_zero]; rfl
  | i + 1, h => by
    show sumN _ i + c.getD i 0 = _
    rw [sumN_take c i (by omega), List.take_add_one, List.getElem?_eq_getElem (by omega), List.sum_append, List.getD_eq_getElem?_getD, List.getElem?_eq_getElem (by omega)]
    show _ + c[i] = _ + (c[i] + 0)
    rw [Int.add_zero]
theorem sumN_list (c : List Int) : sumN (fun s => c.getD s 0) c.length = c.sum := by rw [sumN_take c _ (Nat.le_refl _), List.take_length]
theorem mix_sum {cs : List (List Int)} {ws : List Int} {n : Nat} (M : Mix cs ws n) {W : Int} : ∀ m, m ≤ cs.length → (∀ k, k < m → (cs.getD k []).sum ∣ W) → (mixL cs ws W n m).sum = W * wsum ws m
  | 0, _, _ => by
    unfold mixL
    rw [sum_range]
    have : ∀ n, sumN (fun s => mixN cs ws W s 0) n = 0 := fun n => by
      induction n with
      | zero => rfl
      | succ n ih => show _ + 0 = _; rw [ih]; rfl
    rw [this]
    show 0 = W * 0
    rw [Int.mul_zero]
  | m + 1, h, hd => by
    have ih := mix_sum M m (by omega) fun k hk => hd k (by omega)
    unfold mixL at ih ⊢
    rw [sum_range] at ih ⊢
    show sumN (fun s => mixN cs ws W s m + ws.getD m 0 * (W / (cs.getD m []).sum) * (cs.getD m []).getD s 0) n = _
    rw [sumN_add, ih]
    have hl := M.len _ (M.at (i := m) (by omega))
    rw [← hl, sumN_list, Int.mul_assoc, Int.ediv_mul_cancel (hd m (by omega))]
    show _ = W * (wsum ws m + ws.getD m 0)
    rw [Int.mul_add, Int.mul_comm (ws.getD m 0)]
theorem wsum_take (ws : List Int) : ∀ i, i ≤ ws.length → wsum ws i = (ws.take i).sum
  | 0, _ => by rw [List.take_zero]; rfl
  | i + 1, h => by
    show wsum ws i + ws.getD i 0 = _
    rw [wsum_take ws i (by omega), List.take_add_one, List.getElem?_eq_getElem (by omega), List.sum_append, List.getD_eq_getElem?_getD, List.getElem?_eq_getElem (by omega)]
    show _ + ws[i] = _ + (ws[i] + 0)
    rw [Int.add_zero]
theorem Mix.ws {cs : List (List Int)} {ws : List Int} {n : Nat} (M : Mix cs ws n) : wsum ws cs.length = ws.sum := by
  rw [wsum_take ws _ (by rw [M.wl]; exact Nat.le_refl _), ← M.wl, List.take_length]
theorem mix_nn {cs : List (List Int)} {ws : List Int} {n : Nat} (M : Mix cs ws n) {W : Int} (hW : 0 ≤ W) (s : Nat) : ∀ m, m ≤ cs.length → 0 ≤ mixN cs ws W s m
  | 0, _ => Int.le_refl _
  | m + 1, h => by
    have h1 := mix_nn M hW s m (by omega)
    have h2 := (M.w0 _ (M.wat (i := m) (by omega))).1
    have h3 : 0 ≤ W / (cs.getD m []).sum := Int.ediv_nonneg hW (Int.le_of_lt (M.sp (by omega)))
    have h4 : 0 ≤ (cs.getD m []).getD s 0 := by
      rw [List.getD_eq_getElem?_getD]
      cases e : (cs.getD m [])[s]? with
      | none => exact Int.le_refl _
      | some x => exact (M.con _ (M.at (i := m) (by omega))).nn x (List.mem_of_getElem? e)
    have h5 := Int.mul_nonneg (Int.mul_nonneg h2 h3) h4
    show 0 ≤ _ + _
    omega
theorem mix_len (cs : List (List Int)) (ws : List Int) (W : Int) (n m : Nat) : (mixL cs ws W n m).length = n := by unfold mixL; rw [List.length_map, List.length_range]
theorem mix_amt {cs : List (List Int)} {ws : List Int} {n : Nat} (M : Mix cs ws n) {W : Int} (hW : 0 < W) (hd : ∀ k, k < cs.length → (cs.getD k []).sum ∣ W) : Amt (mixL cs ws W n cs.length) := by
  refine ⟨fun x hx => ?_, ?_⟩
  · obtain ⟨s, _, e⟩ := List.mem_map.mp hx
    rw [← e]
    exact mix_nn M (Int.le_of_lt hW) s _ (Nat.le_refl _)
  · rw [mix_sum M _ (Nat.le_refl _) hd, M.ws]
    exact Int.mul_pos hW M.wp
theorem mix_scale {cs : List (List Int)} {ws : List Int} {n : Nat} (M : Mix cs ws n) {W t : Int} (s : Nat) : ∀ m, m ≤ cs.length → (∀ k, k < m → (cs.getD k []).sum ∣ W) → mixN cs ws (W * t) s m = t * mixN cs ws W s m
  | 0, _, _ => by show 0 = t * 0; rw [Int.mul_zero]
  | m + 1, h, hd => by
    have ih := mix_scale M (t := t) s m (by omega) fun k hk => hd k (by omega)
    obtain ⟨q, hq⟩ := hd m (by omega)
    have hs := M.sp (i := m) (by omega)
    show mixN cs ws (W * t) s m + _ * (W * t / _) * _ = t * (mixN cs ws W s m + _ * (W / _) * _)
    have e1 : W * t / (cs.getD m []).sum = q * t := by rw [hq, Int.mul_assoc, Int.mul_ediv_cancel_left _ (by omega)]
    have e2 : W / (cs.getD m []).sum = q := by rw [hq, Int.mul_ediv_cancel_left _ (by omega)]
    rw [ih, e1, e2, Int.mul_add]
    congr 1
    rw [← Int.mul_assoc, Int.mul_right_comm _ t, Int.mul_comm t]
theorem gcdF_scale (t : Nat) : ∀ (ns : List Int) (d : Nat), gcdF (t * d) (ns.map fun n => (t : Int) * n) = t * gcdF d ns
  | [], d => rfl
  | n :: r, d => by
    show gcdF (Nat.gcd (t * d) ((t : Int) * n).natAbs) _ = t * gcdF (Nat.gcd d n.natAbs) r
    rw [Int.natAbs_mul, Int.natAbs_natCast, Nat.gcd_mul_left, gcdF_scale t r]
theorem plain_scale {ns : List Int} {t : Int} (ht : 0 < t) (hg : 0 < gcdN ns) : plain (ns.map fun n => t * n) = plain ns := by
  obtain ⟨k, rfl⟩ := Int.eq_ofNat_of_zero_le (Int.le_of_lt ht)
  unfold plain
  have e : gcdN (ns.map fun n => (k : Int) * n) = k * gcdN ns := by
    have := gcdF_scale k ns 0
    rw [Nat.mul_zero] at this
    exact this
  rw [e, List.map_map]
  refine List.map_congr_left fun n _ => ?_
  show (k : Int) * n / ((k * gcdN ns : Nat) : Int) = _
  rw [Int.natCast_mul, Int.mul_ediv_mul_of_pos _ _ ht]
/-- over the product or over the least common multiple: the same content -/
theorem mix_same {cs : List (List Int)} {ws : List Int} {n : Nat} (M : Mix cs ws n) : plain (mixL cs ws (prodZ cs cs.length) n cs.length) = plain (mixL cs ws (lcmZ cs cs.length) n cs.length) := by
  obtain ⟨t, ht⟩ := lcm_dvd (cs := cs) cs.length
  have h1 := lcm_pos M cs.length (Nat.le_refl _)
  have h2 := prod_pos M cs.length (Nat.le_refl _)
  have h3 : 0 < t := by
    rcases Int.lt_or_le 0 t with h | h
    · exact h
    · have := Int.mul_nonpos_of_nonneg_of_nonpos (Int.le_of_lt h1) h
      omega
  have e : mixL cs ws (prodZ cs cs.length) n cs.length = (mixL cs ws (lcmZ cs cs.length) n cs.length).map fun x => t * x := by
    unfold mixL
    rw [List.map_map]
    refine List.map_congr_left fun s _ => ?_
    rw [ht]
    exact mix_scale M s _ (Nat.le_refl _) fun k hk => dvd_lcm _ k hk
  rw [e]
  exact plain_scale h3 (gcdN_pos (mix_amt M h1 fun k hk => dvd_lcm _ k hk))
/-- one content alone -/
theorem mix_one {c : List Int} {x : Int} (M : Mix [c] [x] c.length) : plain (mixL [c] [x] (lcmZ [c] 1) c.length 1) = c := by
  have hc : Con c := M.con c List.mem_cons_self
  have hs := hc.amt.pos
  have hx : 0 < x := by
    have := M.wp
    simpa using this
  have e1 : lcmZ [c] 1 = c.sum := by
    show ((Nat.lcm 1 c.sum.natAbs : Nat) : Int) = _
    rw [Nat.lcm_one_left]
    omega
  have e : mixL [c] [x] (lcmZ [c] 1) c.length 1 = c.map fun n => x * n := by
    rw [e1]
    unfold mixL
    refine List.ext_getElem (by simp) fun i h1 h2 => ?_
    simp only [List.getElem_map, List.getElem_range]
    show 0 + x * (c.sum / c.sum) * c.getD i 0 = _
    rw [Int.ediv_self (by omega), Int.mul_one, Int.zero_add, List.getD_eq_getElem?_getD, List.getElem?_eq_getElem (by simpa using h2)]
    rfl
  rw [e, plain_scale hx (gcdN_pos hc.amt), plain_of_one hc.g]
end Ma
end

section
set_option Elab.async false
set_option linter.all false
set_option maxHeartbeats 1000000
namespace Ma
/-! histories: what is undone -/
/-- whether a number is a power, by dividing -/
def powF : Nat → Int → Int → Bool
  | 0, _, _ => false
  | f + 1, b, S => if S % b = 0 then powF f b (S / b) else decide (S = 1)
def powB (b S : Int) : Bool := powF S.toNat b S
theorem div_lt' {b S : Int} (hb : 2 ≤ b) (hS : 1 ≤ S) (h : S % b = 0) : 1 ≤ S / b ∧ S / b < S := by
  have e := Int.emod_add_mul_ediv S b
  rw [h, Int.zero_add] at e
  have p : 0 < S / b := by
    rcases Int.lt_or_le 0 (S / b) with z | z
    · exact z
    · have := Int.mul_le_mul_of_nonneg_left z (show 0 ≤ b by omega)
      omega
  have h2 := Int.mul_le_mul_of_nonneg_right hb (Int.le_of_lt p)
  exact ⟨p, by omega⟩
theorem powF_more {b : Int} (hb : 2 ≤ b) : ∀ (f : Nat) (S : Int), 1 ≤ S → S ≤ f → ∀ f' : Nat, S ≤ f' → powF f' b S = powF f b S
  | 0, S, h1, h2, _, _ => by omega
  | f + 1, S, h1, h2, f', h3 => by
    obtain ⟨g, rfl⟩ : ∃ g, f' = g + 1 := ⟨f' - 1, by omega⟩
    unfold powF
    by_cases h : S % b = 0
    · obtain ⟨p, q⟩ := div_lt' hb h1 h
      rw [if_pos h, if_pos h]
      exact powF_more hb f _ p (by omega) g (by omega)
    · rw [if_neg h, if_neg h]
theorem powB_div {b S : Int} (hb : 2 ≤ b) (hS : 1 ≤ S) (h : S % b = 0) : powB b S = powB b (S / b) := by
  obtain ⟨p, q⟩ := div_lt' hb hS h
  unfold powB
  obtain ⟨g, hg⟩ : ∃ g, S.toNat = g + 1 := ⟨S.toNat - 1, by omega⟩
  rw [hg, powF, if_pos h]
  exact powF_more hb _ _ p (by omega) _ (by omega)
theorem powB_end {b S : Int} (hS : 1 ≤ S) (h : S % b ≠ 0) : powB b S = decide (S = 1) := by
  unfold powB
  obtain ⟨g, hg⟩ : ∃ g, S.toNat = g + 1 := ⟨S.toNat - 1, by omega⟩
  rw [hg, powF, if_neg h]
theorem powF_ex {b : Int} (hb : 2 ≤ b) : ∀ (f : Nat) (S : Int), powF f b S = true → ∃ n : Nat, S = b ^ n
  | 0, S, h => by cases h
  | f + 1, S, h => by
    unfold powF at h
    by_cases hz : S % b = 0
    · rw [if_pos hz] at h
      obtain ⟨n, hn⟩ := powF_ex hb f _ h
      refine ⟨n + 1, ?_⟩
      have e := Int.emod_add_mul_ediv S b
      rw [hz, Int.zero_add, hn] at e
      rw [Int.pow_succ, Int.mul_comm]
      exact e.symm
    · rw [if_neg hz] at h
      exact ⟨0, by rw [Int.pow_zero]; exact of_decide_eq_true h⟩
theorem powB_ex {b S : Int} (hb : 2 ≤ b) (h : powB b S = true) : ∃ n : Nat, S = b ^ n := powF_ex hb _ _ h
theorem one_mod {b : Int} (hb : 2 ≤ b) : (1 : Int) % b ≠ 0 := by
  rw [Int.emod_eq_of_lt (by decide) (by omega)]
  decide
theorem pow_pos' {b : Int} (hb : 2 ≤ b) (n : Nat) : 1 ≤ b ^ n := Int.pow_pos (by omega)
theorem powB_pow {b : Int} (hb : 2 ≤ b) : ∀ n : Nat, powB b (b ^ n) = true
  | 0 => by
    rw [Int.pow_zero, powB_end (by decide) (one_mod hb)]
    rfl
  | n + 1 => by
    have e : b ^ (n + 1) % b = 0 := by rw [Int.pow_succ]; exact Int.mul_emod_left _ _
    rw [powB_div hb (pow_pos' hb _) e, Int.pow_succ, Int.mul_ediv_cancel _ (by omega)]
    exact powB_pow hb n
theorem pow_dvd {b S : Int} {n : Nat} (h : S = b ^ n) (h1 : S ≠ 1) : b ∣ S := by
  cases n with
  | zero => exact absurd (by rw [h, Int.pow_zero]) h1
  | succ n => rw [h, Int.pow_succ]; exact Int.dvd_mul_left _ _
/-! the last liquid -/
def fit (ns : List Int) (a b : Int) (i : Nat) : Bool := decide (ns.getD i 0 * b ≥ (b - a) * ns.sum)
def mark (ns : List Int) (a : Int) (i : Nat) : Bool := decide (a = 1) || decide (ns.getD i 0 % a ≠ 0)
def marked (ns : List Int) (a : Int) : List Nat := (List.range ns.length).filter (mark ns a)
def lastL (ns : List Int) (a b : Int) : Option Nat := if a > 1 ∧ (marked ns a).length > 1 then none else ((marked ns a).filter (fit ns a b)).getLast?
theorem lastL_some {ns : List Int} {a b : Int} {c : Nat} (h : lastL ns a b = some c) : c < ns.length ∧ fit ns a b c = true := by
  unfold lastL at h
  split at h
  · cases h
  · have h1 := List.mem_of_getLast? h
    obtain ⟨h2, h3⟩ := List.mem_filter.mp h1
    unfold marked at h2
    exact ⟨List.mem_range.mp (List.mem_filter.mp h2).1, h3⟩
/-! undone -/
def bef (ns : List Int) (a b : Int) (c : Nat) : List Int := (ns.map fun n => n * b).set c (ns.getD c 0 * b - (b - a) * ns.sum)
def befo (ns : List Int) (a b : Int) (c : Nat) : List Int := plain (bef ns a b c)
theorem bef_len (ns : List Int) (a b : Int) (c : Nat) : (bef ns a b c).length = ns.length := by unfold bef; simp
theorem befo_len (ns : List Int) (a b : Int) (c : Nat) : (befo ns a b c).length = ns.length := by unfold befo; rw [plain_len, bef_len]
theorem bef_sum {ns : List Int} {a b : Int} {c : Nat} (h : c < ns.length) : (bef ns a b c).sum = a * ns.sum := by
  unfold bef
  rw [sum_set _ _ _ (by rw [List.length_map]; exact h), sum_map_mul]
  have e : (ns.map fun n => n * b).getD c 0 = ns.getD c 0 * b := by
    rw [List.getD_eq_getElem?_getD, List.getD_eq_getElem?_getD, List.getElem?_map, List.getElem?_eq_getElem h]
    rfl
  rw [e, Int.sub_mul, Int.mul_comm ns.sum b]
  omega
theorem bef_get {ns : List Int} {a b : Int} {c i : Nat} (hi : i < ns.length) : (bef ns a b c)[i]? = some (ns.getD i 0 * b - if i = c then (b - a) * ns.sum else 0) := by
  unfold bef
  rw [List.getElem?_set]
  by_cases h : c = i
  · subst h
    rw [if_pos rfl, if_pos (by rw [List.length_map]; exact hi), if_pos rfl]
  · rw [if_neg h, if_neg (fun z => h z.symm), List.getElem?_map, List.getD_eq_getElem?_getD, List.getElem?_eq_getElem hi, Int.sub_zero]
    rfl
theorem pre_get {ns : List Int} {a b : Int} {c i : Nat} (hi : i < ns.length) : (pre ns a b c)[i]? = some (ns.getD i 0 * a + if i = c then (b - a) * ns.sum else 0) := by
  unfold pre
  rw [List.getElem?_set]
  by_cases h : c = i
  · subst h
    rw [if_pos rfl, if_pos (by rw [List.length_map]; exact hi), if_pos rfl]
  · rw [if_neg h, if_neg (fun z => h z.symm), List.getElem?_map, List.getD_eq_getElem?_getD, List.getElem?_eq_getElem hi, Int.add_zero]
    rfl
theorem getD_of {ns : List Int} {i : Nat} {x : Int} (h : ns[i]? = some x) : ns.getD i 0 = x := by rw [List.getD_eq_getElem?_getD, h]; rfl
theorem getD_in {ns : List Int} {i : Nat} (h : i < ns.length) : ns.getD i 0 ∈ ns := by
  rw [List.getD_eq_getElem?_getD, List.getElem?_eq_getElem h]
  exact List.getElem_mem h
theorem mem_at {ns : List Int} {x : Int} (h : x ∈ ns) : ∃ i, i < ns.length ∧ ns.getD i 0 = x := by
  obtain ⟨i, hi, e⟩ := List.mem_iff_getElem.mp h
  exact ⟨i, hi, by rw [List.getD_eq_getElem?_getD, List.getElem?_eq_getElem hi]; exact e⟩
theorem bef_amt {ns : List Int} {a b : Int} {c : Nat} (h : Con ns) (k : Kep a b) (hc : c < ns.length) (hf : fit ns a b c = true) : Amt (bef ns a b c) := by
  have hs := h.amt.pos
  have k1 := k.a1
  have k2 := k.ab
  refine ⟨fun n hn => ?_, ?_⟩
  · obtain ⟨i, hi, e⟩ := mem_at hn
    rw [bef_len] at hi
    rw [getD_of (bef_get hi)] at e
    rw [← e]
    have h0 := h.nn _ (getD_in hi)
    have h1 := Int.mul_nonneg h0 (show 0 ≤ b by omega)
    by_cases hic : i = c
    · subst hic
      rw [if_pos rfl]
      have := of_decide_eq_true hf
      omega
    · rw [if_neg hic]
      omega
  · rw [bef_sum hc]
    exact Int.mul_pos (by omega) hs
theorem befo_con {ns : List Int} {a b : Int} {c : Nat} (h : Con ns) (k : Kep a b) (hc : c < ns.length) (hf : fit ns a b c = true) : Con (befo ns a b c) :=
  plain_con (bef_amt h k hc hf) (by rw [bef_len]; exact h.len) (by rw [bef_len]; exact h.le8)
theorem befo_lt {ns : List Int} {a b : Int} {c : Nat} (h : Con ns) (k : Kep a b) (hc : c < ns.length) (hf : fit ns a b c = true) (hd : b ∣ ns.sum) : (befo ns a b c).sum < ns.sum := by
  have hs := h.amt.pos
  have k1 := k.a1
  have k2 := k.ab
  have hA := bef_amt h k hc hf
  have e := plain_sum hA
  rw [bef_sum hc] at e
  have hb : b.natAbs ∣ gcdN (bef ns a b c) := dvd_gcdN.mpr fun n hn => by
    obtain ⟨i, hi, e⟩ := mem_at hn
    rw [bef_len] at hi
    rw [getD_of (bef_get hi)] at e
    rw [← e]
    refine Int.natAbs_dvd_natAbs.mpr (Int.dvd_sub (Int.dvd_mul_left _ _) ?_)
    split
    · exact Int.dvd_trans hd (Int.dvd_mul_left _ _)
    · exact Int.dvd_zero _
  have hg := Nat.le_of_dvd (gcdN_pos hA) hb
  have hp : 0 ≤ (plain (bef ns a b c)).sum := sum_nn (befo_con h k hc hf).nn
  have h1 : (befo ns a b c).sum * b ≤ (befo ns a b c).sum * ((gcdN (bef ns a b c) : Nat) : Int) := Int.mul_le_mul_of_nonneg_left (by omega) hp
  have h2 : (befo ns a b c).sum * ((gcdN (bef ns a b c) : Nat) : Int) = a * ns.sum := e
  have h3 : a * ns.sum < b * ns.sum := Int.mul_lt_mul_of_pos_right k2 hs
  rw [h2] at h1
  have h4 : (befo ns a b c).sum * b < ns.sum * b := by rw [Int.mul_comm ns.sum b]; omega
  exact Int.lt_of_mul_lt_mul_right h4 (by omega)
def undo : Nat → List Int → Int → Int → List Nat × List Int
  | 0, ns, _, _ => ([], ns)
  | f + 1, ns, a, b => if ns.sum ≠ 1 ∧ powB b ns.sum = true then
      match lastL ns a b with
      | none => ([], ns)
      | some c => (c :: (undo f (befo ns a b c) a b).1, (undo f (befo ns a b c) a b).2)
    else ([], ns)
def und (ns : List Int) (a b : Int) : List Nat × List Int := undo ns.sum.toNat ns a b
structure Goes (ns : List Int) (a b : Int) (c : Nat) : Prop where
  s1 : ns.sum ≠ 1
  pw : powB b ns.sum = true
  la : lastL ns a b = some c
theorem Goes.con {ns : List Int} {a b : Int} {c : Nat} (G : Goes ns a b c) (h : Con ns) (k : Kep a b) : Con (befo ns a b c) := befo_con h k (lastL_some G.la).1 (lastL_some G.la).2
theorem Goes.dvd {ns : List Int} {a b : Int} {c : Nat} (G : Goes ns a b c) (k : Kep a b) : b ∣ ns.sum := by
  obtain ⟨n, hn⟩ := powB_ex (by have := k.a1; have := k.ab; omega) G.pw
  exact pow_dvd hn G.s1
theorem Goes.lt {ns : List Int} {a b : Int} {c : Nat} (G : Goes ns a b c) (h : Con ns) (k : Kep a b) : (befo ns a b c).sum < ns.sum := befo_lt h k (lastL_some G.la).1 (lastL_some G.la).2 (G.dvd k)
theorem undo_more {a b : Int} (k : Kep a b) : ∀ (f : Nat) (ns : List Int), Con ns → ns.sum ≤ f → ∀ f' : Nat, ns.sum ≤ f' → undo f' ns a b = undo f ns a b
  | 0, ns, h, h1, _, _ => by have := h.amt.pos; omega
  | f + 1, ns, h, h1, f', h2 => by
    have hs := h.amt.pos
    obtain ⟨g, rfl⟩ : ∃ g, f' = g + 1 := ⟨f' - 1, by omega⟩
    unfold undo
    by_cases hc : ns.sum ≠ 1 ∧ powB b ns.sum = true
    · rw [if_pos hc, if_pos hc]
      cases hl : lastL ns a b with
      | none => rfl
      | some c =>
        have G : Goes ns a b c := ⟨hc.1, hc.2, hl⟩
        have hlt := G.lt h k
        have := undo_more k f _ (G.con h k) (by omega) g (by omega)
        dsimp only
        rw [this]
    · rw [if_neg hc, if_neg hc]
theorem und_go {ns : List Int} {a b : Int} {c : Nat} (k : Kep a b) (h : Con ns) (G : Goes ns a b c) : und ns a b = (c :: (und (befo ns a b c) a b).1, (und (befo ns a b c) a b).2) := by
  have hs := h.amt.pos
  have hlt := G.lt h k
  have hc2 := G.con h k
  have e := undo_more k (befo ns a b c).sum.toNat _ hc2 (by omega) (ns.sum.toNat - 1) (by omega)
  unfold und
  rw [← e]
  obtain ⟨g, hg⟩ : ∃ g, ns.sum.toNat = g + 1 := ⟨ns.sum.toNat - 1, by omega⟩
  rw [hg, Nat.add_sub_cancel, undo, if_pos ⟨G.s1, G.pw⟩, G.la]
theorem und_stop {ns : List Int} {a b : Int} (h : Con ns) (hn : ∀ c, ¬ Goes ns a b c) : und ns a b = ([], ns) := by
  have hs := h.amt.pos
  unfold und
  obtain ⟨g, hg⟩ : ∃ g, ns.sum.toNat = g + 1 := ⟨ns.sum.toNat - 1, by omega⟩
  rw [hg, undo]
  split
  · rename_i hc
    cases hl : lastL ns a b with
    | none => rfl
    | some c => exact absurd ⟨hc.1, hc.2, hl⟩ (hn c)
  · rfl
theorem und_pure {ns : List Int} {a b : Int} (h : Con ns) (h1 : ns.sum = 1) : und ns a b = ([], ns) := und_stop h fun c G => G.s1 h1
/-- what is undone so far -/
inductive Un (a b : Int) : List Int → List Nat → List Int → Prop
  | nil {ns : List Int} : Un a b ns [] ns
  | go {ns : List Int} {us : List Nat} {ms : List Int} {c : Nat} : Un a b ns us ms → Goes ms a b c → Un a b ns (us ++ [c]) (befo ms a b c)
theorem Un.con {a b : Int} (k : Kep a b) {ns : List Int} {us : List Nat} {ms : List Int} (u : Un a b ns us ms) (h : Con ns) : Con ms := by
  induction u with
  | nil => exact h
  | go u G ih => exact G.con ih k
theorem Un.sum {a b : Int} (k : Kep a b) {ns : List Int} {us : List Nat} {ms : List Int} (u : Un a b ns us ms) (h : Con ns) : ms.sum ≤ ns.sum := by
  induction u with
  | nil => exact Int.le_refl _
  | go u G ih => have := G.lt (u.con k h) k; omega
theorem Un.len {a b : Int} {ns : List Int} {us : List Nat} {ms : List Int} (u : Un a b ns us ms) : ms.length = ns.length := by
  induction u with
  | nil => rfl
  | go u G ih => rw [befo_len]; exact ih
theorem Un.liq {a b : Int} {ns : List Int} {us : List Nat} {ms : List Int} (u : Un a b ns us ms) : ∀ c ∈ us, c < ns.length := by
  induction u with
  | nil => intro c hc; cases hc
  | go u G ih =>
    intro c hc
    rcases List.mem_append.mp hc with z | z
    · exact ih c z
    · rw [List.mem_singleton.mp z, ← u.len]
      exact (lastL_some G.la).1
theorem Un.und {a b : Int} (k : Kep a b) {ns : List Int} {us : List Nat} {ms : List Int} (u : Un a b ns us ms) (h : Con ns) : und ns a b = (us ++ (und ms a b).1, (und ms a b).2) := by
  induction u with
  | nil => rfl
  | go u G ih =>
    rw [ih, und_go k (u.con k h) G, List.append_assoc]
    rfl
/-- each undone one halves the bottom at least -/
theorem Goes.half {ns : List Int} {a b : Int} {c : Nat} (G : Goes ns a b c) (h : Con ns) (k : Kep a b) : (befo ns a b c).sum < ns.sum := G.lt h k
end Ma
namespace Ma
theorem pow_gap {b : Int} (hb : 2 ≤ b) {i j : Nat} (h : b ^ i < b ^ j) : b ^ i * b ≤ b ^ j := by
  have hij : i < j := by
    rcases Nat.lt_or_ge i j with z | z
    · exact z
    · have h1 : b ^ j ≤ b ^ i := by
        obtain ⟨d, rfl⟩ := Nat.exists_eq_add_of_le z
        rw [Int.pow_add]
        have h2 := pow_pos' hb d
        have h3 := pow_pos' hb j
        have := Int.mul_le_mul_of_nonneg_left h2 (show 0 ≤ b ^ j by omega)
        omega
      omega
  obtain ⟨d, rfl⟩ := Nat.exists_eq_add_of_le (show i + 1 ≤ j from hij)
  rw [Int.pow_add, Int.pow_succ]
  have h2 := pow_pos' hb d
  have h3 := pow_pos' hb i
  have h4 : 0 ≤ b ^ i * b := Int.mul_nonneg (by omega) (by omega)
  have := Int.mul_le_mul_of_nonneg_left h2 h4
  omega
/-- each top-up that is undone before another one makes the bottom less by half at least -/
theorem Un.bound {a b : Int} (k : Kep a b) {ns : List Int} {us : List Nat} {ms : List Int} (u : Un a b ns us ms) (h : Con ns) : ∀ c, Goes ms a b c → ms.sum * 2 ^ us.length ≤ ns.sum := by
  have hb : 2 ≤ b := by have := k.a1; have := k.ab; omega
  induction u with
  | nil => intro c _; rw [List.length_nil, Int.pow_zero, Int.mul_one]; exact Int.le_refl _
  | go u G ih =>
    rename_i us ms c0
    intro c G2
    have h1 := ih _ G
    have h2 := G.lt (u.con k h) k
    obtain ⟨i, e1⟩ := powB_ex hb G2.pw
    obtain ⟨j, e2⟩ := powB_ex hb G.pw
    have h3 : (befo ms a b c0).sum * b ≤ ms.sum := by
      rw [e1, e2] at h2 ⊢
      exact pow_gap hb h2
    have hp := (G.con (u.con k h) k).amt.pos
    have h4 : (befo ms a b c0).sum * 2 ≤ ms.sum := Int.le_trans (Int.mul_le_mul_of_nonneg_left hb (by omega)) h3
    have h5 : (befo ms a b c0).sum * 2 * 2 ^ us.length ≤ ms.sum * 2 ^ us.length := Int.mul_le_mul_of_nonneg_right h4 (Int.le_of_lt (Int.pow_pos (by decide)))
    rw [List.length_append, List.length_singleton, Int.pow_succ, Int.mul_comm ((2 : Int) ^ us.length) 2, ← Int.mul_assoc]
    exact Int.le_trans h5 h1
theorem Un.len_lt {a b : Int} (k : Kep a b) {ns : List Int} {us : List Nat} {ms : List Int} (u : Un a b ns us ms) (h : Con ns) {c : Nat} (G : Goes ms a b c) {n : Nat} (hn : ns.sum < 2 ^ n) : us.length < n := by
  have h1 := u.bound k h c G
  have hp := (u.con k h).amt.pos
  have h2 : (1 : Int) * 2 ^ us.length ≤ ms.sum * 2 ^ us.length := Int.mul_le_mul_of_nonneg_right (by omega) (Int.le_of_lt (Int.pow_pos (by decide)))
  rw [Int.one_mul] at h2
  have h3 : (2 : Int) ^ us.length < 2 ^ n := Int.lt_of_le_of_lt (Int.le_trans h2 h1) hn
  rcases Nat.lt_or_ge us.length n with z | z
  · exact z
  · obtain ⟨d, hd⟩ := Nat.exists_eq_add_of_le z
    rw [hd, Int.pow_add] at h3
    have h4 := pow_pos' (b := 2) (by decide) d
    have h5 := pow_pos' (b := 2) (by decide) n
    have := Int.mul_le_mul_of_nonneg_left h4 (show (0 : Int) ≤ 2 ^ n by omega)
    omega
theorem go_front {a b : Int} {ns : List Int} {c : Nat} (G : Goes ns a b c) {us : List Nat} {ms : List Int} (u : Un a b (befo ns a b c) us ms) : Un a b ns (c :: us) ms := by
  generalize hx : befo ns a b c = x at u
  induction u with
  | nil => rw [← hx]; exact .go .nil G
  | go u G2 ih => exact .go ih G2
theorem und_un {a b : Int} (k : Kep a b) : ∀ (f : Nat) (ns : List Int), Con ns → ns.sum ≤ f → Un a b ns (undo f ns a b).1 (undo f ns a b).2
  | 0, ns, h, h1 => by have := h.amt.pos; omega
  | f + 1, ns, h, h1 => by
    unfold undo
    split
    · rename_i hc
      cases hl : lastL ns a b with
      | none => exact .nil
      | some c =>
        have G : Goes ns a b c := ⟨hc.1, hc.2, hl⟩
        have hlt := G.lt h k
        have ih := und_un k f _ (G.con h k) (by omega)
        dsimp only
        exact go_front G ih
    · exact .nil
theorem und_un' {a b : Int} (k : Kep a b) {ns : List Int} (h : Con ns) : Un a b ns (und ns a b).1 (und ns a b).2 := und_un k _ _ h (by have := h.amt.pos; omega)
theorem und_con {a b : Int} (k : Kep a b) {ns : List Int} (h : Con ns) : Con (und ns a b).2 := (und_un' k h).con k h
theorem und_len {a b : Int} (k : Kep a b) {ns : List Int} (h : Con ns) : (und ns a b).2.length = ns.length := (und_un' k h).len
theorem und_liq {a b : Int} (k : Kep a b) {ns : List Int} (h : Con ns) : ∀ c ∈ (und ns a b).1, c < ns.length := (und_un' k h).liq
theorem und_size {a b : Int} (k : Kep a b) {ns : List Int} (h : Con ns) {n : Nat} (hn : ns.sum < 2 ^ n) : (und ns a b).1.length ≤ n := by
  have u := und_un' k h
  generalize (und ns a b).1 = us at u
  generalize (und ns a b).2 = ms at u
  cases u with
  | nil => exact Nat.zero_le _
  | go u G =>
    have := u.len_lt k h G hn
    rw [List.length_append]
    exact this
end Ma
namespace Ma
/-! the histories told -/
def startOf (ns : List Int) : Nat := ns.findIdx fun n => n == 1
theorem start_at {ns : List Int} (hn : ∀ n ∈ ns, 0 ≤ n) (h : ns.sum = 1) : startOf ns < ns.length ∧ ns[startOf ns]? = some 1 := by
  have h1 : ∃ n ∈ ns, (n == 1) = true := by
    refine Classical.byContradiction fun z => ?_
    have h2 : ∀ n ∈ ns, n = 0 := fun n hm => by
      have h3 := hn n hm
      have h4 := le_sum hn hm
      have h5 : n ≠ 1 := fun e => z ⟨n, hm, by rw [e]; rfl⟩
      omega
    have h6 : ns.sum = 0 := by
      clear z hn h
      induction ns with
      | nil => rfl
      | cons n r ih =>
        rw [List.sum_cons, h2 n List.mem_cons_self, ih fun m hm => h2 m (List.mem_cons_of_mem _ hm)]
        rfl
    omega
  have hlt : startOf ns < ns.length := List.findIdx_lt_length.mpr h1
  refine ⟨hlt, ?_⟩
  have h7 := List.findIdx_getElem (w := hlt)
  rw [List.getElem?_eq_getElem hlt]
  have h8 : ns[startOf ns] = 1 := eq_of_beq h7
  rw [h8]
theorem start_min {ns : List Int} {m : Nat} (h : m < startOf ns) : ns.getD m 0 ≠ 1 := by
  have h1 := List.not_of_lt_findIdx h
  intro e
  have hl : m < ns.length := Nat.lt_of_lt_of_le h List.findIdx_le_length
  rw [List.getD_eq_getElem?_getD, List.getElem?_eq_getElem hl] at e
  have e2 : ns[m] = 1 := e
  rw [e2] at h1
  cases h1
def shortsOf (s : Nat) (row : List Nat) (a b : Int) : List (Nat × List Nat) :=
  if a = 1 ∧ b = 2 then match row with
    | [] => [(s, [])]
    | c :: r => [(s, c :: r), (c, s :: r)]
  else [(s, row)]
def shorts (ns : List Int) (a b : Int) : List (Nat × List Nat) :=
  if (und ns a b).2.sum = 1 then shortsOf (startOf (und ns a b).2) (und ns a b).1.reverse a b else []
def pad (n : Nat) (h : Nat × List Nat) : Option (Nat × List Nat) := if h.2.length ≤ n then some (h.1, List.replicate (n - h.2.length) h.1 ++ h.2) else none
def hofl (ns : List Int) (a b : Int) (n : Nat) : List (Nat × List Nat) := (shorts ns a b).filterMap (pad n)
theorem shorts_liq {a b : Int} (k : Kep a b) {ns : List Int} (h : Con ns) : ∀ x ∈ shorts ns a b, x.1 < ns.length ∧ ∀ c ∈ x.2, c < ns.length := by
  intro x hx
  unfold shorts at hx
  split at hx
  · rename_i h1
    have hs := (start_at (und_con k h).nn h1).1
    rw [und_len k h] at hs
    have hl := und_liq k h
    have hr : ∀ c ∈ (und ns a b).1.reverse, c < ns.length := fun c hc => hl c (List.mem_reverse.mp hc)
    generalize (und ns a b).1.reverse = row at *
    generalize startOf (und ns a b).2 = s at *
    unfold shortsOf at hx
    split at hx
    · cases row with
      | nil =>
        rw [List.mem_singleton.mp hx]
        exact ⟨hs, hr⟩
      | cons c r =>
        rcases List.mem_cons.mp hx with z | z
        · rw [z]; exact ⟨hs, hr⟩
        · rw [List.mem_singleton.mp z]
          refine ⟨hr c List.mem_cons_self, fun d hd => ?_⟩
          rcases List.mem_cons.mp hd with y | y
          · rw [y]; exact hs
          · exact hr d (List.mem_cons_of_mem _ y)
    · rw [List.mem_singleton.mp hx]
      exact ⟨hs, hr⟩
  · cases hx
theorem shorts_size {a b : Int} (k : Kep a b) {ns : List Int} (h : Con ns) {n : Nat} (hn : ns.sum < 2 ^ n) : ∀ x ∈ shorts ns a b, x.2.length ≤ n := by
  have hz := und_size k h hn
  intro x hx
  unfold shorts at hx
  split at hx
  · have hr : (und ns a b).1.reverse.length ≤ n := by rw [List.length_reverse]; exact hz
    generalize (und ns a b).1.reverse = row at *
    unfold shortsOf at hx
    split at hx
    · cases row with
      | nil =>
        rw [List.mem_singleton.mp hx]
        exact hr
      | cons c r =>
        rcases List.mem_cons.mp hx with z | z
        · rw [z]; exact hr
        · rw [List.mem_singleton.mp z]; exact hr
    · rw [List.mem_singleton.mp hx]
      exact hr
  · cases hx
end Ma
namespace Ma
/-! the last liquid, in the law's words -/
def greatL (ns : List Int) (a b : Int) : List Nat := (List.range ns.length).filter fun i => decide (ns.getD i 0 ≥ (b - a) * ns.sum / b)
def oddL (ns : List Int) (a : Int) : List Nat := (List.range ns.length).filter fun i => decide (ns.getD i 0 % a > 0)
def lastsL (ns : List Int) (a b : Int) : List Nat := if a = 1 then greatL ns a b else (greatL ns a b).filter fun i => decide (oddL ns a = [i])
theorem great_fit {ns : List Int} {a b : Int} (hb : 0 < b) (hd : b ∣ ns.sum) : greatL ns a b = (List.range ns.length).filter (fit ns a b) := by
  unfold greatL
  refine List.filter_congr fun i _ => ?_
  unfold fit
  obtain ⟨q, hq⟩ := hd
  have e : (b - a) * ns.sum = (b - a) * q * b := by rw [hq, Int.mul_comm b q, Int.mul_assoc]
  rw [e, Int.mul_ediv_cancel _ (by omega)]
  by_cases h : ns.getD i 0 ≥ (b - a) * q
  · rw [decide_eq_true h, decide_eq_true (Int.mul_le_mul_of_nonneg_right h (by omega))]
  · rw [decide_eq_false h, decide_eq_false fun z => h (Int.le_of_mul_le_mul_right z hb)]
theorem range_single {p : Nat → Bool} {c : Nat} : ∀ n, c < n → (List.range n).filter (fun i => p i && decide (i = c)) = if p c = true then [c] else []
  | 0, h => by omega
  | n + 1, h => by
    rw [List.range_succ, List.filter_append]
    by_cases e : c = n
    · subst e
      have h1 : (List.range c).filter (fun i => p i && decide (i = c)) = [] := by
        rw [List.filter_eq_nil_iff]
        intro i hi
        have := List.mem_range.mp hi
        rw [decide_eq_false (show ¬ i = c by omega), Bool.and_false]
        exact Bool.false_ne_true
      rw [h1, List.nil_append, List.filter_cons, decide_eq_true rfl, Bool.and_true]
      cases p c <;> rfl
    · rw [range_single n (by omega), List.filter_cons, decide_eq_false (show ¬ n = c by omega), Bool.and_false]
      simp
theorem lasts_last {ns : List Int} {a b : Int} (k : Kep a b) (hd : b ∣ ns.sum) : (lastsL ns a b).getLast? = lastL ns a b := by
  have k1 := k.a1
  have k2 := k.ab
  unfold lastsL lastL
  rw [great_fit (a := a) (by omega) hd]
  by_cases h1 : a = 1
  · rw [if_pos h1, if_neg (by omega)]
    have e : marked ns a = List.range ns.length := by
      unfold marked
      rw [List.filter_eq_self]
      intro i _
      unfold mark
      rw [decide_eq_true h1]
      rfl
    rw [e]
  · rw [if_neg h1]
    have e : oddL ns a = marked ns a := by
      unfold oddL marked
      refine List.filter_congr fun i _ => ?_
      unfold mark
      have h0 := Int.emod_nonneg (ns.getD i 0) (show a ≠ 0 by omega)
      rw [decide_eq_false h1, Bool.false_or]
      by_cases h : ns.getD i 0 % a = 0
      · rw [decide_eq_false (by omega), decide_eq_false (by simpa using h)]
      · rw [decide_eq_true (by omega), decide_eq_true h]
    rw [e]
    have hM : ∀ c ∈ marked ns a, c < ns.length := fun c hc => List.mem_range.mp (List.mem_filter.mp hc).1
    generalize marked ns a = M at *
    match M, hM with
    | [], _ =>
      rw [if_neg (by simp)]
      have : ((List.range ns.length).filter (fit ns a b)).filter (fun i => decide (([] : List Nat) = [i])) = [] := by
        rw [List.filter_eq_nil_iff]
        intro i _
        simp
      rw [this]
      rfl
    | [c], hM =>
      rw [if_neg (by simp)]
      have hc := hM c (List.mem_singleton.mpr rfl)
      rw [List.filter_filter]
      have e2 : (fun i => decide ([c] = [i]) && fit ns a b i) = fun i => fit ns a b i && decide (i = c) := by
        funext i
        rw [Bool.and_comm]
        congr 1
        by_cases h : i = c
        · rw [h, decide_eq_true rfl, decide_eq_true rfl]
        · rw [decide_eq_false h, decide_eq_false (by simpa using fun z => h z.symm)]
      rw [e2, range_single _ hc, List.filter_cons]
      cases fit ns a b c <;> rfl
    | c :: d :: r, _ =>
      rw [if_pos ⟨by omega, by simp⟩]
      have : ((List.range ns.length).filter (fit ns a b)).filter (fun i => decide (c :: d :: r = [i])) = [] := by
        rw [List.filter_eq_nil_iff]
        intro i _
        simp
      rw [this]
      rfl
end Ma
end

section
set_option Elab.async false
set_option linter.all false
set_option maxHeartbeats 1000000
namespace Ma
/-! a top-up and what is undone -/
theorem list_ext {xs ys : List Int} (hl : xs.length = ys.length) (h : ∀ i, i < xs.length → xs.getD i 0 = ys.getD i 0) : xs = ys := by
  refine List.ext_getElem hl fun i h1 h2 => ?_
  have := h i h1
  rw [List.getD_eq_getElem?_getD, List.getD_eq_getElem?_getD, List.getElem?_eq_getElem h1, List.getElem?_eq_getElem h2] at this
  exact this
theorem map_getD {ns : List Int} {f : Int → Int} {i : Nat} (h : i < ns.length) : (ns.map f).getD i 0 = f (ns.getD i 0) := by
  rw [List.getD_eq_getElem?_getD, List.getD_eq_getElem?_getD, List.getElem?_map, List.getElem?_eq_getElem h]
  rfl
theorem step_get {x : List Int} {a b : Int} {c i : Nat} (hi : i < x.length) : (step x a b c).getD i 0 * ((gcdN (pre x a b c) : Nat) : Int) = x.getD i 0 * a + if i = c then (b - a) * x.sum else 0 := by
  unfold step plain
  rw [map_getD (by rw [pre_len]; exact hi)]
  have := plain_mul (getD_in (ns := pre x a b c) (i := i) (by rw [pre_len]; exact hi))
  rw [this, getD_of (pre_get hi)]
theorem step_sum_g {x : List Int} {a b : Int} {c : Nat} (h : Con x) (k : Kep a b) (hc : c < x.length) : (step x a b c).sum * ((gcdN (pre x a b c) : Nat) : Int) = b * x.sum := by
  have := plain_sum (pre_amt h k hc)
  rw [pre_sum hc] at this
  exact this
theorem fit_step {x : List Int} {a b : Int} {c : Nat} (h : Con x) (k : Kep a b) (hc : c < x.length) : fit (step x a b c) a b c = true := by
  have hg := gcdN_pos (pre_amt h k hc)
  have k1 := k.a1
  have k2 := k.ab
  have e1 := step_get (a := a) (b := b) (c := c) hc
  have e2 := step_sum_g h k hc
  rw [if_pos rfl] at e1
  have hx := Int.mul_nonneg (h.nn _ (getD_in hc)) (show 0 ≤ a by omega)
  refine decide_eq_true (Int.le_of_mul_le_mul_right (a := ((gcdN (pre x a b c) : Nat) : Int)) ?_ (by omega))
  rw [Int.mul_assoc, e2, Int.mul_right_comm, e1]
  have e3 : (b - a) * (b * x.sum) = (b - a) * x.sum * b := by rw [Int.mul_comm b x.sum, Int.mul_assoc]
  rw [e3]
  exact Int.mul_le_mul_of_nonneg_right (by omega) (by omega)
theorem befo_step {x : List Int} {a b : Int} {c : Nat} (h : Con x) (k : Kep a b) (hc : c < x.length) : befo (step x a b c) a b c = x := by
  have hA := pre_amt h k hc
  have hg := gcdN_pos hA
  have k1 := k.a1
  have k2 := k.ab
  have e0 : ∀ i, i < x.length → (step x a b c).getD i 0 * ((gcdN (pre x a b c) : Nat) : Int) = x.getD i 0 * a + if i = c then (b - a) * x.sum else 0 := fun i hi => by
    unfold step plain
    rw [map_getD (by rw [pre_len]; exact hi)]
    have := plain_mul (getD_in (ns := pre x a b c) (i := i) (by rw [pre_len]; exact hi))
    rw [this, getD_of (pre_get hi)]
  have es : (step x a b c).sum * ((gcdN (pre x a b c) : Nat) : Int) = b * x.sum := by
    have := plain_sum hA
    rw [pre_sum hc] at this
    exact this
  have e1 : (bef (step x a b c) a b c).map (fun n => ((gcdN (pre x a b c) : Nat) : Int) * n) = x.map fun n => (a * b) * n := by
    refine list_ext (by simp [bef_len, step_len]) fun i hi => ?_
    rw [List.length_map, bef_len, step_len] at hi
    rw [map_getD (by rw [bef_len, step_len]; exact hi), map_getD hi, getD_of (bef_get (by rw [step_len]; exact hi)), Int.mul_sub, ← Int.mul_assoc, Int.mul_comm _ ((step x a b c).getD i 0), e0 i hi]
    by_cases hic : i = c
    · subst hic
      rw [if_pos rfl, if_pos rfl]
      have : ((gcdN (pre x a b i) : Nat) : Int) * ((b - a) * (step x a b i).sum) = (b - a) * ((step x a b i).sum * ((gcdN (pre x a b i) : Nat) : Int)) := by
        rw [Int.mul_comm, Int.mul_assoc]
      rw [this, es]
      have e5 : (b - a) * (b * x.sum) = (b - a) * x.sum * b := by rw [Int.mul_comm b x.sum, Int.mul_assoc]
      rw [e5, Int.add_mul, Int.add_sub_cancel, Int.mul_comm (x.getD i 0) a, Int.mul_assoc, Int.mul_comm (x.getD i 0) b, Int.mul_assoc]
    · rw [if_neg hic, if_neg hic, Int.mul_zero, Int.sub_zero, Int.add_zero, Int.mul_comm (x.getD i 0) a, Int.mul_assoc, Int.mul_comm (x.getD i 0) b, Int.mul_assoc]
  have hgx : 0 < gcdN x := by rw [h.g]; decide
  have hab : 0 < a * b := Int.mul_pos (by omega) (by omega)
  have hb2 := gcdN_pos (bef_amt (step_con h k hc) k (by rw [step_len]; exact hc) (fit_step h k hc))
  have e3 := plain_scale (ns := bef (step x a b c) a b c) (t := ((gcdN (pre x a b c) : Nat) : Int)) (by omega) hb2
  have e4 := plain_scale (ns := x) hab hgx
  unfold befo
  rw [← e3, e1, e4, plain_of_one h.g]
end Ma
namespace Ma
theorem cop_of {a S d : Nat} (h : Nat.gcd a S = 1) (hd : d ∣ S) : Nat.gcd d a = 1 := by
  have : Nat.gcd d a ∣ Nat.gcd a S := Nat.dvd_gcd (Nat.gcd_dvd_right _ _) (Nat.dvd_trans (Nat.gcd_dvd_left _ _) hd)
  rw [h] at this
  exact Nat.dvd_one.mp this
theorem dvd_sum_but {d : Int} {c : Nat} : ∀ {ns : List Int}, c < ns.length → (∀ i, i < ns.length → i ≠ c → d ∣ ns.getD i 0) → d ∣ ns.sum → d ∣ ns.getD c 0
  | [], hc, _, _ => by simp at hc
  | n :: r, hc, h, hs => by
    rw [List.sum_cons] at hs
    cases c with
    | zero =>
      have hr : d ∣ r.sum := by
        have : ∀ m ∈ r, d ∣ m := fun m hm => by
          obtain ⟨i, hi, e⟩ := mem_at hm
          have := h (i + 1) (by simp; exact hi) (by omega)
          rw [← e]
          exact this
        clear h hs hc
        induction r with
        | nil => exact Int.dvd_zero _
        | cons m r ih => rw [List.sum_cons]; exact Int.dvd_add (this m List.mem_cons_self) (ih fun y hy => this y (List.mem_cons_of_mem _ hy))
      have := Int.dvd_sub hs hr
      rw [Int.add_sub_cancel] at this
      exact this
    | succ c =>
      have h0 : d ∣ n := h 0 (by simp) (by omega)
      have := Int.dvd_sub hs h0
      rw [Int.add_comm, Int.add_sub_cancel] at this
      exact dvd_sum_but (ns := r) (c := c) (Nat.lt_of_succ_lt_succ hc) (fun i hi hic => h (i + 1) (Nat.succ_lt_succ hi) (by omega)) this
/-- a top-up by a kept share of a content whose bottom is a multiple of the whole: nothing to divide by -/
theorem pre_one {x : List Int} {a b : Int} {c : Nat} (h : Con x) (k : Kep a b) (hc : c < x.length) (hd : b ∣ x.sum) (hcop : Nat.gcd a.natAbs x.sum.natAbs = 1) : gcdN (pre x a b c) = 1 := by
  have hs := h.amt.pos
  have hb := k.g
  have hA := pre_amt h k hc
  generalize hg : gcdN (pre x a b c) = d
  have dd : ∀ i, i < x.length → (d : Int) ∣ x.getD i 0 * a + if i = c then (b - a) * x.sum else 0 := fun i hi => by
    rw [← getD_of (pre_get hi), ← hg]
    exact gcdN_dvd (getD_in (by rw [pre_len]; exact hi))
  have ds : (d : Int) ∣ b * x.sum := by
    rw [← pre_sum hc, ← hg, ← plain_sum hA]
    exact Int.dvd_mul_left _ _
  have dsN : d ∣ b.natAbs * x.sum.natAbs := by
    have := Int.natAbs_dvd_natAbs.mpr ds
    rw [Int.natAbs_mul, Int.natAbs_natCast] at this
    exact this
  have hab : Nat.gcd a.natAbs (b.natAbs * x.sum.natAbs) = 1 := Nat.Coprime.mul_right hb hcop
  have hda := cop_of hab dsN
  have hi : ∀ i, i < x.length → i ≠ c → (d : Int) ∣ x.getD i 0 := fun i hi hic => by
    have := dd i hi
    rw [if_neg hic, Int.add_zero] at this
    have := Int.natAbs_dvd_natAbs.mpr this
    rw [Int.natAbs_mul, Int.natAbs_natCast] at this
    have := Nat.Coprime.dvd_of_dvd_mul_right hda this
    exact Int.natAbs_dvd_natAbs.mp (by rw [Int.natAbs_natCast]; exact this)
  -- e divides all of x
  have he : Nat.gcd d x.sum.natAbs = 1 := by
    have e1 : ((Nat.gcd d x.sum.natAbs : Nat) : Int) ∣ x.sum := Int.natAbs_dvd_natAbs.mp (by rw [Int.natAbs_natCast]; exact Nat.gcd_dvd_right _ _)
    have e2 : ((Nat.gcd d x.sum.natAbs : Nat) : Int) ∣ (d : Int) := Int.natAbs_dvd_natAbs.mp (by rw [Int.natAbs_natCast, Int.natAbs_natCast]; exact Nat.gcd_dvd_left _ _)
    have e3 : ∀ i, i < x.length → ((Nat.gcd d x.sum.natAbs : Nat) : Int) ∣ x.getD i 0 := fun i hix => by
      by_cases hic : i = c
      · subst hic
        exact dvd_sum_but hix (fun m hm hmc => Int.dvd_trans e2 (hi m hm hmc)) e1
      · exact Int.dvd_trans e2 (hi i hix hic)
    have e4 : Nat.gcd d x.sum.natAbs ∣ gcdN x := dvd_gcdN.mpr fun n hn => by
      obtain ⟨i, hi, e⟩ := mem_at hn
      have := Int.natAbs_dvd_natAbs.mpr (e3 i hi)
      rw [Int.natAbs_natCast, e] at this
      exact this
    rw [h.g] at e4
    exact Nat.dvd_one.mp e4
  have hdb : d ∣ b.natAbs := Nat.Coprime.dvd_of_dvd_mul_right he dsN
  have hdS : d ∣ x.sum.natAbs := Nat.dvd_trans hdb (Int.natAbs_dvd_natAbs.mpr hd)
  have : d ∣ Nat.gcd d x.sum.natAbs := Nat.dvd_gcd (Nat.dvd_refl _) hdS
  rw [he] at this
  exact Nat.dvd_one.mp this
/-- what such a top-up tells -/
structure Reg (x : List Int) (a b : Int) : Prop where
  con : Con x
  ex : ∃ m : Nat, x.sum = b ^ (m + 1)
theorem cop_pow {a b : Int} (h : Nat.gcd a.natAbs b.natAbs = 1) : ∀ m : Nat, Nat.gcd a.natAbs (b ^ m).natAbs = 1
  | 0 => by rw [Int.pow_zero]; exact Nat.gcd_one_right _
  | m + 1 => by rw [Int.pow_succ, Int.natAbs_mul]; exact Nat.Coprime.mul_right (cop_pow h m) h
theorem single_of {p : Nat → Bool} {c n : Nat} (hc : c < n) (h : ∀ i, i < n → (p i = true ↔ i = c)) : (List.range n).filter p = [c] := by
  have e : (List.range n).filter p = (List.range n).filter fun i => (fun _ => true) i && decide (i = c) := by
    refine List.filter_congr fun i hi => ?_
    have := h i (List.mem_range.mp hi)
    by_cases hic : i = c
    · rw [this.mpr hic, hic, decide_eq_true rfl]
      rfl
    · rw [decide_eq_false hic]
      cases hp : p i with
      | false => rfl
      | true => exact absurd (this.mp hp) hic
  rw [e, range_single n hc]
  rfl
theorem mod_ne {a b S x : Int} (ha : 2 ≤ a) (h : Nat.gcd a.natAbs (b * S).natAbs = 1) : (x * a + (b - a) * S) % a ≠ 0 := fun z => by
  have h1 : a ∣ x * a + (b - a) * S := Int.dvd_of_emod_eq_zero z
  have h2 : a ∣ b * S := by
    have e : b * S = (x * a + (b - a) * S) - (x * a - a * S) := by rw [Int.sub_mul]; omega
    rw [e]
    exact Int.dvd_sub h1 (Int.dvd_sub (Int.dvd_mul_left _ _) (Int.dvd_mul_right _ _))
  have h3 := Nat.dvd_gcd (Nat.dvd_refl a.natAbs) (Int.natAbs_dvd_natAbs.mpr h2)
  rw [h] at h3
  have := Nat.dvd_one.mp h3
  omega
theorem two_le_sum {ns : List Int} (hn : ∀ n ∈ ns, 0 ≤ n) {i j : Nat} (hi : i < ns.length) (hj : j < ns.length) (hij : i ≠ j) : ns.getD i 0 + ns.getD j 0 ≤ ns.sum := by
    have e := sum_set 0 ns i hi
    have h1 : ∀ n ∈ ns.set i 0, 0 ≤ n := fun n hm => by
      rcases List.mem_or_eq_of_mem_set hm with z | z
      · exact hn n z
      · rw [z]; exact Int.le_refl _
    have h2 : (ns.set i 0).getD j 0 = ns.getD j 0 := by
      rw [List.getD_eq_getElem?_getD, List.getD_eq_getElem?_getD, List.getElem?_set_ne hij]
    have h3 := le_sum h1 (getD_in (ns := ns.set i 0) (i := j) (by rw [List.length_set]; exact hj))
    rw [h2] at h3
    omega
/-- the last liquid of a top-up is told -/
theorem step_last {x : List Int} {a b : Int} {c : Nat} (h : Con x) (k : Kep a b) (hc : c < x.length) (hg : gcdN (pre x a b c) = 1) (hcop : Nat.gcd a.natAbs x.sum.natAbs = 1) (hx : 2 ≤ a ∨ 3 ≤ b ∨ x.sum ≠ 1) : lastL (step x a b c) a b = some c := by
  have k1 := k.a1
  have k2 := k.ab
  have hs := h.amt.pos
  have eS : (step x a b c).sum = b * x.sum := by
    have := step_sum_g h k hc
    rw [hg] at this
    omega
  have eI : ∀ i, i < x.length → (step x a b c).getD i 0 = x.getD i 0 * a + if i = c then (b - a) * x.sum else 0 := fun i hi => by
    have := step_get (a := a) (b := b) (c := c) hi
    rw [hg] at this
    omega
  have hfit := fit_step h k hc
  have hl : (step x a b c).length = x.length := step_len _ _ _ _
  unfold lastL
  by_cases ha : 2 ≤ a
  · have hm : marked (step x a b c) a = [c] := by
      unfold marked
      refine single_of (by rw [hl]; exact hc) fun i hi => ?_
      rw [hl] at hi
      unfold mark
      rw [decide_eq_false (show ¬ a = 1 by omega), Bool.false_or, decide_eq_true_eq, eI i hi]
      constructor
      · intro z
        refine Classical.byContradiction fun hic => z ?_
        rw [if_neg hic, Int.add_zero]
        exact Int.mul_emod_left _ _
      · intro z
        subst z
        rw [if_pos rfl]
        refine mod_ne ha ?_
        rw [Int.natAbs_mul]
        exact Nat.Coprime.mul_right k.g hcop
    rw [hm, if_neg (by simp), List.filter_cons, if_pos hfit]
    rfl
  · have h1 : a = 1 := by omega
    subst h1
    have hm : marked (step x 1 b c) 1 = List.range x.length := by
      unfold marked
      rw [hl, List.filter_eq_self]
      intro i _
      rfl
    rw [hm, if_neg (by omega)]
    have e : (List.range x.length).filter (fit (step x 1 b c) 1 b) = [c] := by
      refine single_of hc fun i hi => ?_
      constructor
      · intro z
        refine Classical.byContradiction fun hic => ?_
        have z2 := of_decide_eq_true z
        rw [eI i hi, if_neg hic, eS, Int.add_zero, Int.mul_one] at z2
        have h0 := h.nn _ (getD_in hi)
        have hle := le_sum h.nn (getD_in hi)
        have z3 : (b - 1) * (b * x.sum) = (b - 1) * x.sum * b := by rw [Int.mul_comm b x.sum, Int.mul_assoc]
        rw [z3] at z2
        have z4 := Int.le_of_mul_le_mul_right z2 (by omega)
        -- (b - 1) * S ≤ x_i ≤ S
        by_cases hb : 3 ≤ b
        · have : 2 * x.sum ≤ (b - 1) * x.sum := Int.mul_le_mul_of_nonneg_right (by omega) (by omega)
          omega
        · have hb2 : b = 2 := by omega
          subst hb2
          have hS1 : x.sum ≠ 1 := by omega
          have z5 : x.getD i 0 = x.sum := by omega
          -- all others are 0, so the sum divides all
          have hz : ∀ j, j < x.length → j ≠ i → x.getD j 0 = 0 := fun j hj hji => by
            have := two_le_sum h.nn hi hj (fun z => hji z.symm)
            have := h.nn _ (getD_in hj)
            omega
          have hdv : x.sum.natAbs ∣ gcdN x := dvd_gcdN.mpr fun n hn => by
            obtain ⟨j, hj, ej⟩ := mem_at hn
            rw [← ej]
            by_cases hji : j = i
            · rw [hji, z5]; exact Nat.dvd_refl _
            · rw [hz j hj hji]
              exact Nat.dvd_zero _
          rw [h.g] at hdv
          have := Nat.dvd_one.mp hdv
          omega
      · intro z
        subst z
        exact hfit
    rw [e]
    rfl
theorem Reg.step {x : List Int} {a b : Int} {c : Nat} (R : Reg x a b) (k : Kep a b) (hc : c < x.length) : Reg (step x a b c) a b ∧ und (step x a b c) a b = (c :: (und x a b).1, (und x a b).2) := by
  have k1 := k.a1
  have k2 := k.ab
  have hb : 2 ≤ b := by omega
  obtain ⟨m, hm⟩ := R.ex
  have hd : b ∣ x.sum := by rw [hm, Int.pow_succ]; exact Int.dvd_mul_left _ _
  have hcop : Nat.gcd a.natAbs x.sum.natAbs = 1 := by rw [hm]; exact cop_pow k.g _
  have hg := pre_one R.con k hc hd hcop
  have eS : (Ma.step x a b c).sum = b ^ (m + 1 + 1) := by
    have := step_sum_g R.con k hc
    rw [hg, hm] at this
    rw [Int.pow_succ, Int.mul_comm]
    omega
  have hx1 : x.sum ≠ 1 := by
    have h1 := pow_pos' hb m
    have h2 := Int.mul_le_mul_of_nonneg_left hb (show 0 ≤ b ^ m by omega)
    rw [hm, Int.pow_succ]
    omega
  have hc2 := step_con R.con k hc
  refine ⟨⟨hc2, m + 1, eS⟩, ?_⟩
  have hlt := R.con.amt.pos
  have G : Goes (Ma.step x a b c) a b c := by
    refine ⟨?_, by rw [eS]; exact powB_pow hb _, step_last R.con k hc hg hcop (.inr (.inr hx1))⟩
    rw [eS, Int.pow_succ]
    have h1 := pow_pos' hb (m + 1)
    have h2 := Int.mul_le_mul_of_nonneg_left hb (show 0 ≤ b ^ (m + 1) by omega)
    omega
  rw [und_go k hc2 G, befo_step R.con k hc]
theorem Reg.walk {a b : Int} (k : Kep a b) : ∀ (cs : List Nat) {x : List Int}, Reg x a b → (∀ c ∈ cs, c < x.length) → und (cs.foldl (fun x c => Ma.step x a b c) x) a b = (cs.reverse ++ (und x a b).1, (und x a b).2) ∧ Reg (cs.foldl (fun x c => Ma.step x a b c) x) a b
  | [], x, R, _ => ⟨rfl, R⟩
  | c :: r, x, R, h => by
    obtain ⟨R1, e1⟩ := R.step k (h c List.mem_cons_self)
    obtain ⟨e2, R2⟩ := Reg.walk k r R1 fun d hd => by rw [step_len]; exact h d (List.mem_cons_of_mem _ hd)
    refine ⟨?_, R2⟩
    rw [List.foldl_cons, e2, e1, List.reverse_cons, List.append_assoc]
    rfl
end Ma
end

section
set_option Elab.async false
set_option linter.all false
set_option maxHeartbeats 1000000
namespace Ma
/-! undone and done again -/
theorem step_befo {x : List Int} {a b : Int} {c : Nat} (h : Con x) (k : Kep a b) (hc : c < x.length) (hf : fit x a b c = true) : step (befo x a b c) a b c = x := by
  have hA := bef_amt h k hc hf
  have hg := gcdN_pos hA
  have k1 := k.a1
  have k2 := k.ab
  have hy := befo_con h k hc hf
  have ly : (befo x a b c).length = x.length := befo_len _ _ _ _
  have e0 : ∀ i, i < x.length → (befo x a b c).getD i 0 * ((gcdN (bef x a b c) : Nat) : Int) = x.getD i 0 * b - if i = c then (b - a) * x.sum else 0 := fun i hi => by
    unfold befo plain
    rw [map_getD (by rw [bef_len]; exact hi)]
    have := plain_mul (getD_in (ns := bef x a b c) (i := i) (by rw [bef_len]; exact hi))
    rw [this, getD_of (bef_get hi)]
  have es : (befo x a b c).sum * ((gcdN (bef x a b c) : Nat) : Int) = a * x.sum := by
    have := plain_sum hA
    rw [bef_sum hc] at this
    exact this
  have e1 : (pre (befo x a b c) a b c).map (fun n => ((gcdN (bef x a b c) : Nat) : Int) * n) = x.map fun n => (a * b) * n := by
    refine list_ext (by simp [pre_len, befo_len]) fun i hi => ?_
    rw [List.length_map, pre_len, ly] at hi
    rw [map_getD (by rw [pre_len, ly]; exact hi), map_getD hi, getD_of (pre_get (by rw [ly]; exact hi)), Int.mul_add, ← Int.mul_assoc, Int.mul_comm _ ((befo x a b c).getD i 0), e0 i hi]
    by_cases hic : i = c
    · subst hic
      rw [if_pos rfl, if_pos rfl]
      have : ((gcdN (bef x a b i) : Nat) : Int) * ((b - a) * (befo x a b i).sum) = (b - a) * ((befo x a b i).sum * ((gcdN (bef x a b i) : Nat) : Int)) := by
        rw [Int.mul_comm, Int.mul_assoc]
      rw [this, es]
      have e5 : (b - a) * (a * x.sum) = (b - a) * x.sum * a := by rw [Int.mul_comm a x.sum, Int.mul_assoc]
      rw [e5, Int.sub_mul, Int.sub_add_cancel, Int.mul_comm (x.getD i 0) b, Int.mul_right_comm, Int.mul_comm b a]
    · rw [if_neg hic, if_neg hic, Int.mul_zero, Int.sub_zero, Int.add_zero, Int.mul_comm (x.getD i 0) b, Int.mul_right_comm, Int.mul_comm b a]
  have hgx : 0 < gcdN x := by rw [h.g]; decide
  have hab : 0 < a * b := Int.mul_pos (by omega) (by omega)
  have hp2 := gcdN_pos (pre_amt hy k (by rw [ly]; exact hc))
  have e3 := plain_scale (ns := pre (befo x a b c) a b c) (t := ((gcdN (bef x a b c) : Nat) : Int)) (by omega) hp2
  have e4 := plain_scale (ns := x) hab hgx
  unfold step
  rw [← e3, e1, e4, plain_of_one h.g]
theorem Un.redo {a b : Int} (k : Kep a b) {ns : List Int} {us : List Nat} {ms : List Int} (u : Un a b ns us ms) (h : Con ns) : us.reverse.foldl (fun x c => step x a b c) ms = ns := by
  induction u with
  | nil => rfl
  | go u G ih =>
    have hl := lastL_some G.la
    rw [List.reverse_append, List.reverse_singleton, List.singleton_append, List.foldl_cons, step_befo (u.con k h) k hl.1 hl.2]
    exact ih
/-! pure contents -/
def pur' (k i : Nat) : List Int := (List.replicate k 0).set i 1
theorem pur'_len (k i : Nat) : (pur' k i).length = k := by unfold pur'; simp
theorem pur'_get {k s i : Nat} (hi : i < k) : (pur' k s).getD i 0 = if i = s then 1 else 0 := by
  unfold pur'
  rw [List.getD_eq_getElem?_getD, List.getElem?_set]
  by_cases h : s = i
  · subst h
    rw [if_pos rfl, if_pos (by simpa using hi), if_pos rfl]
    rfl
  · rw [if_neg h, if_neg (fun z => h z.symm), List.getElem?_replicate, if_pos hi]
    rfl
theorem pur'_sum {k s : Nat} (h : s < k) : (pur' k s).sum = 1 := by
  unfold pur'
  rw [sum_set _ _ _ (by simpa using h)]
  have e : (List.replicate k (0 : Int)).sum = 0 := by
    clear h
    induction k with
    | zero => rfl
    | succ k ih => rw [List.replicate_succ, List.sum_cons, ih]; rfl
  have e2 : (List.replicate k (0 : Int)).getD s 0 = 0 := by rw [List.getD_eq_getElem?_getD, List.getElem?_replicate, if_pos h]; rfl
  rw [e, e2]
  rfl
theorem pur'_con {k s : Nat} (h : s < k) (h8 : k ≤ 8) : Con (pur' k s) := by
  refine ⟨by rw [pur'_len]; omega, by rw [pur'_len]; exact h8, fun n hn => ?_, ?_⟩
  · obtain ⟨i, hi, e⟩ := mem_at hn
    rw [pur'_len] at hi
    rw [← e, pur'_get hi]
    split <;> decide
  · have h1 : gcdN (pur' k s) ∣ 1 := by
      have := gcdN_dvd (getD_in (ns := pur' k s) (i := s) (by rw [pur'_len]; exact h))
      rw [pur'_get h, if_pos rfl] at this
      have := Int.natAbs_dvd_natAbs.mpr this
      rw [Int.natAbs_natCast] at this
      exact this
    exact Nat.dvd_one.mp h1
theorem pure_is {L : List Int} (h : Con L) (h1 : L.sum = 1) : L = pur' L.length (startOf L) := by
  obtain ⟨i1, i2⟩ := start_at h.nn h1
  refine list_ext (by rw [pur'_len]) fun i hi => ?_
  rw [pur'_get hi]
  by_cases hs : i = startOf L
  · rw [if_pos hs, hs]
    exact getD_of i2
  · rw [if_neg hs]
    have := two_le_sum h.nn hi i1 hs
    rw [getD_of i2] at this
    have := h.nn _ (getD_in hi)
    omega
theorem start_pur {k s : Nat} (h : s < k) (h8 : k ≤ 8) : startOf (pur' k s) = s := by
  have hc := pur'_con h h8
  obtain ⟨i1, i2⟩ := start_at hc.nn (pur'_sum h)
  rw [pur'_len] at i1
  have := getD_of i2
  rw [pur'_get i1] at this
  split at this
  · assumption
  · cases this
theorem pre_pur {k s c : Nat} {a b : Int} (kp : Kep a b) (hs : s < k) (hc : c < k) (hsc : c ≠ s) (h8 : k ≤ 8) : gcdN (pre (pur' k s) a b c) = 1 := by
  generalize hg : gcdN (pre (pur' k s) a b c) = d
  have dd : ∀ i, i < k → (d : Int) ∣ (pur' k s).getD i 0 * a + if i = c then (b - a) * (pur' k s).sum else 0 := fun i hi => by
    have hi' : i < (pur' k s).length := by rw [pur'_len]; exact hi
    rw [← getD_of (pre_get (a := a) (b := b) (c := c) hi'), ← hg]
    exact gcdN_dvd (getD_in (by rw [pre_len]; exact hi'))
  have d1 := dd s hs
  rw [pur'_get hs, if_pos rfl, if_neg (fun z => hsc z.symm), Int.one_mul, Int.add_zero] at d1
  have d2 := dd c hc
  rw [pur'_get hc, if_neg hsc, if_pos rfl, pur'_sum hs, Int.zero_mul, Int.zero_add, Int.mul_one] at d2
  have d3 : (d : Int) ∣ b := by
    have := Int.dvd_add d2 d1
    rw [Int.sub_add_cancel] at this
    exact this
  have n1 := Int.natAbs_dvd_natAbs.mpr d1
  have n3 := Int.natAbs_dvd_natAbs.mpr d3
  rw [Int.natAbs_natCast] at n1 n3
  have := Nat.dvd_gcd n1 n3
  rw [kp.g] at this
  exact Nat.dvd_one.mp this
theorem last_filter {p : Nat → Bool} {m : Nat} : ∀ n, m < n → p m = true → (∀ i, m < i → i < n → p i = false) → ((List.range n).filter p).getLast? = some m
  | 0, h, _, _ => by omega
  | n + 1, h, hp, hz => by
    rw [List.range_succ, List.filter_append]
    by_cases e : m = n
    · subst e
      rw [List.filter_cons, if_pos hp, List.filter_nil, List.getLast?_append]
      rfl
    · rw [List.filter_cons, hz n (by omega) (by omega)]
      have := last_filter n (by omega) hp fun i h1 h2 => hz i h1 (by omega)
      simpa using this
theorem half_step {k s c : Nat} (hs : s < k) (hc : c < k) (hsc : c ≠ s) (h8 : k ≤ 8) : step (pur' k s) 1 2 c = (pur' k s).set c 1 := by
  have kp : Kep 1 2 := ⟨by decide, by decide, by decide, by decide⟩
  unfold step
  rw [plain_of_one (pre_pur kp hs hc hsc h8)]
  unfold pre
  rw [pur'_get hc, if_neg hsc, pur'_sum hs]
  have : (pur' k s).map (fun n => n * 1) = pur' k s := by
    have : (fun n : Int => n * 1) = id := by funext n; exact Int.mul_one n
    rw [this, List.map_id]
  rw [this]
  rfl
theorem half_swap {k s c : Nat} (hs : s < k) (hc : c < k) (hsc : c ≠ s) (h8 : k ≤ 8) : step (pur' k s) 1 2 c = step (pur' k c) 1 2 s := by
  rw [half_step hs hc hsc h8, half_step hc hs (fun z => hsc z.symm) h8]
  unfold pur'
  rw [List.set_comm _ _ (fun z => hsc z.symm)]
/-- what is undone of the first top-up of a pure pot -/
theorem und_first {k s c : Nat} {a b : Int} (kp : Kep a b) (hs : s < k) (hc : c < k) (hsc : c ≠ s) (h8 : k ≤ 8) :
    Reg (step (pur' k s) a b c) a b ∧ und (step (pur' k s) a b c) a b = if a = 1 ∧ b = 2 then ([max s c], pur' k (min s c)) else ([c], pur' k s) := by
  have k1 := kp.a1
  have k2 := kp.ab
  have hb : 2 ≤ b := by omega
  have hp := pur'_con hs h8
  have hcl : c < (pur' k s).length := by rw [pur'_len]; exact hc
  have hg := pre_pur kp hs hc hsc h8
  have eS : (step (pur' k s) a b c).sum = b := by
    have := step_sum_g hp kp hcl
    rw [hg, pur'_sum hs] at this
    omega
  have hc2 := step_con hp kp hcl
  refine ⟨⟨hc2, 0, by rw [eS, Int.pow_succ, Int.pow_zero, Int.one_mul]⟩, ?_⟩
  have pw : powB b (step (pur' k s) a b c).sum = true := by
    have := powB_pow hb 1
    rw [Int.pow_succ, Int.pow_zero, Int.one_mul] at this
    rw [eS]; exact this
  by_cases hh : a = 1 ∧ b = 2
  · rw [if_pos hh]
    obtain ⟨rfl, rfl⟩ := hh
    have key : ∀ {u v : Nat}, u < k → v < k → u < v → und (step (pur' k u) 1 2 v) 1 2 = ([v], pur' k u) := fun {u v} hu hv huv => by
      have hpu := pur'_con hu h8
      have hvl : v < (pur' k u).length := by rw [pur'_len]; exact hv
      have hgu := pre_pur kp hu hv (by omega) h8
      have eSu : (step (pur' k u) 1 2 v).sum = 2 := by
        have := step_sum_g hpu kp hvl
        rw [hgu, pur'_sum hu] at this
        omega
      have hcu := step_con hpu kp hvl
      have lk : (step (pur' k u) 1 2 v).length = k := by rw [step_len, pur'_len]
      have la : lastL (step (pur' k u) 1 2 v) 1 2 = some v := by
        unfold lastL
        rw [if_neg (by omega)]
        have hm : marked (step (pur' k u) 1 2 v) 1 = List.range k := by
          unfold marked
          rw [lk, List.filter_eq_self]
          intro i _
          rfl
        rw [hm]
        have gi : ∀ i, i < k → (step (pur' k u) 1 2 v).getD i 0 = if i = v then 1 else if i = u then 1 else 0 := fun i hi => by
          rw [half_step hu hv (by omega) h8, List.getD_eq_getElem?_getD, List.getElem?_set]
          by_cases h : v = i
          · rw [if_pos h, if_pos (by rw [pur'_len]; exact hv), if_pos h.symm]; rfl
          · rw [if_neg h, if_neg (fun z => h z.symm), ← List.getD_eq_getElem?_getD, pur'_get hi]
        refine last_filter k hv ?_ fun i h1 h2 => ?_
        · unfold fit
          rw [gi v hv, if_pos rfl, eSu]
          decide
        · unfold fit
          rw [gi i h2, if_neg (by omega), if_neg (by omega), eSu]
          decide
      rw [und_go kp hcu ⟨by rw [eSu]; decide, by rw [eSu]; decide, la⟩, befo_step hpu kp hvl, und_pure hpu (pur'_sum hu)]
    rcases Nat.lt_or_ge s c with z | z
    · rw [Nat.max_eq_right (by omega), Nat.min_eq_left (by omega)]
      exact key hs hc z
    · rw [Nat.max_eq_left (by omega), Nat.min_eq_right (by omega), half_swap hs hc hsc h8]
      exact key hc hs (by omega)
  · rw [if_neg hh]
    have la := step_last hp kp hcl hg (by rw [pur'_sum hs]; exact Nat.gcd_one_right _) (by
      by_cases h2 : 2 ≤ a
      · exact .inl h2
      · exact .inr (.inl (by
          have : a = 1 := by omega
          have : b ≠ 2 := fun z => hh ⟨this, z⟩
          omega)))
    rw [und_go kp hc2 ⟨by rw [eS]; omega, pw, la⟩, befo_step hp kp hcl, und_pure hp (pur'_sum hs)]
/-- the row of a short history, told back -/
theorem und_short {k s c : Nat} {a b : Int} {r : List Nat} (kp : Kep a b) (hs : s < k) (h8 : k ≤ 8) (hsc : c ≠ s) (hr : ∀ d ∈ c :: r, d < k) :
    und ((c :: r).foldl (fun x c => step x a b c) (pur' k s)) a b = if a = 1 ∧ b = 2 then (r.reverse ++ [max s c], pur' k (min s c)) else ((c :: r).reverse, pur' k s) := by
  have hc := hr c List.mem_cons_self
  obtain ⟨R, e⟩ := und_first kp hs hc hsc h8
  have e2 := (Reg.walk kp r R fun d hd => by rw [step_len, pur'_len]; exact hr d (List.mem_cons_of_mem _ hd)).1
  rw [List.foldl_cons, e2, e]
  split
  · rfl
  · rw [List.reverse_cons]
/-- all short histories of a content behind a short history -/
theorem shorts_of {k s c : Nat} {a b : Int} {r : List Nat} (kp : Kep a b) (hs : s < k) (h8 : k ≤ 8) (hsc : c ≠ s) (hr : ∀ d ∈ c :: r, d < k) :
    shorts ((c :: r).foldl (fun x c => step x a b c) (pur' k s)) a b = if a = 1 ∧ b = 2 then [(min s c, max s c :: r), (max s c, min s c :: r)] else [(s, c :: r)] := by
  have hc := hr c List.mem_cons_self
  unfold shorts
  rw [und_short kp hs h8 hsc hr]
  by_cases hh : a = 1 ∧ b = 2
  · rw [if_pos hh, if_pos (pur'_sum (by omega)), start_pur (by omega) h8, List.reverse_append, List.reverse_reverse, if_pos hh]
    unfold shortsOf
    rw [if_pos hh]
    rfl
  · rw [if_neg hh, if_pos (pur'_sum hs), start_pur hs h8, List.reverse_reverse, if_neg hh]
    unfold shortsOf
    rw [if_neg hh]
theorem shorts_pur {k s : Nat} {a b : Int} (hs : s < k) (h8 : k ≤ 8) : shorts (pur' k s) a b = [(s, [])] := by
  unfold shorts
  rw [und_pure (pur'_con hs h8) (pur'_sum hs), if_pos (pur'_sum hs), start_pur hs h8]
  unfold shortsOf
  split <;> rfl
/-- each short history that is told leads there -/
theorem shorts_lead {ns : List Int} {a b : Int} (kp : Kep a b) (h : Con ns) : ∀ x ∈ shorts ns a b, x.1 < ns.length ∧ x.2.foldl (fun x c => step x a b c) (pur' ns.length x.1) = ns := by
  intro x hx
  have hl := (shorts_liq kp h x hx).1
  refine ⟨hl, ?_⟩
  unfold shorts at hx
  split at hx
  · rename_i h1
    have u := und_un' kp h
    have cL := und_con kp h
    have lL := und_len kp h
    have rd := u.redo kp h
    have eL := pure_is cL h1
    have hs := (start_at cL.nn h1).1
    have hlq := und_liq kp h
    rw [lL] at eL hs
    generalize (und ns a b).2 = L at *
    generalize (und ns a b).1 = U at *
    have hr : ∀ d ∈ U.reverse, d < ns.length := fun d hd => hlq d (List.mem_reverse.mp hd)
    generalize hrow : U.reverse = row at *
    generalize startOf L = s at *
    rw [eL] at rd
    unfold shortsOf at hx
    split at hx
    · rename_i hh
      obtain ⟨rfl, rfl⟩ := hh
      cases row with
      | nil =>
        rw [List.mem_singleton.mp hx]
        exact rd
      | cons c r =>
        rcases List.mem_cons.mp hx with z | z
        · rw [z]; exact rd
        · rw [List.mem_singleton.mp z]
          show (s :: r).foldl _ (pur' ns.length c) = ns
          rw [List.foldl_cons] at rd ⊢
          by_cases hcs : c = s
          · rw [hcs] at rd ⊢
            exact rd
          · rw [← half_swap hs (hr c List.mem_cons_self) hcs h.le8]
            exact rd
    · rw [List.mem_singleton.mp hx]
      exact rd
  · cases hx
end Ma
end

section
set_option Elab.async false
set_option linter.all false
set_option maxHeartbeats 1000000
namespace Ma
/-! uses of one liquid -/
def b2n (u : Bool) : Nat := if u then 1 else 0
def rowU (us : List Bool) : List Nat := us.map b2n
def foldS (x : List Int) (a b : Int) (cs : List Nat) : List Int := cs.foldl (fun x c => step x a b c) x
/-- the law's numbers -/
def ledP (a b : Int) : List Bool → Int × Int → Int × Int
  | [], q => q
  | u :: r, q => ledP a b r (a * q.1 + (b2n u : Nat) * ((b - a) * q.2), q.2 * b)
theorem ledP_app (a b : Int) (u : Bool) : ∀ (us : List Bool) (q : Int × Int), ledP a b (us ++ [u]) q = (a * (ledP a b us q).1 + (b2n u : Nat) * ((b - a) * (ledP a b us q).2), (ledP a b us q).2 * b)
  | [], _ => rfl
  | v :: r, q => ledP_app a b u r _
structure Led (a b : Int) (q : Int × Int) : Prop where
  t0 : 0 ≤ q.1
  tb : q.1 ≤ q.2
  b1 : 1 ≤ q.2
theorem Led.next {a b : Int} {q : Int × Int} (k : Kep a b) (L : Led a b q) (u : Bool) : Led a b (a * q.1 + (b2n u : Nat) * ((b - a) * q.2), q.2 * b) := by
  have k1 := k.a1
  have k2 := k.ab
  have t0 := L.t0
  have tb := L.tb
  have b1 := L.b1
  have m1 : 0 ≤ a * q.1 := Int.mul_nonneg (by omega) t0
  have m2 : a * q.1 ≤ a * q.2 := Int.mul_le_mul_of_nonneg_left tb (by omega)
  have m3 : 0 ≤ (b - a) * q.2 := Int.mul_nonneg (by omega) (by omega)
  have m4 : a * q.2 + (b - a) * q.2 = q.2 * b := by rw [← Int.add_mul, Int.mul_comm q.2 b]; congr 1; omega
  have m5 : q.2 * 1 ≤ q.2 * b := Int.mul_le_mul_of_nonneg_left (by omega) (by omega)
  cases u with
  | false =>
    show Led a b (a * q.1 + 0 * _, _)
    rw [Int.zero_mul, Int.add_zero]
    exact ⟨m1, by show a * q.1 ≤ q.2 * b; omega, by show 1 ≤ q.2 * b; omega⟩
  | true =>
    show Led a b (a * q.1 + 1 * _, _)
    rw [Int.one_mul]
    exact ⟨by show 0 ≤ a * q.1 + (b - a) * q.2; omega, by show a * q.1 + (b - a) * q.2 ≤ q.2 * b; omega, by show 1 ≤ q.2 * b; omega⟩
theorem ledP_led {a b : Int} (k : Kep a b) : ∀ (us : List Bool) (q : Int × Int), Led a b q → Led a b (ledP a b us q)
  | [], _, L => L
  | u :: r, q, L => ledP_led k r _ (L.next k u)
theorem ledP_bot (a b : Int) : ∀ (us : List Bool) (q : Int × Int), (ledP a b us q).2 = q.2 * b ^ us.length
  | [], q => by rw [List.length_nil, Int.pow_zero, Int.mul_one]; rfl
  | u :: r, q => by
    show (ledP a b r _).2 = _
    rw [ledP_bot a b r, List.length_cons, Int.pow_succ, Int.mul_assoc, Int.mul_comm b]
def two2 (q : Int × Int) : List Int := [q.2 - q.1, q.1]
theorem two2_amt {a b : Int} {q : Int × Int} (L : Led a b q) : Amt (two2 q) := by
  have := L.t0
  have := L.tb
  have := L.b1
  refine ⟨fun n hn => ?_, ?_⟩
  · rcases List.mem_cons.mp hn with z | z
    · omega
    · rw [List.mem_singleton.mp z]; exact L.t0
  · show 0 < (q.2 - q.1) + (q.1 + 0)
    omega
theorem two2_con {a b : Int} {q : Int × Int} (L : Led a b q) : Con (plain (two2 q)) := plain_con (two2_amt L) (by show 0 < 2; decide) (by show 2 ≤ 8; decide)
theorem pre_two2 (a b : Int) (q : Int × Int) (u : Bool) : pre (two2 q) a b (b2n u) = two2 (a * q.1 + (b2n u : Nat) * ((b - a) * q.2), q.2 * b) := by
  have hs : (two2 q).sum = q.2 := by show (q.2 - q.1) + (q.1 + 0) = q.2; omega
  cases u with
  | false =>
    show [(q.2 - q.1) * a + (b - a) * (two2 q).sum, q.1 * a] = [q.2 * b - (a * q.1 + 0 * _), a * q.1 + 0 * _]
    rw [hs, Int.zero_mul, Int.add_zero, Int.mul_comm q.1 a, Int.sub_mul, Int.sub_mul, Int.mul_comm q.1 a, Int.mul_comm q.2 a, Int.mul_comm q.2 b]
    congr 1
    omega
  | true =>
    show [(q.2 - q.1) * a, q.1 * a + (b - a) * (two2 q).sum] = [q.2 * b - (a * q.1 + 1 * _), a * q.1 + 1 * _]
    rw [hs, Int.one_mul, Int.mul_comm q.1 a, Int.sub_mul, Int.sub_mul, Int.mul_comm q.1 a, Int.mul_comm q.2 a, Int.mul_comm q.2 b]
    congr 1
    omega
theorem pre_plain {x : List Int} {a b : Int} {c : Nat} (h : Amt x) (hc : c < x.length) : (pre (plain x) a b c).map (fun n => ((gcdN x : Nat) : Int) * n) = pre x a b c := by
  refine list_ext (by simp [pre_len, plain_len]) fun i hi => ?_
  rw [List.length_map, pre_len, plain_len] at hi
  have e : ∀ j, j < x.length → (plain x).getD j 0 * ((gcdN x : Nat) : Int) = x.getD j 0 := fun j hj => by
    unfold plain
    rw [map_getD hj]
    exact plain_mul (getD_in hj)
  rw [map_getD (by rw [pre_len, plain_len]; exact hi), getD_of (pre_get (by rw [plain_len]; exact hi)), getD_of (pre_get hi), Int.mul_add, ← Int.mul_assoc, Int.mul_comm _ ((plain x).getD i 0), e i hi]
  congr 1
  split
  · rw [Int.mul_comm, Int.mul_assoc, plain_sum h]
  · rw [Int.mul_zero]
theorem step_plain {x : List Int} {a b : Int} {c : Nat} (h : Amt x) (hx : Con (plain x)) (k : Kep a b) (hc : c < x.length) : step (plain x) a b c = plain (pre x a b c) := by
  have e := pre_plain (a := a) (b := b) h hc
  have hg := gcdN_pos h
  have hp := gcdN_pos (pre_amt hx k (c := c) (by rw [plain_len]; exact hc))
  unfold step
  rw [← e, plain_scale (by omega) hp]
theorem foldS_led {a b : Int} (k : Kep a b) : ∀ (us : List Bool) (q : Int × Int), Led a b q → foldS (plain (two2 q)) a b (rowU us) = plain (two2 (ledP a b us q))
  | [], _, _ => rfl
  | u :: r, q, L => by
    show foldS (step (plain (two2 q)) a b (b2n u)) a b (rowU r) = _
    rw [step_plain (two2_amt L) (two2_con L) k (by cases u <;> (show _ < 2; decide)), pre_two2]
    exact foldS_led k r _ (L.next k u)
/-- a fraction without a common divisor -/
def frz (q : Int × Int) : Int × Int := (q.1 / ((Nat.gcd q.1.natAbs q.2.natAbs : Nat) : Int), q.2 / ((Nat.gcd q.1.natAbs q.2.natAbs : Nat) : Int))
theorem gcd_two2 {a b : Int} {q : Int × Int} (L : Led a b q) : gcdN (two2 q) = Nat.gcd q.1.natAbs q.2.natAbs := by
  have t0 := L.t0
  have tb := L.tb
  show Nat.gcd (Nat.gcd 0 (q.2 - q.1).natAbs) q.1.natAbs = _
  rw [Nat.gcd_zero_left, Nat.gcd_comm q.1.natAbs]
  have e : q.2.natAbs = (q.2 - q.1).natAbs + q.1.natAbs := by omega
  rw [e, Nat.gcd_add_self_left]
theorem plain_two2 {a b : Int} {q : Int × Int} (L : Led a b q) : plain (two2 q) = two2 (frz q) := by
  unfold plain
  rw [gcd_two2 L]
  show [(q.2 - q.1) / _, q.1 / _] = [q.2 / _ - q.1 / _, q.1 / _]
  have h1 : ((Nat.gcd q.1.natAbs q.2.natAbs : Nat) : Int) ∣ q.1 := Int.natAbs_dvd_natAbs.mp (by rw [Int.natAbs_natCast]; exact Nat.gcd_dvd_left _ _)
  rw [Int.sub_ediv_of_dvd _ h1]
theorem two2_inj {p q : Int × Int} (h : two2 p = two2 q) : p = q := by
  have h1 : p.1 = q.1 := by injection h with _ h; injection h
  have h2 : p.2 - p.1 = q.2 - q.1 := by injection h
  ext
  · exact h1
  · show p.2 = q.2
    omega
/-- the fraction behind uses -/
def ledF (a b : Int) (us : List Bool) : Int × Int := frz (ledP a b us (0, 1))
theorem led0 (a b : Int) : Led a b (0, 1) := ⟨by decide, by decide, by decide⟩
theorem plain01 : plain (two2 (0, 1)) = [1, 0] := by decide
theorem foldS_uses {a b : Int} (k : Kep a b) (us : List Bool) : foldS [1, 0] a b (rowU us) = two2 (ledF a b us) := by
  have := foldS_led k us (0, 1) (led0 a b)
  rw [plain01, plain_two2 (ledP_led k us _ (led0 a b))] at this
  exact this
theorem pur20 : pur' 2 0 = [1, 0] := rfl
/-- what is told -/
def usesL (x : List Int) (a b : Int) (n : Nat) : Option (List Bool) := ((hofl x a b n).find? fun h => h.1 == 0).map fun h => h.2.map fun c => c == 1
theorem step10 {a b : Int} (k : Kep a b) : step [1, 0] a b 0 = [1, 0] := by
  have h := foldS_uses k [false]
  have e : ledF a b [false] = (0, 1) := by
    show frz (a * 0 + 0 * ((b - a) * 1), 1 * b) = (0, 1)
    rw [Int.mul_zero, Int.zero_mul, Int.add_zero, Int.one_mul]
    have k1 := k.a1
    have k2 := k.ab
    unfold frz
    have e2 : Nat.gcd (0 : Int).natAbs b.natAbs = b.natAbs := by show Nat.gcd 0 _ = _; rw [Nat.gcd_zero_left]
    rw [e2, Int.natAbs_of_nonneg (by omega), Int.ediv_self (by omega), Int.zero_ediv]
  rw [e] at h
  exact h
theorem strip (us : List Bool) : ∃ p ds, us = List.replicate p false ++ ds ∧ (ds = [] ∨ ∃ r, ds = true :: r) := by
  induction us with
  | nil => exact ⟨0, [], rfl, .inl rfl⟩
  | cons u r ih =>
    cases u with
    | true => exact ⟨0, true :: r, rfl, .inr ⟨r, rfl⟩⟩
    | false =>
      obtain ⟨p, ds, e, h⟩ := ih
      exact ⟨p + 1, ds, by rw [List.replicate_succ, List.cons_append, ← e], h⟩
theorem foldS_zero {a b : Int} (k : Kep a b) : ∀ p, foldS [1, 0] a b (List.replicate p 0) = [1, 0]
  | 0 => rfl
  | p + 1 => by
    show foldS (step [1, 0] a b 0) a b (List.replicate p 0) = _
    rw [step10 k]
    exact foldS_zero k p
theorem rowU_lt (us : List Bool) : ∀ c ∈ rowU us, c < 2 := fun c hc => by
  obtain ⟨u, _, rfl⟩ := List.mem_map.mp hc
  cases u <;> decide
theorem rowU_back (us : List Bool) : (rowU us).map (fun c => c == 1) = us := by
  unfold rowU
  rw [List.map_map]
  have : ((fun c => c == 1) ∘ b2n) = id := by funext u; cases u <;> rfl
  rw [this, List.map_id]
/-- the uses that were gone are told, with as many more ahead as there is room for -/
theorem uses_told {a b : Int} (k : Kep a b) (us : List Bool) {n : Nat} (hn : us.length ≤ n) : usesL (two2 (ledF a b us)) a b n = some (List.replicate (n - us.length) false ++ us) := by
  obtain ⟨p, ds, rfl, hd⟩ := strip us
  rw [← foldS_uses k]
  have e1 : rowU (List.replicate p false ++ ds) = List.replicate p 0 ++ rowU ds := by unfold rowU; rw [List.map_append, List.map_replicate]; rfl
  have e2 : foldS [1, 0] a b (rowU (List.replicate p false ++ ds)) = foldS (pur' 2 0) a b (rowU ds) := by
    rw [e1]
    unfold foldS
    rw [List.foldl_append]
    have := foldS_zero k p
    unfold foldS at this
    rw [this]
    rfl
  rw [e2]
  rw [List.length_append, List.length_replicate] at hn
  have fin : ∀ (hs : List (Nat × List Nat)), shorts (foldS (pur' 2 0) a b (rowU ds)) a b = (0, rowU ds) :: hs → usesL (foldS (pur' 2 0) a b (rowU ds)) a b n = some (List.replicate (n - (List.replicate p false ++ ds).length) false ++ (List.replicate p false ++ ds)) := fun hs e => by
    unfold usesL hofl
    have hp : pad n (0, rowU ds) = some (0, List.replicate (n - ds.length) 0 ++ rowU ds) := by
      unfold pad
      have hl : (rowU ds).length = ds.length := List.length_map _
      show (if (rowU ds).length ≤ n then _ else _) = _
      rw [if_pos (by omega), hl]
    rw [e, List.filterMap_cons, hp]
    show Option.map _ (List.find? _ ((0, _) :: _)) = _
    rw [List.find?_cons_of_pos (by rfl)]
    show some ((List.replicate (n - ds.length) 0 ++ rowU ds).map fun c => c == 1) = _
    rw [List.map_append, rowU_back, List.map_replicate, List.length_append, List.length_replicate, ← List.append_assoc, List.replicate_append_replicate]
    congr 3
    omega
  rcases hd with rfl | ⟨r, rfl⟩
  · exact fin [] (shorts_pur (by decide) (by decide))
  · have hs := shorts_of (k := 2) (s := 0) (c := 1) (r := rowU r) k (by decide) (by decide) (by decide) (fun d hd => rowU_lt (true :: r) d hd)
    have e3 : foldS (pur' 2 0) a b (rowU (true :: r)) = (1 :: rowU r).foldl (fun x c => step x a b c) (pur' 2 0) := rfl
    rw [← e3] at hs
    split at hs
    · exact fin [(1, 0 :: rowU r)] hs
    · exact fin [] hs
theorem uses_same {a b : Int} (k : Kep a b) (us : List Bool) : usesL (two2 (ledF a b us)) a b us.length = some us := by
  rw [uses_told k us (Nat.le_refl _), Nat.sub_self]
  rfl
/-- uses that are told lead there -/
theorem uses_lead {q : Int × Int} {a b : Int} {n : Nat} {us : List Bool} (k : Kep a b) (h : Con (two2 q)) (e : usesL (two2 q) a b n = some us) : us.length = n ∧ ledF a b us = q := by
  unfold usesL at e
  cases hf : (hofl (two2 q) a b n).find? (fun h => h.1 == 0) with
  | none => rw [hf] at e; cases e
  | some x =>
    rw [hf] at e
    have e : x.2.map (fun c => c == 1) = us := Option.some.inj e
    have h0 : x.1 = 0 := by have := List.find?_some hf; exact eq_of_beq this
    have hm := List.mem_of_find?_eq_some hf
    unfold hofl at hm
    obtain ⟨y, hy, hp⟩ := List.mem_filterMap.mp hm
    unfold pad at hp
    split at hp
    · rename_i hle
      have hx := (Option.some.inj hp).symm
      obtain ⟨l1, l2⟩ := shorts_lead k h y hy
      have lq := (shorts_liq k h y hy).2
      have hy0 : y.1 = 0 := by rw [hx] at h0; exact h0
      have l2' : foldS [1, 0] a b y.2 = two2 q := by
        rw [hy0] at l2
        exact l2
      have lx : x.2 = List.replicate (n - y.2.length) 0 ++ y.2 := by rw [hx, hy0]
      have back : ∀ cs : List Nat, (∀ c ∈ cs, c < 2) → rowU (cs.map fun c => c == 1) = cs := fun cs hc => by
        unfold rowU
        rw [List.map_map]
        induction cs with
        | nil => rfl
        | cons c r ih =>
          rw [List.map_cons, ih fun d hd => hc d (List.mem_cons_of_mem _ hd)]
          have := hc c List.mem_cons_self
          have : c = 0 ∨ c = 1 := by omega
          rcases this with rfl | rfl <;> rfl
      have hx2 : ∀ c ∈ x.2, c < 2 := fun c hc => by
        rw [lx] at hc
        rcases List.mem_append.mp hc with z | z
        · rw [(List.mem_replicate.mp z).2]; decide
        · exact lq c z
      refine ⟨?_, two2_inj ?_⟩
      · rw [← e, List.length_map, lx, List.length_append, List.length_replicate]
        omega
      · rw [← foldS_uses k, ← e, back _ hx2, lx]
        unfold foldS
        rw [List.foldl_append]
        have := foldS_zero k (n - y.2.length)
        unfold foldS at this
        rw [this]
        exact l2'
    · cases hp
end Ma
end

section
set_option Elab.async false
set_option linter.all false
set_option maxHeartbeats 1000000
/-! The limit of a row: the content that the row leads back to. -/
namespace Ma
theorem plain_prop {xs ys : List Int} {p q : Int} (hx : Amt xs) (hy : Amt ys) (hp : 0 < p) (hq : 0 < q) (h : (xs.map fun n => p * n) = ys.map fun n => q * n) : plain xs = plain ys := by
  rw [← plain_scale hp (gcdN_pos hx), h, plain_scale hq (gcdN_pos hy)]
/-- the numbers behind i liquids of a row, undivided -/
def lu (k : Nat) (a b : Int) (cs : List Nat) : Nat → List Int
  | 0 => List.replicate k 0
  | i + 1 => ((lu k a b cs i).map fun n => n * a).set (cs.getD i 0) ((lu k a b cs i).getD (cs.getD i 0) 0 * a + b ^ i)
def lim (k : Nat) (a b : Int) (cs : List Nat) : List Int := plain (lu k a b cs cs.length)
theorem lu_len (k : Nat) (a b : Int) (cs : List Nat) : ∀ i, (lu k a b cs i).length = k
  | 0 => List.length_replicate
  | i + 1 => by
    unfold lu
    rw [List.length_set, List.length_map, lu_len k a b cs i]
theorem lu_get {k : Nat} {a b : Int} {cs : List Nat} {i s : Nat} (hs : s < k) : (lu k a b cs (i + 1)).getD s 0 = (lu k a b cs i).getD s 0 * a + if s = cs.getD i 0 then b ^ i else 0 := by
  have hl := lu_len k a b cs i
  show (((lu k a b cs i).map fun n => n * a).set (cs.getD i 0) ((lu k a b cs i).getD (cs.getD i 0) 0 * a + b ^ i)).getD s 0 = _
  rw [List.getD_eq_getElem?_getD, List.getElem?_set]
  by_cases h : cs.getD i 0 = s
  · rw [if_pos h, if_pos h.symm, if_pos (by rw [List.length_map, hl, h]; exact hs), h]
    rfl
  · rw [if_neg h, if_neg (fun z => h z.symm), List.getElem?_map, List.getD_eq_getElem?_getD, List.getElem?_eq_getElem (by rw [hl]; exact hs)]
    show _ * a = _ * a + 0
    rw [Int.add_zero]
    rfl
theorem lu_nn {k : Nat} {a b : Int} {cs : List Nat} (ha : 0 ≤ a) (hb : 0 ≤ b) : ∀ i, ∀ n ∈ lu k a b cs i, 0 ≤ n
  | 0 => fun n hn => by rw [(List.mem_replicate.mp hn).2]; exact Int.le_refl 0
  | i + 1 => fun n hn => by
    obtain ⟨s, hs, e⟩ := mem_at hn
    rw [lu_len] at hs
    rw [← e, lu_get hs]
    have h1 : 0 ≤ (lu k a b cs i).getD s 0 := lu_nn ha hb i _ (getD_in (by rw [lu_len]; exact hs))
    have h2 := Int.mul_nonneg h1 ha
    have h3 : 0 ≤ b ^ i := Int.pow_nonneg hb
    split <;> omega
theorem sum_rep0 : ∀ k : Nat, (List.replicate k (0 : Int)).sum = 0
  | 0 => rfl
  | k + 1 => by rw [List.replicate_succ, List.sum_cons, sum_rep0 k]; rfl
theorem lu_sum {k : Nat} {a b : Int} {cs : List Nat} {i : Nat} (h : cs.getD i 0 < k) : (lu k a b cs (i + 1)).sum = (lu k a b cs i).sum * a + b ^ i := by
  have hl := lu_len k a b cs i
  show (((lu k a b cs i).map fun n => n * a).set (cs.getD i 0) ((lu k a b cs i).getD (cs.getD i 0) 0 * a + b ^ i)).sum = _
  rw [sum_set _ _ _ (by rw [List.length_map, hl]; exact h), sum_map_mul, map_getD (by rw [hl]; exact h)]
  omega
/-- (b - a) times the sum -/
theorem lu_geo {k : Nat} {a b : Int} {cs : List Nat} : ∀ i, (∀ j, j < i → cs.getD j 0 < k) → (b - a) * (lu k a b cs i).sum = b ^ i - a ^ i
  | 0, _ => by
    show (b - a) * (List.replicate k (0 : Int)).sum = _
    rw [sum_rep0, Int.mul_zero, Int.pow_zero, Int.pow_zero]
    rfl
  | i + 1, h => by
    have e := lu_geo (k := k) (a := a) (b := b) i fun j hj => h j (by omega)
    rw [lu_sum (h i (by omega)), Int.mul_add, ← Int.mul_assoc, e, Int.pow_succ, Int.pow_succ, Int.sub_mul, Int.sub_mul, Int.mul_comm b (b ^ i), Int.mul_comm a (b ^ i)]
    omega
theorem lu_pos {k : Nat} {a b : Int} {cs : List Nat} (ha : 0 ≤ a) (hb : 0 < b) {i : Nat} (h : cs.getD i 0 < k) : 0 < (lu k a b cs (i + 1)).sum := by
  rw [lu_sum h]
  have h1 := Int.mul_nonneg (sum_nn (lu_nn (k := k) (cs := cs) ha (Int.le_of_lt hb) i)) ha
  have h2 : 0 < b ^ i := Int.pow_pos hb
  omega
structure Lro (k : Nat) (a b : Int) (cs : List Nat) : Prop where
  k1 : 1 ≤ k
  k8 : k ≤ 8
  kep : Kep a b
  ne : 0 < cs.length
  c60 : cs.length ≤ 60
  liq : ∀ c ∈ cs, c < k
theorem Lro.at_ {k : Nat} {a b : Int} {cs : List Nat} (R : Lro k a b cs) {j : Nat} (hj : j < cs.length) : cs.getD j 0 < k := by
  rw [List.getD_eq_getElem?_getD, List.getElem?_eq_getElem hj]
  exact R.liq _ (List.getElem_mem hj)
theorem Lro.amt_i {k : Nat} {a b : Int} {cs : List Nat} (R : Lro k a b cs) {i : Nat} (h1 : 0 < i) (hi : i ≤ cs.length) : Amt (lu k a b cs i) := by
  have ha := R.kep.a1
  have hb := R.kep.ab
  obtain ⟨j, rfl⟩ : ∃ j, i = j + 1 := ⟨i - 1, by omega⟩
  exact ⟨lu_nn (by omega) (by omega) _, lu_pos (by omega) (by omega) (R.at_ (by omega))⟩
theorem Lro.amt {k : Nat} {a b : Int} {cs : List Nat} (R : Lro k a b cs) : Amt (lu k a b cs cs.length) := R.amt_i R.ne (Nat.le_refl _)
theorem Lro.con {k : Nat} {a b : Int} {cs : List Nat} (R : Lro k a b cs) : Con (lim k a b cs) := by
  have := R.k1
  have := R.k8
  exact plain_con R.amt (by rw [lu_len]; omega) (by rw [lu_len]; omega)
theorem lim_len (k : Nat) (a b : Int) (cs : List Nat) : (lim k a b cs).length = k := by unfold lim; rw [plain_len, lu_len]
theorem Lro.geo {k : Nat} {a b : Int} {cs : List Nat} (R : Lro k a b cs) {i : Nat} (hi : i ≤ cs.length) : (b - a) * (lu k a b cs i).sum = b ^ i - a ^ i := lu_geo i fun j hj => R.at_ (by omega)
theorem pow_mono {x y : Int} (hx : 0 ≤ x) (h : x ≤ y) : ∀ i : Nat, x ^ i ≤ y ^ i
  | 0 => by rw [Int.pow_zero, Int.pow_zero]; exact Int.le_refl 1
  | i + 1 => by
    rw [Int.pow_succ, Int.pow_succ]
    exact Int.le_trans (Int.mul_le_mul_of_nonneg_right (pow_mono hx h i) hx) (Int.mul_le_mul_of_nonneg_left h (Int.pow_nonneg (by omega)))
theorem Lro.le_pow {k : Nat} {a b : Int} {cs : List Nat} (R : Lro k a b cs) {i : Nat} (hi : i ≤ cs.length) : (lu k a b cs i).sum ≤ b ^ i := by
  have ha := R.kep.a1
  have hb := R.kep.ab
  have e := R.geo hi
  have h1 : 0 ≤ a ^ i := Int.pow_nonneg (by omega)
  have h2 := sum_nn (lu_nn (k := k) (cs := cs) (show 0 ≤ a by omega) (show 0 ≤ b by omega) i)
  have h3 : 1 * (lu k a b cs i).sum ≤ (b - a) * (lu k a b cs i).sum := Int.mul_le_mul_of_nonneg_right (by omega) h2
  omega
theorem hund60 (i : Nat) (h : i ≤ 60) : (100 : Int) ^ i < 2 ^ 420 := by
  have h1 : (100 : Nat) ^ i ≤ 100 ^ 60 := Nat.pow_le_pow_right (by decide) h
  have h2 : (100 : Nat) ^ 60 < 2 ^ 420 := by decide +kernel
  have h3 : (100 : Nat) ^ i < 2 ^ 420 := Nat.lt_of_le_of_lt h1 h2
  exact_mod_cast h3
theorem Lro.small_i {k : Nat} {a b : Int} {cs : List Nat} (R : Lro k a b cs) {i : Nat} (hi : i ≤ cs.length) : (lu k a b cs i).sum < 2 ^ 420 := by
  have ha := R.kep.a1
  have hb := R.kep.ab
  have h60 := R.c60
  exact Int.lt_of_le_of_lt (Int.le_trans (R.le_pow hi) (pow_mono (by omega) R.kep.b100 i)) (hund60 i (by omega))
theorem Lro.small {k : Nat} {a b : Int} {cs : List Nat} (R : Lro k a b cs) : (lim k a b cs).sum < 2 ^ 420 := Int.lt_of_le_of_lt (plain_sum_le R.amt) (R.small_i (Nat.le_refl _))
/-- what i liquids of the row make of its limit, undivided -/
def lw (k : Nat) (a b : Int) (cs : List Nat) (i : Nat) : List Int :=
  (List.range k).map fun s => a ^ i * (lu k a b cs cs.length).getD s 0 + (b ^ cs.length - a ^ cs.length) * (lu k a b cs i).getD s 0
theorem lw_len (k : Nat) (a b : Int) (cs : List Nat) (i : Nat) : (lw k a b cs i).length = k := by unfold lw; rw [List.length_map, List.length_range]
theorem lw_get {k : Nat} {a b : Int} {cs : List Nat} {i s : Nat} (hs : s < k) : (lw k a b cs i).getD s 0 = a ^ i * (lu k a b cs cs.length).getD s 0 + (b ^ cs.length - a ^ cs.length) * (lu k a b cs i).getD s 0 := by
  unfold lw
  rw [List.getD_eq_getElem?_getD, List.getElem?_map, List.getElem?_range hs]
  rfl
theorem sum_two (p q : Int) (x y : List Int) : ∀ k : Nat, x.length = k → y.length = k → ((List.range k).map fun s => p * x.getD s 0 + q * y.getD s 0).sum = p * x.sum + q * y.sum := by
  intro k
  induction k generalizing x y with
  | zero =>
    intro hx hy
    rw [List.length_eq_zero_iff.mp hx, List.length_eq_zero_iff.mp hy]
    show (0 : Int) = p * 0 + q * 0
    omega
  | succ k ih =>
    intro hx hy
    cases x with
    | nil => cases hx
    | cons u x =>
    cases y with
    | nil => cases hy
    | cons v y =>
    rw [List.range_succ_eq_map, List.map_cons, List.map_map, List.sum_cons, List.sum_cons, List.sum_cons]
    have e := ih x y (Nat.succ.inj hx) (Nat.succ.inj hy)
    have e2 : ((List.range k).map ((fun s => p * (u :: x).getD s 0 + q * (v :: y).getD s 0) ∘ Nat.succ)) = (List.range k).map fun s => p * x.getD s 0 + q * y.getD s 0 := List.map_congr_left fun s _ => rfl
    rw [e2, e, Int.mul_add, Int.mul_add]
    show p * u + q * v + _ = _
    omega
theorem lw_sum {k : Nat} {a b : Int} {cs : List Nat} {i : Nat} : (lw k a b cs i).sum = a ^ i * (lu k a b cs cs.length).sum + (b ^ cs.length - a ^ cs.length) * (lu k a b cs i).sum :=
  sum_two _ _ _ _ k (lu_len ..) (lu_len ..)
theorem Lro.lw_geo {k : Nat} {a b : Int} {cs : List Nat} (R : Lro k a b cs) {i : Nat} (hi : i ≤ cs.length) : (b - a) * (lw k a b cs i).sum = (b ^ cs.length - a ^ cs.length) * b ^ i := by
  rw [lw_sum, Int.mul_add, Int.mul_left_comm, R.geo (Nat.le_refl _), Int.mul_left_comm (b - a), R.geo hi]
  generalize b ^ cs.length - a ^ cs.length = D
  rw [Int.mul_sub, Int.mul_comm (a ^ i)]
  omega
theorem Lro.D_pos {k : Nat} {a b : Int} {cs : List Nat} (R : Lro k a b cs) : 0 < b ^ cs.length - a ^ cs.length := by
  rw [← R.geo (Nat.le_refl _)]
  exact Int.mul_pos (by have := R.kep.ab; omega) R.amt.pos
theorem Lro.lw_amt {k : Nat} {a b : Int} {cs : List Nat} (R : Lro k a b cs) (i : Nat) : Amt (lw k a b cs i) := by
  have ha := R.kep.a1
  have hb := R.kep.ab
  have hD := R.D_pos
  have n1 : ∀ j, ∀ n ∈ lu k a b cs j, 0 ≤ n := lu_nn (by omega) (by omega)
  refine ⟨fun n hn => ?_, ?_⟩
  · obtain ⟨s, hs, e⟩ := mem_at hn
    rw [lw_len] at hs
    rw [← e, lw_get hs]
    have h1 := Int.mul_nonneg (show (0 : Int) ≤ a ^ i from Int.pow_nonneg (by omega)) (n1 cs.length _ (getD_in (ns := lu k a b cs cs.length) (i := s) (by rw [lu_len]; exact hs)))
    have h2 := Int.mul_nonneg (Int.le_of_lt hD) (n1 i _ (getD_in (ns := lu k a b cs i) (i := s) (by rw [lu_len]; exact hs)))
    omega
  · rw [lw_sum]
    have h1 := Int.mul_pos (show (0 : Int) < a ^ i from Int.pow_pos (by omega)) R.amt.pos
    have h2 := Int.mul_nonneg (Int.le_of_lt hD) (sum_nn (n1 i))
    omega
theorem Lro.pre_lw {k : Nat} {a b : Int} {cs : List Nat} (R : Lro k a b cs) {i : Nat} (hi : i < cs.length) : pre (lw k a b cs i) a b (cs.getD i 0) = lw k a b cs (i + 1) := by
  refine list_ext (by rw [pre_len, lw_len, lw_len]) fun s hs => ?_
  rw [pre_len, lw_len] at hs
  rw [getD_of (pre_get (by rw [lw_len]; exact hs)), lw_get hs, lw_get hs, lu_get hs, R.lw_geo (Nat.le_of_lt hi), Int.add_mul, Int.pow_succ, Int.mul_add, Int.mul_assoc, Int.mul_comm ((lu k a b cs cs.length).getD s 0) a, ← Int.mul_assoc, Int.mul_assoc _ _ a, Int.add_assoc]
  congr 2
  split
  · rfl
  · rw [Int.mul_zero]
theorem lw_zero {k : Nat} {a b : Int} {cs : List Nat} : lw k a b cs 0 = lu k a b cs cs.length := by
  refine list_ext (by rw [lw_len, lu_len]) fun s hs => ?_
  rw [lw_len] at hs
  rw [lw_get hs]
  have e : (lu k a b cs 0).getD s 0 = 0 := by
    show (List.replicate k (0 : Int)).getD s 0 = 0
    rw [List.getD_eq_getElem?_getD, List.getElem?_replicate, if_pos hs]
    rfl
  rw [e, Int.mul_zero, Int.pow_zero, Int.one_mul, Int.add_zero]
theorem lw_end {k : Nat} {a b : Int} {cs : List Nat} : lw k a b cs cs.length = (lu k a b cs cs.length).map fun n => b ^ cs.length * n := by
  refine list_ext (by rw [lw_len, List.length_map, lu_len]) fun s hs => ?_
  rw [lw_len] at hs
  rw [lw_get hs, map_getD (by rw [lu_len]; exact hs), Int.sub_mul]
  omega
theorem Lro.step_lw {k : Nat} {a b : Int} {cs : List Nat} (R : Lro k a b cs) {i : Nat} (hi : i < cs.length) : step (plain (lw k a b cs i)) a b (cs.getD i 0) = plain (lw k a b cs (i + 1)) := by
  have := R.k1
  have := R.k8
  rw [step_plain (R.lw_amt i) (plain_con (R.lw_amt i) (by rw [lw_len]; omega) (by rw [lw_len]; omega)) R.kep (by rw [lw_len]; exact R.at_ hi), R.pre_lw hi]
theorem Lro.plain_end {k : Nat} {a b : Int} {cs : List Nat} (R : Lro k a b cs) : plain (lw k a b cs cs.length) = lim k a b cs := by
  have ha := R.kep.a1
  have hb := R.kep.ab
  unfold lim
  rw [lw_end, plain_scale (Int.pow_pos (by omega)) (gcdN_pos R.amt)]
end Ma
end

section
set_option Elab.async false
set_option linter.all false
set_option maxHeartbeats 1000000
/-! Distances to a limit: they shrink by a power each round. -/
namespace Ma
/-- undivided: behind i liquids of a row -/
def rnd (x : List Int) (a b : Int) (cs : List Nat) : Nat → List Int
  | 0 => x
  | i + 1 => pre (rnd x a b cs i) a b (cs.getD i 0)
theorem rnd_len (x : List Int) (a b : Int) (cs : List Nat) : ∀ i, (rnd x a b cs i).length = x.length
  | 0 => rfl
  | i + 1 => by unfold rnd; rw [pre_len, rnd_len x a b cs i]
theorem rnd_sum {x : List Int} {a b : Int} {cs : List Nat} : ∀ i, (∀ j, j < i → cs.getD j 0 < x.length) → (rnd x a b cs i).sum = b ^ i * x.sum
  | 0, _ => by unfold rnd; rw [Int.pow_zero, Int.one_mul]
  | i + 1, h => by
    unfold rnd
    rw [pre_sum (by rw [rnd_len]; exact h i (by omega)), rnd_sum i fun j hj => h j (by omega), Int.pow_succ, ← Int.mul_assoc, Int.mul_comm b]
theorem rnd_nn {x : List Int} {a b : Int} {cs : List Nat} (hx : ∀ n ∈ x, 0 ≤ n) (ha : 0 ≤ a) (hb : a ≤ b) : ∀ i, ∀ n ∈ rnd x a b cs i, 0 ≤ n
  | 0 => hx
  | i + 1 => pre_nn (rnd_nn hx ha hb i) ha hb
/-- behind r rounds -/
def rnds (x : List Int) (a b : Int) (cs : List Nat) : Nat → List Int
  | 0 => x
  | r + 1 => rnd (rnds x a b cs r) a b cs cs.length
theorem rnds_len (x : List Int) (a b : Int) (cs : List Nat) : ∀ r, (rnds x a b cs r).length = x.length
  | 0 => rfl
  | r + 1 => by unfold rnds; rw [rnd_len, rnds_len x a b cs r]
theorem rnds_nn {x : List Int} {a b : Int} {cs : List Nat} (hx : ∀ n ∈ x, 0 ≤ n) (ha : 0 ≤ a) (hb : a ≤ b) : ∀ r, ∀ n ∈ rnds x a b cs r, 0 ≤ n
  | 0 => hx
  | r + 1 => rnd_nn (rnds_nn hx ha hb r) ha hb _
theorem rnds_sum {x : List Int} {a b : Int} {cs : List Nat} (h : ∀ j, j < cs.length → cs.getD j 0 < x.length) : ∀ r, (rnds x a b cs r).sum = (b ^ cs.length) ^ r * x.sum
  | 0 => by unfold rnds; rw [Int.pow_zero, Int.one_mul]
  | r + 1 => by
    unfold rnds
    rw [rnd_sum _ (by rw [rnds_len]; exact h), rnds_sum h r, Int.pow_succ, ← Int.mul_assoc, Int.mul_comm (b ^ cs.length)]
/-- the difference of shares of a liquid, over both bottoms -/
def dif (x l : List Int) (i : Nat) : Int := x.getD i 0 * l.sum - l.getD i 0 * x.sum
theorem pre_getD {x : List Int} {a b : Int} {c i : Nat} (hi : i < x.length) : (pre x a b c).getD i 0 = x.getD i 0 * a + if i = c then (b - a) * x.sum else 0 := getD_of (pre_get hi)
theorem dif_pre {x l : List Int} {a b : Int} {c i : Nat} (hl : l.length = x.length) (hc : c < x.length) (hi : i < x.length) : dif (pre x a b c) (pre l a b c) i = a * b * dif x l i := by
  unfold dif
  rw [pre_getD hi, pre_getD (by rw [hl]; exact hi), pre_sum hc, pre_sum (by rw [hl]; exact hc)]
  generalize x.getD i 0 = u
  generalize l.getD i 0 = v
  generalize x.sum = S
  generalize l.sum = L
  split
  · have e1 : (u * a + (b - a) * S) * (b * L) - (v * a + (b - a) * L) * (b * S) = (u * a * (b * L) - v * a * (b * S)) + ((b - a) * S * (b * L) - (b - a) * L * (b * S)) := by
      rw [Int.add_mul, Int.add_mul]
      omega
    have e2 : (b - a) * S * (b * L) = (b - a) * L * (b * S) := by
      simp only [Int.mul_comm, Int.mul_left_comm, Int.mul_assoc]
    have e3 : u * a * (b * L) = a * b * (u * L) := by simp only [Int.mul_comm, Int.mul_left_comm, Int.mul_assoc]
    have e4 : v * a * (b * S) = a * b * (v * S) := by simp only [Int.mul_comm, Int.mul_left_comm, Int.mul_assoc]
    rw [e1, e2, e3, e4, Int.mul_sub]
    omega
  · rw [Int.add_zero, Int.add_zero]
    have e3 : u * a * (b * L) = a * b * (u * L) := by simp only [Int.mul_comm, Int.mul_left_comm, Int.mul_assoc]
    have e4 : v * a * (b * S) = a * b * (v * S) := by simp only [Int.mul_comm, Int.mul_left_comm, Int.mul_assoc]
    rw [e3, e4, Int.mul_sub]
theorem dif_rnd {x l : List Int} {a b : Int} {cs : List Nat} {s : Nat} (hl : l.length = x.length) (hs : s < x.length) : ∀ i, (∀ j, j < i → cs.getD j 0 < x.length) → dif (rnd x a b cs i) (rnd l a b cs i) s = (a * b) ^ i * dif x l s
  | 0, _ => by unfold rnd; rw [Int.pow_zero, Int.one_mul]
  | i + 1, h => by
    unfold rnd
    rw [dif_pre (by rw [rnd_len, rnd_len, hl]) (by rw [rnd_len]; exact h i (by omega)) (by rw [rnd_len]; exact hs), dif_rnd hl hs i fun j hj => h j (by omega), Int.pow_succ, ← Int.mul_assoc, Int.mul_comm (a * b)]
theorem pre_scale (g : Int) {x : List Int} {a b : Int} {c : Nat} : pre (x.map fun n => g * n) a b c = (pre x a b c).map fun n => g * n := by
  refine list_ext (by simp [pre_len]) fun i hi => ?_
  rw [pre_len, List.length_map] at hi
  have e : (x.map fun n => g * n).sum = g * x.sum := by
    have := sum_map_mul g x
    rw [← Int.mul_comm, ← this]
    congr 1
    exact List.map_congr_left fun n _ => Int.mul_comm ..
  rw [pre_getD (by rw [List.length_map]; exact hi), map_getD hi, map_getD (by rw [pre_len]; exact hi), pre_getD hi, Int.mul_add, Int.mul_assoc, e]
  congr 1
  split
  · rw [Int.mul_left_comm]
  · rw [Int.mul_zero]
theorem rnd_scale (g : Int) {x : List Int} {a b : Int} {cs : List Nat} : ∀ i, rnd (x.map fun n => g * n) a b cs i = (rnd x a b cs i).map fun n => g * n
  | 0 => rfl
  | i + 1 => by
    show pre (rnd (x.map fun n => g * n) a b cs i) a b _ = (pre (rnd x a b cs i) a b _).map _
    rw [rnd_scale g i, pre_scale]
theorem Lro.rnd_lw {k : Nat} {a b : Int} {cs : List Nat} (R : Lro k a b cs) : ∀ i, i ≤ cs.length → rnd (lu k a b cs cs.length) a b cs i = lw k a b cs i
  | 0, _ => lw_zero.symm
  | i + 1, h => by
    show pre (rnd (lu k a b cs cs.length) a b cs i) a b _ = _
    rw [R.rnd_lw i (by omega), R.pre_lw (by omega)]
theorem plain_up {xs : List Int} : (plain xs).map (fun n => ((gcdN xs : Nat) : Int) * n) = xs := by
  unfold plain
  rw [List.map_map]
  have : ∀ n ∈ xs, ((fun n => ((gcdN xs : Nat) : Int) * n) ∘ fun n => n / ((gcdN xs : Nat) : Int)) n = n := fun n hn => by
    show ((gcdN xs : Nat) : Int) * (n / ((gcdN xs : Nat) : Int)) = n
    rw [Int.mul_comm, plain_mul hn]
  rw [List.map_congr_left this, List.map_id']
/-- the row leads the limit to itself, undivided to a multiple -/
theorem Lro.rnd_lim {k : Nat} {a b : Int} {cs : List Nat} (R : Lro k a b cs) : rnd (lim k a b cs) a b cs cs.length = (lim k a b cs).map fun n => b ^ cs.length * n := by
  have hg := gcdN_pos R.amt
  have e := rnd_scale ((gcdN (lu k a b cs cs.length) : Nat) : Int) (x := lim k a b cs) (a := a) (b := b) (cs := cs) cs.length
  have e2 : (lim k a b cs).map (fun n => ((gcdN (lu k a b cs cs.length) : Nat) : Int) * n) = lu k a b cs cs.length := plain_up
  rw [e2, R.rnd_lw _ (Nat.le_refl _), lw_end] at e
  refine list_ext (by rw [rnd_len, List.length_map]) fun s hs => ?_
  rw [rnd_len, lim_len] at hs
  have e3 := congrArg (fun l => l.getD s 0) e
  have e4 : (lu k a b cs cs.length).getD s 0 = ((gcdN (lu k a b cs cs.length) : Nat) : Int) * (lim k a b cs).getD s 0 := by
    rw [← map_getD (f := fun n => ((gcdN (lu k a b cs cs.length) : Nat) : Int) * n) (by rw [lim_len]; exact hs), e2]
  have e5 : ((lu k a b cs cs.length).map fun n => b ^ cs.length * n).getD s 0 = ((rnd (lim k a b cs) a b cs cs.length).map fun n => ((gcdN (lu k a b cs cs.length) : Nat) : Int) * n).getD s 0 := e3
  rw [map_getD (by rw [lu_len]; exact hs), map_getD (by rw [rnd_len, lim_len]; exact hs), e4, Int.mul_left_comm] at e5
  rw [map_getD (by rw [lim_len]; exact hs)]
  exact (Int.eq_of_mul_eq_mul_left (by omega) e5).symm
theorem dif_rnds {k : Nat} {a b : Int} {cs : List Nat} (R : Lro k a b cs) {x : List Int} (hx : x.length = k) {s : Nat} (hs : s < k) : ∀ r, dif (rnds x a b cs r) (lim k a b cs) s = (a ^ cs.length) ^ r * dif x (lim k a b cs) s
  | 0 => by unfold rnds; rw [Int.pow_zero, Int.one_mul]
  | r + 1 => by
    have hb : 0 < b ^ cs.length := Int.pow_pos (by have := R.kep.a1; have := R.kep.ab; omega)
    have hl := rnds_len x a b cs r
    have e := dif_rnd (x := rnds x a b cs r) (l := lim k a b cs) (a := a) (b := b) (cs := cs) (s := s) (by rw [lim_len, hl, hx]) (by rw [hl, hx]; exact hs) cs.length fun j hj => by rw [hl, hx]; exact R.at_ hj
    rw [R.rnd_lim, dif_rnds R hx hs r] at e
    have e2 : dif (rnds x a b cs (r + 1)) ((lim k a b cs).map fun n => b ^ cs.length * n) s = b ^ cs.length * dif (rnds x a b cs (r + 1)) (lim k a b cs) s := by
      have e3 : ((lim k a b cs).map fun n => b ^ cs.length * n).sum = b ^ cs.length * (lim k a b cs).sum := by
        have := sum_map_mul (b ^ cs.length) (lim k a b cs)
        rw [← Int.mul_comm, ← this]
        congr 1
        exact List.map_congr_left fun n _ => Int.mul_comm ..
      unfold dif
      rw [e3, map_getD (by rw [lim_len]; exact hs), Int.mul_sub, Int.mul_left_comm, Int.mul_assoc]
    have e4 : dif (rnd (rnds x a b cs r) a b cs cs.length) ((lim k a b cs).map fun n => b ^ cs.length * n) s = b ^ cs.length * dif (rnds x a b cs (r + 1)) (lim k a b cs) s := e2
    rw [e4, Int.mul_pow] at e
    refine Int.eq_of_mul_eq_mul_left (a := b ^ cs.length) (by omega) ?_
    rw [e, Int.pow_succ]
    simp only [Int.mul_comm, Int.mul_left_comm, Int.mul_assoc]
/-- the greatest of numbers from 0 on -/
def mx : List Int → Int
  | [] => 0
  | n :: ns => if mx ns ≤ n then n else mx ns
theorem le_mx : ∀ {ns : List Int} {n : Int}, n ∈ ns → n ≤ mx ns
  | m :: ns, n, h => by
    unfold mx
    rcases List.mem_cons.mp h with e | e
    · subst e
      split <;> omega
    · have := le_mx e
      split <;> omega
theorem mx_mem : ∀ {ns : List Int}, 0 < ns.length → (∀ n ∈ ns, 0 ≤ n) → mx ns ∈ ns
  | [n], _, h => by
    have := h n List.mem_cons_self
    unfold mx
    have e : mx [] = 0 := rfl
    rw [e, if_pos this]
    exact List.mem_cons_self
  | n :: m :: ns, _, h => by
    have := mx_mem (ns := m :: ns) (by simp) fun x hx => h x (List.mem_cons_of_mem _ hx)
    unfold mx
    split
    · exact List.mem_cons_self
    · exact List.mem_cons_of_mem _ this
theorem mx_is {ns : List Int} {m : Int} (h : ∀ n ∈ ns, 0 ≤ n) (hm : m ∈ ns) (hu : ∀ y ∈ ns, y ≤ m) : m = mx ns :=
  Int.le_antisymm (le_mx hm) (hu _ (mx_mem (List.length_pos_of_mem hm) h))
theorem mx_scale {t : Int} (ht : 0 ≤ t) : ∀ ns : List Int, (∀ n ∈ ns, 0 ≤ n) → mx (ns.map fun n => t * n) = t * mx ns
  | [], _ => by show (0 : Int) = t * 0; omega
  | n :: ns, h => by
    have e := mx_scale ht ns fun x hx => h x (List.mem_cons_of_mem _ hx)
    show (if mx (ns.map fun n => t * n) ≤ t * n then t * n else mx (ns.map fun n => t * n)) = t * (if mx ns ≤ n then n else mx ns)
    rw [e]
    by_cases hc : mx ns ≤ n
    · rw [if_pos hc, if_pos (Int.mul_le_mul_of_nonneg_left hc ht)]
    · rw [if_neg hc]
      by_cases hd : t * mx ns ≤ t * n
      · rw [if_pos hd]
        exact Int.le_antisymm (Int.mul_le_mul_of_nonneg_left (by omega) ht) hd
      · rw [if_neg hd]
theorem mx_nn : ∀ ns : List Int, (∀ n ∈ ns, 0 ≤ n) → 0 ≤ mx ns
  | [], _ => Int.le_refl 0
  | n :: ns, h => by
    have := h n List.mem_cons_self
    have := mx_nn ns fun x hx => h x (List.mem_cons_of_mem _ hx)
    unfold mx
    split <;> omega
def tops (x l : List Int) : List Int := (List.range x.length).map fun i => ((dif x l i).natAbs : Int)
theorem tops_nn (x l : List Int) : ∀ n ∈ tops x l, 0 ≤ n := fun n hn => by
  obtain ⟨i, _, e⟩ := List.mem_map.mp hn
  omega
theorem tops_len (x l : List Int) : (tops x l).length = x.length := by unfold tops; rw [List.length_map, List.length_range]
def gd (x l : List Int) : Int := mx (tops x l)
theorem gd_nn (x l : List Int) : 0 ≤ gd x l := mx_nn _ (tops_nn x l)
theorem tops_rnds {k : Nat} {a b : Int} {cs : List Nat} (R : Lro k a b cs) {x : List Int} (hx : x.length = k) (r : Nat) : tops (rnds x a b cs r) (lim k a b cs) = (tops x (lim k a b cs)).map fun n => (a ^ cs.length) ^ r * n := by
  have ha : 0 ≤ (a ^ cs.length) ^ r := Int.pow_nonneg (Int.pow_nonneg (by have := R.kep.a1; omega))
  unfold tops
  rw [rnds_len, List.map_map]
  refine List.map_congr_left fun i hi => ?_
  have hi2 := List.mem_range.mp hi
  show _ = (a ^ cs.length) ^ r * (((dif x (lim k a b cs) i).natAbs : Nat) : Int)
  rw [dif_rnds R hx (by rw [← hx]; exact hi2) r, Int.natAbs_mul]
  show ((((a ^ cs.length) ^ r).natAbs * (dif x (lim k a b cs) i).natAbs : Nat) : Int) = _
  rw [Int.natCast_mul, Int.natAbs_of_nonneg ha]
/-- the greatest difference behind r rounds -/
theorem gd_rnds {k : Nat} {a b : Int} {cs : List Nat} (R : Lro k a b cs) {x : List Int} (hx : x.length = k) (r : Nat) : gd (rnds x a b cs r) (lim k a b cs) = (a ^ cs.length) ^ r * gd x (lim k a b cs) := by
  unfold gd
  rw [tops_rnds R hx r, mx_scale (Int.pow_nonneg (Int.pow_nonneg (by have := R.kep.a1; omega))) _ (tops_nn _ _)]
theorem dif_le {x l : List Int} (hx : ∀ n ∈ x, 0 ≤ n) (hl : ∀ n ∈ l, 0 ≤ n) {i : Nat} (hi : i < x.length) (hi2 : i < l.length) : ((dif x l i).natAbs : Int) ≤ x.sum * l.sum := by
  have h1 := le_sum hx (getD_in hi)
  have h2 := le_sum hl (getD_in hi2)
  have h3 := hx _ (getD_in hi)
  have h4 := hl _ (getD_in hi2)
  have h5 := sum_nn hx
  have h6 := sum_nn hl
  have g1 : x.getD i 0 * l.sum ≤ x.sum * l.sum := Int.mul_le_mul_of_nonneg_right h1 h6
  have g2 : l.getD i 0 * x.sum ≤ l.sum * x.sum := Int.mul_le_mul_of_nonneg_right h2 h5
  have g3 := Int.mul_nonneg h3 h6
  have g4 := Int.mul_nonneg h4 h5
  rw [Int.mul_comm l.sum] at g2
  unfold dif
  omega
theorem gd_le {x l : List Int} (hx : ∀ n ∈ x, 0 ≤ n) (hl : ∀ n ∈ l, 0 ≤ n) (he : l.length = x.length) (h0 : 0 < x.length) : gd x l ≤ x.sum * l.sum := by
  have hm := mx_mem (ns := tops x l) (by rw [tops_len]; exact h0) (tops_nn x l)
  obtain ⟨i, hi, e⟩ := List.mem_map.mp hm
  have hi2 := List.mem_range.mp hi
  have := dif_le hx hl hi2 (by rw [he]; exact hi2)
  unfold gd
  omega
/-! how often -/
/-- s is the least number of steps behind which T * A ^ s is at most U * B ^ s -/
structure Lst (T U A B : Int) (s : Nat) : Prop where
  le : T * A ^ s ≤ U * B ^ s
  lt : ∀ r, r < s → U * B ^ r < T * A ^ r
theorem Lst.uniq {T U A B : Int} {s t : Nat} (h : Lst T U A B s) (g : Lst T U A B t) : s = t := by
  rcases Nat.lt_trichotomy s t with z | z | z
  · have := g.lt s z
    have := h.le
    omega
  · exact z
  · have := h.lt t z
    have := g.le
    omega
theorem pow99 {a b : Int} (ha : 0 ≤ a) (hb : 0 ≤ b) (h : 100 * a ≤ 99 * b) : ∀ s : Nat, 100 ^ s * a ^ s ≤ 99 ^ s * b ^ s
  | 0 => by simp
  | s + 1 => by
    have e := pow99 ha hb h s
    have e1 : (100 : Int) ^ (s + 1) * a ^ (s + 1) = (100 ^ s * a ^ s) * (100 * a) := by
      rw [Int.pow_succ, Int.pow_succ]
      simp only [Int.mul_comm, Int.mul_left_comm, Int.mul_assoc]
    have e2 : (99 : Int) ^ (s + 1) * b ^ (s + 1) = (99 ^ s * b ^ s) * (99 * b) := by
      rw [Int.pow_succ, Int.pow_succ]
      simp only [Int.mul_comm, Int.mul_left_comm, Int.mul_assoc]
    rw [e1, e2]
    have h1 : 0 ≤ (100 : Int) ^ s * a ^ s := Int.mul_nonneg (Int.pow_nonneg (by decide)) (Int.pow_nonneg ha)
    exact Int.le_trans (Int.mul_le_mul_of_nonneg_left h h1) (Int.mul_le_mul_of_nonneg_right e (by omega))
theorem end1400 : (1000000 : Int) * 99 ^ 1400 ≤ 100 ^ 1400 := by decide +kernel
/-- behind 1400 steps it is over -/
theorem steps_end {T U A B : Int} (hA : 0 ≤ A) (hB : 0 ≤ B) (hAB : 100 * A ≤ 99 * B) (hU : 0 ≤ U) (hT : T ≤ 1000000 * U) : T * A ^ 1400 ≤ U * B ^ 1400 := by
  have h1 : T * A ^ 1400 ≤ 1000000 * U * A ^ 1400 := Int.mul_le_mul_of_nonneg_right hT (Int.pow_nonneg hA)
  have h2 := pow99 hA hB hAB 1400
  have h3 : (0 : Int) < 100 ^ 1400 := Int.pow_pos (by decide)
  have h4 : (100 : Int) ^ 1400 * (1000000 * U * A ^ 1400) ≤ 100 ^ 1400 * (U * B ^ 1400) := by
    have e1 : (100 : Int) ^ 1400 * (1000000 * U * A ^ 1400) = 1000000 * U * (100 ^ 1400 * A ^ 1400) := by simp only [Int.mul_comm, Int.mul_left_comm, Int.mul_assoc]
    have e2 : (1000000 : Int) * U * (99 ^ 1400 * B ^ 1400) = (1000000 * 99 ^ 1400) * (U * B ^ 1400) := by simp only [Int.mul_comm, Int.mul_left_comm, Int.mul_assoc]
    rw [e1]
    refine Int.le_trans (Int.mul_le_mul_of_nonneg_left h2 (by omega)) ?_
    rw [e2]
    exact Int.mul_le_mul_of_nonneg_right end1400 (Int.mul_nonneg hU (Int.pow_nonneg hB))
  exact Int.le_trans h1 (Int.le_of_mul_le_mul_left h4 h3)
theorem pow100 {a b : Int} (ha : 0 ≤ a) (hb : 0 ≤ b) (h : 100 * a ≤ 99 * b) (hab : a ≤ b) : ∀ n : Nat, 0 < n → 100 * a ^ n ≤ 99 * b ^ n
  | 1, _ => by rw [Int.pow_succ, Int.pow_succ, Int.pow_zero, Int.pow_zero]; omega
  | n + 2, _ => by
    have e := pow100 ha hb h hab (n + 1) (by omega)
    rw [Int.pow_succ a, Int.pow_succ b, ← Int.mul_assoc, ← Int.mul_assoc]
    have h1 : 0 ≤ a ^ (n + 1) := Int.pow_nonneg ha
    exact Int.le_trans (Int.mul_le_mul_of_nonneg_left hab (by omega)) (Int.mul_le_mul_of_nonneg_right e hb)
end Ma
end

section
set_option Elab.async false
set_option linter.all false
set_option maxRecDepth 100000
set_option maxHeartbeats 4000000
/-! Comprehensions whose elements leave what is tracked as it is: the list so far, by a function of the place. -/
namespace Gx
open PySem PySem.Spec PyProof.Rows L2 GxR
theorem sameR (H : Hp) : Same H H := fun _ _ h => h
theorem sameN {H : Hp} {p : Addr} {o : HO} (h : H p = none) : Same H (L2.upd H p o) := fun b x e => by
  rw [L2.upd_ne (ne_of_none e h)]
  exact e
/-- the list so far -/
def fmL (f : Nat → Option V) (i : Nat) : List V := (List.range i).filterMap f
theorem fmL_succ (f : Nat → Option V) (i : Nat) : fmL f (i + 1) = fmL f i ++ (f i).toList := by
  unfold fmL
  rw [List.range_succ, List.filterMap_append]
  cases h : f i <;> simp [h]
theorem fmL_len (f : Nat → Option V) (i : Nat) : (fmL f i).length ≤ i := by
  unfold fmL
  have := List.length_filterMap_le f (List.range i)
  rw [List.length_range] at this
  exact this
structure PvF (f : Nat → Option V) (H1 : Hp) (D : Addr) (i : Nat) (H : Hp) : Prop where
  s : Same H1 H
  at_ : H D = some (.lst (fmL f i))
theorem PvF.zero {f : Nat → Option V} {H1 : Hp} {D : Addr} (h : H1 D = none) : PvF f H1 D 0 (L2.upd H1 D (.lst [])) := ⟨sameN h, L2.upd_same⟩
theorem PvF.ext {f : Nat → Option V} {H1 : Hp} {D : Addr} {i : Nat} {H H4 : Hp} {y : V} (p : PvF f H1 D i H) (hD : H1 D = none) (hi : i < 16777216) (s : Same H H4) (e : f i = some y) :
    ∃ acc, H4 D = some (.lst acc) ∧ acc.length < sizeLine ∧ PvF f H1 D (i + 1) (L2.upd H4 D (.lst (acc ++ [y]))) := by
  refine ⟨_, s _ _ p.at_, ?_, fun b x hb => ?_, ?_⟩
  · have := fmL_len f i
    show (fmL f i).length < 16777216
    omega
  · rw [L2.upd_ne (ne_of_none hb hD)]
    exact s _ _ (p.s b x hb)
  · rw [L2.upd_same, fmL_succ, e]
    rfl
theorem PvF.skip {f : Nat → Option V} {H1 : Hp} {D : Addr} {i : Nat} {H H3 : Hp} (p : PvF f H1 D i H) (s : Same H H3) (e : f i = none) : PvF f H1 D (i + 1) H3 :=
  ⟨fun b x hb => s _ _ (p.s b x hb), by rw [s _ _ p.at_, fmL_succ, e]; simp⟩
theorem fmL_take {α : Type} (l : List α) (h : α → Option V) : ∀ i, i ≤ l.length → fmL (fun i => l[i]?.bind h) i = (l.take i).filterMap h
  | 0, _ => rfl
  | i + 1, hi => by
    rw [fmL_succ, fmL_take l h i (by omega), List.take_add_one, List.filterMap_append, List.getElem?_eq_getElem (show i < l.length by omega)]
    show _ ++ (h l[i]).toList = _ ++ [l[i]].filterMap h
    congr 1
theorem fmL_bind {α : Type} (l : List α) (h : α → Option V) : fmL (fun i => l[i]?.bind h) l.length = l.filterMap h := by
  rw [fmL_take l h _ (Nat.le_refl _), List.take_length]
theorem fmL_map {α : Type} (l : List α) (h : α → V) : fmL (fun i => l[i]?.map h) l.length = l.map h := by
  have e := fmL_bind l fun x => some (h x)
  have e2 : (fun i : Nat => l[i]?.map h) = fun i : Nat => l[i]?.bind fun x => some (h x) := by
    funext i
    cases l[i]? <;> rfl
  rw [e2, e, List.filterMap_eq_map']
theorem fmL_range (h : Nat → V) (n : Nat) : fmL (fun i => some (h i)) n = (List.range n).map h := by
  unfold fmL
  rw [List.filterMap_eq_map']
theorem ix_tupK {X : Cx} {K : PySem.W.Frag} (e : X.K = K) : IxR X (rIxT K) := e ▸ ix_tup
theorem ite_dup {c : Prop} [Decidable c] {A R : Prop} (hR : R) (hA : c → R → A) : if decide c = true then A else R := by
  by_cases h : c
  · rw [if_pos (decide_eq_true h)]
    exact hA h hR
  · rw [if_neg (by rw [decide_eq_false h]; exact Bool.false_ne_true)]
    exact hR
theorem op_eqDK {X : Cx} {K : PySem.W.Frag} (e : X.K = K) (hu : X.A.units + 64 < cLine) : OpR X (compareOp .Eq) (rEqD K) := e ▸ op_eqD hu
theorem op_neDK {X : Cx} {K : PySem.W.Frag} (e : X.K = K) (hu : X.A.units + 64 < cLine) : OpR X (compareOp .NotEq) (rNeD K) := e ▸ op_neD hu
theorem u1 {k : Nat} {A : Around} (r : Room k A) : A.units + 1 < cLine := by have := r.un; omega
/-- over a list that stands still -/
theorem lc_fm {K : PySem.W.Frag} {a : Addr} {xs : List V} {g : TG} {tt : TT} {te : TE} {vs : List Nat} {σ : L2.St} {H1 : Hp} {D : Addr} {Qd : Hp → Prop} (f : Nat → Option V) (hD : H1 D = none) (hl : SqL K H1 a xs)
    (hs : ∀ i x H, xs[i]? = some x → PvF f H1 D i H → g x (wipe σ vs) H fun σ2 H2 => wipe σ2 vs = wipe σ vs ∧ tt σ2 H2 fun b H3 =>
      if b = true then te σ2 H3 fun y H4 => ∃ acc, H4 D = some (.lst acc) ∧ acc.length < sizeLine ∧ PvF f H1 D (i + 1) (L2.upd H4 D (.lst (acc ++ [y]))) else PvF f H1 D (i + 1) H3) (hd : ∀ H, PvF f H1 D xs.length H → Qd H) :
    ∃ W : Nat → Nat → Hp → Prop, (∃ m, W 0 m (L2.upd H1 D (.lst []))) ∧ ∀ i m H, W i m H →
      ((Itl K a).stop i H ∧ Qd H) ∨ ((Itl K a).go i H ∧ ∃ Nx : Hp → Prop, (∀ H', Nx H' → ∃ m', m' < m ∧ W (i + 1) m' H') ∧ ∀ x H', (Itl K a).yld i H x H' → g x (wipe σ vs) H' fun σ2 H2 => wipe σ2 vs = wipe σ vs ∧ tt σ2 H2 fun b H3 =>
        if b = true then te σ2 H3 fun y H4 => ∃ acc, H4 D = some (.lst acc) ∧ acc.length < sizeLine ∧ Nx (L2.upd H4 D (.lst (acc ++ [y]))) else Nx H3) :=
  lc_list (PvF f H1 D) (PvF.zero hD) (fun i H _ p => hl.elim (fun h => .inl (h.elim (fun h => .inl (p.s _ _ h)) fun ⟨o, h⟩ => .inr ⟨o, p.s _ _ h⟩)) fun h => .inr h) hs hd
end Gx
end

section
set_option Elab.async false
set_option linter.all false
set_option maxRecDepth 100000
set_option maxHeartbeats 4000000
/-! Generator expressions with any target, whose callers may write to what is tracked between two items; sum(..) of one. -/
namespace Gx
open PySem PySem.Spec PyProof.Rows L2 GxR
def none0 (xs : List Str) : L2.St := xs.map fun _ => none
structure GOkV (N : List Str) (sc scope : Scope) (xs : List Str) (ns : List (Str × Nat)) : Prop where
  kind : scope.kind = .function
  co : scope.isCoroutine = false
  cell : ∀ y ∈ scope.names, y.2 ≠ .cell
  dot : scope.names.lookup (".0" : Str) = some NameKind.local
  free : ∀ y ∈ scope.names, y.2 = .free → sc.names.lookup y.1 = some .cell ∨ sc.names.lookup y.1 = some .free
  caps : ∀ p ∈ ns, N[p.2]? = some p.1 ∧ (p.1, NameKind.free) ∈ scope.names
  uniq : ∀ y ∈ scope.names, scope.names.lookup y.1 = some y.2
def gokVB (N : List Str) (sc scope : Scope) (ns : List (Str × Nat)) : Bool :=
  decide (scope.kind = .function) && !scope.isCoroutine && scope.names.all (fun y => decide (y.2 ≠ .cell)) && decide (scope.names.lookup (".0" : Str) = some NameKind.local) &&
  scope.names.all (fun y => decide (y.2 = .free → sc.names.lookup y.1 = some .cell ∨ sc.names.lookup y.1 = some .free)) && ns.all (fun p => decide (N[p.2]? = some p.1) && decide ((p.1, NameKind.free) ∈ scope.names)) && scope.names.all (fun y => decide (scope.names.lookup y.1 = some y.2))
theorem gokV_by {N : List Str} {sc scope : Scope} {xs : List Str} {ns : List (Str × Nat)} (h : gokVB N sc scope ns = true) : GOkV N sc scope xs ns := by
  unfold gokVB at h
  simp only [Bool.and_eq_true, List.all_eq_true, decide_eq_true_eq, Bool.not_eq_true'] at h
  obtain ⟨⟨⟨⟨⟨⟨h1, h2⟩, h3⟩, h4⟩, h6⟩, h7⟩, h8⟩ := h
  exact ⟨h1, h2, fun y hy => h3 y hy, h4, fun y hy => h6 y hy, fun p hp => h7 p hp, fun y hy => h8 y hy⟩
/-- the names of the def are as they were -/
def Keep2 (σ0 σ1 : L2.St) : Prop := σ1.length = σ0.length ∧ ∀ (j : Nat) (v : V), σ0[j]? = some (some v) → σ1[j]? = some (some v)
theorem keep2_1 {x : V} {c : L2.St} : Keep2 (none :: c) (some x :: c) := ⟨rfl, fun j v h => by
  cases j with
  | zero => cases h
  | succ j => exact h⟩
theorem keep2_2 {x y : Option V} {c : L2.St} : Keep2 (none :: none :: c) (x :: y :: c) := ⟨rfl, fun j v h => by
  match j, h with
  | 0, h => cases h
  | 1, h => cases h
  | j + 2, h => exact h⟩
/-- what is not tracked is as it was -/
def Unt (H : Hp) (s : Shared) (H' : Hp) (s' : Shared) : Prop := ∀ b o, H b = none → s.heap.get? b = some o → H' b = none ∧ s'.heap.get? b = some o
def GEndV (G : Cx) (a : Addr) (go : Obj) (σ0 : L2.St) (L : Nat) (Pv : Nat → Hp → Prop) : Nat → Shared → Shared → Prop := fun n _ s => n = 1 ∧ ∃ H, Inv G [(a, go)] σ0 H s ∧ Pv L H
def GYldV (G : Cx) (a : Addr) (go : Obj) (σ0 : L2.St) (L : Nat) (Pv : Nat → Hp → Prop) (Ye : Nat → V → Hp → Prop) : Protocol := fun n _ v s kap =>
  ∃ i y H, i < L ∧ n + i = L ∧ RelV y v ∧ Inv G [(a, go)] σ0 H s ∧ Ye i y H ∧ ∀ s' H', Inv G [(a, go)] σ0 H' s' → Unt H s H' s' → Pv (i + 1) H' → kap (.send .none) s'
section
variable {X : Cx} {pins : List (Addr × Obj)} {σ : L2.St} {H : Hp} {s : Shared}
theorem inv_genV {s5 : Shared} {scope : Scope} {xs : List Str} {ns : List (Str × Nat)} {fp : List Addr} {P C a : Addr} {go : Obj} {code it : Value} {A : Around}
    (I : Inv X pins σ H s) (S : GOkV X.N X.env.scope scope xs ns) (hP : H P = some (TabO P)) (hf : ∀ b ∈ fp, FpOk X pins H b) (hfo : ∀ b ∈ fp, ∃ o, s.heap.get? b = some o)
    (hA : A.frames = some (genEnv scope (cloFrom X.env.cells scope.names []) C code builtinsNs X.env :: X.stack)) (hh : A.handled = none) (hC : s.heap.objs.size ≤ C) (ha : C < a)
    (ho : s5.os = s.os) (hb : AllBare s5.gens) (k : ∀ b o, b ≠ P → s.heap.get? b = some o → s5.heap.get? b = some o) (hp : tabPhi P s5.heap)
    (hn : s5.heap.Ns C (fun y => if y = ".0" then some it else none)) (hgo : s5.heap.get? a = some go) (hgd : ∀ v, go.data ≠ .cell v) :
    Inv (gcx X s H (xs ++ ns.map (·.1)) (genEnv scope (cloFrom X.env.cells scope.names []) C code builtinsNs X.env) fp A) [(a, go)] (none0 xs ++ capsOf σ ns) H s5 := by
  have hfree : ∀ y ∈ scope.names, y.2 = .free → ∃ c, X.env.cells.lookup y.1 = some c := fun y hy e => by
    rcases S.free y hy e with k | k
    · exact I.ok.has _ (.inl k)
    · exact I.ok.has _ (.inr k)
  have nP : ∀ b, H b = none → b ≠ P := fun b e z => by
    rw [z, hP] at e
    cases e
  have fplt : ∀ b ∈ fp, b < s.heap.objs.size := fun b hb => let ⟨o, e⟩ := hfo b hb; Heap.lt_size e
  have stk : ∀ b ∈ fp, b ∉ frs X.stack := fun b hb hm => by
    obtain ⟨_, f1, f2, _⟩ := hf b hb
    rcases List.mem_cons.mp (I.stkSub b hm) with z | z
    · exact f1 z
    · exact f2 z
  have noA : ∀ b, s.heap.objs.size ≤ b → b ∉ frs X.stack := fun b hb hm => by
    rcases List.mem_cons.mp (I.stkSub b hm) with z | z
    · have := I.lt
      rw [← z] at this
      exact absurd (Nat.lt_of_lt_of_le this hb) (Nat.lt_irrefl _)
    · exact I.nofs hb z
  refine ⟨⟨I.mod, S.kind, I.ok.glob, rfl, hC, fun y z c h1 h2 => ?_, fun y hy => ?_, fun y c h _ => (by cases h), fun _ => hh, hA, .inr ⟨rfl, rfl⟩, fun b hb => ⟨?_, fun y c h z => ?_⟩, fun b o e => I.bs b o e, Nat.le_trans I.ok.bsz I.sz, fun b o e hm => ?_, fun b hb => stk b hb, I.stack, I.stkFree⟩,
    ho, hb, ⟨fun b o e n _ _ => k b o (nP b n) e, fun b o e n _ _ => ⟨o.slots, k b o (nP b n) e⟩, fun _ _ _ n _ => n, fun b o e _ => ?_, fun _ _ q => q, fun _ _ _ q => q, fun b ps q => ⟨#[], by
      have q' : H b = some (.tbl ps) := q
      rw [q']; simp⟩⟩,
    ⟨_, hn, fun i y v h1 h2 h3 => ?_⟩, fun y c h => ?_, I.hok.fresh hC, fun y c h => ?_, fun p hp' => ?_, fun b u e => ?_, ?_⟩
  · exact I.ok.inj _ _ _ (clo_of hfree h1).2 (clo_of hfree h2).2
  · have hy : scope.names.lookup y = some .cell ∨ scope.names.lookup y = some .free := hy
    rcases hy with hy | hy
    · exact absurd rfl (S.cell _ (PySem.mem_of_lookup hy))
    · obtain ⟨c, e⟩ := hfree _ (PySem.mem_of_lookup hy) rfl
      exact ⟨c, clo_lookup (PySem.mem_of_lookup hy) e⟩
  · exact Nat.ne_of_lt (Nat.lt_of_lt_of_le (fplt b hb) hC)
  · obtain ⟨_, _, _, _, f4, _⟩ := hf b hb
    exact f4 y c (clo_of hfree h).2 z
  · obtain ⟨_, _, _, f3, _⟩ := hf b hm
    rcases f3 with z | z
    · exact I.ok.noex b o e z
    · exact absurd (Nat.lt_of_lt_of_le (Heap.lt_size e) (Nat.le_trans I.ok.bsz z)) (Nat.lt_irrefl _)
  · by_cases hb : b = P
    · obtain ⟨ps, e2, _⟩ := hp
      exact ⟨_, by rw [hb]; exact e2⟩
    · exact ⟨o, k b o hb e⟩
  · by_cases hix : i < xs.length
    · rw [List.getElem?_append_left (by unfold none0; rw [List.length_map]; exact hix)] at h2
      unfold none0 at h2
      rw [List.getElem?_map, List.getElem?_eq_getElem hix] at h2
      cases h2
    · obtain ⟨i, rfl⟩ : ∃ j, i = xs.length + j := ⟨i - xs.length, by omega⟩
      have hln : (none0 xs).length = xs.length := List.length_map _
      rw [List.getElem?_append_right (by omega), Nat.add_sub_cancel_left] at h1
      rw [List.getElem?_append_right (by omega), hln, Nat.add_sub_cancel_left] at h2
      have h1' : (ns.map (·.1))[i]? = some y := h1
      have h2' : (capsOf σ ns)[i]? = some (some v) := h2
      unfold capsOf at h2'
      rw [List.getElem?_map] at h1' h2'
      cases e : ns[i]? with
      | none => rw [e] at h1'; cases h1'
      | some p =>
        rw [e] at h1' h2'
        have e1 : p.1 = y := Option.some.inj h1'
        have e2 : (σ[p.2]?).join = some v := Option.some.inj h2'
        obtain ⟨c1, c2⟩ := S.caps p (List.mem_of_getElem? e)
        obtain ⟨m, hm, hl⟩ := I.loc
        have e3 : σ[p.2]? = some (some v) := by
          cases q : σ[p.2]? with
          | none => rw [q] at e2; cases e2
          | some w => rw [q] at e2; have e2' : w = some v := e2; rw [e2']
        have hk := S.free _ c2 rfl
        have hvis : Vis X.env.scope p.1 := .inr hk
        obtain ⟨u, r, lk⟩ := hl p.2 p.1 v c1 e3 hvis
        refine ⟨u, r, ?_⟩
        rcases lk with ⟨kl, _⟩ | ⟨_, c, hc, ic⟩
        · have kl' : X.env.scope.names.lookup p.1 = some .local := kl
          rcases hk with hk | hk
          · rw [show X.env.scope.names.lookup p.1 = some .cell from hk] at kl'; cases kl'
          · rw [show X.env.scope.names.lookup p.1 = some .free from hk] at kl'; cases kl'
        · rw [← e1]
          refine .inr ⟨.inr (S.uniq _ c2), c, clo_lookup c2 hc, ?_⟩
          obtain ⟨oc, ho', hd'⟩ := ic
          exact ⟨oc, k c oc (nP c (I.freeC _ _ hc)) ho', hd'⟩
  · have hc := (clo_of hfree h).2
    obtain ⟨v, oc, ho', hd'⟩ := I.cell y c hc
    exact ⟨v, oc, k c oc (nP c (I.freeC _ _ hc)) ho', hd'⟩
  · exact I.freeC _ _ (clo_of hfree h).2
  · have hp2 : p ∈ [(a, go)] := hp'
    rw [List.mem_singleton.mp hp2]
    have hsa : s.heap.objs.size ≤ a := Nat.le_trans hC (Nat.le_of_lt ha)
    exact ⟨hgo, I.hok.fresh hsa, Nat.ne_of_gt ha, noA a hsa, hgd⟩
  · by_cases hb : b = P
    · rw [hb, hP] at e
      cases e
      rw [hb]
      exact tab_ok hp
    · refine (I.hok b u e).stay (fun c v hc q => k c v ?_ q) (fun _ q => q) fun _ _ q => q
      rcases hc with z | z
      · rw [z]; exact hb
      · intro w
        rw [w, hP] at z
        cases z
  · show (none0 xs ++ capsOf σ ns).length = (xs ++ ns.map (·.1)).length
    unfold capsOf none0
    simp
end
section
variable {G : Cx} {A : Around} {elt iter tg : Expr} {scope : Scope} {pos : Pos} {it a : Addr} {go : Obj} {fp : List Addr} {tn : Nat → Heap → Prop} {J : It} {σ0 : L2.St} {g : TG} {te : TE} {L : Nat} {Pv : Nat → Hp → Prop} {Ye : Nat → V → Hp → Prop}
theorem seg_gloopV (hA : A.over (.compLoop (.GeneratorExp elt [⟨tg, iter, [], 0⟩] scope pos) 0 (.ref it) .none G.env) [] = G.A) (hc : G.calm = true) (hex : G.ex = fp) (hxe : G.xe = fun _ _ => False) (hpn : G.pn = []) (hco : G.env.scope.isCoroutine = false)
    (T : Turn G.prog G.w G.K tg J fp it tn) (hg : PG G tg g) (he : PE G elt te) (ha : ∀ b ∈ fp, a ≠ b)
    (step : ∀ i H, i < L → Pv i H → J.go i H ∧ ∀ y H', J.yld i H y H' → g y σ0 H' fun σ1 H1 => Keep2 σ0 σ1 ∧ te σ1 H1 (Ye i)) (stop : ∀ H, Pv L H → J.stop L H) :
    ∀ (k i : Nat) (s₀ s : Shared) (H : Hp), L - i = k → i ≤ L → Inv G [(a, go)] (σ0) H s → tn i s.heap → (∀ b ∈ fp, H b = none) → Pv i H →
      Seg (model G.prog G.w) A (fun n s₀ r s₁ => r = .ok .next ∧ GEndV G a go σ0 L Pv n s₀ s₁) (GYldV G a go σ0 L Pv Ye) (k + 1) s₀
        (.compLoop (.GeneratorExp elt [⟨tg, iter, [], 0⟩] scope pos) 0 (.ref it) .none G.env)
        ((model G.prog G.w).den (.compLoop (.GeneratorExp elt [⟨tg, iter, [], 0⟩] scope pos) 0 (.ref it) .none G.env)) [] s := by
  have fpok : ∀ {H : Hp} {σ : L2.St} {s : Shared}, Inv G [(a, go)] σ H s → (∀ b ∈ fp, H b = none) → ∀ b ∈ fp, FpOk G [(a, go)] H b := fun {H σ s} I hn b hb => by
    have hb' : b ∈ G.ex := by rw [hex]; exact hb
    obtain ⟨e1, e2⟩ := I.ok.exf b hb'
    refine ⟨hn b hb, e1, I.ok.exfs b hb', .inl hb', e2, fun p hp => ?_⟩
    rw [hpn, List.nil_append] at hp
    rw [List.mem_singleton.mp hp]
    exact ha b hb
  intro k
  induction k with
  | zero =>
    intro i s₀ s H hk hi I st fr pv
    have hin : i = L := by omega
    subst hin
    show Seg _ A _ _ _ s₀ _ ((compTurn (.GeneratorExp elt [⟨tg, iter, [], 0⟩] scope pos) 0 (.ref it) .none G.env).onRaise (leaving G.env)) [] s
    rw [compTurn_gen, Sem.onRaise_eq_wrap]
    refine seg_bind_wrap (wpAny_standAt ?_)
    refine seg_bind_wrap ?_
    rw [hA]
    refine thn (T.done G rfl rfl rfl hc i _ s _ H _ I (fpok I fr) st (stop H pv)) fun r s1 ⟨hr, I1⟩ => ?_
    subst hr
    exact seg_end (.ok .next) ⟨rfl, rfl, H, I1, pv⟩
  | succ k ih =>
    intro i s₀ s H hk hi I st fr pv
    have hlt : i < L := by omega
    obtain ⟨hgo, hstep⟩ := step i H hlt pv
    show Seg _ A _ _ _ s₀ _ ((compTurn (.GeneratorExp elt [⟨tg, iter, [], 0⟩] scope pos) 0 (.ref it) .none G.env).onRaise (leaving G.env)) [] s
    rw [compTurn_gen, Sem.onRaise_eq_wrap]
    refine seg_bind_wrap (wpAny_standAt ?_)
    refine seg_bind_wrap ?_
    rw [hA]
    refine thn (T.item G rfl rfl rfl hc i _ s _ H _ I (fpok I fr) st hgo) fun r s1 ⟨u, hr, h1⟩ => ?_
    subst hr
    refine seg_bind_wrap ?_
    rw [hA]
    refine thn h1 fun _ s2 ⟨y, H2, I2, ru, yl, st2, fr2⟩ => ?_
    have I2p := I2.pinned (fpok I2 fr2) (T.obj _ _ st2)
    refine seg_bind_wrap ?_
    rw [hA]
    refine wpAny_mono (hg.run _ s2 _ H2 y u (fun σ' H' => Keep2 σ0 σ' ∧ te σ' H' (Ye i)) I2p ru (hstep y _ yl)) (fun _ s3 h3 => ?_) (fun e s' hx => by rw [hxe] at hx; exact hx.elim)
    obtain ⟨σ3, H3, I3, kp, hte⟩ := h3
    simp only [List.forIn_nil]
    refine seg_bind_wrap (wpAny_pure ?_)
    simp only [if_true]
    have hy : ∀ v, yieldOut G.env v = yieldValue v := fun v => by simp only [yieldOut, hco, Bool.false_eq_true, if_false]
    simp only [hy]
    rw [Sem.bind_eq_wrap', Sem.bind_eq_wrap', Sem.wrap_wrap, Sem.wrap_wrap]
    refine seg_wrap ?_
    rw [hA]
    refine wpAny_mono (he.run _ s3 _ _ (Ye i) I3 hte) (fun v s4 h4 => ?_) (fun e s' hx => by rw [hxe] at hx; exact hx.elim)
    obtain ⟨y4, H4, I4, r4, q4⟩ := h4
    have pinAt : ∀ b ∈ fp, ∀ o, s2.heap.get? b = some o → s4.heap.get? b = some o ∧ H4 b = none := fun b hb o e =>
      let z := I4.pin (b, o) (List.mem_append_right _ (List.mem_append_right _ (mem_pinsAt hb e))); ⟨z.1, z.2.1⟩
    have st4 : tn (i + 1) s4.heap := T.keep _ _ _ st2 fun b hb o e => (pinAt b hb o e).1
    have fr4 : ∀ b ∈ fp, H4 b = none := fun b hb => by
      obtain ⟨o, e, _⟩ := T.obj _ _ st2 b hb
      exact (pinAt b hb o e).2
    have I4w : Inv G [(a, go)] σ0 H4 s4 := I4.unpinned.weak kp.1.symm kp.2
    refine seg_at (seg_yield rfl rfl rfl ⟨i, y4, H4, hlt, by omega, r4, I4w, q4, fun s5 H5 I5 un pv5 => ?_⟩)
    exact seg_again rfl (ih (i + 1) s5 s5 H5 (by omega) hlt I5 (T.keep _ _ _ st4 fun b hb o e => (un b o (fr4 b hb) e).2) (fun b hb => let ⟨o, e, _⟩ := T.obj _ _ st4 b hb; (un b o (fr4 b hb) e).1) pv5)

theorem seg_gstartV (hA : A.over (.compLoop (.GeneratorExp elt [⟨tg, iter, [], 0⟩] scope pos) 0 (.ref it) .none G.env) [] = G.A) (hc : G.calm = true) (hex : G.ex = fp) (hxe : G.xe = fun _ _ => False) (hpn : G.pn = []) (hco : G.env.scope.isCoroutine = false)
    (T : Turn G.prog G.w G.K tg J fp it tn) (hg : PG G tg g) (he : PE G elt te) (ha : ∀ b ∈ fp, a ≠ b)
    (step : ∀ i H, i < L → Pv i H → J.go i H ∧ ∀ y H', J.yld i H y H' → g y σ0 H' fun σ1 H1 => Keep2 σ0 σ1 ∧ te σ1 H1 (Ye i)) (stop : ∀ H, Pv L H → J.stop L H)
    (s₀ s : Shared) (H : Hp) (I : Inv G [(a, go)] (σ0) H s) (st : tn 0 s.heap) (fr : ∀ b ∈ fp, H b = none) (pv : Pv 0 H) :
      Seg (model G.prog G.w) A (fun n s₀ r s₁ => r = .ok .next ∧ GEndV G a go σ0 L Pv n s₀ s₁) (GYldV G a go σ0 L Pv Ye) (L + 1) s₀
        (.compStart (.GeneratorExp elt [⟨tg, iter, [], 0⟩] scope pos) 0 (.ref it) .none G.env)
        ((model G.prog G.w).den (.compStart (.GeneratorExp elt [⟨tg, iter, [], 0⟩] scope pos) 0 (.ref it) .none G.env)) [] s := by
  have loop := seg_gloopV (a := a) (go := go) hA hc hex hxe hpn hco T hg he ha step stop L 0 s₀ s H (Nat.sub_zero _) (Nat.zero_le _) I st fr pv
  show Seg _ A _ _ _ s₀ _ ((compStart (.GeneratorExp elt [⟨tg, iter, [], 0⟩] scope pos) 0 (.ref it) .none G.env).onRaise (leaving G.env)) [] s
  unfold compStart
  rw [Sem.onRaise_eq_wrap]
  show Seg _ A _ _ _ s₀ _ ((ask >>= _).wrap _ _ _ _) [] s
  refine seg_bind_wrap (wpAny_askSetting ?_)
  split
  · exact seg_again rfl loop
  · first
      | exact seg_bind_wrap (wpAny_rule (seg_bind_wrap (wpAny_standAt (seg_bind_wrap (T.self _ 0 s _ _ st (seg_again rfl loop))))))
      | (refine seg_bind_wrap (wpAny_rule ?_); show Seg _ A _ _ _ s₀ _ ((standAt iter.pos >>= _).wrap _ _ _ _) [] s; exact seg_bind_wrap (wpAny_standAt (seg_bind_wrap (T.self _ 0 s _ _ st (seg_again rfl loop)))))
end
/-- what stands when a generator expression has been made -/
def GReadyV (X : Cx) (pins : List (Addr × Obj)) (σ : L2.St) (J : It) (H2 : Hp) (g : TG) (te : TE) (σ0 : L2.St) (k : Nat) (a : Addr) (s5 : Shared) : Prop :=
  ∃ (gi : Nat) (go : Obj) (c : Code), (∀ h : Heap, h.get? a = some go → h.IsGen a gi) ∧ s5.gens[gi]? = some (.fresh c) ∧
    ∀ A : Around, Room (k + 1) A → A.frames = some X.stack → ∃ G : Cx, G.prog = X.prog ∧ G.w = X.w ∧ (∀ H' s', Inv G [(a, go)] (σ0) H' s' → Inv X pins σ H' s') ∧ Inv G [(a, go)] (σ0) H2 s5 ∧
      ∀ (L : Nat) (Pv : Nat → Hp → Prop) (Ye : Nat → V → Hp → Prop), (∀ i H, i < L → Pv i H → J.go i H ∧ ∀ y H', J.yld i H y H' → g y σ0 H' fun σ1 H1 => Keep2 σ0 σ1 ∧ te σ1 H1 (Ye i)) → (∀ H, Pv L H → J.stop L H) →
        ∀ s' H', Inv G [(a, go)] σ0 H' s' → Unt H2 s5 H' s' → Pv 0 H' →
          (GenState.fresh c).Goes (model X.prog X.w) A (fun n s₀ r s₁ => r = .ok .next ∧ GEndV G a go σ0 L Pv n s₀ s₁) (GYldV G a go σ0 L Pv Ye) (L + 1) (.send .none) s'
section
variable {X : Cx} {pins : List (Addr × Obj)} {σ : L2.St} {H : Hp} {s : Shared}
theorem gen_madeV {c P : Addr} {elt iter : Expr} {tg : Expr} {xs : List Str} {gpos : Pos} {scope : Scope} {ns : List (Str × Nat)} {wi : TI} {g : TG} {te : TE} {k k' : Nat} {Q' : Value → Shared → Prop} {R : It → Hp → Prop}
    (hr : Room k X.A) (TB : TabB X.base X.mg c P) (hcode : X.env.code = .ref c) (S : GOkV X.N X.env.scope scope xs ns) (hi : PI X tg iter wi)
    (hg : ∀ (s : Shared) (H : Hp) (C : Addr) (code : Value) (fp : List Addr) (A : Around), PG (gcx X s H (xs ++ ns.map (·.1)) (genEnv scope (cloFrom X.env.cells scope.names []) C code builtinsNs X.env) fp A) tg g)
    (he : ∀ (s : Shared) (H : Hp) (C : Addr) (code : Value) (fp : List Addr) (A : Around), Room k' A → PE (gcx X s H (xs ++ ns.map (·.1)) (genEnv scope (cloFrom X.env.cells scope.names []) C code builtinsNs X.env) fp A) elt te)
    (hs : ∀ v, genFold iter X.env v = pure v) (I : Inv X pins σ H s) (h : wi σ H fun J H1 => H1 P = some (TabO P) ∧ R J H1)
    (hQ : ∀ J H2 a s5, R J H2 → GReadyV X pins σ J H2 g te (none0 xs ++ capsOf σ ns) k' a s5 → Q' (.ref a) s5) :
    wpAny (model X.prog X.w) X.A (eval (.GeneratorExp elt [⟨tg, iter, [], 0⟩] scope gpos) X.env) Q' X.xe s := by
  have hfree : ∀ y ∈ scope.names, y.2 = .free → ∃ c, X.env.cells.lookup y.1 = some c := fun y hy e => by
    rcases S.free y hy e with k | k
    · exact I.ok.has _ (.inl k)
    · exact I.ok.has _ (.inr k)
  refine wpAny_GeneratorExp_make S.co (closure_ok hfree) S.cell S.dot S.kind (by have := hr.dp; omega) (thn (hi.run pins s σ H _ I h) fun xv s1 hx => thn hx fun itv s2 h2 => ?_) hs
  obtain ⟨it, fp, tn, J, H2, e, I2, T, st2, f2, hP, q⟩ := h2
  subst e
  obtain ⟨⟨ps, hPs, ht⟩, _, _⟩ := I2.hok P _ hP
  have hPlt : P < s2.heap.objs.size := Heap.lt_size hPs
  have cd : PySem.W.CodeHd s2.heap c P := TB.code.keeps fun b u e => I2.bk b u e
  have cont : ∀ (code : Value) (h3 : Heap) (tk : Nat), Heap.ExtBut P s2.heap h3 → s2.heap.objs.size ≤ h3.objs.size → tabPhi P h3 →
      wpAny (model X.prog X.w) X.A (builtinsFor X.env.globals X.env.builtins) (fun bi s₄ =>
        ∀ h', h'.Ns s₄.heap.objs.size (fun y => if y = ".0" then some (.ref it) else none) → Heap.SameBut s₄.heap.objs.size (s₄.heap.push { cls := .type "frame", data := .dict #[] }) h' →
          Q' (.ref h'.objs.size) { s₄ with
            gens := s₄.gens.push (.fresh (.compStart (.GeneratorExp elt [⟨tg, iter, [], 0⟩] scope gpos) 0 (.ref it) .none (genEnv scope (cloFrom X.env.cells scope.names []) s₄.heap.objs.size code bi X.env))),
            toks := s₄.toks + 1 + 1 + 1,
            heap := h'.push { cls := .type "generator", data := .fields #[.int s₄.gens.size 0, .str "<genexpr>" (s₄.toks + 1), .str (X.env.qual ++ "<genexpr>") (s₄.toks + 1 + 1)] } }) X.xe { s2 with heap := h3, toks := tk } := by
    intro code h3 tk hx hsz hp3
    obtain ⟨bm, ob, e1, e2, e3, e4, e5, e6, e7, e8⟩ := TB.bm
    have keep3 : ∀ b u, b ≠ P → s2.heap.get? b = some u → h3.get? b = some u := fun b u hb e => hx b u hb e
    refine wpAny_builtinsFor (m := X.mg) (by rw [I2.ok.glob]; exact (I2.mod.glob.keeps I2.bk).extBut hx TB.gP) e1 e2 (keep3 _ _ e4 (I2.bk _ _ e5)) e6 e7 e8 ?_
    intro h' hn' hs'
    have hn' : h'.Ns h3.objs.size (fun y => if y = ".0" then some (.ref it) else none) := hn'
    have hs' : Heap.SameBut h3.objs.size (h3.push { cls := .type "frame", data := .dict #[] }) h' := hs'
    have hsz' : h'.objs.size = h3.objs.size + 1 := by rw [hs'.1, Heap.size_push]
    have keep' : ∀ b o, h3.get? b = some o → h'.get? b = some o := fun b o e => hs'.extBut b o (Nat.ne_of_lt (Heap.lt_size e)) (Heap.get?_push_of_some _ e)
    generalize hgo : ({ cls := .type "generator", data := .fields #[.int s2.gens.size 0, .str "<genexpr>" (tk + 1), .str (X.env.qual ++ "<genexpr>") (tk + 1 + 1)] } : Obj) = go
    have hgen : ∀ h : Heap, h.get? h'.objs.size = some go → h.IsGen h'.objs.size s2.gens.size := fun h e => ⟨go, _, _, e, by rw [← hgo], by rw [← hgo], by rw [← hgo]⟩
    have hgd : ∀ v, go.data ≠ .cell v := fun v z => by rw [← hgo] at z; cases z
    have hself : (h'.push go).get? h'.objs.size = some go := Heap.get?_push_size _ (by rw [← hgo]; rfl)
    have keep5 : ∀ b o, b ≠ P → s2.heap.get? b = some o → (h'.push go).get? b = some o := fun b o hb e => Heap.get?_push_of_some _ (keep' b o (keep3 b o hb e))
    have phi5 : tabPhi P (h'.push go) := tab_stay _ _ hp3 fun o e => Heap.get?_push_of_some _ (keep' _ o e)
    have CP : fp = fp := rfl
    have hfo : ∀ b ∈ fp, ∃ o, s2.heap.get? b = some o := fun b hb => let ⟨o, e, _⟩ := T.obj _ _ st2 b hb; ⟨o, e⟩
    have fpP : ∀ b ∈ fp, b ≠ P := fun b hb z => by
      obtain ⟨f0, _⟩ := f2 b hb
      rw [z, hP] at f0
      cases f0
    refine hQ J H2 h'.objs.size _ q ?_
    refine ⟨s2.gens.size, go, _, hgen, Array.getElem?_push_size .., fun A hA hfr => ?_⟩
    have hAf : (A.over (.compLoop (.GeneratorExp elt [⟨tg, iter, [], 0⟩] scope gpos) 0 (.ref it) .none (genEnv scope (cloFrom X.env.cells scope.names []) h3.objs.size code builtinsNs X.env)) []).frames = some ((genEnv scope (cloFrom X.env.cells scope.names []) h3.objs.size code builtinsNs X.env) :: X.stack) := by
      show pushEnvs [(genEnv scope (cloFrom X.env.cells scope.names []) h3.objs.size code builtinsNs X.env)] (pushEnvs [] A.frames) = _
      rw [hfr]
      rfl
    have hAr : Room k' (A.over (.compLoop (.GeneratorExp elt [⟨tg, iter, [], 0⟩] scope gpos) 0 (.ref it) .none (genEnv scope (cloFrom X.env.cells scope.names []) h3.objs.size code builtinsNs X.env)) []) := by
      refine ⟨hA.hd, ?_, ?_⟩
      · have := hA.dp
        show A.depth + 1 + 3 * k' + 5 < _
        omega
      · have := hA.un
        show A.units + 3 + 16 * k' + 200 < _
        omega
    have I5 := inv_genV (s5 := { s2 with gens := s2.gens.push (.fresh (.compStart (.GeneratorExp elt [⟨tg, iter, [], 0⟩] scope gpos) 0 (.ref it) .none (genEnv scope (cloFrom X.env.cells scope.names []) h3.objs.size code builtinsNs X.env))), toks := tk + 1 + 1 + 1, heap := h'.push go }) (code := code) (it := .ref it) (A := A.over (.compLoop (.GeneratorExp elt [⟨tg, iter, [], 0⟩] scope gpos) 0 (.ref it) .none (genEnv scope (cloFrom X.env.cells scope.names []) h3.objs.size code builtinsNs X.env)) []) (a := h'.objs.size)
      I2 S hP f2 hfo hAf hAr.hd hsz (by rw [hsz']; exact Nat.lt_succ_self _) rfl (I2.bare.push rfl) keep5 phi5 (hn'.push _) hself hgd
    refine ⟨gcx X s2 H2 (xs ++ ns.map (·.1)) (genEnv scope (cloFrom X.env.cells scope.names []) h3.objs.size code builtinsNs X.env) fp (A.over (.compLoop (.GeneratorExp elt [⟨tg, iter, [], 0⟩] scope gpos) 0 (.ref it) .none (genEnv scope (cloFrom X.env.cells scope.names []) h3.objs.size code builtinsNs X.env)) []), rfl, rfl, fun H' s' J' => inv_back I2 f2 J', I5, fun L Pv Ye step stop s' H' I' un pv => ⟨rfl, ?_⟩⟩
    refine seg_gstartV (G := gcx X s2 H2 (xs ++ ns.map (·.1)) (genEnv scope (cloFrom X.env.cells scope.names []) h3.objs.size code builtinsNs X.env) fp (A.over (.compLoop (.GeneratorExp elt [⟨tg, iter, [], 0⟩] scope gpos) 0 (.ref it) .none (genEnv scope (cloFrom X.env.cells scope.names []) h3.objs.size code builtinsNs X.env)) [])) (fp := fp) (tn := tn) (J := J) rfl rfl rfl rfl rfl (S.co) T ?_ ?_ (fun b hb z => ?_) step stop s' s' H' I' ?_ (fun b hb => let ⟨o, e⟩ := hfo b hb; (un b o ((f2 b hb).1) (keep5 b o (fpP b hb) e)).1) pv
    · exact hg s2 H2 h3.objs.size code fp _
    · exact he s2 H2 h3.objs.size code fp (A.over (.compLoop (.GeneratorExp elt [⟨tg, iter, [], 0⟩] scope gpos) 0 (.ref it) .none (genEnv scope (cloFrom X.env.cells scope.names []) h3.objs.size code builtinsNs X.env)) []) hAr
    · obtain ⟨o, e⟩ := hfo b hb
      have h1 := Heap.lt_size e
      rw [← z, hsz'] at h1
      have h1' : h3.objs.size + 1 < s2.heap.objs.size := h1
      omega
    · exact T.keep _ _ _ st2 fun b hb o e => (un b o ((f2 b hb).1) (keep5 b o (fpP b hb) e)).2
  refine ⟨I2.nolimit, ?_⟩
  cases hf : codeAmong gpos ps.toList with
  | none =>
    refine wpAny_genexprCodeX hcode (cd.code hPs ht) (cd.tab hPs) hf fun c' h' tk hx hge hlt hco' _ htab' _ => ?_
    obtain ⟨o1, vs, f1, tf, fl, tg, inF, tx, tt, op, _, _, _, _, _, _, _, _, _, htr, _⟩ := hco'
    exact cont _ h' tk hx (Nat.le_trans hge (Nat.le_of_lt hlt)) ⟨_, htab'.2, htr⟩
  | some cv =>
    refine wpAny_genexprCode_hit hcode (cd.code hPs ht) hf ?_
    exact cont cv s2.heap s2.toks (Heap.ExtBut.refl _ _) (Nat.le_refl _) ⟨ps, hPs, ht⟩

end
end Gx
end

section
set_option Elab.async false
set_option linter.all false
set_option maxRecDepth 100000
set_option maxHeartbeats 4000000
/-! sum(..) of a generator expression. -/
namespace Gx
open PySem PySem.Spec PyProof.Rows L2 GxR
theorem codeAny_sumG {A0 : Around} {a S : Addr} {g : Nat} {go : Obj} {G : Cx} {σ0 : L2.St} {L : Nat} {Pv : Nat → Hp → Prop} {Ye : Nat → V → Hp → Prop} {val : Nat → Int} {R' : Result → Shared → Prop} {prog : Program} {w : World}
    (hG : G.prog = prog ∧ G.w = w) (hh : A0.handled = none) (hroom : A0.depth < recursionLimit) (hgen : ∀ h : Heap, h.get? a = some go → h.IsGen a g)
    (hYe : ∀ i y H, i < L → Ye i y H → y = .int (val i) ∧ H S = some (.lst [.int (preSum val i)]) ∧ Pv (i + 1) (upd H S (.lst [.int (preSum val (i + 1))])))
    (hdone : ∀ H s t, Inv G [(a, go)] σ0 H s → Pv L H → R' (.ok (.ret (.int (preSum val L) t))) s) :
    ∀ (k i : Nat) (s : Shared) (gs : GenState) (stage : Int), (stage = 0 ∨ stage = 2) → L - i = k → i ≤ L → (∃ H, Inv G [(a, go)] σ0 H s ∧ H S = some (.lst [.int (preSum val i)])) → s.gens[g]? = some gs →
      (∀ s', s'.heap = s.heap → s'.os = s.os → AllBare s'.gens → gs.Goes (model prog w) A0.in1.in1 (fun n s₀ r s₁ => r = .ok .next ∧ GEndV G a go σ0 L Pv n s₀ s₁) (GYldV G a go σ0 L Pv Ye) (L - i + 1) (.send .none) s') →
      codeAny (model prog w) A0 (.builtin "sum.loop" ⟨[.ref a, .ref S, rawInt stage, rawInt 0], []⟩) R' s := by
  have pin : ∀ {H : Hp} {σ : L2.St} {s : Shared}, Inv G [(a, go)] σ H s → s.heap.IsGen a g := fun I => hgen _ (I.pin (a, go) (List.mem_append_right _ (List.mem_singleton.mpr rfl))).1
  have at1 : ∀ {H : Hp} {σ : L2.St} {s : Shared} {n : Int}, Inv G [(a, go)] σ H s → H S = some (.lst [.int n]) → ∃ (t : Tok) (c : Nat), s.heap.get? S = some { cls := .type "list", data := .seq [Value.int n t].toArray c } := fun I hS => by
    obtain ⟨z, its, c, r, hl, e⟩ := I.lstM hS
    obtain ⟨u, rfl, ru⟩ := r.one
    obtain ⟨t, rfl⟩ := ru
    exact ⟨t, c, e⟩
  intro k
  induction k with
  | zero =>
    intro i s gs stage hstage hk hi ⟨H, I, hS⟩ hgs hgo
    have hin : i = L := by omega
    subst hin
    obtain ⟨tA, c, eS⟩ := at1 I hS
    refine codeAny_builtin F.entry_sum_loop ?_
    rw [Around.under_plainId F.plain_sum_loop _]
    show wpAny _ A0.in1 (seqItems? (.ref S) >>= _) _ _ s
    refine wpAny_bind (wpAny_seqItems eS rfl ?_)
    show wpAny _ A0.in1 (tryCatch (pyNext (.ref a)) _ >>= _) _ _ s
    refine wpAny_bind (wpAny_tryCatch (wpAny_pyNext_genexpQ (n := i - i + 1) (P := GEndV G a go σ0 i Pv) hh I.nolimit hroom (pin I) hgs (hgo _ rfl rfl (bare_set I.bare rfl)) (fun v s₁ gs' hb hv => ?_) (fun s₁ hp h' hk => ?_)))
    · obtain ⟨j, y, H2, hl, hj, _⟩ := hv
      have hj' : i - i + 1 - 1 + j = i := hj
      omega
    · obtain ⟨_, H2, I2, pv⟩ := hp
      refine wpAny_pure ?_
      exact hdone H2 _ tA (inv_same ((inv_same I2 rfl rfl (s' := s₁.setGen g .finished) (bare_set I2.bare rfl)).kept (t' := s₁.toks) hk) rfl rfl (bare_set I2.bare rfl)) pv
  | succ k ih =>
    intro i s gs stage hstage hk hi ⟨H, I, hS⟩ hgs hgo
    have hlt : i < L := by omega
    obtain ⟨tA, c, eS⟩ := at1 I hS
    refine codeAny_builtin F.entry_sum_loop ?_
    rw [Around.under_plainId F.plain_sum_loop _]
    show wpAny _ A0.in1 (seqItems? (.ref S) >>= _) _ _ s
    refine wpAny_bind (wpAny_seqItems eS rfl ?_)
    show wpAny _ A0.in1 (tryCatch (pyNext (.ref a)) _ >>= _) _ _ s
    have hsz : g + 1 ≤ s.gens.size := (Array.getElem?_eq_some_iff.mp hgs).1
    refine wpAny_bind (wpAny_tryCatch (GenW.wpAny_gsz hsz (wpAny_pyNext_genexpQ (n := L - i + 1) (P := GEndV G a go σ0 L Pv) hh I.nolimit hroom (pin I) hgs (hgo _ rfl rfl (bare_set I.bare rfl)) (fun v s₁ gs' hb hv => ?_) (fun s₁ hp h' hk => ?_))))
    · obtain ⟨j, y, H2, hl, hj, r2, I2, ye, kap⟩ := hv
      have hj' : L - i + 1 - 1 + j = L := hj
      have hji : j = i := by omega
      subst hji
      obtain ⟨ey, hS2, pv⟩ := hYe j y H2 hlt ye
      subst ey
      obtain ⟨t, ev⟩ := r2
      subst ev
      intro hz
      rw [GenW.setGen_size] at hz
      have I3 : Inv G [(a, go)] σ0 H2 (s₁.setGen g gs') := inv_same I2 rfl rfl (bare_set I2.bare hb)
      obtain ⟨tB, c2, eS2⟩ := at1 I3 hS2
      -- what follows the write
      have next : ∀ (tk tok : Nat) (stage : Int), (stage = 0 ∨ stage = 2) →
          codeAny (model prog w) A0 (.builtin "sum.loop" ⟨[.ref a, .ref S, rawInt stage, rawInt 0], []⟩) R' { (s₁.setGen g gs') with heap := (s₁.setGen g gs').heap.update S (Obj.mapSeq fun _ => #[Value.int (preSum val j + val j) tk]), toks := tok } := by
        intro tk tok stage hstage
        have I4 := I3.lset (ys := [.int (preSum val (j + 1))]) (its' := [Value.int (preSum val j + val j) tk]) (f := fun _ => #[Value.int (preSum val j + val j) tk]) (t' := tok) hS2 eS2 (by simp) (.cons ⟨tk, rfl⟩ .nil) (by rw [sizeLine_eq]; exact Nat.le_of_ble_eq_true rfl)
        refine ih (j + 1) _ gs' stage hstage (by omega) hl ⟨_, I4, upd_same⟩ (setGen_at hz) fun s' eh eo eb => ?_
        have e : L - j = L - (j + 1) + 1 := by omega
        have := kap s' (upd H2 S (.lst [.int (preSum val (j + 1))])) (inv_same I4 eh eo eb) (fun b o hb ho => ?_) pv
        · rw [e] at this
          exact this
        · have hbS : b ≠ S := fun z => by rw [z, hS2] at hb; cases hb
          refine ⟨by rw [upd_ne hbS]; exact hb, ?_⟩
          rw [eh]
          exact (Heap.get?_update_other _ _ (Ne.symm hbS)).trans ho
      -- the twice written
      have next2 : ∀ (tk tok : Nat) (stage : Int), (stage = 0 ∨ stage = 2) →
          codeAny (model prog w) A0 (.builtin "sum.loop" ⟨[.ref a, .ref S, rawInt stage, rawInt 0], []⟩) R' { (s₁.setGen g gs') with heap := ((s₁.setGen g gs').heap.update S (Obj.mapSeq fun _ => #[Value.int (preSum val j + val j) tk])).update S (Obj.mapSeq fun _ => #[Value.int (preSum val j + val j) tk]), toks := tok } := by
        intro tk tok stage hstage
        have I4 := I3.lset (ys := [.int (preSum val (j + 1))]) (its' := [Value.int (preSum val j + val j) tk]) (f := fun _ => #[Value.int (preSum val j + val j) tk]) (t' := tok) hS2 eS2 (by simp) (.cons ⟨tk, rfl⟩ .nil) (by rw [sizeLine_eq]; exact Nat.le_of_ble_eq_true rfl)
        obtain ⟨z5, its5, c5, r5, hl5, e5⟩ := I4.lstM upd_same
        have I5 := I4.lset (ys := [.int (preSum val (j + 1))]) (its' := [Value.int (preSum val j + val j) tk]) (f := fun _ => #[Value.int (preSum val j + val j) tk]) (t' := tok) upd_same e5 (by simp) (.cons ⟨tk, rfl⟩ .nil) (by rw [sizeLine_eq]; exact Nat.le_of_ble_eq_true rfl)
        rw [upd_upd] at I5
        refine ih (j + 1) _ gs' stage hstage (by omega) hl ⟨_, I5, upd_same⟩ (setGen_at hz) fun s' eh eo eb => ?_
        have e : L - j = L - (j + 1) + 1 := by omega
        have := kap s' (upd H2 S (.lst [.int (preSum val (j + 1))])) (inv_same I5 eh eo eb) (fun b o hb ho => ?_) pv
        · rw [e] at this
          exact this
        · have hbS : b ≠ S := fun z => by rw [z, hS2] at hb; cases hb
          refine ⟨by rw [upd_ne hbS]; exact hb, ?_⟩
          rw [eh]
          exact (Heap.get?_update_other _ _ (Ne.symm hbS)).trans ((Heap.get?_update_other _ _ (Ne.symm hbS)).trans ho)
      rcases hstage with rfl | rfl
      · show wpAny _ A0.in1 (if (_ : Bool) = true then (mkInt (preSum val j + val j) >>= _) else _) _ _ _
        split
        · refine wpAny_bind (wpAny_mkInt ?_)
          show wpAny _ A0.in1 (updateSeq S (fun _ => #[.int (preSum val j + val j) _]) >>= _) _ _ _
          refine wpAny_bind ?_
          refine wpAny_updateSeq eS2 rfl (wpAny_pure ⟨plainId_quiet F.plain_sum_loop _, ?_⟩)
          exact next _ _ 0 (Or.inl rfl)
        · refine wpAny_bind (wpAny_rule ?_)
          refine wpAny_bind (wpAny_attempt (wpAny_holding (PySem.P.add_int ?_)))
          show wpAny _ A0.in1 (updateSeq S (fun _ => #[.int (preSum val j + val j) _]) >>= _) _ _ _
          refine wpAny_bind ?_
          refine wpAny_updateSeq eS2 rfl ?_
          have hS3 := Heap.get?_update_self (Obj.mapSeq fun _ => #[Value.int (preSum val j + val j) (s₁.setGen g gs').toks]) eS2 rfl
          refine wpAny_bind (wpAny_letGo ?_)
          refine wpAny_bind ?_
          refine wpAny_updateSeq hS3 rfl (wpAny_pure ⟨plainId_quiet F.plain_sum_loop _, ?_⟩)
          exact next2 _ _ 2 (Or.inr rfl)
      · show wpAny _ A0.in1 ((holding [Value.int (val j) t] (binaryOp .Add (.int (preSum val j) tA) (.int (val j) t))).attempt >>= _) _ _ _
        refine wpAny_bind (wpAny_attempt (wpAny_holding (PySem.P.add_int ?_)))
        show wpAny _ A0.in1 (updateSeq S (fun _ => #[.int (preSum val j + val j) _]) >>= _) _ _ _
        refine wpAny_bind ?_
        refine wpAny_updateSeq eS2 rfl ?_
        have hS3 := Heap.get?_update_self (Obj.mapSeq fun _ => #[Value.int (preSum val j + val j) (s₁.setGen g gs').toks]) eS2 rfl
        refine wpAny_bind (wpAny_letGo ?_)
        refine wpAny_bind ?_
        refine wpAny_updateSeq hS3 rfl (wpAny_pure ⟨plainId_quiet F.plain_sum_loop _, ?_⟩)
        exact next2 _ _ 2 (Or.inr rfl)
    · obtain ⟨h0, _⟩ := hp
      have h0' : L - i + 1 = 1 := h0
      omega

/-- sum(elt for t in iter): the list S holds the sum so far -/
def rSumG (g : TG) (te : TE) (σ0 : L2.St) (Q : VK) : It → Hp → Prop := fun J H1 => ∃ (L : Nat) (val : Nat → Int), ∀ S, H1 S = none → ∃ Pv : Nat → Hp → Prop, Pv 0 (upd H1 S (.lst [.int 0])) ∧
  (∀ H, Pv L H → J.stop L H ∧ Q (.int (preSum val L)) H) ∧
  ∀ i H, i < L → Pv i H → J.go i H ∧ ∀ y H', J.yld i H y H' → g y σ0 H' fun σ1 H1' => Keep2 σ0 σ1 ∧ te σ1 H1' fun z H2 => z = .int (val i) ∧ H2 S = some (.lst [.int (preSum val i)]) ∧ Pv (i + 1) (upd H2 S (.lst [.int (preSum val (i + 1))]))
def tSumG (P : Addr) (wi : TI) (g : TG) (te : TE) (xs : List Str) (ns : List (Str × Nat)) : TE := fun σ H Q => wi σ H fun J H1 => H1 P = some (TabO P) ∧ rSumG g te (none0 xs ++ capsOf σ ns) Q J H1
section
variable {X : Cx}
theorem pe_sumG {c P : Addr} {elt iter tg : Expr} {xs : List Str} {p pos gpos : Pos} {scope : Scope} {ns : List (Str × Nat)} {wi : TI} {g : TG} {te : TE} {k' : Nat}
    (hr : Room (k' + 3) X.A) (hgl : Gl X "sum") (hm : X.mg "sum" = none) (TB : TabB X.base X.mg c P) (hcode : X.env.code = .ref c) (S : GOkV X.N X.env.scope scope xs ns) (hi : PI X tg iter wi)
    (hg : ∀ (s : Shared) (H : Hp) (C : Addr) (code : Value) (fp : List Addr) (A : Around), PG (gcx X s H (xs ++ ns.map (·.1)) (genEnv scope (cloFrom X.env.cells scope.names []) C code builtinsNs X.env) fp A) tg g)
    (he : ∀ (s : Shared) (H : Hp) (C : Addr) (code : Value) (fp : List Addr) (A : Around), Room k' A → PE (gcx X s H (xs ++ ns.map (·.1)) (genEnv scope (cloFrom X.env.cells scope.names []) C code builtinsNs X.env) fp A) elt te)
    (hs : ∀ v, genFold iter X.env v = pure v := by intro _; rfl) (hb : bootBuiltins "sum" = some (.builtin "sum") := by decide +kernel)
    (hst : starEach [.GeneratorExp elt [⟨tg, iter, [], 0⟩] scope gpos] X.env = (false, eval (.GeneratorExp elt [⟨tg, iter, [], 0⟩] scope gpos) X.env) :: starEach [] X.env := by rfl) :
    PE X (.Call (.Name "sum" p) [.GeneratorExp elt [⟨tg, iter, [], 0⟩] scope gpos] [] pos) (tSumG P wi g te xs ns) := by
  refine ⟨fun pins s σ H Q I h => ?_⟩
  refine wpAny_Call_Name_kw (ld_blt I hgl hm hb ?_)
  refine PyProof.Rows.callWith_builtin1 ?_ hst (by rfl)
  rw [hst]
  show wpAny _ _ (spliced ((false, eval (.GeneratorExp elt [⟨tg, iter, [], 0⟩] scope gpos) X.env) :: backTo pos (starEach [] X.env))) _ _ s
  refine Calls.spliced_cons (gen_madeV (R := rSumG g te (none0 xs ++ capsOf σ ns) Q) hr TB hcode S hi hg he hs I h fun J H1 a s5 hR hG => ?_)
  obtain ⟨gi, go, c5, hgen, hgs, hA⟩ := hG
  have hr1 : Room (k' + 1) X.A.in1.in1 := hr.in1.in1
  obtain ⟨G, hG1, hG2, back, I5, goes⟩ := hA X.A.in1.in1 hr1 (by rw [show X.A.in1.in1.frames = X.A.frames from rfl]; exact I.ok.frames)
  obtain ⟨L, val, hR⟩ := hR
  refine Calls.spliced_nil ?_
  refine call_function_tree F.kind_sum F.plain_sum F.entry_sum (F.args_sum1 _) ?_
  unfold Builtin.«sum»
  simp only [List.length_cons, List.length_nil]
  rw [if_neg (by decide)]
  refine wpAny_bind (wpAny_of_eq (show Builtin.Builtins.bindParams "sum" ["start"] 0 { } = pure [none] from rfl) ?_)
  refine wpAny_bind (wpAny_pyIter_gen (hgen _ (I5.pin (a, go) (List.mem_append_right _ (List.mem_singleton.mpr rfl))).1) ?_)
  refine wpAny_bind (wpAny_mkInt ?_)
  refine wpAny_bind (wpAny_pure ?_)
  simp only [List.forIn_cons, List.forIn_nil]
  refine wpAny_bind (wpAny_bind (wpAny_bind (wpAny_isInstance (T := "int") (b := false) (typeIs_int _ _ _) PySem.sub_int_str ?_)))
  simp only [Bool.false_eq_true, if_false]
  refine wpAny_pure (wpAny_bind (wpAny_bind (wpAny_isInstance (T := "int") (b := false) (typeIs_int _ _ _) PySem.sub_int_bytes ?_)))
  simp only [Bool.false_eq_true, if_false]
  refine wpAny_pure (wpAny_bind (wpAny_bind (wpAny_isInstance (T := "int") (b := false) (typeIs_int _ _ _) PySem.sub_int_bytearray ?_)))
  simp only [Bool.false_eq_true, if_false]
  refine wpAny_pure (wpAny_pure ?_)
  refine wpAny_bind (wpAny_newObj_type ?_)
  refine wpAny_pure ⟨plainId_quiet F.plain_sum_loop _, ?_⟩
  obtain ⟨Pv, p0, hstop, hstep⟩ := hR s5.heap.objs.size I5.fresh
  have I6 := I5.lnew (ys := [.int 0]) (its := [Value.int 0 s5.toks]) (t' := s5.toks + 1) (.cons ⟨_, rfl⟩ .nil) (by rw [sizeLine_eq]; exact Nat.le_of_ble_eq_true rfl)
  refine codeAny_sumG (G := G) (L := L) (Pv := Pv) (val := val) (Ye := fun i z H2 => z = .int (val i) ∧ H2 s5.heap.objs.size = some (.lst [.int (preSum val i)]) ∧ Pv (i + 1) (upd H2 s5.heap.objs.size (.lst [.int (preSum val (i + 1))])))
    ⟨hG1, hG2⟩ hr.hd (by have := hr.dp; show X.A.depth < recursionLimit; omega) hgen (fun i y H _ h => h) (fun H' s' t J' q => ?_) L 0 _ (.fresh c5) 0 (Or.inl rfl) rfl (Nat.zero_le _) ⟨_, I6, upd_same⟩ hgs
    (fun s' eh eo eb => goes L Pv _ (fun i H' hi hp => hstep i H' hi hp) (fun H' hp => (hstop H' hp).1) s' _ (inv_same I6 eh eo eb) (fun b o hb ho => ?_) p0)
  · exact ⟨.int (preSum val L), H', back H' s' J', ⟨t, rfl⟩, (hstop H' q).2⟩
  · have hbS : b ≠ s5.heap.objs.size := Nat.ne_of_lt (Heap.lt_size ho)
    refine ⟨by rw [upd_ne hbS]; exact hb, ?_⟩
    rw [eh]
    exact Heap.get?_push_of_some _ ho
end
end Gx
end

section
set_option Elab.async false
set_option linter.all false
set_option maxRecDepth 100000
set_option maxHeartbeats 4000000
/-! A set comprehension of ints, and its size. -/
namespace Gx
open PySem PySem.Spec PyProof.Rows L2 GxR
def memK (val : Nat → Int) : Nat → Key → Bool
  | 0 => fun _ => false
  | i + 1 => fun j => memK val i j || decide (j = .inl (val i))
def cntK (val : Nat → Int) : Nat → Nat
  | 0 => 0
  | i + 1 => if memK val i (.inl (val i)) = true then cntK val i else cntK val i + 1
theorem cntK_le (val : Nat → Int) : ∀ i, cntK val i ≤ i
  | 0 => Nat.le_refl _
  | i + 1 => by
    have := cntK_le val i
    unfold cntK
    split <;> omega
theorem memK_iff (val : Nat → Int) (k : Int) : ∀ i, memK val i (.inl k) = true ↔ ∃ j, j < i ∧ val j = k
  | 0 => by
    constructor
    · intro h; cases h
    · rintro ⟨j, h, _⟩; omega
  | i + 1 => by
    have ih := memK_iff val k i
    show (memK val i (.inl k) || decide ((.inl k : Key) = .inl (val i))) = true ↔ _
    rw [Bool.or_eq_true, decide_eq_true_eq, ih]
    constructor
    · rintro (⟨j, h, e⟩ | e)
      · exact ⟨j, by omega, e⟩
      · exact ⟨i, by omega, (Sum.inl.inj e).symm⟩
    · rintro ⟨j, h, e⟩
      by_cases hj : j = i
      · subst hj; exact .inr (by rw [e])
      · exact .inl ⟨j, by omega, e⟩
/-- as many as there are items: all differ -/
theorem cntK_eq (val : Nat → Int) : ∀ i, cntK val i = i ↔ ∀ j, j < i → memK val j (.inl (val j)) = false
  | 0 => ⟨fun _ j h => by omega, fun _ => rfl⟩
  | i + 1 => by
    have hle := cntK_le val i
    have ih := cntK_eq val i
    show (if memK val i (.inl (val i)) = true then cntK val i else cntK val i + 1) = i + 1 ↔ _
    constructor
    · intro h j hj
      split at h
      · omega
      · by_cases e : j = i
        · subst e; exact Bool.eq_false_iff.mpr ‹¬ _›
        · exact ih.mp (by omega) j (by omega)
    · intro h
      rw [if_neg (by rw [h i (by omega)]; decide), ih.mpr fun j hj => h j (by omega)]
def rScK (P : Program) (w : World) (g : TG) (te : TE) (σw : L2.St) (Q : VK) : It → Hp → Prop := fun J H1 => ∃ (L : Nat) (val : Nat → Int), L + 1 < scanBound ∧ ∀ D, H1 D = none → ∃ Pv : Nat → Hp → Prop, Pv 0 (upd H1 D (SetK P w D (memK val 0) (cntK val 0))) ∧
  (∀ H, Pv L H → J.stop L H ∧ Q (.ref D) H) ∧
  ∀ i H, i < L → Pv i H → J.go i H ∧ ∀ y H', J.yld i H y H' → g y σw H' fun σ1 H1' => (σ1.length = σw.length ∧ ∀ (j : Nat) (v : V), σw[j]? = some (some v) → σ1[j]? = some (some v)) ∧ te σ1 H1' fun z H2 => z = .int (val i) ∧ H2 D = some (SetK P w D (memK val i) (cntK val i)) ∧ Pv (i + 1) (upd H2 D (SetK P w D (memK val (i + 1)) (cntK val (i + 1))))
def tScK (P : Program) (w : World) (wi : TI) (g : TG) (te : TE) (vs : List Nat) : TE := fun σ H Q => wi σ H (rScK P w g te (wipe σ vs) Q)
section
variable {X : Cx}
theorem addK_ok {pins : List (Addr × Obj)} {σ : L2.St} {H : Hp} {s : Shared} {E : Value → Shared → Prop} {D : Addr} {S : Key → Bool} {n : Nat} {y : Int} {u : Value} {Q : Value → Shared → Prop} (I : Inv X pins σ H s) (ru : RelV (.int y) u) (hD : H D = some (SetK X.prog X.w D S n)) (room : n + 1 < scanBound)
    (h : ∀ s', Inv X pins σ (upd H D (SetK X.prog X.w D (fun j => S j || decide (j = .inl y)) (if S (.inl y) = true then n else n + 1))) s' → Q .none s') : wpAny (model X.prog X.w) X.A (call (.builtin "set.add") [.ref D, u]) Q E s := by
  have rk : RelV (kV (.inl y)) u := ru
  refine call_set_add (kV_is rk) (key_scan rk) (setK_get I hD) room fun h' sb new => h _ ?_
  obtain ⟨o, _, _, _, ho, _⟩ := id new
  exact I.write (e := D) (t' := s.toks + 1) (by rw [hD]; exact trivial) (.inl rfl) (fun b v hb hv => (sb.2 b hb).trans hv) ⟨o, ho⟩ (setK_new new)
theorem setK_fresh {P : Program} (w : World) {h : Heap} : (h.push { cls := .type "set", dict := none, data := .set #[] 0 (.fresh 0 0 (!w.params.followText "set-order")) }).SetOf (mixKind P w) h.objs.size (fun _ => false) 0 :=
  ⟨_, #[], 0, _, Heap.get?_push_size _ rfl, ⟨rfl, rfl, rfl⟩, rfl, (fun e he => by simp at he), (fun k => by simp), (by decide), (by rfl), rfl⟩
theorem pe_scK {elt tg iter : Expr} {scope : Scope} {own : List (PySem.Str × Nat)} {pos : Pos} {wi : TI} {g : TG} {te : TE} (hc : X.calm = true) (hN : X.N.Nodup) (hi : PI X tg iter wi) (ok : BlkOk X.N X.env.scope scope own)
    (hg : ∀ (s : Shared) (H : Hp) (C : Addr) (cl : List (PySem.Str × Addr)) (fp : List Addr), PG (X.blk s H scope (compEnvC scope cl C X.env) fp) tg g)
    (he : ∀ (s : Shared) (H : Hp) (C : Addr) (cl : List (PySem.Str × Addr)) (fp : List Addr), PE (X.blk s H scope (compEnvC scope cl C X.env) fp) elt te) (hs : ∀ x, foldedSetIterable iter X.env x = pure x := by intro _; rfl) :
    PE X (.SetComp elt [⟨tg, iter, [], 0⟩] scope pos) (tScK X.prog X.w wi g te (own.map (·.2))) := by
  refine ⟨fun pins s σ H Q I h => ?_⟩
  rw [PpSet.eval_SetComp]
  have hclo : ∀ y ∈ scope.names, y.2 = .free → ∃ c, X.env.cells.lookup y.1 = some c := fun y hy e =>
    (ok.free y hy e).elim (fun k => I.ok.has _ (.inl k)) fun k => I.ok.has _ (.inr k)
  refine wpAny_comprehension_free (use := none) rfl hs (closure_ok hclo) ok.kind (fun y hy e => (ok.uniq y hy).trans (by rw [e])) (thn (hi.run pins s σ H _ I h) fun xv s1 hx => thn hx fun itv s2 h2 => ?_)
  obtain ⟨it, fp, tn, J, H2, rfl, I2, T, st2, f2, L, val, hL, q⟩ := h2
  refine PpSet.newSet_ok (newEnv_comp ?_)
  obtain ⟨Pv, p0, hstop, hstep⟩ := q s2.heap.objs.size I2.fresh
  generalize hD : s2.heap.objs.size = D at p0 hstop hstep ⊢
  have fpD : ∀ b ∈ fp, b < D := fun b hb => by
    obtain ⟨o, e, _⟩ := T.obj _ _ st2 b hb
    rw [← hD]
    exact Heap.lt_size e
  generalize hs3 : ({ s2 with heap := s2.heap.push { cls := .type "set", dict := none, data := .set #[] 0 (.fresh 0 0 (!X.w.params.followText "set-order")) } } : Shared) = s3
  have heap3 : s3.heap = s2.heap.push { cls := .type "set", dict := none, data := .set #[] 0 (.fresh 0 0 (!X.w.params.followText "set-order")) } := by rw [← hs3]
  have old3 : ∀ b o, s2.heap.get? b = some o → s3.heap.get? b = some o := fun b o e => by rw [heap3]; exact Heap.get?_push_of_some _ e
  have I3 : Inv X pins σ (upd H2 D (SetK X.prog X.w D (memK val 0) (cntK val 0))) s3 := by
    rw [← hs3, ← hD]
    exact I2.laid (t' := s2.toks) (fun b o e => Heap.get?_push_of_some _ e) (Nat.le_refl _) (setK_new (setK_fresh X.w))
  have ok3 : ∀ b ∈ fp, FpOk X pins (upd H2 D (SetK X.prog X.w D (memK val 0) (cntK val 0))) b ∧ b < s3.heap.objs.size := fun b hb => by
    refine ⟨⟨(upd_ne (Nat.ne_of_lt (fpD b hb))).trans (f2 b hb).1, (f2 b hb).2⟩, ?_⟩
    rw [heap3, Heap.size_push, hD]
    exact Nat.lt_succ_of_lt (fpD b hb)
  generalize upd H2 D (SetK X.prog X.w D (memK val 0) (cntK val 0)) = H3 at I3 p0 ok3
  have B3 := block_start I3 ok hN ok3
  have pg := hg s3 H3 s3.heap.objs.size (cellsFrom (s3.heap.objs.size + 1) scope.names (cloFrom X.env.cells scope.names [])) fp
  have pe := he s3 H3 s3.heap.objs.size (cellsFrom (s3.heap.objs.size + 1) scope.names (cloFrom X.env.cells scope.names [])) fp
  show codeAny _ _ (.compStart (.SetComp elt [⟨tg, iter, [], 0⟩] scope pos) 0 (.ref it) (.ref D) (compEnvC scope (cellsFrom (s3.heap.objs.size + 1) scope.names (cloFrom X.env.cells scope.names [])) s3.heap.objs.size X.env)) (compPost (model X.prog X.w) X.A X.xe none _ (.ref D) s3.heap.objs.size) { s3 with heap := pushCells (s3.heap.push { cls := .type "dict", data := .dict #[] }) scope.names }
  generalize hce : compEnvC scope (cellsFrom (s3.heap.objs.size + 1) scope.names (cloFrom X.env.cells scope.names [])) s3.heap.objs.size X.env = ce at B3 pg pe ⊢
  have cL : ce.locals = s3.heap.objs.size := by rw [← hce]; rfl
  generalize hs4 : ({ s3 with heap := pushCells (s3.heap.push { cls := .type "dict", data := .dict #[] }) scope.names } : Shared) = s4 at B3 ⊢
  have st4 : tn 0 s4.heap := T.keep _ _ _ st2 fun b _ o e => by
    rw [← hs4]
    exact pushCells_keeps _ _ _ _ (Heap.get?_push_of_some _ (old3 b o e))
  -- the iterator's objects, seen from the block
  have foot : ∀ {σ' : L2.St} {H' : Hp} {s' : Shared}, Inv (X.blk s3 H3 scope ce fp) [] σ' H' s' → (∀ b ∈ fp, H' b = none) → ∀ b ∈ fp, FpOk (X.blk s3 H3 scope ce fp) [] H' b := fun I' hn b hb => by
    have z := I'.ok.exf b hb
    exact ⟨hn b hb, z.1, I'.ok.exfs b hb, .inl hb, fun x c e => z.2 x c e, fun p hp => absurd (show p ∈ ([] : List (Addr × Obj)) ++ [] from hp) (by simp)⟩
  have turns : codeAny (model X.prog X.w) X.A (.compLoop (.SetComp elt [⟨tg, iter, [], 0⟩] scope pos) 0 (.ref it) (.ref D) ce) (compPost (model X.prog X.w) X.A X.xe none (fun v s' => EP X pins σ Q v s') (.ref D) s3.heap.objs.size) s4 := by
    refine PpSet.compLoopS_any (fun n s' => ∃ i H', n = L - i ∧ i ≤ L ∧ Inv (X.blk s3 H3 scope ce fp) [] (wipe σ (own.map (·.2))) H' s' ∧ tn i s'.heap ∧ (∀ b ∈ fp, H' b = none) ∧ Pv i H') ?_ L ⟨0, H3, rfl, Nat.zero_le _, B3, st4, fun b hb => (ok3 b hb).1.1, p0⟩
    rintro n s5 ⟨i, H5, rfl, hi, I5, st5, n5, p5⟩
    by_cases hlt : i < L
    · obtain ⟨go, step⟩ := hstep i H5 hlt p5
      refine thnF (T.item (X.blk s3 H3 scope ce fp) rfl rfl rfl hc i [] s5 _ H5 (fun _ _ => False) I5 (foot I5 n5) st5 go) fun r s6 ⟨u, hr, h6⟩ => ?_
      subst hr
      refine thnF h6 fun _ s7 ⟨x, H7, I7, r7, y7, st7, n7⟩ => ?_
      refine thnF (pg.run _ s7 _ H7 x u _ (I7.pinned (foot I7 n7) (T.obj _ _ st7)) r7 (step x H7 y7)) fun _ s8 ⟨σ8, H8, I8, kp, q8⟩ => ?_
      rw [List.forIn_nil]
      refine wpAny_pure ?_
      simp only [if_true]
      refine thnF (pe.run _ s8 σ8 H8 _ I8 q8) fun z s9 ⟨yv, H9, I9, r9, ey, hD9, p9⟩ => ?_
      subst ey
      refine addK_ok (X := X.blk s3 H3 scope ce fp) I9 r9 hD9 (by have := cntK_le val i; omega) fun s10 I10 => ?_
      have pinned : ∀ b ∈ fp, ∀ o, s7.heap.get? b = some o → s10.heap.get? b = some o ∧ upd H9 D (SetK X.prog X.w D (memK val (i + 1)) (cntK val (i + 1))) b = none := fun b hb o e =>
        have z := I10.pin (b, o) (List.mem_append_right _ (List.mem_append_right _ (mem_pinsAt hb e)))
        ⟨z.1, z.2.1⟩
      refine ⟨L - (i + 1), by omega, i + 1, _, rfl, hlt, (I10.unpinned (pins := [])).weak kp.1.symm kp.2, T.keep _ _ _ st7 fun b hb o e => (pinned b hb o e).1, fun b hb => ?_, p9⟩
      obtain ⟨o, e, _⟩ := T.obj _ _ st7 b hb
      exact (pinned b hb o e).2
    · have e : i = L := by omega
      subst e
      obtain ⟨stop, hQ⟩ := hstop H5 p5
      refine thnF (T.done (X.blk s3 H3 scope ce fp) rfl rfl rfl hc i [] s5 _ H5 (fun _ _ => False) I5 (foot I5 n5) st5 stop) fun r s6 ⟨hr, I6⟩ => ?_
      subst hr
      have I7 : Inv X pins σ H5 s6 := I3.call' (ch := fp) I6.os I6.base I6.hok I6.bare fun b hb => by
        have z := (ok3 b hb).1.2
        exact ⟨z.2.2.1, z.1, z.2.2.2.1, z.2.2.2.2⟩
      have nC : H5 s3.heap.objs.size = none := by rw [← cL]; exact I6.free
      obtain ⟨m, hn, _⟩ := I6.loc
      have hn' : s6.heap.Ns ce.locals m := hn
      rw [cL] at hn'
      obtain ⟨f0, f1, f2', f3, f4, f5⟩ := I3.fpOk (Nat.le_refl _) nC
      exact ⟨m, hn', fun h'' sb => ⟨.ref D, H5, I7.turned (t' := s6.toks) (fun b o hb e => (sb.2 b hb).trans e) f0 f1 f3 f4 f5, rfl, hQ⟩⟩
  exact PpSet.codeAny_compStart_set turns (T.self X.A 0 _ _ _ st4 turns)
/-- len of a set -/
theorem call_len_setK : CallR X (.builtin "len") (fun xs H Q => ∃ p S n, xs = [.ref p] ∧ H p = some (SetK X.prog X.w p S n) ∧ Q (.int n) H) := by
  intro pins s σ H xs us Q I r h
  obtain ⟨p, S, n, rfl, hp, q⟩ := h
  obtain ⟨u, rfl, rx⟩ := r.one
  cases rx
  obtain ⟨o, es, ep, t, ho, hex, hd, _, _, hb, hf, hn⟩ := setK_get I hp
  refine call_len_set ho hex hd hf (by have : scanBound ≤ 2 ^ 63 := by decide +kernel
                                       omega) ⟨.int n, H, I.tok _, ⟨s.toks + 1, by rw [hn]⟩, q⟩
end
end Gx
end

section
set_option Elab.async false
set_option linter.all false
set_option maxRecDepth 100000
set_option maxHeartbeats 4000000
namespace K52
open PySem PySem.Spec PyProof.Rows L2 GxR Gx Ma
section
variable {P : Program} {w : World} {K : PySem.W.Frag} {mg : Str → Option Value} {base : Heap}

/-- a fraction from 0 to 1 -/
structure Shr (q : Int × Int) : Prop where
  t0 : 0 ≤ q.1
  tb : q.1 ≤ q.2
  b1 : 1 ≤ q.2
  g : Nat.gcd q.1.natAbs q.2.natAbs = 1
  z : q.2 ≤ 1000000
abbrev TQ (H : Hp) (a : Addr) (q : Int × Int) : Prop := H a = some (.tup [.int q.1, .int q.2])
def sp_is_frac : Sp := fun vs H Q _ => ∃ (p : Addr) (x : Int × Int), vs = [V.ref p] ∧ TQ H p x ∧ Nat.gcd x.1.natAbs x.2.natAbs = 1 ∧ 1 ≤ x.2 ∧ Q (.bl true) H
def sp_check_frac : Sp := fun vs H Q _ => ∃ (p : Addr) (x : Int × Int), vs = [V.ref p] ∧ TQ H p x ∧ Nat.gcd x.1.natAbs x.2.natAbs = 1 ∧ 1 ≤ x.2 ∧ Q .non H
def sp_check_share : Sp := fun vs H Q _ => ∃ (p : Addr) (x : Int × Int), vs = [V.ref p] ∧ TQ H p x ∧ Shr x ∧ Q .non H
def pows (b : Int) (n : Nat) : List Int := (List.range (n + 1)).map fun i => b ^ i
theorem pows_zero (b : Int) : pows b 0 = [1] := by
  unfold pows
  rw [show List.range (0 + 1) = [0] from rfl, List.map_cons, List.map_nil, Int.pow_zero]
theorem pows_next (b : Int) (n : Nat) : pows b (n + 1) = pows b n ++ [b ^ (n + 1)] := by
  unfold pows
  rw [List.range_succ (n := n + 1), List.map_append]
  rfl
theorem pows_last (b : Int) (n : Nat) : atI ((pows b n).map V.int) (-1) = some (.int (b ^ n)) := by
  cases n with
  | zero => rfl
  | succ n =>
    rw [pows_next, List.map_append]
    exact atI_last _ _
theorem pows_len (b : Int) (n : Nat) : (pows b n).length = n + 1 := by unfold pows; rw [List.length_map, List.length_range]
theorem pow_small {b : Int} (h1 : 1 ≤ b) (h2 : b ≤ 100) {n : Nat} (hn : n ≤ 600) : (b ^ n).natAbs < 2 ^ 4000 := by
  refine abs_lt (Int.pow_nonneg (by omega)) ?_
  have e1 : b ^ n ≤ 100 ^ n := pow_mono (by omega) h2 n
  have h3 : (100 : Nat) ^ n ≤ 100 ^ 600 := Nat.pow_le_pow_right (by decide) hn
  have h4 : (100 : Nat) ^ 600 < 2 ^ 4000 := by decide +kernel
  have h5 : (100 : Nat) ^ n < 2 ^ 4000 := Nat.lt_of_le_of_lt h3 h4
  have h6 : (100 : Int) ^ n < 2 ^ 4000 := by exact_mod_cast h5
  omega
def sp_powers : Sp := fun vs H Q _ => ∃ (b : Int) (n : Nat), vs = [V.int b, V.int n] ∧ 1 ≤ b ∧ b ≤ 100 ∧ n ≤ 600 ∧ ∀ p H', Same H H' → H p = none → LI H' p (pows b n) → Q (.ref p) H'
def sp_kept_by : Sp := fun vs H Q _ => ∃ (t : Addr) (a b : Int) (n : Nat), vs = [V.ref t, V.int n] ∧ H t = some (.tup [.int a, .int b]) ∧ Kep a b ∧ n ≤ 600 ∧ ∀ p H', Same H H' → H p = none → TQ H' p (a ^ n, b ^ n) → Q (.ref p) H'
/-- what steps_within tells -/
def Ans (T U : Int) (f : Int × Int) (A B : Int) (v : V) : Prop := (0 < T ∧ f.1 = 0 ∧ v = .non) ∨ (¬ (0 < T ∧ f.1 = 0) ∧ ∃ s : Nat, v = .int s ∧ Lst (T * f.2) (U * f.1) A B s)
def sp_steps : Sp := fun vs H Q _ => ∃ (d c f : Addr) (T U A B : Int) (x : Int × Int), vs = [V.ref d, V.ref c, V.ref f] ∧ TQ H d (T, U) ∧ TQ H c (A, B) ∧ TQ H f x ∧ Shr x ∧ 0 ≤ T ∧ T ≤ U ∧ U < 2 ^ 1900 ∧ 1 ≤ A ∧ 100 * A ≤ 99 * B ∧ B < 2 ^ 420 ∧ ∀ v, Ans T U x A B v → Q v H
theorem absmul {x y : Int} {m n : Nat} (h : x.natAbs < 2 ^ m) (g : y.natAbs < 2 ^ n) : (x * y).natAbs < 2 ^ (m + n) := by
  rw [Int.natAbs_mul, Nat.pow_add]
  exact Nat.mul_lt_mul'' h g
theorem abspow {x A : Int} {m n : Nat} (h : x.natAbs < 2 ^ m) (g : A.natAbs < 2 ^ n) : ∀ s : Nat, (x * A ^ s).natAbs < 2 ^ (m + n * s)
  | 0 => by rw [Int.pow_zero, Int.mul_one, Nat.mul_zero]; exact h
  | s + 1 => by
    have := absmul (abspow h g s) g
    rw [Int.pow_succ, ← Int.mul_assoc, show m + n * (s + 1) = m + n * s + n by rw [Nat.mul_succ]; omega]
    exact this
theorem dec_int {i j : Int} : decide (V.int i = V.int j) = decide (i = j) := by
  by_cases h : i = j
  · rw [decide_eq_true h, decide_eq_true (by rw [h])]
  · rw [decide_eq_false h, decide_eq_false (fun z => h (by injection z))]
theorem abs_if (d : Int) : (if d < 0 then -d else d) = (d.natAbs : Int) := by split <;> omega
def sp_gd : Sp := fun vs H Q _ => ∃ (l1 l2 : Addr) (x l : List Int), vs = [V.ref l1, V.ref l2] ∧ LI H l1 x ∧ LI H l2 l ∧ (∀ n ∈ x, 0 ≤ n) ∧ (∀ n ∈ l, 0 ≤ n) ∧ l.length = x.length ∧ 0 < x.length ∧ x.length ≤ 8 ∧ x.sum < 2 ^ 7000 ∧ l.sum < 2 ^ 7000 ∧ ∀ p H', Same H H' → H p = none → TQ H' p (gd x l, x.sum * l.sum) → Q (.ref p) H'
theorem getD_mapI {ns : List Int} {i : Nat} (h : i < ns.length) : (ns.map V.int)[i]? = some (.int (ns.getD i 0)) := by
  rw [List.getElem?_map, List.getD_eq_getElem?_getD, List.getElem?_eq_getElem h]
  rfl
theorem tops_vals (x l : List Int) : ((List.range x.length).map fun i => V.int ((dif x l i).natAbs : Int)) = (tops x l).map V.int := by
  unfold tops
  rw [List.map_map]
  rfl









def sp_check_rounds (Tc T : Addr) : Sp := fun vs H Q _ => ∃ (l r t : Addr) (x : List Int) (a b : Int) (cs : List Nat), vs = [V.ref l, V.ref r, V.ref t] ∧ LI H l x ∧ Con x ∧ LI H r (rowI cs) ∧ H t = some (.tup [.int a, .int b]) ∧ Lro x.length a b cs ∧ H Tc = some (TabO Tc) ∧ H T = some (TabO T) ∧ Q .non H
def sp_dist : Sp := fun vs H Q _ => ∃ (l r t : Addr) (x : List Int) (a b : Int) (cs : List Nat), vs = [V.ref l, V.ref r, V.ref t] ∧ LI H l x ∧ Con x ∧ x.sum < 2 ^ 600 ∧ LI H r (rowI cs) ∧ H t = some (.tup [.int a, .int b]) ∧ Lro x.length a b cs ∧ ∀ p H', Same H H' → H p = none → TQ H' p (gd x (lim x.length a b cs), x.sum * (lim x.length a b cs).sum) → Q (.ref p) H'
def aft (x : List Int) (a b : Int) (cs : List Nat) (r : Nat) : Int × Int := fr (gd x (lim x.length a b cs) * a ^ (cs.length * r)) (x.sum * (lim x.length a b cs).sum * b ^ (cs.length * r))
def sp_after (Tc T : Addr) : Sp := fun vs H Q _ => ∃ (l r t : Addr) (x : List Int) (a b : Int) (cs : List Nat) (n : Nat), vs = [V.ref l, V.ref r, V.ref t, V.int n] ∧ LI H l x ∧ Con x ∧ x.sum < 2 ^ 600 ∧ LI H r (rowI cs) ∧ H t = some (.tup [.int a, .int b]) ∧ Lro x.length a b cs ∧ n ≤ 10 ∧ H Tc = some (TabO Tc) ∧ H T = some (TabO T) ∧ ∀ p H', Same H H' → H p = none → TQ H' p (aft x a b cs n) → Q (.ref p) H'
def sp_within (Tc T : Addr) : Sp := fun vs H Q _ => ∃ (l r t f : Addr) (x : List Int) (a b : Int) (cs : List Nat) (y : Int × Int), vs = [V.ref l, V.ref r, V.ref t, V.ref f] ∧ LI H l x ∧ Con x ∧ x.sum < 2 ^ 600 ∧ LI H r (rowI cs) ∧ H t = some (.tup [.int a, .int b]) ∧ Lro x.length a b cs ∧ TQ H f y ∧ Shr y ∧ H Tc = some (TabO Tc) ∧ H T = some (TabO T) ∧ ∀ v H', Same H H' → Ans (gd x (lim x.length a b cs)) (x.sum * (lim x.length a b cs).sum) y (a ^ cs.length) (b ^ cs.length) v → Q v H'
theorem two_mul_lt {x y : Int} {m n : Nat} (x0 : 0 ≤ x) (y0 : 0 ≤ y) (hx : x < 2 ^ m) (hy : y < 2 ^ n) : x * y < 2 ^ (m + n) := by
  have h := absmul (abs_lt x0 hx) (abs_lt y0 hy)
  have e : (((x * y).natAbs : Nat) : Int) < ((2 ^ (m + n) : Nat) : Int) := Int.ofNat_lt.mpr h
  rw [Int.natAbs_of_nonneg (Int.mul_nonneg x0 y0)] at e
  have e2 : ((2 ^ (m + n) : Nat) : Int) = (2 : Int) ^ (m + n) := by rw [Int.natCast_pow]; rfl
  rwa [e2] at e
theorem lim_bot {x : List Int} {a b : Int} {cs : List Nat} (hx : Con x) (hz : x.sum < 2 ^ 600) (R : Lro x.length a b cs) : 0 < x.sum * (lim x.length a b cs).sum ∧ x.sum * (lim x.length a b cs).sum < 2 ^ 1020 :=
  ⟨Int.mul_pos hx.amt.pos R.con.amt.pos, two_mul_lt (Int.le_of_lt hx.amt.pos) (Int.le_of_lt R.con.amt.pos) hz R.small⟩





end
end K52
end

section
set_option Elab.async false
set_option linter.all false
set_option maxRecDepth 100000
set_option maxHeartbeats 4000000
namespace K52
open PySem PySem.Spec PyProof.Rows L2 GxR Gx Ma
section
variable {P : Program} {w : World} {K : PySem.W.Frag} {mg : Str → Option Value} {base : Heap}

theorem dp_ints {K : PySem.W.Frag} {H : Hp} : ∀ ns : List Int, DpAll K H (ns.map V.int) (ns.map PyData.int)
  | [] => .nil
  | n :: r => .cons (.int n) (dp_ints r)
theorem canLay_ints : ∀ ns : List Int, PyData.canLayAll0 (ns.map PyData.int) = true
  | [] => rfl
  | n :: r => by rw [List.map_cons, PyData.canLayAll0, canLay_ints r]; rfl
theorem depth_ints : ∀ ns : List Int, PyData.depthAll (ns.map PyData.int) ≤ 1
  | [] => by decide
  | n :: r => by
    have := depth_ints r
    simp only [List.map_cons, PyData.depthAll, PyData.depth]
    omega
theorem shaped_ints (ns : List Int) : SeqAt.shaped (.list (ns.map PyData.int)) = true := by
  have h1 := depth_ints ns
  unfold SeqAt.shaped
  rw [Bool.and_eq_true]
  refine ⟨canLay_ints ns, decide_eq_true ?_⟩
  rw [PyData.depth]
  omega
theorem dp_li {K : PySem.W.Frag} {H : Hp} {l : Addr} {ns : List Int} (h : LI H l ns) : Dp K H (.ref l) (.list (ns.map PyData.int)) := .lst (SqL.of h) (dp_ints ns)
theorem eqv_ints (ns : List Int) : PyData.eqv (.list (ns.map PyData.int)) (.list (ns.map PyData.int)) = true := SeqAt.eqv_refl _ (canLay_ints ns)

theorem sql_same {H H' : Hp} {a : Addr} {xs : List V} (h : SqL K H a xs) (e : Same H H') : SqL K H' a xs :=
  h.elim (fun h => .inl (h.elim (fun h => .inl (e _ _ h)) fun ⟨o, h⟩ => .inr ⟨o, e _ _ h⟩)) fun h => .inr h
theorem intsAll_of {B : Nat} : ∀ ns : List Int, (∀ n ∈ ns, n.natAbs < 2 ^ B) → intsAll B (ns.map PyData.int)
  | [], _ => trivial
  | n :: r, h => ⟨h n List.mem_cons_self, intsAll_of r fun m hm => h m (List.mem_cons_of_mem _ hm)⟩
theorem nodAll_ints : ∀ ns : List Int, nodAll (ns.map PyData.int) = 3 * ns.length
  | [] => rfl
  | n :: r => by
    have h1 : nod (PyData.int n) = 1 := by simp [nod]
    rw [List.map_cons, nodAll, nodAll_ints r, List.length_cons, h1]
    omega
theorem depth_li (ns : List Int) : (PyData.list (ns.map PyData.int)).depth ≤ 30 := by
  have := depth_ints ns
  rw [PyData.depth]
  omega
theorem nod_li {ns : List Int} {B : Nat} (h : ns.length ≤ 1000) (hB : B ≤ 1900) : (B + 1) * nod (.list (ns.map PyData.int)) ≤ 16777216 := by
  have e : nod (.list (ns.map PyData.int)) = 3 * ns.length + 3 := by rw [nod, nodAll_ints]
  rw [e]
  have h1 : (B + 1) * (3 * ns.length + 3) ≤ 1901 * 3003 := Nat.mul_le_mul (by omega) (by omega)
  omega

theorem cut_last (xs : List V) (y : V) : cutV (xs ++ [y]) none (some (-1)) = xs := by
  unfold cutV
  have e : (xs ++ [y]).length = xs.length + 1 := by rw [List.length_append]; rfl
  have e1 : HT.sIx (xs ++ [y]).length 0 none = 0 := rfl
  have e2 : HT.sIx (xs ++ [y]).length (xs ++ [y]).length (some (-1)) = xs.length := by
    unfold HT.sIx
    dsimp only
    rw [if_pos (by decide), e]
    omega
  rw [e1, e2, List.drop_zero, Nat.sub_zero, List.take_left']
  rfl

theorem sl_listK {X : Cx} {K : PySem.W.Frag} (e : X.K = K) : SlR X (rSlL K) := e ▸ sl_list
theorem dp_rows {K : PySem.W.Frag} {H : Hp} {v : Nat → List Int} : ∀ (ps : List Addr) (k : Nat), (∀ (i : Nat) (a : Addr), ps[i]? = some a → LI H a (v (k + i))) → DpAll K H (ps.map V.ref) ((List.range' k ps.length).map fun i => PyData.list ((v i).map PyData.int))
  | [], _, _ => .nil
  | a :: r, k, h => by
    rw [List.length_cons, List.range'_succ]
    refine .cons (dp_li (h 0 a rfl)) (dp_rows r (k + 1) fun i b hb => ?_)
    have := h (i + 1) b hb
    rw [show k + 1 + i = k + (i + 1) by omega]
    exact this
def datR (v : Nat → List Int) (n : Nat) : PyData := .list ((List.range' 0 n).map fun i => PyData.list ((v i).map PyData.int))
theorem Rows.dp {K : PySem.W.Frag} {H H' : Hp} {p : Addr} {ps : List Addr} {n : Nat} {v : Nat → List Int} (R : Rows H H' p ps n v) {H2 : Hp} (s : Same H' H2) : Dp K H2 (.ref p) (datR v n) := by
  unfold datR
  rw [← R.len]
  exact .lst (SqL.of (s _ _ R.at_)) (dp_rows ps 0 fun i a h => by rw [Nat.zero_add]; exact s _ _ (R.row i a h))
theorem canLay_rows (v : Nat → List Int) : ∀ l : List Nat, PyData.canLayAll0 (l.map fun i => PyData.list ((v i).map PyData.int)) = true
  | [] => rfl
  | i :: r => by
    have h1 : (PyData.list ((v i).map PyData.int)).canLay0 = true := canLay_ints (v i)
    rw [List.map_cons, PyData.canLayAll0, canLay_rows v r, h1]
    rfl
theorem depth_rows (v : Nat → List Int) : ∀ l : List Nat, PyData.depthAll (l.map fun i => PyData.list ((v i).map PyData.int)) ≤ 2
  | [] => by rw [List.map_nil, PyData.depthAll]; decide
  | i :: r => by
    have h1 := depth_rows v r
    have h2 := depth_ints (v i)
    simp only [List.map_cons, PyData.depthAll, PyData.depth]
    omega
theorem depth_dat (v : Nat → List Int) (n : Nat) : (datR v n).depth ≤ 30 := by
  have := depth_rows v (List.range' 0 n)
  unfold datR
  rw [PyData.depth]
  omega
theorem lay_dat (v : Nat → List Int) (n : Nat) : (datR v n).canLay0 = true := canLay_rows v _
theorem shaped_dat (v : Nat → List Int) (n : Nat) : SeqAt.shaped (datR v n) = true := by
  have h1 := depth_dat v n
  unfold SeqAt.shaped
  rw [Bool.and_eq_true]
  exact ⟨lay_dat v n, decide_eq_true (by omega)⟩
theorem eqv_dat (v : Nat → List Int) (n : Nat) : PyData.eqv (datR v n) (datR v n) = true := SeqAt.eqv_refl _ (lay_dat v n)
theorem ints_rows {B : Nat} {v : Nat → List Int} : ∀ l : List Nat, (∀ i ∈ l, ∀ n ∈ v i, n.natAbs < 2 ^ B) → intsAll B (l.map fun i => PyData.list ((v i).map PyData.int))
  | [], _ => trivial
  | i :: r, h => ⟨intsAll_of _ (h i List.mem_cons_self), ints_rows r fun j hj => h j (List.mem_cons_of_mem _ hj)⟩
theorem nod_ints (ns : List Int) : nod (.list (ns.map PyData.int)) = 3 * ns.length + 3 := by rw [nod, nodAll_ints]
theorem nodAll_rows {M : Nat} {v : Nat → List Int} : ∀ l : List Nat, (∀ i ∈ l, (v i).length ≤ M) → nodAll (l.map fun i => PyData.list ((v i).map PyData.int)) ≤ l.length * (3 * M + 5)
  | [], _ => Nat.zero_le _
  | i :: r, h => by
    have h1 := nodAll_rows r fun j hj => h j (List.mem_cons_of_mem _ hj)
    have h2 := h i List.mem_cons_self
    rw [List.map_cons, nodAll, nod_ints, List.length_cons, Nat.add_mul, Nat.one_mul]
    omega
theorem nod_dat {M n : Nat} {v : Nat → List Int} (h : ∀ i, i < n → (v i).length ≤ M) : nod (datR v n) ≤ n * (3 * M + 5) + 3 := by
  have := nodAll_rows (M := M) (v := v) (List.range' 0 n) fun i hi => h i (by rw [List.mem_range'_1] at hi; omega)
  rw [List.length_range'] at this
  unfold datR
  rw [nod]
  omega
/-- what repr asks of the rows of a walk -/
theorem ctn_bits {ns : List Int} {ks : List (Int × Int)} {cs : List Nat} (R : Rowy ns ks cs) (hz : ns.sum < 2 ^ 600) {i : Nat} (hi : i ≤ cs.length) : ∀ n ∈ ctn ns ks cs i, n.natAbs < 2 ^ 1020 := fun n hn => by
  have hc := ctn_con R i hi
  have h1 := hc.nn n hn
  have h2 := le_sum hc.nn hn
  have h3 := ctn_small R i hi hz
  exact abs_lt h1 (Int.lt_of_le_of_lt h2 h3)
theorem dat_ok {ns : List Int} {ks : List (Int × Int)} {cs : List Nat} (R : Rowy ns ks cs) (hz : ns.sum < 2 ^ 600) (h60 : cs.length ≤ 60) : intsP 1020 (datR (ctn ns ks cs) (cs.length + 1)) ∧ (1020 + 1) * nod (datR (ctn ns ks cs) (cs.length + 1)) ≤ 16777216 := by
  refine ⟨ints_rows _ fun i hi => ctn_bits R hz (by rw [List.mem_range'_1] at hi; omega), ?_⟩
  have h1 := nod_dat (M := 8) (n := cs.length + 1) (v := ctn ns ks cs) fun i hi => by rw [ctn_len]; exact R.con.le8
  have h2 : (cs.length + 1) * (3 * 8 + 5) ≤ 61 * 29 := Nat.mul_le_mul (by omega) (by omega)
  have h3 : nod (datR (ctn ns ks cs) (cs.length + 1)) ≤ 1772 := by omega
  exact Nat.le_trans (Nat.mul_le_mul_left _ h3) (by decide)
theorem con_bits {ns : List Int} (hc : Con ns) (hz : ns.sum < 2 ^ 1020) : intsP 1020 (.list (ns.map PyData.int)) ∧ (1020 + 1) * nod (.list (ns.map PyData.int)) ≤ 16777216 := by
  refine ⟨intsAll_of _ fun n hn => abs_lt (hc.nn n hn) (Int.lt_of_le_of_lt (le_sum hc.nn hn) hz), ?_⟩
  have h8 := hc.le8
  have h3 : nod (.list (ns.map PyData.int)) ≤ 27 := by rw [nod_ints]; omega
  exact Nat.le_trans (Nat.mul_le_mul_left _ h3) (by decide)
def two (ns ms : List Int) : PyData := .list [.list (ns.map PyData.int), .list (ms.map PyData.int)]
theorem rowI_len (cs : List Nat) : (rowI cs).length = cs.length := by unfold rowI; rw [List.length_map]
theorem two_ok {ns : List Int} {cs : List Nat} {k : Nat} (hc : Con ns) (hz : ns.sum < 2 ^ 1020) (h60 : cs.length ≤ 60) (hk : k ≤ 8) (hcs : ∀ c ∈ cs, c < k) : intsP 1020 (two ns (rowI cs)) ∧ (1020 + 1) * nod (two ns (rowI cs)) ≤ 16777216 ∧ (two ns (rowI cs)).depth ≤ 30 := by
  refine ⟨⟨(con_bits hc hz).1, intsAll_of _ fun n hn => ?_, trivial⟩, ?_, ?_⟩
  · obtain ⟨m, hm, e⟩ := List.mem_map.mp hn
    have e2 : (m : Int) = n := e
    have := hcs m hm
    rw [← e2, Int.natAbs_natCast]
    exact Nat.lt_of_lt_of_le (show m < 2 ^ 3 by omega) (Nat.pow_le_pow_right (by decide) (by decide))
  · have h8 := hc.le8
    have e : nod (two ns (rowI cs)) = (3 * ns.length + 3) + 2 + ((3 * cs.length + 3) + 2 + 0) + 3 := by
      unfold two
      rw [nod, nodAll, nodAll, nodAll, nod_ints, nod_ints, rowI_len]
    have h3 : nod (two ns (rowI cs)) ≤ 300 := by omega
    exact Nat.le_trans (Nat.mul_le_mul_left _ h3) (by decide)
  · have h1 := depth_ints ns
    have h2 := depth_ints (rowI cs)
    unfold two
    simp only [PyData.depth, PyData.depthAll]
    omega
theorem dp_two {K : PySem.W.Frag} {H : Hp} {o l r : Addr} {ns ms : List Int} (ho : H o = some (.lst [.ref l, .ref r])) (hl : LI H l ns) (hr2 : LI H r ms) : Dp K H (.ref o) (two ns ms) := .lst (SqL.of ho) (.cons (dp_li hl) (.cons (dp_li hr2) .nil))

theorem cut_take (xs : List V) (i : Nat) : cutV xs none (some (i : Int)) = xs.take i := by
  unfold cutV
  have e1 : HT.sIx xs.length 0 none = 0 := rfl
  have e2 : HT.sIx xs.length xs.length (some (i : Int)) = min i xs.length := by
    unfold HT.sIx
    dsimp only
    rw [if_neg (by omega)]
    omega
  rw [e1, e2, List.drop_zero, Nat.sub_zero]
  by_cases h : i ≤ xs.length
  · rw [Nat.min_eq_left h]
  · rw [Nat.min_eq_right (by omega), List.take_length, List.take_of_length_le (by omega)]

def But (j : Addr) (H H' : Hp) : Prop := ∀ x o, x ≠ j → H x = some o → H' x = some o
theorem But.trans {j : Addr} {H H1 H2 : Hp} (a : But j H H1) (b : But j H1 H2) : But j H H2 := fun x o n h => b x o n (a x o n h)
theorem But.of {j : Addr} {H H' : Hp} (e : Same H H') : But j H H' := fun x o _ h => e x o h
theorem But.put (j : Addr) (H : Hp) (o : HO) : But j H (L2.upd H j o) := fun x o' n h => by rw [upd_ne n]; exact h
theorem But.same2 {j : Addr} {H0 H H' : Hp} (e : But j H H') (s : Same H0 H) (h : H0 j = none) : Same H0 H' := fun x o q => e x o (ne_of_none q h) (s x o q)
def Fre (H H' : Hp) : Prop := ∀ x, H' x = none → H x = none
theorem Fre.put {j : Addr} {H : Hp} {o : HO} : Fre H (L2.upd H j o) := fun x h => by
  by_cases e : x = j
  · rw [e, upd_same] at h
    cases h
  · rw [upd_ne e] at h
    exact h
theorem Fre.trans {H H1 H2 : Hp} (a : Fre H H1) (b : Fre H1 H2) : Fre H H2 := fun x h => a x (b x h)
theorem Fre.of {H H' : Hp} (e : Same H H') : Fre H H' := fun _ h => e.free h
/-- the bag of draws: its cells, the place, the digits, the stirred number, the count -/
def Bg (H : Hp) (b c : Addr) (n : Nat) : Prop := ∃ (xs : List Int) (i d st k : Int), H b = some (.lst [.ref c, .int i, .int d, .int st, .int k]) ∧ LI H c xs ∧ (∀ x ∈ xs, 0 ≤ x ∧ x < 2 ^ 2100) ∧ xs.length ≤ 63 ∧ 0 ≤ i ∧ 0 ≤ d ∧ d < 2 ^ 2100 ∧ 0 ≤ st ∧ st < 2147483647 ∧ 0 ≤ k ∧ k ≤ n
theorem Bg.le {H : Hp} {b c : Addr} {n m : Nat} (h : Bg H b c n) (hn : n ≤ m) : Bg H b c m := let ⟨xs, i, d, st, k, a1, a2, a3, a4, a5, a6, a7, a8, a9, a10, a11⟩ := h; ⟨xs, i, d, st, k, a1, a2, a3, a4, a5, a6, a7, a8, a9, a10, by omega⟩
theorem Bg.keep {H H' : Hp} {b c : Addr} {n : Nat} (h : Bg H b c n) (e : Same H H') : Bg H' b c n := let ⟨xs, i, d, st, k, a1, a2, a3⟩ := h; ⟨xs, i, d, st, k, e _ _ a1, e _ _ a2, a3⟩
theorem Bg.ne {H : Hp} {b c p : Addr} {n : Nat} (h : Bg H b c n) (hp : H p = none) : p ≠ b := fun z => by
  obtain ⟨_, _, _, _, _, q, _⟩ := h
  rw [z, q] at hp
  cases hp
theorem Bg.tupne {H : Hp} {b c T : Addr} {n : Nat} {xs : List V} (h : Bg H b c n) (e : H T = some (.tup xs)) : T ≠ b := fun z => by
  obtain ⟨_, _, _, _, _, q, _⟩ := h
  rw [z, q] at e
  cases e
theorem Bg.tab {H : Hp} {b c T : Addr} {n : Nat} (h : Bg H b c n) (e : H T = some (TabO T)) : T ≠ b := fun z => by
  obtain ⟨_, _, _, _, _, q, _⟩ := h
  rw [z, q] at e
  cases e
theorem Bg.liN {H : Hp} {b c T : Addr} {n : Nat} {ns : List Int} (h : Bg H b c n) (e : LI H T ns) : T ≠ b := fun z => by
  obtain ⟨_, _, _, _, _, q, _⟩ := h
  have e2 : H T = _ := e
  rw [z, q] at e2
  cases ns with
  | nil => cases e2
  | cons c r => cases e2
theorem cellne {H : Hp} {b c : Addr} {xs : List Int} {r : List V} (h : H b = some (.lst (.ref c :: r))) (e : LI H c xs) : c ≠ b := fun z => by
  have e2 : H c = _ := e
  rw [z] at e2 h
  rw [h] at e2
  cases xs with
  | nil => cases e2
  | cons c r => cases e2
theorem pw {i j : Int} (b : Nat) (h0 : 0 ≤ j) (h : i.natAbs < 2 ^ b) (hb : 0 < b) (hm : (b : Int) * j ≤ 134217728) : CPowW i j := ⟨h0, b, h, hb, hm⟩
theorem bits_le {i : Int} {b : Nat} (hb : i.natAbs < 2 ^ b) (b0 : 0 < b) : Builtin.Int.intBits i ≤ b := by
  unfold Builtin.Int.intBits
  split
  · omega
  · have := PySem.Flt.log2_lt_of b0 hb
    omega
def sp_bag (K : PySem.W.Frag) : Sp := fun vs H Q _ => ∃ (s : Addr) (ns : List Int), vs = [V.ref s] ∧ SqL K H s (ns.map V.int) ∧ ns.length ≤ 63 ∧ ∀ b c H', Same H H' → H b = none → Bg H' b c 0 → Q (.ref b) H'
def sp_stirred : Sp := fun vs H Q _ => ∃ (b c : Addr) (w : Int) (n : Nat), vs = [V.ref b, V.int w] ∧ Bg H b c n ∧ n ≤ 1000000 ∧ 1 ≤ w ∧ w < 2 ^ 600 ∧ ∀ d H', But b H H' → Fre H H' → Bg H' b c (n + 30) → 0 ≤ d → d < w → Q (.int d) H'
def sp_draw : Sp := fun vs H Q _ => ∃ (b c : Addr) (w : Int) (n : Nat), vs = [V.ref b, V.int w] ∧ Bg H b c n ∧ n ≤ 1000000 ∧ 1 ≤ w ∧ w < 2 ^ 600 ∧ ∀ d H', But b H H' → Fre H H' → Bg H' b c (n + 30) → 0 ≤ d → d < w → Q (.int d) H'
def sp_common : Sp := fun vs H Q _ => ∃ a b : Nat, vs = [V.int a, V.int b] ∧ Q (.int ((Nat.gcd a b : Nat) : Int)) H
theorem big600 : (0 : Int) < (10 ^ (60 : Int).toNat) ^ (10 : Int).toNat := by decide +kernel
theorem big600' : ((10 : Int) ^ (60 : Int).toNat) ^ (10 : Int).toNat < 2 ^ 2100 := by decide +kernel
theorem big60 : ((10 : Int) ^ (60 : Int).toNat).natAbs < 2 ^ 200 := by decide +kernel

theorem ok__law_bag {f : Addr} {fd : FuncData}  (F : Fun K "_law_bag" "_law_bag" s__law_bag f fd) (B : Bl mg)  : FnOk P w K mg base CX0 1 f fd ["script"] (sp_bag K) := by
  refine F.ok sc__law_bag (fun vs H Q E h => ?_) (fun cdv A outer s H vs Q E hr h => ?_)
  · obtain ⟨s0, ns, rfl, _⟩ := h; rfl
  · obtain ⟨s0, ns, rfl, hs, h63, q⟩ := h
    have nd := sc__law_bag.nd
    refine ⟨_, (pss_cons (ps_set (i := 1) nd rfl (Or.inl rfl) pe_int)
      (pss_cons (ps_for PassesOwn.never rfl (pi_list (pe_slice sl_list (pv 0) po_none (po_some pe_int))) (pg_name (i := 2) nd rfl (Or.inl rfl)) (pss_one (ps_set (i := 1) nd rfl (Or.inl rfl) (pe_op op_mod (pe_callTy call_int1 (by rfl) B.int (by decide +kernel) (pa_cons (pe_op op_add (pe_op op_add (pe_op op_mulW (pv 1) pe_int) (pe_op op_mod (pe_callTy call_int1 (by rfl) B.int (by decide +kernel) (pa_cons (pv 2) pa_nil)) pe_int)) pe_int) pa_nil)) pe_int))))
      (pss_one (ps_ret (pe_lst (pa_cons (pe_lc (own := [("cell", 2)]) (g := gName 2) rfl nd (pi_list (pe_slice sl_list (pv 0) po_none (po_some pe_int))) (blkOk_by (own := [("cell", 2)]) (N := ["script", "stir", "cell"]) (sc := defScope s__law_bag) (by decide +kernel)) (fun _ _ _ _ _ => (pg_name (i := 2) nd rfl (Or.inl rfl))) (fun _ _ _ _ _ => pts_nil) (fun _ _ _ _ _ => (pe_op op_mod (pe_callTy call_int1 (by rfl) B.int (by decide +kernel) (pa_cons (pe_callB call_abs (by rfl) B.abs (by decide +kernel) (pa_cons (pv 2) pa_nil)) pa_nil)) (pe_op op_powW (pe_op op_powW pe_int pe_int) pe_int)))) (pa_cons pe_int (pa_cons pe_int (pa_cons (pv 1) (pa_cons pe_int pa_nil)))))))))), ?_⟩
    refine ⟨.ref s0, rfl, 63, rfl, s0, _, rfl, hs, fun u nu => ?_⟩
    rw [show (63 : Int) = ((63 : Nat) : Int) from rfl, cut_take, List.take_of_length_le (by rw [List.length_map]; exact h63)]
    have s1 := sameN (o := .lst (ns.map V.int)) nu
    have hu : L2.upd H u (.lst (ns.map V.int)) u = some (.lst (ns.map V.int)) := upd_same
    generalize L2.upd H u (.lst (ns.map V.int)) = H1 at *
    refine ⟨u, rfl, ⟨_, SqL.of hu⟩, for_list (xs := ns.map V.int) (fun i σ H' => ∃ st y, σ = [some (.ref s0), some (.int st), y] ∧ H' = H1 ∧ 0 ≤ st ∧ st < 2147483647) ⟨151, none, rfl, rfl, by decide, by decide⟩ (fun i σ H' _ ⟨_, _, _, e, _⟩ => by rw [e]; exact SqL.of hu) (fun i x σ H' hx ⟨st, y, e0, e1, g0, g1⟩ => ?_) (fun σ H' ⟨st, y, e0, e1, g0, g1⟩ => ?_)⟩
    · subst e0 e1
      obtain ⟨n, hn, rfl⟩ := map_get hx
      refine ⟨.int st, rfl, st, 48271, rfl, rfl, wide_mul (a := 31) (b := 16) (abs_lt g0 (by omega)) (by decide) (by decide) (by decide) (by decide), .int n, rfl, .inl ⟨n, rfl, n, 2147483629, rfl, rfl, by show (0 : Int) < 2147483629; decide, _, _, rfl, rfl, _, 1, rfl, rfl, .inl ⟨_, rfl, _, 2147483647, rfl, rfl, by show (0 : Int) < 2147483647; decide, _, _, rfl, rfl, Int.emod_nonneg _ (by decide), Int.emod_lt_of_pos _ (by decide)⟩⟩⟩
    · subst e0 e1
      refine ⟨.ref s0, rfl, 63, rfl, s0, _, rfl, sql_same hs s1, fun u2 nu2 => ?_⟩
      rw [show (63 : Int) = ((63 : Nat) : Int) from rfl, cut_take, List.take_of_length_le (by rw [List.length_map]; exact h63)]
      have s2 := sameN (o := .lst (ns.map V.int)) nu2
      have hu2 : L2.upd H' u2 (.lst (ns.map V.int)) u2 = some (.lst (ns.map V.int)) := upd_same
      generalize L2.upd H' u2 (.lst (ns.map V.int)) = H2 at *
      refine ⟨u2, rfl, ⟨_, SqL.of hu2⟩, fun D hD => lc_list (xs := ns.map V.int) (fun i H' => ∃ xs : List Int, xs.length = i ∧ Same H2 H' ∧ LI H' D xs ∧ ∀ x ∈ xs, 0 ≤ x ∧ x < 2 ^ 2100) ⟨[], rfl, same_new hD, upd_same, fun x h => by cases h⟩ (fun i H' _ ⟨_, _, e, _⟩ => SqL.of (e _ _ hu2)) (fun i x H' hx ⟨xs, e1, e2, e3, e4⟩ => ?_) (fun H' ⟨xs, e1, e2, e3, e4⟩ => ?_)⟩
      · obtain ⟨n, hn, rfl⟩ := map_get hx
        have hi := (List.getElem?_eq_some_iff.mp hn).1
        refine ⟨rfl, .int n, rfl, n, rfl, .inl ⟨_, rfl, 10, 60, rfl, rfl, pw 4 (by decide) (by decide) (by decide) (by decide), _, 10, rfl, rfl, pw 200 (by decide) big60 (by decide) (by decide), _, _, rfl, rfl, big600, _, e3, ?_, xs ++ [(if n < 0 then -n else n) % ((10 ^ (60 : Int).toNat) ^ (10 : Int).toNat)], ?_, fun b x hb => ?_, ?_, fun x hx => ?_⟩⟩
        · rw [List.length_map, e1]
          show i < 16777216
          omega
        · rw [List.length_append, e1]
          rfl
        · rw [upd_ne (ne_of_none hb hD)]
          exact e2 b x hb
        · show L2.upd H' D _ D = _
          rw [upd_same, List.map_append]
          rfl
        · rcases List.mem_append.mp hx with h | h
          · exact e4 x h
          · rw [List.mem_singleton.mp h]
            have := Int.emod_lt_of_pos (if n < 0 then -n else n) big600
            have := big600'
            exact ⟨Int.emod_nonneg _ (Int.ne_of_gt big600), by omega⟩
      · rw [List.length_map] at e1
        refine ⟨.int st, rfl, by show 5 ≤ 16777216; decide, fun b nb => ?_⟩
        have sb := sameN (o := .lst [.ref D, .int 0, .int 0, .int st, .int 0]) nb
        exact q b D _ ((s1.trans (s2.trans e2)).trans sb) ((s1.trans (s2.trans e2)).free nb) ⟨xs, 0, 0, st, 0, upd_same, sb _ _ e3, e4, by omega, by decide, by decide, by decide +kernel, g0, g1, by decide, by decide⟩

theorem ok__law_stirred {f : Addr} {fd : FuncData}  (F : Fun K "_law_stirred" "_law_stirred" s__law_stirred f fd) (B : Bl mg)  : FnOk P w K mg base CX0 1 f fd ["bag", "wide"] (sp_stirred) := by
  refine F.ok sc__law_stirred (fun vs H Q E h => ?_) (fun cdv A outer s H vs Q E hr h => ?_)
  · obtain ⟨b, c, wv, n, rfl, _⟩ := h; rfl
  · obtain ⟨b, c, wv, n, rfl, hb, hn, w1, w2, q⟩ := h
    have nd := sc__law_stirred.nd
    refine ⟨_, (pss_cons (ps_set (i := 2) nd rfl (Or.inl rfl) pe_int)
      (pss_cons (ps_for PassesOwn.never rfl (pi_range1 rfl B.range (pa_cons (pe_op op_add pe_int (pe_op op_fdivW (pe_bits (pv 1)) pe_int)) pa_nil)) (pg_name (i := 3) nd rfl (Or.inl rfl)) (pss_cons (ps_asg (pe_op op_add (pe_ix ix_list (pv 0) pe_int (fun _ _ => rfl)) pe_int) (pg_sub (pv 0) pe_int set_list))
      (pss_cons (ps_set (i := 4) nd rfl (Or.inl rfl) (pe_op op_add (pe_op op_add (pe_op op_add (pe_op op_powW (pe_ix ix_list (pv 0) pe_int (fun _ _ => rfl)) pe_int) (pe_op op_mulW pe_int (pe_ix ix_list (pv 0) pe_int (fun _ _ => rfl)))) (pe_op op_mulW pe_int (pe_ix ix_list (pv 0) pe_int (fun _ _ => rfl)))) pe_int))
      (pss_cons (ps_asg (pe_op op_mod (pe_callTy call_int1 (by rfl) B.int (by decide +kernel) (pa_cons (pv 4) pa_nil)) pe_int) (pg_sub (pv 0) pe_int set_list))
      (pss_one (ps_set (i := 2) nd rfl (Or.inl rfl) (pe_op op_add (pe_op op_mulW (pv 2) pe_int) (pe_op op_fdivW (pe_ix ix_list (pv 0) pe_int (fun _ _ => rfl)) pe_int))))))))
      (pss_one (ps_ret (pe_op op_mod (pe_callTy call_int1 (by rfl) B.int (by decide +kernel) (pa_cons (pv 2) pa_nil)) (pv 1)))))), ?_⟩
    have hbits := bits_le (abs_lt (show 0 ≤ wv by omega) w2) (by decide : 0 < 600)
    have hcnt : (Builtin.Int.intBits wv : Int) / 27 ≤ 22 := by omega
    refine ⟨.int wv, rfl, wv, rfl, _, 27, rfl, rfl, wide_div (b := 5) (by decide) (by decide) (by decide) (by decide), 1, _, rfl, rfl, _, rfl, by omega, by omega, ?_⟩
    generalize hm : (1 + (Builtin.Int.intBits wv : Int) / 27).toNat = m
    have hm23 : m ≤ 23 := by omega
    refine for_range (lo := 0) (n := m) (fun i σ H' => ∃ f y3 y4, σ = [some (.ref b), some (.int wv), some (.int f), y3, y4] ∧ But b H H' ∧ Fre H H' ∧ Bg H' b c (n + i) ∧ 0 ≤ f ∧ f < 2 ^ (27 * i + 1)) ⟨0, none, none, rfl, fun _ _ _ h => h, fun _ h => h, hb, by decide, by decide⟩ (fun i σ H' hi ⟨f, y3, y4, e0, e1, e2, e3, e4, e5⟩ => ?_) (fun σ H' ⟨f, y3, y4, e0, e1, e2, e3, e4, e5⟩ => ?_)
    · subst e0
      obtain ⟨xs, ix, d, st, k, g1, g2, g3, g4, g5, g6, g7, g8, g9, g10, g11⟩ := e3
      have hcb := cellne g1 g2
      refine ⟨.ref b, rfl, b, _, 4, .int k, rfl, rfl, SqL.of g1, rfl, k, 1, rfl, rfl, .ref b, rfl, b, _, 4, 4, rfl, rfl, g1, rfl, ?_⟩
      have b1 := But.put b H' (.lst [.ref c, .int ix, .int d, .int st, .int (k + 1)])
      have f1 := Fre.put (j := b) (H := H') (o := .lst [.ref c, .int ix, .int d, .int st, .int (k + 1)])
      have h1 : L2.upd H' b (.lst [.ref c, .int ix, .int d, .int st, .int (k + 1)]) b = some (.lst [.ref c, .int ix, .int d, .int st, .int (k + 1)]) := upd_same
      have eset : ([.ref c, .int ix, .int d, .int st, .int k] : List V).set 4 (.int (k + 1)) = [.ref c, .int ix, .int d, .int st, .int (k + 1)] := rfl
      rw [eset]
      generalize L2.upd H' b (.lst [.ref c, .int ix, .int d, .int st, .int (k + 1)]) = H1 at *
      have g21 := b1 _ _ hcb g2
      have zst : st.natAbs < 2 ^ 31 := abs_lt g8 (by omega)
      refine ⟨.ref b, rfl, b, _, 3, .int st, rfl, rfl, SqL.of h1, rfl, st, 3, rfl, rfl, pw 31 (by decide) zst (by decide) (by decide), .ref b, rfl, b, _, 3, .int st, rfl, rfl, SqL.of h1, rfl, 69621, st, rfl, rfl, wide_mul (a := 17) (b := 31) (by decide) zst (by decide) (by decide) (by decide), _, _, rfl, rfl, .ref b, rfl, b, _, 4, .int (k + 1), rfl, rfl, SqL.of h1, rfl, 1031, k + 1, rfl, rfl, wide_mul (a := 11) (b := 30) (by decide) (abs_lt (by omega) (by omega)) (by decide) (by decide) (by decide), _, _, rfl, rfl, _, 1, rfl, rfl, ?_⟩
      generalize hmx : st ^ (3 : Int).toNat + 69621 * st + 1031 * (k + 1) + 1 = mx
      have t0 : 0 ≤ mx % 2147483647 := Int.emod_nonneg _ (by decide)
      have t1 : mx % 2147483647 < 2147483647 := Int.emod_lt_of_pos _ (by decide)
      refine ⟨.int mx, by rw [← hmx]; rfl, .inl ⟨mx, rfl, mx, 2147483647, rfl, rfl, by show (0 : Int) < 2147483647; decide, .ref b, rfl, b, _, 3, 3, rfl, rfl, h1, rfl, ?_⟩⟩
      have b2 := But.put b H1 (.lst [.ref c, .int ix, .int d, .int (mx % 2147483647), .int (k + 1)])
      have f2 := Fre.put (j := b) (H := H1) (o := .lst [.ref c, .int ix, .int d, .int (mx % 2147483647), .int (k + 1)])
      have h2 : L2.upd H1 b (.lst [.ref c, .int ix, .int d, .int (mx % 2147483647), .int (k + 1)]) b = some (.lst [.ref c, .int ix, .int d, .int (mx % 2147483647), .int (k + 1)]) := upd_same
      have eset2 : ([.ref c, .int ix, .int d, .int st, .int (k + 1)] : List V).set 3 (.int (mx % 2147483647)) = [.ref c, .int ix, .int d, .int (mx % 2147483647), .int (k + 1)] := rfl
      rw [eset2]
      generalize L2.upd H1 b (.lst [.ref c, .int ix, .int d, .int (mx % 2147483647), .int (k + 1)]) = H2 at *
      have g22 := b2 _ _ hcb g21
      refine ⟨.int f, rfl, f, 134217728, rfl, rfl, wide_mul (a := 27 * i + 1) (b := 28) (abs_lt e4 e5) (by decide) (by omega) (by decide) (by omega), .ref b, rfl, b, _, 3, .int (mx % 2147483647), rfl, rfl, SqL.of h2, rfl, _, 16, rfl, rfl, wide_div (b := 5) (by decide) (by decide) (by decide) (by decide), _, _, rfl, rfl, ?_⟩
      refine ⟨_, _, _, rfl, (e1.trans b1).trans b2, (e2.trans f1).trans f2, ⟨xs, ix, d, _, k + 1, h2, g22, g3, g4, g5, g6, g7, t0, t1, by omega, by omega⟩, by omega, ?_⟩
      have e6 : (2 : Int) ^ (27 * (i + 1) + 1) = 134217728 * 2 ^ (27 * i + 1) := by
        rw [show 27 * (i + 1) + 1 = 27 + (27 * i + 1) by omega, Int.pow_add]
        rfl
      rw [e6]
      omega
    · subst e0
      exact ⟨.int f, rfl, .inl ⟨f, rfl, .int wv, rfl, f, wv, rfl, rfl, by show 0 < wv; omega, q _ H' e1 e2 (e3.le (by omega)) (Int.emod_nonneg _ (by omega)) (Int.emod_lt_of_pos _ (by omega))⟩⟩

theorem ok__law_draw {f : Addr} {fd : FuncData}  (F : Fun K "_law_draw" "_law_draw" s__law_draw f fd) (B : Bl mg) (C__law_stirred : Cal P w K mg base 1 "_law_stirred" ["bag", "wide"] sp_stirred) : FnOk P w K mg base CX0 2 f fd ["bag", "wide"] (sp_draw) := by
  refine F.ok sc__law_draw (fun vs H Q E h => ?_) (fun cdv A outer s H vs Q E hr h => ?_)
  · obtain ⟨b, c, wv, n, rfl, _⟩ := h; rfl
  · obtain ⟨b, c, wv, n, rfl, hb, hn, w1, w2, q⟩ := h
    have hb0 := hb
    obtain ⟨xs, ix, d, st, k, g1, g2, g3, g4, g5, g6, g7, g8, g9, g10, g11⟩ := hb
    have hcb := cellne g1 g2
    have nd := sc__law_draw.nd
    refine ⟨_, (pss_cons (ps_if (PW.pt (pw_and (pt_cmpR op_eq (pe_ix ix_list (pv 0) pe_int (fun _ _ => rfl)) pe_int (nomark _)) (pw_and1 (pt_cmpR op_lt (pe_ix ix_list (pv 0) pe_int (fun _ _ => rfl)) (pe_callB call_len_seq (by rfl) B.len PySem.boot_len (pa_cons (pe_ix ix_list (pv 0) pe_int (fun _ _ => rfl)) pa_nil)) (nomark _)))))
      (pss_cons (ps_asg (pe_ix ix_list (pe_ix ix_list (pv 0) pe_int (fun _ _ => rfl)) (pe_ix ix_list (pv 0) pe_int (fun _ _ => rfl)) (fun _ _ => rfl)) (pg_sub (pv 0) pe_int set_list))
      (pss_one (ps_asg (pe_op op_add (pe_ix ix_list (pv 0) pe_int (fun _ _ => rfl)) pe_int) (pg_sub (pv 0) pe_int set_list)))) (pss_one (ps_if (pt_cmpR op_eq (pe_ix ix_list (pv 0) pe_int (fun _ _ => rfl)) pe_int (nomark _))
      (pss_one (ps_ret (pe_cal C__law_stirred (hr.mono (by decide)) (pa_cons (pv 0) (pa_cons (pv 1) pa_nil))))) pss_nil)))
      (pss_cons (ps_set (i := 2) nd rfl (Or.inl rfl) (pe_op op_mod (pe_callTy call_int1 (by rfl) B.int (by decide +kernel) (pa_cons (pe_ix ix_list (pv 0) pe_int (fun _ _ => rfl)) pa_nil)) (pv 1)))
      (pss_cons (ps_asg (pe_op op_fdivW (pe_ix ix_list (pv 0) pe_int (fun _ _ => rfl)) (pv 1)) (pg_sub (pv 0) pe_int set_list))
      (pss_one (ps_ret (pv 2)))))), ?_⟩
    refine ⟨.ref b, rfl, b, _, 2, .int d, rfl, rfl, SqL.of g1, rfl, rfl, _, rfl, ?_⟩
    rw [dec_int]
    refine ite2 (fun gd => ?_) (fun gd => ?_)
    · have d0 : d = 0 := of_decide_eq_true gd
      refine ⟨.ref b, rfl, b, _, 1, .int ix, rfl, rfl, SqL.of g1, rfl, .ref b, rfl, b, _, 0, .ref c, rfl, rfl, SqL.of g1, rfl, c, _, rfl, .inl (SqL.of g2), _, _, rfl, rfl, _, rfl, ?_⟩
      refine ite2 (fun gi => ?_) (fun gi => ?_)
      · obtain ⟨ixn, rfl⟩ := Int.eq_ofNat_of_zero_le g5
        have hix : ixn < xs.length := by
          have := of_decide_eq_true gi
          rw [List.length_map] at this
          omega
        have hg := get_map (List.getElem?_eq_getElem hix)
        obtain ⟨x0, x1⟩ := g3 _ (List.getElem_mem hix)
        generalize xs[ixn] = cell at *
        refine ⟨.ref b, rfl, b, _, 0, .ref c, rfl, rfl, SqL.of g1, rfl, .ref b, rfl, b, _, 1, .int (ixn : Int), rfl, rfl, SqL.of g1, rfl, c, _, ixn, .int cell, rfl, rfl, SqL.of g2, atI_nat hg, .ref b, rfl, b, _, 2, 2, rfl, rfl, g1, rfl, ?_⟩
        have b1 := But.put b H (.lst [.ref c, .int (ixn : Int), .int cell, .int st, .int k])
        have f1 := Fre.put (j := b) (H := H) (o := .lst [.ref c, .int (ixn : Int), .int cell, .int st, .int k])
        have h1 : L2.upd H b (.lst [.ref c, .int (ixn : Int), .int cell, .int st, .int k]) b = some (.lst [.ref c, .int (ixn : Int), .int cell, .int st, .int k]) := upd_same
        have eset : ([.ref c, .int (ixn : Int), .int d, .int st, .int k] : List V).set 2 (.int cell) = [.ref c, .int (ixn : Int), .int cell, .int st, .int k] := rfl
        rw [eset]
        generalize L2.upd H b (.lst [.ref c, .int (ixn : Int), .int cell, .int st, .int k]) = H1 at *
        have g21 := b1 _ _ hcb g2
        refine ⟨.ref b, rfl, b, _, 1, .int (ixn : Int), rfl, rfl, SqL.of h1, rfl, _, 1, rfl, rfl, .ref b, rfl, b, _, 1, 1, rfl, rfl, h1, rfl, ?_⟩
        have b2 := But.put b H1 (.lst [.ref c, .int ((ixn : Int) + 1), .int cell, .int st, .int k])
        have f2 := Fre.put (j := b) (H := H1) (o := .lst [.ref c, .int ((ixn : Int) + 1), .int cell, .int st, .int k])
        have h2 : L2.upd H1 b (.lst [.ref c, .int ((ixn : Int) + 1), .int cell, .int st, .int k]) b = some (.lst [.ref c, .int ((ixn : Int) + 1), .int cell, .int st, .int k]) := upd_same
        have eset2 : ([.ref c, .int (ixn : Int), .int cell, .int st, .int k] : List V).set 1 (.int ((ixn : Int) + 1)) = [.ref c, .int ((ixn : Int) + 1), .int cell, .int st, .int k] := rfl
        rw [eset2]
        generalize L2.upd H1 b (.lst [.ref c, .int ((ixn : Int) + 1), .int cell, .int st, .int k]) = H2 at *
        have g22 := b2 _ _ hcb g21
        refine ⟨.ref b, rfl, b, _, 2, .int cell, rfl, rfl, SqL.of h2, rfl, .inl ⟨cell, rfl, .int wv, rfl, cell, wv, rfl, rfl, by show 0 < wv; omega, ?_⟩⟩
        have z1 : 0 ≤ cell / wv := Int.ediv_nonneg x0 (by omega)
        have z2 : cell / wv ≤ cell := Int.ediv_le_self _ x0
        refine ⟨.ref b, rfl, b, _, 2, .int cell, rfl, rfl, SqL.of h2, rfl, .int wv, rfl, cell, wv, rfl, rfl, wide_div (b := 600) (by omega) (abs_lt (by omega) w2) (by decide) (by decide), .ref b, rfl, b, _, 2, 2, rfl, rfl, h2, rfl, ?_⟩
        have b9 := But.put b H2 (.lst [.ref c, .int ((ixn : Int) + 1), .int (cell / wv), .int st, .int k])
        have f9 := Fre.put (j := b) (H := H2) (o := .lst [.ref c, .int ((ixn : Int) + 1), .int (cell / wv), .int st, .int k])
        refine ⟨.int (cell % wv), rfl, q (cell % wv) _ ((b1.trans b2).trans b9) ((f1.trans f2).trans f9) ⟨xs, ((ixn : Int) + 1), cell / wv, st, k, upd_same, b9 _ _ hcb g22, g3, g4, by omega, z1, by omega, g8, g9, g10, by omega⟩ (Int.emod_nonneg _ (by omega)) (Int.emod_lt_of_pos _ (by omega))⟩
      · refine ⟨.ref b, rfl, b, _, 2, .int d, rfl, rfl, SqL.of g1, rfl, rfl, _, rfl, ?_⟩
        rw [dec_int, gd]
        refine iteT ⟨.ref b, rfl, .int wv, rfl, b, c, wv, n, rfl, hb0, hn, w1, w2, q⟩
    · refine ⟨.ref b, rfl, b, _, 2, .int d, rfl, rfl, SqL.of g1, rfl, rfl, _, rfl, ?_⟩
      rw [dec_int, show decide (d = 0) = false by cases h : decide (d = 0) with | false => rfl | true => exact absurd h gd]
      refine iteF ?_
      refine ⟨.ref b, rfl, b, _, 2, .int d, rfl, rfl, SqL.of g1, rfl, .inl ⟨d, rfl, .int wv, rfl, d, wv, rfl, rfl, by show 0 < wv; omega, ?_⟩⟩
      have z1 : 0 ≤ d / wv := Int.ediv_nonneg g6 (by omega)
      have z2 : d / wv ≤ d := Int.ediv_le_self _ g6
      refine ⟨.ref b, rfl, b, _, 2, .int d, rfl, rfl, SqL.of g1, rfl, .int wv, rfl, d, wv, rfl, rfl, wide_div (b := 600) (by omega) (abs_lt (by omega) w2) (by decide) (by decide), .ref b, rfl, b, _, 2, 2, rfl, rfl, g1, rfl, ?_⟩
      have b9 := But.put b H (.lst [.ref c, .int ix, .int (d / wv), .int st, .int k])
      have f9 := Fre.put (j := b) (H := H) (o := .lst [.ref c, .int ix, .int (d / wv), .int st, .int k])
      refine ⟨.int (d % wv), rfl, q (d % wv) _ ((But.of (j := b) (sameR H)).trans b9) ((Fre.of (sameR H)).trans f9) ⟨xs, ix, d / wv, st, k, upd_same, b9 _ _ hcb g2, g3, g4, g5, z1, by omega, g8, g9, g10, by omega⟩ (Int.emod_nonneg _ (by omega)) (Int.emod_lt_of_pos _ (by omega))⟩

theorem ok__law_common {f : Addr} {fd : FuncData}  (F : Fun K "_law_common" "_law_common" s__law_common f fd) (B : Bl mg)  : FnOk P w K mg base CX0 1 f fd ["one", "two"] (sp_common) := by
  refine F.ok sc__law_common (fun vs H Q E h => ?_) (fun cdv A outer s H vs Q E hr h => ?_)
  · obtain ⟨a, b, rfl, _⟩ := h; rfl
  · obtain ⟨a, b, rfl, q⟩ := h
    have nd := sc__law_common.nd
    refine ⟨_, (pss_cons (ps_while PassesOwn.never (pt_cmpR op_gt (pv 1) pe_int (nomark _)) (pss_one (ps_par (i := 0) (j := 1) (by rfl) nd rfl rfl (by decide) rfl rfl (pa_cons (pv 1) (pa_cons (pe_op op_mod (pe_callTy call_int1 (by rfl) B.int (by decide +kernel) (pa_cons (pv 0) pa_nil)) (pv 1)) pa_nil)) (by rfl))))
      (pss_one (ps_ret (pv 0)))), ?_⟩
    refine ⟨fun m σ H' => ∃ x y : Nat, σ = [some (.int x), some (.int y)] ∧ H' = H ∧ Nat.gcd x y = Nat.gcd a b ∧ m = y, ⟨b, a, b, rfl, rfl, rfl, rfl⟩, fun m σ H' hW => ?_⟩
    obtain ⟨x, y, rfl, rfl, e, rfl⟩ := hW
    refine ⟨.int (m : Int), rfl, _, _, rfl, rfl, _, rfl, ?_⟩
    by_cases hm : m = 0
    · subst hm
      rw [decide_eq_false (by decide)]
      refine iteF ⟨.int (x : Int), rfl, ?_⟩
      rw [Nat.gcd_zero_right] at e
      rw [e]
      exact q
    · rw [decide_eq_true (show (m : Int) > 0 by omega)]
      refine iteT ⟨fun σ' H2 => ∃ m', m' < m ∧ ∃ x y : Nat, σ' = [some (.int x), some (.int y)] ∧ H2 = H' ∧ Nat.gcd x y = Nat.gcd a b ∧ m' = y, fun σ' H2 h => h, ?_⟩
      refine ⟨.int (m : Int), rfl, .int (x : Int), rfl, .inl ⟨(x : Int), rfl, .int (m : Int), rfl, (x : Int), (m : Int), rfl, rfl, by show (0 : Int) < m; omega, _, _, rfl, x % m, Nat.mod_lt _ (by omega), m, x % m, ?_, rfl, ?_, rfl⟩⟩
      · show [some (V.int (m : Int)), some (V.int ((x : Int) % (m : Int)))] = _
        rw [← Int.natCast_emod]
      · rw [Nat.gcd_comm, ← Nat.gcd_rec m x, Nat.gcd_comm]
        exact e

theorem ok__law_simple {f : Addr} {fd : FuncData}  (F : Fun K "_law_simple" "_law_simple" s__law_simple f fd) (B : Bl mg) (C__law_common : Cal P w K mg base 1 "_law_common" ["one", "two"] sp_common) : FnOk P w K mg base CX0 2 f fd ["top", "bottom"] (sp_low) := by
  refine F.ok sc__law_simple (fun vs H Q E h => ?_) (fun cdv A outer s H vs Q E hr h => ?_)
  · obtain ⟨a, b, rfl, _⟩ := h; rfl
  · obtain ⟨a, b, rfl, hb, hz, q⟩ := h
    obtain ⟨g1, g2⟩ := fr_gcd (n := a) hb hz
    have nd := sc__law_simple.nd
    refine ⟨_, (pss_cons (ps_set (i := 2) nd rfl (Or.inl rfl) (pe_cal C__law_common (hr.mono (by decide)) (pa_cons (pe_callB call_abs (by rfl) B.abs (by decide +kernel) (pa_cons (pv 0) pa_nil)) (pa_cons (pv 1) pa_nil))))
      (pss_one (ps_ret (pe_tup (pa_cons (pe_op op_fdivW (pv 0) (pv 2)) (pa_cons (pe_op op_fdivW (pv 1) (pv 2)) pa_nil)))))), ?_⟩
    refine ⟨.int a, rfl, a, rfl, .int b, rfl, a.natAbs, b.natAbs, ?_, ?_⟩
    · show [V.int (if a < 0 then -a else a), V.int b] = _
      rw [abs_if, Int.natAbs_of_nonneg (show 0 ≤ b by omega)]
    · refine ⟨.int a, rfl, _, rfl, a, _, rfl, rfl, wide_div g1 g2 (by decide) (by decide), .int b, rfl, _, rfl, b, _, rfl, rfl, wide_div g1 g2 (by decide) (by decide), by show 2 ≤ 16777216; decide, fun p hp => ?_⟩
      exact q p _ (same_new hp) hp upd_same

end
end K52
end

section
set_option Elab.async false
set_option linter.all false
set_option maxRecDepth 100000
set_option maxHeartbeats 4000000
namespace K52
open PySem PySem.Spec PyProof.Rows L2 GxR Gx Ma
section
variable {P : Program} {w : World} {K : PySem.W.Frag} {mg : Str → Option Value} {base : Heap}

theorem fr_kep {s w : Int} (h1 : 1 ≤ s) (h2 : s < w) (h3 : w ≤ 100) : Kep (fr s w).1 (fr s w).2 := by
  obtain ⟨a, rfl⟩ := Int.eq_ofNat_of_zero_le (show 0 ≤ s by omega)
  obtain ⟨b, rfl⟩ := Int.eq_ofNat_of_zero_le (show 0 ≤ w by omega)
  have hg : 0 < Nat.gcd a b := Nat.gcd_pos_of_pos_left b (by omega)
  have e1 : (fr (a : Int) (b : Int)).1 = ((a / Nat.gcd a b : Nat) : Int) := by
    show (a : Int) / ((Nat.gcd (a : Int).natAbs (b : Int).natAbs : Nat) : Int) = _
    rw [Int.natAbs_natCast, Int.natAbs_natCast, Int.natCast_ediv]
  have e2 : (fr (a : Int) (b : Int)).2 = ((b / Nat.gcd a b : Nat) : Int) := by
    show (b : Int) / ((Nat.gcd (a : Int).natAbs (b : Int).natAbs : Nat) : Int) = _
    rw [Int.natAbs_natCast, Int.natAbs_natCast, Int.natCast_ediv]
  rw [e1, e2]
  have q1 := Nat.div_mul_cancel (Nat.gcd_dvd_left a b)
  have q2 := Nat.div_mul_cancel (Nat.gcd_dvd_right a b)
  have q3 : Nat.gcd (a / Nat.gcd a b) (b / Nat.gcd a b) = 1 := by rw [Nat.gcd_div (Nat.gcd_dvd_left a b) (Nat.gcd_dvd_right a b), Nat.div_self hg]
  have p3 : b / Nat.gcd a b ≤ b := Nat.div_le_self _ _
  generalize a / Nat.gcd a b = x at *
  generalize b / Nat.gcd a b = y at *
  generalize Nat.gcd a b = g at *
  have p1 : x ≠ 0 := fun z => by rw [z, Nat.zero_mul] at q1; omega
  have p2 : x < y := Nat.lt_of_not_le fun z => by
    have := Nat.mul_le_mul_right g z
    omega
  refine ⟨by omega, by omega, by omega, ?_⟩
  rw [Int.natAbs_natCast, Int.natAbs_natCast]
  exact q3

theorem fr_shr {t m : Int} (h0 : 0 ≤ t) (h1 : t ≤ m) (h2 : 1 ≤ m) (h3 : m ≤ 1000000) : Shr (fr t m) := by
  obtain ⟨a, rfl⟩ := Int.eq_ofNat_of_zero_le h0
  obtain ⟨b, rfl⟩ := Int.eq_ofNat_of_zero_le (show 0 ≤ m by omega)
  have hg : 0 < Nat.gcd a b := Nat.gcd_pos_of_pos_right a (by omega)
  have e1 : (fr (a : Int) (b : Int)).1 = ((a / Nat.gcd a b : Nat) : Int) := by
    show (a : Int) / ((Nat.gcd (a : Int).natAbs (b : Int).natAbs : Nat) : Int) = _
    rw [Int.natAbs_natCast, Int.natAbs_natCast, Int.natCast_ediv]
  have e2 : (fr (a : Int) (b : Int)).2 = ((b / Nat.gcd a b : Nat) : Int) := by
    show (b : Int) / ((Nat.gcd (a : Int).natAbs (b : Int).natAbs : Nat) : Int) = _
    rw [Int.natAbs_natCast, Int.natAbs_natCast, Int.natCast_ediv]
  have q1 := Nat.div_mul_cancel (Nat.gcd_dvd_left a b)
  have q2 := Nat.div_mul_cancel (Nat.gcd_dvd_right a b)
  have q3 : Nat.gcd (a / Nat.gcd a b) (b / Nat.gcd a b) = 1 := by rw [Nat.gcd_div (Nat.gcd_dvd_left a b) (Nat.gcd_dvd_right a b), Nat.div_self hg]
  have p3 : b / Nat.gcd a b ≤ b := Nat.div_le_self _ _
  have p4 : a / Nat.gcd a b ≤ b / Nat.gcd a b := Nat.div_le_div_right (by omega)
  have p5 : 1 ≤ b / Nat.gcd a b := by
    by_cases z : 1 ≤ b / Nat.gcd a b
    · exact z
    · have z2 : b / Nat.gcd a b = 0 := Nat.eq_zero_of_not_pos z
      rw [z2, Nat.zero_mul] at q2
      omega
  have p7 : b ≤ 1000000 := by omega
  have p6 : b / Nat.gcd a b ≤ 1000000 := Nat.le_trans p3 p7
  generalize a / Nat.gcd a b = X at *
  generalize b / Nat.gcd a b = Y at *
  refine ⟨by rw [e1]; omega, by rw [e1, e2]; omega, by rw [e2]; omega, ?_, by rw [e2]; omega⟩
  rw [e1, e2, Int.natAbs_natCast, Int.natAbs_natCast]
  exact q3

theorem ix_listK {X : Cx} {K : PySem.W.Frag} (e : X.K = K) : IxR X (rIxL K) := e ▸ ix_list
theorem at2 {x y : Int} {i : Int} (h0 : 0 ≤ i) (h1 : i < 2) : ∃ v, atI ([.int x, .int y] : List V) i = some (.int v) ∧ (v = x ∨ v = y) := by
  have : i = 0 ∨ i = 1 := by omega
  rcases this with rfl | rfl
  · exact ⟨x, rfl, .inl rfl⟩
  · exact ⟨y, rfl, .inr rfl⟩
theorem at3 {x y z : Int} {i : Int} (h0 : 0 ≤ i) (h1 : i < 3) : ∃ v, atI ([.int x, .int y, .int z] : List V) i = some (.int v) ∧ (v = x ∨ v = y ∨ v = z) := by
  have : i = 0 ∨ i = 1 ∨ i = 2 := by omega
  rcases this with rfl | rfl | rfl
  · exact ⟨x, rfl, .inl rfl⟩
  · exact ⟨y, rfl, .inr (.inl rfl)⟩
  · exact ⟨z, rfl, .inr (.inr rfl)⟩
theorem at4 {x y z u : Int} {i : Int} (h0 : 0 ≤ i) (h1 : i < 4) : ∃ v, atI ([.int x, .int y, .int z, .int u] : List V) i = some (.int v) ∧ (v = x ∨ v = y ∨ v = z ∨ v = u) := by
  have : i = 0 ∨ i = 1 ∨ i = 2 ∨ i = 3 := by omega
  rcases this with rfl | rfl | rfl | rfl
  · exact ⟨x, rfl, .inl rfl⟩
  · exact ⟨y, rfl, .inr (.inl rfl)⟩
  · exact ⟨z, rfl, .inr (.inr (.inl rfl))⟩
  · exact ⟨u, rfl, .inr (.inr (.inr rfl))⟩
theorem w600 {x : Int} {k : Nat} (h : x ≤ 2 ^ k) (hk : k < 600) : x < 2 ^ 600 := Int.lt_of_le_of_lt h (by
  have := Nat.pow_lt_pow_right (show 1 < 2 by decide) hk
  exact_mod_cast this)
def sp_held : Sp := fun vs H Q _ => ∃ (b c : Addr) (m : Int) (n : Nat), vs = [V.ref b, V.int m] ∧ Bg H b c n ∧ n ≤ 900000 ∧ 2 ≤ m ∧ m ≤ 100 ∧ ∀ t x y H', But b H H' → Fre H H' → H t = none → Bg H' b c (n + 90) → H' t = some (.tup [.int x, .int y]) → Kep x y → Q (.ref t) H'
def sp_point : Sp := fun vs H Q _ => ∃ (b c : Addr) (m : Int) (n : Nat), vs = [V.ref b, V.int m] ∧ Bg H b c n ∧ n ≤ 900000 ∧ 1 ≤ m ∧ m ≤ 999999 ∧ ∀ t y H', But b H H' → Fre H H' → H t = none → Bg H' b c (n + 150) → TQ H' t y → Shr y → Q (.ref t) H'
def sp_drawn : Sp := fun vs H Q _ => ∃ (b c : Addr) (m : Nat) (far : Int) (n : Nat), vs = [V.ref b, V.int m, V.int far] ∧ Bg H b c n ∧ n ≤ 800000 ∧ 1 ≤ m ∧ m ≤ 8 ∧ 1 ≤ far ∧ far ≤ 1000000000000000000000000000000 ∧ ∀ p ns H', But b H H' → Fre H H' → H p = none → Bg H' b c (n + 600) → LI H' p ns → Con ns → ns.length = m → ns.sum < 2 ^ 110 → Q (.ref p) H'
def sp_less : Sp := fun vs H Q _ => ∃ (p r : Addr) (x y : Int × Int), vs = [V.ref p, V.ref r] ∧ TQ H p x ∧ TQ H r y ∧ x.1.natAbs < 2 ^ 20000 ∧ x.2.natAbs < 2 ^ 20000 ∧ y.1.natAbs < 2 ^ 20000 ∧ y.2.natAbs < 2 ^ 20000 ∧ Q (.bl (decide (x.1 * y.2 < y.1 * x.2))) H
/-- what stands in a list by itself -/
def Scal (v : V) : Prop := v = .non ∨ (∃ n : Int, v = .int n) ∨ ∃ x : Bool, v = .bl x
def sp_alike0 : Sp := fun vs H Q _ => ∃ v : V, vs = [v, v] ∧ Scal v ∧ ∀ H', Same H H' → Q (.bl true) H'
def sp_alike : Sp := fun vs H Q _ => ∃ (l l2 : Addr) (us : List V), vs = [V.ref l, V.ref l2] ∧ H l = some (.lst us) ∧ H l2 = some (.lst us) ∧ (∀ v ∈ us, Scal v) ∧ us.length ≤ 1000 ∧ ∀ H', Same H H' → Q (.bl true) H'
theorem kitLT {K : PySem.W.Frag} {t : String} (h1 : W.kitOne K (.type t) (.type "list") = some false) (h2 : W.kitOne K (.type t) (.type "tuple") = some false) : W.kitAny K (.type t) [.type "list", .type "tuple"] = some false := by
  simp only [W.kitAny, h1, h2]
theorem kitLL {K : PySem.W.Frag} : W.kitAny K (.type "list") [.type "list", .type "tuple"] = some true := by
  have h1 : W.kitOne K (.type "list") (.type "list") = some true := kit_ty (by decide +kernel)
  simp only [W.kitAny, h1]

theorem ok__law_reduced {f : Addr} {fd : FuncData}  (F : Fun K "_law_reduced" "_law_reduced" s__law_reduced f fd) (B : Bl mg) (C__law_common : Cal P w K mg base 1 "_law_common" ["one", "two"] sp_common) : FnOk P w K mg base CX0 2 f fd ["some"] (sp_without_divisor) := by
  refine F.ok sc__law_reduced (fun vs H Q E h => ?_) (fun cdv A outer s H vs Q E hr h => ?_)
  · obtain ⟨l, ns, rfl, _⟩ := h; rfl
  · obtain ⟨l, ns, rfl, hl, ha, hz, hg, q⟩ := h
    have nd := sc__law_reduced.nd
    refine ⟨_, (pss_cons (ps_set (i := 1) nd rfl (Or.inr rfl) pe_int)
      (pss_cons (ps_for PassesOwn.never rfl (pi_list (pv 0)) (pg_name (i := 2) nd rfl (Or.inl rfl)) (pss_one (ps_set (i := 1) nd rfl (Or.inr rfl) (pe_cal C__law_common (hr.mono (by decide)) (pa_cons (pv 2) (pa_cons (pv 1) pa_nil))))))
      (pss_one (ps_ret (pe_lc (own := [("one", 2)]) (g := gName 2) rfl nd (pi_list (pv 0)) (blkOk_by (own := [("one", 2)]) (N := ["some", "found", "one"]) (sc := defScope s__law_reduced) (by decide +kernel)) (fun _ _ _ _ _ => (pg_name (i := 2) nd rfl (Or.inl rfl))) (fun _ _ _ _ _ => pts_nil) (fun _ _ _ _ _ => (pe_op op_fdivW (pv 2) (pv 1)))))))), ?_⟩
    refine ⟨.ref l, rfl, l, rfl, ⟨_, SqL.of hl⟩, for_list (xs := ns.map V.int) (fun i σ H' => ∃ y, σ = [some (.ref l), some (.int ((gcdN (ns.take i) : Nat) : Int)), y] ∧ H' = H) ⟨none, rfl, rfl⟩ (fun i σ H' _ ⟨_, _, e⟩ => by rw [e]; exact SqL.of hl) (fun i x σ H' hx ⟨y, e1, e2⟩ => ?_) (fun σ H' ⟨y, e1, e2⟩ => ?_)⟩
    · subst e1 e2
      obtain ⟨n, hn, rfl⟩ := map_get hx
      have hn0 := ha.nn n (List.mem_of_getElem? hn)
      refine ⟨.int n, rfl, .int ((gcdN (ns.take i) : Nat) : Int), rfl, n.natAbs, gcdN (ns.take i), ?_, some (.int n), ?_, rfl⟩
      · rw [Int.natAbs_of_nonneg hn0]
        rfl
      · rw [gcdN_take hn, Nat.gcd_comm n.natAbs]
        rfl
    · subst e1 e2
      rw [List.length_map, List.take_length]
      refine ⟨.ref l, rfl, l, rfl, ⟨_, SqL.of hl⟩, fun D hD => lc_list (xs := ns.map V.int) (fun i H2 => Same H' H2 ∧ H2 D = some (.lst (((Ma.plain ns).take i).map V.int))) ⟨same_new hD, upd_same⟩ (fun i H2 _ ⟨e, _⟩ => SqL.of (e l _ hl)) (fun i x H2 hx ⟨e1, e2⟩ => ?_) (fun H2 ⟨e1, e2⟩ => ?_)⟩
      · obtain ⟨n, hn, rfl⟩ := map_get hx
        have hpos := gcdN_pos ha
        refine ⟨rfl, .int n, rfl, .int ((gcdN ns : Nat) : Int), rfl, n, _, rfl, rfl, wide_div (by omega) (b := 8000) (by rw [Int.natAbs_natCast]; exact hg) (by decide) (by decide), _, e2, ?_, fun b x hb => ?_, ?_⟩
        · rw [List.length_map, List.length_take]
          have := Ma.plain_len ns
          show min i (Ma.plain ns).length < 16777216
          omega
        · rw [upd_ne (ne_of_none hb hD)]
          exact e1 b x hb
        · have hp : (Ma.plain ns)[i]? = some (n / ((gcdN ns : Nat) : Int)) := by
            unfold Ma.plain
            rw [List.getElem?_map, hn]
            rfl
          rw [upd_same, List.take_add_one, hp, List.map_append]
          rfl
      · rw [List.length_map, ← Ma.plain_len ns, List.take_length] at e2
        exact q D H2 e1 hD e2

theorem ok__law_held {f : Addr} {fd : FuncData}  (F : Fun K "_law_held" "_law_held" s__law_held f fd) (B : Bl mg) (C__law_draw : Cal P w K mg base 2 "_law_draw" ["bag", "wide"] sp_draw) (C__law_simple : Cal P w K mg base 2 "_law_simple" ["top", "bottom"] sp_low) : FnOk P w K mg base CX0 3 f fd ["bag", "most"] (sp_held) := by
  refine F.ok sc__law_held (fun vs H Q E h => ?_) (fun cdv A outer s H vs Q E hr h => ?_)
  · obtain ⟨b, c, m, n, rfl, _⟩ := h; rfl
  · obtain ⟨b, c, m, n, rfl, hb, hn, m2, m100, q⟩ := h
    have nd := sc__law_held.nd
    refine ⟨_, (pss_cons (ps_set (i := 2) nd rfl (Or.inl rfl) (pe_op op_add pe_int (pe_cal C__law_draw (hr.mono (by decide)) (pa_cons (pv 0) (pa_cons (pe_op op_sub (pv 1) pe_int) pa_nil)))))
      (pss_cons (ps_set (i := 3) nd rfl (Or.inl rfl) (pe_op op_add pe_int (pe_cal C__law_draw (hr.mono (by decide)) (pa_cons (pv 0) (pa_cons (pe_op op_sub (pv 2) pe_int) pa_nil)))))
      (pss_one (ps_ret (pe_cal C__law_simple (hr.mono (by decide)) (pa_cons (pe_ix ix_list (pe_lst (pa_cons (pv 3) (pa_cons pe_int (pa_cons (pe_op op_sub (pv 2) pe_int) pa_nil)))) (pe_cal C__law_draw (hr.mono (by decide)) (pa_cons (pv 0) (pa_cons pe_int pa_nil))) (fun _ _ => rfl)) (pa_cons (pv 2) pa_nil))))))), ?_⟩
    refine ⟨.ref b, rfl, .int m, rfl, m, 1, rfl, rfl, b, _, m - 1, n, rfl, hb, by omega, by omega, w600 (k := 20) (by omega) (by decide), fun d H1 b1 f1 g1 d0 d1 => ⟨2, d, rfl, rfl, ?_⟩⟩
    refine ⟨.ref b, rfl, .int (2 + d), rfl, 2 + d, 1, rfl, rfl, b, _, 2 + d - 1, _, rfl, g1, by omega, by omega, w600 (k := 20) (by omega) (by decide), fun e H2 b2 f2 g2 e0 e1 => ⟨1, e, rfl, rfl, ?_⟩⟩
    refine ⟨.int (1 + e), rfl, .int (2 + d), rfl, 2 + d, 1, rfl, rfl, by show 3 ≤ 16777216; decide, fun L nL => ?_⟩
    have sL := sameN (o := .lst [.int (1 + e), .int 1, .int (2 + d - 1)]) nL
    have hL : L2.upd H2 L (.lst [.int (1 + e), .int 1, .int (2 + d - 1)]) L = some (.lst [.int (1 + e), .int 1, .int (2 + d - 1)]) := upd_same
    have gL := g2.keep sL
    have hLb := g2.ne nL
    generalize L2.upd H2 L (.lst [.int (1 + e), .int 1, .int (2 + d - 1)]) = H3 at *
    refine ⟨.ref b, rfl, b, _, 3, _, rfl, gL, by omega, by decide, by decide +kernel, fun i H4 b4 f4 g4 i0 i1 => ?_⟩
    obtain ⟨v, hv, hvv⟩ := at3 (x := 1 + e) (y := 1) (z := 2 + d - 1) i0 i1
    refine ⟨L, _, i, .int v, rfl, rfl, SqL.of (b4 _ _ hLb hL), hv, .int (2 + d), rfl, v, 2 + d, rfl, by omega, Int.lt_of_le_of_lt (show 2 + d ≤ 101 by omega) (by decide +kernel), fun p H5 s5 np hp => ?_⟩
    have B := ((b1.trans b2).trans (But.of sL)).trans (b4.trans (But.of s5))
    have F := ((f1.trans f2).trans (Fre.of sL)).trans (f4.trans (Fre.of s5))
    exact q p _ _ H5 B F (((f1.trans f2).trans (Fre.of sL)).trans f4 p np) ((g4.keep s5).le (by omega)) hp (fr_kep (by omega) (by omega) (by omega))


theorem pow_lt_of {m n : Nat} (h : m < n) : (2 : Int) ^ m < 2 ^ n := by
  have := Nat.pow_lt_pow_right (show 1 < 2 by decide) h
  exact_mod_cast this
theorem sum_le_len {B : Int} : ∀ xs : List Int, (∀ x ∈ xs, x ≤ B) → xs.sum ≤ (xs.length : Int) * B
  | [], _ => by simp
  | x :: r, h => by
    have h1 := h x List.mem_cons_self
    have h2 := sum_le_len r fun y hy => h y (List.mem_cons_of_mem _ hy)
    rw [List.sum_cons, List.length_cons, Int.natCast_add, Int.add_mul]
    omega


end
end K52
end

section
set_option Elab.async false
set_option linter.all false
set_option maxRecDepth 100000
set_option maxHeartbeats 4000000
namespace K52
open PySem PySem.Spec PyProof.Rows L2 GxR Gx Ma
section
variable {P : Program} {w : World} {K : PySem.W.Frag} {mg : Str → Option Value} {base : Heap}

def sp_is_strs (T : Addr) : Sp := fun vs H Q _ => ∃ l ns, vs = [V.ref l] ∧ LI H l ns ∧ 0 < ns.length ∧ ns.length ≤ 8 ∧ H T = some (TabO T) ∧ Q (.bl true) H
def sp_check_strs (T : Addr) : Sp := fun vs H Q _ => ∃ l ns, vs = [V.ref l] ∧ LI H l ns ∧ 0 < ns.length ∧ ns.length ≤ 8 ∧ H T = some (TabO T) ∧ Q .non H
theorem op_inK {X : Cx} {K : PySem.W.Frag} (e : X.K = K) : OpR X (compareOp .In) (rIn K false) := e ▸ op_in_seq
/-- the strengths of the amounts, added up -/
def dotF (ns ss : List Int) (i : Nat) : Int := ns.getD i 0 * ss.getD i 0
def dotZ (ns ss : List Int) : Int := preSum (dotF ns ss) ns.length

theorem ok_is_list_of_strengths {f : Addr} {fd : FuncData} {c : Addr} (F : FunC K "is_list_of_strengths" "is_list_of_strengths" s_is_list_of_strengths f fd c) (B : Bl mg) (C_is_integer : Cal P w K mg base 1 "is_integer" ["thing"] sp_is_integer) {T : Addr} (TB_is_list_of_strengths : TabB base mg c T) : FnOk P w K mg base CX0 5 f fd ["thing"] (sp_is_strs T) := by
  refine F.ok sc_is_list_of_strengths (fun vs H Q E h => ?_) (fun A outer s H vs Q E hr h => ?_)
  · obtain ⟨l, ns, rfl, _⟩ := h; rfl
  · obtain ⟨l, ns, rfl, hl, h1, h8, hT, q⟩ := h
    have hcode : (cxOf CX0 P w K mg base ["thing"] "is_list_of_strengths" (defScope s_is_list_of_strengths) f (.ref c) A outer s H E).nox.env.code = .ref c := rfl
    have nd := sc_is_list_of_strengths.nd
    refine ⟨_, (pss_cons (ps_if (PW.pt (pw_or (pt_cmpR op_neTy (pe_typeOf (by rfl) B.type (pv 0)) (pe_bltn (v := .ty "list") (by rfl) B.list (by decide +kernel) rfl) (nomark _)) (pw_or1 (pt_not (pt_chain op_le op_le pe_int (pe_callB call_len_seq (by rfl) B.len PySem.boot_len (pa_cons (pv 0) pa_nil)) (pe_gi B.MOST_LIQUIDS))))))
      (pss_one (ps_ret pe_bl)) pss_nil)
      (pss_one (ps_ret (pe_allG (ns := []) (k' := 1) (hr.mono (by decide)) (by rfl) B.all TB_is_list_of_strengths hcode (gok_by (N := ["thing"]) (sc := defScope s_is_list_of_strengths) (by decide +kernel)) (by decide) (pi_list (pv 0)) (fun s H C code fp A hq => (pe_cal C_is_integer (hq.mono (by decide)) (pa_cons (pv 0) pa_nil))))))), ?_⟩
    refine ⟨.ref l, rfl, "list", by simp only [zTyV, hl], "list", rfl, rfl, TypeEq.meta_list, false, rfl, iteF ?_⟩
    refine ⟨.ref l, rfl, l, _, rfl, .inl (SqL.of hl), 1, _, rfl, rfl, _, rfl, ?_⟩
    rw [decide_eq_true (by rw [List.length_map]; omega)]
    refine iteT ⟨_, 8, rfl, rfl, _, rfl, ?_⟩
    rw [decide_eq_true (by rw [List.length_map]; omega)]
    refine iteF ⟨.ref l, rfl, l, rfl, ⟨_, SqL.of hl⟩, hT, all_list hl (fun i y hy R r => ?_) q⟩
    obtain ⟨n, e, rfl⟩ := map_get hy
    exact ⟨.int n, rfl, n, rfl, r⟩

theorem ok_check_strengths {f : Addr} {fd : FuncData}  (F : Fun K "check_strengths" "check_strengths" s_check_strengths f fd) (B : Bl mg) {T : Addr} (C_is_list_of_strengths : Cal P w K mg base 5 "is_list_of_strengths" ["thing"] (sp_is_strs T)) : FnOk P w K mg base CX0 6 f fd ["strengths"] (sp_check_strs T) := by
  refine F.ok sc_check_strengths (fun vs H Q E h => ?_) (fun cdv A outer s H vs Q E hr h => ?_)
  · obtain ⟨l, ns, rfl, _⟩ := h; rfl
  · obtain ⟨l, ns, rfl, hl, h1, h8, hT, q⟩ := h
    have nd := sc_check_strengths.nd
    refine ⟨_, (pss_one (ps_if (pt_not (pt_val (pe_cal C_is_list_of_strengths (hr.mono (by decide)) (pa_cons (pv 0) pa_nil))))
      (pss_one ps_never) pss_nil)), ?_⟩
    exact ⟨.ref l, rfl, l, ns, rfl, hl, h1, h8, hT, true, rfl, iteF q⟩

def sp_strength (Tc Ts Tg : Addr) : Sp := fun vs H Q _ => ∃ (l b : Addr) (ns ss : List Int), vs = [V.ref l, V.ref b] ∧ LI H l ns ∧ Con ns ∧ ns.sum < 2 ^ 7000 ∧ LI H b ss ∧ ss.length = ns.length ∧ (∀ x ∈ ss, x.natAbs < 2 ^ 100) ∧ H Tc = some (TabO Tc) ∧ H Ts = some (TabO Ts) ∧ H Tg = some (TabO Tg) ∧
  ∀ p H', Same H H' → H p = none → H' p = some (.tup [.int (fr (dotZ ns ss) ns.sum).1, .int (fr (dotZ ns ss) ns.sum).2]) → Q (.ref p) H'
theorem getD_atS {ns : List Int} {i : Nat} (h : i < ns.length) : ns[i]? = some (ns.getD i 0) := by
  rw [List.getD_eq_getElem?_getD, List.getElem?_eq_getElem h]
  rfl
theorem getD_memS {ns : List Int} {i : Nat} (h : i < ns.length) : ns.getD i 0 ∈ ns := List.mem_of_getElem? (getD_atS h)

theorem ok_strength_of {f : Addr} {fd : FuncData} {c : Addr} (F : FunC K "strength_of" "strength_of" s_strength_of f fd c) (B : Bl mg) {Tc : Addr} (C_check_content : Cal P w K mg base 7 "check_content" ["content"] (sp_check_content Tc)) {Ts : Addr} (C_check_strengths : Cal P w K mg base 6 "check_strengths" ["strengths"] (sp_check_strs Ts)) (C_lowest_terms : Cal P w K mg base 1 "lowest_terms" ["top", "bottom"] sp_low) {Tg : Addr} (TB_strength_of : TabB base mg c Tg) : FnOk P w K mg base CX0 8 f fd ["content", "strengths"] (sp_strength Tc Ts Tg) := by
  refine F.ok sc_strength_of (fun vs H Q E h => ?_) (fun A outer s H vs Q E hr h => ?_)
  · obtain ⟨l, b, ns, ss, rfl, _⟩ := h; rfl
  · obtain ⟨l, b, ns, ss, rfl, hl, hc, hz, hb, hlen, hs, h1, h2, h3, q⟩ := h
    have hcode : (cxOf CX0 P w K mg base ["content", "strengths", "top"] "strength_of" (defScope s_strength_of) f (.ref c) A outer s H E).nox.env.code = .ref c := rfl
    have c1 := hc.len
    have c8 := hc.le8
    have nd := sc_strength_of.nd
    refine ⟨_, (pss_cons (ps_expr (pe_cal C_check_content (hr.mono (by decide)) (pa_cons (pv 0) pa_nil)))
      (pss_cons (ps_expr (pe_cal C_check_strengths (hr.mono (by decide)) (pa_cons (pv 1) pa_nil)))
      (pss_cons (ps_if (pt_cmpR op_ne (pe_callB call_len_seq (by rfl) B.len PySem.boot_len (pa_cons (pv 1) pa_nil)) (pe_callB call_len_seq (by rfl) B.len PySem.boot_len (pa_cons (pv 0) pa_nil)) (nomark _))
      (pss_one ps_never) pss_nil)
      (pss_cons (ps_set (i := 2) nd rfl (Or.inl rfl) (pe_sumG (ns := []) (xs := ["amount", "strength"]) (g := gTup K 2 (gCons (gName 0) (gCons (gName 1) gNil))) (k' := 0) (hr.mono (by decide)) (by rfl) B.sum TB_strength_of hcode (gokV_by (N := ["content", "strengths", "top"]) (sc := defScope s_strength_of) (by decide +kernel)) (pi_zip (by rfl) B.zip (pa_cons (pv 0) (pa_cons (pv 1) pa_nil))) (fun s H C code fp A => (pg_tup (by rfl) (pgs_cons (pg_name (i := 0) (show (["amount", "strength"] : List Str).Nodup by decide) rfl (Or.inl rfl)) (pgs_cons (pg_name (i := 1) (show (["amount", "strength"] : List Str).Nodup by decide) rfl (Or.inl rfl)) pgs_nil)))) (fun s H C code fp A hq => (pe_op op_mulW (pv 0) (pv 1)))))
      (pss_one (ps_ret (pe_cal C_lowest_terms (hr.mono (by decide)) (pa_cons (pv 2) (pa_cons (pe_callB (cr_sum rfl) (by rfl) B.sum (by decide +kernel) (pa_cons (pv 0) pa_nil)) pa_nil))))))))), ?_⟩
    refine ⟨.ref l, rfl, l, ns, rfl, hl, hc, h1, ?_⟩
    refine ⟨.ref b, rfl, b, ss, rfl, hb, by omega, by omega, h2, ?_⟩
    refine ⟨.ref b, rfl, b, _, rfl, .inl (SqL.of hb), .ref l, rfl, l, _, rfl, .inl (SqL.of hl), rfl, _, rfl, ?_⟩
    refine iteNS (by rw [List.length_map, List.length_map, hlen]) ?_
    refine ⟨.ref l, rfl, .ref b, rfl, l, b, _, _, rfl, SqL.of hl, SqL.of hb, h3, ns.length, dotF ns ss, fun S hS => ⟨fun i H' => Same H H' ∧ H' S = some (.lst [.int (preSum (dotF ns ss) i)]), ⟨same_new hS, upd_same⟩, fun H' ⟨e1, e2⟩ => ⟨⟨_, _, SqL.of (e1 _ _ hl), SqL.of (e1 _ _ hb), .inl (by rw [List.length_map]; exact Nat.le_refl _)⟩, ?_⟩, fun i H' hi ⟨e1, e2⟩ => ⟨⟨_, _, _, _, SqL.of (e1 _ _ hl), SqL.of (e1 _ _ hb), get_map (getD_atS hi), get_map (getD_atS (by omega))⟩, fun y H2 hy => ?_⟩⟩⟩
    · have hsp := hc.amt.pos
      refine ⟨.int (dotZ ns ss), rfl, .ref l, rfl, l, ns, rfl, SqL.of (e1 _ _ hl), _, _, rfl, hsp, ?_, fun p H3 s3 np e3 => ?_⟩
      · exact Int.lt_of_lt_of_le hz (pow_le_of (by decide))
      · exact q p H3 (e1.trans s3) (e1.free np) e3
    · obtain ⟨T52, x1, x2, rfl, nT2, rfl, hx1, hx2⟩ := hy
      obtain rfl := Option.some.inj ((hx1 _ (SqL.of (e1 _ _ hl))).symm.trans (get_map (getD_atS hi)))
      obtain rfl := Option.some.inj ((hx2 _ (SqL.of (e1 _ _ hb))).symm.trans (get_map (getD_atS (by omega))))
      have hm := getD_memS hi
      have n0 := hc.nn _ hm
      have n1 := le_sum hc.nn hm
      have s1 := hs _ (getD_memS (ns := ss) (i := i) (by omega))
      have sT := same_new (o := .tup [V.int (ns.getD i 0), V.int (ss.getD i 0)]) nT2
      refine ⟨T52, _, rfl, SqT.of upd_same, rfl, _, _, rfl, _, _, rfl, rfl, keep2_2 (c := []), ?_⟩
      refine ⟨.int (ns.getD i 0), rfl, .int (ss.getD i 0), rfl, _, _, rfl, rfl, wide_mul (a := 7000) (b := 100) (abs_lt n0 (Int.lt_of_le_of_lt n1 hz)) s1 (by decide) (by decide) (by decide), rfl, sT _ _ e2, fun x u hx => ?_, upd_same⟩
      rw [upd_ne (ne_of_none hx hS)]
      exact sT _ _ (e1 x u hx)

end
end K52
end

section
set_option Elab.async false
set_option linter.all false
set_option maxRecDepth 100000
set_option maxHeartbeats 4000000
namespace K52
open PySem PySem.Spec PyProof.Rows L2 GxR Gx Ma
section
variable {P : Program} {w : World} {K : PySem.W.Frag} {mg : Str → Option Value} {base : Heap}

def sp_lstep : Sp := fun vs H Q _ => ∃ (l : Addr) (ns : List Int) (a b : Int) (c : Nat), vs = [V.ref l, V.int a, V.int b, V.int c] ∧ LI H l ns ∧ Con ns ∧ Kep a b ∧ c < ns.length ∧ ns.sum < 2 ^ 7900 ∧ ∀ p H', Same H H' → H p = none → LI H' p (step ns a b c) → Q (.ref p) H'
theorem step_small {ns : List Int} {a b : Int} {c : Nat} (hc : Con ns) (k : Kep a b) (hcl : c < ns.length) (hz : ns.sum < 2 ^ 7900) : gcdN (pre ns a b c) < 2 ^ 8000 := by
  have ha := pre_amt hc k hcl
  have hs := hc.amt.pos
  have h1 := gcd_le_sum ha
  rw [pre_sum hcl] at h1
  have h2 : b * ns.sum ≤ 100 * ns.sum := Int.mul_le_mul_of_nonneg_right k.b100 (by omega)
  have h3 : (100 : Int) * ns.sum < 2 ^ 8000 := by
    have e : (2 : Int) ^ 8000 = 2 ^ 100 * 2 ^ 7900 := by rw [← Int.pow_add]
    have h4 : (2 : Int) ^ 7 * 2 ^ 7900 ≤ 2 ^ 100 * 2 ^ 7900 := Int.mul_le_mul_of_nonneg_right (pow_le_of (by decide)) (Int.le_of_lt (Int.pow_pos (by decide)))
    have h5 : (128 : Int) * ns.sum ≤ 2 ^ 7 * 2 ^ 7900 := Int.mul_le_mul_of_nonneg_left (Int.le_of_lt hz) (by decide)
    omega
  have h6 := abs_lt (n := ((gcdN (pre ns a b c) : Nat) : Int)) (by omega) (Int.lt_of_le_of_lt (Int.le_trans h1 h2) h3)
  rw [Int.natAbs_natCast] at h6
  exact h6
theorem pur_len (k s : Nat) : (pur k s).length = k := by unfold pur; rw [List.length_set, List.length_replicate]
theorem pur_get (k s i : Nat) (h : i < k) : (pur k s)[i]? = some (if i = s then 1 else 0) := by
  unfold pur
  rw [List.getElem?_set]
  by_cases e : s = i
  · rw [if_pos e, if_pos (by rw [List.length_replicate]; omega), if_pos e.symm]
  · rw [if_neg e, if_neg (fun z => e z.symm), List.getElem?_replicate, if_pos h]
def sp_behind : Sp := fun vs H Q _ => ∃ (l t : Addr) (ns : List Int) (a b : Int) (c : Nat), vs = [V.ref l, V.ref t, V.int c] ∧ LI H l ns ∧ Con ns ∧ H t = some (.tup [.int a, .int b]) ∧ Kep a b ∧ c < ns.length ∧ ns.sum < 2 ^ 7900 ∧ ∀ p H', Same H H' → H p = none → LI H' p (step ns a b c) → Q (.ref p) H'

theorem ok__law_behind {f : Addr} {fd : FuncData}  (F : Fun K "_law_behind" "_law_behind" s__law_behind f fd) (B : Bl mg) (C__law_reduced : Cal P w K mg base 2 "_law_reduced" ["some"] sp_without_divisor) : FnOk P w K mg base CX0 3 f fd ["some", "held", "k"] (sp_behind) := by
  refine F.ok sc__law_behind (fun vs H Q E h => ?_) (fun cdv A outer s H vs Q E hr h => ?_)
  · obtain ⟨l, t, ns, a, b, c, rfl, _⟩ := h; rfl
  · obtain ⟨l, t, ns, a, b, c, rfl, hl, hc, ht, k, hcl, hz, q⟩ := h
    have hs := hc.amt.pos
    have k1 := k.a1
    have k2 := k.ab
    have k3 := k.b100
    have nd := sc__law_behind.nd
    refine ⟨_, (pss_cons (ps_asg (pv 1) (pg_tup (by rfl) (pgs_cons (pg_name (i := 3) nd rfl (Or.inr rfl)) (pgs_cons (pg_name (i := 4) nd rfl (Or.inl rfl)) pgs_nil))))
      (pss_cons (ps_setLc (i := 5) (own := [("one", 6)]) (g := gName 6) rfl nd rfl rfl (sw_true rfl rfl rfl (by decide +kernel)) (pi_list (pv 0)) (blkOk_by (own := [("one", 6)]) (N := ["some", "held", "k", "a", "b", "found", "one"]) (sc := defScope s__law_behind) (by decide +kernel)) (fun _ _ _ _ _ => (pg_name (i := 6) nd rfl (Or.inl rfl))) (fun _ _ _ _ _ => pts_nil) (fun _ _ _ _ _ => (pe_op op_mulW (pv 3) (pv 6))))
      (pss_cons (ps_asg (pe_op op_add (pe_ix ix_list (pv 5) (pv 2) (fun _ _ => rfl)) (pe_op op_mulW (pe_op op_sub (pv 4) (pv 3)) (pe_callB (cr_sum rfl) (by rfl) B.sum (by decide +kernel) (pa_cons (pv 0) pa_nil)))) (pg_sub (pv 5) (pv 2) set_list))
      (pss_one (ps_ret (pe_cal C__law_reduced (hr.mono (by decide)) (pa_cons (pv 5) pa_nil))))))), ?_⟩
    have hba : (b - a).natAbs < 2 ^ 7 := abs_lt (by omega) (by omega)
    refine ⟨.ref t, rfl, t, _, rfl, SqT.of ht, rfl, _, _, rfl, _, _, rfl, rfl, ?_⟩
    refine ⟨.ref l, rfl, l, rfl, ⟨_, SqL.of hl⟩, fun D hD => lc_list (xs := ns.map V.int) (fun i H' => Same H H' ∧ H' D = some (.lst (((ns.map fun n => n * a).take i).map V.int))) ⟨same_new hD, upd_same⟩ (fun i H' _ ⟨e, _⟩ => SqL.of (e l _ hl)) (fun i x H' hx ⟨e1, e2⟩ => ?_) (fun H' ⟨e1, e2⟩ => ?_)⟩
    · obtain ⟨n, hn, rfl⟩ := map_get hx
      have hm := List.mem_of_getElem? hn
      have hn0 := hc.nn n hm
      have hn1 := le_sum hc.nn hm
      refine ⟨rfl, .int a, rfl, .int n, rfl, a, n, rfl, rfl, wide_mul (a := 7) (b := 7900) (abs_lt (by omega) (by omega)) (abs_lt hn0 (Int.lt_of_le_of_lt hn1 hz)) (by decide) (by decide) (by decide), _, e2, ?_, fun b x hb => ?_, ?_⟩
      · have := hc.le8
        rw [List.length_map, List.length_take, List.length_map]
        show min i ns.length < 16777216
        omega
      · rw [upd_ne (ne_of_none hb hD)]
        exact e1 b x hb
      · have hp : (ns.map fun n => n * a)[i]? = some (n * a) := by
          rw [List.getElem?_map, hn]
          rfl
        rw [upd_same, List.take_add_one, hp, List.map_append, Int.mul_comm n a]
        rfl
    · have e2 : LI H' D (ns.map fun n => n * a) := by
        show H' D = _
        rw [e2, List.length_map, List.take_of_length_le (by rw [List.length_map]; exact Nat.le_refl _)]
      have hcm : (ns.map fun n => n * a)[c]? = some (ns.getD c 0 * a) := by
        rw [List.getElem?_map, List.getD_eq_getElem?_getD, List.getElem?_eq_getElem hcl]
        rfl
      refine ⟨.ref D, rfl, .int c, rfl, D, _, c, .int (ns.getD c 0 * a), rfl, rfl, SqL.of e2, atI_nat (get_map hcm), .int b, rfl, .int a, rfl, b, a, rfl, rfl, .ref l, rfl, l, ns, rfl, SqL.of (e1 _ _ hl), b - a, ns.sum, rfl, rfl, wide_mul (a := 7) (b := 7900) hba (abs_lt (by omega) hz) (by decide) (by decide) (by decide), _, _, rfl, rfl, .ref D, rfl, .int c, rfl, D, _, c, c, rfl, rfl, e2, ixN_of (by rw [List.length_map, List.length_map]; exact hcl), ?_⟩
      have e3 : upd H' D (.lst (((ns.map fun n => n * a).map V.int).set c (.int (ns.getD c 0 * a + (b - a) * ns.sum)))) D = some (.lst ((pre ns a b c).map V.int)) := by
        rw [upd_same]
        unfold pre
        rw [List.map_set]
      refine ⟨.ref D, rfl, D, pre ns a b c, rfl, e3, pre_amt hc k hcl, ?_, step_small hc k hcl hz, fun p H2 s2 np e4 => ?_⟩
      · rw [pre_len]
        have := hc.le8
        omega
      · refine q p H2 (fun x u hx => s2 x u ?_) (Same.free (fun x u hx => ?_) np) e4
        · rw [upd_ne (ne_of_none hx hD)]
          exact e1 x u hx
        · rw [upd_ne (ne_of_none hx hD)]
          exact e1 x u hx

end
end K52
end

section
set_option linter.all false
namespace GxR
open PySem PySem.Spec PyProof.Rows L2 Gx
def tIfT (tc : TT) (ta tb : TT) : TT := fun σ H Q => tc σ H fun k H1 => if k = true then ta σ H1 Q else tb σ H1 Q
/-- a test that is itself a choice -/
theorem pt_ifExp {X : Cx} {c a b : Expr} {tc ta tb : TT} {pos : Pos} (hc : PT X c tc) (ha : PT X a ta) (hb : PT X b tb) : PT X (.IfExp c a b pos) (tIfT tc ta tb) := by
  refine ⟨fun pins s σ H Q I h => ?_⟩
  rw [PySem.isTrue.eq_def]
  refine wpAny_bind ?_
  refine wpAny_mono (hc.run pins s σ H _ I h) (fun k s1 ⟨H1, I1, h1⟩ => ?_) (fun _ _ z => z)
  cases k with
  | true => exact ha.run pins s1 σ H1 Q I1 h1
  | false => exact hb.run pins s1 σ H1 Q I1 h1
end GxR
end

section
set_option Elab.async false
set_option linter.all false
set_option maxHeartbeats 4000000
/-! Trees of lists and tuples, all of them tracked, and the data that they are. -/
namespace Gx
open PySem PySem.Spec PyProof.Rows L2 GxR
inductive Tr (H : Hp) : Nat → V → PyData → Prop
  | non (n : Nat) : Tr H n .non .none
  | bl (n : Nat) (b : Bool) : Tr H n (.bl b) (.bool b)
  | int (n : Nat) (i : Int) : Tr H n (.int i) (.int i)
  | lst {n : Nat} {a : Addr} {xs : List V} {ds : List PyData} (h : H a = some (.lst xs)) (hl : xs.length = ds.length) (h1 : xs.length ≤ 1000) (hh : ∀ (i : Nat) (x : V) (d : PyData), xs[i]? = some x → ds[i]? = some d → Tr H n x d) : Tr H (n + 1) (.ref a) (.list ds)
  | tup {n : Nat} {a : Addr} {xs : List V} {ds : List PyData} (h : H a = some (.tup xs)) (hl : xs.length = ds.length) (h1 : xs.length ≤ 1000) (hh : ∀ (i : Nat) (x : V) (d : PyData), xs[i]? = some x → ds[i]? = some d → Tr H n x d) : Tr H (n + 1) (.ref a) (.tuple ds)
theorem Tr.same {H H' : Hp} (e : Same H H') {n : Nat} {v : V} {d : PyData} (t : Tr H n v d) : Tr H' n v d := by
  induction t with
  | non n => exact .non n
  | bl n b => exact .bl n b
  | int n i => exact .int n i
  | lst h hl h1 hh ih => exact .lst (e _ _ h) hl h1 ih
  | tup h hl h1 hh ih => exact .tup (e _ _ h) hl h1 ih
theorem Tr.up {H : Hp} {n : Nat} {v : V} {d : PyData} (t : Tr H n v d) : Tr H (n + 1) v d := by
  induction t with
  | non n => exact .non _
  | bl n b => exact .bl _ b
  | int n i => exact .int _ i
  | lst h hl h1 hh ih => exact .lst h hl h1 ih
  | tup h hl h1 hh ih => exact .tup h hl h1 ih
theorem Tr.mono {H : Hp} {n m : Nat} {v : V} {d : PyData} (t : Tr H n v d) (h : n ≤ m) : Tr H m v d := by
  obtain ⟨k, rfl⟩ := Nat.le.dest h
  induction k with
  | zero => exact t
  | succ k ih => exact (ih (Nat.le_add_right _ _)).up
theorem dpAll_of {K : PySem.W.Frag} {H : Hp} : ∀ (xs : List V) (ds : List PyData), xs.length = ds.length → (∀ (i : Nat) (x : V) (d : PyData), xs[i]? = some x → ds[i]? = some d → Dp K H x d) → DpAll K H xs ds
  | [], [], _, _ => .nil
  | x :: xs, d :: ds, hl, h => .cons (h 0 x d rfl rfl) (dpAll_of xs ds (by simpa using hl) fun i y e h1 h2 => h (i + 1) y e h1 h2)
theorem Tr.dp {K : PySem.W.Frag} {H : Hp} {n : Nat} {v : V} {d : PyData} (t : Tr H n v d) : Dp K H v d := by
  induction t with
  | non n => exact .non
  | bl n b => exact .bl b
  | int n i => exact .int i
  | lst h hl h1 hh ih => exact .lst (SqL.of h) (dpAll_of _ _ hl ih)
  | tup h hl h1 hh ih => exact .tup (SqT.of h) (dpAll_of _ _ hl ih)
theorem layAll_of : ∀ ds : List PyData, (∀ (i : Nat) (d : PyData), ds[i]? = some d → d.canLay0 = true) → PyData.canLayAll0 ds = true
  | [], _ => rfl
  | d :: ds, h => by
    rw [PyData.canLayAll0, h 0 d rfl, layAll_of ds fun i e hh => h (i + 1) e hh]
    rfl
theorem depthAll_of {n : Nat} : ∀ ds : List PyData, (∀ (i : Nat) (d : PyData), ds[i]? = some d → d.depth ≤ n) → PyData.depthAll ds ≤ n
  | [], _ => by rw [PyData.depthAll]; exact Nat.zero_le _
  | d :: ds, h => by
    have h1 := h 0 d rfl
    have h2 := depthAll_of ds fun i e hh => h (i + 1) e hh
    rw [PyData.depthAll]
    omega
theorem got {α β : Type} {xs : List α} {ds : List β} (hl : xs.length = ds.length) {i : Nat} {d : β} (h : ds[i]? = some d) : ∃ x, xs[i]? = some x := by
  have hi := (List.getElem?_eq_some_iff.mp h).1
  exact ⟨_, List.getElem?_eq_getElem (by omega)⟩
theorem Tr.lay {H : Hp} {n : Nat} {v : V} {d : PyData} (t : Tr H n v d) : d.canLay0 = true := by
  induction t with
  | non n => rfl
  | bl n b => rfl
  | int n i => rfl
  | lst h hl h1 hh ih => exact layAll_of _ fun i d hd => let ⟨x, hx⟩ := got hl hd; ih i x d hx hd
  | tup h hl h1 hh ih => exact layAll_of _ fun i d hd => let ⟨x, hx⟩ := got hl hd; ih i x d hx hd
theorem Tr.depth {H : Hp} {n : Nat} {v : V} {d : PyData} (t : Tr H n v d) : d.depth ≤ n + 1 := by
  induction t with
  | non n => rw [PyData.depth] <;> first | omega | (intros; contradiction)
  | bl n b => rw [PyData.depth] <;> first | omega | (intros; contradiction)
  | int n i => rw [PyData.depth] <;> first | omega | (intros; contradiction)
  | lst h hl h1 hh ih =>
    have := depthAll_of (n := _ + 1) _ fun i d hd => let ⟨x, hx⟩ := got hl hd; ih i x d hx hd
    rw [PyData.depth]
    omega
  | tup h hl h1 hh ih =>
    have := depthAll_of (n := _ + 1) _ fun i d hd => let ⟨x, hx⟩ := got hl hd; ih i x d hx hd
    rw [PyData.depth]
    omega
theorem Tr.shaped {H : Hp} {n : Nat} {v : V} {d : PyData} (t : Tr H n v d) (h : n ≤ 60) : SeqAt.shaped d = true := by
  have := t.depth
  unfold SeqAt.shaped
  rw [Bool.and_eq_true]
  exact ⟨t.lay, decide_eq_true (by omega)⟩
theorem Tr.eqv {H : Hp} {n : Nat} {v : V} {d : PyData} (t : Tr H n v d) : PyData.eqv d d = true := SeqAt.eqv_refl _ t.lay
/-- item by item -/
inductive TrAll (H : Hp) (n : Nat) : List V → List PyData → Prop
  | nil : TrAll H n [] []
  | cons {v : V} {vs : List V} {d : PyData} {ds : List PyData} : Tr H n v d → TrAll H n vs ds → TrAll H n (v :: vs) (d :: ds)
theorem TrAll.get {H : Hp} {n : Nat} : ∀ {vs : List V} {ds : List PyData}, TrAll H n vs ds → vs.length = ds.length ∧ ∀ (i : Nat) (x : V) (d : PyData), vs[i]? = some x → ds[i]? = some d → Tr H n x d
  | _, _, .nil => ⟨rfl, fun i x d h => by rw [List.getElem?_nil] at h; cases h⟩
  | _, _, .cons t r => ⟨by rw [List.length_cons, List.length_cons, r.get.1], fun i x d h1 h2 => by
    cases i with
    | zero =>
      cases Option.some.inj h1
      cases Option.some.inj h2
      exact t
    | succ i => exact r.get.2 i x d h1 h2⟩
theorem Tr.ofL {H : Hp} {n : Nat} {a : Addr} {xs : List V} {ds : List PyData} (h : H a = some (.lst xs)) (t : TrAll H n xs ds) (h1 : xs.length ≤ 1000) : Tr H (n + 1) (.ref a) (.list ds) := .lst h t.get.1 h1 t.get.2
theorem Tr.ofT {H : Hp} {n : Nat} {a : Addr} {xs : List V} {ds : List PyData} (h : H a = some (.tup xs)) (t : TrAll H n xs ds) (h1 : xs.length ≤ 1000) : Tr H (n + 1) (.ref a) (.tuple ds) := .tup h t.get.1 h1 t.get.2
theorem TrAll.ints {H : Hp} {n : Nat} : ∀ ns : List Int, TrAll H n (ns.map V.int) (ns.map PyData.int)
  | [] => .nil
  | m :: r => .cons (.int n m) (TrAll.ints r)
theorem Tr.ints {H : Hp} {n : Nat} {a : Addr} {ns : List Int} (h : H a = some (.lst (ns.map V.int))) (h1 : ns.length ≤ 1000) : Tr H (n + 1) (.ref a) (.list (ns.map PyData.int)) := .ofL h (.ints ns) (by rw [List.length_map]; exact h1)
theorem Tr.pair {H : Hp} {n : Nat} {a : Addr} {x y : Int} (h : H a = some (.tup [.int x, .int y])) : Tr H (n + 1) (.ref a) (.tuple [.int x, .int y]) := .ofT h (.cons (.int n x) (.cons (.int n y) .nil)) (by show 2 ≤ 1000; decide)
theorem Tr.two {H : Hp} {m : Nat} {x y : V} {d : PyData} (t : Tr H m x d) (u : Tr H m y d) :
    (x = .non ∧ y = .non) ∨ (∃ b, x = .bl b ∧ y = .bl b) ∨ (∃ i, x = .int i ∧ y = .int i) ∨
    (∃ n a b xs ys ds, m = n + 1 ∧ x = .ref a ∧ y = .ref b ∧ H a = some (.lst xs) ∧ H b = some (.lst ys) ∧ xs.length = List.length ds ∧ ys.length = ds.length ∧ ys.length ≤ 1000 ∧ (∀ (i : Nat) (z : V) (d : PyData), xs[i]? = some z → ds[i]? = some d → Tr H n z d) ∧ ∀ (i : Nat) (z : V) (d : PyData), ys[i]? = some z → ds[i]? = some d → Tr H n z d) ∨
    ∃ n a b xs ys ds, m = n + 1 ∧ x = .ref a ∧ y = .ref b ∧ H a = some (.tup xs) ∧ H b = some (.tup ys) ∧ xs.length = List.length ds ∧ ys.length = ds.length ∧ ys.length ≤ 1000 ∧ (∀ (i : Nat) (z : V) (d : PyData), xs[i]? = some z → ds[i]? = some d → Tr H n z d) ∧ ∀ (i : Nat) (z : V) (d : PyData), ys[i]? = some z → ds[i]? = some d → Tr H n z d := by
  cases t with
  | non n => cases u; exact .inl ⟨rfl, rfl⟩
  | bl n b => cases u; exact .inr (.inl ⟨b, rfl, rfl⟩)
  | int n i => cases u; exact .inr (.inr (.inl ⟨i, rfl, rfl⟩))
  | lst h hl h1 hh =>
    cases u with
    | lst k kl k1 kk => exact .inr (.inr (.inr (.inl ⟨_, _, _, _, _, _, rfl, rfl, rfl, h, k, hl, kl, k1, hh, kk⟩)))
  | tup h hl h1 hh =>
    cases u with
    | tup k kl k1 kk => exact .inr (.inr (.inr (.inr ⟨_, _, _, _, _, _, rfl, rfl, rfl, h, k, hl, kl, k1, hh, kk⟩)))
theorem call_list_ofK {X : Cx} {K : PySem.W.Frag} (e : X.K = K) : CallR X (.type "list") (fun xs H Q => ∃ p ys, xs = [V.ref p] ∧ (SqL K H p ys ∨ SqT K H p ys) ∧ ∀ l, H l = none → Q (V.ref l) (L2.upd H l (HO.lst ys))) := e ▸ call_list_of
theorem pe_cal0 {X : Cx} {k : Nat} {x : Str} {ps : List Str} {sp : Sp} {p pos : Pos} (C : Cal X.prog X.w X.K X.mg X.base k x ps sp) (hr : Room k X.A) (hg : Gl X x := by rfl) (hdb : (x == ("__debug__" : Str)) = false := by decide) : PE X (.Call (.Name x p) [] [] pos) (tCall sp [] E0 tNil) := by
  obtain ⟨f, fd, F, hm, hk, hb⟩ := C.ex
  exact pe_call0 F hr hg hm hk hb .nil pass0 hdb
/-- contents in a list -/
def dll (cs : List (List Int)) : PyData := .list (cs.map fun c => .list (c.map PyData.int))
theorem Tr.rows {H : Hp} {n : Nat} {a : Addr} {ps : List Addr} {cs : List (List Int)} (h : H a = some (.lst (ps.map V.ref))) (hl : ps.length = cs.length) (hr : ∀ (i : Nat) (b : Addr), ps[i]? = some b → H b = some (.lst ((cs.getD i []).map V.int))) (h1 : ps.length ≤ 1000) (h2 : ∀ c ∈ cs, c.length ≤ 1000) : Tr H (n + 2) (.ref a) (dll cs) := by
  refine .lst h (by rw [List.length_map, List.length_map, hl]) (by rw [List.length_map]; exact h1) fun i x d hx hd => ?_
  rw [List.getElem?_map] at hx hd
  cases hp : ps[i]? with
  | none => rw [hp] at hx; cases hx
  | some b =>
    rw [hp] at hx
    cases hx
    cases hc : cs[i]? with
    | none => rw [hc] at hd; cases hd
    | some c =>
      rw [hc] at hd
      cases hd
      have e := hr i b hp
      rw [List.getD_eq_getElem?_getD, hc] at e
      exact .ints e (h2 c (List.mem_of_getElem? hc))
end Gx
end

section
set_option Elab.async false
set_option linter.all false
set_option maxRecDepth 100000
set_option maxHeartbeats 4000000
namespace K52
open PySem PySem.Spec PyProof.Rows L2 GxR Gx Ma
section
variable {P : Program} {w : World} {K : PySem.W.Frag} {mg : Str → Option Value} {base : Heap}

theorem ix_seqK {X : Cx} {K : PySem.W.Frag} (e : X.K = K) : IxR X (rIx K) := e ▸ ix_seq
theorem kitLTt {K : PySem.W.Frag} : W.kitAny K (.type "tuple") [.type "list", .type "tuple"] = some true := by
  have h1 : W.kitOne K (.type "tuple") (.type "list") = some false := kit_ty (by decide +kernel)
  have h2 : W.kitOne K (.type "tuple") (.type "tuple") = some true := kit_ty (by decide +kernel)
  simp only [W.kitAny, h1, h2]
theorem same_refl (H : Hp) : Same H H := fun _ _ h => h
def sp_alikeT (n : Nat) : Sp := fun vs H Q _ => ∃ (x y : V) (d : PyData), vs = [x, y] ∧ Tr H n x d ∧ Tr H n y d ∧ ∀ H', Same H H' → Q (.bl true) H'

theorem ok__law_alikeF {f : Addr} {fd : FuncData} (F : Fun K "_law_alike" "_law_alike" s__law_alike f fd) : FnOk P w K mg base CX0 1 f fd ["found", "due"] (fun _ _ _ _ => False) := by
  refine F.ok sc__law_alike (fun vs H Q E h => ?_) (fun cdv A outer s H vs Q E hr h => ?_)
  · exact False.elim h
  · exact False.elim h

theorem ok__law_alike {f : Addr} {fd : FuncData}  (F : Fun K "_law_alike" "_law_alike" s__law_alike f fd) (B : Bl mg) {m : Nat} {spI : Sp} (hI : ∀ n, m = n + 1 → spI = sp_alikeT n) (C__law_alike : Cal P w K mg base (m + 1) "_law_alike" ["found", "due"] spI) : FnOk P w K mg base CX0 (m + 2) f fd ["found", "due"] (sp_alikeT m) := by
  refine F.ok sc__law_alike (fun vs H Q E h => ?_) (fun cdv A outer s H vs Q E hr h => ?_)
  · obtain ⟨x, y, d, rfl, _⟩ := h; rfl
  · obtain ⟨x, y, d, rfl, tx, ty, q⟩ := h
    have nd := sc__law_alike.nd
    refine ⟨_, (pss_cons (ps_if (pt_val (pe_callB call_isiT (by rfl) B.isinstance (by decide +kernel) (pa_cons (pv 1) (pa_cons (pe_tup (pa_cons (pe_bltn (v := .ty "list") (by rfl) B.list (by decide +kernel) rfl) (pa_cons (pe_bltn (v := .ty "tuple") (by rfl) B.tuple (by decide +kernel) rfl) pa_nil))) pa_nil))))
      (pss_cons (ps_if (PW.pt (pw_or (pt_not (pt_val (pe_callB call_isiT (by rfl) B.isinstance (by decide +kernel) (pa_cons (pv 0) (pa_cons (pe_tup (pa_cons (pe_bltn (v := .ty "list") (by rfl) B.list (by decide +kernel) rfl) (pa_cons (pe_bltn (v := .ty "tuple") (by rfl) B.tuple (by decide +kernel) rfl) pa_nil))) pa_nil))))) (pw_or1 (pt_cmpR op_ne (pe_callB call_isi (by rfl) B.isinstance (by decide +kernel) (pa_cons (pv 0) (pa_cons (pe_bltn (v := .ty "list") (by rfl) B.list (by decide +kernel) rfl) pa_nil))) (pe_callB call_isi (by rfl) B.isinstance (by decide +kernel) (pa_cons (pv 1) (pa_cons (pe_bltn (v := .ty "list") (by rfl) B.list (by decide +kernel) rfl) pa_nil))) (nomark _)))))
      (pss_one (ps_ret pe_bl)) pss_nil)
      (pss_cons (ps_if (pt_cmpR op_ne (pe_callB call_len_seq (by rfl) B.len PySem.boot_len (pa_cons (pv 0) pa_nil)) (pe_callB call_len_seq (by rfl) B.len PySem.boot_len (pa_cons (pv 1) pa_nil)) (nomark _))
      (pss_one (ps_ret pe_bl)) pss_nil)
      (pss_one (ps_ret (pe_callB (cr_all rfl) (by rfl) B.all (by decide +kernel) (pa_cons (pe_lc (own := [("k", 2)]) (g := gName 2) rfl nd (pi_range1 rfl B.range (pa_cons (pe_callB call_len_seq (by rfl) B.len PySem.boot_len (pa_cons (pv 1) pa_nil)) pa_nil)) (blkOk_by (own := [("k", 2)]) (N := ["found", "due", "k"]) (sc := defScope s__law_alike) (by decide +kernel)) (fun _ _ _ _ _ => (pg_name (i := 2) nd rfl (Or.inl rfl))) (fun _ _ _ _ _ => pts_nil) (fun _ _ _ _ _ => (pe_cal C__law_alike (hr.mono (by omega)) (pa_cons (pe_ix (ix_seqK (K := K) rfl) (pv 0) (pv 2) (fun _ _ => rfl)) (pa_cons (pe_ix (ix_seqK (K := K) rfl) (pv 1) (pv 2) (fun _ _ => rfl)) pa_nil))))) pa_nil)))))) pss_nil)
      (pss_cons (ps_if (PW.pt (pw_or (pt_cmpR op_ne (pe_callB call_isi (by rfl) B.isinstance (by decide +kernel) (pa_cons (pv 0) (pa_cons (pe_bltn (v := .ty "bool") (by rfl) B.bool (by decide +kernel) rfl) pa_nil))) (pe_callB call_isi (by rfl) B.isinstance (by decide +kernel) (pa_cons (pv 1) (pa_cons (pe_bltn (v := .ty "bool") (by rfl) B.bool (by decide +kernel) rfl) pa_nil))) (nomark _)) (pw_or1 (pt_cmpR op_ne (pe_callB call_isi (by rfl) B.isinstance (by decide +kernel) (pa_cons (pv 0) (pa_cons (pe_bltn (v := .ty "int") (by rfl) B.int (by decide +kernel) rfl) pa_nil))) (pe_callB call_isi (by rfl) B.isinstance (by decide +kernel) (pa_cons (pv 1) (pa_cons (pe_bltn (v := .ty "int") (by rfl) B.int (by decide +kernel) rfl) pa_nil))) (nomark _)))))
      (pss_one (ps_ret pe_bl)) pss_nil)
      (pss_one (ps_ret (pe_and (pe_cmpR op_eq (pe_callB call_isi (by rfl) B.isinstance (by decide +kernel) (pa_cons (pv 0) (pa_cons (pe_bltn (v := .ty "str") (by rfl) B.str (by decide +kernel) rfl) pa_nil))) (pe_callB call_isi (by rfl) B.isinstance (by decide +kernel) (pa_cons (pv 1) (pa_cons (pe_bltn (v := .ty "str") (by rfl) B.str (by decide +kernel) rfl) pa_nil))) (nomark _)) (pe_one (pe_cmpR (op_eqD hr.units) (pv 0) (pv 1) (nomark _)))))))), ?_⟩
    rcases tx.two ty with ⟨rfl, rfl⟩ | ⟨x, rfl, rfl⟩ | ⟨i, rfl, rfl⟩ | ⟨n, l, l2, xs, ys, ds, hm, rfl, rfl, h1, h2, k1, k2, b2, hh1, hh2⟩ | ⟨n, l, l2, xs, ys, ds, hm, rfl, rfl, h1, h2, k1, k2, b2, hh1, hh2⟩
    · refine ⟨.non, rfl, by show 2 ≤ 16777216; decide, fun tp ntp => ?_⟩
      have sT := sameN (o := .tup [.ty "list", .ty "tuple"]) ntp
      refine ⟨.non, tp, [.ty "list", .ty "tuple"], .type "NoneType", [.type "list", .type "tuple"], false, rfl, upd_same, .cons (.ty _) (.cons (.ty _) .nil), .base (.non), kitLT (kit_ty (by decide +kernel)) (kit_ty (by decide +kernel)), false, rfl, iteF ?_⟩
      refine ⟨.non, rfl, .non, .ty "bool", .type "NoneType", .type "bool", false, rfl, .ty _, .base (.non), kit_ty (by decide +kernel), .non, rfl, .non, .ty "bool", .type "NoneType", .type "bool", false, rfl, .ty _, .base (.non), kit_ty (by decide +kernel), rfl, _, rfl, iteNS rfl ?_⟩
      refine ⟨.non, rfl, .non, .ty "int", .type "NoneType", .type "int", false, rfl, .ty _, .base (.non), kit_ty (by decide +kernel), .non, rfl, .non, .ty "int", .type "NoneType", .type "int", false, rfl, .ty _, .base (.non), kit_ty (by decide +kernel), rfl, _, rfl, iteNS rfl ?_⟩
      refine ⟨.non, rfl, .non, .ty "str", .type "NoneType", .type "str", false, rfl, .ty _, .base (.non), kit_ty (by decide +kernel), .non, rfl, .non, .ty "str", .type "NoneType", .type "str", false, rfl, .ty _, .base (.non), kit_ty (by decide +kernel), rfl, _, rfl, ?_⟩
      rw [decide_eq_true rfl]
      refine iteT ⟨.non, rfl, .non, rfl, .none, .none, .non, .non, rfl, rfl, ?_⟩
      rw [SeqAt.eqv_refl (.none) rfl]
      exact q _ sT
    · refine ⟨.bl x, rfl, by show 2 ≤ 16777216; decide, fun tp ntp => ?_⟩
      have sT := sameN (o := .tup [.ty "list", .ty "tuple"]) ntp
      refine ⟨.bl x, tp, [.ty "list", .ty "tuple"], .type "bool", [.type "list", .type "tuple"], false, rfl, upd_same, .cons (.ty _) (.cons (.ty _) .nil), .base (.bl x), kitLT (kit_ty (by decide +kernel)) (kit_ty (by decide +kernel)), false, rfl, iteF ?_⟩
      refine ⟨.bl x, rfl, .bl x, .ty "bool", .type "bool", .type "bool", true, rfl, .ty _, .base (.bl x), kit_ty (by decide +kernel), .bl x, rfl, .bl x, .ty "bool", .type "bool", .type "bool", true, rfl, .ty _, .base (.bl x), kit_ty (by decide +kernel), rfl, _, rfl, iteNS rfl ?_⟩
      refine ⟨.bl x, rfl, .bl x, .ty "int", .type "bool", .type "int", true, rfl, .ty _, .base (.bl x), kit_ty (by decide +kernel), .bl x, rfl, .bl x, .ty "int", .type "bool", .type "int", true, rfl, .ty _, .base (.bl x), kit_ty (by decide +kernel), rfl, _, rfl, iteNS rfl ?_⟩
      refine ⟨.bl x, rfl, .bl x, .ty "str", .type "bool", .type "str", false, rfl, .ty _, .base (.bl x), kit_ty (by decide +kernel), .bl x, rfl, .bl x, .ty "str", .type "bool", .type "str", false, rfl, .ty _, .base (.bl x), kit_ty (by decide +kernel), rfl, _, rfl, ?_⟩
      rw [decide_eq_true rfl]
      refine iteT ⟨.bl x, rfl, .bl x, rfl, .bool x, .bool x, .bl x, .bl x, rfl, rfl, ?_⟩
      rw [SeqAt.eqv_refl (.bool x) rfl]
      exact q _ sT
    · refine ⟨.int i, rfl, by show 2 ≤ 16777216; decide, fun tp ntp => ?_⟩
      have sT := sameN (o := .tup [.ty "list", .ty "tuple"]) ntp
      refine ⟨.int i, tp, [.ty "list", .ty "tuple"], .type "int", [.type "list", .type "tuple"], false, rfl, upd_same, .cons (.ty _) (.cons (.ty _) .nil), .base (.int i), kitLT (kit_ty (by decide +kernel)) (kit_ty (by decide +kernel)), false, rfl, iteF ?_⟩
      refine ⟨.int i, rfl, .int i, .ty "bool", .type "int", .type "bool", false, rfl, .ty _, .base (.int i), kit_ty (by decide +kernel), .int i, rfl, .int i, .ty "bool", .type "int", .type "bool", false, rfl, .ty _, .base (.int i), kit_ty (by decide +kernel), rfl, _, rfl, iteNS rfl ?_⟩
      refine ⟨.int i, rfl, .int i, .ty "int", .type "int", .type "int", true, rfl, .ty _, .base (.int i), kit_ty (by decide +kernel), .int i, rfl, .int i, .ty "int", .type "int", .type "int", true, rfl, .ty _, .base (.int i), kit_ty (by decide +kernel), rfl, _, rfl, iteNS rfl ?_⟩
      refine ⟨.int i, rfl, .int i, .ty "str", .type "int", .type "str", false, rfl, .ty _, .base (.int i), kit_ty (by decide +kernel), .int i, rfl, .int i, .ty "str", .type "int", .type "str", false, rfl, .ty _, .base (.int i), kit_ty (by decide +kernel), rfl, _, rfl, ?_⟩
      rw [decide_eq_true rfl]
      refine iteT ⟨.int i, rfl, .int i, rfl, .int i, .int i, .int i, .int i, rfl, rfl, ?_⟩
      rw [SeqAt.eqv_refl (.int i) rfl]
      exact q _ sT
    · have hsp := hI n hm
      subst hsp
      refine ⟨.ref l2, rfl, by show 2 ≤ 16777216; decide, fun tp ntp => ?_⟩
      have sT := sameN (o := .tup [.ty "list", .ty "tuple"]) ntp
      have htp : L2.upd H tp (.tup [.ty "list", .ty "tuple"]) tp = some (.tup [.ty "list", .ty "tuple"]) := upd_same
      generalize L2.upd H tp (.tup [.ty "list", .ty "tuple"]) = H1 at *
      have e1 := sT _ _ h1
      have e2 := sT _ _ h2
      refine ⟨.ref l2, tp, [.ty "list", .ty "tuple"], .type "list", [.type "list", .type "tuple"], true, rfl, htp, .cons (.ty _) (.cons (.ty _) .nil), .base (.lst e2), kitLL, true, rfl, iteT ?_⟩
      refine ⟨.ref l, rfl, by show 2 ≤ 16777216; decide, fun tp2 ntp2 => ?_⟩
      have sT2 := sameN (o := .tup [.ty "list", .ty "tuple"]) ntp2
      have htp2 : L2.upd H1 tp2 (.tup [.ty "list", .ty "tuple"]) tp2 = some (.tup [.ty "list", .ty "tuple"]) := upd_same
      generalize L2.upd H1 tp2 (.tup [.ty "list", .ty "tuple"]) = H2 at *
      have e12 := sT2 _ _ e1
      have e22 := sT2 _ _ e2
      refine ⟨.ref l, tp2, [.ty "list", .ty "tuple"], .type "list", [.type "list", .type "tuple"], true, rfl, htp2, .cons (.ty _) (.cons (.ty _) .nil), .base (.lst e12), kitLL, true, rfl, iteF ?_⟩
      refine ⟨.ref l, rfl, .ref l, .ty "list", .type "list", .type "list", true, rfl, .ty _, .base (.lst e12), kit_ty (by decide +kernel), .ref l2, rfl, .ref l2, .ty "list", .type "list", .type "list", true, rfl, .ty _, .base (.lst e22), kit_ty (by decide +kernel), rfl, _, rfl, iteNS rfl ?_⟩
      refine ⟨.ref l, rfl, l, _, rfl, .inl (SqL.of e12), .ref l2, rfl, l2, _, rfl, .inl (SqL.of e22), rfl, _, rfl, iteNS (by rw [k1, k2]) ?_⟩
      refine ⟨.ref l2, rfl, l2, _, rfl, .inl (SqL.of e22), (ys.length : Int), rfl, by omega, by omega, fun D hD => lc_range (lo := 0) (n := (ys.length : Int).toNat) (fun i H' => Same H2 H' ∧ H' D = some (.lst ((List.replicate i true).map V.bl))) ⟨sameN hD, upd_same⟩ (fun i H' hi ⟨g1, g2⟩ => ?_) (fun H' ⟨g1, g2⟩ => ?_)⟩
      · rw [show (0 : Int) + (i : Nat) = (i : Nat) from Int.zero_add _]
        have hil : i < ys.length := by omega
        have hgy := List.getElem?_eq_getElem hil
        have hgx := List.getElem?_eq_getElem (show i < xs.length by omega)
        have hgd := List.getElem?_eq_getElem (show i < ds.length by omega)
        have t1 := hh1 i _ _ hgx hgd
        have t2 := hh2 i _ _ hgy hgd
        refine ⟨rfl, .ref l, rfl, .int (i : Nat), rfl, .inl ⟨l, _, i, _, rfl, rfl, SqL.of (g1 _ _ e12), atI_nat hgx, .ref l2, rfl, .int (i : Nat), rfl, .inl ⟨l2, _, i, _, rfl, rfl, SqL.of (g1 _ _ e22), atI_nat hgy, _, _, _, rfl, t1.same ((sT.trans sT2).trans g1), t2.same ((sT.trans sT2).trans g1), fun H3 s3 => ⟨_, s3 _ _ g2, ?_, fun y o hy => ?_, ?_⟩⟩⟩⟩
        · rw [List.length_map, List.length_replicate]
          show i < 16777216
          omega
        · rw [upd_ne (ne_of_none hy hD)]
          exact (g1.trans s3) y o hy
        · rw [upd_same, List.replicate_succ', List.map_append]
          rfl
      refine ⟨D, _, rfl, SqL.of g2, ?_⟩
      have ea : (List.replicate (ys.length : Int).toNat true).all id = true := by
        rw [List.all_eq_true]
        intro x hx
        rw [(List.mem_replicate.mp hx).2]
        rfl
      rw [ea]
      exact q _ ((sT.trans sT2).trans g1)
    · have hsp := hI n hm
      subst hsp
      refine ⟨.ref l2, rfl, by show 2 ≤ 16777216; decide, fun tp ntp => ?_⟩
      have sT := sameN (o := .tup [.ty "list", .ty "tuple"]) ntp
      have htp : L2.upd H tp (.tup [.ty "list", .ty "tuple"]) tp = some (.tup [.ty "list", .ty "tuple"]) := upd_same
      generalize L2.upd H tp (.tup [.ty "list", .ty "tuple"]) = H1 at *
      have e1 := sT _ _ h1
      have e2 := sT _ _ h2
      refine ⟨.ref l2, tp, [.ty "list", .ty "tuple"], .type "tuple", [.type "list", .type "tuple"], true, rfl, htp, .cons (.ty _) (.cons (.ty _) .nil), .base (.tup e2), kitLTt, true, rfl, iteT ?_⟩
      refine ⟨.ref l, rfl, by show 2 ≤ 16777216; decide, fun tp2 ntp2 => ?_⟩
      have sT2 := sameN (o := .tup [.ty "list", .ty "tuple"]) ntp2
      have htp2 : L2.upd H1 tp2 (.tup [.ty "list", .ty "tuple"]) tp2 = some (.tup [.ty "list", .ty "tuple"]) := upd_same
      generalize L2.upd H1 tp2 (.tup [.ty "list", .ty "tuple"]) = H2 at *
      have e12 := sT2 _ _ e1
      have e22 := sT2 _ _ e2
      refine ⟨.ref l, tp2, [.ty "list", .ty "tuple"], .type "tuple", [.type "list", .type "tuple"], true, rfl, htp2, .cons (.ty _) (.cons (.ty _) .nil), .base (.tup e12), kitLTt, true, rfl, iteF ?_⟩
      refine ⟨.ref l, rfl, .ref l, .ty "list", .type "tuple", .type "list", false, rfl, .ty _, .base (.tup e12), kit_ty (by decide +kernel), .ref l2, rfl, .ref l2, .ty "list", .type "tuple", .type "list", false, rfl, .ty _, .base (.tup e22), kit_ty (by decide +kernel), rfl, _, rfl, iteNS rfl ?_⟩
      refine ⟨.ref l, rfl, l, _, rfl, .inr (SqT.of e12), .ref l2, rfl, l2, _, rfl, .inr (SqT.of e22), rfl, _, rfl, iteNS (by rw [k1, k2]) ?_⟩
      refine ⟨.ref l2, rfl, l2, _, rfl, .inr (SqT.of e22), (ys.length : Int), rfl, by omega, by omega, fun D hD => lc_range (lo := 0) (n := (ys.length : Int).toNat) (fun i H' => Same H2 H' ∧ H' D = some (.lst ((List.replicate i true).map V.bl))) ⟨sameN hD, upd_same⟩ (fun i H' hi ⟨g1, g2⟩ => ?_) (fun H' ⟨g1, g2⟩ => ?_)⟩
      · rw [show (0 : Int) + (i : Nat) = (i : Nat) from Int.zero_add _]
        have hil : i < ys.length := by omega
        have hgy := List.getElem?_eq_getElem hil
        have hgx := List.getElem?_eq_getElem (show i < xs.length by omega)
        have hgd := List.getElem?_eq_getElem (show i < ds.length by omega)
        have t1 := hh1 i _ _ hgx hgd
        have t2 := hh2 i _ _ hgy hgd
        refine ⟨rfl, .ref l, rfl, .int (i : Nat), rfl, .inr (.inl ⟨l, _, i, _, rfl, rfl, SqT.of (g1 _ _ e12), atI_nat hgx, .ref l2, rfl, .int (i : Nat), rfl, .inr (.inl ⟨l2, _, i, _, rfl, rfl, SqT.of (g1 _ _ e22), atI_nat hgy, _, _, _, rfl, t1.same ((sT.trans sT2).trans g1), t2.same ((sT.trans sT2).trans g1), fun H3 s3 => ⟨_, s3 _ _ g2, ?_, fun y o hy => ?_, ?_⟩⟩)⟩)⟩
        · rw [List.length_map, List.length_replicate]
          show i < 16777216
          omega
        · rw [upd_ne (ne_of_none hy hD)]
          exact (g1.trans s3) y o hy
        · rw [upd_same, List.replicate_succ', List.map_append]
          rfl
      refine ⟨D, _, rfl, SqL.of g2, ?_⟩
      have ea : (List.replicate (ys.length : Int).toNat true).all id = true := by
        rw [List.all_eq_true]
        intro x hx
        rw [(List.mem_replicate.mp hx).2]
        rfl
      rw [ea]
      exact q _ ((sT.trans sT2).trans g1)

end
end K52
end

section
set_option Elab.async false
set_option linter.all false
set_option maxRecDepth 100000
set_option maxHeartbeats 4000000
/-! list(zip(xs, ys)), xs and ys tracked lists, as a value. -/
namespace L2
open PySem PySem.Spec PyProof.Rows
theorem nolen_zip : typeLookup (.type "zip") "__len__" = pure none := by rw [typeLookup_type, builtinLookup_eq_fast]; kernel_rfl
theorem nohint_zip : typeLookup (.type "zip") "__length_hint__" = pure none := by rw [typeLookup_type, builtinLookup_eq_fast]; kernel_rfl
section
variable {X : Cx} {pins : List (Addr × Obj)} {σ : St} {H : Hp} {s s' : Shared}
/-- a zip of the lists at a and b that stands at i -/
structure ZpS (h : Heap) (z TI TO i1 i2 a b : Addr) (i : Nat) : Prop where
  zz : (IsZip h z TI TO .none ∧ ∃ u v, IsPair h TO u v) ∨ ∃ T f oT, IsZipHeld h z TI TO T f ∧ h.get? T = some oT
  ti : IsPair h TI (.ref i1) (.ref i2)
  h1 : h.IsListIter i1 a i
  h2 : h.IsListIter i2 b i
  to : ∃ o, h.get? TO = some o
theorem ZpS.type {h : Heap} {z TI TO i1 i2 a b : Addr} {i : Nat} (Z : ZpS h z TI TO i1 i2 a b i) : ∃ o, h.get? z = some o ∧ o.cls = .type "zip" := by
  rcases Z.zz with ⟨e, _⟩ | ⟨T, f, oT, e, _⟩
  · exact ⟨_, e, rfl⟩
  · exact ⟨_, e, rfl⟩
/-- the list at q is written, all else stays -/
theorem ZpS.but {h h' : Heap} {z TI TO i1 i2 a b q : Addr} {i : Nat} (Z : ZpS h z TI TO i1 i2 a b i) (k : ∀ c, c ≠ q → h'.get? c = h.get? c) (kq : ∀ o, h.get? q = some o → ∃ o', h'.get? q = some o')
    (q1 : z ≠ q) (q2 : TI ≠ q) (q3 : TO ≠ q) (q4 : i1 ≠ q) (q5 : i2 ≠ q) : ZpS h' z TI TO i1 i2 a b i := by
  refine ⟨?_, (k _ q2).trans Z.ti, Z.h1.at fun o e => (k _ q4).trans e, Z.h2.at fun o e => (k _ q5).trans e, let ⟨o, e⟩ := Z.to; ⟨o, (k _ q3).trans e⟩⟩
  rcases Z.zz with ⟨e, u, v, e2⟩ | ⟨T, f, oT, e, e2⟩
  · exact .inl ⟨(k _ q1).trans e, u, v, (k _ q3).trans e2⟩
  · refine .inr ?_
    by_cases hT : T = q
    · subst hT
      obtain ⟨o', e'⟩ := kq _ e2
      exact ⟨T, f, o', (k _ q1).trans e, e'⟩
    · exact ⟨T, f, oT, (k _ q1).trans e, (k _ hT).trans e2⟩
theorem zp_next {A : Around} {E : Value → Shared → Prop} {Q : Option Value → Shared → Prop} {z TI TO i1 i2 a b : Addr} {i : Nat} {xs ys : List V} (hh : A.handled = none) (D : ZipApart z TI TO i1 i2 a b) (I : Inv X pins σ H s) (Z : ZpS s.heap z TI TO i1 i2 a b i)
    (hf : ∀ c ∈ [z, TI, TO, i1, i2], FpOk X pins H c) (ha : SqL X.K H a xs) (hb : SqL X.K H b ys)
    (hitem : ∀ x y h', xs[i]? = some x → ys[i]? = some y → H s.heap.objs.size = none → Inv X pins σ (upd H s.heap.objs.size (.tup [x, y])) { s with heap := h' } → ZpS h' z TI TO i1 i2 a b (i + 1) → (∀ c ∈ [z, TI, TO, i1, i2], FpOk X pins (upd H s.heap.objs.size (.tup [x, y])) c) → Q (some (.ref s.heap.objs.size)) { s with heap := h' })
    (hend : ∀ h', (xs[i]? = none ∨ ys[i]? = none) → Inv X pins σ H { s with heap := h' } → Q none { s with heap := h' }) : wpAny (model X.prog X.w) A (pyNext (.ref z)) Q E s := by
  obtain ⟨its, rv, p, _⟩ := I.list ha
  obtain ⟨its2, rv2, p2, _⟩ := I.list hb
  have l1 := rv.length
  have l2 := rv2.length
  have hlt : ∀ c ∈ [z, TI, TO, i1, i2], c ≠ TO → c < s.heap.objs.size := fun c hc hne => by
    have e' : c = z ∨ c = TI ∨ c = TO ∨ c = i1 ∨ c = i2 := by simpa using hc
    rcases e' with q | q | q | q | q
    · obtain ⟨o, e, _⟩ := Z.type
      rw [q]; exact Heap.lt_size e
    · rw [q]; exact Heap.lt_size Z.ti
    · exact absurd q hne
    · rw [q]; obtain ⟨_, e1, _⟩ := Z.h1; exact Heap.lt_size e1
    · rw [q]; obtain ⟨_, e2, _⟩ := Z.h2; exact Heap.lt_size e2
  by_cases hx : i < xs.length ∧ i < ys.length
  · obtain ⟨hx1, hx2⟩ := hx
    have ex : xs[i]? = some xs[i] := List.getElem?_eq_getElem hx1
    have ey : ys[i]? = some ys[i] := List.getElem?_eq_getElem hx2
    obtain ⟨u, hu, ru⟩ := rv.get ex
    obtain ⟨u2, hu2, ru2⟩ := rv2.get ey
    have hn : H s.heap.objs.size = none := I.hok.fresh (Nat.le_refl _)
    have fp : ∀ (TOlt : TO < s.heap.objs.size) (ob : HO), ∀ c ∈ [z, TI, TO, i1, i2], FpOk X pins (upd H s.heap.objs.size ob) c := fun TOlt ob c hc => by
      have hc2 : c < s.heap.objs.size := by
        by_cases hT : c = TO
        · rw [hT]; exact TOlt
        · exact hlt c hc hT
      exact ⟨by rw [upd_ne (Nat.ne_of_lt hc2)]; exact (hf c hc).1, (hf c hc).2⟩
    rcases Z.zz with ⟨hz, x0, y0, hTO⟩ | ⟨T, f, oT, hz, hT⟩
    · refine wpAny_pyNext_zip_item D hz Z.ti hTO Z.h1 Z.h2 p.isList p2.isList (x := u) (y := u2) (by simpa using hu) (by simpa using hu2) fun h' z' TO' h1' h2' hT hsz hk => ?_
      have new : ObjOk X.prog X.w (upd H s.heap.objs.size (.tup [xs[i], ys[i]])) h' s.heap.objs.size (.tup [xs[i], ys[i]]) :=
        ⟨by show 2 ≤ sizeLine; decide, [u, u2], .cons ru (.cons ru2 .nil), ⟨_, hT, rfl, _, rfl⟩⟩
      have I1 : Inv X pins σ (upd H s.heap.objs.size (.tup [xs[i], ys[i]])) { s with heap := h' } :=
        I.turnedNew (t' := s.toks) (ch := [z, TI, TO, i1, i2]) (fun c o hb q => hk c o (fun q' => hb (by simp [q'])) (fun q' => hb (by simp [q'])) (fun q' => hb (by simp [q'])) (fun q' => hb (by simp [q'])) q) hf (Nat.le_refl _) new
      exact hitem _ _ h' ex ey hn I1 ⟨.inr ⟨_, false, _, z', hT⟩, hk _ _ D.TIz D.TITO D.TIi1 D.TIi2 Z.ti, h1', h2', ⟨_, TO'⟩⟩ (fp (Heap.lt_size hTO) _)
    · refine wpAny_pyNext_zip_item_held D hz hT Z.ti Z.h1 Z.h2 p.isList p2.isList (x := u) (y := u2) (by simpa using hu) (by simpa using hu2) fun h' z' h1' h2' hT' hsz hk => ?_
      have new : ObjOk X.prog X.w (upd H s.heap.objs.size (.tup [xs[i], ys[i]])) h' s.heap.objs.size (.tup [xs[i], ys[i]]) :=
        ⟨by show 2 ≤ sizeLine; decide, [u, u2], .cons ru (.cons ru2 .nil), ⟨_, hT', rfl, _, rfl⟩⟩
      have I1 : Inv X pins σ (upd H s.heap.objs.size (.tup [xs[i], ys[i]])) { s with heap := h' } :=
        I.turnedNew (t' := s.toks) (ch := [z, TI, TO, i1, i2]) (fun c o hb q => hk c o (fun q' => hb (by simp [q'])) (fun q' => hb (by simp [q'])) (fun q' => hb (by simp [q'])) q) hf (Nat.le_refl _) new
      obtain ⟨oO, hO⟩ := Z.to
      have alive : ∃ o', h'.get? T = some o' := by
        by_cases t1 : T = z
        · rw [t1]; exact ⟨_, z'⟩
        by_cases t2 : T = i1
        · rw [t2]; obtain ⟨o', e, _⟩ := h1'; exact ⟨o', e⟩
        by_cases t3 : T = i2
        · rw [t3]; obtain ⟨o', e, _⟩ := h2'; exact ⟨o', e⟩
        exact ⟨oT, hk _ _ t1 t2 t3 hT⟩
      obtain ⟨o', ea⟩ := alive
      exact hitem _ _ h' ex ey hn I1 ⟨.inr ⟨T, true, o', z', ea⟩, hk _ _ D.TIz D.TIi1 D.TIi2 Z.ti, h1', h2', ⟨oO, hk _ _ D.TOz D.TOi1 D.TOi2 hO⟩⟩ (fp (Heap.lt_size hO) _)
  · have he : its.toArray[i]? = none ∨ its2.toArray[i]? = none := by
      by_cases h : i < xs.length
      · exact .inr (by simp; omega)
      · exact .inl (by simp; omega)
    have he2 : xs[i]? = none ∨ ys[i]? = none := by
      by_cases h : i < xs.length
      · exact .inr (by simp; omega)
      · exact .inl (by simp; omega)
    rcases Z.zz with ⟨hz, x0, y0, hTO⟩ | ⟨T, f, oT, hz, hT⟩
    · exact wpAny_pyNext_zip_end hh D hz Z.ti hTO Z.h1 Z.h2 p.isList p2.isList he fun h' hk => hend h' he2 (I.turnedL (t' := s.toks) (ch := [z, TI, TO, i1, i2]) (fun c o hb q =>
        hk c o (fun q' => hb (by simp [q'])) (fun q' => hb (by simp [q'])) (fun q' => hb (by simp [q'])) (fun q' => hb (by simp [q'])) q) hf)
    · exact wpAny_pyNext_zip_end_held hh D hz hT Z.ti Z.h1 Z.h2 p.isList p2.isList he fun h' hk => hend h' he2 (I.turnedL (t' := s.toks) (ch := [z, TI, TO, i1, i2]) (fun c o hb q =>
        hk c o (fun q' => hb (by simp [q'])) (fun q' => hb (by simp [q'])) (fun q' => hb (by simp [q'])) q) hf)
theorem sql_keep {K : PySem.W.Frag} {H H' : Hp} {a : Addr} {xs : List V} (h : SqL K H a xs) (k : ∀ o, H a = some o → H' a = some o) : SqL K H' a xs :=
  h.elim (fun h => .inl (h.elim (fun h => .inl (k _ h)) fun ⟨o, h⟩ => .inr ⟨o, k _ h⟩)) .inr
/-- pairs at the addresses as -/
def PairsAt (H : Hp) (xs ys : List V) (as : List Addr) : Prop := ∀ (j : Nat) (t : Addr), as[j]? = some t → ∃ x y, xs[j]? = some x ∧ ys[j]? = some y ∧ H t = some (.tup [x, y])
theorem zp_loop {A1 : Around} {z TI TO i1 i2 a b q : Addr} {xs ys : List V} {Rs : Result → Shared → Prop} {H0 : Hp} (hh : A1.in1.handled = none) (D : ZipApart z TI TO i1 i2 a b)
    (hdone : ∀ (as : List Addr) (H : Hp) (s : Shared), Inv X pins σ H s → (∀ c o, c ≠ q → H0 c = some o → H c = some o) → H q = some (.lst (as.map V.ref)) → as.length = min xs.length ys.length → PairsAt H xs ys as → Rs (.ok (.ret .none)) s) (hsz : xs.length < sizeLine) :
    ∀ (m : Nat) (as : List Addr) (H : Hp) (s : Shared), Inv X pins σ H s → ZpS s.heap z TI TO i1 i2 a b as.length → (∀ c ∈ [z, TI, TO, i1, i2], FpOk X pins H c) → SqL X.K H a xs → SqL X.K H b ys → a ≠ q → b ≠ q → as.length + m = min xs.length ys.length →
      (∀ c o, c ≠ q → H0 c = some o → H c = some o) → H q = some (.lst (as.map V.ref)) → PairsAt H xs ys as → codeAny (model X.prog X.w) A1 (.builtin "list.extend.loop" ⟨[.ref q, .ref z, .none], []⟩) Rs s := by
  intro m
  induction m with
  | zero =>
    intro as H s I Z hf ha hb aq bq hm k0 hq hp
    refine codeAny_builtin PySem.F.entry_extend_loop ?_
    rw [Around.under_plainId PySem.F.plain_extend_loop _]
    show wpAny _ A1.in1 (pyNext (.ref z) >>= _) _ _ s
    refine wpAny_bind (zp_next hh D I Z hf ha hb (fun x y h' e1 e2 _ _ _ _ => ?_) fun h' he I' => ?_)
    · have := (List.getElem?_eq_some_iff.mp e1).1
      have := (List.getElem?_eq_some_iff.mp e2).1
      omega
    · exact wpAny_pure (hdone as H _ I' k0 hq (by omega) hp)
  | succ m ih =>
    intro as H s I Z hf ha hb aq bq hm k0 hq hp
    refine codeAny_builtin PySem.F.entry_extend_loop ?_
    rw [Around.under_plainId PySem.F.plain_extend_loop _]
    show wpAny _ A1.in1 (pyNext (.ref z) >>= _) _ _ s
    refine wpAny_bind (zp_next hh D I Z hf ha hb (fun x y h' e1 e2 hn I' Z' hf' => ?_) fun h' he I' => ?_)
    · show wpAny _ A1.in1 (updateSeq q (·.push (.ref s.heap.objs.size)) >>= _) _ _ _
      have hqn : q ≠ s.heap.objs.size := ne_of_none hq hn
      have hq' : upd H s.heap.objs.size (.tup [x, y]) q = some (.lst (as.map V.ref)) := by rw [upd_ne hqn]; exact hq
      obtain ⟨zz, its, k, r2, hl, e⟩ := I'.lstM hq'
      have hll : its.length = as.length := by rw [← hl, List.length_map]
      refine wpAny_bind (wpAny_updateSeq e rfl (wpAny_pure ⟨plainId_quiet PySem.F.plain_extend_loop _, ?_⟩) (by rw [List.size_toArray]; omega) (by show (its.toArray.push _).size ≤ sizeLine + 1; rw [Array.size_push, List.size_toArray]; omega))
      have ne : ∀ c ∈ [z, TI, TO, i1, i2], c ≠ q := fun c hc e => by
        have h2 := (hf c hc).1
        rw [e, hq] at h2
        cases h2
      have I2 := I'.lset (f := (·.push (Value.ref s.heap.objs.size))) (its' := its ++ [.ref s.heap.objs.size]) (ys := as.map V.ref ++ [.ref s.heap.objs.size]) (t' := s.toks) hq' e (by simp) (r2.append (.cons (show RelV (V.ref s.heap.objs.size) (Value.ref s.heap.objs.size) from rfl) .nil)) (by rw [List.length_append, List.length_map, List.length_singleton]; omega)
      have fr2 : ∀ c o, H c = some o → c ≠ s.heap.objs.size := fun c o e => ne_of_none e hn
      have keep : ∀ c o, c ≠ q → H c = some o → upd (upd H s.heap.objs.size (.tup [x, y])) q (.lst (as.map V.ref ++ [V.ref s.heap.objs.size])) c = some o := fun c o hc e => by rw [upd_ne hc, upd_ne (fr2 c o e)]; exact e
      refine ih (as ++ [s.heap.objs.size]) _ _ I2 ?_ (fun c hc => ?_) ?_ ?_ aq bq (by rw [List.length_append, List.length_singleton]; omega) (fun c o hc e => keep c o hc (k0 c o hc e)) (by rw [upd_same, List.map_append]; rfl) (fun j t hj => ?_)
      · rw [List.length_append, List.length_singleton]
        refine Z'.but (q := q) (fun c hc => Heap.get?_update_other _ _ (Ne.symm hc)) (fun _ _ => ⟨_, PySem.IsL.update e _⟩) (ne _ (by simp)) (ne _ (by simp)) (ne _ (by simp)) (ne _ (by simp)) (ne _ (by simp))
      · exact ⟨by rw [upd_ne (ne c hc)]; exact (hf' c hc).1, (hf' c hc).2⟩
      · exact sql_keep ha fun o e => keep a o aq e
      · exact sql_keep hb fun o e => keep b o bq e
      · rcases Nat.lt_or_ge j as.length with h | h
        · rw [List.getElem?_append_left h] at hj
          obtain ⟨x', y', q1, q2, q3⟩ := hp j t hj
          exact ⟨x', y', q1, q2, keep t _ (fun e => by rw [e, hq] at q3; cases q3) q3⟩
        · rw [List.getElem?_append_right h] at hj
          have h0 : j = as.length := by
            have := (List.getElem?_eq_some_iff.mp hj).1
            rw [List.length_singleton] at this
            omega
          subst h0
          rw [Nat.sub_self] at hj
          obtain rfl : s.heap.objs.size = t := Option.some.inj hj
          exact ⟨x, y, e1, e2, by rw [upd_ne (Ne.symm hqn), upd_same]⟩
    · have h1 : as.length < xs.length := by omega
      have h2 : as.length < ys.length := by omega
      rw [List.getElem?_eq_getElem h1, List.getElem?_eq_getElem h2] at he
      rcases he with e | e <;> cases e
/-- nothing is said of a zip's length -/
theorem zip_hint {M : Model} {A : Around} {E : Value → Shared → Prop} {Q : Bool → Shared → Prop} {z : Addr} (hT : s.TypeIs (.ref z) "zip") (h : Q true s) : wpAny M A (Builtin.List.listLengthHint (.ref z)) Q E s := by
  unfold Builtin.List.listLengthHint
  refine wpAny_bind (wpAny_specialOf hT nolen_zip ?_)
  refine PySem.W.KFB.if_not rfl ?_
  refine PySem.W.KFB.if_not rfl ?_
  refine wpAny_bind (wpAny_specialOf hT nohint_zip ?_)
  exact wpAny_pure h
theorem zp_extend {A1 : Around} {z TI TO i1 i2 a b q : Addr} {xs ys : List V} {Rs : Result → Shared → Prop} {H0 : Hp} (hh : A1.in1.handled = none) (D : ZipApart z TI TO i1 i2 a b)
    (hdone : ∀ (as : List Addr) (H : Hp) (s : Shared), Inv X pins σ H s → (∀ c o, c ≠ q → H0 c = some o → H c = some o) → H q = some (.lst (as.map V.ref)) → as.length = min xs.length ys.length → PairsAt H xs ys as → Rs (.ok (.ret .none)) s) (hsz : xs.length < sizeLine)
    (I : Inv X pins σ H s) (Z : ZpS s.heap z TI TO i1 i2 a b 0) (hf : ∀ c ∈ [z, TI, TO, i1, i2], FpOk X pins H c) (ha : SqL X.K H a xs) (hb : SqL X.K H b ys) (aq : a ≠ q) (bq : b ≠ q) (k0 : ∀ c o, c ≠ q → H0 c = some o → H c = some o) (hq : H q = some (.lst [])) :
    wpAny (model X.prog X.w) A1.in1 (Builtin.List.listExtendWith (.ref q) (.ref z) .none)
      (fun fin s' => match fin with | .done f => Rs (.ok f) s' | .again c' => c'.quiet = true ∧ codeAny (model X.prog X.w) A1 c' Rs s') (fun e s' => Rs (.error e) s') s := by
  have hT : s.TypeIs (.ref z) "zip" := let ⟨o, e, c⟩ := Z.type; ⟨o, e, c⟩
  have hne : q ≠ z := fun e => by
    have h2 := (hf z (by simp)).1
    rw [← e, hq] at h2
    cases h2
  have ne : ∀ c ∈ [z, TI, TO, i1, i2], c ≠ q := fun c hc e => by
    have h2 := (hf c hc).1
    rw [e, hq] at h2
    cases h2
  unfold Builtin.List.listExtendWith
  refine wpAny_bind (wpAny_typeOf hT ?_)
  have h1 : Builtin.List.listSameRef (.ref q) (.ref z) = false := by simp [Builtin.List.listSameRef, hne]
  have h2 : (Value.type "zip" == Value.type "list") = false := by decide
  have h3 : (Value.type "zip" == Value.type "tuple") = false := by decide
  simp only [h1, h2, h3, Bool.or_false, Bool.false_eq_true, if_false]
  have itz : ∀ {Q' : Value → Shared → Prop} {E' : Value → Shared → Prop} {A' : Around}, Q' (.ref z) s → wpAny (model X.prog X.w) A' (pyIter (.ref z)) Q' E' s := fun h => by
    rcases Z.zz with ⟨e, _⟩ | ⟨T, f, oT, e, _⟩
    · exact wpAny_pyIter_zip e h
    · have hTy : s.TypeIs (.ref z) "zip" := hT
      refine wpAny_pyIter_slot hTy F.slot_zip_iter (wpAny_call_entry F.slot_zip_iter hTy F.entry_zip_iter ?_ (F.args_zip_iter_1 _))
      show wpAny _ _ (ret (.ref z)) _ _ s
      exact wpAny_pure ⟨_, rfl, "zip", _, hTy, F.slot_zip_next.lookup, h⟩
  refine wpAny_bind (itz ?_)
  refine wpAny_bind (wpAny_holding (zip_hint hT ?_))
  obtain ⟨zz, its, k, r3, hl3, e3⟩ := I.lstM hq
  cases r3
  refine wpAny_ite_split (fun _ => ?_) (fun _ => wpAny_pure ⟨plainId_quiet PySem.F.plain_extend_loop _, zp_loop hh D hdone hsz (min xs.length ys.length) [] H s I Z hf ha hb aq bq (by simp) k0 hq (fun j t h => by simp at h)⟩)
  refine wpAny_bind (wpAny_rule ?_)
  refine wpAny_bind ?_
  show wpAny _ _ (updateSeq q (·.push .none) >>= fun _ => updateSeq q (·.pop)) _ _ _
  refine wpAny_bind (wpAny_updateSeq e3 rfl ?_)
  have I2 := I.lset (f := (·.push Value.none)) (its' := [Value.none]) (ys := [.non]) (t' := s.toks) hq e3 (by simp) (.cons rfl .nil) (by rw [List.length_singleton, sizeLine_eq]; decide)
  have Z2 := Z.but (h' := s.heap.update q (Obj.mapSeq (·.push Value.none))) (q := q) (fun c hc => Heap.get?_update_other _ _ (Ne.symm hc)) (fun _ _ => ⟨_, PySem.IsL.update e3 _⟩) (ne _ (by simp)) (ne _ (by simp)) (ne _ (by simp)) (ne _ (by simp)) (ne _ (by simp))
  obtain ⟨z4, its4, k4, r4, hl4, e4⟩ := I2.lstM upd_same
  obtain ⟨u4, rfl, ru4⟩ := r4.one
  refine wpAny_updateSeq e4 rfl ?_ (by show 1 ≤ sizeLine; rw [sizeLine_eq]; decide) (by show 0 ≤ sizeLine + 1; exact Nat.zero_le _)
  have Z3 := Z2.but (h' := (s.heap.update q (Obj.mapSeq (·.push Value.none))).update q (Obj.mapSeq (·.pop))) (q := q) (fun c hc => Heap.get?_update_other _ _ (Ne.symm hc)) (fun _ _ => ⟨_, PySem.IsL.update e4 _⟩) (ne _ (by simp)) (ne _ (by simp)) (ne _ (by simp)) (ne _ (by simp)) (ne _ (by simp))
  have I3 := I2.lset (f := (·.pop)) (its := [u4]) (its' := []) (ys := []) (t' := s.toks) upd_same e4 (by rfl) .nil (Nat.zero_le _)
  rw [upd_upd] at I3
  have hH : upd H q (.lst []) = H := by
    funext b
    by_cases hb : b = q
    · rw [hb, upd_same, hq]
    · rw [upd_ne hb]
  rw [hH] at I3
  exact wpAny_pure ⟨plainId_quiet PySem.F.plain_extend_loop _, zp_loop hh D hdone hsz (min xs.length ys.length) [] H _ I3 Z3 hf ha hb aq bq (by simp) k0 hq (fun j t h => by simp at h)⟩
/-- list(zip(xs, ys)) -/
def tListZip (K : PySem.W.Frag) (ta : TA) : TE := fun σ H Q => ta σ H fun vs H1 => ∃ (a b : Addr) (xs ys : List V), vs = [.ref a, .ref b] ∧ SqL K H1 a xs ∧ SqL K H1 b ys ∧ xs.length < sizeLine ∧
  ∀ (q : Addr) (as : List Addr) (H' : Hp), H1 q = none → (∀ c o, H1 c = some o → H' c = some o) → H' q = some (.lst (as.map V.ref)) → as.length = min xs.length ys.length → PairsAt H' xs ys as → Q (.ref q) H'
theorem pe_listZip {e e2 : Expr} {ta : TA} {p p2 zpos pos : Pos} (hc : X.calm = true) (ha : PA X [e, e2] ta) (hg : Gl X "list") (hm : X.mg "list" = none) (hg2 : Gl X "zip") (hm2 : X.mg "zip" = none)
    (hs2 : starEach [e, e2] X.env = (false, eval e X.env) :: starEach [e2] X.env := by rfl) (hpl2 : (backTo zpos (starEach [e2] X.env)).any (·.1) = false := by rfl)
    (hs : starEach [.Call (.Name "zip" p2) [e, e2] [] zpos] X.env = (false, eval (.Call (.Name "zip" p2) [e, e2] [] zpos) X.env) :: starEach [] X.env := by rfl) :
    PE X (.Call (.Name "list" p) [.Call (.Name "zip" p2) [e, e2] [] zpos] [] pos) (tListZip X.K ta) := by
  refine ⟨fun pins s σ H Q I hq => ?_⟩
  refine wpAny_Call_Name_kw (ld_blt I hg hm (show bootBuiltins "list" = some (.type "list") by decide +kernel) ?_)
  refine PyProof.Rows.callWith_type1 ?_ hs rfl
  rw [hs]
  show wpAny _ _ (spliced ((false, eval (.Call (.Name "zip" p2) [e, e2] [] zpos) X.env) :: backTo pos (starEach [] X.env))) _ _ s
  refine Calls.spliced_cons ?_
  refine Call_ (ld_blt I hg2 hm2 PyProof.Rows.boot_zip (PyProof.Rows.callWith_type1 (thn (ha.run zpos pins s σ H _ I hq) fun us s1 ⟨vs, H1, I1, r1, q1⟩ => ?_) hs2 hpl2))
  obtain ⟨a, b, xs, ys, ex, hqx, hqy, hlen, q⟩ := q1
  subst ex
  cases r1 with
  | cons r rr =>
    cases rr with
    | cons r' rr =>
      cases rr
      cases r
      cases r'
      obtain ⟨its, rv, p1, _⟩ := I1.list hqx
      obtain ⟨its2, rv2, p2, _⟩ := I1.list hqy
      have la : a < s1.heap.objs.size := p1.lt
      have lb : b < s1.heap.objs.size := p2.lt
      have D := PySem.W.ktu_apart s1.heap.objs.size a b la lb
      refine call_zip_2 p1.isList p2.isList fun h' hz hTI hTO h1 h2 hsz hk => ?_
      have I2 : Inv X pins σ H1 { s1 with heap := h' } := I1.kept (t' := s1.toks) hk
      refine Calls.spliced_nil ?_
      have Z : ZpS h' (s1.heap.objs.size + 4) (s1.heap.objs.size + 2) (s1.heap.objs.size + 3) s1.heap.objs.size (s1.heap.objs.size + 1) a b 0 := ⟨.inl ⟨hz, _, _, hTO⟩, hTI, h1, h2, ⟨_, hTO⟩⟩
      have hn0 : H1 h'.objs.size = none := I2.hok.fresh (Nat.le_refl _)
      have ca : a ≠ h'.objs.size := Nat.ne_of_lt (by rw [hsz]; exact Nat.lt_of_lt_of_le la (Nat.le_add_right _ _))
      have cb : b ≠ h'.objs.size := Nat.ne_of_lt (by rw [hsz]; exact Nat.lt_of_lt_of_le lb (Nat.le_add_right _ _))
      refine callType_codes (Q₁ := fun obj s₁ => obj = .ref h'.objs.size ∧ s₁ = { s1 with heap := h'.push { cls := .type "list", data := .seq #[] } }) PySem.F.called_list (PySem.F.typeCall_list_1 _) PySem.F.entry_list_init
        (code_list_new _ ⟨rfl, rfl⟩) fun obj s₁ h₁ => ?_
      obtain ⟨rfl, rfl⟩ := h₁
      have hS : (h'.push { cls := .type "list", data := .seq #[] }).get? h'.objs.size = some { cls := .type "list", data := .seq #[] } := Heap.get?_push_size _ rfl
      refine ⟨⟨_, hS, rfl⟩, PySem.F.args_list_init_2 _ _, ?_⟩
      have I3 : Inv X pins σ (upd H1 h'.objs.size (.lst [])) { s1 with heap := h'.push { cls := .type "list", data := .seq #[] } } := I2.lnew (its := []) (t' := s1.toks) .nil (Nat.zero_le _)
      show wpAny _ _ (do let old ← Builtin.List.listItems (.ref h'.objs.size); Builtin.List.listUpdate (.ref h'.objs.size) (fun _ => #[]); letGo old.toList.reverse; Builtin.List.listExtendWith (.ref h'.objs.size) (.ref (s1.heap.objs.size + 4)) .none) _ _ _
      refine wpAny_bind ?_
      unfold Builtin.List.listItems
      refine wpAny_bind (wpAny_seqItems hS rfl (wpAny_pure ?_))
      show wpAny _ _ (updateSeq h'.objs.size (fun _ => #[]) >>= fun _ => letGo (#[] : Array Value).toList.reverse >>= fun _ => Builtin.List.listExtendWith (.ref h'.objs.size) (.ref (s1.heap.objs.size + 4)) .none) _ _ _
      refine wpAny_bind (wpAny_updateSeq hS rfl ?_)
      have I4 := I3.lset (f := fun _ => #[]) (its := []) (its' := []) (ys := []) (t' := s1.toks) upd_same hS rfl .nil (Nat.zero_le _)
      rw [upd_upd] at I4
      refine wpAny_bind (wpAny_letGo ?_)
      have five : ∀ c ∈ [s1.heap.objs.size + 4, s1.heap.objs.size + 2, s1.heap.objs.size + 3, s1.heap.objs.size, s1.heap.objs.size + 1], s1.heap.objs.size ≤ c ∧ c < h'.objs.size := fun c hc => by
        have e' : c = s1.heap.objs.size + 4 ∨ c = s1.heap.objs.size + 2 ∨ c = s1.heap.objs.size + 3 ∨ c = s1.heap.objs.size ∨ c = s1.heap.objs.size + 1 := by simpa using hc
        omega
      have hf : ∀ c ∈ [s1.heap.objs.size + 4, s1.heap.objs.size + 2, s1.heap.objs.size + 3, s1.heap.objs.size, s1.heap.objs.size + 1], FpOk X pins (upd H1 h'.objs.size (.lst [])) c := fun c hc => by
        obtain ⟨g1, g2⟩ := five c hc
        have := I1.fpOk (H' := H1) g1 (I1.hok.fresh g1)
        exact ⟨by rw [upd_ne (Nat.ne_of_lt g2)]; exact this.1, this.2⟩
      have Z2 : ZpS (h'.push { cls := .type "list", data := .seq #[] }) (s1.heap.objs.size + 4) (s1.heap.objs.size + 2) (s1.heap.objs.size + 3) s1.heap.objs.size (s1.heap.objs.size + 1) a b 0 :=
        ⟨.inl ⟨Heap.get?_push_of_some _ hz, _, _, Heap.get?_push_of_some _ hTO⟩, Heap.get?_push_of_some _ hTI, h1.at fun o e => Heap.get?_push_of_some _ e, h2.at fun o e => Heap.get?_push_of_some _ e, ⟨_, Heap.get?_push_of_some _ hTO⟩⟩
      have nq : ∀ c ∈ [s1.heap.objs.size + 4, s1.heap.objs.size + 2, s1.heap.objs.size + 3, s1.heap.objs.size, s1.heap.objs.size + 1], c ≠ h'.objs.size := fun c hc => Nat.ne_of_lt (five c hc).2
      have Z3 := Z2.but (h' := (h'.push { cls := .type "list", data := .seq #[] }).update h'.objs.size (Obj.mapSeq fun _ => #[])) (q := h'.objs.size) (fun c hc => Heap.get?_update_other _ _ (Ne.symm hc)) (fun _ _ => ⟨_, PySem.IsL.update hS _⟩) (nq _ (by simp)) (nq _ (by simp)) (nq _ (by simp)) (nq _ (by simp)) (nq _ (by simp))
      have keep0 : ∀ c o, H1 c = some o → upd H1 h'.objs.size (.lst []) c = some o := fun c o e => by rw [upd_ne (ne_of_none e hn0)]; exact e
      exact zp_extend (A1 := X.A.in1) (q := h'.objs.size) (H0 := H1) (Rs := wants (fun r s₂ => r = .none ∧ EP X pins σ Q (.ref h'.objs.size) s₂) X.xe) (I.ok.hd hc) D
        (fun as H' s' I' k' e' hl' hp' => ⟨rfl, .ref h'.objs.size, H', I', rfl, q _ as H' hn0 (fun c o e => k' c o (ne_of_none e hn0) e) e' hl' hp'⟩) hlen I4 Z3 hf
        (sql_keep hqx fun o e => keep0 a o e) (sql_keep hqy fun o e => keep0 b o e) ca cb (fun c o _ e => keep0 c o e) upd_same
end
end L2
end

section
set_option Elab.async false
set_option linter.all false
set_option maxRecDepth 100000
set_option maxHeartbeats 4000000
/-! An own class: its defs by their names, its properties, objects made, attributes as targets. -/
namespace Gx
open PySem PySem.Spec PyProof.Rows L2 GxR
/-- a def of the class at C, as the top has made it -/
structure DM (K : PySem.W.Frag) (C : Addr) (m qual : Str) (st : Stmt) : Prop where
  ex : ∃ f fd, Fun K m qual st f fd ∧ Meth K C m f
/-- a property of the class at C -/
structure DP (K : PySem.W.Frag) (C : Addr) (m qual : Str) (st : Stmt) : Prop where
  ex : ∃ p g fd, Fun K m qual st g fd ∧ PropOf K C m p g
structure Mt (P : Program) (w : World) (K : PySem.W.Frag) (mg : Str → Option Value) (base : Heap) (k : Nat) (C : Addr) (m : Str) (ps : List Str) (sp : Sp) : Prop where
  ex : ∃ f fd, FnOk P w K mg base CX0 k f fd ps sp ∧ Meth K C m f ∧ Binds K fd ps []
structure Pr (P : Program) (w : World) (K : PySem.W.Frag) (mg : Str → Option Value) (base : Heap) (k : Nat) (C : Addr) (m : Str) (sp : Sp) : Prop where
  ex : ∃ p g fd, FnOk P w K mg base CX0 k g fd ["self"] sp ∧ PropOf K C m p g ∧ Binds K fd ["self"] []
structure Mkr (P : Program) (w : World) (K : PySem.W.Frag) (mg : Str → Option Value) (base : Heap) (k : Nat) (C : Addr) (x : Str) (ps : List Str) (sp : Sp) : Prop where
  ex : ∃ f fd, FnOk P w K mg base CX0 k f fd ps sp ∧ Mk K C f ∧ mg x = some (.ref C) ∧ Binds K fd ps []
section
variable {P : Program} {w : World} {K : PySem.W.Frag} {mg : Str → Option Value} {base : Heap} {k : Nat} {C : Addr} {x m qual : Str} {ps : List Str} {sp : Sp} {st : Stmt}
theorem mt_mk (D : DM K C m qual st) (hb : ∀ f fd, Fun K m qual st f fd → Binds K fd ps []) (F : ∀ f fd, Fun K m qual st f fd → FnOk P w K mg base CX0 k f fd ps sp) : Mt P w K mg base k C m ps sp :=
  let ⟨f, fd, F0, m0⟩ := D.ex; ⟨⟨f, fd, F f fd F0, m0, hb f fd F0⟩⟩
theorem pr_mk (D : DP K C m qual st) (hb : ∀ f fd, Fun K m qual st f fd → Binds K fd ["self"] []) (F : ∀ f fd, Fun K m qual st f fd → FnOk P w K mg base CX0 k f fd ["self"] sp) : Pr P w K mg base k C m sp :=
  let ⟨p, g, fd, F0, m0⟩ := D.ex; ⟨⟨p, g, fd, F g fd F0, m0, hb g fd F0⟩⟩
theorem mkr_mk (D : DM K C "__init__" qual st) (hmk : PySem.W.makesIn K C = true) (hkp : PySem.W.keepIn K (.ref C) = true) (hm : mg x = some (.ref C)) (hb : ∀ f fd, Fun K "__init__" qual st f fd → Binds K fd ps []) (F : ∀ f fd, Fun K "__init__" qual st f fd → FnOk P w K mg base CX0 k f fd ps sp) : Mkr P w K mg base k C x ps sp :=
  let ⟨f, fd, F0, m0⟩ := D.ex; ⟨⟨f, fd, F f fd F0, ⟨hmk, m0.at_, m0.fn, hkp⟩, hm, hb f fd F0⟩⟩
end
section
variable {X : Cx} {C : Addr} {k : Nat} {m x : Str} {ps : List Str} {sp : Sp}
/-- o.m(e, ..) -/
theorem pe_mt {o e : Expr} {es : List Expr} {apos pos : Pos} {ta : TE} {t : TA} {pl : Sem Bool} (c : Cls X.K C) (M : Mt X.prog X.w X.K X.mg X.base k C m ps sp) (hr : Room k X.A) (he : PE X o ta) (ha : PA X (e :: es) t)
    (hst : starEach (e :: es) X.env = (false, eval e X.env) :: starEach es X.env := by rfl) (hpl : (backTo pos (starEach es X.env)).any (·.1) = false := by rfl)
    (ht : eval (.Call (.Attribute o m apos) (e :: es) [] pos) X.env = (do
      let ov ← eval o X.env
      standAt apos.atName
      let (f, first) ← holding [ov] (getMethod ov m pl)
      callWith pos f first (backTo pos (starEach (e :: es) X.env)) (backToKw pos (keywordEach [] X.env))) := by rfl) :
    PE X (.Call (.Attribute o m apos) (e :: es) [] pos) (tMeth C m sp [] E0 ta t) := by
  obtain ⟨f, fd, F, hm, hb⟩ := M.ex
  exact pe_meth he c hm F hr hb .nil pass0 ha hst hpl ht
/-- o.f, a property -/
theorem pe_pr {e : Expr} {pos : Pos} {ta : TE} (c : Cls X.K C) (M : Pr X.prog X.w X.K X.mg X.base k C m sp) (hr : Room (k + 1) X.A) (he : PE X e ta) (hab : attributeBase e m X.env (eval e X.env) = eval e X.env := by rfl) :
    PE X (.Attribute e m pos) (tProp C sp [] E0 ta) := by
  obtain ⟨p, g, fd, F, hm, hb⟩ := M.ex
  exact pe_prop he c hm F hr hb .nil (CX := CX0) (E := E0) pass0 hab
/-- C(e, ..) -/
theorem pe_mkr {e : Expr} {es : List Expr} {p pos : Pos} {t : TA} (M : Mkr X.prog X.w X.K X.mg X.base k C x ps sp) (hr : Room (k + 1) X.A) (ha : PA X (e :: es) t) (hg : Gl X x := by rfl) (hdb : (x == ("__debug__" : Str)) = false := by decide)
    (he : starEach (e :: es) X.env = (false, eval e X.env) :: starEach es X.env := by rfl) (hpl : (backTo pos (starEach es X.env)).any (·.1) = false := by rfl) : PE X (.Call (.Name x p) (e :: es) [] pos) (tMake C sp [] E0 t) := by
  obtain ⟨f, fd, F, hm, hx, hb⟩ := M.ex
  exact pe_make hm F hr hg hx hb .nil pass0 ha hdb he hpl
/-- o.f = .. as a target among others -/
def gFld (K : PySem.W.Frag) (to : TE) (f : Str) : TG := fun v σ H Q => to σ H fun x H1 => ∃ a C dx fs, x = .ref a ∧ H1 a = some (.ins C dx fs) ∧ Cls K C ∧ NoAttr K C f ∧ fs.length < 1000 ∧ Q σ (upd H1 a (.ins C dx (putF f v fs)))
theorem pg_fld {o : Expr} {f : Str} {pos : Pos} {to : TE} (ho : PE X o to)
    (ha : ∀ v, assign (.Attribute o f pos) X.env v = (do
      let ov ← holding [v] (eval o X.env)
      standAt pos.atName
      holding [v, ov] (setAttr ov f v)
      release [v, ov] []) := by intro _; rfl) : PG X (.Attribute o f pos) (gFld X.K to f) := by
  refine ⟨fun pins s σ H v u Q I r h => ?_⟩
  rw [ha]
  refine wpAny_bind (wpAny_holding (thn (ho.run pins s σ H _ I h) fun ov s1 ⟨x, H1, I1, r1, a, C, dx, fs, ex, ea, c, n, l, q1⟩ => ?_))
  subst ex
  obtain rfl : ov = Value.ref a := r1
  refine wpAny_bind (wpAny_standAt (wpAny_bind (wpAny_holding (setattr_ok I1 ea c n l r fun s3 I3 => ?_))))
  exact wpAny_release ⟨σ, _, I3, q1⟩
end
section
variable {K : PySem.W.Frag} {mg : Str → Option Value} {h : Heap} {Goal : Prop} {C : Addr}
theorem with_meth {x qual : Str} {st : Stmt} {f : Addr} {oc : Value} {od an : Option Addr} {osl : Array (Option Value)} {kV doc pm cdv ct : Value} (a : PySem.W.findIn K (.ref C) x = some (some (.ref f))) (i : PySem.W.isFn K (.ref f) = true)
    (l : K.lookup f = some ⟨oc, od, .func (PySem.W.fnOf x qual (defArgs st) (defBody st) (defScope st) .none kV doc pm an cdv ct), osl⟩) (c : PySem.W.codeIn K cdv qual = true) (k : PySem.W.keepIn K (.ref f) = true) (go : DM K C x qual st → Goal) : Goal :=
  go ⟨⟨f, _, fun_mk l c k, ⟨a, i, k⟩⟩⟩
theorem with_prop {x qual : Str} {st : Stmt} {p f : Addr} {rest : List Value} {oc : Value} {od an : Option Addr} {osl : Array (Option Value)} {kV doc pm cdv ct : Value} (a : PySem.W.findIn K (.ref C) x = some (some (.ref p))) (g : PySem.W.specialIn K (.ref p) "__get__" = some (some (.builtin "property.__get__"))) (t : PySem.W.takesIn K (.ref p) = some true) (r : PySem.W.recIn K p "property" = some (.ref f :: rest))
    (l : K.lookup f = some ⟨oc, od, .func (PySem.W.fnOf x qual (defArgs st) (defBody st) (defScope st) .none kV doc pm an cdv ct), osl⟩) (c : PySem.W.codeIn K cdv qual = true) (k : PySem.W.keepIn K (.ref f) = true) (go : DP K C x qual st → Goal) : Goal :=
  go ⟨⟨p, f, _, fun_mk l c k, ⟨a, g, t, rest, r⟩⟩⟩
/-- the class itself -/
structure Kls (K : PySem.W.Frag) (mg : Str → Option Value) (x : Str) (C : Addr) : Prop where
  cl : Cls K C
  at_ : mg x = some (.ref C)
  made : PySem.W.makesIn K C = true
  kp : PySem.W.keepIn K (.ref C) = true
theorem with_kls {x : Str} (X : K.In h) (G : h.Ns mainGlobals mg) (a : PySem.W.nsIn K mainGlobals x = some (some (.ref C))) (pg : PySem.W.plainGet K C Str.empty = true) (hd : PySem.W.hasDictIn K C = true) (po : PySem.W.plainOver K C = true) (sa : PySem.W.findIn K (.ref C) "__setattr__" = some (some (.builtin "object.__setattr__"))) (mk : PySem.W.makesIn K C = true) (kc : PySem.W.keepIn K (.ref C) = true)
    (go : Kls K mg x C → Goal) : Goal := go ⟨⟨pg, hd, po, sa⟩, PySem.W.mg_of X G a, mk, kc⟩
theorem with_na {f : Str} (a : PySem.W.findIn K (.ref C) f = some none) (go : NoAttr K C f → Goal) : Goal := go a
end
end Gx
end

section
set_option Elab.async false
set_option linter.all false
set_option maxRecDepth 100000
set_option maxHeartbeats 4000000
namespace Gx
open PySem PySem.Spec PyProof.Rows L2 GxR
section
variable {K : PySem.W.Frag} {mg : Str → Option Value} {h : Heap} {Goal : Prop} {C : Addr}
theorem with_meth2 {y : Str} (KL : Kls K mg y C) {x qual : Str} {st : Stmt} {f : Addr} {oc : Value} {od an : Option Addr} {osl : Array (Option Value)} {kV doc pm cdv ct : Value} (a : PySem.W.findIn K (.ref C) x = some (some (.ref f))) (i : PySem.W.isFn K (.ref f) = true)
    (l : K.lookup f = some ⟨oc, od, .func (PySem.W.fnOf x qual (defArgs st) (defBody st) (defScope st) .none kV doc pm an cdv ct), osl⟩) (c : PySem.W.codeIn K cdv qual = true) (k : PySem.W.keepIn K (.ref f) = true) (go : DM K C x qual st → Goal) : Goal :=
  go ⟨⟨f, _, fun_mk l c k, ⟨a, i, k⟩⟩⟩
theorem with_prop2 {y : Str} (KL : Kls K mg y C) {x qual : Str} {st : Stmt} {p f : Addr} {rest : List Value} {oc : Value} {od an : Option Addr} {osl : Array (Option Value)} {kV doc pm cdv ct : Value} (a : PySem.W.findIn K (.ref C) x = some (some (.ref p))) (g : PySem.W.specialIn K (.ref p) "__get__" = some (some (.builtin "property.__get__"))) (t : PySem.W.takesIn K (.ref p) = some true) (r : PySem.W.recIn K p "property" = some (.ref f :: rest))
    (l : K.lookup f = some ⟨oc, od, .func (PySem.W.fnOf x qual (defArgs st) (defBody st) (defScope st) .none kV doc pm an cdv ct), osl⟩) (c : PySem.W.codeIn K cdv qual = true) (k : PySem.W.keepIn K (.ref f) = true) (go : DP K C x qual st → Goal) : Goal :=
  go ⟨⟨p, f, _, fun_mk l c k, ⟨a, g, t, rest, r⟩⟩⟩
theorem with_na2 {y f : Str} (KL : Kls K mg y C) (a : PySem.W.findIn K (.ref C) f = some none) (go : NoAttr K C f → Goal) : Goal := go a
end
end Gx
end

section
namespace Gx
open PySem PySem.Spec PyProof.Rows L2 GxR
theorem u65 {k : Nat} {A : Around} (r : Room k A) : A.units + 65 < cLine := by have := r.un; omega
end Gx
end

section
set_option Elab.async false
set_option linter.all false
set_option maxRecDepth 100000
set_option maxHeartbeats 4000000
/-! Defs that may raise, by their names; classes of errors of the program's own. -/
namespace Gx
open PySem PySem.Spec PyProof.Rows L2 GxR
theorem op_inDK {X : Cx} {K : PySem.W.Frag} (e : X.K = K) (hu : X.A.units + 65 < cLine) : OpR X (compareOp .In) (rInD K) := e ▸ op_inD hu
/-- a def that may raise -/
structure CalE (P : Program) (w : World) (K : PySem.W.Frag) (mg : Str → Option Value) (base : Heap) (k : Nat) (x : Str) (ps : List Str) (sp : Sp) : Prop where
  ex : ∃ f fd, FnOk P w K mg base (L2.CX P w) k f fd ps sp ∧ mg x = some (.ref f) ∧ PySem.W.keepIn K (.ref f) = true ∧ Binds K fd ps []
structure CalEK (P : Program) (w : World) (K : PySem.W.Frag) (mg : Str → Option Value) (base : Heap) (k : Nat) (x : Str) (ps ks : List Str) (gV : List V → List V → List V) (sp : Sp) : Prop where
  ex : ∃ f fd g, FnOk P w K mg base (L2.CX P w) k f fd ps sp ∧ mg x = some (.ref f) ∧ PySem.W.keepIn K (.ref f) = true ∧ KBinds K fd ps ks g gV
def tCallE (sp : Sp) (W : WX) (t : TA) : TE := fun σ H Q => t σ H fun vs H1 => sp vs H1 Q (WE W σ)
def tCallEK (sp : Sp) (gV : List V → List V → List V) (W : WX) (tk : TA) : TE := fun σ H Q => tk σ H fun zs H1 => sp (gV [] zs) H1 Q (WE W σ)
section
variable {X : Cx} {k : Nat} {x : Str} {ps : List Str} {sp : Sp} {W : WX}
theorem pe_calE {e : Expr} {es : List Expr} {p pos : Pos} {t : TA} (C : CalE X.prog X.w X.K X.mg X.base k x ps sp) (hr : Room k X.A) (tk : Takes X W) (ha : PA X (e :: es) t) (hg : Gl X x := by rfl) (hdb : (x == ("__debug__" : Str)) = false := by decide)
    (he : starEach (e :: es) X.env = (false, eval e X.env) :: starEach es X.env := by rfl) (hpl : (backTo pos (starEach es X.env)).any (·.1) = false := by rfl) : PE X (.Call (.Name x p) (e :: es) [] pos) (tCallE sp W t) := by
  obtain ⟨f, fd, F, hm, hk, hb⟩ := C.ex
  exact pe_callS F hr hg hm hk hb (fun σ => passAt tk σ) ha hdb he hpl
theorem pe_calEK {kws : List Keyword} {p pos : Pos} {tk : TA} {ks : List Str} {gV : List V → List V → List V} (C : CalEK X.prog X.w X.K X.mg X.base k x ps ks gV sp) (hr : Room k X.A) (tkw : Takes X W) (hkw : PK X kws tk) (hg : Gl X x := by rfl) (hall : (backToKw pos (keywordEach kws X.env)).all (·.1.isSome) = true := by rfl) (hks : (backToKw pos (keywordEach kws X.env)).filterMap (·.1) = ks := by rfl)
    (hdb : (x == ("__debug__" : Str)) = false := by decide) (hpl : ((backTo pos (starEach [] X.env)).any (·.1) || (backToKw pos (keywordEach kws X.env)).any (·.1.isNone)) = false := by rfl) :
    PE X (.Call (.Name x p) [] kws pos) (tCallEK sp gV W tk) := by
  obtain ⟨f, fd, g, F, hm, hk, hb⟩ := C.ex
  refine ⟨fun pins s σ H Q I h => ?_⟩
  refine wpAny_Call_Name_kw (ld_glob I hg hm ?_ hdb)
  refine PySem.W.callWith_KW0 (h₀ := X.base) I.ok.mod.kin hk hall (thn (hkw.run pos pins s σ H _ I h) fun ws s2 ⟨zs, H2, I2, rz, q2⟩ => ⟨I2.kIn, ?_⟩) hpl
  rw [hks]
  have r2 := hb.rel (vs := []) (us := []) .nil rz
  have hl : (g [] ws).length = ps.length := by rw [← r2.length]; exact F.len _ _ _ _ q2
  refine wpAny_call (codeAny_mono (F.run X.A X.stack s2 H2 ⟨[], ks.zip ws⟩ (g [] ws) (gV [] zs) Q (WE W σ) hr I2.env0 (hb.to s2 [] ws I2.kIn hl) r2 q2) fun r s' hq => ?_)
  cases r with
  | error e => exact passAt tkw σ pins H2 s2 e s' I2 hq
  | ok fl =>
    cases fl with
    | ret u => exact I2.after hq
    | next => exact False.elim hq
    | brk => exact False.elim hq
    | cont => exact False.elim hq
end
/-- a class of errors of the program's own at C, by the name x -/
structure Er (K : PySem.W.Frag) (mg : Str → Option Value) (x : Str) (C : Addr) : Prop where
  at_ : mg x = some (.ref C)
  ex : PySem.W.excIn K C [.type "ValueError", .type "Exception", .type "BaseException", .type "object"] "ValueError.__new__" = true
  keep : PySem.W.keepIn K (.ref C) = true
  sub : PySem.W.subIn K (.ref C) (.type "BaseException") = some true
  typ : PySem.W.typeIn K (.ref C) = some (.type "type")
  cls : PySem.W.isClsIn K C = true
  self : PySem.W.subIn K (.ref C) (.ref C) = some true
theorem Er.me {K : PySem.W.Frag} {mg : Str → Option Value} {x : Str} {S : Addr} (e : Er K mg x S) : PySem.W.exmOne K (.ref S) (.ref S) = some true := by
  have e1 : (PySem.W.subIn K (.ref S) (.type "BaseException") == some true) = true := by rw [e.sub] <;> rfl
  have e2 : ((PySem.W.clsIn K S).isSome && PySem.W.typeIn K (.ref S) == some (.type "type")) = true := by
    have h2' : (PySem.W.clsIn K S).isSome = true := e.cls
    rw [h2', e.typ] <;> rfl
  show (if (PySem.W.subIn K (.ref S) (.type "BaseException") == some true) = true then (if ((PySem.W.clsIn K S).isSome && PySem.W.typeIn K (.ref S) == some (.type "type")) = true then PySem.W.subIn K (.ref S) (.ref S) else none) else none) = some true
  rw [if_pos e1, if_pos e2]
  exact e.self
theorem with_er {K : PySem.W.Frag} {mg : Str → Option Value} {h : Heap} {x : Str} {C : Addr} {Z : Prop} (X : K.In h) (G : h.Ns mainGlobals mg) (a : PySem.W.nsIn K mainGlobals x = some (some (.ref C)))
    (l : PySem.W.excIn K C [.type "ValueError", .type "Exception", .type "BaseException", .type "object"] "ValueError.__new__" = true) (c : PySem.W.keepIn K (.ref C) = true) (k : PySem.W.subIn K (.ref C) (.type "BaseException") = some true)
    (t : PySem.W.typeIn K (.ref C) = some (.type "type")) (r : PySem.W.isClsIn K C = true) (n : PySem.W.subIn K (.ref C) (.ref C) = some true) (go : Er K mg x C → Z) : Z := go ⟨PySem.W.mg_of X G a, l, c, k, t, r, n⟩
section
variable {P : Program} {w : World} {K : PySem.W.Frag} {mg : Str → Option Value} {base : Heap} {k : Nat} {x : Str} {ps : List Str} {sp : Sp} {st : Stmt}
theorem calE_mk (D : DF K mg x st) (hb : ∀ f fd, Fun K x x st f fd → Binds K fd ps []) (F : ∀ f fd, Fun K x x st f fd → FnOk P w K mg base (L2.CX P w) k f fd ps sp) : CalE P w K mg base k x ps sp :=
  let ⟨f, fd, F0, m⟩ := D.ex; ⟨⟨f, fd, F f fd F0, m, F0.kp, hb f fd F0⟩⟩
theorem calEK_mk {ks : List Str} {g : List Value → List Value → List Value} {gV : List V → List V → List V} (D : DF K mg x st) (hb : ∀ f fd, Fun K x x st f fd → KBinds K fd ps ks g gV) (F : ∀ f fd, Fun K x x st f fd → FnOk P w K mg base (L2.CX P w) k f fd ps sp) : CalEK P w K mg base k x ps ks gV sp :=
  let ⟨f, fd, F0, m⟩ := D.ex; ⟨⟨f, fd, g, F f fd F0, m, F0.kp, hb f fd F0⟩⟩
end
section
variable {X : Cx} {x : Str} {C : Addr}
/-- raise X("..") -/
theorem ps_err {m : Str} {j : Nat} {p p2 pos pos2 : Pos} {W : WX} (hc : X.calm = true) (tk : Takes X W) (e : Er X.K X.mg x C) (hg : Gl X x := by rfl) (hdb : (x == ("__debug__" : Str)) = false := by decide) :
    PS X (.Raise (some (.Call (.Name x p) [.Constant (.str m) j p2] [] pos)) none pos2) (fun _ σ H => W (.ref C) none σ H) :=
  ps_raise hc tk (pmk_own PySem.F.excBase_ValueError e.ex e.at_ e.keep (raises_own e.sub e.typ) hg hdb)
end
end Gx
end

section
set_option Elab.async false
set_option linter.all false
set_option maxRecDepth 100000
set_option maxHeartbeats 4000000
/-! More of own classes: methods without arguments, by keywords, that raise; objects made by keywords; len; == by identity. -/
namespace Gx
open PySem PySem.Spec PyProof.Rows L2 GxR
/-- how a def binds one positional value (self) and keywords -/
structure KB (K : PySem.W.Frag) (fd : FuncData) (ps ks : List Str) (idx : List Nat) : Prop where
  to : ∀ (s : Shared) (u : Value) (ws : List Value), K.In s.heap → ws.length = ks.length → BindsTo s fd ⟨[u], ks.zip ws⟩ (ps.zip (u :: idx.map fun i => ws.getD i .none))
theorem kb_mk {K : PySem.W.Frag} {x qual : Str} {st : Stmt} {f : Addr} {fd : FuncData} {ps ks : List Str} {idx : List Nat} (F : Fun K x qual st f fd)
    (h : ∀ (kV doc pm : Value) (an : Option Addr) (cdv ct : Value) (u : Value) (ws : List Value), ws.length = ks.length → bindArgs (PySem.W.fnOf x qual (defArgs st) (defBody st) (defScope st) .none kV doc pm an cdv ct) ⟨[u], ks.zip ws⟩ = pure (ps.zip (u :: idx.map fun i => ws.getD i .none))) : KB K fd ps ks idx := by
  obtain ⟨oc, od, kV, doc, pm, an, cdv, ct, osl, rfl, lk, hcd⟩ := F.ex
  exact ⟨fun s u ws _ hl => .of_eq (h kV doc pm an cdv ct u ws hl)⟩
structure MtK (P : Program) (w : World) (K : PySem.W.Frag) (mg : Str → Option Value) (base : Heap) (k : Nat) (C : Addr) (m : Str) (ps ks : List Str) (idx : List Nat) (sp : Sp) : Prop where
  ex : ∃ f fd, FnOk P w K mg base CX0 k f fd ps sp ∧ Meth K C m f ∧ KB K fd ps ks idx
structure MtE (P : Program) (w : World) (K : PySem.W.Frag) (mg : Str → Option Value) (base : Heap) (k : Nat) (C : Addr) (m : Str) (ps : List Str) (sp : Sp) : Prop where
  ex : ∃ f fd, FnOk P w K mg base (L2.CX P w) k f fd ps sp ∧ Meth K C m f ∧ Binds K fd ps []
structure MkrK (P : Program) (w : World) (K : PySem.W.Frag) (mg : Str → Option Value) (base : Heap) (k : Nat) (C : Addr) (x : Str) (ps ks : List Str) (idx : List Nat) (sp : Sp) : Prop where
  ex : ∃ f fd, FnOk P w K mg base CX0 k f fd ps sp ∧ Mk K C f ∧ mg x = some (.ref C) ∧ KB K fd ps ks idx
section
variable {P : Program} {w : World} {K : PySem.W.Frag} {mg : Str → Option Value} {base : Heap} {k : Nat} {C : Addr} {x m qual : Str} {ps ks : List Str} {idx : List Nat} {sp : Sp} {st : Stmt}
theorem mtK_mk (D : DM K C m qual st) (hb : ∀ f fd, Fun K m qual st f fd → KB K fd ps ks idx) (F : ∀ f fd, Fun K m qual st f fd → FnOk P w K mg base CX0 k f fd ps sp) : MtK P w K mg base k C m ps ks idx sp :=
  let ⟨f, fd, F0, m0⟩ := D.ex; ⟨⟨f, fd, F f fd F0, m0, hb f fd F0⟩⟩
theorem mtE_mk (D : DM K C m qual st) (hb : ∀ f fd, Fun K m qual st f fd → Binds K fd ps []) (F : ∀ f fd, Fun K m qual st f fd → FnOk P w K mg base (L2.CX P w) k f fd ps sp) : MtE P w K mg base k C m ps sp :=
  let ⟨f, fd, F0, m0⟩ := D.ex; ⟨⟨f, fd, F f fd F0, m0, hb f fd F0⟩⟩
theorem mkrK_mk (D : DM K C "__init__" qual st) (hmk : PySem.W.makesIn K C = true) (hkp : PySem.W.keepIn K (.ref C) = true) (hm : mg x = some (.ref C)) (hb : ∀ f fd, Fun K "__init__" qual st f fd → KB K fd ps ks idx) (F : ∀ f fd, Fun K "__init__" qual st f fd → FnOk P w K mg base CX0 k f fd ps sp) : MkrK P w K mg base k C x ps ks idx sp :=
  let ⟨f, fd, F0, m0⟩ := D.ex; ⟨⟨f, fd, F f fd F0, ⟨hmk, m0.at_, m0.fn, hkp⟩, hm, hb f fd F0⟩⟩
end
section
variable {X : Cx} {C : Addr} {k : Nat} {m x : Str} {ps ks : List Str} {idx : List Nat} {sp : Sp} {W : WX}
/-- o.m() -/
theorem pe_mt0 {o : Expr} {apos pos : Pos} {ta : TE} {pl : Sem Bool} (c : Cls X.K C) (M : Mt X.prog X.w X.K X.mg X.base k C m ps sp) (hr : Room k X.A) (he : PE X o ta)
    (ht : eval (.Call (.Attribute o m apos) [] [] pos) X.env = (do
      let ov ← eval o X.env
      standAt apos.atName
      let (f, first) ← holding [ov] (getMethod ov m pl)
      callWith pos f first (backTo pos (starEach [] X.env)) (backToKw pos (keywordEach [] X.env))) := by rfl) :
    PE X (.Call (.Attribute o m apos) [] [] pos) (tMeth C m sp [] E0 ta tNil) := by
  obtain ⟨f, fd, F, hm, hb⟩ := M.ex
  exact pe_meth0 he c hm F hr hb .nil pass0 ht
def tMethE (C : Addr) (m : Str) (sp : Sp) (W : WX) (ta : TE) : TE := fun σ H Q => ta σ H fun x H1 => ∃ a dx fs, x = .ref a ∧ H1 a = some (.ins C dx fs) ∧ fs.lookup m = none ∧ sp [x] H1 Q (WE W σ)
/-- o.m(), a method that may raise -/
theorem pe_mtE {o : Expr} {apos pos : Pos} {ta : TE} {pl : Sem Bool} (c : Cls X.K C) (M : MtE X.prog X.w X.K X.mg X.base k C m ps sp) (hr : Room k X.A) (tk : Takes X W) (he : PE X o ta)
    (ht : eval (.Call (.Attribute o m apos) [] [] pos) X.env = (do
      let ov ← eval o X.env
      standAt apos.atName
      let (f, first) ← holding [ov] (getMethod ov m pl)
      callWith pos f first (backTo pos (starEach [] X.env)) (backToKw pos (keywordEach [] X.env))) := by rfl) :
    PE X (.Call (.Attribute o m apos) [] [] pos) (tMethE C m sp W ta) := by
  obtain ⟨f, fd, F, hm, hb⟩ := M.ex
  refine ⟨fun pins s σ H Q I h => ?_⟩
  refine PySem.W.methodCall_KW (pl := pl) (thn (he.run pins s σ H _ I h) fun u s1 ⟨x, H1, I1, rx, a, dx, fs, ex, ea, l, q⟩ => ?_) ht
  subst ex
  obtain rfl : u = Value.ref a := rx
  refine getmeth_ok I1 ea c hm l ?_
  refine PySem.W.callWith_K0 (first := [.ref a]) I1.kIn hm.kp ?_
  have r2 : Vals [V.ref a] [Value.ref a] := .cons rfl .nil
  have hl : ([Value.ref a] ++ []).length = ps.length := F.len _ _ _ _ q
  refine wpAny_call (codeAny_mono (F.run X.A X.stack s1 H1 ⟨[.ref a], []⟩ ([.ref a] ++ []) [.ref a] Q (WE W σ) hr I1.env0 (hb s1 [.ref a] I1.kIn hl) r2 q) fun r s' hq => ?_)
  cases r with
  | error e => exact passAt tk σ pins H1 s1 e s' I1 hq
  | ok fl =>
    cases fl with
    | ret u => exact I1.after hq
    | next => exact False.elim hq
    | brk => exact False.elim hq
    | cont => exact False.elim hq
/-- o.m(k = v, ..) -/
def tMethK (C : Addr) (m : Str) (sp : Sp) (n : Nat) (idx : List Nat) (ta : TE) (tk : TA) : TE := fun σ H Q => ta σ H fun x H1 => ∃ a dx fs, x = .ref a ∧ H1 a = some (.ins C dx fs) ∧ fs.lookup m = none ∧ tk σ H1 fun zs H2 => zs.length = n ∧ sp (x :: idx.map fun i => zs.getD i .non) H2 Q E0
theorem pe_mtK {o : Expr} {apos pos : Pos} {ta : TE} {pl : Sem Bool} {kws : List Keyword} {tk : TA} (c : Cls X.K C) (M : MtK X.prog X.w X.K X.mg X.base k C m ps ks idx sp) (hr : Room k X.A) (he : PE X o ta) (hkw : PK X kws tk)
    (hall : (backToKw pos (keywordEach kws X.env)).all (·.1.isSome) = true := by rfl) (hks : (backToKw pos (keywordEach kws X.env)).filterMap (·.1) = ks := by rfl)
    (hpl : ((backTo pos (starEach [] X.env)).any (·.1) || (backToKw pos (keywordEach kws X.env)).any (·.1.isNone)) = false := by rfl)
    (ht : eval (.Call (.Attribute o m apos) [] kws pos) X.env = (do
      let ov ← eval o X.env
      standAt apos.atName
      let (f, first) ← holding [ov] (getMethod ov m pl)
      callWith pos f first (backTo pos (starEach [] X.env)) (backToKw pos (keywordEach kws X.env))) := by rfl) :
    PE X (.Call (.Attribute o m apos) [] kws pos) (tMethK C m sp ks.length idx ta tk) := by
  obtain ⟨f, fd, F, hm, hb⟩ := M.ex
  refine ⟨fun pins s σ H Q I h => ?_⟩
  refine PySem.W.methodCall_KW (pl := pl) (thn (he.run pins s σ H _ I h) fun u s1 ⟨x, H1, I1, rx, a, dx, fs, ex, ea, l, q⟩ => ?_) ht
  subst ex
  obtain rfl : u = Value.ref a := rx
  refine getmeth_ok I1 ea c hm l ?_
  refine PySem.W.callWith_KW0 (first := [.ref a]) (h₀ := X.base) I.ok.mod.kin hm.kp hall (thn (hkw.run pos pins s1 σ H1 _ I1 q) fun ws s2 ⟨zs, H2, I2, rz, ln, q2⟩ => ⟨I2.kIn, ?_⟩) hpl
  rw [hks]
  have r2 : Vals (V.ref a :: idx.map fun i => zs.getD i .non) (Value.ref a :: idx.map fun i => ws.getD i .none) := .cons rfl (vals_idx rz idx)
  have hl : ws.length = ks.length := rz.length.symm.trans ln
  refine wpAny_call (codeAny_mono (F.run X.A X.stack s2 H2 ⟨[.ref a], ks.zip ws⟩ (Value.ref a :: idx.map fun i => ws.getD i .none) (V.ref a :: idx.map fun i => zs.getD i .non) Q E0 hr I2.env0 (hb.to s2 (.ref a) ws I2.kIn hl) r2 q2) fun r s' hq => ?_)
  cases r with
  | error e => exact pass0 pins σ H2 s2 e s' I2 hq
  | ok fl =>
    cases fl with
    | ret u => exact I2.after hq
    | next => exact False.elim hq
    | brk => exact False.elim hq
    | cont => exact False.elim hq
/-- C(k = v, ..): a new instance -/
def tMakeK (C : Addr) (sp : Sp) (n : Nat) (idx : List Nat) (tk : TA) : TE := fun σ H Q => tk σ H fun zs H1 => zs.length = n ∧ ∀ x dx, H1 x = none → H1 dx = none → dx ≠ x →
  sp (.ref x :: idx.map fun i => zs.getD i .non) (upd (upd H1 dx (.own x)) x (.ins C dx [])) (fun v H2 => v = .non ∧ Q (.ref x) H2) E0
theorem pe_mkrK {kws : List Keyword} {tk : TA} {p pos : Pos} (M : MkrK X.prog X.w X.K X.mg X.base k C x ps ks idx sp) (hr : Room (k + 1) X.A) (hkw : PK X kws tk) (hg : Gl X x := by rfl) (hall : (backToKw pos (keywordEach kws X.env)).all (·.1.isSome) = true := by rfl) (hks : (backToKw pos (keywordEach kws X.env)).filterMap (·.1) = ks := by rfl)
    (hdb : (x == ("__debug__" : Str)) = false := by decide) (hpl : ((backTo pos (starEach [] X.env)).any (·.1) || (backToKw pos (keywordEach kws X.env)).any (·.1.isNone)) = false := by rfl) :
    PE X (.Call (.Name x p) [] kws pos) (tMakeK C sp ks.length idx tk) := by
  obtain ⟨f, fd, F, M, hm, hb⟩ := M.ex
  refine ⟨fun pins s σ H Q I h => ?_⟩
  refine wpAny_Call_Name_kw (ld_glob I hg hm ?_ hdb)
  refine PySem.W.callWith_KW0 (h₀ := X.base) I.ok.mod.kin M.kp hall (thn (hkw.run pos pins s σ H _ I h) fun ws s2 ⟨zs, H2, I2, rz, ln, q2⟩ => ⟨I2.kIn, ?_⟩) hpl
  rw [hks]
  have hq := q2 (s2.heap.objs.size + 1) s2.heap.objs.size (I2.hok.fresh (Nat.le_succ _)) (I2.hok.fresh (Nat.le_refl _)) (Nat.ne_of_lt (Nat.lt_succ_self _))
  have I3 := Inv.made (C := C) I2
  have r2 : Vals (V.ref (s2.heap.objs.size + 1) :: idx.map fun i => zs.getD i .non) (Value.ref (s2.heap.objs.size + 1) :: idx.map fun i => ws.getD i .none) := .cons rfl (vals_idx rz idx)
  have hl : ws.length = ks.length := rz.length.symm.trans ln
  refine wpAny_call (make_map (f := f) I2.kIn M.makes M.init (beq_iff_eq.mp M.fn) (codeAny_mono (F.run _ X.stack _ _ ⟨[.ref (s2.heap.objs.size + 1)], ks.zip ws⟩ (Value.ref (s2.heap.objs.size + 1) :: idx.map fun i => ws.getD i .none) _ _ E0 (hr.make C [] (ks.zip ws))
    (I3.env0.make C [] (ks.zip ws)) (hb.to _ (.ref (s2.heap.objs.size + 1)) ws I3.kIn hl) r2 hq) fun r s' hq' => ?_))
  cases r with
  | error e => exact pass0 pins σ _ _ e s' I3 hq'
  | ok fl =>
    cases fl with
    | ret u =>
      obtain ⟨v, H', I4, rv, ev, q3⟩ := I3.after hq'
      subst ev
      exact ⟨rv, ⟨V.ref (s2.heap.objs.size + 1), H', I4, rfl, q3⟩⟩
    | next => exact False.elim hq'
    | brk => exact False.elim hq'
    | cont => exact False.elim hq'
/-- len(o), o an object with its own __len__ -/
theorem call_lenO (M : Mt X.prog X.w X.K X.mg X.base k C "__len__" ["self"] sp) (c : Cls X.K C) (hr : Room (k + 1) X.A) : CallR X (.builtin "len") (fun vs H Q => ∃ a dx fs, vs = [V.ref a] ∧ H a = some (.ins C dx fs) ∧ sp [V.ref a] H (fun v H' => ∃ n : Int, v = .int n ∧ 0 ≤ n ∧ n < 2 ^ 63 ∧ Q (.int n) H') E0) := by
  obtain ⟨f, fd, F, hm, hb⟩ := M.ex
  intro pins s σ H xs us Q I r h
  obtain ⟨a, dx, fs, rfl, ea, q⟩ := h
  cases r with
  | cons rx rr =>
    cases rr
    cases rx
    obtain ⟨mA, O, _⟩ := ins_get I.hok ea
    obtain ⟨od, J, _⟩ := O.look
    refine PySem.Calls.call_function_entry PySem.kind_len PySem.plain_len PySem.entry_len (PySem.args_len1 _) ?_
    unfold Builtin.«len»
    refine wpAny_bind (m := oneArg "len" _) (wpAny_pure ?_)
    have r2 : Vals [V.ref a] [Value.ref a] := .cons rfl .nil
    have hl : ([Value.ref a] ++ []).length = ["self"].length := rfl
    refine wpAny_bind (m := callSpecial? (.ref a) (Str.ofString "__len__")) (PySem.W.special_fn I.kIn J hm.at_ (beq_iff_eq.mp hm.fn) (wpAny_mono (wpAny_call (codeAny_mono (F.run X.A.in1 X.stack s H ⟨[.ref a], []⟩ [.ref a] [.ref a] _ E0 hr.in1 I.env0.in1 (hb s [.ref a] I.kIn rfl) r2 q) (R' := wants (EP X pins σ fun v H' => ∃ n : Int, v = .int n ∧ 0 ≤ n ∧ n < 2 ^ 63 ∧ Q (.int n) H') X.xe) fun r s' hq => ?_)) (fun v s' hv => ?_) fun _ _ y => y))
    · cases r with
      | error e => exact pass0 pins σ H s e s' I hq
      | ok fl =>
        cases fl with
        | ret u => exact I.after hq
        | next => exact False.elim hq
        | brk => exact False.elim hq
        | cont => exact False.elim hq
    · obtain ⟨v', H', I', rv, n, rfl, h0, h1, q'⟩ := hv
      obtain ⟨t, rfl⟩ := (show ∃ t, v = Value.int n t from rv)
      refine wpAny_bind (wpAny_holding (wpAny_pure ?_))
      refine wpAny_bind (wpAny_letGo ?_)
      show wpAny _ _ (if n < 0 then _ else _) _ _ _
      rw [if_neg (by omega)]
      show wpAny _ _ (if n ≥ 2 ^ 63 then _ else _) _ _ _
      rw [if_neg (by omega)]
      exact wpAny_bind (wpAny_mkInt (wpAny_pure ⟨_, rfl, ⟨.int n, H', I'.tok _, ⟨_, rfl⟩, q'⟩⟩))
end
/-- what the class must say so that == of its objects is by identity -/
structure EqC (K : PySem.W.Frag) (C : Addr) : Prop where
  ex : ∃ nm q N bs hdct sn sub ab col dd k0 k1 k2 k3 k5 nid, K.lookup C = some (excClassObj nm q C N bs [.type "object"] hdct sn sub ab col dd k0 k1 k2 k3 k5 nid) ∧ PySem.W.nsOkIn K N = true ∧ PySem.W.nsIn K N "__eq__" = some none ∧ PySem.W.nsIn K N "__ne__" = some none
theorem EqC.inst {P : Program} {w : World} {K : PySem.W.Frag} {H : Hp} {h : Heap} {C a dx : Addr} {fs : List (Str × V)} (E : EqC K C) (X : K.In h) (ok : HOk P w H h) (ea : H a = some (.ins C dx fs)) : h.CmpInst a C [.type "object"] := by
  obtain ⟨nm, q, N, bs, hdct, sn, sub, ab, col, dd, k0, k1, k2, k3, k5, nid, hC, hok, h1, h2⟩ := E.ex
  obtain ⟨mA, O, _⟩ := ins_get ok ea
  obtain ⟨od, J, _⟩ := O.look
  exact ⟨_, nm, q, N, bs, hdct, sn, sub, ab, col, dd, k0, k1, k2, k3, k5, nid, _, J.1, rfl, X _ _ hC, .of_isNs (PySem.W.isNs_of_in X hok), PySem.W.nsMap_none_of_in X hok h1, PySem.W.nsMap_none_of_in X hok h2⟩
/-- o == p, two objects of one class that are not the same -/
theorem op_eqI {X : Cx} {C : Addr} (E : EqC X.K C) (hu : X.A.units < cLine) : OpR X (compareOp .Eq) (fun x y H Q => ∃ a b dx fs dy gs, x = .ref a ∧ y = .ref b ∧ H a = some (.ins C dx fs) ∧ H b = some (.ins C dy gs) ∧ a ≠ b ∧ Q (.bl false) H) := by
  intro pins s σ H x y v u Q I rx ry h
  obtain ⟨a, b, dx, fs, dy, gs, rfl, rfl, ea, eb, hab, q⟩ := h
  cases rx
  cases ry
  have Xa := E.inst I.kIn I.hok ea
  have Xb := E.inst I.kIn I.hok eb
  obtain ⟨hp, g, d, t, os⟩ := s
  exact compareOp_eq_other PySem.F.cmp_object PySem.F.cmp_object Xa Xb hab hu ⟨.bl false, H, I, rfl, q⟩
theorem with_eqc {K : PySem.W.Frag} {mg : Str → Option Value} {C N : Addr} {y : Str} {nm q : Str} {bs : List Value} {hdct : Bool} {sn : List Str} {sub : List Value} {ab : Bool} {col : Option Bool} {dd : Option Addr} {k0 k1 k2 k3 k5 : Option Value} {nid : String} {Z : Prop} (KL : Kls K mg y C)
    (l : K.lookup C = some (excClassObj nm q C N bs [.type "object"] hdct sn sub ab col dd k0 k1 k2 k3 k5 nid)) (o : PySem.W.nsOkIn K N = true) (e : PySem.W.nsIn K N "__eq__" = some none) (n : PySem.W.nsIn K N "__ne__" = some none) (go : EqC K C → Z) : Z :=
  go ⟨⟨nm, q, N, bs, hdct, sn, sub, ab, col, dd, k0, k1, k2, k3, k5, nid, l, o, e, n⟩⟩
end Gx
end

section
set_option Elab.async false
set_option linter.all false
set_option maxRecDepth 100000
set_option maxHeartbeats 4000000
namespace K52
open PySem PySem.Spec PyProof.Rows L2 GxR Gx Ma
section
variable {P : Program} {w : World} {K : PySem.W.Frag} {mg : Str → Option Value} {base : Heap}

theorem lk_ne {f g : Str} {v : V} {r : List (Str × V)} (h : ¬ g = f) : List.lookup g ((f, v) :: r) = List.lookup g r := by
  have hb : (g == f) = false := beq_eq_false_iff_ne.mpr h
  simp only [List.lookup, hb]
theorem lk_eq {g : Str} {v : V} {r : List (Str × V)} : List.lookup g ((g, v) :: r) = some v := by
  have hb : (g == g) = true := beq_iff_eq.mpr rfl
  simp only [List.lookup, hb]
theorem pf_ne {f g : Str} {v x : V} {r : List (Str × V)} (h : ¬ g = f) : putF f v ((g, x) :: r) = (g, x) :: putF f v r := if_neg h
theorem pf_eq {f : Str} {v x : V} {r : List (Str × V)} : putF f v ((f, x) :: r) = (f, v) :: r := if_pos rfl
def PF (s : V) (t c pl bl : Addr) : List (Str × V) := [("_start", s), ("_kept", .ref t), ("_content", .ref c), ("_past", .ref pl), ("_before", .ref bl)]

theorem ne_kept_start : ¬ (("_kept" : Str) = "_start") := by decide +kernel
theorem ne_start_kept : ¬ (("_start" : Str) = "_kept") := by decide +kernel
theorem ne_content_start : ¬ (("_content" : Str) = "_start") := by decide +kernel
theorem ne_start_content : ¬ (("_start" : Str) = "_content") := by decide +kernel
theorem ne_content_kept : ¬ (("_content" : Str) = "_kept") := by decide +kernel
theorem ne_kept_content : ¬ (("_kept" : Str) = "_content") := by decide +kernel
theorem ne_past_start : ¬ (("_past" : Str) = "_start") := by decide +kernel
theorem ne_start_past : ¬ (("_start" : Str) = "_past") := by decide +kernel
theorem ne_past_kept : ¬ (("_past" : Str) = "_kept") := by decide +kernel
theorem ne_kept_past : ¬ (("_kept" : Str) = "_past") := by decide +kernel
theorem ne_past_content : ¬ (("_past" : Str) = "_content") := by decide +kernel
theorem ne_content_past : ¬ (("_content" : Str) = "_past") := by decide +kernel
theorem ne_before_start : ¬ (("_before" : Str) = "_start") := by decide +kernel
theorem ne_start_before : ¬ (("_start" : Str) = "_before") := by decide +kernel
theorem ne_before_kept : ¬ (("_before" : Str) = "_kept") := by decide +kernel
theorem ne_kept_before : ¬ (("_kept" : Str) = "_before") := by decide +kernel
theorem ne_before_content : ¬ (("_before" : Str) = "_content") := by decide +kernel
theorem ne_content_before : ¬ (("_content" : Str) = "_before") := by decide +kernel
theorem ne_before_past : ¬ (("_before" : Str) = "_past") := by decide +kernel
theorem ne_past_before : ¬ (("_past" : Str) = "_before") := by decide +kernel
theorem lk_start {s : V} {t c pl bl : Addr} : (PF s t c pl bl).lookup ("_start" : Str) = some (s) := by
  unfold PF
  rw [lk_eq]
theorem lk_kept {s : V} {t c pl bl : Addr} : (PF s t c pl bl).lookup ("_kept" : Str) = some (.ref t) := by
  unfold PF
  rw [lk_ne ne_kept_start, lk_eq]
theorem lk_content {s : V} {t c pl bl : Addr} : (PF s t c pl bl).lookup ("_content" : Str) = some (.ref c) := by
  unfold PF
  rw [lk_ne ne_content_start, lk_ne ne_content_kept, lk_eq]
theorem lk_past {s : V} {t c pl bl : Addr} : (PF s t c pl bl).lookup ("_past" : Str) = some (.ref pl) := by
  unfold PF
  rw [lk_ne ne_past_start, lk_ne ne_past_kept, lk_ne ne_past_content, lk_eq]
theorem lk_before {s : V} {t c pl bl : Addr} : (PF s t c pl bl).lookup ("_before" : Str) = some (.ref bl) := by
  unfold PF
  rw [lk_ne ne_before_start, lk_ne ne_before_kept, lk_ne ne_before_content, lk_ne ne_before_past, lk_eq]
theorem pt_kept {s : V} {t c pl bl x : Addr} : putF "_kept" (.ref x) (PF s t c pl bl) = PF s x c pl bl := by
  unfold PF
  rw [pf_ne ne_start_kept, pf_eq]
theorem pt_content {s : V} {t c pl bl x : Addr} : putF "_content" (.ref x) (PF s t c pl bl) = PF s t x pl bl := by
  unfold PF
  rw [pf_ne ne_start_content, pf_ne ne_kept_content, pf_eq]
theorem pt_past {s : V} {t c pl bl x : Addr} : putF "_past" (.ref x) (PF s t c pl bl) = PF s t c x bl := by
  unfold PF
  rw [pf_ne ne_start_past, pf_ne ne_kept_past, pf_ne ne_content_past, pf_eq]
theorem pt_all {s : V} {t c pl bl : Addr} : putF "_before" (.ref bl) (putF "_past" (.ref pl) (putF "_content" (.ref c) (putF "_kept" (.ref t) (putF "_start" s [])))) = PF s t c pl bl := by
  show putF "_before" (.ref bl) (putF "_past" (.ref pl) (putF "_content" (.ref c) (putF "_kept" (.ref t) [("_start", s)]))) = _
  rw [pf_ne ne_start_kept]
  show putF "_before" (.ref bl) (putF "_past" (.ref pl) (putF "_content" (.ref c) [("_start", s), ("_kept", .ref t)])) = _
  rw [pf_ne ne_start_content, pf_ne ne_kept_content]
  show putF "_before" (.ref bl) (putF "_past" (.ref pl) [("_start", s), ("_kept", .ref t), ("_content", .ref c)]) = _
  rw [pf_ne ne_start_past, pf_ne ne_kept_past, pf_ne ne_content_past]
  show putF "_before" (.ref bl) [("_start", s), ("_kept", .ref t), ("_content", .ref c), ("_past", .ref pl)] = _
  rw [pf_ne ne_start_before, pf_ne ne_kept_before, pf_ne ne_content_before, pf_ne ne_past_before]
  rfl

theorem lk_go_on {s : V} {t c pl bl : Addr} : (PF s t c pl bl).lookup ("_go_on" : Str) = none := by
  unfold PF
  rw [lk_ne (by decide +kernel), lk_ne (by decide +kernel), lk_ne (by decide +kernel), lk_ne (by decide +kernel), lk_ne (by decide +kernel)]
  rfl
theorem lk_pour_all {s : V} {t c pl bl : Addr} : (PF s t c pl bl).lookup ("_pour_all" : Str) = none := by
  unfold PF
  rw [lk_ne (by decide +kernel), lk_ne (by decide +kernel), lk_ne (by decide +kernel), lk_ne (by decide +kernel), lk_ne (by decide +kernel)]
  rfl
theorem lk_pour {s : V} {t c pl bl : Addr} : (PF s t c pl bl).lookup ("pour" : Str) = none := by
  unfold PF
  rw [lk_ne (by decide +kernel), lk_ne (by decide +kernel), lk_ne (by decide +kernel), lk_ne (by decide +kernel), lk_ne (by decide +kernel)]
  rfl
theorem lk_top_up {s : V} {t c pl bl : Addr} : (PF s t c pl bl).lookup ("top_up" : Str) = none := by
  unfold PF
  rw [lk_ne (by decide +kernel), lk_ne (by decide +kernel), lk_ne (by decide +kernel), lk_ne (by decide +kernel), lk_ne (by decide +kernel)]
  rfl
theorem lk_keep {s : V} {t c pl bl : Addr} : (PF s t c pl bl).lookup ("keep" : Str) = none := by
  unfold PF
  rw [lk_ne (by decide +kernel), lk_ne (by decide +kernel), lk_ne (by decide +kernel), lk_ne (by decide +kernel), lk_ne (by decide +kernel)]
  rfl
theorem lk_undo {s : V} {t c pl bl : Addr} : (PF s t c pl bl).lookup ("undo" : Str) = none := by
  unfold PF
  rw [lk_ne (by decide +kernel), lk_ne (by decide +kernel), lk_ne (by decide +kernel), lk_ne (by decide +kernel), lk_ne (by decide +kernel)]
  rfl
theorem lk_undo_to {s : V} {t c pl bl : Addr} : (PF s t c pl bl).lookup ("undo_to" : Str) = none := by
  unfold PF
  rw [lk_ne (by decide +kernel), lk_ne (by decide +kernel), lk_ne (by decide +kernel), lk_ne (by decide +kernel), lk_ne (by decide +kernel)]
  rfl
theorem lk_mark {s : V} {t c pl bl : Addr} : (PF s t c pl bl).lookup ("mark" : Str) = none := by
  unfold PF
  rw [lk_ne (by decide +kernel), lk_ne (by decide +kernel), lk_ne (by decide +kernel), lk_ne (by decide +kernel), lk_ne (by decide +kernel)]
  rfl
theorem lk_twin {s : V} {t c pl bl : Addr} : (PF s t c pl bl).lookup ("twin" : Str) = none := by
  unfold PF
  rw [lk_ne (by decide +kernel), lk_ne (by decide +kernel), lk_ne (by decide +kernel), lk_ne (by decide +kernel), lk_ne (by decide +kernel)]
  rfl
theorem lk_strength {s : V} {t c pl bl : Addr} : (PF s t c pl bl).lookup ("strength" : Str) = none := by
  unfold PF
  rw [lk_ne (by decide +kernel), lk_ne (by decide +kernel), lk_ne (by decide +kernel), lk_ne (by decide +kernel), lk_ne (by decide +kernel)]
  rfl
theorem lk__len__ {s : V} {t c pl bl : Addr} : (PF s t c pl bl).lookup ("__len__" : Str) = none := by
  unfold PF
  rw [lk_ne (by decide +kernel), lk_ne (by decide +kernel), lk_ne (by decide +kernel), lk_ne (by decide +kernel), lk_ne (by decide +kernel)]
  rfl
structure PNA (K : PySem.W.Frag) (C : Addr) : Prop where
  s : NoAttr K C "_start"
  k : NoAttr K C "_kept"
  c : NoAttr K C "_content"
  p : NoAttr K C "_past"
  b : NoAttr K C "_before"

theorem ins_ne {H : Hp} {p q C dx : Addr} {fs : List (Str × V)} {xs : List V} (h1 : H p = some (.ins C dx fs)) (h2 : H q = some (.lst xs)) : q ≠ p := fun e => by rw [e, h1] at h2; cases h2
theorem insT_ne {H : Hp} {p q C dx : Addr} {fs : List (Str × V)} {xs : List V} (h1 : H p = some (.ins C dx fs)) (h2 : H q = some (.tup xs)) : q ≠ p := fun e => by rw [e, h1] at h2; cases h2
theorem lstT_ne {H : Hp} {p q : Addr} {ys xs : List V} (h1 : H p = some (.lst ys)) (h2 : H q = some (.tup xs)) : q ≠ p := fun e => by rw [e, h1] at h2; cases h2

theorem pt_before {s : V} {t c pl bl x : Addr} : putF "_before" (.ref x) (PF s t c pl bl) = PF s t c pl x := by
  unfold PF
  rw [pf_ne ne_start_before, pf_ne ne_kept_before, pf_ne ne_content_before, pf_ne ne_past_before, pf_eq]
/-- what a pot is at one time -/
structure PS where
  a : Int
  b : Int
  ns : List Int
  past : List (Nat × Int × Int)
/-- o stands at q, which is none of those that change -/
def At (M : List Addr) (H : Hp) (q : Addr) (o : HO) : Prop := H q = some o ∧ q ∉ M
def ButM (M : List Addr) (H H' : Hp) : Prop := ∀ q o, q ∉ M → H q = some o → H' q = some o
/-- what may change: an object or a list -/
def Mu (H : Hp) (m : Addr) : Prop := (∃ C dx fs, H m = some (.ins C dx fs)) ∨ ∃ xs, H m = some (.lst xs)
theorem Mu.ne {H : Hp} {m : Addr} (h : Mu H m) : H m ≠ none := fun e => by
  rcases h with ⟨_, _, _, h⟩ | ⟨_, h⟩ <;> rw [e] at h <;> cases h
theorem Mu.same {H H' : Hp} {m : Addr} (h : Mu H m) (e : Same H H') : Mu H' m := by
  rcases h with ⟨C, dx, fs, h⟩ | ⟨xs, h⟩
  · exact .inl ⟨C, dx, fs, e _ _ h⟩
  · exact .inr ⟨xs, e _ _ h⟩
theorem Mu.tup {H : Hp} {m : Addr} {xs : List V} (h : Mu H m) (e : H m = some (.tup xs)) : False := by
  rcases h with ⟨_, _, _, h⟩ | ⟨_, h⟩ <;> rw [e] at h <;> cases h
theorem ButM.of {M : List Addr} {H H' : Hp} (e : Same H H') : ButM M H H' := fun q o _ h => e q o h
theorem ButM.trans {M : List Addr} {H H1 H2 : Hp} (a : ButM M H H1) (b : ButM M H1 H2) : ButM M H H2 := fun q o n h => b q o n (a q o n h)
theorem At.but {M : List Addr} {H H' : Hp} {q : Addr} {o : HO} (h : At M H q o) (e : ButM M H H') : At M H' q o := ⟨e _ _ h.2 h.1, h.2⟩
theorem At.ext {M : List Addr} {H : Hp} {q x : Addr} {o : HO} (h : At M H q o) (hx : H x = none) : At (x :: M) H q o := ⟨h.1, fun m => by
  rcases List.mem_cons.mp m with e | e
  · rw [← e, h.1] at hx; cases hx
  · exact h.2 e⟩
structure TuO (M : List Addr) (H : Hp) (x : Addr) (p : Nat × Int × Int) : Prop where
  ex : ∃ kt, At M H x (.tup [.int (p.1 : Nat), .ref kt]) ∧ At M H kt (.tup [.int p.2.1, .int p.2.2])
theorem TuO.but {M : List Addr} {H H' : Hp} {x : Addr} {p : Nat × Int × Int} (h : TuO M H x p) (e : ButM M H H') : TuO M H' x p := let ⟨kt, a, b⟩ := h.ex; ⟨⟨kt, a.but e, b.but e⟩⟩
theorem TuO.ext {M : List Addr} {H : Hp} {x y : Addr} {p : Nat × Int × Int} (h : TuO M H x p) (hx : H y = none) : TuO (y :: M) H x p := let ⟨kt, a, b⟩ := h.ex; ⟨⟨kt, a.ext hx, b.ext hx⟩⟩
/-- the tuples of a past -/
def Tus (M : List Addr) (H : Hp) (as : List Addr) (past : List (Nat × Int × Int)) : Prop := as.length = past.length ∧ ∀ (i : Nat) (x : Addr) (p : Nat × Int × Int), as[i]? = some x → past[i]? = some p → TuO M H x p
theorem Tus.but {M : List Addr} {H H' : Hp} {as : List Addr} {past : List (Nat × Int × Int)} (h : Tus M H as past) (e : ButM M H H') : Tus M H' as past := ⟨h.1, fun i x p h1 h2 => (h.2 i x p h1 h2).but e⟩
theorem Tus.ext {M : List Addr} {H : Hp} {as : List Addr} {y : Addr} {past : List (Nat × Int × Int)} (h : Tus M H as past) (hx : H y = none) : Tus (y :: M) H as past := ⟨h.1, fun i x p h1 h2 => (h.2 i x p h1 h2).ext hx⟩
theorem Tus.app {M : List Addr} {H : Hp} {as bs : List Addr} {p1 p2 : List (Nat × Int × Int)} (h : Tus M H as p1) (g : Tus M H bs p2) : Tus M H (as ++ bs) (p1 ++ p2) := by
  refine ⟨by rw [List.length_append, List.length_append, h.1, g.1], fun i x p h1 h2 => ?_⟩
  by_cases hi : i < as.length
  · rw [List.getElem?_append_left hi] at h1
    rw [List.getElem?_append_left (by rw [← h.1]; exact hi)] at h2
    exact h.2 i x p h1 h2
  · rw [List.getElem?_append_right (by omega)] at h1
    rw [List.getElem?_append_right (by rw [← h.1]; omega), ← h.1] at h2
    exact g.2 _ x p h1 h2
structure StO (M : List Addr) (H : Hp) (t c pl : Addr) (st : PS) : Prop where
  t : At M H t (.tup [.int st.a, .int st.b])
  c : At M H c (.lst (st.ns.map V.int))
  p : ∃ as : List Addr, At M H pl (.lst (as.map V.ref)) ∧ Tus M H as st.past
theorem StO.but {M : List Addr} {H H' : Hp} {t c pl : Addr} {st : PS} (h : StO M H t c pl st) (e : ButM M H H') : StO M H' t c pl st := ⟨h.t.but e, h.c.but e, let ⟨as, a, b⟩ := h.p; ⟨as, a.but e, b.but e⟩⟩
theorem StO.ext {M : List Addr} {H : Hp} {t c pl x : Addr} {st : PS} (h : StO M H t c pl st) (hx : H x = none) : StO (x :: M) H t c pl st := ⟨h.t.ext hx, h.c.ext hx, let ⟨as, a, b⟩ := h.p; ⟨as, a.ext hx, b.ext hx⟩⟩
structure StT (M : List Addr) (H : Hp) (T : Addr) (st : PS) : Prop where
  ex : ∃ t c pl, At M H T (.tup [.ref t, .ref c, .ref pl]) ∧ StO M H t c pl st
theorem StT.but {M : List Addr} {H H' : Hp} {T : Addr} {st : PS} (h : StT M H T st) (e : ButM M H H') : StT M H' T st := let ⟨t, c, pl, a, b⟩ := h.ex; ⟨⟨t, c, pl, a.but e, b.but e⟩⟩
theorem StT.ext {M : List Addr} {H : Hp} {T x : Addr} {st : PS} (h : StT M H T st) (hx : H x = none) : StT (x :: M) H T st := let ⟨t, c, pl, a, b⟩ := h.ex; ⟨⟨t, c, pl, a.ext hx, b.ext hx⟩⟩
def Sts (M : List Addr) (H : Hp) (Ts : List Addr) (sts : List PS) : Prop := Ts.length = sts.length ∧ ∀ (i : Nat) (T : Addr) (st : PS), Ts[i]? = some T → sts[i]? = some st → StT M H T st
theorem Sts.but {M : List Addr} {H H' : Hp} {Ts : List Addr} {sts : List PS} (h : Sts M H Ts sts) (e : ButM M H H') : Sts M H' Ts sts := ⟨h.1, fun i T st h1 h2 => (h.2 i T st h1 h2).but e⟩
theorem Sts.ext {M : List Addr} {H : Hp} {Ts : List Addr} {x : Addr} {sts : List PS} (h : Sts M H Ts sts) (hx : H x = none) : Sts (x :: M) H Ts sts := ⟨h.1, fun i T st h1 h2 => (h.2 i T st h1 h2).ext hx⟩
theorem Sts.snoc {M : List Addr} {H : Hp} {Ts : List Addr} {sts : List PS} {T : Addr} {st : PS} (h : Sts M H Ts sts) (g : StT M H T st) : Sts M H (Ts ++ [T]) (sts ++ [st]) := by
  refine ⟨by rw [List.length_append, List.length_append, h.1]; rfl, fun i x p h1 h2 => ?_⟩
  by_cases hi : i < Ts.length
  · rw [List.getElem?_append_left hi] at h1
    rw [List.getElem?_append_left (by rw [← h.1]; exact hi)] at h2
    exact h.2 i x p h1 h2
  · rw [List.getElem?_append_right (by omega)] at h1
    rw [List.getElem?_append_right (by rw [← h.1]; omega), ← h.1] at h2
    generalize hj : i - Ts.length = j at h1 h2
    cases j with
    | zero => cases h1; cases h2; exact g
    | succ j => cases h1
theorem Sts.take {M : List Addr} {H : Hp} {Ts : List Addr} {sts : List PS} (h : Sts M H Ts sts) (n : Nat) : Sts M H (Ts.take n) (sts.take n) := by
  refine ⟨by rw [List.length_take, List.length_take, h.1], fun i x p h1 h2 => ?_⟩
  rw [List.getElem?_take] at h1 h2
  split at h1
  · rename_i hlt
    rw [if_pos hlt] at h2
    exact h.2 i x p h1 h2
  · cases h1
/-- a pot at p, bl the list of what it was before: sts the earlier times, cur now -/
structure PotS (C : Addr) (M : List Addr) (H : Hp) (p bl : Addr) (s : Nat) (sts : List PS) (cur : PS) : Prop where
  ex : ∃ dx t c pl Ts, H p = some (.ins C dx (PF (.int (s : Nat)) t c pl bl)) ∧ StO M H t c pl cur ∧ H bl = some (.lst (Ts.map V.ref)) ∧ Sts M H Ts sts
  pm : p ∈ M
  bm : bl ∈ M
theorem PotS.pb {C : Addr} {M : List Addr} {H : Hp} {p bl : Addr} {s : Nat} {sts : List PS} {cur : PS} (h : PotS C M H p bl s sts cur) : p ≠ bl := let ⟨_, _, _, _, _, a, _, b, _⟩ := h.ex; Ne.symm (ins_ne a b)
theorem PotS.keep {C : Addr} {M : List Addr} {H H' : Hp} {p bl : Addr} {s : Nat} {sts : List PS} {cur : PS} (h : PotS C M H p bl s sts cur) (e : ButM M H H') (h1 : ∀ o, H p = some o → H' p = some o) (h2 : ∀ o, H bl = some o → H' bl = some o) : PotS C M H' p bl s sts cur :=
  ⟨let ⟨dx, t, c, pl, Ts, a1, a2, a3, a4⟩ := h.ex; ⟨dx, t, c, pl, Ts, h1 _ a1, a2.but e, h2 _ a3, a4.but e⟩, h.pm, h.bm⟩
theorem PotS.same {C : Addr} {M : List Addr} {H H' : Hp} {p bl : Addr} {s : Nat} {sts : List PS} {cur : PS} (h : PotS C M H p bl s sts cur) (e : Same H H') : PotS C M H' p bl s sts cur := h.keep (ButM.of e) (fun o q => e _ _ q) fun o q => e _ _ q
theorem PotS.ext {C : Addr} {M : List Addr} {H : Hp} {p bl x : Addr} {s : Nat} {sts : List PS} {cur : PS} (h : PotS C M H p bl s sts cur) (hx : H x = none) : PotS C (x :: M) H p bl s sts cur :=
  ⟨let ⟨dx, t, c, pl, Ts, a1, a2, a3, a4⟩ := h.ex; ⟨dx, t, c, pl, Ts, a1, a2.ext hx, a3, a4.ext hx⟩, List.mem_cons_of_mem _ h.pm, List.mem_cons_of_mem _ h.bm⟩
/-- only what stands at p and bl may change -/
def B2 (p bl : Addr) (H H' : Hp) : Prop := ∀ q o, q ≠ p → q ≠ bl → H q = some o → H' q = some o
theorem B2.of {p bl : Addr} {H H' : Hp} (e : Same H H') : B2 p bl H H' := fun q o _ _ h => e q o h
theorem B2.trans {p bl : Addr} {H H1 H2 : Hp} (a : B2 p bl H H1) (b : B2 p bl H1 H2) : B2 p bl H H2 := fun q o n m h => b q o n m (a q o n m h)
theorem B2.m {M : List Addr} {p bl : Addr} {H H' : Hp} (e : B2 p bl H H') (hp : p ∈ M) (hb : bl ∈ M) : ButM M H H' := fun q o n h => e q o (fun z => n (z ▸ hp)) (fun z => n (z ▸ hb)) h
/-- the state behind a row -/
def PS.behind (st : PS) (cs : List Nat) : PS := ⟨st.a, st.b, ctn1 st.ns st.a st.b cs cs.length, st.past ++ cs.map fun c => (c, st.a, st.b)⟩
def sp_liquids (C : Addr) : Sp := fun vs H Q _ => ∃ (M : List Addr) (p bl : Addr) (s : Nat) (sts : List PS) (cur : PS), vs = [V.ref p] ∧ PotS C M H p bl s sts cur ∧ Q (.int (cur.ns.length : Nat)) H
def sp_start (C : Addr) : Sp := fun vs H Q _ => ∃ (M : List Addr) (p bl : Addr) (s : Nat) (sts : List PS) (cur : PS), vs = [V.ref p] ∧ PotS C M H p bl s sts cur ∧ Q (.int (s : Nat)) H
def sp_kept (C : Addr) : Sp := fun vs H Q _ => ∃ (M : List Addr) (p bl : Addr) (s : Nat) (sts : List PS) (cur : PS), vs = [V.ref p] ∧ PotS C M H p bl s sts cur ∧ ∀ t, At M H t (.tup [.int cur.a, .int cur.b]) → Q (.ref t) H
def sp_content (C : Addr) : Sp := fun vs H Q _ => ∃ (M : List Addr) (p bl : Addr) (s : Nat) (sts : List PS) (cur : PS), vs = [V.ref p] ∧ PotS C M H p bl s sts cur ∧ ∀ q H', Same H H' → H q = none → LI H' q cur.ns → Q (.ref q) H'
def sp_past (C : Addr) : Sp := fun vs H Q _ => ∃ (M : List Addr) (p bl : Addr) (s : Nat) (sts : List PS) (cur : PS), vs = [V.ref p] ∧ PotS C M H p bl s sts cur ∧ ∀ q as H', Same H H' → H q = none → H' q = some (.lst (as.map V.ref)) → Tus M H' as cur.past → Q (.ref q) H'
def sp_mark (C : Addr) : Sp := fun vs H Q _ => ∃ (M : List Addr) (p bl : Addr) (s : Nat) (sts : List PS) (cur : PS), vs = [V.ref p] ∧ PotS C M H p bl s sts cur ∧ Q (.int (sts.length : Nat)) H
def sp_init (C : Addr) : Sp := fun vs H Q _ => ∃ (M : List Addr) (p dx t : Addr) (k s : Nat) (a b : Int), vs = [V.ref p, .int k, .int s, .ref t] ∧ H p = some (.ins C dx []) ∧ 1 ≤ k ∧ k ≤ 8 ∧ s < k ∧ H t = some (.tup [.int a, .int b]) ∧ t ∉ M ∧ (∀ m ∈ M, Mu H m) ∧ Kep a b ∧
  ∀ H' bl, (∀ q o, q ≠ p → H q = some o → H' q = some o) → Fre H H' → H bl = none → PotS C (p :: bl :: M) H' p bl s [] ⟨a, b, pur k s, []⟩ → Q .non H'
def sp_go_on (C : Addr) : Sp := fun vs H Q _ => ∃ (M : List Addr) (p bl t' c' pl' : Addr) (s : Nat) (sts : List PS) (cur st : PS), vs = [V.ref p, .ref t', .ref c', .ref pl'] ∧ PotS C M H p bl s sts cur ∧ StO M H t' c' pl' st ∧ (∀ m ∈ M, Mu H m) ∧ sts.length ≤ 1000 ∧
  ∀ H', PotS C M H' p bl s (sts ++ [cur]) st → B2 p bl H H' → Fre H H' → Q .non H'
def sp_keep (C : Addr) : Sp := fun vs H Q _ => ∃ (M : List Addr) (p bl t' : Addr) (s : Nat) (sts : List PS) (cur : PS) (a b : Int), vs = [V.ref p, .ref t'] ∧ PotS C M H p bl s sts cur ∧ At M H t' (.tup [.int a, .int b]) ∧ Kep a b ∧ (∀ m ∈ M, Mu H m) ∧ sts.length ≤ 1000 ∧
  ∀ H', PotS C M H' p bl s (sts ++ [cur]) ⟨a, b, cur.ns, cur.past⟩ → B2 p bl H H' → Fre H H' → Q .non H'
def sp_undo (C : Addr) : Sp := fun vs H Q _ => ∃ (M : List Addr) (p bl : Addr) (s : Nat) (sts : List PS) (st cur : PS), vs = [V.ref p] ∧ PotS C M H p bl s (sts ++ [st]) cur ∧
  ∀ H', PotS C M H' p bl s sts st → B2 p bl H H' → Fre H H' → Q .non H'
def sp_undoX (C E : Addr) : Sp := fun vs H Q X => ∃ (M : List Addr) (p bl : Addr) (s : Nat) (cur : PS), vs = [V.ref p] ∧ PotS C M H p bl s [] cur ∧ X (.ref E) none H
def sp_undo_to (C : Addr) : Sp := fun vs H Q _ => ∃ (M : List Addr) (p bl : Addr) (s : Nat) (sts : List PS) (cur : PS) (i : Nat) (st : PS), vs = [V.ref p, .int i] ∧ PotS C M H p bl s sts cur ∧ i ≤ sts.length ∧ (sts ++ [cur])[i]? = some st ∧
  ∀ H', PotS C M H' p bl s (sts.take i) st → B2 p bl H H' → Fre H H' → Q .non H'
def sp_pour_all (C : Addr) : Sp := fun vs H Q _ => ∃ (M : List Addr) (p bl r : Addr) (s : Nat) (sts : List PS) (cur : PS) (cs : List Nat), vs = [V.ref p, .ref r] ∧ PotS C M H p bl s sts cur ∧ (∀ m ∈ M, Mu H m) ∧ sts.length ≤ 1000 ∧ cur.past.length ≤ 1000 ∧ LI H r (rowI cs) ∧ Row1 cur.ns cur.a cur.b cs ∧ cur.ns.sum < 2 ^ 7000 ∧
  ∀ H', PotS C M H' p bl s (sts ++ [cur]) (cur.behind cs) → B2 p bl H H' → Fre H H' → Q .non H'
def sp_pour (C T : Addr) : Sp := fun vs H Q _ => ∃ (M : List Addr) (p bl r : Addr) (s : Nat) (sts : List PS) (cur : PS) (cs : List Nat), vs = [V.ref p, .ref r] ∧ PotS C M H p bl s sts cur ∧ (∀ m ∈ M, Mu H m) ∧ sts.length ≤ 1000 ∧ cur.past.length ≤ 1000 ∧ LI H r (rowI cs) ∧ Row1 cur.ns cur.a cur.b cs ∧ cur.ns.sum < 2 ^ 7000 ∧ H T = some (TabO T) ∧
  ∀ H', PotS C M H' p bl s (sts ++ [cur]) (cur.behind cs) → B2 p bl H H' → Fre H H' → Q .non H'
def sp_top_up (C : Addr) : Sp := fun vs H Q _ => ∃ (M : List Addr) (p bl : Addr) (s : Nat) (sts : List PS) (cur : PS) (c : Nat), vs = [V.ref p, .int c] ∧ PotS C M H p bl s sts cur ∧ (∀ m ∈ M, Mu H m) ∧ sts.length ≤ 1000 ∧ cur.past.length ≤ 1000 ∧ Row1 cur.ns cur.a cur.b [c] ∧ cur.ns.sum < 2 ^ 7000 ∧
  ∀ H', PotS C M H' p bl s (sts ++ [cur]) (cur.behind [c]) → B2 p bl H H' → Fre H H' → Q .non H'
def sp_twin (C : Addr) : Sp := fun vs H Q _ => ∃ (M : List Addr) (p bl : Addr) (s : Nat) (sts : List PS) (cur : PS), vs = [V.ref p] ∧ PotS C M H p bl s sts cur ∧ (∀ m ∈ M, Mu H m) ∧ Kep cur.a cur.b ∧ 1 ≤ cur.ns.length ∧ cur.ns.length ≤ 8 ∧ s < cur.ns.length ∧ sts.length ≤ 1000 ∧
  ∀ H' p2 bl2, Same H H' → H p2 = none → H bl2 = none → PotS C (p2 :: bl2 :: M) H' p2 bl2 s sts cur → Q (.ref p2) H'
def sp_pstrength (C Tc Ts Tg : Addr) : Sp := fun vs H Q _ => ∃ (M : List Addr) (p bl b : Addr) (s : Nat) (sts : List PS) (cur : PS) (ss : List Int), vs = [V.ref p, .ref b] ∧ PotS C M H p bl s sts cur ∧ Con cur.ns ∧ cur.ns.sum < 2 ^ 7000 ∧ LI H b ss ∧ ss.length = cur.ns.length ∧ (∀ x ∈ ss, x.natAbs < 2 ^ 100) ∧ H Tc = some (TabO Tc) ∧ H Ts = some (TabO Ts) ∧ H Tg = some (TabO Tg) ∧
  ∀ q H', Same H H' → H q = none → H' q = some (.tup [.int (fr (dotZ cur.ns ss) cur.ns.sum).1, .int (fr (dotZ cur.ns ss) cur.ns.sum).2]) → Q (.ref q) H'

theorem ok_Pot_liquids {f : Addr} {fd : FuncData}  (F : Fun K "liquids" "Pot.liquids" s_Pot_liquids f fd) (B : Bl mg) {C : Addr} (KL : Kls K mg "Pot" C) (NA : PNA K C) : FnOk P w K mg base CX0 1 f fd ["self"] (sp_liquids C) := by
  refine F.ok sc_Pot_liquids (fun vs H Q E h => ?_) (fun cdv A outer s H vs Q E hr h => ?_)
  · obtain ⟨M, p, bl, s, sts, cur, rfl, _⟩ := h; rfl
  · obtain ⟨M, p, bl, s, sts, cur, rfl, hp, q⟩ := h
    obtain ⟨dx, t, c, pl, Ts, h1, h2, h3, h4⟩ := hp.ex
    have nd := sc_Pot_liquids.nd
    refine ⟨_, (pss_one (ps_ret (pe_callB call_len_seq (by rfl) B.len PySem.boot_len (pa_cons (pe_fld (pv 0) rfl) pa_nil)))), ?_⟩
    refine ⟨.ref p, rfl, p, C, dx, _, .ref c, rfl, h1, KL.cl, NA.c, lk_content, c, _, rfl, .inl (SqL.of h2.c.1), ?_⟩
    rw [List.length_map]
    exact q


theorem ok_Pot_start {f : Addr} {fd : FuncData}  (F : Fun K "start" "Pot.start" s_Pot_start f fd) (B : Bl mg) {C : Addr} (KL : Kls K mg "Pot" C) (NA : PNA K C) : FnOk P w K mg base CX0 1 f fd ["self"] (sp_start C) := by
  refine F.ok sc_Pot_start (fun vs H Q E h => ?_) (fun cdv A outer s H vs Q E hr h => ?_)
  · obtain ⟨M, p, bl, s, sts, cur, rfl, _⟩ := h; rfl
  · obtain ⟨M, p, bl, s, sts, cur, rfl, hp, q⟩ := h
    obtain ⟨dx, t, c, pl, Ts, h1, h2, h3, h4⟩ := hp.ex
    have nd := sc_Pot_start.nd
    refine ⟨_, (pss_one (ps_ret (pe_fld (pv 0) rfl))), ?_⟩
    exact ⟨.ref p, rfl, p, C, dx, _, .int (s : Nat), rfl, h1, KL.cl, NA.s, lk_start, q⟩


theorem ok_Pot_kept {f : Addr} {fd : FuncData}  (F : Fun K "kept" "Pot.kept" s_Pot_kept f fd) (B : Bl mg) {C : Addr} (KL : Kls K mg "Pot" C) (NA : PNA K C) : FnOk P w K mg base CX0 1 f fd ["self"] (sp_kept C) := by
  refine F.ok sc_Pot_kept (fun vs H Q E h => ?_) (fun cdv A outer s H vs Q E hr h => ?_)
  · obtain ⟨M, p, bl, s, sts, cur, rfl, _⟩ := h; rfl
  · obtain ⟨M, p, bl, s, sts, cur, rfl, hp, q⟩ := h
    obtain ⟨dx, t, c, pl, Ts, h1, h2, h3, h4⟩ := hp.ex
    have nd := sc_Pot_kept.nd
    refine ⟨_, (pss_one (ps_ret (pe_fld (pv 0) rfl))), ?_⟩
    exact ⟨.ref p, rfl, p, C, dx, _, .ref t, rfl, h1, KL.cl, NA.k, lk_kept, q t h2.t⟩


theorem ok_Pot_content {f : Addr} {fd : FuncData}  (F : Fun K "content" "Pot.content" s_Pot_content f fd) (B : Bl mg) {C : Addr} (KL : Kls K mg "Pot" C) (NA : PNA K C) : FnOk P w K mg base CX0 1 f fd ["self"] (sp_content C) := by
  refine F.ok sc_Pot_content (fun vs H Q E h => ?_) (fun cdv A outer s H vs Q E hr h => ?_)
  · obtain ⟨M, p, bl, s, sts, cur, rfl, _⟩ := h; rfl
  · obtain ⟨M, p, bl, s, sts, cur, rfl, hp, q⟩ := h
    obtain ⟨dx, t, c, pl, Ts, h1, h2, h3, h4⟩ := hp.ex
    have nd := sc_Pot_content.nd
    refine ⟨_, (pss_one (ps_ret (pe_callTy call_list_of (by rfl) B.list (by decide +kernel) (pa_cons (pe_fld (pv 0) rfl) pa_nil)))), ?_⟩
    refine ⟨.ref p, rfl, p, C, dx, _, .ref c, rfl, h1, KL.cl, NA.c, lk_content, c, _, rfl, .inl (SqL.of h2.c.1), fun l nl => ?_⟩
    exact q l _ (sameN nl) nl upd_same


theorem ok_Pot_past {f : Addr} {fd : FuncData}  (F : Fun K "past" "Pot.past" s_Pot_past f fd) (B : Bl mg) {C : Addr} (KL : Kls K mg "Pot" C) (NA : PNA K C) : FnOk P w K mg base CX0 1 f fd ["self"] (sp_past C) := by
  refine F.ok sc_Pot_past (fun vs H Q E h => ?_) (fun cdv A outer s H vs Q E hr h => ?_)
  · obtain ⟨M, p, bl, s, sts, cur, rfl, _⟩ := h; rfl
  · obtain ⟨M, p, bl, s, sts, cur, rfl, hp, q⟩ := h
    obtain ⟨dx, t, c, pl, Ts, h1, h2, h3, h4⟩ := hp.ex
    have nd := sc_Pot_past.nd
    refine ⟨_, (pss_one (ps_ret (pe_callTy call_list_of (by rfl) B.list (by decide +kernel) (pa_cons (pe_fld (pv 0) rfl) pa_nil)))), ?_⟩
    obtain ⟨as, a1, a2⟩ := h2.p
    refine ⟨.ref p, rfl, p, C, dx, _, .ref pl, rfl, h1, KL.cl, NA.p, lk_past, pl, _, rfl, .inl (SqL.of a1.1), fun l nl => ?_⟩
    exact q l as _ (sameN nl) nl upd_same (a2.but (ButM.of (sameN nl)))


theorem ok_Pot_mark {f : Addr} {fd : FuncData}  (F : Fun K "mark" "Pot.mark" s_Pot_mark f fd) (B : Bl mg) {C : Addr} (KL : Kls K mg "Pot" C) (NA : PNA K C) : FnOk P w K mg base CX0 1 f fd ["self"] (sp_mark C) := by
  refine F.ok sc_Pot_mark (fun vs H Q E h => ?_) (fun cdv A outer s H vs Q E hr h => ?_)
  · obtain ⟨M, p, bl, s, sts, cur, rfl, _⟩ := h; rfl
  · obtain ⟨M, p, bl, s, sts, cur, rfl, hp, q⟩ := h
    obtain ⟨dx, t, c, pl, Ts, h1, h2, h3, h4⟩ := hp.ex
    have nd := sc_Pot_mark.nd
    refine ⟨_, (pss_one (ps_ret (pe_callB call_len_seq (by rfl) B.len PySem.boot_len (pa_cons (pe_fld (pv 0) rfl) pa_nil)))), ?_⟩
    refine ⟨.ref p, rfl, p, C, dx, _, .ref bl, rfl, h1, KL.cl, NA.b, lk_before, bl, _, rfl, .inl (SqL.of h3), ?_⟩
    rw [List.length_map, h4.1]
    exact q


theorem ok_Pot___len__ {f : Addr} {fd : FuncData}  (F : Fun K "__len__" "Pot.__len__" s_Pot___len__ f fd) (B : Bl mg) {C : Addr} (KL : Kls K mg "Pot" C) (NA : PNA K C) : FnOk P w K mg base CX0 1 f fd ["self"] (sp_mark C) := by
  refine F.ok sc_Pot___len__ (fun vs H Q E h => ?_) (fun cdv A outer s H vs Q E hr h => ?_)
  · obtain ⟨M, p, bl, s, sts, cur, rfl, _⟩ := h; rfl
  · obtain ⟨M, p, bl, s, sts, cur, rfl, hp, q⟩ := h
    obtain ⟨dx, t, c, pl, Ts, h1, h2, h3, h4⟩ := hp.ex
    have nd := sc_Pot___len__.nd
    refine ⟨_, (pss_one (ps_ret (pe_callB call_len_seq (by rfl) B.len PySem.boot_len (pa_cons (pe_fld (pv 0) rfl) pa_nil)))), ?_⟩
    refine ⟨.ref p, rfl, p, C, dx, _, .ref bl, rfl, h1, KL.cl, NA.b, lk_before, bl, _, rfl, .inl (SqL.of h3), ?_⟩
    rw [List.length_map, h4.1]
    exact q


theorem ok_Pot___init__ {f : Addr} {fd : FuncData}  (F : Fun K "__init__" "Pot.__init__" s_Pot___init__ f fd) (B : Bl mg) {C : Addr} (KL : Kls K mg "Pot" C) (NA : PNA K C) (C_check_number : Cal P w K mg base 3 "check_number" ["number", "least", "most"] sp_check_number) (C_check_liquid : Cal P w K mg base 3 "check_liquid" ["liquid", "liquids"] sp_check_liquid) (C_check_kept : Cal P w K mg base 4 "check_kept" ["kept"] sp_check_kept) (C_pure_content : Cal P w K mg base 4 "pure_content" ["count", "liquid"] sp_pure_content) : FnOk P w K mg base CX0 5 f fd ["self", "count", "start", "kept"] (sp_init C) := by
  refine F.ok sc_Pot___init__ (fun vs H Q E h => ?_) (fun cdv A outer s H vs Q E hr h => ?_)
  · obtain ⟨M, p, dx, t, k, s, a, b, rfl, _⟩ := h; rfl
  · obtain ⟨M, p, dx, t, k, s, a, b, rfl, hp, k1, k8, hs, ht, htM, hM, kp, q⟩ := h
    have nd := sc_Pot___init__.nd
    refine ⟨_, (pss_cons (ps_expr (pe_cal C_check_number (hr.mono (by decide)) (pa_cons (pv 1) (pa_cons pe_int (pa_cons (pe_gi B.MOST_LIQUIDS) pa_nil)))))
      (pss_cons (ps_expr (pe_cal C_check_liquid (hr.mono (by decide)) (pa_cons (pv 2) (pa_cons (pv 1) pa_nil))))
      (pss_cons (ps_expr (pe_cal C_check_kept (hr.mono (by decide)) (pa_cons (pv 3) pa_nil)))
      (pss_cons (ps_fld (pv 0) (pv 2) rfl)
      (pss_cons (ps_fld (pv 0) (pv 3) rfl)
      (pss_cons (ps_fld (pv 0) (pe_cal C_pure_content (hr.mono (by decide)) (pa_cons (pv 1) (pa_cons (pv 2) pa_nil))) rfl)
      (pss_cons (ps_fld (pv 0) (pe_lst pa_nil) rfl)
      (pss_one (ps_fld (pv 0) (pe_lst pa_nil) rfl))))))))), ?_⟩
    refine ⟨.int (k : Nat), rfl, k, 1, 8, rfl, by omega, by omega, ?_⟩
    refine ⟨.int (s : Nat), rfl, .int (k : Nat), rfl, s, k, rfl, by omega, by omega, ?_⟩
    refine ⟨.ref t, rfl, t, a, b, rfl, ht, kp, ?_⟩
    refine ⟨.int (s : Nat), rfl, .ref p, rfl, p, C, dx, _, rfl, hp, KL.cl, NA.s, by show 0 < 1000; decide, ?_⟩
    rw [show putF "_start" (V.int (s : Nat)) [] = ([(("_start" : Str), V.int (s : Nat))] : List (Str × V)) from rfl]
    refine ⟨.ref t, rfl, .ref p, rfl, p, C, dx, _, rfl, upd_same, KL.cl, NA.k, by show 1 < 1000; decide, ?_⟩
    rw [upd_upd, pf_ne ne_start_kept, show putF "_kept" (V.ref t) [] = ([(("_kept" : Str), V.ref t)] : List (Str × V)) from rfl]
    have tp : t ≠ p := insT_ne hp ht
    have g1 : ∀ q o, q ≠ p → H q = some o → L2.upd H p (.ins C dx [("_start", V.int (s : Nat)), ("_kept", V.ref t)]) q = some o := fun q o hq e => by rw [upd_ne hq]; exact e
    have g2 : L2.upd H p (.ins C dx [("_start", V.int (s : Nat)), ("_kept", V.ref t)]) p = some (.ins C dx [("_start", V.int (s : Nat)), ("_kept", V.ref t)]) := upd_same
    have g3 : Fre H (L2.upd H p (.ins C dx [("_start", V.int (s : Nat)), ("_kept", V.ref t)])) := fun x hx => by
      by_cases e : x = p
      · rw [e, upd_same] at hx; cases hx
      · rw [upd_ne e] at hx; exact hx
    generalize L2.upd H p (.ins C dx [("_start", V.int (s : Nat)), ("_kept", V.ref t)]) = H1 at *
    refine ⟨.int (k : Nat), rfl, .int (s : Nat), rfl, k, s, rfl, k1, k8, hs, fun c H2 s2 nc lc => ?_⟩
    refine ⟨.ref p, rfl, p, C, dx, _, rfl, s2 _ _ g2, KL.cl, NA.c, by show 2 < 1000; decide, ?_⟩
    rw [pf_ne ne_start_content, pf_ne ne_kept_content, show putF "_content" (V.ref c) [] = ([(("_content" : Str), V.ref c)] : List (Str × V)) from rfl]
    have cp : c ≠ p := ins_ne (s2 _ _ g2) (show H2 c = some (.lst ((pur k s).map V.int)) from lc)
    have j1 : ∀ q o, q ≠ p → H2 q = some o → L2.upd H2 p (.ins C dx [("_start", V.int (s : Nat)), ("_kept", V.ref t), ("_content", V.ref c)]) q = some o := fun q o hq e => by rw [upd_ne hq]; exact e
    have j2 : L2.upd H2 p (.ins C dx [("_start", V.int (s : Nat)), ("_kept", V.ref t), ("_content", V.ref c)]) p = some (.ins C dx [("_start", V.int (s : Nat)), ("_kept", V.ref t), ("_content", V.ref c)]) := upd_same
    have j3 : Fre H (L2.upd H2 p (.ins C dx [("_start", V.int (s : Nat)), ("_kept", V.ref t), ("_content", V.ref c)])) := fun x hx => by
      by_cases e : x = p
      · rw [e, upd_same] at hx; cases hx
      · rw [upd_ne e] at hx; exact g3 x (s2.free hx)
    generalize L2.upd H2 p (.ins C dx [("_start", V.int (s : Nat)), ("_kept", V.ref t), ("_content", V.ref c)]) = H3 at *
    refine ⟨by show 0 ≤ 16777216; decide, fun pl npl => ?_⟩
    have s4 := sameN (o := .lst []) npl
    have hpl : L2.upd H3 pl (.lst []) pl = some (.lst []) := upd_same
    generalize L2.upd H3 pl (.lst []) = H4 at *
    refine ⟨.ref p, rfl, p, C, dx, _, rfl, s4 _ _ j2, KL.cl, NA.p, by show 3 < 1000; decide, ?_⟩
    rw [pf_ne ne_start_past, pf_ne ne_kept_past, pf_ne ne_content_past, show putF "_past" (V.ref pl) [] = ([(("_past" : Str), V.ref pl)] : List (Str × V)) from rfl]
    have plp : pl ≠ p := ins_ne (s4 _ _ j2) hpl
    have l1 : ∀ q o, q ≠ p → H4 q = some o → L2.upd H4 p (.ins C dx [("_start", V.int (s : Nat)), ("_kept", V.ref t), ("_content", V.ref c), ("_past", V.ref pl)]) q = some o := fun q o hq e => by rw [upd_ne hq]; exact e
    have l2 : L2.upd H4 p (.ins C dx [("_start", V.int (s : Nat)), ("_kept", V.ref t), ("_content", V.ref c), ("_past", V.ref pl)]) p = some (.ins C dx [("_start", V.int (s : Nat)), ("_kept", V.ref t), ("_content", V.ref c), ("_past", V.ref pl)]) := upd_same
    have l3 : Fre H (L2.upd H4 p (.ins C dx [("_start", V.int (s : Nat)), ("_kept", V.ref t), ("_content", V.ref c), ("_past", V.ref pl)])) := fun x hx => by
      by_cases e : x = p
      · rw [e, upd_same] at hx; cases hx
      · rw [upd_ne e] at hx; exact j3 x (s4.free hx)
    generalize L2.upd H4 p (.ins C dx [("_start", V.int (s : Nat)), ("_kept", V.ref t), ("_content", V.ref c), ("_past", V.ref pl)]) = H5 at *
    refine ⟨by show 0 ≤ 16777216; decide, fun bl nbl => ?_⟩
    have s6 := sameN (o := .lst []) nbl
    have hbl : L2.upd H5 bl (.lst []) bl = some (.lst []) := upd_same
    generalize L2.upd H5 bl (.lst []) = H6 at *
    refine ⟨.ref p, rfl, p, C, dx, _, rfl, s6 _ _ l2, KL.cl, NA.b, by show 4 < 1000; decide, ?_⟩
    rw [pf_ne ne_start_before, pf_ne ne_kept_before, pf_ne ne_content_before, pf_ne ne_past_before, show putF "_before" (V.ref bl) [] = ([(("_before" : Str), V.ref bl)] : List (Str × V)) from rfl]
    have blp : bl ≠ p := ins_ne (s6 _ _ l2) hbl
    have fin : ∀ q o, q ≠ p → H6 q = some o → L2.upd H6 p (.ins C dx [("_start", V.int (s : Nat)), ("_kept", V.ref t), ("_content", V.ref c), ("_past", V.ref pl), ("_before", V.ref bl)]) q = some o := fun q o hq e => by rw [upd_ne hq]; exact e
    have all : ∀ q o, q ≠ p → H q = some o → L2.upd H6 p (.ins C dx [("_start", V.int (s : Nat)), ("_kept", V.ref t), ("_content", V.ref c), ("_past", V.ref pl), ("_before", V.ref bl)]) q = some o := fun q o hq e =>
      fin q o hq (s6 _ _ (l1 q o hq (s4 _ _ (j1 q o hq (s2 _ _ (g1 q o hq e))))))
    have c5 := l1 c _ cp (s4 _ _ (j1 c _ cp lc))
    have pl5 := l1 pl _ plp hpl
    have frF : Fre H (L2.upd H6 p (.ins C dx [("_start", V.int (s : Nat)), ("_kept", V.ref t), ("_content", V.ref c), ("_past", V.ref pl), ("_before", V.ref bl)])) := fun x hx => by
      by_cases e : x = p
      · rw [e, upd_same] at hx; cases hx
      · rw [upd_ne e] at hx; exact l3 x (s6.free hx)
    have cn : H c = none := g3 _ nc
    have pn : H pl = none := j3 _ npl
    have bn : H bl = none := l3 _ nbl
    have nm : ∀ x, H x = none → x ≠ p → x ≠ bl → x ∉ p :: bl :: M := fun x hx h1 h2 m => by
      rcases List.mem_cons.mp m with e | m
      · exact h1 e
      · rcases List.mem_cons.mp m with e | m
        · exact h2 e
        · exact (hM x m).ne hx
    have tm : t ∉ p :: bl :: M := fun m => by
      rcases List.mem_cons.mp m with e | m
      · exact tp e
      · rcases List.mem_cons.mp m with e | m
        · rw [e, bn] at ht; cases ht
        · exact htM m
    have cb : c ≠ bl := ne_of_none c5 nbl
    have plb : pl ≠ bl := ne_of_none pl5 nbl
    have hpl6 := fin _ _ plp (s6 _ _ pl5)
    exact q _ bl all frF bn ⟨⟨dx, t, c, pl, [], upd_same, ⟨⟨all _ _ tp ht, tm⟩, ⟨fin _ _ cp (s6 _ _ c5), nm _ cn cp cb⟩, ⟨[], ⟨hpl6, nm _ pn plp plb⟩, rfl, fun i x p h1 _ => by cases h1⟩⟩, fin _ _ blp hbl, rfl, fun i x p h1 _ => by cases h1⟩, List.mem_cons_self, List.mem_cons_of_mem _ List.mem_cons_self⟩


theorem ok_Pot__go_on {f : Addr} {fd : FuncData}  (F : Fun K "_go_on" "Pot._go_on" s_Pot__go_on f fd) (B : Bl mg) {C : Addr} (KL : Kls K mg "Pot" C) (NA : PNA K C) : FnOk P w K mg base CX0 1 f fd ["self", "kept", "content", "past"] (sp_go_on C) := by
  refine F.ok sc_Pot__go_on (fun vs H Q E h => ?_) (fun cdv A outer s H vs Q E hr h => ?_)
  · obtain ⟨M, p, bl, t', c', pl', s, sts, cur, st, rfl, _⟩ := h; rfl
  · obtain ⟨M, p, bl, t', c', pl', s, sts, cur, st, rfl, hp, hst, hM, hlen, q⟩ := h
    obtain ⟨dx, t, c, pl, Ts, h1, h2, h3, h4⟩ := hp.ex
    have nd := sc_Pot__go_on.nd
    refine ⟨_, (pss_cons (ps_expr (pe_bm PySem.F.plainAttrs_list PySem.F.slot_list_append PySem.F.type_list_append mt_append (pe_fld (pv 0) rfl) (pa_cons (pe_tup (pa_cons (pe_fld (pv 0) rfl) (pa_cons (pe_fld (pv 0) rfl) (pa_cons (pe_fld (pv 0) rfl) pa_nil)))) pa_nil)))
      (pss_one (ps_asg (pe_tup (pa_cons (pv 1) (pa_cons (pv 2) (pa_cons (pv 3) pa_nil)))) (pg_tup (by rfl) (pgs_cons (pg_fld (pv 0)) (pgs_cons (pg_fld (pv 0)) (pgs_cons (pg_fld (pv 0)) pgs_nil))))))), ?_⟩
    have pb := hp.pb
    refine ⟨.ref p, rfl, p, C, dx, _, .ref bl, rfl, h1, KL.cl, NA.b, lk_before, .inl ⟨rfl, _, .inl (.inl h3)⟩, ?_⟩
    refine ⟨.ref p, rfl, p, C, dx, _, .ref t, rfl, h1, KL.cl, NA.k, lk_kept, .ref p, rfl, p, C, dx, _, .ref c, rfl, h1, KL.cl, NA.c, lk_content, .ref p, rfl, p, C, dx, _, .ref pl, rfl, h1, KL.cl, NA.p, lk_past, by show 3 ≤ 16777216; decide, fun T nT => ?_⟩
    have s1 := sameN (o := .tup [.ref t, .ref c, .ref pl]) nT
    have hT : L2.upd H T (.tup [.ref t, .ref c, .ref pl]) T = some (.tup [.ref t, .ref c, .ref pl]) := upd_same
    generalize L2.upd H T (.tup [.ref t, .ref c, .ref pl]) = H1 at *
    have hTm : T ∉ M := fun m => (hM T m).ne nT
    have TM : T ≠ p ∧ T ≠ bl := ⟨insT_ne (s1 _ _ h1) hT, lstT_ne (s1 _ _ h3) hT⟩
    refine ⟨bl, _, .ref T, rfl, rfl, s1 _ _ h3, by rw [List.length_map, h4.1]; show _ < 16777216; omega, ?_⟩
    have b1 : B2 p bl H (L2.upd H1 bl (.lst (Ts.map V.ref ++ [V.ref T]))) := fun x o n m e => by rw [upd_ne m]; exact s1 _ _ e
    have b2 : ∀ x o, x ≠ bl → H1 x = some o → L2.upd H1 bl (.lst (Ts.map V.ref ++ [V.ref T])) x = some o := fun x o m e => by rw [upd_ne m]; exact e
    have b3 : L2.upd H1 bl (.lst (Ts.map V.ref ++ [V.ref T])) bl = some (.lst (Ts.map V.ref ++ [V.ref T])) := upd_same
    have fr1 : Fre H (L2.upd H1 bl (.lst (Ts.map V.ref ++ [V.ref T]))) := fun x hx => by
      by_cases e : x = bl
      · rw [e, upd_same] at hx; cases hx
      · rw [upd_ne e] at hx; exact s1.free hx
    generalize L2.upd H1 bl (.lst (Ts.map V.ref ++ [V.ref T])) = H2 at *
    refine ⟨.ref t', rfl, .ref c', rfl, .ref pl', rfl, by show 3 ≤ 16777216; decide, fun U nU => ?_⟩
    have sU := sameN (o := .tup [.ref t', .ref c', .ref pl']) nU
    have hU : L2.upd H2 U (.tup [.ref t', .ref c', .ref pl']) U = some (.tup [.ref t', .ref c', .ref pl']) := upd_same
    have fr3 : Fre H (L2.upd H2 U (.tup [.ref t', .ref c', .ref pl'])) := fun x hx => fr1 x (sU.free hx)
    generalize L2.upd H2 U (.tup [.ref t', .ref c', .ref pl']) = H3 at *
    have h13 := sU _ _ (b2 _ _ pb (s1 _ _ h1))
    refine ⟨U, _, rfl, SqT.of hU, rfl, _, _, rfl, .ref p, rfl, p, C, dx, _, rfl, h13, KL.cl, NA.k, by show 5 < 1000; decide, ?_⟩
    rw [pt_kept]
    refine ⟨_, _, rfl, .ref p, rfl, p, C, dx, _, rfl, upd_same, KL.cl, NA.c, by show 5 < 1000; decide, ?_⟩
    rw [pt_content, upd_upd]
    refine ⟨_, _, rfl, .ref p, rfl, p, C, dx, _, rfl, upd_same, KL.cl, NA.p, by show 5 < 1000; decide, ?_⟩
    rw [pt_past, upd_upd]
    have g0 : B2 p bl H (L2.upd H3 p (.ins C dx (PF (.int (s : Nat)) t' c' pl' bl))) := fun x o n m e => by rw [upd_ne n]; exact sU _ _ (b1 _ _ n m e)
    have gm := g0.m hp.pm hp.bm
    have fr4 : Fre H (L2.upd H3 p (.ins C dx (PF (.int (s : Nat)) t' c' pl' bl))) := fun x hx => by
      by_cases e : x = p
      · rw [e, upd_same] at hx; cases hx
      · rw [upd_ne e] at hx; exact fr3 x hx
    have hT4 : L2.upd H3 p (.ins C dx (PF (.int (s : Nat)) t' c' pl' bl)) T = some (.tup [.ref t, .ref c, .ref pl]) := by rw [upd_ne TM.1]; exact sU _ _ (b2 _ _ TM.2 hT)
    have hb4 : L2.upd H3 p (.ins C dx (PF (.int (s : Nat)) t' c' pl' bl)) bl = some (.lst ((Ts ++ [T]).map V.ref)) := by rw [upd_ne (Ne.symm pb), List.map_append]; exact sU _ _ b3
    refine ⟨rfl, q _ ⟨⟨dx, t', c', pl', Ts ++ [T], upd_same, hst.but gm, hb4, (h4.but gm).snoc ⟨⟨t, c, pl, ⟨hT4, hTm⟩, h2.but gm⟩⟩⟩, hp.pm, hp.bm⟩ g0 fr4⟩


end
end K52
end

section
set_option Elab.async false
set_option linter.all false
set_option maxRecDepth 100000
set_option maxHeartbeats 4000000
namespace K52
open PySem PySem.Spec PyProof.Rows L2 GxR Gx Ma
section
variable {P : Program} {w : World} {K : PySem.W.Frag} {mg : Str → Option Value} {base : Heap}

def sp_check_index : Sp := fun vs H Q _ => ∃ i m : Int, vs = [V.int i, V.int m] ∧ 0 ≤ i ∧ i ≤ m ∧ Q .non H
theorem snoc_last {α : Type} (xs : List α) (x : α) : (xs ++ [x])[(xs ++ [x]).length - 1]? = some x := by
  rw [List.length_append, List.length_singleton, Nat.add_sub_cancel, List.getElem?_append_right (Nat.le_refl _), Nat.sub_self]
  rfl
theorem snoc_at {α : Type} (xs : List α) (x : α) : (xs ++ [x])[xs.length]? = some x := by
  rw [List.getElem?_append_right (Nat.le_refl _), Nat.sub_self]
  rfl

theorem ok_check_index {f : Addr} {fd : FuncData}  (F : Fun K "check_index" "check_index" s_check_index f fd) (B : Bl mg) (C_is_within : Cal P w K mg base 2 "is_within" ["thing", "least", "most"] sp_is_within) : FnOk P w K mg base CX0 3 f fd ["index", "most"] (sp_check_index) := by
  refine F.ok sc_check_index (fun vs H Q E h => ?_) (fun cdv A outer s H vs Q E hr h => ?_)
  · obtain ⟨i, m, rfl, _⟩ := h; rfl
  · obtain ⟨i, m, rfl, h0, hm, q⟩ := h
    have nd := sc_check_index.nd
    refine ⟨_, (pss_one (ps_if (pt_not (pt_val (pe_cal C_is_within (hr.mono (by decide)) (pa_cons (pv 0) (pa_cons pe_int (pa_cons (pv 1) pa_nil))))))
      (pss_one ps_never) pss_nil)), ?_⟩
    exact ⟨.int i, rfl, .int m, rfl, i, 0, m, rfl, h0, hm, true, rfl, iteF q⟩

theorem ok_Pot_keep {f : Addr} {fd : FuncData}  (F : Fun K "keep" "Pot.keep" s_Pot_keep f fd) (B : Bl mg) {C : Addr} (KL : Kls K mg "Pot" C) (NA : PNA K C) (C_check_kept : Cal P w K mg base 4 "check_kept" ["kept"] sp_check_kept) (M_Pot__go_on : Mt P w K mg base 1 C "_go_on" ["self", "kept", "content", "past"] (sp_go_on C)) : FnOk P w K mg base CX0 5 f fd ["self", "kept"] (sp_keep C) := by
  refine F.ok sc_Pot_keep (fun vs H Q E h => ?_) (fun cdv A outer s H vs Q E hr h => ?_)
  · obtain ⟨M, p, bl, t', s, sts, cur, a, b, rfl, _⟩ := h; rfl
  · obtain ⟨M, p, bl, t', s, sts, cur, a, b, rfl, hp, ht, kp, hM, hlen, q⟩ := h
    obtain ⟨dx, t, c, pl, Ts, h1, h2, h3, h4⟩ := id hp.ex
    have nd := sc_Pot_keep.nd
    refine ⟨_, (pss_cons (ps_expr (pe_cal C_check_kept (hr.mono (by decide)) (pa_cons (pv 1) pa_nil)))
      (pss_one (ps_expr (pe_mt KL.cl M_Pot__go_on (hr.mono (by decide)) (pv 0) (pa_cons (pv 1) (pa_cons (pe_fld (pv 0) rfl) (pa_cons (pe_fld (pv 0) rfl) pa_nil))))))), ?_⟩
    refine ⟨.ref t', rfl, t', a, b, rfl, ht.1, kp, ?_⟩
    exact ⟨.ref p, rfl, p, dx, _, rfl, h1, lk_go_on, .ref t', rfl, .ref p, rfl, p, C, dx, _, .ref c, rfl, h1, KL.cl, NA.c, lk_content, .ref p, rfl, p, C, dx, _, .ref pl, rfl, h1, KL.cl, NA.p, lk_past, M, p, bl, t', c, pl, s, sts, cur, ⟨a, b, cur.ns, cur.past⟩, rfl, hp, ⟨ht, h2.c, h2.p⟩, hM, hlen, q⟩


theorem ok_Pot_undo {f : Addr} {fd : FuncData}  (F : Fun K "undo" "Pot.undo" s_Pot_undo f fd) (B : Bl mg) {C : Addr} (KL : Kls K mg "Pot" C) (NA : PNA K C) : FnOk P w K mg base CX0 1 f fd ["self"] (sp_undo C) := by
  refine F.ok sc_Pot_undo (fun vs H Q E h => ?_) (fun cdv A outer s H vs Q E hr h => ?_)
  · obtain ⟨M, p, bl, s, sts, st, cur, rfl, _⟩ := h; rfl
  · obtain ⟨M, p, bl, s, sts, st, cur, rfl, hp, q⟩ := h
    obtain ⟨dx, t, c, pl, Ts, h1, h2, h3, h4⟩ := id hp.ex
    have nd := sc_Pot_undo.nd
    refine ⟨_, (pss_cons (ps_if (pt_cmpR op_eq (pe_callB call_len_seq (by rfl) B.len PySem.boot_len (pa_cons (pe_fld (pv 0) rfl) pa_nil)) pe_int (nomark _))
      (pss_one ps_never) pss_nil)
      (pss_one (ps_asg (pe_bm0 PySem.F.plainAttrs_list PySem.F.slot_list_pop PySem.F.type_list_pop mt_pop (pe_fld (pv 0) rfl)) (pg_tup (by rfl) (pgs_cons (pg_fld (pv 0)) (pgs_cons (pg_fld (pv 0)) (pgs_cons (pg_fld (pv 0)) pgs_nil))))))), ?_⟩
    have pb := hp.pb
    have hlT : Ts.length = sts.length + 1 := by rw [h4.1, List.length_append, List.length_singleton]
    obtain ⟨Ts', T, eT⟩ : ∃ Ts' T, Ts = Ts' ++ [T] := by
      have hne : Ts ≠ [] := fun e => by rw [e] at hlT; cases hlT
      exact ⟨Ts.dropLast, Ts.getLast hne, (List.dropLast_concat_getLast hne).symm⟩
    subst eT
    have hl' : Ts'.length = sts.length := by rw [List.length_append, List.length_singleton] at hlT; omega
    have hTT : StT M H T st := h4.2 sts.length T st (by rw [← hl']; exact snoc_at _ _) (snoc_at _ _)
    have h4' : Sts M H Ts' sts := by
      have := h4.take sts.length
      rw [List.take_left, List.take_append_of_le_length (by omega), List.take_of_length_le (by omega)] at this
      exact this
    refine ⟨.ref p, rfl, p, C, dx, _, .ref bl, rfl, h1, KL.cl, NA.b, lk_before, bl, _, rfl, .inl (SqL.of h3), rfl, _, rfl, ?_⟩
    rw [decide_eq_false (fun z => by
      have z2 := V.int.inj z
      rw [List.length_map, List.length_append, List.length_singleton] at z2
      omega)]
    refine iteF ?_
    obtain ⟨t1, c1, pl1, hT, hO⟩ := hTT.ex
    refine ⟨.ref p, rfl, p, C, dx, _, .ref bl, rfl, h1, KL.cl, NA.b, lk_before, .inl ⟨rfl, _, .inl (.inl h3)⟩, bl, _, .ref T, rfl, rfl, h3, by rw [List.map_append]; exact snoc_last _ _, ?_⟩
    rw [List.map_append, show ([T].map V.ref) = [V.ref T] from rfl, List.dropLast_concat]
    have b2 : ∀ x o, x ≠ bl → H x = some o → L2.upd H bl (.lst (Ts'.map V.ref)) x = some o := fun x o m e => by rw [upd_ne m]; exact e
    have b3 : L2.upd H bl (.lst (Ts'.map V.ref)) bl = some (.lst (Ts'.map V.ref)) := upd_same
    have fr1 : Fre H (L2.upd H bl (.lst (Ts'.map V.ref))) := fun x hx => by
      by_cases e : x = bl
      · rw [e, upd_same] at hx; cases hx
      · rw [upd_ne e] at hx; exact hx
    generalize L2.upd H bl (.lst (Ts'.map V.ref)) = H1 at *
    have nT : ∀ x o, At M H x o → H1 x = some o := fun x o a => b2 _ _ (fun e => a.2 (e ▸ hp.bm)) a.1
    have h11 := b2 _ _ pb h1
    refine ⟨T, _, rfl, SqT.of (nT _ _ hT), rfl, _, _, rfl, .ref p, rfl, p, C, dx, _, rfl, h11, KL.cl, NA.k, by show 5 < 1000; decide, ?_⟩
    rw [pt_kept]
    refine ⟨_, _, rfl, .ref p, rfl, p, C, dx, _, rfl, upd_same, KL.cl, NA.c, by show 5 < 1000; decide, ?_⟩
    rw [pt_content, upd_upd]
    refine ⟨_, _, rfl, .ref p, rfl, p, C, dx, _, rfl, upd_same, KL.cl, NA.p, by show 5 < 1000; decide, ?_⟩
    rw [pt_past, upd_upd]
    have g0 : B2 p bl H (L2.upd H1 p (.ins C dx (PF (.int (s : Nat)) t1 c1 pl1 bl))) := fun x o n m e => by rw [upd_ne n]; exact b2 _ _ m e
    have gm := g0.m hp.pm hp.bm
    have fr4 : Fre H (L2.upd H1 p (.ins C dx (PF (.int (s : Nat)) t1 c1 pl1 bl))) := fun x hx => by
      by_cases e : x = p
      · rw [e, upd_same] at hx; cases hx
      · rw [upd_ne e] at hx; exact fr1 x hx
    have hb4 : L2.upd H1 p (.ins C dx (PF (.int (s : Nat)) t1 c1 pl1 bl)) bl = some (.lst (Ts'.map V.ref)) := by rw [upd_ne (Ne.symm pb)]; exact b3
    exact ⟨rfl, q _ ⟨⟨dx, t1, c1, pl1, Ts', upd_same, hO.but gm, hb4, h4'.but gm⟩, hp.pm, hp.bm⟩ g0 fr4⟩


theorem ok_Pot_undoX {f : Addr} {fd : FuncData}  (F : Fun K "undo" "Pot.undo" s_Pot_undo f fd) (B : Bl mg) {EN : Addr} (ER_NothingToUndo : Er K mg "NothingToUndo" EN) {C : Addr} (KL : Kls K mg "Pot" C) (NA : PNA K C) : FnOk P w K mg base (L2.CX P w) 1 f fd ["self"] (sp_undoX C EN) := by
  refine F.okX sc_Pot_undo (fun vs H Q E h => ?_) (fun cdv A outer s H vs Q E hr h => ?_)
  · obtain ⟨M, p, bl, s, cur, rfl, _⟩ := h; rfl
  · obtain ⟨M, p, bl, s, cur, rfl, hp, q⟩ := h
    obtain ⟨dx, t, c, pl, Ts, h1, h2, h3, h4⟩ := hp.ex
    have nd := sc_Pot_undo.nd
    refine ⟨_, (pss_cons (ps_if (pt_cmpR op_eq (pe_callB call_len_seq (by rfl) B.len PySem.boot_len (pa_cons (pe_fld (pv 0) rfl) pa_nil)) pe_int (nomark _))
      (pss_one (ps_err rfl (takes_of rfl rfl rfl rfl) ER_NothingToUndo)) pss_nil)
      (pss_one (ps_asg (pe_bm0 PySem.F.plainAttrs_list PySem.F.slot_list_pop PySem.F.type_list_pop mt_pop (pe_fld (pv 0) rfl)) (pg_tup (by rfl) (pgs_cons (pg_fld (pv 0)) (pgs_cons (pg_fld (pv 0)) (pgs_cons (pg_fld (pv 0)) pgs_nil))))))), ?_⟩
    have e0 : Ts = [] := List.length_eq_zero_iff.mp h4.1
    subst e0
    refine ⟨.ref p, rfl, p, C, dx, _, .ref bl, rfl, h1, KL.cl, NA.b, lk_before, bl, _, rfl, .inl (SqL.of h3), rfl, _, rfl, ?_⟩
    show (if decide (V.int ((([] : List Addr).map V.ref).length : Nat) = V.int 0) = true then _ else _)
    rw [if_pos (by rfl)]
    exact q


theorem ok_Pot_undo_to {f : Addr} {fd : FuncData}  (F : Fun K "undo_to" "Pot.undo_to" s_Pot_undo_to f fd) (B : Bl mg) {C : Addr} (KL : Kls K mg "Pot" C) (NA : PNA K C) (C_check_index : Cal P w K mg base 3 "check_index" ["index", "most"] sp_check_index) (M_Pot_undo : Mt P w K mg base 1 C "undo" ["self"] (sp_undo C)) : FnOk P w K mg base CX0 4 f fd ["self", "index"] (sp_undo_to C) := by
  refine F.ok sc_Pot_undo_to (fun vs H Q E h => ?_) (fun cdv A outer s H vs Q E hr h => ?_)
  · obtain ⟨M, p, bl, s, sts, cur, i, st, rfl, _⟩ := h; rfl
  · obtain ⟨M, p, bl, s, sts, cur, i, st, rfl, hp, hi, hst, q⟩ := h
    obtain ⟨dx, t, c, pl, Ts, h1, h2, h3, h4⟩ := id hp.ex
    have nd := sc_Pot_undo_to.nd
    refine ⟨_, (pss_cons (ps_expr (pe_cal C_check_index (hr.mono (by decide)) (pa_cons (pv 1) (pa_cons (pe_callB call_len_seq (by rfl) B.len PySem.boot_len (pa_cons (pe_fld (pv 0) rfl) pa_nil)) pa_nil))))
      (pss_one (ps_while PassesOwn.never (pt_cmpR op_gt (pe_callB call_len_seq (by rfl) B.len PySem.boot_len (pa_cons (pe_fld (pv 0) rfl) pa_nil)) (pv 1) (nomark _)) (pss_one (ps_expr (pe_mt0 KL.cl M_Pot_undo (hr.mono (by decide)) (pv 0))))))), ?_⟩
    refine ⟨.int i, rfl, .ref p, rfl, p, C, dx, _, .ref bl, rfl, h1, KL.cl, NA.b, lk_before, bl, _, rfl, .inl (SqL.of h3), (i : Int), _, rfl, by omega, by rw [List.length_map, h4.1]; omega, ?_⟩
    refine ⟨fun m σ G => ∃ st', σ = [some (.ref p), some (.int i)] ∧ i ≤ m ∧ m ≤ sts.length ∧ (sts ++ [cur])[m]? = some st' ∧ PotS C M G p bl s (sts.take m) st' ∧ B2 p bl H G ∧ Fre H G, ⟨sts.length, cur, rfl, hi, Nat.le_refl _, snoc_at _ _, by rw [List.take_length]; exact hp, fun _ _ _ _ e => e, fun _ e => e⟩, ?_⟩
    rintro m σ G ⟨st', rfl, c1, c2, c3, c4, c5, c6⟩
    obtain ⟨dx', t', c', pl', Ts', k1, k2, k3, k4⟩ := id c4.ex
    refine ⟨.ref p, rfl, p, C, dx', _, .ref bl, rfl, k1, KL.cl, NA.b, lk_before, bl, _, rfl, .inl (SqL.of k3), .int i, rfl, _, _, rfl, rfl, _, rfl, ?_⟩
    have el : (((Ts'.map V.ref).length : Nat) : Int) = (m : Int) := by rw [List.length_map, k4.1, List.length_take, Nat.min_eq_left c2]
    rw [el]
    by_cases hm : i < m
    · rw [decide_eq_true (by omega)]
      refine ⟨_, fun _ _ h => h, ?_⟩
      obtain ⟨n, rfl⟩ : ∃ n, m = n + 1 := ⟨m - 1, by omega⟩
      have hn : n < sts.length := by omega
      have e1 : sts.take (n + 1) = sts.take n ++ [sts[n]] := by rw [List.take_succ_eq_append_getElem hn]
      rw [e1] at c4
      refine ⟨.ref p, rfl, p, dx', _, rfl, k1, lk_undo, M, p, bl, s, sts.take n, sts[n], st', rfl, c4, fun G2 g1 g2 g3 => ?_⟩
      exact ⟨n, by omega, sts[n], rfl, by omega, by omega, by rw [List.getElem?_append_left hn]; exact List.getElem?_eq_getElem hn, g1, c5.trans g2, fun x hx => c6 _ (g3 _ hx)⟩
    · rw [decide_eq_false (by omega)]
      have em : m = i := by omega
      subst em
      rw [hst] at c3
      cases c3
      exact q G c4 c5 c6


end
end K52
end

section
set_option Elab.async false
set_option linter.all false
set_option maxRecDepth 100000
set_option maxHeartbeats 4000000
namespace K52
open PySem PySem.Spec PyProof.Rows L2 GxR Gx Ma
section
variable {P : Program} {w : World} {K : PySem.W.Frag} {mg : Str → Option Value} {base : Heap}

theorem zip_tus {M : List Addr} {H : Hp} {as : List Addr} {t : Addr} {cs : List Nat} {a b : Int} (ht : At M H t (.tup [.int a, .int b])) (hl : as.length = cs.length) (hp : PairsAt H ((rowI cs).map V.int) (List.replicate cs.length (V.ref t)) as) (hn : ∀ x ∈ as, x ∉ M) : Tus M H as (cs.map fun c => (c, a, b)) := by
  refine ⟨by rw [List.length_map]; exact hl, fun i x p h1 h2 => ?_⟩
  obtain ⟨u, v, k1, k2, k3⟩ := hp i x h1
  rw [List.getElem?_map] at h2
  cases e : cs[i]? with
  | none => rw [e] at h2; cases h2
  | some c =>
    rw [e] at h2
    cases h2
    have ev : v = V.ref t := by
      have := List.mem_of_getElem? k2
      exact (List.mem_replicate.mp this).2
    have eu : u = V.int (c : Nat) := by
      unfold rowI at k1
      rw [List.map_map, List.getElem?_map, e] at k1
      exact (Option.some.inj k1).symm
    subst ev; subst eu
    exact ⟨⟨t, ⟨k3, hn x (List.mem_of_getElem? h1)⟩, ht⟩⟩

theorem ok_Pot__pour_all {f : Addr} {fd : FuncData}  (F : Fun K "_pour_all" "Pot._pour_all" s_Pot__pour_all f fd) (B : Bl mg) {C : Addr} (KL : Kls K mg "Pot" C) (NA : PNA K C) (C_contents_by : Cal P w K mg base 4 "contents_by" ["content", "keeps", "row"] sp_contents_by) (M_Pot__go_on : Mt P w K mg base 1 C "_go_on" ["self", "kept", "content", "past"] (sp_go_on C)) : FnOk P w K mg base CX0 5 f fd ["self", "row"] (sp_pour_all C) := by
  refine F.ok sc_Pot__pour_all (fun vs H Q E h => ?_) (fun cdv A outer s H vs Q E hr h => ?_)
  · obtain ⟨M, p, bl, r, s, sts, cur, cs, rfl, _⟩ := h; rfl
  · obtain ⟨M, p, bl, r, s, sts, cur, cs, rfl, hp, hM, hlen, hpl0, hr2, R, hz, q⟩ := h
    have nd := sc_Pot__pour_all.nd
    refine ⟨_, (pss_cons (ps_set (i := 2) nd rfl (Or.inl rfl) (pe_op op_rep (pe_lst (pa_cons (pe_fld (pv 0) rfl) pa_nil)) (pe_callB call_len_seq (by rfl) B.len PySem.boot_len (pa_cons (pv 1) pa_nil))))
      (pss_cons (ps_set (i := 3) nd rfl (Or.inl rfl) (pe_ix ix_list (pe_cal C_contents_by (hr.mono (by decide)) (pa_cons (pe_fld (pv 0) rfl) (pa_cons (pv 2) (pa_cons (pv 1) pa_nil)))) (pe_un un_neg pe_int) (fun _ _ => rfl)))
      (pss_one (ps_expr (pe_mt KL.cl M_Pot__go_on (hr.mono (by decide)) (pv 0) (pa_cons (pe_fld (pv 0) rfl) (pa_cons (pv 3) (pa_cons (pe_op op_cat (pe_fld (pv 0) rfl) (pe_listZip rfl (pa_cons (pv 1) (pa_cons (pv 2) pa_nil)) (by rfl) B.list (by rfl) B.zip)) pa_nil)))))))), ?_⟩
    obtain ⟨dx, t, c, pl, Ts, h1, h2, h3, h4⟩ := id hp.ex
    obtain ⟨pas, pa1, pa2⟩ := id h2.p
    have h60 := R.c60
    have hlen2 : (rowI cs).length = cs.length := by unfold rowI; rw [List.length_map]
    have ht := h2.t.1
    refine ⟨.ref p, rfl, p, C, dx, _, .ref t, rfl, h1, KL.cl, NA.k, lk_kept, by show 1 ≤ 16777216; decide, fun o no => ?_⟩
    have s1 := sameN (o := .lst [.ref t]) no
    have ho : L2.upd H o (.lst [.ref t]) o = some (.lst [.ref t]) := upd_same
    generalize L2.upd H o (.lst [.ref t]) = H1 at *
    refine ⟨.ref r, rfl, r, _, rfl, .inl (SqL.of (s1 _ _ hr2)), o, (((rowI cs).map V.int).length : Int), [.ref t], rfl, rfl, ho, by omega, by rw [List.length_map, hlen2]; omega, by rw [List.length_map, hlen2, Int.toNat_natCast]; show 1 * cs.length ≤ 16777216; omega, fun kl nkl => ?_⟩
    rw [List.length_map, hlen2, Int.toNat_natCast, rep_flat]
    have s2 := sameN (o := .lst (List.replicate cs.length (V.ref t))) nkl
    have hkl : L2.upd H1 kl (.lst (List.replicate cs.length (V.ref t))) kl = some (.lst (List.replicate cs.length (V.ref t))) := upd_same
    generalize L2.upd H1 kl (.lst (List.replicate cs.length (V.ref t))) = H2 at *
    have s12 := s1.trans s2
    refine ⟨.ref p, rfl, p, C, dx, _, .ref c, rfl, s12 _ _ h1, KL.cl, NA.c, lk_content, .ref kl, rfl, .ref r, rfl, c, kl, r, cur.ns, List.replicate cs.length t, List.replicate cs.length (cur.a, cur.b), cs, rfl, s12 _ _ h2.c.1, keeps_rep (by rw [hkl, List.map_replicate]) (s12 _ _ ht), s12 _ _ hr2, R.y, hz, fun p2 ps H3 s3 RR => ?_⟩
    obtain ⟨x, e1, e2, e3⟩ := RR.last
    have s13 := s12.trans s3
    have nx : H2 x = none := RR.new x (List.mem_of_getElem? e3)
    refine ⟨1, rfl, p2, _, -1, _, rfl, rfl, SqL.of RR.at_, e1, ?_⟩
    refine ⟨.ref p, rfl, p, dx, _, rfl, s13 _ _ h1, lk_go_on, .ref p, rfl, p, C, dx, _, .ref t, rfl, s13 _ _ h1, KL.cl, NA.k, lk_kept, .ref x, rfl, ?_⟩
    have hkl3 := s3 _ _ hkl
    have hr3 := s13 _ _ hr2
    have h33 := s13 _ _ pa1.1
    refine ⟨.ref p, rfl, p, C, dx, _, .ref pl, rfl, s13 _ _ h1, KL.cl, NA.p, lk_past, .ref r, rfl, .ref kl, rfl, r, kl, _, _, rfl, SqL.of hr3, SqL.of hkl3, by rw [List.length_map, hlen2]; show _ < 16777216; omega, fun zq as H4 nzq k4 hzq lzq pzq => ?_⟩
    have la : as.length = cs.length := by rw [lzq, List.length_map, hlen2, List.length_replicate, Nat.min_self]
    have s4 : Same H3 H4 := fun c o e => k4 c o e
    have s14 := s13.trans s4
    refine ⟨pl, zq, _, _, rfl, rfl, s4 _ _ h33, hzq, by rw [List.length_map, List.length_map, la, pa2.1]; show _ ≤ 16777216; omega, fun w nw => ?_⟩
    have s5 := sameN (o := .lst (pas.map V.ref ++ as.map V.ref)) nw
    have hw : L2.upd H4 w (.lst (pas.map V.ref ++ as.map V.ref)) w = some (.lst (pas.map V.ref ++ as.map V.ref)) := upd_same
    generalize L2.upd H4 w (.lst (pas.map V.ref ++ as.map V.ref)) = H5 at *
    have s15 := s14.trans s5
    have hM5 : ∀ m ∈ M, Mu H5 m := fun m hm => (hM m hm).same s15
    have xM : x ∉ M := fun m => (hM x m).ne (s12.free nx)
    have wM : w ∉ M := fun m => (hM w m).ne (s14.free nw)
    have h5t : At M H5 t (.tup [.int cur.a, .int cur.b]) := ⟨s15 _ _ ht, h2.t.2⟩
    have tus : Tus M H5 as (cs.map fun c => (c, cur.a, cur.b)) := zip_tus h5t la (fun i y hy => by
      obtain ⟨u, v, q1, q2, q3⟩ := pzq i y hy
      exact ⟨u, v, q1, q2, s5 _ _ q3⟩) fun y hy m => by
        obtain ⟨i, hi⟩ := List.getElem?_of_mem hy
        obtain ⟨u, v, _, _, q3⟩ := pzq i y hi
        exact (hM5 y m).tup (s5 _ _ q3)
    have hw2 : H5 w = some (.lst ((pas ++ as).map V.ref)) := by rw [hw, List.map_append]
    refine ⟨M, p, bl, t, x, w, s, sts, cur, cur.behind cs, rfl, hp.same s15, ⟨h5t, ⟨s5 _ _ (s4 _ _ e2), xM⟩, ⟨pas ++ as, ⟨hw2, wM⟩, (pa2.but (ButM.of s15)).app tus⟩⟩, hM5, hlen, fun H6 g1 g2 g3 => ?_⟩
    exact q H6 g1 ((B2.of s15).trans g2) fun y hy => s15.free (g3 _ hy)


theorem ok_Pot_pour {f : Addr} {fd : FuncData}  (F : Fun K "pour" "Pot.pour" s_Pot_pour f fd) (B : Bl mg) {C : Addr} (KL : Kls K mg "Pot" C) (NA : PNA K C) (R_Pot_liquids : Pr P w K mg base 1 C "liquids" (sp_liquids C)) (M_Pot__pour_all : Mt P w K mg base 5 C "_pour_all" ["self", "row"] (sp_pour_all C)) {Tr : Addr} (C_check_row : Cal P w K mg base 8 "check_row" ["row", "liquids"] (sp_check_row Tr)) : FnOk P w K mg base CX0 9 f fd ["self", "row"] (sp_pour C Tr) := by
  refine F.ok sc_Pot_pour (fun vs H Q E h => ?_) (fun cdv A outer s H vs Q E hr h => ?_)
  · obtain ⟨M, p, bl, r, s, sts, cur, cs, rfl, _⟩ := h; rfl
  · obtain ⟨M, p, bl, r, s, sts, cur, cs, rfl, hp, hM, hlen, hpl0, hr2, R, hz, hT, q⟩ := h
    have nd := sc_Pot_pour.nd
    refine ⟨_, (pss_cons (ps_expr (pe_cal C_check_row (hr.mono (by decide)) (pa_cons (pv 1) (pa_cons (pe_pr KL.cl R_Pot_liquids (hr.mono (by decide)) (pv 0)) pa_nil))))
      (pss_one (ps_expr (pe_mt KL.cl M_Pot__pour_all (hr.mono (by decide)) (pv 0) (pa_cons (pv 1) pa_nil))))), ?_⟩
    obtain ⟨dx, t, c, pl, Ts, h1, h2, h3, h4⟩ := id hp.ex
    have h60 := R.c60
    refine ⟨.ref r, rfl, .ref p, rfl, p, dx, _, rfl, h1, M, p, bl, s, sts, cur, rfl, hp, r, rowI cs, _, rfl, hr2, by rw [rowI_len]; omega, rowI_le R.liq, hT, ?_⟩
    exact ⟨.ref p, rfl, p, dx, _, rfl, h1, lk_pour_all, .ref r, rfl, M, p, bl, r, s, sts, cur, cs, rfl, hp, hM, hlen, hpl0, hr2, R, hz, q⟩


theorem ok_Pot_top_up {f : Addr} {fd : FuncData}  (F : Fun K "top_up" "Pot.top_up" s_Pot_top_up f fd) (B : Bl mg) {C : Addr} (KL : Kls K mg "Pot" C) (NA : PNA K C) (R_Pot_liquids : Pr P w K mg base 1 C "liquids" (sp_liquids C)) (M_Pot__pour_all : Mt P w K mg base 5 C "_pour_all" ["self", "row"] (sp_pour_all C)) (C_check_liquid : Cal P w K mg base 3 "check_liquid" ["liquid", "liquids"] sp_check_liquid) : FnOk P w K mg base CX0 6 f fd ["self", "liquid"] (sp_top_up C) := by
  refine F.ok sc_Pot_top_up (fun vs H Q E h => ?_) (fun cdv A outer s H vs Q E hr h => ?_)
  · obtain ⟨M, p, bl, s, sts, cur, i, rfl, _⟩ := h; rfl
  · obtain ⟨M, p, bl, s, sts, cur, i, rfl, hp, hM, hlen, hpl0, R, hz, q⟩ := h
    have nd := sc_Pot_top_up.nd
    refine ⟨_, (pss_cons (ps_expr (pe_cal C_check_liquid (hr.mono (by decide)) (pa_cons (pv 1) (pa_cons (pe_pr KL.cl R_Pot_liquids (hr.mono (by decide)) (pv 0)) pa_nil))))
      (pss_one (ps_expr (pe_mt KL.cl M_Pot__pour_all (hr.mono (by decide)) (pv 0) (pa_cons (pe_lst (pa_cons (pv 1) pa_nil)) pa_nil))))), ?_⟩
    obtain ⟨dx, t, c, pl, Ts, h1, h2, h3, h4⟩ := id hp.ex
    have hi := R.liq i List.mem_cons_self
    refine ⟨.int (i : Nat), rfl, .ref p, rfl, p, dx, _, rfl, h1, M, p, bl, s, sts, cur, rfl, hp, i, (cur.ns.length : Nat), rfl, by omega, by omega, ?_⟩
    refine ⟨.ref p, rfl, p, dx, _, rfl, h1, lk_pour_all, .int (i : Nat), rfl, by show 1 ≤ 16777216; decide, fun r nr => ?_⟩
    have s1 := sameN (o := .lst [.int (i : Nat)]) nr
    have hr1 : L2.upd H r (.lst [.int (i : Nat)]) r = some (.lst [.int (i : Nat)]) := upd_same
    generalize L2.upd H r (.lst [.int (i : Nat)]) = H1 at *
    exact ⟨M, p, bl, r, s, sts, cur, [i], rfl, hp.same s1, (fun m hm => (hM m hm).same s1), hlen, hpl0, hr1, R, hz, fun H' pa k f => q H' pa ((B2.of s1).trans k) fun y hy => s1.free (f _ hy)⟩


theorem ok_Pot_strength {f : Addr} {fd : FuncData}  (F : Fun K "strength" "Pot.strength" s_Pot_strength f fd) (B : Bl mg) {C : Addr} (KL : Kls K mg "Pot" C) (NA : PNA K C) {Tc Ts Tg : Addr} (C_strength_of : Cal P w K mg base 8 "strength_of" ["content", "strengths"] (sp_strength Tc Ts Tg)) : FnOk P w K mg base CX0 9 f fd ["self", "strengths"] (sp_pstrength C Tc Ts Tg) := by
  refine F.ok sc_Pot_strength (fun vs H Q E h => ?_) (fun cdv A outer s H vs Q E hr h => ?_)
  · obtain ⟨M, p, bl, b, s, sts, cur, ss, rfl, _⟩ := h; rfl
  · obtain ⟨M, p, bl, b, s, sts, cur, ss, rfl, hp, hC, hz, hb, hl, hs, g1, g2, g3, q⟩ := h
    have nd := sc_Pot_strength.nd
    refine ⟨_, (pss_one (ps_ret (pe_cal C_strength_of (hr.mono (by decide)) (pa_cons (pe_fld (pv 0) rfl) (pa_cons (pv 1) pa_nil))))), ?_⟩
    obtain ⟨dx, t, c, pl, Ts', h1, h2, h3, h4⟩ := id hp.ex
    exact ⟨.ref p, rfl, p, C, dx, _, .ref c, rfl, h1, KL.cl, NA.c, lk_content, .ref b, rfl, c, b, cur.ns, ss, rfl, h2.c.1, hC, hz, hb, hl, hs, g1, g2, g3, q⟩


theorem ok_Pot_twin {f : Addr} {fd : FuncData}  (F : Fun K "twin" "Pot.twin" s_Pot_twin f fd) (B : Bl mg) {C : Addr} (KL : Kls K mg "Pot" C) (NA : PNA K C) (R_Pot_liquids : Pr P w K mg base 1 C "liquids" (sp_liquids C)) (MK_Pot : Mkr P w K mg base 5 C "Pot" ["self", "count", "start", "kept"] (sp_init C)) : FnOk P w K mg base CX0 7 f fd ["self"] (sp_twin C) := by
  refine F.ok sc_Pot_twin (fun vs H Q E h => ?_) (fun cdv A outer s H vs Q E hr h => ?_)
  · obtain ⟨M, p, bl, s, sts, cur, rfl, _⟩ := h; rfl
  · obtain ⟨M, p, bl, s, sts, cur, rfl, hp, hM, kp, k1, k8, hs, hlen, q⟩ := h
    have nd := sc_Pot_twin.nd
    refine ⟨_, (pss_cons (ps_set (i := 1) nd rfl (Or.inl rfl) (pe_mkr MK_Pot (hr.mono (by decide)) (pa_cons (pe_pr KL.cl R_Pot_liquids (hr.mono (by decide)) (pv 0)) (pa_cons (pe_fld (pv 0) rfl) (pa_cons (pe_fld (pv 0) rfl) pa_nil)))))
      (pss_cons (ps_fld (pv 1) (pe_fld (pv 0) rfl) rfl)
      (pss_cons (ps_fld (pv 1) (pe_fld (pv 0) rfl) rfl)
      (pss_cons (ps_fld (pv 1) (pe_callTy call_list_of (by rfl) B.list (by decide +kernel) (pa_cons (pe_fld (pv 0) rfl) pa_nil)) rfl)
      (pss_one (ps_ret (pv 1))))))), ?_⟩
    obtain ⟨dx, t, c, pl, Ts, h1, h2, h3, h4⟩ := id hp.ex
    obtain ⟨pas, pa1, pa2⟩ := id h2.p
    refine ⟨.ref p, rfl, p, dx, _, rfl, h1, M, p, bl, s, sts, cur, rfl, hp, ?_⟩
    refine ⟨.ref p, rfl, p, C, dx, _, .int (s : Nat), rfl, h1, KL.cl, NA.s, lk_start, .ref p, rfl, p, C, dx, _, .ref t, rfl, h1, KL.cl, NA.k, lk_kept, fun x dy nx ndy ndx => ?_⟩
    have keepG : ∀ q o, H q = some o → L2.upd (L2.upd H dy (.own x)) x (.ins C dy []) q = some o := fun q o e => by rw [upd_ne (ne_of_none e nx), upd_ne (ne_of_none e ndy)]; exact e
    have freG : Fre H (L2.upd (L2.upd H dy (.own x)) x (.ins C dy [])) := fun z hz => by
      by_cases e : z = x
      · rw [e]; exact nx
      · rw [upd_ne e] at hz
        by_cases e2 : z = dy
        · rw [e2]; exact ndy
        · rw [upd_ne e2] at hz; exact hz
    have hx1 : L2.upd (L2.upd H dy (.own x)) x (.ins C dy []) x = some (.ins C dy []) := upd_same
    have sG : Same H (L2.upd (L2.upd H dy (.own x)) x (.ins C dy [])) := fun q o e => keepG q o e
    generalize L2.upd (L2.upd H dy (.own x)) x (.ins C dy []) = H1 at *
    refine ⟨M, x, dy, t, cur.ns.length, s, cur.a, cur.b, rfl, hx1, k1, k8, hs, sG _ _ h2.t.1, h2.t.2, (fun m hm => (hM m hm).same sG), kp, fun H2 bx e2 f2 nbx hq => ⟨rfl, ?_⟩⟩
    obtain ⟨dz, tz, cz, plz, Tz, z1, z2, z3, z4⟩ := id hq.ex
    have xn : ∀ q o, H q = some o → q ≠ x := fun q o e => ne_of_none e nx
    have s2 : Same H H2 := fun q o e => e2 _ _ (xn _ _ e) (sG _ _ e)
    have l1 := s2 _ _ h1
    refine ⟨.ref p, rfl, p, C, dx, _, .ref c, rfl, l1, KL.cl, NA.c, lk_content, .ref x, rfl, x, C, dz, _, rfl, z1, KL.cl, NA.c, by show 5 < 1000; decide, ?_⟩
    rw [pt_content]
    have m1 : L2.upd H2 x (.ins C dz (PF (.int (s : Nat)) tz c plz bx)) p = some (.ins C dx (PF (.int (s : Nat)) t c pl bl)) := by rw [upd_ne (xn _ _ h1)]; exact l1
    refine ⟨.ref p, rfl, p, C, dx, _, .ref pl, rfl, m1, KL.cl, NA.p, lk_past, .ref x, rfl, x, C, dz, _, rfl, upd_same, KL.cl, NA.p, by show 5 < 1000; decide, ?_⟩
    rw [pt_past, upd_upd]
    have m2 : L2.upd H2 x (.ins C dz (PF (.int (s : Nat)) tz c pl bx)) p = some (.ins C dx (PF (.int (s : Nat)) t c pl bl)) := by rw [upd_ne (xn _ _ h1)]; exact l1
    have m3 : L2.upd H2 x (.ins C dz (PF (.int (s : Nat)) tz c pl bx)) bl = some (.lst (Ts.map V.ref)) := by rw [upd_ne (xn _ _ h3)]; exact s2 _ _ h3
    refine ⟨.ref p, rfl, p, C, dx, _, .ref bl, rfl, m2, KL.cl, NA.b, lk_before, bl, _, rfl, .inl (SqL.of m3), fun b2 nb2 => ?_⟩
    have bx' : b2 ≠ x := fun e => by rw [e, upd_same] at nb2; cases nb2
    refine ⟨.ref x, rfl, x, C, dz, _, rfl, by rw [upd_ne (Ne.symm bx')]; exact upd_same, KL.cl, NA.b, by show 5 < 1000; decide, ?_⟩
    rw [pt_before]
    have nb2' : H2 b2 = none := by rw [upd_ne bx'] at nb2; exact nb2
    have nH : H b2 = none := s2.free nb2'
    have ez : ∀ q o, q ≠ x → H2 q = some o → L2.upd (L2.upd (L2.upd H2 x (.ins C dz (PF (.int (s : Nat)) tz c pl bx))) b2 (.lst (Ts.map V.ref))) x (.ins C dz (PF (.int (s : Nat)) tz c pl b2)) q = some o := fun q o n e => by
      rw [upd_ne n, upd_ne (ne_of_none e nb2'), upd_ne n]; exact e
    have eS : Same H (L2.upd (L2.upd (L2.upd H2 x (.ins C dz (PF (.int (s : Nat)) tz c pl bx))) b2 (.lst (Ts.map V.ref))) x (.ins C dz (PF (.int (s : Nat)) tz c pl b2))) := fun q o e => ez _ _ (xn _ _ e) (s2 _ _ e)
    have eB : L2.upd (L2.upd (L2.upd H2 x (.ins C dz (PF (.int (s : Nat)) tz c pl bx))) b2 (.lst (Ts.map V.ref))) x (.ins C dz (PF (.int (s : Nat)) tz c pl b2)) b2 = some (.lst (Ts.map V.ref)) := by rw [upd_ne bx', upd_same]
    have eX : L2.upd (L2.upd (L2.upd H2 x (.ins C dz (PF (.int (s : Nat)) tz c pl bx))) b2 (.lst (Ts.map V.ref))) x (.ins C dz (PF (.int (s : Nat)) tz c pl b2)) x = some (.ins C dz (PF (.int (s : Nat)) tz c pl b2)) := upd_same
    generalize L2.upd (L2.upd (L2.upd H2 x (.ins C dz (PF (.int (s : Nat)) tz c pl bx))) b2 (.lst (Ts.map V.ref))) x (.ins C dz (PF (.int (s : Nat)) tz c pl b2)) = H3 at *
    have ht3 : H3 tz = some (.tup [.int cur.a, .int cur.b]) := ez _ _ (insT_ne z1 z2.t.1) z2.t.1
    have tzM : tz ∉ x :: b2 :: M := fun m => by
      rcases List.mem_cons.mp m with e | m
      · rw [e, eX] at ht3; cases ht3
      · rcases List.mem_cons.mp m with e | m
        · rw [e, eB] at ht3; cases ht3
        · exact z2.t.2 (List.mem_cons_of_mem _ (List.mem_cons_of_mem _ m))
    have g2 := (h2.ext nH).ext nx
    have gm : ButM (x :: b2 :: M) H H3 := ButM.of eS
    have g3 := g2.but gm
    exact ⟨.ref x, rfl, q H3 x b2 eS nx nH ⟨⟨dz, tz, c, pl, Ts, eX, ⟨⟨ht3, tzM⟩, g3.c, g3.p⟩, eB, ((h4.ext nH).ext nx).but gm⟩, List.mem_cons_self, List.mem_cons_of_mem _ List.mem_cons_self⟩⟩


end
end K52
end

section
set_option Elab.async false
set_option linter.all false
set_option maxRecDepth 100000
set_option maxHeartbeats 4000000
namespace K52
open PySem PySem.Spec PyProof.Rows L2 GxR Gx Ma
section
variable {P : Program} {w : World} {K : PySem.W.Frag} {mg : Str → Option Value} {base : Heap}

def sp_lundone (C : Addr) : Sp := fun vs H Q _ => ∃ (M : List Addr) (p bl : Addr) (s : Nat) (cur : PS), vs = [V.ref p] ∧ PotS C M H p bl s [] cur ∧ Q (.bl true) H
theorem two_le {a b : Nat} (h : a ≤ b) : (2 : Int) ^ a ≤ 2 ^ b := by
  have := Nat.pow_le_pow_right (show 0 < 2 by decide) h
  have e1 : ((2 ^ a : Nat) : Int) = 2 ^ a := by rw [Int.natCast_pow]; rfl
  have e2 : ((2 ^ b : Nat) : Int) = 2 ^ b := by rw [Int.natCast_pow]; rfl
  rw [← e1, ← e2]
  exact Int.ofNat_le.mpr this
/-- what a state must be -/
structure Vst (m : Nat) (st : PS) : Prop where
  k : Kep st.a st.b
  c : Con st.ns
  l : st.ns.length = m
  z : st.ns.sum ≤ 100 ^ st.past.length
  n : st.past.length ≤ 60
theorem Vst.z7 {m : Nat} {st : PS} (h : Vst m st) : st.ns.sum < 2 ^ 600 := by
  have h1 : (100 : Int) ^ st.past.length ≤ 100 ^ 60 := by
    have hn := h.n
    have e : (100 : Int) ^ 60 = 100 ^ st.past.length * 100 ^ (60 - st.past.length) := by rw [← Int.pow_add]; congr 1; omega
    rw [e]
    have p1 : (0 : Int) < 100 ^ (60 - st.past.length) := Int.pow_pos (by decide)
    have p2 : (0 : Int) < 100 ^ st.past.length := Int.pow_pos (by decide)
    have := Int.mul_le_mul_of_nonneg_left (show (1 : Int) ≤ 100 ^ (60 - st.past.length) by omega) (Int.le_of_lt p2)
    omega
  exact Int.lt_of_le_of_lt (Int.le_trans h.z h1) (by decide +kernel)
theorem dot_sum (f : Nat → Int) : ∀ n, ((List.range n).map f).sum = preSum f n
  | 0 => rfl
  | n + 1 => by
    rw [List.range_succ, List.map_append, List.sum_append, dot_sum f n]
    show preSum f n + (f n + 0) = preSum f n + f n
    omega
def dTu (p : Nat × Int × Int) : PyData := .tuple [.int (p.1 : Nat), .tuple [.int p.2.1, .int p.2.2]]
def dPast (past : List (Nat × Int × Int)) : PyData := .list (past.map dTu)
theorem tr_past {M : List Addr} {H : Hp} {q : Addr} {as : List Addr} {past : List (Nat × Int × Int)} (h : H q = some (.lst (as.map V.ref))) (t : Tus M H as past) (hl : past.length ≤ 1000) : Tr H 3 (.ref q) (dPast past) := by
  refine .lst h (by rw [List.length_map, List.length_map, t.1]) (by rw [List.length_map, t.1]; exact hl) fun i x d h1 h2 => ?_
  rw [List.getElem?_map] at h1 h2
  cases e : as[i]? with
  | none => rw [e] at h1; cases h1
  | some y =>
    cases e2 : past[i]? with
    | none => rw [e2] at h2; cases h2
    | some pt =>
      rw [e] at h1; rw [e2] at h2
      cases h1; cases h2
      obtain ⟨kt, a, b⟩ := (t.2 i y pt e e2).ex
      exact Tr.ofT a.1 (.cons (.int _ _) (.cons (Tr.pair b.1) .nil)) (by show 2 ≤ 1000; decide)
theorem Bg.lst {H : Hp} {b c : Addr} {n : Nat} (h : Bg H b c n) : ∃ xs, H b = some (.lst xs) := by
  obtain ⟨_, _, _, _, _, q, _⟩ := h
  exact ⟨_, q⟩
def sp_lsame (C Tc Ts Tg : Addr) : Sp := fun vs H Q _ => ∃ (M : List Addr) (j c p bl S : Addr) (n s m : Nat) (sts : List PS) (cur : PS) (Ts' : List Addr), vs = [V.ref j, .ref p, .ref S] ∧ Bg H j c n ∧ n ≤ 700000 ∧ j ∈ M ∧ p ≠ j ∧ bl ≠ j ∧ PotS C M H p bl s sts cur ∧ At M H S (.lst (Ts'.map V.ref)) ∧ Sts M H Ts' (sts ++ [cur]) ∧ sts.length ≤ 1000 ∧ Vst m cur ∧ H Tc = some (TabO Tc) ∧ H Ts = some (TabO Ts) ∧ H Tg = some (TabO Tg) ∧
  ∀ H', But j H H' → Fre H H' → Bg H' j c (n + 600) → Q (.bl true) H'

theorem ok__law_undone {f : Addr} {fd : FuncData}  (F : Fun K "_law_undone" "_law_undone" s__law_undone f fd) (B : Bl mg) {EN : Addr} (ER_NothingToUndo : Er K mg "NothingToUndo" EN) {C : Addr} (KL : Kls K mg "Pot" C) (NA : PNA K C) (MX_Pot_undo : MtE P w K mg base 1 C "undo" ["self"] (sp_undoX C EN)) : FnOk P w K mg base CX0 2 f fd ["pot"] (sp_lundone C) := by
  refine F.ok sc__law_undone (fun vs H Q E h => ?_) (fun cdv A outer s H vs Q E hr h => ?_)
  · obtain ⟨M, p, bl, s, cur, rfl, _⟩ := h; rfl
  · obtain ⟨M, p, bl, s, cur, rfl, hp, q⟩ := h
    obtain ⟨dx, t, c, pl, Ts, h1, h2, h3, h4⟩ := id hp.ex
    have nd := sc__law_undone.nd
    refine ⟨_, (pss_cons (ps_try_only rfl rfl ⟨rfl, by decide, .inl ER_NothingToUndo.at_⟩ takes0 (fun W pn xe tk po => (pss_one (ps_expr (pe_mtE KL.cl MX_Pot_undo (hr.mono (by decide)) tk (pv 0))))) (fun a oe cls d pn _ _ => (pss_one (ps_ret pe_bl))))
      (pss_one (ps_ret pe_bl))), ?_⟩
    refine ⟨.ref p, rfl, p, dx, _, rfl, h1, lk_undo, M, p, bl, s, cur, rfl, hp, ?_⟩
    exact ⟨true, ER_NothingToUndo.me, (fun _ a ha => q), (fun z => nomatch z)⟩


theorem ok__law_same {f : Addr} {fd : FuncData}  (F : Fun K "_law_same" "_law_same" s__law_same f fd) (B : Bl mg) {C : Addr} (KL : Kls K mg "Pot" C) (NA : PNA K C) {Tc Ts Tg : Addr} (C__law_draw : Cal P w K mg base 2 "_law_draw" ["bag", "wide"] sp_draw) (C__law_simple : Cal P w K mg base 2 "_law_simple" ["top", "bottom"] sp_low) (C__law_alike : Cal P w K mg base 6 "_law_alike" ["found", "due"] (sp_alikeT 4)) (R_Pot_content : Pr P w K mg base 1 C "content" (sp_content C)) (R_Pot_past : Pr P w K mg base 1 C "past" (sp_past C)) (R_Pot_kept : Pr P w K mg base 1 C "kept" (sp_kept C)) (M_Pot___len__ : Mt P w K mg base 1 C "__len__" ["self"] (sp_mark C)) (M_Pot_mark : Mt P w K mg base 1 C "mark" ["self"] (sp_mark C)) (MW_Pot_strength : MtK P w K mg base 9 C "strength" ["self", "strengths"] ["strengths"] [0] (sp_pstrength C Tc Ts Tg)) : FnOk P w K mg base CX0 12 f fd ["bag", "pot", "states"] (sp_lsame C Tc Ts Tg) := by
  refine F.ok sc__law_same (fun vs H Q E h => ?_) (fun cdv A outer s H vs Q E hr h => ?_)
  · obtain ⟨M, j, c, p, bl, S, n, s, m, sts, cur, Ts', rfl, _⟩ := h; rfl
  · obtain ⟨M, j, c, p, bl, S, n, s, m, sts, cur, Ts', rfl, hb, hn7, jM, pj, blj, hp, hS, hTs, hsl, hv, g1, g2, g3, q⟩ := h
    have nd := sc__law_same.nd
    refine ⟨_, (pss_cons (ps_asg (pe_ix ix_list (pv 2) (pe_un un_neg pe_int) (fun _ _ => rfl)) (pg_tup (by rfl) (pgs_cons (pg_name (i := 3) nd rfl (Or.inl rfl)) (pgs_cons (pg_name (i := 4) nd rfl (Or.inl rfl)) (pgs_cons (pg_name (i := 5) nd rfl (Or.inl rfl)) pgs_nil)))))
      (pss_cons (ps_par (i := 6) (j := 7) (by rfl) nd rfl rfl (by decide) rfl rfl (pa_cons (pe_lst (pa_cons (pe_pr KL.cl R_Pot_content (hr.mono (by decide)) (pv 1)) (pa_cons (pe_pr KL.cl R_Pot_past (hr.mono (by decide)) (pv 1)) (pa_cons (pe_pr KL.cl R_Pot_kept (hr.mono (by decide)) (pv 1)) (pa_cons (pe_callB (call_lenO M_Pot___len__ KL.cl (hr.mono (by decide))) (by rfl) B.len PySem.boot_len (pa_cons (pv 1) pa_nil)) (pa_cons (pe_mt0 KL.cl M_Pot_mark (hr.mono (by decide)) (pv 1)) pa_nil)))))) (pa_cons (pe_op op_sub (pe_callB call_len_seq (by rfl) B.len PySem.boot_len (pa_cons (pv 2) pa_nil)) pe_int) pa_nil)) (by rfl))
      (pss_cons (ps_if (pt_not (pt_val (pe_cal C__law_alike (hr.mono (by decide)) (pa_cons (pv 6) (pa_cons (pe_lst (pa_cons (pv 4) (pa_cons (pv 5) (pa_cons (pv 3) (pa_cons (pv 7) (pa_cons (pv 7) pa_nil)))))) pa_nil)))))
      (pss_one (ps_ret pe_bl)) pss_nil)
      (pss_cons (ps_expr (pe_bm PySem.F.plainAttrs_list PySem.F.slot_list_append PySem.F.type_list_append mt_append (pe_ix ix_list (pv 6) pe_int (fun _ _ => rfl)) (pa_cons pe_int pa_nil)))
      (pss_cons (ps_expr (pe_bm PySem.F.plainAttrs_list PySem.F.slot_list_append PySem.F.type_list_append mt_append (pe_ix ix_list (pv 6) pe_int (fun _ _ => rfl)) (pa_cons pe_int pa_nil)))
      (pss_cons (ps_setLc (i := 8) (own := [("one", 12)]) (g := gName 12) rfl nd rfl rfl (sw_true rfl rfl rfl (by decide +kernel)) (pi_list (pv 4)) (blkOk_by (own := [("one", 12)]) (N := ["bag", "pot", "states", "held", "some", "past", "told", "many", "powers", "used", "due", "found", "one", "two"]) (sc := defScope s__law_same) (by decide +kernel)) (fun _ _ _ _ _ => (pg_name (i := 12) nd rfl (Or.inl rfl))) (fun _ _ _ _ _ => pts_nil) (fun _ _ _ _ _ => (pe_op op_sub (pe_cal C__law_draw (hr.mono (by decide)) (pa_cons (pv 0) (pa_cons (pe_ix (ix_listK (K := K) rfl) (pe_lst (pa_cons pe_int (pa_cons (pe_op op_powW pe_int pe_int) pa_nil))) (pe_cal C__law_draw (hr.mono (by decide)) (pa_cons (pv 0) (pa_cons pe_int pa_nil))) (fun _ _ => rfl)) pa_nil))) pe_int)))
      (pss_cons (ps_set (i := 9) nd rfl (Or.inl rfl) (pe_callTy call_list_of (by rfl) B.list (by decide +kernel) (pa_cons (pv 8) pa_nil)))
      (pss_cons (ps_set (i := 10) nd rfl (Or.inl rfl) (pe_cal C__law_simple (hr.mono (by decide)) (pa_cons (pe_callB (cr_sum rfl) (by rfl) B.sum (by decide +kernel) (pa_cons (pe_lc (own := [("one", 12), ("two", 13)]) (g := gTup K 2 (gCons (gName 12) (gCons (gName 13) gNil))) rfl nd (pi_zip (by rfl) B.zip (pa_cons (pv 4) (pa_cons (pv 8) pa_nil))) (blkOk_by (own := [("one", 12), ("two", 13)]) (N := ["bag", "pot", "states", "held", "some", "past", "told", "many", "powers", "used", "due", "found", "one", "two"]) (sc := defScope s__law_same) (by decide +kernel)) (fun _ _ _ _ _ => (pg_tup (by rfl) (pgs_cons (pg_name (i := 12) nd rfl (Or.inl rfl)) (pgs_cons (pg_name (i := 13) nd rfl (Or.inl rfl)) pgs_nil)))) (fun _ _ _ _ _ => pts_nil) (fun _ _ _ _ _ => (pe_op op_mulW (pv 12) (pv 13)))) pa_nil)) (pa_cons (pe_callB (cr_sum rfl) (by rfl) B.sum (by decide +kernel) (pa_cons (pv 4) pa_nil)) pa_nil))))
      (pss_cons (ps_set (i := 11) nd rfl (Or.inl rfl) (pe_lst (pa_cons (pe_pr KL.cl R_Pot_content (hr.mono (by decide)) (pv 1)) (pa_cons (pe_pr KL.cl R_Pot_past (hr.mono (by decide)) (pv 1)) (pa_cons (pe_mtK KL.cl MW_Pot_strength (hr.mono (by decide)) (pv 1) (pk_cons (pv 8) pk_nil)) (pa_cons (pv 8) pa_nil))))))
      (pss_one (ps_ret (pe_cal C__law_alike (hr.mono (by decide)) (pa_cons (pv 11) (pa_cons (pe_lst (pa_cons (pv 4) (pa_cons (pv 5) (pa_cons (pv 10) (pa_cons (pv 9) pa_nil))))) pa_nil)))))))))))))), ?_⟩
    obtain ⟨dx, t, cc, pl, Tp, h1, h2, h3, h4⟩ := id hp.ex
    have hn := hv.c.len
    have h8 := hv.c.le8
    have hz := hv.z7
    have hn60 := hv.n
    obtain ⟨Ts0, T, eT⟩ : ∃ Ts0 T, Ts' = Ts0 ++ [T] := by
      have hne : Ts' ≠ [] := fun e => by have := hTs.1; rw [e, List.length_append] at this; simp at this
      exact ⟨Ts'.dropLast, Ts'.getLast hne, (List.dropLast_concat_getLast hne).symm⟩
    have hl0 : Ts0.length = sts.length := by have := hTs.1; rw [eT, List.length_append, List.length_append] at this; simpa using this
    have hTT : StT M H T cur := hTs.2 sts.length T cur (by rw [eT, ← hl0]; exact snoc_at _ _) (snoc_at _ _)
    have hls : Ts'.length = sts.length + 1 := by rw [hTs.1, List.length_append]; rfl
    obtain ⟨tt, ct, plt, hT, hO⟩ := hTT.ex
    obtain ⟨ast, at1, at2⟩ := id hO.p
    refine ⟨.ref S, rfl, 1, rfl, S, _, -1, _, rfl, rfl, SqL.of hS.1, by rw [eT, List.map_append]; exact atI_last _ _, ?_⟩
    refine ⟨T, _, rfl, SqT.of hT.1, rfl, _, _, rfl, _, _, rfl, _, _, rfl, rfl, ?_⟩
    refine ⟨.ref p, rfl, p, dx, _, rfl, h1, M, p, bl, s, sts, cur, rfl, hp, fun q1 H1 s1 n1 l1 => ?_⟩
    refine ⟨.ref p, rfl, p, dx, _, rfl, s1 _ _ h1, M, p, bl, s, sts, cur, rfl, hp.same s1, fun q2 as2 H2 s2 n2 l2 t2 => ?_⟩
    have s12 := s1.trans s2
    refine ⟨.ref p, rfl, p, dx, _, rfl, s12 _ _ h1, M, p, bl, s, sts, cur, rfl, hp.same s12, fun kt hkt => ?_⟩
    refine ⟨.ref p, rfl, p, dx, _, rfl, s12 _ _ h1, M, p, bl, s, sts, cur, rfl, hp.same s12, (sts.length : Nat), rfl, by omega, by omega, ?_⟩
    refine ⟨.ref p, rfl, p, dx, _, rfl, s12 _ _ h1, lk_mark, M, p, bl, s, sts, cur, rfl, hp.same s12, ?_⟩
    refine ⟨by show 5 ≤ 16777216; decide, fun L nL => ?_⟩
    have s3 := sameN (o := .lst [.ref q1, .ref q2, .ref kt, .int (sts.length : Nat), .int (sts.length : Nat)]) nL
    have hL : L2.upd H2 L (.lst [.ref q1, .ref q2, .ref kt, .int (sts.length : Nat), .int (sts.length : Nat)]) L = some (.lst [.ref q1, .ref q2, .ref kt, .int (sts.length : Nat), .int (sts.length : Nat)]) := upd_same
    generalize L2.upd H2 L (.lst [.ref q1, .ref q2, .ref kt, .int (sts.length : Nat), .int (sts.length : Nat)]) = H3 at *
    have s13 := s12.trans s3
    have ctj : ct ≠ j := fun e => hO.c.2 (e ▸ jM)
    have pltj : plt ≠ j := fun e => at1.2 (e ▸ jM)
    have ttj : tt ≠ j := fun e => hO.t.2 (e ▸ jM)
    refine ⟨.ref S, rfl, S, _, rfl, .inl (SqL.of (s13 _ _ hS.1)), _, _, rfl, rfl, .ref L, .int (sts.length : Nat), by
      show [V.ref L, V.int ((((Ts'.map V.ref).length : Nat) : Int) - 1)] = _
      rw [List.length_map, hls, show (((sts.length + 1 : Nat) : Int) - 1) = (sts.length : Nat) by omega], ?_⟩
    refine ⟨.ref L, rfl, .ref ct, rfl, .ref plt, rfl, .ref tt, rfl, .int (sts.length : Nat), rfl, .int (sts.length : Nat), rfl, by show 5 ≤ 16777216; decide, fun LB nL2 => ?_⟩
    have s4 := sameN (o := .lst [.ref ct, .ref plt, .ref tt, .int (sts.length : Nat), .int (sts.length : Nat)]) nL2
    have hL2 : L2.upd H3 LB (.lst [.ref ct, .ref plt, .ref tt, .int (sts.length : Nat), .int (sts.length : Nat)]) LB = some (.lst [.ref ct, .ref plt, .ref tt, .int (sts.length : Nat), .int (sts.length : Nat)]) := upd_same
    generalize L2.upd H3 LB (.lst [.ref ct, .ref plt, .ref tt, .int (sts.length : Nat), .int (sts.length : Nat)]) = H4 at *
    have s14 := s13.trans s4
    have s24 := (s2.trans s3).trans s4
    have tr1 : Tr H4 4 (.ref L) (.list [.list (cur.ns.map PyData.int), dPast cur.past, .tuple [.int cur.a, .int cur.b], .int (sts.length : Nat), .int (sts.length : Nat)]) :=
      Tr.ofL (s4 _ _ hL) (.cons (Tr.ints (s24 _ _ l1) (by omega)) (.cons (tr_past ((s3.trans s4) _ _ l2) (t2.but (ButM.of (s3.trans s4))) (by omega)) (.cons (Tr.pair ((s3.trans s4) _ _ hkt.1)) (.cons (.int _ _) (.cons (.int _ _) .nil))))) (by show 5 ≤ 1000; decide)
    have tr2 : Tr H4 4 (.ref LB) (.list [.list (cur.ns.map PyData.int), dPast cur.past, .tuple [.int cur.a, .int cur.b], .int (sts.length : Nat), .int (sts.length : Nat)]) :=
      Tr.ofL hL2 (.cons (Tr.ints (s14 _ _ hO.c.1) (by omega)) (.cons (tr_past (s14 _ _ at1.1) (at2.but (ButM.of s14)) (by omega)) (.cons (Tr.pair (s14 _ _ hO.t.1)) (.cons (.int _ _) (.cons (.int _ _) .nil))))) (by show 5 ≤ 1000; decide)
    refine ⟨.ref L, .ref LB, _, rfl, tr1, tr2, fun H5 s5 => ⟨true, rfl, iteF ?_⟩⟩
    have s15 := s14.trans s5
    have hL5 := s5 _ _ (s4 _ _ hL)
    have l15 := s5 _ _ (s24 _ _ l1)
    have l25 := s5 _ _ (s4 _ _ (s3 _ _ l2))
    have q12 : q1 ≠ q2 := ne_of_none l1 n2
    have Lq1 : L ≠ q1 := Ne.symm (ne_of_none (s2 _ _ l1) nL)
    refine ⟨.ref L, rfl, L, _, 0, _, rfl, rfl, SqL.of hL5, rfl, .inl ⟨rfl, _, .inl (.inl l15)⟩, q1, _, .int 1, rfl, rfl, l15, by rw [List.length_map]; show _ < 16777216; omega, ?_⟩
    have s6 : Same H (L2.upd H5 q1 (.lst (cur.ns.map V.int ++ [.int 1]))) := fun x o e => by rw [upd_ne (ne_of_none e n1)]; exact s15 _ _ e
    have hL6 : L2.upd H5 q1 (.lst (cur.ns.map V.int ++ [.int 1])) L = some (.lst [.ref q1, .ref q2, .ref kt, .int (sts.length : Nat), .int (sts.length : Nat)]) := by rw [upd_ne Lq1]; exact hL5
    have l26 : L2.upd H5 q1 (.lst (cur.ns.map V.int ++ [.int 1])) q2 = some (.lst (as2.map V.ref)) := by rw [upd_ne (Ne.symm q12)]; exact l25
    have nq2 : H q2 = none := s1.free n2
    generalize L2.upd H5 q1 (.lst (cur.ns.map V.int ++ [.int 1])) = H6 at *
    refine ⟨.ref L, rfl, L, _, 1, _, rfl, rfl, SqL.of hL6, rfl, .inl ⟨rfl, _, .inl (.inl l26)⟩, q2, _, .int 1, rfl, rfl, l26, by rw [List.length_map, t2.1]; show _ < 16777216; omega, ?_⟩
    have s7 : Same H (L2.upd H6 q2 (.lst (as2.map V.ref ++ [.int 1]))) := fun x o e => by rw [upd_ne (ne_of_none e nq2)]; exact s6 _ _ e
    generalize L2.upd H6 q2 (.lst (as2.map V.ref ++ [.int 1])) = H7 at *
    clear s1 s2 s3 s4 s5 s12 s13 s14 s15 s24 s6 tr1 tr2 hL2 hL hL5 l15 l25 l26 hL6 l1 l2 t2 nL nL2 n2 nq2
    have hc7 := s7 _ _ hO.c.1
    have b7 := hb.keep s7
    refine ⟨.ref ct, rfl, ct, rfl, ⟨_, SqL.of hc7⟩, fun D hD => lc_list (xs := cur.ns.map V.int) (fun i G => ∃ xs : List Int, xs.length = i ∧ (∀ x ∈ xs, x.natAbs < 2 ^ 100) ∧ But j H7 G ∧ Fre H7 G ∧ Bg G j c (n + 60 * i) ∧ LI G D xs) ⟨[], rfl, (fun x hx => by cases hx), But.of (sameN hD), Fre.of (sameN hD), b7.keep (sameN hD), upd_same⟩ (fun i G _ ⟨xs, e1, e2, e3, e4, e5, e6⟩ => SqL.of (e3 _ _ ctj hc7)) (fun i x G hx ⟨xs, e1, e2, e3, e4, e5, e6⟩ => ?_) (fun G ⟨xs, e1, e2, e3, e4, e5, e6⟩ => ?_)⟩
    · have hi : i < cur.ns.length := by have := (List.getElem?_eq_some_iff.mp hx).1; rwa [List.length_map] at this
      have Dj : D ≠ j := b7.ne hD
      refine ⟨rfl, .ref j, rfl, _, _, rfl, rfl, ⟨by decide, 4, by decide, by decide, by decide⟩, by show 2 ≤ 16777216; decide, fun o1 no1 => ?_⟩
      have ho1 : L2.upd G o1 (.lst [.int 9, .int (10 ^ (30 : Int).toNat)]) o1 = some (.lst [.int 9, .int (10 ^ (30 : Int).toNat)]) := upd_same
      have so1 := sameN (o := .lst [.int 9, .int (10 ^ (30 : Int).toNat)]) no1
      have bo1 := e5.ne no1
      have e5' := e5.keep so1
      generalize L2.upd G o1 (.lst [.int 9, .int (10 ^ (30 : Int).toNat)]) = G1 at *
      refine ⟨.ref j, rfl, j, c, 2, _, rfl, e5', by omega, by decide, by decide +kernel, fun k1 G2 u2 f2 bb2 k10 k11 => ?_⟩
      obtain ⟨wd, hwd, w1, w2⟩ : ∃ wd : Int, atI [V.int 9, V.int (10 ^ (30 : Int).toNat)] k1 = some (.int wd) ∧ 1 ≤ wd ∧ wd ≤ 10 ^ 30 := by
        have h3 : k1 = 0 ∨ k1 = 1 := by omega
        rcases h3 with rfl | rfl
        · exact ⟨9, rfl, by decide, by decide +kernel⟩
        · exact ⟨_, rfl, by decide +kernel, by decide +kernel⟩
      refine ⟨o1, _, k1, .int wd, rfl, rfl, SqL.of (u2 _ _ bo1 ho1), hwd, j, c, wd, _, rfl, bb2, by omega, w1, Int.lt_of_le_of_lt w2 (by decide +kernel), fun d G3 u3 f3 bb3 d0 d1 => ?_⟩
      have hD3 := u3 _ _ Dj (u2 _ _ Dj (so1 _ _ e6))
      refine ⟨_, _, rfl, rfl, _, hD3, by rw [List.length_map]; show _ < 16777216; omega, xs ++ [d - 4], by rw [List.length_append, e1]; rfl, fun x hx => ?_, ?_, ?_, ?_, ?_⟩
      · rcases List.mem_append.mp hx with h | h
        · exact e2 x h
        · rw [List.mem_singleton.mp h]
          have : (10 : Int) ^ 30 + 4 < 2 ^ 100 := by decide +kernel
          omega
      · exact fun x o hx e => by rw [upd_ne (ne_of_none e hD)]; exact u3 _ _ hx (u2 _ _ hx (so1 _ _ (e3 _ _ hx e)))
      · exact fun x hx => by
          by_cases e : x = D
          · rw [e]; exact hD
          · rw [upd_ne e] at hx; exact e4 _ (so1.free (f2 _ (f3 _ hx)))
      · obtain ⟨ys, ii, dd, st, k', a1, a2, a3, a4, a5, a6, a7, a8, a9, a10, a11⟩ := bb3
        obtain ⟨xs7, _, _, _, _, _, lc7, _⟩ := b7
        refine ⟨ys, ii, dd, st, k', ?_, ?_, a3, a4, a5, a6, a7, a8, a9, a10, by omega⟩
        · rw [upd_ne (Ne.symm Dj)]; exact a1
        · show L2.upd G3 D _ c = _
          rw [upd_ne (ne_of_none lc7 hD)]; exact a2
      · show L2.upd G3 D _ D = _
        rw [upd_same, List.map_append]; rfl
    rw [List.length_map] at e1 e5
    have bG : But j H G := (But.of s7).trans e3
    have fG : Fre H G := fun x hx => s7.free (e4 _ hx)
    have m1 : ButM M H G := fun x o hx e => bG x o (fun z => hx (z ▸ jM)) e
    have hpG := hp.keep m1 (fun o e => bG _ _ pj e) (fun o e => bG _ _ blj e)
    have h1G := bG _ _ pj h1
    have DS : H D = none := s7.free hD
    clear e3 e4 b7 hc7
    refine ⟨.ref D, rfl, D, _, rfl, .inl (SqL.of e6), fun U nU => ?_⟩
    have sU := sameN (o := .lst (xs.map V.int)) nU
    have hU : L2.upd G U (.lst (xs.map V.int)) U = some (.lst (xs.map V.int)) := upd_same
    generalize L2.upd G U (.lst (xs.map V.int)) = G1 at *
    have hcG := sU _ _ (bG _ _ ctj hO.c.1)
    have hDG := sU _ _ e6
    refine ⟨.ref ct, rfl, .ref D, rfl, ct, D, _, _, rfl, SqL.of hcG, SqL.of hDG, fun D2 hD2 => ?_⟩
    have nb : ∀ n ∈ cur.ns, n.natAbs < 2 ^ 600 := fun n hn => abs_lt (hv.c.nn n hn) (Int.lt_of_le_of_lt (le_sum hv.c.nn hn) hz)
    refine lc_it (walk_zip (n := cur.ns.length) (by rw [List.length_map, List.length_map, e1, Nat.min_self])) (PvF (fun i => some (V.int (dotF cur.ns xs i))) G1 D2) (PvF.zero hD2) (fun i H' _ pv => ⟨SqL.of (pv.s _ _ hcG), SqL.of (pv.s _ _ hDG)⟩) (fun i x H' H2 hi pv hy => ?_) (fun H2 pv => ?_)
    · obtain ⟨T52, x1, x2, rfl, nT2, rfl, hx1, hx2⟩ := hy
      obtain rfl := Option.some.inj (hx1.symm.trans (get_map (getD_atS hi)))
      obtain rfl := Option.some.inj (hx2.symm.trans (get_map (getD_atS (by omega))))
      have sT := sameN (o := .tup [.int (cur.ns.getD i 0), .int (xs.getD i 0)]) nT2
      exact ⟨T52, _, rfl, SqT.of upd_same, rfl, _, _, rfl, _, _, rfl, rfl, rfl, .int (cur.ns.getD i 0), rfl, .int (xs.getD i 0), rfl, _, _, rfl, rfl, wide_mul (a := 600) (b := 100) (nb _ (getD_memS hi)) (e2 _ (getD_memS (by omega))) (by decide) (by decide) (by decide), pv.ext hD2 (by omega) sT rfl⟩
    have eD := pv.at_
    rw [fmL_range, show ((List.range cur.ns.length).map fun i => V.int (dotF cur.ns xs i)) = ((List.range cur.ns.length).map (dotF cur.ns xs)).map V.int by rw [List.map_map]; rfl] at eD
    have sv := pv.s
    clear pv
    refine ⟨D2, _, rfl, SqL.of eD, ?_⟩
    rw [dot_sum]
    have hsum := hv.c.amt.pos
    refine ⟨.ref ct, rfl, ct, cur.ns, rfl, SqL.of (sv _ _ hcG), _, _, rfl, hsum, Int.lt_of_lt_of_le hz (two_le (by decide)), fun r G3 s3 nr hr2 => ?_⟩
    have sG3 := (sU.trans sv).trans s3
    have hpG3 := hpG.same sG3
    have h1G3 := sG3 _ _ h1G
    obtain ⟨hz7, hx7⟩ : cur.ns.sum < 2 ^ 7000 ∧ True := ⟨Int.lt_of_lt_of_le hz (two_le (by decide)), trivial⟩
    refine ⟨.ref p, rfl, p, dx, _, rfl, h1G3, M, p, bl, s, sts, cur, rfl, hpG3, fun q3 G4 s4 n4 l4 => ?_⟩
    refine ⟨.ref p, rfl, p, dx, _, rfl, s4 _ _ h1G3, M, p, bl, s, sts, cur, rfl, hpG3.same s4, fun q5 as5 G5 s5 n5 l5 t5 => ?_⟩
    have s45 := s4.trans s5
    have tb : ∀ {y : Addr} {o : HO}, y ≠ j → H y = some o → G5 y = some o := fun hy e => s45 _ _ (sG3 _ _ (bG _ _ hy e))
    have gTc : G5 Tc = some (TabO Tc) := tb (fun e => by obtain ⟨ys, z⟩ := hb.lst; rw [← e, g1] at z; cases z) g1
    have gTs : G5 Ts = some (TabO Ts) := tb (fun e => by obtain ⟨ys, z⟩ := hb.lst; rw [← e, g2] at z; cases z) g2
    have gTg : G5 Tg = some (TabO Tg) := tb (fun e => by obtain ⟨ys, z⟩ := hb.lst; rw [← e, g3] at z; cases z) g3
    have hD5 := s45 _ _ (s3 _ _ (sv _ _ hDG))
    refine ⟨.ref p, rfl, p, dx, _, rfl, s45 _ _ h1G3, lk_strength, .ref D, rfl, rfl, M, p, bl, D, s, sts, cur, xs, rfl, hpG3.same s45, hv.c, hz7, hD5, e1, e2, gTc, gTs, gTg, fun r2 G6 s6 n6 hr6 => ?_⟩
    refine ⟨.ref D, rfl, by show 4 ≤ 16777216; decide, fun L3 nL3 => ?_⟩
    have s7 := sameN (o := .lst [.ref q3, .ref q5, .ref r2, .ref D]) nL3
    have hL3 : L2.upd G6 L3 (.lst [.ref q3, .ref q5, .ref r2, .ref D]) L3 = some (.lst [.ref q3, .ref q5, .ref r2, .ref D]) := upd_same
    generalize L2.upd G6 L3 (.lst [.ref q3, .ref q5, .ref r2, .ref D]) = G7 at *
    refine ⟨.ref L3, rfl, .ref ct, rfl, .ref plt, rfl, .ref r, rfl, .ref U, rfl, by show 4 ≤ 16777216; decide, fun L4 nL4 => ?_⟩
    have s8 := sameN (o := .lst [.ref ct, .ref plt, .ref r, .ref U]) nL4
    have hL4 : L2.upd G7 L4 (.lst [.ref ct, .ref plt, .ref r, .ref U]) L4 = some (.lst [.ref ct, .ref plt, .ref r, .ref U]) := upd_same
    generalize L2.upd G7 L4 (.lst [.ref ct, .ref plt, .ref r, .ref U]) = G8 at *
    have s78 := s7.trans s8
    have s68 := s6.trans s78
    have s58 := s5.trans s68
    have s48 := s4.trans s58
    have s38 := s3.trans s48
    have sX := (sU.trans sv).trans s38
    have oldG : ∀ {y : Addr} {o : HO}, y ≠ j → H y = some o → G8 y = some o := fun hy e => sX _ _ (bG _ _ hy e)
    have oldM : ButM M H G8 := m1.trans (ButM.of sX)
    have tr3 : Tr G8 4 (.ref L3) (.list [.list (cur.ns.map PyData.int), dPast cur.past, .tuple [.int (fr (dotZ cur.ns xs) cur.ns.sum).1, .int (fr (dotZ cur.ns xs) cur.ns.sum).2], .list (xs.map PyData.int)]) :=
      Tr.ofL (s8 _ _ hL3) (.cons (Tr.ints (s58 _ _ l4) (by omega)) (.cons (tr_past (s68 _ _ l5) (t5.but (ButM.of s68)) (by omega)) (.cons (Tr.pair (s78 _ _ hr6)) (.cons (Tr.ints (s68 _ _ hD5) (by omega)) .nil)))) (by show 4 ≤ 1000; decide)
    have tr4 : Tr G8 4 (.ref L4) (.list [.list (cur.ns.map PyData.int), dPast cur.past, .tuple [.int (fr (dotZ cur.ns xs) cur.ns.sum).1, .int (fr (dotZ cur.ns xs) cur.ns.sum).2], .list (xs.map PyData.int)]) :=
      Tr.ofL hL4 (.cons (Tr.ints (oldG ctj hO.c.1) (by omega)) (.cons (tr_past (oldG pltj at1.1) (at2.but oldM) (by omega)) (.cons (Tr.pair (s48 _ _ hr2)) (.cons (Tr.ints ((sv.trans s38) _ _ hU) (by omega)) .nil)))) (by show 4 ≤ 1000; decide)
    refine ⟨.ref L3, .ref L4, _, rfl, tr3, tr4, fun G9 s9 => ?_⟩
    exact q G9 (bG.trans (But.of (sX.trans s9))) (fun x hx => fG _ ((sX.trans s9).free hx)) ((e5.keep (sX.trans s9)).le (by omega))


end
end K52
end

section
set_option Elab.async false
set_option linter.all false
set_option maxRecDepth 100000
set_option maxHeartbeats 4000000
namespace K52
open PySem PySem.Spec PyProof.Rows L2 GxR Gx Ma
section
variable {P : Program} {w : World} {K : PySem.W.Frag} {mg : Str → Option Value} {base : Heap}

theorem rep_getD {a b : Int} {n i : Nat} (h : i < n) : (List.replicate n (a, b)).getD i (1, 2) = (a, b) := by
  rw [List.getD_eq_getElem?_getD, List.getElem?_replicate, if_pos h]
  rfl


theorem ctn1_take (ns : List Int) (a b : Int) (cs : List Nat) : ∀ i, i ≤ cs.length → ctn1 ns a b cs i = (cs.take i).foldl (fun x c => step x a b c) ns
  | 0, _ => rfl
  | i + 1, h => by
    have e : ctn1 ns a b cs (i + 1) = step (ctn1 ns a b cs i) a b (cs.getD i 0) := by
      show Ma.step _ _ _ _ = _
      rw [rep_getD (show i < cs.length from h)]
      rfl
    have e2 : cs[i]? = some (cs.getD i 0) := by rw [List.getD_eq_getElem?_getD, List.getElem?_eq_getElem (show i < cs.length from h)]; rfl
    rw [e, ctn1_take ns a b cs i (by omega), List.take_add_one, e2, List.foldl_append]
    rfl
theorem ctn1_fold (ns : List Int) (a b : Int) (cs : List Nat) : ctn1 ns a b cs cs.length = cs.foldl (fun x c => step x a b c) ns := by
  rw [ctn1_take ns a b cs _ (Nat.le_refl _), List.take_length]

theorem PS.behind_eq (st : PS) (cs : List Nat) : st.behind cs = ⟨st.a, st.b, cs.foldl (fun x c => step x st.a st.b c) st.ns, st.past ++ cs.map fun c => (c, st.a, st.b)⟩ := by
  unfold PS.behind
  rw [ctn1_fold]
theorem Vst.step {m : Nat} {st : PS} (h : Vst m st) {c : Nat} (hc : c < m) (hn : st.past.length < 60) : Vst m ⟨st.a, st.b, Ma.step st.ns st.a st.b c, st.past ++ [(c, st.a, st.b)]⟩ := by
  have hc' : c < st.ns.length := by rw [h.l]; exact hc
  refine ⟨h.k, step_con h.c h.k hc', by show (Ma.step _ _ _ _).length = m; rw [step_len]; exact h.l, ?_, ?_⟩
  · show (Ma.step st.ns st.a st.b c).sum ≤ 100 ^ (st.past ++ [(c, st.a, st.b)]).length
    rw [List.length_append, List.length_singleton, Int.pow_succ]
    have := step_sum h.c h.k hc'
    have := h.z
    omega
  · show (st.past ++ [(c, st.a, st.b)]).length ≤ 60
    rw [List.length_append, List.length_singleton]; omega
theorem Vst.row {m : Nat} : ∀ (cs : List Nat) {st : PS}, Vst m st → (∀ c ∈ cs, c < m) → st.past.length + cs.length ≤ 60 → Vst m ⟨st.a, st.b, cs.foldl (fun x c => Ma.step x st.a st.b c) st.ns, st.past ++ cs.map fun c => (c, st.a, st.b)⟩
  | [], st, h, _, _ => by
    show Vst m ⟨st.a, st.b, st.ns, st.past ++ []⟩
    rw [List.append_nil]; exact h
  | c :: r, st, h, hc, hn => by
    have h1 := h.step (hc c List.mem_cons_self) (by rw [List.length_cons] at hn; omega)
    have h2 := Vst.row r h1 (fun d hd => hc d (List.mem_cons_of_mem _ hd)) (by show (st.past ++ [(c, st.a, st.b)]).length + r.length ≤ 60; rw [List.length_append, List.length_singleton]; rw [List.length_cons] at hn; omega)
    have e : (st.past ++ [(c, st.a, st.b)]) ++ r.map (fun c => (c, st.a, st.b)) = st.past ++ (c :: r).map fun c => (c, st.a, st.b) := by rw [List.append_assoc]; rfl
    have h3 : Vst m ⟨st.a, st.b, r.foldl (fun x c => Ma.step x st.a st.b c) (Ma.step st.ns st.a st.b c), (st.past ++ [(c, st.a, st.b)]) ++ r.map (fun c => (c, st.a, st.b))⟩ := h2
    rw [e] at h3
    exact h3
theorem Vst.row1 {m : Nat} {st : PS} (h : Vst m st) {cs : List Nat} (hc : ∀ c ∈ cs, c < m) (hn : cs.length ≤ 60) : Row1 st.ns st.a st.b cs := ⟨h.c, hn, h.k, fun c hcc => by rw [h.l]; exact hc c hcc⟩
/-- only j, p and bl may change -/
def B3 (j p bl : Addr) (H H' : Hp) : Prop := ∀ q o, q ≠ j → q ≠ p → q ≠ bl → H q = some o → H' q = some o
theorem B3.j {j p bl : Addr} {H H' : Hp} (e : But j H H') : B3 j p bl H H' := fun q o a _ _ h => e q o a h
theorem B3.p {j p bl : Addr} {H H' : Hp} (e : B2 p bl H H') : B3 j p bl H H' := fun q o _ a b h => e q o a b h
theorem B3.s {j p bl : Addr} {H H' : Hp} (e : Same H H') : B3 j p bl H H' := fun q o _ _ _ h => e q o h
theorem B3.trans {j p bl : Addr} {H H1 H2 : Hp} (a : B3 j p bl H H1) (b : B3 j p bl H1 H2) : B3 j p bl H H2 := fun q o x y z h => b q o x y z (a q o x y z h)
theorem B3.m {M : List Addr} {j p bl : Addr} {H H' : Hp} (e : B3 j p bl H H') (hj : j ∈ M) (hp : p ∈ M) (hb : bl ∈ M) : ButM M H H' := fun q o n h => e q o (fun z => n (z ▸ hj)) (fun z => n (z ▸ hp)) (fun z => n (z ▸ hb)) h
theorem mus {C : Addr} {M : List Addr} {j c p bl : Addr} {n s : Nat} {sts : List PS} {cur : PS} {H H' : Hp} (h : ∀ m ∈ M, Mu H m) (e : B3 j p bl H H') (hp : PotS C M H' p bl s sts cur) (hb : Bg H' j c n) : ∀ m ∈ M, Mu H' m := fun m hm => by
  by_cases e1 : m = j
  · obtain ⟨xs, q⟩ := hb.lst; rw [e1]; exact .inr ⟨xs, q⟩
  · obtain ⟨dx, t, cc, pl, Ts, a1, _, a3, _⟩ := hp.ex
    by_cases e2 : m = p
    · rw [e2]; exact .inl ⟨C, dx, _, a1⟩
    · by_cases e3 : m = bl
      · rw [e3]; exact .inr ⟨_, a3⟩
      · rcases h m hm with ⟨D, dy, fs, q⟩ | ⟨xs, q⟩
        · exact .inl ⟨D, dy, fs, e _ _ e1 e2 e3 q⟩
        · exact .inr ⟨xs, e _ _ e1 e2 e3 q⟩
theorem Bg.b2 {C : Addr} {H H' : Hp} {b c p bl dx : Addr} {n : Nat} {fs : List (Str × V)} (h : Bg H b c n) (e : B2 p bl H H') (hp : H p = some (.ins C dx fs)) (n2 : b ≠ bl) (n3 : c ≠ bl) : Bg H' b c n := by
  obtain ⟨xs, i, d, st, k, a1, a2, a3⟩ := h
  exact ⟨xs, i, d, st, k, e _ _ (ins_ne hp a1) n2 a1, e _ _ (ins_ne hp a2) n3 a2, a3⟩
theorem newM {M : List Addr} {H : Hp} {x : Addr} (h : ∀ m ∈ M, Mu H m) (hx : H x = none) : x ∉ M := fun m => (h x m).ne hx
/-- the list of states -/
def SLt (M : List Addr) (H : Hp) (S : Addr) (all : List PS) : Prop := ∃ Ts : List Addr, At M H S (.lst (Ts.map V.ref)) ∧ Sts M H Ts all
theorem SLt.but {M : List Addr} {H H' : Hp} {S : Addr} {all : List PS} (h : SLt M H S all) (e : ButM M H H') : SLt M H' S all := let ⟨Ts, a, b⟩ := h; ⟨Ts, a.but e, b.but e⟩
def sp_lstp (C T : Addr) : Sp := fun vs H Q _ => ∃ (M : List Addr) (j c p bl S : Addr) (n s m : Nat) (sts : List PS) (cur : PS), vs = [V.ref j, .ref p, .ref S, .int m] ∧ Bg H j c n ∧ n ≤ 600000 ∧ j ∈ M ∧ p ≠ j ∧ bl ≠ j ∧ c ≠ bl ∧ (∀ m ∈ M, Mu H m) ∧ PotS C M H p bl s sts cur ∧ SLt M H S (sts ++ [cur]) ∧ sts.length ≤ 500 ∧ (∀ st ∈ sts ++ [cur], Vst m st) ∧ 1 ≤ m ∧ m ≤ 8 ∧ H T = some (TabO T) ∧
  ∀ H' S' sts' cur', B3 j p bl H H' → Fre H H' → Bg H' j c (n + 1000) → PotS C M H' p bl s sts' cur' → SLt M H' S' (sts' ++ [cur']) → sts'.length ≤ sts.length + 1 → (∀ st ∈ sts' ++ [cur'], Vst m st) → Q (.ref S') H'
theorem At.sub {M : List Addr} {H : Hp} {q x : Addr} {o : HO} (h : At (x :: M) H q o) : At M H q o := ⟨h.1, fun m => h.2 (List.mem_cons_of_mem _ m)⟩
theorem TuO.sub {M : List Addr} {H : Hp} {x y : Addr} {p : Nat × Int × Int} (h : TuO (y :: M) H x p) : TuO M H x p := let ⟨kt, a, b⟩ := h.ex; ⟨⟨kt, a.sub, b.sub⟩⟩
theorem Tus.sub {M : List Addr} {H : Hp} {as : List Addr} {y : Addr} {past : List (Nat × Int × Int)} (h : Tus (y :: M) H as past) : Tus M H as past := ⟨h.1, fun i x p h1 h2 => (h.2 i x p h1 h2).sub⟩
theorem StO.sub {M : List Addr} {H : Hp} {t c pl x : Addr} {st : PS} (h : StO (x :: M) H t c pl st) : StO M H t c pl st := ⟨h.t.sub, h.c.sub, let ⟨as, a, b⟩ := h.p; ⟨as, a.sub, b.sub⟩⟩
theorem StT.sub {M : List Addr} {H : Hp} {T x : Addr} {st : PS} (h : StT (x :: M) H T st) : StT M H T st := let ⟨t, c, pl, a, b⟩ := h.ex; ⟨⟨t, c, pl, a.sub, b.sub⟩⟩
theorem Sts.sub {M : List Addr} {H : Hp} {Ts : List Addr} {x : Addr} {sts : List PS} (h : Sts (x :: M) H Ts sts) : Sts M H Ts sts := ⟨h.1, fun i T st h1 h2 => (h.2 i T st h1 h2).sub⟩
theorem SLt.sub {M : List Addr} {H : Hp} {S x : Addr} {sts : List PS} (h : SLt (x :: M) H S sts) : SLt M H S sts := let ⟨Ts, a, b⟩ := h; ⟨Ts, a.sub, b.sub⟩
theorem SLt.ext {M : List Addr} {H : Hp} {S x : Addr} {sts : List PS} (h : SLt M H S sts) (hx : H x = none) : SLt (x :: M) H S sts := let ⟨Ts, a, b⟩ := h; ⟨Ts, a.ext hx, b.ext hx⟩
theorem PotS.sub {C : Addr} {M : List Addr} {H : Hp} {p bl x : Addr} {s : Nat} {sts : List PS} {cur : PS} (h : PotS C (x :: M) H p bl s sts cur) (pm : p ∈ M) (bm : bl ∈ M) : PotS C M H p bl s sts cur :=
  ⟨let ⟨dx, t, c, pl, Ts, a1, a2, a3, a4⟩ := h.ex; ⟨dx, t, c, pl, Ts, a1, a2.sub, a3, a4.sub⟩, pm, bm⟩
theorem same_free' {H H' : Hp} (e : Same H H') {x : Addr} (h : H' x = none) : H x = none := by
  cases q : H x with
  | none => rfl
  | some o => rw [e _ _ q] at h; cases h
theorem snoc_states {M : List Addr} {H : Hp} {T l S' t c pl : Addr} {Ts : List Addr} {all : List PS} {st : PS} (hM : ∀ m ∈ M, Mu H m) (hTs : Sts M H Ts all) (hst : StO M H t c pl st) (nT : H T = none) (nl : L2.upd H T (.tup [.ref t, .ref c, .ref pl]) l = none) (nS : L2.upd (L2.upd H T (.tup [.ref t, .ref c, .ref pl])) l (.lst [.ref T]) S' = none) :
    Same H (L2.upd (L2.upd (L2.upd H T (.tup [.ref t, .ref c, .ref pl])) l (.lst [.ref T])) S' (.lst (Ts.map V.ref ++ [.ref T]))) ∧ SLt M (L2.upd (L2.upd (L2.upd H T (.tup [.ref t, .ref c, .ref pl])) l (.lst [.ref T])) S' (.lst (Ts.map V.ref ++ [.ref T]))) S' (all ++ [st]) := by
  have s1 := sameN (o := .tup [.ref t, .ref c, .ref pl]) nT
  have hT : L2.upd H T (.tup [.ref t, .ref c, .ref pl]) T = some (.tup [.ref t, .ref c, .ref pl]) := upd_same
  generalize L2.upd H T (.tup [.ref t, .ref c, .ref pl]) = H1 at *
  have s2 := sameN (o := .lst [.ref T]) nl
  generalize L2.upd H1 l (.lst [.ref T]) = H2 at *
  have s3 := sameN (o := .lst (Ts.map V.ref ++ [.ref T])) nS
  have s13 := (s1.trans s2).trans s3
  refine ⟨s13, Ts ++ [T], ⟨by rw [upd_same, List.map_append]; rfl, newM hM (same_free' (s1.trans s2) nS)⟩, (hTs.but (ButM.of s13)).snoc ⟨⟨t, c, pl, ⟨(s2.trans s3) _ _ hT, newM hM nT⟩, hst.but (ButM.of s13)⟩⟩⟩
theorem Tus.snoc {M : List Addr} {H : Hp} {as : List Addr} {past : List (Nat × Int × Int)} {x : Addr} {p : Nat × Int × Int} (h : Tus M H as past) (g : TuO M H x p) : Tus M H (as ++ [x]) (past ++ [p]) := h.app ⟨rfl, fun i y q h1 h2 => by
  cases i with
  | zero => cases h1; cases h2; exact g
  | succ i => cases h1⟩
theorem ite_dup' {c : Bool} {A B : Prop} (h : c = true) (a : A) : if c = true then A else B := by rw [if_pos h]; exact a
theorem slice_take (Ts : List Addr) (i : Nat) : cutV (Ts.map V.ref) none (some ((i : Int) + 1)) = (Ts.take (i + 1)).map V.ref := by
  rw [show ((i : Int) + 1) = ((i + 1 : Nat) : Int) by omega, cut_take, List.map_take]

theorem ok__law_step {f : Addr} {fd : FuncData}  (F : Fun K "_law_step" "_law_step" s__law_step f fd) (B : Bl mg) {C : Addr} (KL : Kls K mg "Pot" C) (NA : PNA K C) {T : Addr} (C__law_draw : Cal P w K mg base 2 "_law_draw" ["bag", "wide"] sp_draw) (C__law_held : Cal P w K mg base 3 "_law_held" ["bag", "most"] sp_held) (C__law_behind : Cal P w K mg base 3 "_law_behind" ["some", "held", "k"] sp_behind) (MW_Pot_top_up : MtK P w K mg base 6 C "top_up" ["self", "liquid"] ["liquid"] [0] (sp_top_up C)) (MW_Pot_pour : MtK P w K mg base 9 C "pour" ["self", "row"] ["row"] [0] (sp_pour C T)) (MW_Pot_keep : MtK P w K mg base 5 C "keep" ["self", "kept"] ["kept"] [0] (sp_keep C)) (MW_Pot_undo_to : MtK P w K mg base 4 C "undo_to" ["self", "index"] ["index"] [0] (sp_undo_to C)) (M_Pot_undo : Mt P w K mg base 1 C "undo" ["self"] (sp_undo C)) : FnOk P w K mg base CX0 12 f fd ["bag", "pot", "states", "many"] (sp_lstp C T) := by
  refine F.ok sc__law_step (fun vs H Q E h => ?_) (fun cdv A outer s H vs Q E hr h => ?_)
  · obtain ⟨M, j, c, p, bl, S, n, s, m, sts, cur, rfl, _⟩ := h; rfl
  · obtain ⟨M, j, c, p, bl, S, n, s, m, sts, cur, rfl, hb, hn7, jM, pj, blj, cbl, hM, hp, hSL, hsl, hvs, m1, m8, gT, q⟩ := h
    have nd := sc__law_step.nd
    refine ⟨_, (pss_cons (ps_asg (pe_ix ix_list (pv 2) (pe_un un_neg pe_int) (fun _ _ => rfl)) (pg_tup (by rfl) (pgs_cons (pg_name (i := 4) nd rfl (Or.inr rfl)) (pgs_cons (pg_name (i := 5) nd rfl (Or.inl rfl)) (pgs_cons (pg_name (i := 6) nd rfl (Or.inl rfl)) pgs_nil)))))
      (pss_cons (ps_set (i := 7) nd rfl (Or.inl rfl) (pe_ifExp (pt_cmpR op_lt (pe_callB call_len_seq (by rfl) B.len PySem.boot_len (pa_cons (pv 6) pa_nil)) pe_int (nomark _)) (pe_cal C__law_draw (hr.mono (by decide)) (pa_cons (pv 0) (pa_cons pe_int pa_nil))) pe_int))
      (pss_cons (ps_if (pt_cmpR op_lt (pv 7) pe_int (nomark _))
      (pss_cons (ps_set (i := 8) nd rfl (Or.inl rfl) (pe_cal C__law_draw (hr.mono (by decide)) (pa_cons (pv 0) (pa_cons (pv 3) pa_nil))))
      (pss_cons (ps_expr (pe_mtK KL.cl MW_Pot_top_up (hr.mono (by decide)) (pv 1) (pk_cons (pv 8) pk_nil)))
      (pss_one (ps_ret (pe_op op_cat (pv 2) (pe_lst (pa_cons (pe_tup (pa_cons (pv 4) (pa_cons (pe_cal C__law_behind (hr.mono (by decide)) (pa_cons (pv 5) (pa_cons (pv 4) (pa_cons (pv 8) pa_nil)))) (pa_cons (pe_op op_cat (pv 6) (pe_lst (pa_cons (pe_tup (pa_cons (pv 8) (pa_cons (pv 4) pa_nil))) pa_nil))) pa_nil)))) pa_nil))))))) pss_nil)
      (pss_cons (ps_if (pt_cmpR op_eq (pv 7) pe_int (nomark _))
      (pss_cons (ps_setLc (i := 9) (own := [("k", 8)]) (g := gName 8) rfl nd rfl rfl (sw_true rfl rfl rfl (by decide +kernel)) (pi_range1 rfl B.range (pa_cons (pe_ifExp (pt_cmpR op_lt (pe_callB call_len_seq (by rfl) B.len PySem.boot_len (pa_cons (pv 6) pa_nil)) pe_int (nomark _)) (pe_cal C__law_draw (hr.mono (by decide)) (pa_cons (pv 0) (pa_cons pe_int pa_nil))) pe_int) pa_nil)) (blkOk_by (own := [("k", 8)]) (N := ["bag", "pot", "states", "many", "held", "some", "past", "way", "k", "rest", "used", "other", "left"]) (sc := defScope s__law_step) (by decide +kernel)) (fun _ _ _ _ _ => (pg_name (i := 8) nd rfl (Or.inl rfl))) (fun _ _ _ _ _ => pts_nil) (fun _ _ _ _ _ => (pe_cal C__law_draw (hr.mono (by decide)) (pa_cons (pv 0) (pa_cons (pv 3) pa_nil)))))
      (pss_cons (ps_set (i := 10) nd rfl (Or.inl rfl) (pe_callTy call_list_of (by rfl) B.list (by decide +kernel) (pa_cons (pv 9) pa_nil)))
      (pss_cons (ps_expr (pe_mtK KL.cl MW_Pot_pour (hr.mono (by decide)) (pv 1) (pk_cons (pv 9) pk_nil)))
      (pss_cons (ps_if (pt_cmpR (op_neD hr.units) (pv 9) (pv 10) (nomark _))
      (pss_one (ps_ret (pe_lst (pa_cons (pe_tup (pa_cons (pv 4) (pa_cons (pe_lst pa_nil) (pa_cons (pe_lst pa_nil) pa_nil)))) pa_nil)))) pss_nil)
      (pss_cons (ps_expr (pe_bm PySem.F.plainAttrs_list PySem.F.slot_list_append PySem.F.type_list_append mt_append (pv 9) (pa_cons pe_int pa_nil)))
      (pss_cons (ps_for PassesOwn.never rfl (pi_list (pv 10)) (pg_name (i := 8) nd rfl (Or.inl rfl)) (pss_one (ps_set (i := 5) nd rfl (Or.inl rfl) (pe_cal C__law_behind (hr.mono (by decide)) (pa_cons (pv 5) (pa_cons (pv 4) (pa_cons (pv 8) pa_nil)))))))
      (pss_one (ps_ret (pe_op op_cat (pv 2) (pe_lst (pa_cons (pe_tup (pa_cons (pv 4) (pa_cons (pv 5) (pa_cons (pe_op op_cat (pv 6) (pe_lc (own := [("k", 8)]) (g := gName 8) rfl nd (pi_list (pv 10)) (blkOk_by (own := [("k", 8)]) (N := ["bag", "pot", "states", "many", "held", "some", "past", "way", "k", "rest", "used", "other", "left"]) (sc := defScope s__law_step) (by decide +kernel)) (fun _ _ _ _ _ => (pg_name (i := 8) nd rfl (Or.inl rfl))) (fun _ _ _ _ _ => pts_nil) (fun _ _ _ _ _ => (pe_tup (pa_cons (pv 8) (pa_cons (pv 4) pa_nil)))))) pa_nil)))) pa_nil))))))))))) pss_nil)
      (pss_cons (ps_if (pt_cmpR op_lt (pv 7) pe_int (nomark _))
      (pss_cons (ps_set (i := 11) nd rfl (Or.inl rfl) (pe_cal C__law_held (hr.mono (by decide)) (pa_cons (pv 0) (pa_cons (pe_ix ix_list (pe_lst (pa_cons pe_int (pa_cons pe_int pa_nil))) (pe_cal C__law_draw (hr.mono (by decide)) (pa_cons (pv 0) (pa_cons pe_int pa_nil))) (fun _ _ => rfl)) pa_nil))))
      (pss_cons (ps_expr (pe_mtK KL.cl MW_Pot_keep (hr.mono (by decide)) (pv 1) (pk_cons (pv 11) pk_nil)))
      (pss_one (ps_ret (pe_op op_cat (pv 2) (pe_lst (pa_cons (pe_tup (pa_cons (pv 11) (pa_cons (pv 5) (pa_cons (pv 6) pa_nil)))) pa_nil))))))) pss_nil)
      (pss_cons (ps_if (PW.pt (pw_and (pt_cmpR op_eq (pv 7) pe_int (nomark _)) (pw_and1 (pt_cmpR op_gt (pe_callB call_len_seq (by rfl) B.len PySem.boot_len (pa_cons (pv 2) pa_nil)) pe_int (nomark _)))))
      (pss_cons (ps_set (i := 12) nd rfl (Or.inl rfl) (pe_cal C__law_draw (hr.mono (by decide)) (pa_cons (pv 0) (pa_cons (pe_callB call_len_seq (by rfl) B.len PySem.boot_len (pa_cons (pv 2) pa_nil)) pa_nil))))
      (pss_cons (ps_expr (pe_mtK KL.cl MW_Pot_undo_to (hr.mono (by decide)) (pv 1) (pk_cons (pv 12) pk_nil)))
      (pss_one (ps_ret (pe_slice sl_list (pv 2) po_none (po_some (pe_op op_add (pv 12) pe_int))))))) pss_nil)
      (pss_cons (ps_if (pt_cmpR op_gt (pe_callB call_len_seq (by rfl) B.len PySem.boot_len (pa_cons (pv 2) pa_nil)) pe_int (nomark _))
      (pss_cons (ps_expr (pe_mt0 KL.cl M_Pot_undo (hr.mono (by decide)) (pv 1)))
      (pss_one (ps_ret (pe_slice sl_list (pv 2) po_none (po_some (pe_un un_neg pe_int)))))) pss_nil)
      (pss_one (ps_ret (pv 2)))))))))), ?_⟩
    obtain ⟨dx, t, cc, pl, Tp, h1, h2, h3, h4⟩ := id hp.ex
    obtain ⟨Ts', hS, hTs⟩ := id hSL
    have hv : Vst m cur := hvs cur (List.mem_append_right _ (List.mem_singleton.mpr rfl))
    have hz := hv.z7
    have hz7 : cur.ns.sum < 2 ^ 7000 := Int.lt_of_lt_of_le hz (two_le (by decide))
    have hn60 := hv.n
    obtain ⟨Ts0, TT, eT⟩ : ∃ Ts0 T, Ts' = Ts0 ++ [T] := by
      have hne : Ts' ≠ [] := fun e => by have := hTs.1; rw [e, List.length_append] at this; simp at this
      exact ⟨Ts'.dropLast, Ts'.getLast hne, (List.dropLast_concat_getLast hne).symm⟩
    have hl0 : Ts0.length = sts.length := by have := hTs.1; rw [eT, List.length_append, List.length_append] at this; simpa using this
    have hTT : StT M H TT cur := hTs.2 sts.length TT cur (by rw [eT, ← hl0]; exact snoc_at _ _) (snoc_at _ _)
    have hls : Ts'.length = sts.length + 1 := by rw [hTs.1, List.length_append]; rfl
    obtain ⟨tt, ct, plt, hT, hO⟩ := hTT.ex
    obtain ⟨ast, at1, at2⟩ := id hO.p
    refine ⟨.ref S, rfl, 1, rfl, S, _, -1, _, rfl, rfl, SqL.of hS.1, by rw [eT, List.map_append]; exact atI_last _ _, ?_⟩
    refine ⟨TT, _, rfl, SqT.of hT.1, rfl, _, _, rfl, _, _, rfl, _, _, rfl, rfl, ?_⟩
    refine (fun (tail : ∀ (way : Int) (G : Hp), But j H G → Fre H G → Bg G j c (n + 30) → 0 ≤ way → way ≤ 8 → (way < 8 → cur.past.length < 58) → (?T : Int → Hp → Prop) way G) => ?main) ?tl
    case main =>
      refine ⟨.ref plt, rfl, plt, _, rfl, .inl (SqL.of at1.1), _, _, rfl, rfl, _, rfl, ?_⟩
      rw [List.length_map, at2.1]
      by_cases hp8 : cur.past.length < 58
      · rw [decide_eq_true (by omega)]
        refine iteT ⟨.ref j, rfl, j, c, 9, _, rfl, hb, by omega, by decide, by decide +kernel, fun way G u f bb w0 w1 => ?_⟩
        exact tail way G u f bb w0 (by omega) (fun _ => hp8)
      · rw [decide_eq_false (by omega)]
        refine iteF ?_
        exact tail 8 H (fun _ _ _ e => e) (fun _ e => e) (hb.le (by omega)) (by decide) (by decide) (fun z => absurd z (by decide))
    case tl =>
      intro way G uG fG bG w0 w8 wp
      have sN : ∀ {y : Addr} {o : HO}, y ≠ j → H y = some o → G y = some o := fun hy e => uG _ _ hy e
      have ctj : ct ≠ j := fun e => hO.c.2 (e ▸ jM)
      have pltj : plt ≠ j := fun e => at1.2 (e ▸ jM)
      have ttj : tt ≠ j := fun e => hO.t.2 (e ▸ jM)
      have Sj : S ≠ j := fun e => hS.2 (e ▸ jM)
      have mG : ButM M H G := fun x o hx e => uG x o (fun z => hx (z ▸ jM)) e
      have hpG := hp.keep mG (fun o e => uG _ _ pj e) (fun o e => uG _ _ blj e)
      have h1G := uG _ _ pj h1
      have hMG := mus hM (B3.j (p := p) (bl := bl) uG) hpG bG
      have hTsG := hTs.but mG
      have hSG := hS.but mG
      have hOG := hO.but mG
      have at1G := at1.but mG
      have at2G := at2.but mG
      have gTG : G T = some (TabO T) := uG _ _ (fun e => by obtain ⟨ys, z⟩ := hb.lst; rw [← e, gT] at z; cases z) gT
      have b3G : B3 j p bl H G := B3.j uG
      clear h2 h3 h4
      refine ⟨.int way, rfl, _, _, rfl, rfl, _, rfl, ?_⟩
      by_cases w3 : way < 3
      · rw [decide_eq_true w3]
        refine iteT ?_
        refine ⟨.ref j, rfl, .int (m : Nat), rfl, j, c, m, _, rfl, bG, by omega, by omega, Int.lt_of_le_of_lt (show (m : Int) ≤ 8 by omega) (by decide +kernel), fun kI G1 u1 f1 b1 k0 k1 => ?_⟩
        obtain ⟨k, rfl⟩ := Int.eq_ofNat_of_zero_le k0
        have hkm : k < m := by omega
        have hp58 := wp (by omega)
        have m1' : ButM M G G1 := fun x o hx e => u1 x o (fun z => hx (z ▸ jM)) e
        have hp1 := hpG.keep m1' (fun o e => u1 _ _ pj e) (fun o e => u1 _ _ blj e)
        have hM1 := mus hMG (B3.j (p := p) (bl := bl) u1) hp1 b1
        refine ⟨.ref p, rfl, p, dx, _, rfl, u1 _ _ pj h1G, lk_top_up, .int (k : Nat), rfl, rfl, M, p, bl, s, sts, cur, k, rfl, hp1, hM1, by omega, by omega, hv.row1 (cs := [k]) (fun c hc => by rw [List.mem_singleton.mp hc]; exact hkm) (by show 1 ≤ 60; decide), hz7, fun G2 g1 g2 g3 => ?_⟩
        have b32 : B3 j p bl H G2 := (b3G.trans (B3.j u1)).trans (B3.p g2)
        have mG2 := b32.m jM hp.pm hp.bm
        have b2 : Bg G2 j c (n + 60) := (b1.b2 g2 (u1 _ _ pj h1G) (Ne.symm blj) cbl).le (by omega)
        have fr2 : Fre H G2 := fun x hx => fG _ (f1 _ (g3 _ hx))
        have hM2 := mus hM b32 g1 b2
        have hO2 := hO.but mG2
        have a12 := at1.but mG2
        have a22 := at2.but mG2
        refine ⟨.ref S, rfl, .ref tt, rfl, .ref ct, rfl, .ref tt, rfl, .int (k : Nat), rfl, ct, tt, cur.ns, cur.a, cur.b, k, rfl, hO2.c.1, hv.c, hO2.t.1, hv.k, by rw [hv.l]; exact hkm, Int.lt_of_lt_of_le hz (two_le (by decide)), fun q3 G3 s3 n3 l3 => ?_⟩
        refine ⟨.ref plt, rfl, .int (k : Nat), rfl, .ref tt, rfl, by show 2 ≤ 16777216; decide, fun t1 nt1 => ?_⟩
        have s4 := sameN (o := .tup [.int (k : Nat), .ref tt]) nt1
        have ht1 : L2.upd G3 t1 (.tup [.int (k : Nat), .ref tt]) t1 = some (.tup [.int (k : Nat), .ref tt]) := upd_same
        generalize L2.upd G3 t1 (.tup [.int (k : Nat), .ref tt]) = G4 at *
        refine ⟨by show 1 ≤ 16777216; decide, fun l1 nl1 => ?_⟩
        have s5 := sameN (o := .lst [.ref t1]) nl1
        have hl1 : L2.upd G4 l1 (.lst [.ref t1]) l1 = some (.lst [.ref t1]) := upd_same
        generalize L2.upd G4 l1 (.lst [.ref t1]) = G5 at *
        have s35 := (s3.trans s4).trans s5
        refine ⟨plt, l1, _, _, rfl, rfl, s35 _ _ a12.1, hl1, by rw [List.length_map, at2.1]; show _ ≤ 16777216; rw [List.length_singleton]; omega, fun l2 nl2 => ?_⟩
        have s6 := sameN (o := .lst (ast.map V.ref ++ [.ref t1])) nl2
        have hl2 : L2.upd G5 l2 (.lst (ast.map V.ref ++ [.ref t1])) l2 = some (.lst (ast.map V.ref ++ [.ref t1])) := upd_same
        generalize L2.upd G5 l2 (.lst (ast.map V.ref ++ [.ref t1])) = G6 at *
        have s36 := s35.trans s6
        have hM6 : ∀ x ∈ M, Mu G6 x := fun x hx => (hM2 x hx).same s36
        have st6 : StO M G6 tt q3 l2 ⟨cur.a, cur.b, Ma.step cur.ns cur.a cur.b k, cur.past ++ [(k, cur.a, cur.b)]⟩ := by
          refine ⟨hO2.t.but (ButM.of s36), ⟨((s4.trans s5).trans s6) _ _ l3, newM hM2 n3⟩, ast ++ [t1], ⟨by rw [hl2, List.map_append]; rfl, newM hM2 (same_free' s35 nl2)⟩, (a22.but (ButM.of s36)).snoc ⟨⟨tt, ⟨(s5.trans s6) _ _ ht1, newM hM2 (same_free' s3 nt1)⟩, hO2.t.but (ButM.of s36)⟩⟩⟩
        refine ⟨by show 3 ≤ 16777216; decide, fun T3 nT3 => ?_⟩
        refine ⟨by show 1 ≤ 16777216; decide, fun l4 nl4 => ?_⟩
        have hS6 := (hS.but mG2).but (ButM.of s36)
        refine ⟨S, l4, Ts'.map V.ref, [.ref T3], rfl, rfl, ?_, upd_same, by rw [List.length_map, hls]; show _ ≤ 16777216; rw [List.length_singleton]; omega, fun S' nS' => ?_⟩
        · exact (sameN nl4) _ _ ((sameN nT3) _ _ hS6.1)
        obtain ⟨z1, z2⟩ := snoc_states hM6 ((hTs.but mG2).but (ButM.of s36)) st6 nT3 nl4 nS'
        have sZ := s36.trans z1
        have e1 : cur.behind [k] = ⟨cur.a, cur.b, Ma.step cur.ns cur.a cur.b k, cur.past ++ [(k, cur.a, cur.b)]⟩ := PS.behind_eq _ _
        rw [e1] at g1
        refine q _ S' (sts ++ [cur]) _ (b32.trans (B3.s sZ)) (fun x hx => fr2 _ (same_free' sZ hx)) ((b2.keep sZ).le (by omega)) (g1.same sZ) z2 (by rw [List.length_append]; exact Nat.le_refl _) (fun st hst => ?_)
        rcases List.mem_append.mp hst with h | h
        · exact hvs st h
        · rw [List.mem_singleton.mp h]
          exact hv.step hkm (by omega)
      rw [decide_eq_false w3]
      refine iteF ⟨.int way, rfl, rfl, _, rfl, ?_⟩
      by_cases we3 : way = 3
      · rw [decide_eq_true (by rw [we3])]
        have hp58 := wp (by omega)
        refine iteT ?_
        refine (fun (tail2 : ∀ (z : Int) (G1 : Hp), But j G G1 → Fre G G1 → Bg G1 j c (n + 60) → 0 ≤ z → z ≤ 8 → cur.past.length + z ≤ 59 → (?T52 : Int → Hp → Prop) z G1) => ?main2) ?tl2
        case main2 =>
          refine ⟨.ref plt, rfl, plt, _, rfl, .inl (SqL.of at1G.1), _, _, rfl, rfl, _, rfl, ?_⟩
          rw [List.length_map, at2.1]
          by_cases hp3 : cur.past.length < 30
          · rw [decide_eq_true (by omega)]
            refine iteT ⟨.ref j, rfl, j, c, 9, _, rfl, bG, by omega, by decide, by decide +kernel, fun z G1 u1 f1 b1 z0 z1 => ?_⟩
            exact tail2 z G1 u1 f1 (b1.le (by omega)) z0 (by omega) (by omega)
          · rw [decide_eq_false (by omega)]
            refine iteF ?_
            exact tail2 1 G (fun _ _ _ e => e) (fun _ e => e) (bG.le (by omega)) (by decide) (by decide) (by omega)
        case tl2 =>
          intro z G1 u1 f1 b1 z0 z8 zp
          obtain ⟨z, rfl⟩ := Int.eq_ofNat_of_zero_le z0
          refine ⟨z, rfl, by omega, by omega, fun R nR => ?_⟩
          rw [Int.toNat_natCast]
          refine lc_range (lo := 0) (n := z) (fun k H' => ∃ cs : List Nat, cs.length = k ∧ (∀ x ∈ cs, x < m) ∧ H' R = some (.lst ((rowI cs).map V.int)) ∧ But j G1 H' ∧ Fre G1 H' ∧ Bg H' j c (n + 60 + 30 * k)) ⟨[], rfl, (fun x hx => by cases hx), upd_same, But.of (sameN nR), Fre.of (sameN nR), (b1.keep (sameN nR)).le (by omega)⟩ (fun k H' hk ⟨cs, c1, c2, c3, c4, c5, c6⟩ => ?_) (fun G2 ⟨cs, c1, c2, c3, c4, c5, c6⟩ => ?_)
          · refine ⟨rfl, .ref j, rfl, .int (m : Nat), rfl, j, c, m, _, rfl, c6, by omega, by omega, Int.lt_of_le_of_lt (show (m : Int) ≤ 8 by omega) (by decide +kernel), fun d H2 u f bb d0 d1 => ?_⟩
            obtain ⟨dn, rfl⟩ := Int.eq_ofNat_of_zero_le d0
            have Rj : R ≠ j := b1.ne nR
            have hR2 := u _ _ Rj c3
            refine ⟨_, hR2, by rw [List.length_map, rowI_len]; show _ < 16777216; omega, cs ++ [dn], by rw [List.length_append, List.length_singleton]; omega, fun x hx => ?_, ?_, fun q o hq e => ?_, fun x hx => ?_, ?_⟩
            · rcases List.mem_append.mp hx with h | h
              · exact c2 x h
              · rw [List.mem_singleton.mp h]; omega
            · rw [upd_same]
              unfold rowI
              rw [List.map_append, List.map_append]
              rfl
            · rw [upd_ne (ne_of_none e nR)]
              exact u _ _ hq (c4 _ _ hq e)
            · by_cases hxR : x = R
              · rw [hxR]; exact nR
              · rw [upd_ne hxR] at hx; exact c5 _ (f _ hx)
            · obtain ⟨ys, ii, dd, st, k', a1, a2, a3, a4, a5, a6, a7, a8, a9, a10, a11⟩ := bb
              obtain ⟨xs7, _, _, _, _, _, lc7, _⟩ := b1
              refine ⟨ys, ii, dd, st, k', ?_, ?_, a3, a4, a5, a6, a7, a8, a9, a10, by omega⟩
              · rw [upd_ne (Ne.symm Rj)]; exact a1
              · show L2.upd H2 R _ c = _
                rw [upd_ne (ne_of_none lc7 nR)]; exact a2
          have Rj : R ≠ j := b1.ne nR
          have hpR : PotS C (R :: M) G2 p bl s sts cur := ((hpG.keep (fun x o hx e => u1 x o (fun z => hx (z ▸ jM)) e) (fun o e => u1 _ _ pj e) (fun o e => u1 _ _ blj e)).ext nR).keep (fun x o hx e => c4 x o (fun z => hx (List.mem_cons_of_mem _ (z ▸ jM))) e) (fun o e => c4 _ _ pj e) (fun o e => c4 _ _ blj e)
          have u2 : But j G G2 := u1.trans c4
          have f2 : Fre G G2 := fun x hx => f1 _ (c5 _ hx)
          have b2 := c6.le (m := n + 300) (by omega)
          have nRH : H R = none := fG _ (f1 _ nR)
          have cl : cs.length ≤ 8 := by omega
          clear c4 c5 c6 u1 f1 b1
          have mG2 : ButM M G G2 := fun x o hx e => u2 x o (fun z => hx (z ▸ jM)) e
          have hp2 := hpG.keep mG2 (fun o e => u2 _ _ pj e) (fun o e => u2 _ _ blj e)
          have hM2 := mus hMG (B3.j (p := p) (bl := bl) u2) hp2 b2
          refine ⟨.ref R, rfl, R, _, rfl, .inl (SqL.of c3), fun U nU => ?_⟩
          have sU := sameN (o := .lst ((rowI cs).map V.int)) nU
          have hU : L2.upd G2 U (.lst ((rowI cs).map V.int)) U = some (.lst ((rowI cs).map V.int)) := upd_same
          generalize L2.upd G2 U (.lst ((rowI cs).map V.int)) = G3 at *
          have hR3 := sU _ _ c3
          have h13 := sU _ _ (u2 _ _ pj h1G)
          have gT3 : G3 T = some (TabO T) := sU _ _ (u2 _ _ (fun e => by obtain ⟨ys, z⟩ := hb.lst; rw [← e, gT] at z; cases z) gTG)
          refine ⟨.ref p, rfl, p, dx, _, rfl, h13, lk_pour, .ref R, rfl, rfl, R :: M, p, bl, R, s, sts, cur, cs, rfl, hpR.same sU, (fun x hx => by
            rcases List.mem_cons.mp hx with e | hx
            · rw [e]; exact .inr ⟨_, hR3⟩
            · exact (hM2 x hx).same sU), by omega, by omega, hR3, hv.row1 c2 (by omega), hz7, gT3, fun G4 g1 g2 g3 => ?_⟩
          have b34 : B3 j p bl H G4 := ((b3G.trans (B3.j u2)).trans (B3.s sU)).trans (B3.p g2)
          have mG4 := b34.m jM hp.pm hp.bm
          have b4 := (b2.keep sU).b2 g2 h13 (Ne.symm blj) cbl
          have fr4 : Fre H G4 := fun x hx => fG _ (f2 _ (same_free' sU (g3 _ hx)))
          have hM4 := mus hM b34 (g1.sub hp.pm hp.bm) b4
          have RM : R ∉ M := newM hM nRH
          have UM : U ∉ M := newM hM (fG _ (f2 _ nU))
          have hR4 : G4 R = some (.lst ((rowI cs).map V.int)) := g2 _ _ (fun e => RM (e ▸ hp.pm)) (fun e => RM (e ▸ hp.bm)) hR3
          have hU4 : G4 U = some (.lst ((rowI cs).map V.int)) := g2 _ _ (fun e => UM (e ▸ hp.pm)) (fun e => UM (e ▸ hp.bm)) hU
          refine ⟨.ref R, rfl, .ref U, rfl, _, _, dp_li hR4, dp_li hU4, shaped_ints _, shaped_ints _, _, rfl, ?_⟩
          rw [eqv_ints]
          refine iteF ⟨.ref R, rfl, .inl ⟨rfl, _, .inl (.inl hR4)⟩, R, _, .int 0, rfl, rfl, hR4, by rw [List.length_map, rowI_len]; show _ < 16777216; omega, ?_⟩
          have RU : U ≠ R := Ne.symm (ne_of_none c3 nU)
          have k5 : ∀ x o, x ≠ R → G4 x = some o → L2.upd G4 R (.lst ((rowI cs).map V.int ++ [.int 0])) x = some o := fun x o hx e => by rw [upd_ne hx]; exact e
          have fr5 : Fre H (L2.upd G4 R (.lst ((rowI cs).map V.int ++ [.int 0]))) := fun x hx => by
            by_cases e : x = R
            · rw [e]; exact nRH
            · rw [upd_ne e] at hx; exact fr4 _ hx
          have s5 : B3 j p bl H (L2.upd G4 R (.lst ((rowI cs).map V.int ++ [.int 0]))) := fun x o a1 a2 a3 e => k5 _ _ (ne_of_none e nRH) (b34 _ _ a1 a2 a3 e)
          have b5 : Bg (L2.upd G4 R (.lst ((rowI cs).map V.int ++ [.int 0]))) j c (n + 300) := by
            obtain ⟨ys, ii, dd, st, k', a1, a2, a3⟩ := b4
            obtain ⟨ys0, _, _, _, _, _, lc0, _⟩ := hb
            exact ⟨ys, ii, dd, st, k', k5 _ _ (Ne.symm Rj) a1, k5 _ _ (ne_of_none lc0 nRH) a2, a3⟩
          have g5 : PotS C M (L2.upd G4 R (.lst ((rowI cs).map V.int ++ [.int 0]))) p bl s (sts ++ [cur]) (cur.behind cs) := (g1.keep (fun x o hx e => k5 _ _ (fun z => hx (z ▸ List.mem_cons_self)) e) (fun o e => k5 _ _ (fun z => RM (z ▸ hp.pm)) e) (fun o e => k5 _ _ (fun z => RM (z ▸ hp.bm)) e)).sub hp.pm hp.bm
          have hU5 := k5 _ _ RU hU4
          have hM5 := mus hM s5 g5 b5
          have mG5 := s5.m jM hp.pm hp.bm
          have hO5 := hO.but mG5
          have hR6 : True := trivial
          generalize L2.upd G4 R (.lst ((rowI cs).map V.int ++ [.int 0])) = G5 at *
          clear k5 g1 g2 g3 b34 mG4 b4 fr4 hM4 hR4 hU4 hR3 hU h13 gT3 hp2 hM2 hpR c3 sU mG2 b2 f2 u2
          have tk : ∀ i, Vst m ⟨cur.a, cur.b, (cs.take i).foldl (fun x c => Ma.step x cur.a cur.b c) cur.ns, cur.past ++ (cs.take i).map fun c => (c, cur.a, cur.b)⟩ := fun i => Vst.row _ hv (fun x hx => c2 x (List.mem_of_mem_take hx)) (by rw [List.length_take]; omega)
          refine ⟨.ref U, rfl, U, rfl, ⟨_, SqL.of hU5⟩, for_list (xs := (rowI cs).map V.int) (fun i σ G => ∃ x y8, σ = [some (.ref j), some (.ref p), some (.ref S), some (.int (m : Nat)), some (.ref tt), some (.ref x), some (.ref plt), some (.int way), y8, some (.ref R), some (.ref U), none, none] ∧ Same G5 G ∧ x ∉ M ∧ LI G x ((cs.take i).foldl (fun x c => Ma.step x cur.a cur.b c) cur.ns)) ⟨ct, _, rfl, fun _ _ e => e, hO5.c.2, hO5.c.1⟩ (fun i σ G _ ⟨_, _, _, e, _⟩ => SqL.of (e _ _ hU5)) (fun i y σ G hx ⟨x, y8, e1, e2, e3, e4⟩ => ?_) (fun σ G ⟨x, y8, e1, e2, e3, e4⟩ => ?_)⟩
          · subst e1
            obtain ⟨k, hkx, rfl⟩ : ∃ k, cs[i]? = some k ∧ y = V.int (k : Nat) := by
              unfold rowI at hx
              rw [List.map_map, List.getElem?_map] at hx
              cases e : cs[i]? with
              | none => rw [e] at hx; cases hx
              | some k => rw [e] at hx; exact ⟨k, rfl, (Option.some.inj hx).symm⟩
            have vi := tk i
            refine ⟨.ref x, rfl, .ref tt, rfl, .int (k : Nat), rfl, x, tt, _, cur.a, cur.b, k, rfl, e4, vi.c, e2 _ _ hO5.t.1, hv.k, by have := vi.l; rw [this]; exact c2 k (List.mem_of_getElem? hkx), Int.lt_of_lt_of_le vi.z7 (two_le (by decide)), fun p' H' u np lp => ?_⟩
            refine ⟨p', _, rfl, e2.trans u, newM hM5 (same_free' e2 np), ?_⟩
            rw [List.take_add_one, hkx]
            show LI H' p' ((cs.take i ++ [k]).foldl _ _)
            rw [List.foldl_append]
            exact lp
          subst e1
          rw [List.length_map, rowI_len, List.take_length] at e4
          have vN := tk cs.length
          rw [List.take_length] at vN
          clear tk
          refine ⟨.ref S, rfl, .ref tt, rfl, .ref x, rfl, .ref plt, rfl, ?_⟩
          have hU6 := e2 _ _ hU5
          refine ⟨.ref U, rfl, U, rfl, ⟨_, SqL.of hU6⟩, fun D hD => lc_list (xs := (rowI cs).map V.int) (fun i H' => ∃ ts : List Addr, ts.length = i ∧ Same G H' ∧ H' D = some (.lst (ts.map V.ref)) ∧ Tus M H' ts ((cs.take i).map fun c => (c, cur.a, cur.b))) ⟨[], rfl, sameN hD, upd_same, rfl, fun i x p h1 _ => by cases h1⟩ (fun i H' _ ⟨ts, a1, a2, a3, a4⟩ => SqL.of (a2 _ _ hU6)) (fun i y H' hx ⟨ts, a1, a2, a3, a4⟩ => ?_) (fun H' ⟨ts, a1, a2, a3, a4⟩ => ?_)⟩
          · obtain ⟨k, hkx, rfl⟩ : ∃ k, cs[i]? = some k ∧ y = V.int (k : Nat) := by
              unfold rowI at hx
              rw [List.map_map, List.getElem?_map] at hx
              cases e : cs[i]? with
              | none => rw [e] at hx; cases hx
              | some k => rw [e] at hx; exact ⟨k, rfl, (Option.some.inj hx).symm⟩
            have hi : i < cs.length := (List.getElem?_eq_some_iff.mp hkx).1
            refine ⟨rfl, .int (k : Nat), rfl, .ref tt, rfl, by show 2 ≤ 16777216; decide, fun t1 nt1 => ?_⟩
            have s7 := sameN (o := .tup [.int (k : Nat), .ref tt]) nt1
            have ht1 : L2.upd H' t1 (.tup [.int (k : Nat), .ref tt]) t1 = some (.tup [.int (k : Nat), .ref tt]) := upd_same
            generalize L2.upd H' t1 (.tup [.int (k : Nat), .ref tt]) = H2 at *
            have s8 : Same G (L2.upd H2 D (.lst (ts.map V.ref ++ [.ref t1]))) := fun x o e => by rw [upd_ne (ne_of_none e hD)]; exact (a2.trans s7) _ _ e
            have tD : t1 ≠ D := Ne.symm (ne_of_none a3 nt1)
            have DM : D ∉ M := newM hM5 (same_free' e2 hD)
            have m8 : ∀ x o, x ≠ D → H' x = some o → L2.upd H2 D (.lst (ts.map V.ref ++ [.ref t1])) x = some o := fun x o hx e => by rw [upd_ne hx]; exact s7 _ _ e
            refine ⟨_, s7 _ _ a3, by rw [List.length_map, a1]; show _ < 16777216; omega, ts ++ [t1], by rw [List.length_append, a1]; rfl, s8, by rw [upd_same, List.map_append]; rfl, ?_⟩
            rw [List.take_add_one, hkx, List.map_append]
            have tt8 : At M (L2.upd H2 D (.lst (ts.map V.ref ++ [.ref t1]))) tt (.tup [.int cur.a, .int cur.b]) := ⟨s8 _ _ (e2 _ _ hO5.t.1), hO5.t.2⟩
            refine Tus.snoc ⟨a4.1, fun i x p h1 h2 => ?_⟩ ⟨⟨tt, ⟨by rw [upd_ne tD]; exact ht1, newM hM5 (same_free' (e2.trans a2) nt1)⟩, tt8⟩⟩
            obtain ⟨kt, b1', b2'⟩ := (a4.2 i x p h1 h2).ex
            exact ⟨⟨kt, ⟨m8 _ _ (lstT_ne a3 b1'.1) b1'.1, b1'.2⟩, ⟨m8 _ _ (lstT_ne a3 b2'.1) b2'.1, b2'.2⟩⟩⟩
          rw [List.length_map, rowI_len] at a1 a4
          rw [List.take_length] at a4
          have s56 := e2.trans a2
          have at15 := at1.but mG5
          refine ⟨plt, D, _, _, rfl, rfl, s56 _ _ at15.1, a3, by rw [List.length_map, List.length_map, at2.1, a1]; show _ ≤ 16777216; omega, fun l2 nl2 => ?_⟩
          have s6 := sameN (o := .lst (ast.map V.ref ++ ts.map V.ref)) nl2
          have hl2 : L2.upd H' l2 (.lst (ast.map V.ref ++ ts.map V.ref)) l2 = some (.lst (ast.map V.ref ++ ts.map V.ref)) := upd_same
          generalize L2.upd H' l2 (.lst (ast.map V.ref ++ ts.map V.ref)) = G6 at *
          have s66 := s56.trans s6
          have hM6 : ∀ x ∈ M, Mu G6 x := fun x hx => (hM5 x hx).same s66
          have st6 : StO M G6 tt x l2 ⟨cur.a, cur.b, cs.foldl (fun x c => Ma.step x cur.a cur.b c) cur.ns, cur.past ++ cs.map fun c => (c, cur.a, cur.b)⟩ :=
            ⟨hO5.t.but (ButM.of s66), ⟨(a2.trans s6) _ _ e4, e3⟩, ast ++ ts, ⟨by rw [hl2, List.map_append], newM hM5 (same_free' s56 nl2)⟩, ((at2.but mG5).but (ButM.of s66)).app (a4.but (ButM.of s6))⟩
          refine ⟨by show 3 ≤ 16777216; decide, fun T3 nT3 => ?_⟩
          refine ⟨by show 1 ≤ 16777216; decide, fun l4 nl4 => ?_⟩
          have hS6 := (hS.but mG5).but (ButM.of s66)
          refine ⟨S, l4, Ts'.map V.ref, [.ref T3], rfl, rfl, ?_, upd_same, by rw [List.length_map, hls]; show _ ≤ 16777216; rw [List.length_singleton]; omega, fun S' nS' => ?_⟩
          · exact (sameN nl4) _ _ ((sameN nT3) _ _ hS6.1)
          obtain ⟨z1, z2⟩ := snoc_states hM6 ((hTs.but mG5).but (ButM.of s66)) st6 nT3 nl4 nS'
          have sZ := s66.trans z1
          rw [PS.behind_eq] at g5
          refine q _ S' (sts ++ [cur]) _ (s5.trans (B3.s sZ)) (fun x hx => fr5 _ (same_free' sZ hx)) ((b5.keep sZ).le (by omega)) (g5.same sZ) z2 (by rw [List.length_append]; exact Nat.le_refl _) (fun st hst => ?_)
          rcases List.mem_append.mp hst with h | h
          · exact hvs st h
          · rw [List.mem_singleton.mp h]
            exact vN
      rw [decide_eq_false (fun z => we3 (V.int.inj z))]
      refine iteF ⟨.int way, rfl, _, _, rfl, rfl, _, rfl, ?_⟩
      by_cases w6 : way < 6
      · rw [decide_eq_true w6]
        refine iteT ⟨.ref j, rfl, by show 2 ≤ 16777216; decide, fun o1 no1 => ?_⟩
        have ho1 : L2.upd G o1 (.lst [.int 3, .int 100]) o1 = some (.lst [.int 3, .int 100]) := upd_same
        have so1 := sameN (o := .lst [.int 3, .int 100]) no1
        have bo1 := bG.ne no1
        have b1 := bG.keep so1
        generalize L2.upd G o1 (.lst [.int 3, .int 100]) = G1 at *
        refine ⟨.ref j, rfl, j, c, 2, _, rfl, b1, by omega, by decide, by decide +kernel, fun k1 G2 u2 f2 b2 k10 k11 => ?_⟩
        obtain ⟨wd, hwd, w1, w2⟩ : ∃ wd : Int, atI [V.int 3, V.int 100] k1 = some (.int wd) ∧ 2 ≤ wd ∧ wd ≤ 100 := by
          have h3 : k1 = 0 ∨ k1 = 1 := by omega
          rcases h3 with rfl | rfl
          · exact ⟨3, rfl, by decide, by decide⟩
          · exact ⟨100, rfl, by decide, by decide⟩
        refine ⟨o1, _, k1, .int wd, rfl, rfl, SqL.of (u2 _ _ bo1 ho1), hwd, j, c, wd, _, rfl, b2, by omega, w1, w2, fun t' x y G3 u3 f3 nt' b3 ht' kp' => ?_⟩
        have u13 : But j G G3 := ((But.of so1).trans u2).trans u3
        have m13 : ButM M G G3 := fun x o hx e => u13 x o (fun z => hx (z ▸ jM)) e
        have hp3 := hpG.keep m13 (fun o e => u13 _ _ pj e) (fun o e => u13 _ _ blj e)
        have hM3 := mus hMG (B3.j (p := p) (bl := bl) u13) hp3 b3
        have at' : At M G3 t' (.tup [.int x, .int y]) := ⟨ht', fun z => (hM3 t' z).tup ht'⟩
        have f13 : Fre H G3 := fun x hx => fG _ (same_free' so1 (f2 _ (f3 _ hx)))
        refine ⟨.ref p, rfl, p, dx, _, rfl, u13 _ _ pj h1G, lk_keep, .ref t', rfl, rfl, M, p, bl, t', s, sts, cur, x, y, rfl, hp3, at', kp', hM3, by omega, fun G4 g1 g2 g3 => ?_⟩
        have b34 : B3 j p bl H G4 := (b3G.trans (B3.j u13)).trans (B3.p g2)
        have mG4 := b34.m jM hp.pm hp.bm
        have b4 := b3.b2 g2 (u13 _ _ pj h1G) (Ne.symm blj) cbl
        have fr4 : Fre H G4 := fun x hx => f13 _ (g3 _ hx)
        have hM4 := mus hM b34 g1 b4
        have hO4 := hO.but mG4
        refine ⟨.ref S, rfl, .ref t', rfl, .ref ct, rfl, .ref plt, rfl, by show 3 ≤ 16777216; decide, fun T3 nT3 => ?_⟩
        refine ⟨by show 1 ≤ 16777216; decide, fun l4 nl4 => ?_⟩
        have hS6 := hS.but mG4
        refine ⟨S, l4, Ts'.map V.ref, [.ref T3], rfl, rfl, ?_, upd_same, by rw [List.length_map, hls]; show _ ≤ 16777216; rw [List.length_singleton]; omega, fun S' nS' => ?_⟩
        · exact (sameN nl4) _ _ ((sameN nT3) _ _ hS6.1)
        obtain ⟨z1, z2⟩ := snoc_states hM4 (hTs.but mG4) (st := ⟨x, y, cur.ns, cur.past⟩) ⟨at'.but (g2.m hp.pm hp.bm), hO4.c, ⟨ast, (at1.but mG4), at2.but mG4⟩⟩ nT3 nl4 nS'
        refine q _ S' (sts ++ [cur]) _ (b34.trans (B3.s z1)) (fun x hx => fr4 _ (same_free' z1 hx)) ((b4.keep z1).le (by omega)) (g1.same z1) z2 (by rw [List.length_append]; exact Nat.le_refl _) (fun st hst => ?_)
        rcases List.mem_append.mp hst with h | h
        · exact hvs st h
        · rw [List.mem_singleton.mp h]
          exact ⟨kp', hv.c, hv.l, hv.z, hv.n⟩
      rw [decide_eq_false w6]
      refine iteF ⟨.int way, rfl, rfl, _, rfl, ?_⟩
      have hSlen : ((Ts'.map V.ref).length : Int) = (sts.length : Int) + 1 := by rw [List.length_map, hls]; omega
      refine (fun (tail3 : (?T3 : Prop)) => ?main3) ?tl3
      case main3 =>
        by_cases we6 : ¬ way = 6
        · rw [decide_eq_false (fun z => we6 (V.int.inj z))]
          refine iteF (iteF ?_)
          exact tail3
        · have we6 : way = 6 := Decidable.not_not.mp we6
          rw [decide_eq_true (by rw [we6])]
          refine ite_dup' rfl ⟨.ref S, rfl, S, _, rfl, .inl (SqL.of hSG.1), _, _, rfl, rfl, _, rfl, ?_⟩
          rw [hSlen]
          by_cases h0 : sts.length = 0
          · rw [decide_eq_false (by omega)]
            refine iteF ?_
            exact tail3
          · rw [decide_eq_true (by omega)]
            refine iteT ⟨.ref j, rfl, .ref S, rfl, S, _, rfl, .inl (SqL.of hSG.1), j, c, _, _, rfl, bG, by omega, by omega, by rw [hSlen]; exact Int.lt_of_le_of_lt (show (sts.length : Int) + 1 ≤ 501 by omega) (by decide +kernel), fun kI G1 u1 f1 b1 k0 k1 => ?_⟩
            obtain ⟨k, rfl⟩ := Int.eq_ofNat_of_zero_le k0
            rw [hSlen] at k1
            have hk : k ≤ sts.length := by omega
            have m1' : ButM M G G1 := fun x o hx e => u1 x o (fun z => hx (z ▸ jM)) e
            have hp1 := hpG.keep m1' (fun o e => u1 _ _ pj e) (fun o e => u1 _ _ blj e)
            obtain ⟨st', hst'⟩ : ∃ st', (sts ++ [cur])[k]? = some st' := ⟨_, List.getElem?_eq_getElem (by rw [List.length_append, List.length_singleton]; omega)⟩
            refine ⟨.ref p, rfl, p, dx, _, rfl, u1 _ _ pj h1G, lk_undo_to, .int (k : Nat), rfl, rfl, M, p, bl, s, sts, cur, k, st', rfl, hp1, hk, hst', fun G2 g1 g2 g3 => ?_⟩
            have b32 : B3 j p bl H G2 := (b3G.trans (B3.j u1)).trans (B3.p g2)
            have mG2 := b32.m jM hp.pm hp.bm
            have b2 := b1.b2 g2 (u1 _ _ pj h1G) (Ne.symm blj) cbl
            have hM2 := mus hM b32 g1 b2
            have fr2 : Fre H G2 := fun x hx => fG _ (f1 _ (g3 _ hx))
            have hS2 := hS.but mG2
            refine ⟨.ref S, rfl, .int (k : Nat), rfl, _, _, rfl, rfl, _, rfl, S, _, rfl, SqL.of hS2.1, fun S' nS' => ?_⟩
            rw [slice_take]
            have z1 := sameN (o := .lst ((Ts'.take (k + 1)).map V.ref)) nS'
            have ea : (sts ++ [cur]).take (k + 1) = sts.take k ++ [st'] := by
              rw [List.take_add_one, hst', List.take_append_of_le_length hk]; rfl
            have z2 : SLt M (L2.upd G2 S' (.lst ((Ts'.take (k + 1)).map V.ref))) S' (sts.take k ++ [st']) := by
              rw [← ea]
              exact ⟨_, ⟨upd_same, newM hM2 nS'⟩, ((hTs.but mG2).but (ButM.of z1)).take _⟩
            refine q _ S' (sts.take k) st' (b32.trans (B3.s z1)) (fun x hx => fr2 _ (same_free' z1 hx)) ((b2.keep z1).le (by omega)) (g1.same z1) z2 (by rw [List.length_take]; omega) (fun st hst => ?_)
            rw [← ea] at hst
            exact hvs st (List.mem_of_mem_take hst)
      case tl3 =>
        refine ⟨.ref S, rfl, S, _, rfl, .inl (SqL.of hSG.1), _, _, rfl, rfl, _, rfl, ?_⟩
        rw [hSlen]
        by_cases h0 : sts.length = 0
        · rw [decide_eq_false (by omega)]
          refine iteF ⟨.ref S, rfl, ?_⟩
          exact q G S sts cur b3G fG (bG.le (by omega)) hpG ⟨_, hSG, hTsG⟩ (by omega) hvs
        · rw [decide_eq_true (by omega)]
          obtain ⟨pre, st0, e0⟩ : ∃ pre st0, sts = pre ++ [st0] := by
            have hne : sts ≠ [] := fun e => h0 (by rw [e]; rfl)
            exact ⟨sts.dropLast, sts.getLast hne, (List.dropLast_concat_getLast hne).symm⟩
          rw [e0] at hpG
          refine iteT ⟨.ref p, rfl, p, dx, _, rfl, h1G, lk_undo, M, p, bl, s, pre, st0, cur, rfl, hpG, fun G2 g1 g2 g3 => ?_⟩
          have b32 : B3 j p bl H G2 := b3G.trans (B3.p g2)
          have mG2 := b32.m jM hp.pm hp.bm
          have b2 := bG.b2 g2 h1G (Ne.symm blj) cbl
          have hM2 := mus hM b32 g1 b2
          have fr2 : Fre H G2 := fun x hx => fG _ (g3 _ hx)
          have hS2 := hS.but mG2
          refine ⟨.ref S, rfl, 1, rfl, _, rfl, S, _, rfl, SqL.of hS2.1, fun S' nS' => ?_⟩
          have ec : cutV (Ts'.map V.ref) none (some (-1)) = (Ts'.take sts.length).map V.ref := by
            rw [eT, List.map_append]
            show cutV (Ts0.map V.ref ++ [V.ref TT]) none (some (-1)) = _
            rw [cut_last, ← hl0, List.take_left]
          have z1 := sameN (o := .lst ((Ts'.take sts.length).map V.ref)) nS'
          have ea : (sts ++ [cur]).take sts.length = pre ++ [st0] := by rw [List.take_left, e0]
          have z2 : SLt M (L2.upd G2 S' (.lst ((Ts'.take sts.length).map V.ref))) S' (pre ++ [st0]) := by
            rw [← ea]
            exact ⟨_, ⟨upd_same, newM hM2 nS'⟩, ((hTs.but mG2).but (ButM.of z1)).take _⟩
          show Q (.ref S') (L2.upd G2 S' (.lst (cutV (Ts'.map V.ref) none (some (-1)))))
          rw [ec]
          refine q _ S' pre st0 (b32.trans (B3.s z1)) (fun x hx => fr2 _ (same_free' z1 hx)) ((b2.keep z1).le (by omega)) (g1.same z1) z2 (by rw [e0, List.length_append]; omega) (fun st hst => ?_)
          rw [← ea] at hst
          exact hvs st (List.mem_of_mem_take hst)


end
end K52
end

section
set_option Elab.async false
set_option linter.all false
set_option maxRecDepth 100000
set_option maxHeartbeats 4000000
namespace K52
open PySem PySem.Spec PyProof.Rows L2 GxR Gx Ma
section
variable {P : Program} {w : World} {K : PySem.W.Frag} {mg : Str → Option Value} {base : Heap}

structure Tbs (Tc Ts Tg T : Addr) (H : Hp) : Prop where
  c : H Tc = some (TabO Tc)
  s : H Ts = some (TabO Ts)
  g : H Tg = some (TabO Tg)
  t : H T = some (TabO T)
theorem Tbs.same {Tc Ts Tg T : Addr} {H H' : Hp} (h : Tbs Tc Ts Tg T H) (e : Same H H') : Tbs Tc Ts Tg T H' := ⟨e _ _ h.c, e _ _ h.s, e _ _ h.g, e _ _ h.t⟩
theorem Tbs.b3 {C Tc Ts Tg T j p bl : Addr} {M : List Addr} {H H' : Hp} {s c n : Nat} {cc : Addr} {sts : List PS} {cur : PS} (h : Tbs Tc Ts Tg T H) (e : B3 j p bl H H') (hb : Bg H j cc n) (hp : PotS C M H p bl s sts cur) : Tbs Tc Ts Tg T H' := by
  obtain ⟨xs, q1⟩ := hb.lst
  obtain ⟨dx, t, c', pl, Tl, q2, _, q3, _⟩ := hp.ex
  have go : ∀ X, H X = some (TabO X) → H' X = some (TabO X) := fun X hX => e X _ (fun z => by rw [z, q1] at hX; cases hX) (fun z => by rw [z, q2] at hX; cases hX) (fun z => by rw [z, q3] at hX; cases hX) hX
  exact ⟨go _ h.c, go _ h.s, go _ h.g, go _ h.t⟩
theorem Tbs.but {Tc Ts Tg T j cc : Addr} {H H' : Hp} {n : Nat} (h : Tbs Tc Ts Tg T H) (e : But j H H') (hb : Bg H j cc n) : Tbs Tc Ts Tg T H' := ⟨e _ _ (hb.tab h.c) h.c, e _ _ (hb.tab h.s) h.s, e _ _ (hb.tab h.g) h.g, e _ _ (hb.tab h.t) h.t⟩
/-- a pot with the list of its states -/
def One (C : Addr) (M : List Addr) (G : Hp) (p bl S : Addr) (s m k : Nat) : Prop := ∃ sts cur, PotS C M G p bl s sts cur ∧ SLt M G S (sts ++ [cur]) ∧ sts.length ≤ k ∧ ∀ st ∈ sts ++ [cur], Vst m st
theorem One.keep {C : Addr} {M : List Addr} {G G' : Hp} {p bl S : Addr} {s m k : Nat} (h : One C M G p bl S s m k) (e : ButM M G G') (h1 : ∀ o, G p = some o → G' p = some o) (h2 : ∀ o, G bl = some o → G' bl = some o) : One C M G' p bl S s m k :=
  let ⟨sts, cur, a, b, c, d⟩ := h; ⟨sts, cur, a.keep e h1 h2, b.but e, c, d⟩
theorem One.same {C : Addr} {M : List Addr} {G G' : Hp} {p bl S : Addr} {s m k : Nat} (h : One C M G p bl S s m k) (e : Same G G') : One C M G' p bl S s m k := h.keep (ButM.of e) (fun o q => e _ _ q) fun o q => e _ _ q
theorem One.ext {C : Addr} {M : List Addr} {G : Hp} {p bl S x : Addr} {s m k : Nat} (h : One C M G p bl S s m k) (hx : G x = none) : One C (x :: M) G p bl S s m k :=
  let ⟨sts, cur, a, b, c, d⟩ := h; ⟨sts, cur, a.ext hx, b.ext hx, c, d⟩
theorem One.le {C : Addr} {M : List Addr} {G : Hp} {p bl S : Addr} {s m k k' : Nat} (h : One C M G p bl S s m k) (e : k ≤ k') : One C M G p bl S s m k' :=
  let ⟨sts, cur, a, b, c, d⟩ := h; ⟨sts, cur, a, b, by omega, d⟩
theorem last_mem {α : Type} (xs : List α) (x : α) : x ∈ xs ++ [x] := List.mem_append_right _ (List.mem_singleton.mpr rfl)
theorem But.m {M : List Addr} {j : Addr} {H H' : Hp} (e : But j H H') (hj : j ∈ M) : ButM M H H' := fun q o n h => e q o (fun z => n (z ▸ hj)) h
def sp_law (K : PySem.W.Frag) (Tc Ts Tg T : Addr) : Sp := fun vs H Q _ => ∃ (s : Addr) (ns : List Int), vs = [V.ref s] ∧ SqL K H s (ns.map V.int) ∧ ns.length ≤ 63 ∧ Tbs Tc Ts Tg T H ∧ ∀ H', Tbs Tc Ts Tg T H' → Q (.bl true) H'
theorem pur_vst {m s : Nat} {a b : Int} (kp : Kep a b) (h : s < m) (m8 : m ≤ 8) : Vst m ⟨a, b, pur m s, []⟩ := by
  refine ⟨kp, ?_, pur_len _ _, ?_, by show 0 ≤ 60; decide⟩
  · exact pur'_con h m8
  · show (pur m s).sum ≤ 100 ^ 0
    rw [show (pur m s).sum = 1 from pur'_sum h]; decide
theorem do_step {C Tc Ts Tg T j c p bl S' : Addr} {M : List Addr} {n s m k : Nat} {G G' : Hp} {sts cur sts' cur'} (a : PotS C M G p bl s sts cur) (l : sts.length ≤ k) (hb : Bg G j c n) (jM : j ∈ M) (hM : ∀ x ∈ M, Mu G x) (t : Tbs Tc Ts Tg T G)
    (e : B3 j p bl G G') (b' : Bg G' j c (n + 1000)) (a' : PotS C M G' p bl s sts' cur') (sl : SLt M G' S' (sts' ++ [cur'])) (l' : sts'.length ≤ sts.length + 1) (v' : ∀ st ∈ sts' ++ [cur'], Vst m st) :
    ButM M G G' ∧ One C M G' p bl S' s m (k + 1) ∧ (∀ x ∈ M, Mu G' x) ∧ Tbs Tc Ts Tg T G' :=
  ⟨e.m jM a.pm a.bm, ⟨sts', cur', a', sl, by omega, v'⟩, mus hM e a' b', t.b3 (c := 0) e hb a⟩
theorem do_same {C Tc Ts Tg T j c p bl S : Addr} {M : List Addr} {n s m k : Nat} {G G' : Hp} (h : One C M G p bl S s m k) (hb : Bg G j c n) (jM : j ∈ M) (pj : p ≠ j) (blj : bl ≠ j) (hM : ∀ x ∈ M, Mu G x) (t : Tbs Tc Ts Tg T G)
    (u : But j G G') (b' : Bg G' j c (n + 600)) : ButM M G G' ∧ One C M G' p bl S s m k ∧ (∀ x ∈ M, Mu G' x) ∧ Tbs Tc Ts Tg T G' := by
  obtain ⟨sts, cur, a, b, l, v⟩ := h
  have e := But.m u jM
  have a' := a.keep e (fun o z => u _ _ pj z) fun o z => u _ _ blj z
  exact ⟨e, ⟨sts, cur, a', b.but e, l, v⟩, mus hM (B3.j (p := p) (bl := bl) u) a' b', t.but u hb⟩
/-- the twin and the list of its states -/
structure Two (C : Addr) (M : List Addr) (G : Hp) (p bl j c p2 bl2 S2 : Addr) (s m k : Nat) : Prop where
  one : One C M G p2 bl2 S2 s m k
  pj : p2 ≠ j
  bj : bl2 ≠ j
  cb : c ≠ bl2
  pp : p2 ≠ p
  pb : p2 ≠ bl
  bp : bl2 ≠ p
  bb : bl2 ≠ bl
theorem Two.keep {C : Addr} {M : List Addr} {G G' : Hp} {p bl j c p2 bl2 S2 : Addr} {s m k : Nat} (h : Two C M G p bl j c p2 bl2 S2 s m k) (e : ButM M G G') (h1 : ∀ o, G p2 = some o → G' p2 = some o) (h2 : ∀ o, G bl2 = some o → G' bl2 = some o) : Two C M G' p bl j c p2 bl2 S2 s m k := ⟨h.one.keep e h1 h2, h.pj, h.bj, h.cb, h.pp, h.pb, h.bp, h.bb⟩
theorem Two.le {C : Addr} {M : List Addr} {G : Hp} {p bl j c p2 bl2 S2 : Addr} {s m k k' : Nat} (h : Two C M G p bl j c p2 bl2 S2 s m k) (e : k ≤ k') : Two C M G p bl j c p2 bl2 S2 s m k' := ⟨h.one.le e, h.pj, h.bj, h.cb, h.pp, h.pb, h.bp, h.bb⟩
theorem Two.same {C : Addr} {M : List Addr} {G G' : Hp} {p bl j c p2 bl2 S2 : Addr} {s m k : Nat} (h : Two C M G p bl j c p2 bl2 S2 s m k) (e : Same G G') : Two C M G' p bl j c p2 bl2 S2 s m k := h.keep (ButM.of e) (fun o q => e _ _ q) fun o q => e _ _ q
theorem iteN {c : Bool} {A B : Prop} (h : c = false) (b : B) : if c = true then A else B := by rw [h]; exact b
/-- there may be a twin -/
def Tw (C : Addr) (M : List Addr) (G : Hp) (p bl j c : Addr) (y9 y10 : Option V) (s m k : Nat) : Prop := ∃ p2 bl2 S2, y9 = some (.ref p2) ∧ y10 = some (.ref S2) ∧ Two C M G p bl j c p2 bl2 S2 s m k

theorem ok_law {f : Addr} {fd : FuncData}  (F : Fun K "law" "law" s_law f fd) (B : Bl mg) {C : Addr} (KL : Kls K mg "Pot" C) (NA : PNA K C) (EQC : EqC K C) {Tc Ts Tg T : Addr} (C__law_bag : Cal P w K mg base 1 "_law_bag" ["script"] (sp_bag K)) (C__law_draw : Cal P w K mg base 2 "_law_draw" ["bag", "wide"] sp_draw) (C__law_held : Cal P w K mg base 3 "_law_held" ["bag", "most"] sp_held) (MWK_Pot : MkrK P w K mg base 5 C "Pot" ["self", "count", "start", "kept"] ["kept", "start", "count"] [2, 1, 0] (sp_init C)) (C__law_undone : Cal P w K mg base 2 "_law_undone" ["pot"] (sp_lundone C)) (C__law_same : Cal P w K mg base 12 "_law_same" ["bag", "pot", "states"] (sp_lsame C Tc Ts Tg)) (C__law_step : Cal P w K mg base 12 "_law_step" ["bag", "pot", "states", "many"] (sp_lstp C T)) (R_Pot_liquids : Pr P w K mg base 1 C "liquids" (sp_liquids C)) (R_Pot_start : Pr P w K mg base 1 C "start" (sp_start C)) (M_Pot_twin : Mt P w K mg base 7 C "twin" ["self"] (sp_twin C)) (M_Pot_undo : Mt P w K mg base 1 C "undo" ["self"] (sp_undo C)) : FnG P w K mg base 13 f fd ["script"] (sp_law K Tc Ts Tg T) := by
  refine fnG_of F sc_law (fun vs H Q E h => ?_) (fun cdv A outer s H vs Q E hr hgd h => ?_)
  · obtain ⟨sc, ns, rfl, _⟩ := h; rfl
  · obtain ⟨sc, ns, rfl, hs, hlen, tb, q⟩ := h
    have nd := sc_law.nd
    refine ⟨_, (pss_cons (ps_set (i := 1) nd rfl (Or.inl rfl) (pe_cal C__law_bag (hr.mono (by decide)) (pa_cons (pv 0) pa_nil)))
      (pss_cons (ps_for PassesOwn.never rfl (pi_range1 rfl B.range (pa_cons pe_int pa_nil)) (pg_name (i := 2) nd rfl (Or.inl rfl)) (pss_cons (ps_par (i := 3) (j := 4) (by rfl) nd rfl rfl (by decide) rfl rfl (pa_cons (pe_op op_add pe_int (pe_cal C__law_draw (hr.mono (by decide)) (pa_cons (pv 1) (pa_cons pe_int pa_nil)))) (pa_cons (pe_cal C__law_held (hr.mono (by decide)) (pa_cons (pv 1) (pa_cons (pe_ix ix_list (pe_lst (pa_cons pe_int (pa_cons pe_int pa_nil))) (pe_cal C__law_draw (hr.mono (by decide)) (pa_cons (pv 1) (pa_cons pe_int pa_nil))) (fun _ _ => rfl)) pa_nil))) pa_nil)) (by rfl))
      (pss_cons (ps_set (i := 5) nd rfl (Or.inr rfl) (pe_cal C__law_draw (hr.mono (by decide)) (pa_cons (pv 1) (pa_cons (pv 3) pa_nil))))
      (pss_cons (ps_set (i := 6) nd rfl (Or.inl rfl) (pe_mkrK MWK_Pot (hr.mono (by decide)) (pk_cons (pv 4) (pk_cons (pv 5) (pk_cons (pv 3) pk_nil)))))
      (pss_cons (ps_par3 (i := 8) (j := 9) (l := 10) (by rfl) nd rfl rfl rfl (by decide) (by decide) (by decide) rfl rfl rfl (pa_cons (pe_lst (pa_cons (pe_tup (pa_cons (pv 4) (pa_cons (pe_lc (own := [("k", 7)]) (g := gName 7) rfl nd (pi_range1 rfl B.range (pa_cons (pv 3) pa_nil)) (blkOk_by (own := [("k", 7)]) (N := ["script", "bag", "turn", "many", "held", "first", "pot", "k", "states", "other", "before"]) (sc := defScope s_law) (by decide +kernel)) (fun _ _ _ _ _ => (pg_name (i := 7) nd rfl (Or.inl rfl))) (fun _ _ _ _ _ => pts_nil) (fun _ _ _ _ _ => (pe_callTy call_int1 (by rfl) B.int (by decide +kernel) (pa_cons (pe_cmpR op_eq (pv 7) (pv 5) (nomark _)) pa_nil)))) (pa_cons (pe_lst pa_nil) pa_nil)))) pa_nil)) (pa_cons pe_non (pa_cons pe_non pa_nil))) (by rfl))
      (pss_cons (ps_if (PW.pt (pw_or (pt_not (pt_val (pe_cal C__law_undone (hr.mono (by decide)) (pa_cons (pv 6) pa_nil)))) (pw_or1 (pt_not (pt_val (pe_cal C__law_same (hr.mono (by decide)) (pa_cons (pv 1) (pa_cons (pv 6) (pa_cons (pv 8) pa_nil)))))))))
      (pss_one (ps_ret pe_bl)) pss_nil)
      (pss_cons (ps_for PassesOwn.never rfl (pi_range1 rfl B.range (pa_cons (pe_ix ix_list (pe_lst (pa_cons pe_int (pa_cons pe_int (pa_cons pe_int pa_nil)))) (pv 2) (fun _ _ => rfl)) pa_nil)) (pg_name (i := 7) nd rfl (Or.inl rfl)) (pss_cons (ps_set (i := 8) nd rfl (Or.inl rfl) (pe_cal C__law_step (hr.mono (by decide)) (pa_cons (pv 1) (pa_cons (pv 6) (pa_cons (pv 8) (pa_cons (pv 3) pa_nil))))))
      (pss_cons (ps_if (PW.pt (pw_or (pt_not (pt_val (pe_cal C__law_same (hr.mono (by decide)) (pa_cons (pv 1) (pa_cons (pv 6) (pa_cons (pv 8) pa_nil)))))) (pw_or1 (pt_cmpR (op_neD hr.units) (pe_lst (pa_cons (pe_pr KL.cl R_Pot_liquids (hr.mono (by decide)) (pv 6)) (pa_cons (pe_pr KL.cl R_Pot_start (hr.mono (by decide)) (pv 6)) pa_nil))) (pe_lst (pa_cons (pv 3) (pa_cons (pv 5) pa_nil))) (nomark _)))))
      (pss_one (ps_ret pe_bl)) pss_nil)
      (pss_cons (ps_if (pt_cmpR op_eq (pv 7) pe_int (nomark _))
      (pss_one (ps_par (i := 9) (j := 10) (by rfl) nd rfl rfl (by decide) rfl rfl (pa_cons (pe_mt0 KL.cl M_Pot_twin (hr.mono (by decide)) (pv 6)) (pa_cons (pe_callTy call_list_of (by rfl) B.list (by decide +kernel) (pa_cons (pv 8) pa_nil)) pa_nil)) (by rfl))) pss_nil)
      (pss_one (ps_if (pt_cmpR op_eq (pv 7) pe_int (nomark _))
      (pss_one (ps_set (i := 10) nd rfl (Or.inl rfl) (pe_cal C__law_step (hr.mono (by decide)) (pa_cons (pv 1) (pa_cons (pv 9) (pa_cons (pv 10) (pa_cons (pv 3) pa_nil))))))) pss_nil))))))
      (pss_cons (ps_if (PW.pt (pw_or (pt_not (pt_val (pe_cal C__law_same (hr.mono (by decide)) (pa_cons (pv 1) (pa_cons (pv 9) (pa_cons (pv 10) pa_nil)))))) (pw_or (pt_cmpR (op_eqI EQC hr.units0) (pv 9) (pv 6) (nomark _)) (pw_or1 (pt_cmpR (op_neD hr.units) (pe_lst (pa_cons (pe_pr KL.cl R_Pot_liquids (hr.mono (by decide)) (pv 9)) (pa_cons (pe_pr KL.cl R_Pot_start (hr.mono (by decide)) (pv 9)) pa_nil))) (pe_lst (pa_cons (pv 3) (pa_cons (pv 5) pa_nil))) (nomark _))))))
      (pss_one (ps_ret pe_bl)) pss_nil)
      (pss_cons (ps_for PassesOwn.never rfl (pi_range1 rfl B.range (pa_cons (pe_op op_sub (pe_callB call_len_seq (by rfl) B.len PySem.boot_len (pa_cons (pv 10) pa_nil)) pe_int) pa_nil)) (pg_name (i := 7) nd rfl (Or.inl rfl)) (pss_one (ps_expr (pe_mt0 KL.cl M_Pot_undo (hr.mono (by decide)) (pv 9)))))
      (pss_one (ps_if (PW.pt (pw_or (pt_not (pt_val (pe_cal C__law_undone (hr.mono (by decide)) (pa_cons (pv 9) pa_nil)))) (pw_or (pt_not (pt_val (pe_cal C__law_same (hr.mono (by decide)) (pa_cons (pv 1) (pa_cons (pv 9) (pa_cons (pe_slice sl_list (pv 10) po_none (po_some pe_int)) pa_nil)))))) (pw_or1 (pt_not (pt_val (pe_cal C__law_same (hr.mono (by decide)) (pa_cons (pv 1) (pa_cons (pv 6) (pa_cons (pv 8) pa_nil))))))))))
      (pss_one (ps_ret pe_bl)) pss_nil)))))))))))
      (pss_one (ps_ret pe_bl)))), ?_⟩
    refine ⟨.ref sc, rfl, sc, ns, rfl, hs, hlen, fun j c H1 s1 nb hb => ?_⟩
    refine ⟨3, rfl, by decide, by decide, ?_⟩
    refine for_range (lo := 0) (n := 3) (fun i σ G => ∃ y2 y3 y4 y5 y6 y7 y8 y9 y10, σ = [some (.ref sc), some (.ref j), y2, y3, y4, y5, y6, y7, y8, y9, y10] ∧ Bg G j c (150000 * i) ∧ Tbs Tc Ts Tg T G) ⟨_, _, _, _, _, _, _, _, _, rfl, hb, tb.same s1⟩ (fun i σ G hi ⟨y2, y3, y4, y5, y6, y7, y8, y9, y10, e1, e3, e4⟩ => ?_) (fun σ G ⟨y2, y3, y4, y5, y6, y7, y8, y9, y10, e1, e3, e4⟩ => ?_)
    · subst e1
      refine ⟨.ref j, rfl, j, c, 8, _, rfl, e3, by omega, by decide, by decide +kernel, fun d1 G1 u1 f1 b1 d10 d11 => ⟨1, d1, rfl, rfl, ?_⟩⟩
      obtain ⟨m', rfl⟩ := Int.eq_ofNat_of_zero_le d10
      refine ⟨.ref j, rfl, by show 2 ≤ 16777216; decide, fun o1 no1 => ?_⟩
      have so1 := sameN (o := .lst [.int 3, .int 100]) no1
      have ho1 : L2.upd G1 o1 (.lst [.int 3, .int 100]) o1 = some (.lst [.int 3, .int 100]) := upd_same
      have bo1 := b1.ne no1
      have b2 := b1.keep so1
      generalize L2.upd G1 o1 (.lst [.int 3, .int 100]) = G2 at *
      refine ⟨.ref j, rfl, j, c, 2, _, rfl, b2, by omega, by decide, by decide +kernel, fun k1 G3 u3 f3 b3 k10 k11 => ?_⟩
      obtain ⟨wd, hwd, w1, w2⟩ : ∃ wd : Int, atI [V.int 3, V.int 100] k1 = some (.int wd) ∧ 2 ≤ wd ∧ wd ≤ 100 := by
        have h3 : k1 = 0 ∨ k1 = 1 := by omega
        rcases h3 with rfl | rfl
        · exact ⟨3, rfl, by decide, by decide⟩
        · exact ⟨100, rfl, by decide, by decide⟩
      refine ⟨o1, _, k1, .int wd, rfl, rfl, SqL.of (u3 _ _ bo1 ho1), hwd, j, c, wd, _, rfl, b3, by omega, w1, w2, fun t a b G4 u4 f4 nt b4 ht kp => ?_⟩
      obtain ⟨m, hm', hm1, hm8⟩ : ∃ m : Nat, (1 : Int) + (m' : Nat) = (m : Nat) ∧ 1 ≤ m ∧ m ≤ 8 := ⟨m' + 1, by omega, by omega, by omega⟩
      refine ⟨.int (m : Nat), .ref t, by show [V.int (1 + (m' : Nat)), V.ref t] = _; rw [hm'], ?_⟩
      have t4 := (((e4.but u1 e3).same so1).but u3 b2).but u4 b3
      have b4 := b4.le (m := 150000 * i + 400) (by omega)
      clear u1 f1 b1 so1 ho1 bo1 b2 u3 f3 b3 hwd u4 f4 d11 e3 e4 no1 nt
      refine ⟨.ref j, rfl, .int (m : Nat), rfl, j, c, m, _, rfl, b4, by omega, by omega, Int.lt_of_le_of_lt (show (m : Int) ≤ 8 by omega) (by decide +kernel), fun sI G5 u5 f5 b5 s0 s1' => ?_⟩
      obtain ⟨s, rfl⟩ := Int.eq_ofNat_of_zero_le s0
      have hsm : s < m := by omega
      have tj : t ≠ j := b4.tupne ht
      have ht5 := u5 _ _ tj ht
      have t5 := t4.but u5 b4
      refine ⟨.ref t, rfl, .int (s : Nat), rfl, .int (m : Nat), rfl, rfl, fun p dx np ndx pdx => ?_⟩
      have keepG : ∀ q o, G5 q = some o → L2.upd (L2.upd G5 dx (.own p)) p (.ins C dx []) q = some o := fun q o e => by rw [upd_ne (ne_of_none e np), upd_ne (ne_of_none e ndx)]; exact e
      have hp1 : L2.upd (L2.upd G5 dx (.own p)) p (.ins C dx []) p = some (.ins C dx []) := upd_same
      have sG : Same G5 (L2.upd (L2.upd G5 dx (.own p)) p (.ins C dx [])) := fun q o e => keepG q o e
      generalize L2.upd (L2.upd G5 dx (.own p)) p (.ins C dx []) = G6 at *
      have b6 := b5.keep sG
      obtain ⟨jx, hj6⟩ := b6.lst
      refine ⟨[j], p, dx, t, m, s, a, b, rfl, hp1, hm1, hm8, hsm, sG _ _ ht5, (fun z => tj (List.mem_singleton.mp z)), (fun x hx => by rw [List.mem_singleton.mp hx]; exact .inr ⟨_, hj6⟩), kp, fun G7 bl e7 f7 nbl hP => ⟨rfl, ?_⟩⟩
      have np5 : ∀ q o, G5 q = some o → q ≠ p := fun q o e => ne_of_none e np
      have s57 : Same G5 G7 := fun q o e => e7 _ _ (np5 _ _ e) (sG _ _ e)
      have b7 := b5.keep s57
      have t7 := t5.same s57
      have pj : p ≠ j := fun e => by obtain ⟨xs, q⟩ := b5.lst; rw [← e, np] at q; cases q
      have blj : bl ≠ j := fun e => by obtain ⟨xs, q⟩ := b6.lst; rw [← e, nbl] at q; cases q
      have cbl : c ≠ bl := fun e => by obtain ⟨_, _, _, _, _, _, q, _⟩ := b6; have q' : G6 c = _ := q; rw [e, nbl] at q'; cases q'
      have hM7 : ∀ x ∈ [p, bl, j], Mu G7 x := fun x hx => by
        obtain ⟨dz, tz, cz, pz, Tz, z1, _, z3, _⟩ := hP.ex
        rcases List.mem_cons.mp hx with e | hx
        · rw [e]; exact .inl ⟨C, dz, _, z1⟩
        · rcases List.mem_cons.mp hx with e | hx
          · rw [e]; exact .inr ⟨_, z3⟩
          · rw [List.mem_singleton.mp hx]; obtain ⟨xs, q⟩ := b7.lst; exact .inr ⟨xs, q⟩
      have jM : j ∈ [p, bl, j] := by simp
      have ht7 := s57 _ _ ht5
      have tM : t ∉ [p, bl, j] := fun z => (hM7 t z).tup ht7
      have b7 := b7.le (m := 150000 * i + 500) (by omega)
      clear b6 hj6 e7 f7 sG keepG hp1 np5 s57 b5 ht5 t5 u5 f5 b4 t4 ht nbl ndx np
      -- the states
      refine ⟨.ref t, rfl, .int (m : Nat), rfl, m, rfl, by omega, by omega, fun D hD => lc_range (lo := 0) (n := (m : Int).toNat) (fun k H' => Same G7 H' ∧ H' D = some (.lst (((pur m s).take k).map V.int))) ⟨sameN hD, upd_same⟩ (fun k H' hk ⟨a1, a2⟩ => ?_) (fun G8 ⟨a1, a2⟩ => ?_)⟩
      · have hk : k < m := by omega
        refine ⟨rfl, .int (0 + (k : Int)), rfl, .int (s : Nat), rfl, rfl, .inr ⟨_, rfl, _, a2, ?_, fun b x hb => ?_, ?_⟩⟩
        · rw [List.length_map, List.length_take, pur_len]
          show min k m < 16777216
          omega
        · rw [upd_ne (ne_of_none hb hD)]
          exact a1 b x hb
        · rw [upd_same, List.take_add_one, pur_get m s k hk, List.map_append]
          have e : (if decide (V.int (0 + (k : Int)) = V.int (s : Nat)) = true then (1 : Int) else 0) = if k = s then 1 else 0 := by
            by_cases z : k = s
            · rw [if_pos z, z, Int.zero_add, decide_eq_true rfl]
              rfl
            · rw [if_neg z, if_neg (by rw [decide_eq_true_eq]; exact fun z2 => z (by have := V.int.inj z2; omega))]
          rw [e]
          rfl
      rw [show (m : Int).toNat = (pur m s).length by rw [pur_len, Int.toNat_natCast], List.take_length] at a2
      refine ⟨by show 0 ≤ 16777216; decide, fun E nE => ?_⟩
      have sE := sameN (o := .lst []) nE
      have hE : L2.upd G8 E (.lst []) E = some (.lst []) := upd_same
      generalize L2.upd G8 E (.lst []) = G9 at *
      have s79 := a1.trans sE
      have hM9 : ∀ x ∈ [p, bl, j], Mu G9 x := fun x hx => (hM7 x hx).same s79
      have st9 : StO [p, bl, j] G9 t D E ⟨a, b, pur m s, []⟩ := ⟨⟨s79 _ _ ht7, tM⟩, ⟨sE _ _ a2, newM hM7 hD⟩, [], ⟨hE, newM hM7 (same_free' a1 nE)⟩, rfl, fun i x p h1 _ => by cases h1⟩
      refine ⟨by show 3 ≤ 16777216; decide, fun T3 nT3 => ?_⟩
      have sT := sameN (o := .tup [.ref t, .ref D, .ref E]) nT3
      have hT3 : L2.upd G9 T3 (.tup [.ref t, .ref D, .ref E]) T3 = some (.tup [.ref t, .ref D, .ref E]) := upd_same
      generalize L2.upd G9 T3 (.tup [.ref t, .ref D, .ref E]) = G10 at *
      refine ⟨by show 1 ≤ 16777216; decide, fun S nS => ⟨.ref S, .non, .non, rfl, ?_⟩⟩
      have sS := sameN (o := .lst [.ref T3]) nS
      have hS : L2.upd G10 S (.lst [.ref T3]) S = some (.lst [.ref T3]) := upd_same
      generalize L2.upd G10 S (.lst [.ref T3]) = G11 at *
      have s7b := (s79.trans sT).trans sS
      have hMb : ∀ x ∈ [p, bl, j], Mu G11 x := fun x hx => (hM7 x hx).same s7b
      have hSb : At [p, bl, j] G11 S (.lst ([T3].map V.ref)) := ⟨hS, newM hM7 (same_free' (s79.trans sT) nS)⟩
      have hTb : Sts [p, bl, j] G11 [T3] ([] ++ [⟨a, b, pur m s, []⟩]) := ⟨rfl, fun i x st h1 h2 => by
        cases i with
        | zero => cases h1; cases h2; exact ⟨⟨t, D, E, ⟨sS _ _ hT3, newM hM7 (same_free' s79 nT3)⟩, st9.but (ButM.of (sT.trans sS))⟩⟩
        | succ i => cases h1⟩
      have hPb := hP.same s7b
      have v0 : Vst m ⟨a, b, pur m s, []⟩ := pur_vst kp hsm hm8
      have bb := b7.keep s7b
      have tb11 := t7.same s7b
      clear a1 a2 hD sE hE nE s79 hM9 st9 sT hT3 nT3 sS hS nS hP b7 t7 hM7 ht7 s7b
      refine ⟨.ref p, rfl, [p, bl, j], p, bl, s, _, rfl, hPb, true, rfl, iteF ?_⟩
      refine ⟨.ref j, rfl, .ref p, rfl, .ref S, rfl, [p, bl, j], j, c, p, bl, S, _, s, m, [], ⟨a, b, pur m s, []⟩, [T3], rfl, bb, by omega, jM, pj, blj, hPb, hSb, hTb, by decide, v0, tb11.c, tb11.s, tb11.g, fun G12 u12 f12 b12 => ⟨true, rfl, iteF ?_⟩⟩
      have one0 : One C [p, bl, j] G12 p bl S s m 0 := ⟨[], _, hPb.keep (But.m u12 jM) (fun o e => u12 _ _ pj e) (fun o e => u12 _ _ blj e), ⟨_, hSb.but (But.m u12 jM), hTb.but (But.m u12 jM)⟩, Nat.le_refl _, fun st hst => by
        rw [List.mem_singleton.mp hst]; exact v0⟩
      have hM12 : ∀ x ∈ [p, bl, j], Mu G12 x := mus hMb (B3.j (p := p) (bl := bl) u12) (hPb.keep (But.m u12 jM) (fun o e => u12 _ _ pj e) (fun o e => u12 _ _ blj e)) b12
      have t12 := tb11.but u12 bb
      clear hPb hSb hTb hMb tb11 bb v0 u12 f12
      refine ⟨by show 3 ≤ 16777216; decide, fun oR nR => ?_⟩
      have sR := sameN (o := .lst [.int 55, .int 24, .int 24]) nR
      have hR : L2.upd G12 oR (.lst [.int 55, .int 24, .int 24]) oR = some (.lst [.int 55, .int 24, .int 24]) := upd_same
      have one0 := one0.same sR
      have hM12 : ∀ x ∈ [p, bl, j], Mu (L2.upd G12 oR (.lst [.int 55, .int 24, .int 24])) x := fun x hx => (hM12 x hx).same sR
      have t12 := t12.same sR
      have b12 := b12.keep sR
      generalize L2.upd G12 oR (.lst [.int 55, .int 24, .int 24]) = G13 at *
      obtain ⟨r, hr1, hr55, hrI⟩ : ∃ r : Nat, r ≤ 55 ∧ 24 ≤ r ∧ atI [V.int 55, .int 24, .int 24] (0 + (i : Int)) = some (.int (r : Nat)) := by
        have h3 : i = 0 ∨ i = 1 ∨ i = 2 := by omega
        rcases h3 with rfl | rfl | rfl
        · exact ⟨55, by decide, by decide, rfl⟩
        · exact ⟨24, by decide, by decide, rfl⟩
        · exact ⟨24, by decide, by decide, rfl⟩
      refine ⟨.int (0 + (i : Int)), rfl, oR, _, _, .int (r : Nat), rfl, rfl, SqL.of hR, hrI, r, rfl, by omega, by omega, ?_⟩
      have b12 := b12.le (m := 150000 * i + 1100 + 2600 * 0) (by omega)
      clear sR hR hrI nR
      refine for_range (lo := 0) (n := r) (fun k σ G => ∃ y7 S y9 y10 M, σ = [some (.ref sc), some (.ref j), some (.int (0 + (i : Int))), some (.int (m : Nat)), some (.ref t), some (.int (s : Nat)), some (.ref p), y7, some (.ref S), y9, y10] ∧ Bg G j c (150000 * i + 1100 + 2600 * k) ∧ j ∈ M ∧ One C M G p bl S s m k ∧ (∀ x ∈ M, Mu G x) ∧ Tbs Tc Ts Tg T G ∧ (12 < k → Tw C M G p bl j c y9 y10 s m k)) ⟨y7, S, _, _, [p, bl, j], rfl, b12, jM, one0, hM12, t12, fun z => absurd z (by decide)⟩ (fun k σ G hk ⟨y7', S, y9, y10, M, e1, b, jM, one, hM, tt, two⟩ => ?_) (fun σ G ⟨y7', S, y9, y10, M, e1, b, jM, one, hM, tt, two⟩ => ?_)
      · subst e1
        obtain ⟨sts, cur, a0, a1, a2, a3⟩ := one
        refine ⟨.ref j, rfl, .ref p, rfl, .ref S, rfl, .int (m : Nat), rfl, M, j, c, p, bl, S, _, s, m, sts, cur, rfl, b, by omega, jM, pj, blj, cbl, hM, a0, a1, by omega, a3, hm1, hm8, tt.t, fun Ga S' sts' cur' e f b1 a' sl l' v' => ?_⟩
        obtain ⟨em, one', hM', tt'⟩ := do_step a0 a2 b jM hM tt e b1 a' sl l' v'
        have two' : 12 < k → Tw C M Ga p bl j c y9 y10 s m k := fun z => by
          obtain ⟨p2, bl2, S2, h1, h2, w⟩ := two z
          exact ⟨p2, bl2, S2, h1, h2, w.keep em (fun o q => e _ _ w.pj w.pp w.pb q) fun o q => e _ _ w.bj w.bp w.bb q⟩
        clear b hM tt two e em f a' sl l' v' a0 a1 a2 a3 sts' cur' sts cur
        obtain ⟨sts, cur, a0, ⟨Ts', g1, g2⟩, a2, a3⟩ := id one'
        refine ⟨.ref j, rfl, .ref p, rfl, .ref S', rfl, M, j, c, p, bl, S', _, s, m, sts, cur, Ts', rfl, b1, by omega, jM, pj, blj, a0, g1, g2, by omega, a3 _ (last_mem _ _), tt'.c, tt'.s, tt'.g, fun Gb u f b2 => ⟨true, rfl, iteF ?_⟩⟩
        obtain ⟨um, one2, hM2, tt2⟩ := do_same one' b1 jM pj blj hM' tt' u b2
        have two2 : 12 < k → Tw C M Gb p bl j c y9 y10 s m k := fun z => by
          obtain ⟨p2, bl2, S2, h1, h2, w⟩ := two' z
          exact ⟨p2, bl2, S2, h1, h2, w.keep um (fun o q => u _ _ w.pj q) fun o q => u _ _ w.bj q⟩
        clear b1 one' hM' tt' u um two' f a0 g1 g2 a2 a3 sts cur
        obtain ⟨sts, cur, a0, g1, a2, a3⟩ := one2
        obtain ⟨dx', _, _, _, _, p1, _, _, _⟩ := id a0.ex
        refine ⟨.ref p, rfl, p, dx', _, rfl, p1, M, p, bl, s, sts, cur, rfl, a0, .ref p, rfl, p, dx', _, rfl, p1, M, p, bl, s, sts, cur, rfl, a0, by show 2 ≤ 16777216; decide, fun o1 n1 => ⟨.int (m : Nat), rfl, .int (s : Nat), rfl, by show 2 ≤ 16777216; decide, fun o2 n2 => ?_⟩⟩
        rw [(a3 _ (last_mem _ _)).l] at n2 ⊢
        have s1 := sameN (o := .lst [.int (m : Nat), .int (s : Nat)]) n1
        have s2 := sameN (o := .lst [.int (m : Nat), .int (s : Nat)]) n2
        refine ⟨_, _, dp_li (ns := [(m : Int), (s : Int)]) (s2 o1 _ upd_same), dp_li (ns := [(m : Int), (s : Int)]) upd_same, shaped_ints _, shaped_ints _, ?_⟩
        rw [eqv_ints]
        refine ⟨_, rfl, iteF ?_⟩
        have s12 := s1.trans s2
        have one3 := One.same ⟨sts, cur, a0, g1, a2, a3⟩ s12
        have hM3 : ∀ x ∈ M, Mu (L2.upd (L2.upd Gb o1 (.lst [.int (m : Nat), .int (s : Nat)])) o2 (.lst [.int (m : Nat), .int (s : Nat)])) x := fun x hx => (hM2 x hx).same s12
        have tt3 := tt2.same s12
        have b3 := b2.keep s12
        have two3 : 12 < k → Tw C M (L2.upd (L2.upd Gb o1 (.lst [.int (m : Nat), .int (s : Nat)])) o2 (.lst [.int (m : Nat), .int (s : Nat)])) p bl j c y9 y10 s m k := fun z => by
          obtain ⟨p2, bl2, S2, h1, h2, w⟩ := two2 z
          exact ⟨p2, bl2, S2, h1, h2, w.same s12⟩
        clear a0 g1 a2 a3 p1 hM2 tt2 b2 two2 s1 s2 s12
        generalize L2.upd (L2.upd Gb o1 (.lst [.int (m : Nat), .int (s : Nat)])) o2 (.lst [.int (m : Nat), .int (s : Nat)]) = Gc at *
        refine ⟨.int (0 + (k : Int)), rfl, rfl, _, rfl, ?_⟩
        by_cases h12 : k = 12
        · subst h12
          obtain ⟨sts, cur, a0, ⟨Ts', g1, g2⟩, a2, a3⟩ := id one3
          obtain ⟨dx', _, _, _, Tl, p1, _, p3, _⟩ := id a0.ex
          have vc := a3 _ (last_mem _ _)
          refine ite_dup' rfl ⟨.ref p, rfl, p, dx', _, rfl, p1, lk_twin, M, p, bl, s, sts, cur, rfl, a0, hM3, vc.k, by rw [vc.l]; exact hm1, by rw [vc.l]; exact hm8, by rw [vc.l]; exact hsm, by omega, fun Gd p2 bl2 sd np2 nb2 q2 => ⟨.ref S', rfl, S', _, rfl, .inl (SqL.of (sd _ _ g1.1)), fun B nB => ⟨.ref p2, .ref B, rfl, ?_⟩⟩⟩
          have hMd : ∀ x ∈ p2 :: bl2 :: M, Mu Gd x := fun x hx => by
            obtain ⟨dz, tz, cz, pz, Tz, z1, _, z3, _⟩ := q2.ex
            rcases List.mem_cons.mp hx with e | hx
            · rw [e]; exact .inl ⟨C, dz, _, z1⟩
            · rcases List.mem_cons.mp hx with e | hx
              · rw [e]; exact .inr ⟨_, z3⟩
              · exact (hM3 x hx).same sd
          have sB := sameN (o := .lst (Ts'.map V.ref)) nB
          have hB : L2.upd Gd B (.lst (Ts'.map V.ref)) B = some (.lst (Ts'.map V.ref)) := upd_same
          have nB' := newM hMd nB
          generalize L2.upd Gd B (.lst (Ts'.map V.ref)) = Ge at *
          have sce := sd.trans sB
          have nn : ∀ x o, Gc x = some o → x ≠ p2 ∧ x ≠ bl2 := fun x o e => ⟨fun z => (by rw [z, np2] at e; cases e), fun z => (by rw [z, nb2] at e; cases e)⟩
          obtain ⟨jx, hjx⟩ := b3.lst
          obtain ⟨_, _, _, _, _, _, hcx, _⟩ := id b3
          have w : Two C (p2 :: bl2 :: M) Ge p bl j c p2 bl2 B s m (12 + 1) := ⟨⟨sts, cur, q2.same sB, ⟨Ts', ⟨hB, nB'⟩, ((g2.ext nb2).ext np2).but (ButM.of sce)⟩, a2, a3⟩, (nn _ _ hjx).1.symm, (nn _ _ hjx).2.symm, (nn _ _ hcx).2, (nn _ _ p1).1.symm, (nn _ _ p3).1.symm, (nn _ _ p1).2.symm, (nn _ _ p3).2.symm⟩
          refine ⟨.int (0 + ((12 : Nat) : Int)), rfl, rfl, _, rfl, iteN rfl ?_⟩
          exact ⟨_, S', _, _, p2 :: bl2 :: M, rfl, (b3.keep sce).le (by omega), List.mem_cons_of_mem _ (List.mem_cons_of_mem _ jM), ((one3.ext nb2).ext np2).same sce, fun x hx => (hMd x hx).same sB, tt3.same sce, fun _ => ⟨p2, bl2, B, rfl, rfl, w⟩⟩
        · refine iteN (by rw [decide_eq_false_iff_not]; intro z; have := V.int.inj z; omega) ?_
          refine ⟨.int (0 + (k : Int)), rfl, rfl, _, rfl, ?_⟩
          by_cases h15 : k = 15
          · subst h15
            obtain ⟨p2, bl2, S2, e9, e10, w⟩ := two3 (by decide)
            subst e9 e10
            obtain ⟨sts, cur, a0, a1, a2, a3⟩ := id w.one
            refine ite_dup' rfl ⟨.ref j, rfl, .ref p2, rfl, .ref S2, rfl, .int (m : Nat), rfl, M, j, c, p2, bl2, S2, _, s, m, sts, cur, rfl, b3, by omega, jM, w.pj, w.bj, w.cb, hM3, a0, a1, by omega, a3, hm1, hm8, tt3.t, fun Gd B sts' cur' e f b1 a' sl l' v' => ?_⟩
            obtain ⟨em, one', hM', tt'⟩ := do_step a0 a2 b3 jM hM3 tt3 e b1 a' sl l' v'
            exact ⟨_, S', _, _, M, rfl, b1.le (by omega), jM, one3.keep em (fun o q => e _ _ pj w.pp.symm w.bp.symm q) (fun o q => e _ _ blj w.pb.symm w.bb.symm q), hM', tt', fun _ => ⟨p2, bl2, B, rfl, rfl, one', w.pj, w.bj, w.cb, w.pp, w.pb, w.bp, w.bb⟩⟩
          · refine iteN (by rw [decide_eq_false_iff_not]; intro z; have := V.int.inj z; omega) ?_
            refine ⟨_, S', _, _, M, rfl, b3.le (by omega), jM, one3, hM3, tt3, fun z => ?_⟩
            obtain ⟨p2, bl2, S2, h1, h2, w⟩ := two3 (by omega)
            exact ⟨p2, bl2, S2, h1, h2, w.le (by omega)⟩
      · subst e1
        obtain ⟨p2, bl2, S2, e9, e10, w⟩ := two (by omega)
        subst e9 e10
        obtain ⟨sts, cur, a0, ⟨Ts', g1, g2⟩, a2, a3⟩ := id w.one
        refine ⟨.ref j, rfl, .ref p2, rfl, .ref S2, rfl, M, j, c, p2, bl2, S2, _, s, m, sts, cur, Ts', rfl, b, by omega, jM, w.pj, w.bj, a0, g1, g2, by omega, a3 _ (last_mem _ _), tt.c, tt.s, tt.g, fun Ga u f b1 => ⟨true, rfl, iteF ?_⟩⟩
        obtain ⟨um, one1, hM1, tt1⟩ := do_same w.one b jM w.pj w.bj hM tt u b1
        have onep := one.keep um (fun o q => u _ _ pj q) fun o q => u _ _ blj q
        clear a0 g1 g2 a2 a3 sts cur b one hM tt two u f um
        obtain ⟨sts, cur, a0, g1, a2, a3⟩ := id one1
        obtain ⟨dx', _, _, _, Tl, z1, _, z3, _⟩ := id a0.ex
        obtain ⟨_, _, ap0, _⟩ := id onep
        obtain ⟨dy, _, _, _, _, y1, _, _, _⟩ := id ap0.ex
        refine ⟨.ref p2, rfl, .ref p, rfl, p2, p, dx', _, dy, _, rfl, rfl, z1, y1, w.pp, false, rfl, iteF ?_⟩
        refine ⟨.ref p2, rfl, p2, dx', _, rfl, z1, M, p2, bl2, s, sts, cur, rfl, a0, .ref p2, rfl, p2, dx', _, rfl, z1, M, p2, bl2, s, sts, cur, rfl, a0, by show 2 ≤ 16777216; decide, fun o1 n1 => ⟨.int (m : Nat), rfl, .int (s : Nat), rfl, by show 2 ≤ 16777216; decide, fun o2 n2 => ?_⟩⟩
        rw [(a3 _ (last_mem _ _)).l] at n2 ⊢
        have s1 := sameN (o := .lst [.int (m : Nat), .int (s : Nat)]) n1
        have s2 := sameN (o := .lst [.int (m : Nat), .int (s : Nat)]) n2
        refine ⟨_, _, dp_li (ns := [(m : Int), (s : Int)]) (s2 o1 _ upd_same), dp_li (ns := [(m : Int), (s : Int)]) upd_same, shaped_ints _, shaped_ints _, ?_⟩
        rw [eqv_ints]
        refine ⟨_, rfl, iteF ?_⟩
        have s12 := s1.trans s2
        have one2 := onep.same s12
        have hM2 : ∀ x ∈ M, Mu (L2.upd (L2.upd Ga o1 (.lst [.int (m : Nat), .int (s : Nat)])) o2 (.lst [.int (m : Nat), .int (s : Nat)])) x := fun x hx => (hM1 x hx).same s12
        have tt2 := tt1.same s12
        have b2 := b1.keep s12
        have a1 := a0.same s12
        have g1 := g1.but (ButM.of s12)
        clear onep one1 hM1 tt1 b1 a0 s1 s2 s12 z1 z3 y1 ap0
        generalize L2.upd (L2.upd Ga o1 (.lst [.int (m : Nat), .int (s : Nat)])) o2 (.lst [.int (m : Nat), .int (s : Nat)]) = Gb at *
        obtain ⟨Ts', g1, g2⟩ := g1
        have hl : Ts'.length = sts.length + 1 := by rw [g2.1, List.length_append]; rfl
        refine ⟨.ref S2, rfl, S2, _, rfl, .inl (SqL.of g1.1), ?_⟩
        refine ⟨_, _, rfl, rfl, (sts.length : Nat), by rw [List.length_map, hl]; show [V.int (((sts.length + 1 : Nat) : Int) - 1)] = _; rw [show (((sts.length + 1 : Nat) : Int)) - 1 = (sts.length : Nat) by omega], by omega, by omega, ?_⟩
        refine for_range (lo := 0) (n := sts.length) (fun k σ G => ∃ y7 st cu re, σ = [some (.ref sc), some (.ref j), some (.int (0 + (i : Int))), some (.int (m : Nat)), some (.ref t), some (.int (s : Nat)), some (.ref p), y7, some (.ref S), some (.ref p2), some (.ref S2)] ∧ Bg G j c (150000 * i + 1100 + 2600 * r + 600) ∧ PotS C M G p2 bl2 s st cu ∧ st ++ cu :: re = sts ++ [cur] ∧ st.length + k = sts.length ∧ One C M G p bl S s m r ∧ (At M G S2 (.lst (Ts'.map V.ref)) ∧ Sts M G Ts' (sts ++ [cur])) ∧ (∀ x ∈ M, Mu G x) ∧ Tbs Tc Ts Tg T G) ⟨_, sts, cur, [], rfl, b2, a1, rfl, rfl, one2, ⟨g1, g2⟩, hM2, tt2⟩ (fun k σ G hk ⟨y7, st, cu, re, e1, b, a, ea, el, one, ⟨g1, g2⟩, hM, tt⟩ => ?_) (fun σ G ⟨y7, st, cu, re, e1, b, a, ea, el, one, ⟨g1, g2⟩, hM, tt⟩ => ?_)
        · subst e1
          obtain ⟨dz, _, _, _, _, y1, _, _, _⟩ := id a.ex
          rcases List.eq_nil_or_concat st with rfl | ⟨ini, x, rfl⟩
          · exact absurd el (by simp; omega)
          · refine ⟨.ref p2, rfl, p2, dz, _, rfl, y1, lk_undo, M, p2, bl2, s, ini, x, cu, rfl, by rw [List.concat_eq_append] at a; exact a, fun G' a' e f => ?_⟩
            have b' := b.b2 e y1 w.bj.symm w.cb
            have em := e.m a.pm a.bm
            refine ⟨_, ini, x, cu :: re, rfl, b', a', ?_, ?_, one.keep em (fun o q => e _ _ w.pp.symm w.bp.symm q) (fun o q => e _ _ w.pb.symm w.bb.symm q), ⟨g1.but em, g2.but em⟩, mus hM (B3.p (j := j) e) a' b', tt.b3 (c := 0) (B3.p (j := j) e) b a⟩
            · rw [List.concat_eq_append, List.append_assoc] at ea
              exact ea
            · rw [List.concat_eq_append, List.length_append] at el
              have : [x].length = 1 := rfl
              omega
        · subst e1
          have e0 : st = [] := List.eq_nil_of_length_eq_zero (by omega)
          subst e0
          rw [List.nil_append] at ea
          refine ⟨.ref p2, rfl, M, p2, bl2, s, cu, rfl, a, true, rfl, iteF ?_⟩
          refine ⟨.ref j, rfl, .ref p2, rfl, .ref S2, rfl, _, rfl, S2, _, rfl, SqL.of g1.1, fun S3 n3 => ?_⟩
          have e3 : cutV (Ts'.map V.ref) none (some 1) = (Ts'.take 1).map V.ref := slice_take Ts' 0
          rw [e3]
          have s3 := sameN (o := .lst ((Ts'.take 1).map V.ref)) n3
          have h3 : L2.upd G S3 (.lst ((Ts'.take 1).map V.ref)) S3 = some (.lst ((Ts'.take 1).map V.ref)) := upd_same
          have hst : Sts M G (Ts'.take 1) [cu] := by
            have := g2.take 1
            rw [← ea] at this
            exact this
          have nM := newM hM n3
          have vcu : Vst m cu := a3 _ (by rw [← ea]; exact List.mem_cons_self)
          generalize L2.upd G S3 (.lst ((Ts'.take 1).map V.ref)) = G3 at *
          refine ⟨M, j, c, p2, bl2, S3, _, s, m, [], cu, Ts'.take 1, rfl, b.keep s3, by omega, jM, w.pj, w.bj, a.same s3, ⟨h3, nM⟩, hst.but (ButM.of s3), by decide, vcu, s3 _ _ tt.c, s3 _ _ tt.s, s3 _ _ tt.g, fun Gx u f bx => ⟨true, rfl, iteF ?_⟩⟩
          have e := ButM.trans (ButM.of s3) (But.m u jM)
          have onex := one.keep e (fun o q => u _ _ pj (s3 _ _ q)) fun o q => u _ _ blj (s3 _ _ q)
          have ttx := (tt.same s3).but u (b.keep s3)
          obtain ⟨stp, cp, ap0, ⟨Tp, gp1, gp2⟩, ap2, ap3⟩ := id onex
          refine ⟨.ref j, rfl, .ref p, rfl, .ref S, rfl, M, j, c, p, bl, S, _, s, m, stp, cp, Tp, rfl, bx, by omega, jM, pj, blj, ap0, gp1, gp2, by omega, ap3 _ (last_mem _ _), ttx.c, ttx.s, ttx.g, fun Gy uy fy bfy => ⟨true, rfl, iteF ?_⟩⟩
          exact ⟨_, _, _, _, _, _, _, _, _, rfl, bfy.le (by omega), ttx.but uy bx⟩
    · subst e1
      exact q G e4


end
end K52
end

section
set_option Elab.async false
set_option linter.all false
set_option maxRecDepth 100000
set_option maxHeartbeats 4000000
namespace K52
open PySem PySem.Spec PyProof.Rows L2 GxR Gx Ma

theorem k52_end {l : PySem.W.OpenLaw} {q : Program} {w : World} {K : PySem.W.Frag} {mg : Str → Option Value} {fa : Addr} {c_is_list_of_amounts P_is_list_of_amounts c_is_list_of_strengths P_is_list_of_strengths c_strength_of P_strength_of c_is_list_of_liquids P_is_list_of_liquids : Addr} {E_NothingToUndo : Addr} {C_Pot : Addr} (KL : Kls K mg "Pot" C_Pot) (NA : PNA K C_Pot) (EQC : EqC K C_Pot) (hmg : mg "law" = some (.ref fa))
  (d_is_integer : DF K mg "is_integer" s_is_integer)
  (d_is_within : DF K mg "is_within" s_is_within)
  (d_is_pair_in_lowest_terms : DF K mg "is_pair_in_lowest_terms" s_is_pair_in_lowest_terms)
  (d_is_kept : DF K mg "is_kept" s_is_kept)
  (d_is_list_of_liquids : DC K mg "is_list_of_liquids" s_is_list_of_liquids c_is_list_of_liquids) (t_is_list_of_liquids : PySem.W.tabIn K "is_list_of_liquids" = some (c_is_list_of_liquids, P_is_list_of_liquids)) (n_is_list_of_liquids : K.lookup P_is_list_of_liquids = none) (r_is_list_of_liquids : ((recsOf q).any fun e => e.name == ("is_list_of_liquids" : Str)) = true)
  (d_is_row : DF K mg "is_row" s_is_row)
  (d_check_kept : DF K mg "check_kept" s_check_kept)
  (d_check_row : DF K mg "check_row" s_check_row)
  (d_check_liquid : DF K mg "check_liquid" s_check_liquid)
  (d_check_number : DF K mg "check_number" s_check_number)
  (d_check_index : DF K mg "check_index" s_check_index)
  (d_lowest_terms : DF K mg "lowest_terms" s_lowest_terms)
  (d_common_divisor : DF K mg "common_divisor" s_common_divisor)
  (d_without_divisor : DF K mg "without_divisor" s_without_divisor)
  (d_is_content : DF K mg "is_content" s_is_content)
  (d_pure_content : DF K mg "pure_content" s_pure_content)
  (d_is_list_of_amounts : DC K mg "is_list_of_amounts" s_is_list_of_amounts c_is_list_of_amounts) (t_is_list_of_amounts : PySem.W.tabIn K "is_list_of_amounts" = some (c_is_list_of_amounts, P_is_list_of_amounts)) (n_is_list_of_amounts : K.lookup P_is_list_of_amounts = none) (r_is_list_of_amounts : ((recsOf q).any fun e => e.name == ("is_list_of_amounts" : Str)) = true)
  (d_check_content : DF K mg "check_content" s_check_content)
  (d_strength_of : DC K mg "strength_of" s_strength_of c_strength_of) (t_strength_of : PySem.W.tabIn K "strength_of" = some (c_strength_of, P_strength_of)) (n_strength_of : K.lookup P_strength_of = none) (r_strength_of : ((recsOf q).any fun e => e.name == ("strength_of" : Str)) = true)
  (d_check_strengths : DF K mg "check_strengths" s_check_strengths)
  (d_is_list_of_strengths : DC K mg "is_list_of_strengths" s_is_list_of_strengths c_is_list_of_strengths) (t_is_list_of_strengths : PySem.W.tabIn K "is_list_of_strengths" = some (c_is_list_of_strengths, P_is_list_of_strengths)) (n_is_list_of_strengths : K.lookup P_is_list_of_strengths = none) (r_is_list_of_strengths : ((recsOf q).any fun e => e.name == ("is_list_of_strengths" : Str)) = true)
  (d_content_behind : DF K mg "content_behind" s_content_behind)
  (d_contents_by : DF K mg "contents_by" s_contents_by)
  (d_Pot___init__ : DM K C_Pot "__init__" "Pot.__init__" s_Pot___init__)
  (d_Pot_liquids : DP K C_Pot "liquids" "Pot.liquids" s_Pot_liquids)
  (d_Pot_start : DP K C_Pot "start" "Pot.start" s_Pot_start)
  (d_Pot_kept : DP K C_Pot "kept" "Pot.kept" s_Pot_kept)
  (d_Pot_content : DP K C_Pot "content" "Pot.content" s_Pot_content)
  (d_Pot_past : DP K C_Pot "past" "Pot.past" s_Pot_past)
  (d_Pot_top_up : DM K C_Pot "top_up" "Pot.top_up" s_Pot_top_up)
  (d_Pot_pour : DM K C_Pot "pour" "Pot.pour" s_Pot_pour)
  (d_Pot_keep : DM K C_Pot "keep" "Pot.keep" s_Pot_keep)
  (d_Pot_undo : DM K C_Pot "undo" "Pot.undo" s_Pot_undo)
  (d_Pot_mark : DM K C_Pot "mark" "Pot.mark" s_Pot_mark)
  (d_Pot_undo_to : DM K C_Pot "undo_to" "Pot.undo_to" s_Pot_undo_to)
  (d_Pot_twin : DM K C_Pot "twin" "Pot.twin" s_Pot_twin)
  (d_Pot_strength : DM K C_Pot "strength" "Pot.strength" s_Pot_strength)
  (d_Pot___len__ : DM K C_Pot "__len__" "Pot.__len__" s_Pot___len__)
  (d_Pot__pour_all : DM K C_Pot "_pour_all" "Pot._pour_all" s_Pot__pour_all)
  (d_Pot__go_on : DM K C_Pot "_go_on" "Pot._go_on" s_Pot__go_on)
  (d__law_bag : DF K mg "_law_bag" s__law_bag)
  (d__law_stirred : DF K mg "_law_stirred" s__law_stirred)
  (d__law_draw : DF K mg "_law_draw" s__law_draw)
  (d__law_alike : DF K mg "_law_alike" s__law_alike)
  (d__law_common : DF K mg "_law_common" s__law_common)
  (d__law_simple : DF K mg "_law_simple" s__law_simple)
  (d__law_held : DF K mg "_law_held" s__law_held)
  (d__law_reduced : DF K mg "_law_reduced" s__law_reduced)
  (d__law_behind : DF K mg "_law_behind" s__law_behind)
  (d__law_same : DF K mg "_law_same" s__law_same)
  (d__law_undone : DF K mg "_law_undone" s__law_undone)
  (d__law_step : DF K mg "_law_step" s__law_step)
  (d_law : DF K mg "law" s_law)
  (b_abs : mg "abs" = none) (b_all : mg "all" = none) (b_bool : mg "bool" = none) (b_int : mg "int" = none) (b_isinstance : mg "isinstance" = none) (b_len : mg "len" = none) (b_list : mg "list" = none) (b_property : mg "property" = none) (b_range : mg "range" = none) (b_str : mg "str" = none) (b_sum : mg "sum" = none) (b_tuple : mg "tuple" = none) (b_type : mg "type" = none) (b_zip : mg "zip" = none) (b_MOST_LIQUIDS : ∃ t, mg "MOST_LIQUIDS" = some (.int 8 t)) (b_MOST_PARTS : ∃ t, mg "MOST_PARTS" = some (.int 100 t)) (b_MOST_TOP_UPS : ∃ t, mg "MOST_TOP_UPS" = some (.int 60 t)) (b_gcd : mg "gcd" = some (.builtin "math.gcd")) (e_NothingToUndo : Er K mg "NothingToUndo" E_NothingToUndo) : Gx.LawE l q w K 13 63 "script" mg fa := by
  have B : Bl mg := { abs := b_abs, all := b_all, bool := b_bool, int := b_int, isinstance := b_isinstance, len := b_len, list := b_list, property := b_property, range := b_range, str := b_str, sum := b_sum, tuple := b_tuple, type := b_type, zip := b_zip, MOST_LIQUIDS := b_MOST_LIQUIDS, MOST_PARTS := b_MOST_PARTS, MOST_TOP_UPS := b_MOST_TOP_UPS, gcd := b_gcd }
  obtain ⟨f, fd, F0, m0⟩ := d_law.ex
  obtain rfl : f = fa := by
    rw [m0] at hmg
    cases hmg
    rfl
  refine ⟨fd, [("is_list_of_amounts", c_is_list_of_amounts, P_is_list_of_amounts), ("is_list_of_strengths", c_is_list_of_strengths, P_is_list_of_strengths), ("strength_of", c_strength_of, P_strength_of), ("is_list_of_liquids", c_is_list_of_liquids, P_is_list_of_liquids)], sp_law K P_is_list_of_amounts P_is_list_of_strengths P_strength_of P_is_list_of_liquids, ?_, ?_, ?_, ?_⟩
  · simp only [List.forall_mem_cons, List.not_mem_nil, false_imp_iff, implies_true, and_true]
    exact ⟨⟨t_is_list_of_amounts, r_is_list_of_amounts, n_is_list_of_amounts⟩, ⟨t_is_list_of_strengths, r_is_list_of_strengths, n_is_list_of_strengths⟩, ⟨t_strength_of, r_strength_of, n_strength_of⟩, ⟨t_is_list_of_liquids, r_is_list_of_liquids, n_is_list_of_liquids⟩⟩
  · intro s u
    obtain ⟨oc, od, kV, doc, pm, an, cdv, ct, osl, rfl, lk, hcd⟩ := F0.ex
    exact .of_eq rfl
  · intro H a ns hl _ hT hs
    simp only [List.forall_mem_cons, List.not_mem_nil, false_imp_iff, implies_true, and_true] at hT ⊢
    exact ⟨a, ns, rfl, hs, hl, ⟨hT.1, hT.2.1, hT.2.2.1, hT.2.2.2⟩, fun H1 t1 => ⟨rfl, t1.c, t1.s, t1.g, t1.t⟩⟩
  intro base _ _ TBs
  simp only [List.forall_mem_cons, List.not_mem_nil, false_imp_iff, implies_true, and_true] at TBs
  obtain ⟨TB_is_list_of_amounts, TB_is_list_of_strengths, TB_strength_of, TB_is_list_of_liquids⟩ := TBs
  have C__law_bag : Cal l.prog w K mg base 1 "_law_bag" ["script"] ((sp_bag K)) := cal_mk d__law_bag bd__law_bag fun f fd F => ok__law_bag F B
  have C__law_stirred : Cal l.prog w K mg base 1 "_law_stirred" ["bag", "wide"] ((sp_stirred)) := cal_mk d__law_stirred bd__law_stirred fun f fd F => ok__law_stirred F B
  have C__law_draw : Cal l.prog w K mg base 2 "_law_draw" ["bag", "wide"] ((sp_draw)) := cal_mk d__law_draw bd__law_draw fun f fd F => ok__law_draw F B C__law_stirred
  have C__law_common : Cal l.prog w K mg base 1 "_law_common" ["one", "two"] ((sp_common)) := cal_mk d__law_common bd__law_common fun f fd F => ok__law_common F B
  have C__law_simple : Cal l.prog w K mg base 2 "_law_simple" ["top", "bottom"] ((sp_low)) := cal_mk d__law_simple bd__law_simple fun f fd F => ok__law_simple F B C__law_common
  have C__law_held : Cal l.prog w K mg base 3 "_law_held" ["bag", "most"] ((sp_held)) := cal_mk d__law_held bd__law_held fun f fd F => ok__law_held F B C__law_draw C__law_simple
  have C_is_integer : Cal l.prog w K mg base 1 "is_integer" ["thing"] ((sp_is_integer)) := cal_mk d_is_integer bd_is_integer fun f fd F => ok_is_integer F B
  have C_is_within : Cal l.prog w K mg base 2 "is_within" ["thing", "least", "most"] ((sp_is_within)) := cal_mk d_is_within bd_is_within fun f fd F => ok_is_within F B C_is_integer
  have C_check_number : Cal l.prog w K mg base 3 "check_number" ["number", "least", "most"] ((sp_check_number)) := cal_mk d_check_number bd_check_number fun f fd F => ok_check_number F B C_is_within
  have C_check_liquid : Cal l.prog w K mg base 3 "check_liquid" ["liquid", "liquids"] ((sp_check_liquid)) := cal_mk d_check_liquid bd_check_liquid fun f fd F => ok_check_liquid F B C_is_within
  have C_is_pair_in_lowest_terms : Cal l.prog w K mg base 2 "is_pair_in_lowest_terms" ["thing"] ((sp_is_pair)) := cal_mk d_is_pair_in_lowest_terms bd_is_pair_in_lowest_terms fun f fd F => ok_is_pair_in_lowest_terms F B C_is_integer
  have C_is_kept : Cal l.prog w K mg base 3 "is_kept" ["thing"] ((sp_is_kept)) := cal_mk d_is_kept bd_is_kept fun f fd F => ok_is_kept F B C_is_pair_in_lowest_terms
  have C_check_kept : Cal l.prog w K mg base 4 "check_kept" ["kept"] ((sp_check_kept)) := cal_mk d_check_kept bd_check_kept fun f fd F => ok_check_kept F B C_is_kept
  have C_pure_content : Cal l.prog w K mg base 4 "pure_content" ["count", "liquid"] ((sp_pure_content)) := cal_mk d_pure_content bd_pure_content fun f fd F => ok_pure_content F B C_check_number C_check_liquid
  have MK_Pot : Mkr l.prog w K mg base 5 C_Pot "Pot" ["self", "count", "start", "kept"] ((sp_init C_Pot)) := mkr_mk d_Pot___init__ KL.made KL.kp KL.at_ bd_Pot___init__ fun f fd F => ok_Pot___init__ F B KL NA C_check_number C_check_liquid C_check_kept C_pure_content
  have MWK_Pot : MkrK l.prog w K mg base 5 C_Pot "Pot" ["self", "count", "start", "kept"] ["kept", "start", "count"] [2, 1, 0] ((sp_init C_Pot)) := mkrK_mk d_Pot___init__ KL.made KL.kp KL.at_ (fun f fd F => kb_mk F fun _ _ _ _ _ _ u ws hl => match ws, hl with | [_, _, _], _ => rfl) fun f fd F => ok_Pot___init__ F B KL NA C_check_number C_check_liquid C_check_kept C_pure_content
  have MX_Pot_undo : MtE l.prog w K mg base 1 C_Pot "undo" ["self"] ((sp_undoX C_Pot E_NothingToUndo)) := mtE_mk d_Pot_undo bd_Pot_undo fun f fd F => ok_Pot_undoX F B e_NothingToUndo KL NA
  have M_Pot_undo : Mt l.prog w K mg base 1 C_Pot "undo" ["self"] ((sp_undo C_Pot)) := mt_mk d_Pot_undo bd_Pot_undo fun f fd F => ok_Pot_undo F B KL NA
  have C__law_undone : Cal l.prog w K mg base 2 "_law_undone" ["pot"] ((sp_lundone C_Pot)) := cal_mk d__law_undone bd__law_undone fun f fd F => ok__law_undone F B e_NothingToUndo KL NA MX_Pot_undo
  have CA : ∀ n, Cal l.prog w K mg base (n + 2) "_law_alike" ["found", "due"] (sp_alikeT n) := fun n => by
    induction n with
    | zero => exact cal_mk d__law_alike bd__law_alike fun f fd F => ok__law_alike F B (m := 0) (spI := fun _ _ _ _ => False) (fun n h => by cases h) (cal_mk d__law_alike bd__law_alike fun f fd F => ok__law_alikeF F)
    | succ n ih => exact cal_mk d__law_alike bd__law_alike fun f fd F => ok__law_alike F B (m := n + 1) (spI := sp_alikeT n) (fun k h => by cases h; rfl) ih
  have C__law_alike : Cal l.prog w K mg base 6 "_law_alike" ["found", "due"] (sp_alikeT 4) := CA 4
  have R_Pot_content : Pr l.prog w K mg base 1 C_Pot "content" ((sp_content C_Pot)) := pr_mk d_Pot_content bd_Pot_content fun f fd F => ok_Pot_content F B KL NA
  have R_Pot_past : Pr l.prog w K mg base 1 C_Pot "past" ((sp_past C_Pot)) := pr_mk d_Pot_past bd_Pot_past fun f fd F => ok_Pot_past F B KL NA
  have R_Pot_kept : Pr l.prog w K mg base 1 C_Pot "kept" ((sp_kept C_Pot)) := pr_mk d_Pot_kept bd_Pot_kept fun f fd F => ok_Pot_kept F B KL NA
  have M_Pot___len__ : Mt l.prog w K mg base 1 C_Pot "__len__" ["self"] ((sp_mark C_Pot)) := mt_mk d_Pot___len__ bd_Pot___len__ fun f fd F => ok_Pot___len__ F B KL NA
  have M_Pot_mark : Mt l.prog w K mg base 1 C_Pot "mark" ["self"] ((sp_mark C_Pot)) := mt_mk d_Pot_mark bd_Pot_mark fun f fd F => ok_Pot_mark F B KL NA
  have C_is_list_of_amounts : Cal l.prog w K mg base 5 "is_list_of_amounts" ["thing"] ((sp_is_list_of_amounts P_is_list_of_amounts)) := calC_mk d_is_list_of_amounts bd_is_list_of_amounts fun f fd F => ok_is_list_of_amounts F B C_is_integer TB_is_list_of_amounts
  have C_common_divisor : Cal l.prog w K mg base 1 "common_divisor" ["numbers"] ((sp_common_divisor)) := cal_mk d_common_divisor bd_common_divisor fun f fd F => ok_common_divisor F B
  have C_is_content : Cal l.prog w K mg base 6 "is_content" ["thing"] ((sp_is_content P_is_list_of_amounts)) := cal_mk d_is_content bd_is_content fun f fd F => ok_is_content F B C_is_list_of_amounts C_common_divisor
  have C_check_content : Cal l.prog w K mg base 7 "check_content" ["content"] ((sp_check_content P_is_list_of_amounts)) := cal_mk d_check_content bd_check_content fun f fd F => ok_check_content F B C_is_content
  have C_is_list_of_strengths : Cal l.prog w K mg base 5 "is_list_of_strengths" ["thing"] ((sp_is_strs P_is_list_of_strengths)) := calC_mk d_is_list_of_strengths bd_is_list_of_strengths fun f fd F => ok_is_list_of_strengths F B C_is_integer TB_is_list_of_strengths
  have C_check_strengths : Cal l.prog w K mg base 6 "check_strengths" ["strengths"] ((sp_check_strs P_is_list_of_strengths)) := cal_mk d_check_strengths bd_check_strengths fun f fd F => ok_check_strengths F B C_is_list_of_strengths
  have C_lowest_terms : Cal l.prog w K mg base 1 "lowest_terms" ["top", "bottom"] ((sp_low)) := cal_mk d_lowest_terms bd_lowest_terms fun f fd F => ok_lowest_terms F B
  have C_strength_of : Cal l.prog w K mg base 8 "strength_of" ["content", "strengths"] ((sp_strength P_is_list_of_amounts P_is_list_of_strengths P_strength_of)) := calC_mk d_strength_of bd_strength_of fun f fd F => ok_strength_of F B C_check_content C_check_strengths C_lowest_terms TB_strength_of
  have MW_Pot_strength : MtK l.prog w K mg base 9 C_Pot "strength" ["self", "strengths"] ["strengths"] [0] ((sp_pstrength C_Pot P_is_list_of_amounts P_is_list_of_strengths P_strength_of)) := mtK_mk d_Pot_strength (fun f fd F => kb_mk F fun _ _ _ _ _ _ u ws hl => match ws, hl with | [_], _ => rfl) fun f fd F => ok_Pot_strength F B KL NA C_strength_of
  have C__law_same : Cal l.prog w K mg base 12 "_law_same" ["bag", "pot", "states"] ((sp_lsame C_Pot P_is_list_of_amounts P_is_list_of_strengths P_strength_of)) := cal_mk d__law_same bd__law_same fun f fd F => ok__law_same F B KL NA C__law_draw C__law_simple C__law_alike R_Pot_content R_Pot_past R_Pot_kept M_Pot___len__ M_Pot_mark MW_Pot_strength
  have C__law_reduced : Cal l.prog w K mg base 2 "_law_reduced" ["some"] ((sp_without_divisor)) := cal_mk d__law_reduced bd__law_reduced fun f fd F => ok__law_reduced F B C__law_common
  have C__law_behind : Cal l.prog w K mg base 3 "_law_behind" ["some", "held", "k"] ((sp_behind)) := cal_mk d__law_behind bd__law_behind fun f fd F => ok__law_behind F B C__law_reduced
  have R_Pot_liquids : Pr l.prog w K mg base 1 C_Pot "liquids" ((sp_liquids C_Pot)) := pr_mk d_Pot_liquids bd_Pot_liquids fun f fd F => ok_Pot_liquids F B KL NA
  have C_without_divisor : Cal l.prog w K mg base 2 "without_divisor" ["numbers"] ((sp_without_divisor)) := cal_mk d_without_divisor bd_without_divisor fun f fd F => ok_without_divisor F B C_common_divisor
  have C_content_behind : Cal l.prog w K mg base 3 "content_behind" ["content", "kept", "liquid"] ((sp_content_behind)) := cal_mk d_content_behind bd_content_behind fun f fd F => ok_content_behind F B C_without_divisor
  have C_contents_by : Cal l.prog w K mg base 4 "contents_by" ["content", "keeps", "row"] ((sp_contents_by)) := cal_mk d_contents_by bd_contents_by fun f fd F => ok_contents_by F B C_content_behind
  have M_Pot__go_on : Mt l.prog w K mg base 1 C_Pot "_go_on" ["self", "kept", "content", "past"] ((sp_go_on C_Pot)) := mt_mk d_Pot__go_on bd_Pot__go_on fun f fd F => ok_Pot__go_on F B KL NA
  have M_Pot__pour_all : Mt l.prog w K mg base 5 C_Pot "_pour_all" ["self", "row"] ((sp_pour_all C_Pot)) := mt_mk d_Pot__pour_all bd_Pot__pour_all fun f fd F => ok_Pot__pour_all F B KL NA C_contents_by M_Pot__go_on
  have MW_Pot_top_up : MtK l.prog w K mg base 6 C_Pot "top_up" ["self", "liquid"] ["liquid"] [0] ((sp_top_up C_Pot)) := mtK_mk d_Pot_top_up (fun f fd F => kb_mk F fun _ _ _ _ _ _ u ws hl => match ws, hl with | [_], _ => rfl) fun f fd F => ok_Pot_top_up F B KL NA R_Pot_liquids M_Pot__pour_all C_check_liquid
  have C_is_list_of_liquids : Cal l.prog w K mg base 6 "is_list_of_liquids" ["thing", "liquids"] ((sp_is_list_of_liquids P_is_list_of_liquids)) := calC_mk d_is_list_of_liquids bd_is_list_of_liquids fun f fd F => ok_is_list_of_liquids F B C_is_within TB_is_list_of_liquids
  have C_is_row : Cal l.prog w K mg base 7 "is_row" ["thing", "liquids"] ((sp_is_row P_is_list_of_liquids)) := cal_mk d_is_row bd_is_row fun f fd F => ok_is_row F B C_is_list_of_liquids
  have C_check_row : Cal l.prog w K mg base 8 "check_row" ["row", "liquids"] ((sp_check_row P_is_list_of_liquids)) := cal_mk d_check_row bd_check_row fun f fd F => ok_check_row F B C_is_row
  have MW_Pot_pour : MtK l.prog w K mg base 9 C_Pot "pour" ["self", "row"] ["row"] [0] ((sp_pour C_Pot P_is_list_of_liquids)) := mtK_mk d_Pot_pour (fun f fd F => kb_mk F fun _ _ _ _ _ _ u ws hl => match ws, hl with | [_], _ => rfl) fun f fd F => ok_Pot_pour F B KL NA R_Pot_liquids M_Pot__pour_all C_check_row
  have MW_Pot_keep : MtK l.prog w K mg base 5 C_Pot "keep" ["self", "kept"] ["kept"] [0] ((sp_keep C_Pot)) := mtK_mk d_Pot_keep (fun f fd F => kb_mk F fun _ _ _ _ _ _ u ws hl => match ws, hl with | [_], _ => rfl) fun f fd F => ok_Pot_keep F B KL NA C_check_kept M_Pot__go_on
  have C_check_index : Cal l.prog w K mg base 3 "check_index" ["index", "most"] ((sp_check_index)) := cal_mk d_check_index bd_check_index fun f fd F => ok_check_index F B C_is_within
  have MW_Pot_undo_to : MtK l.prog w K mg base 4 C_Pot "undo_to" ["self", "index"] ["index"] [0] ((sp_undo_to C_Pot)) := mtK_mk d_Pot_undo_to (fun f fd F => kb_mk F fun _ _ _ _ _ _ u ws hl => match ws, hl with | [_], _ => rfl) fun f fd F => ok_Pot_undo_to F B KL NA C_check_index M_Pot_undo
  have C__law_step : Cal l.prog w K mg base 12 "_law_step" ["bag", "pot", "states", "many"] ((sp_lstp C_Pot P_is_list_of_liquids)) := cal_mk d__law_step bd__law_step fun f fd F => ok__law_step F B KL NA C__law_draw C__law_held C__law_behind MW_Pot_top_up MW_Pot_pour MW_Pot_keep MW_Pot_undo_to M_Pot_undo
  have R_Pot_start : Pr l.prog w K mg base 1 C_Pot "start" ((sp_start C_Pot)) := pr_mk d_Pot_start bd_Pot_start fun f fd F => ok_Pot_start F B KL NA
  have M_Pot_twin : Mt l.prog w K mg base 7 C_Pot "twin" ["self"] ((sp_twin C_Pot)) := mt_mk d_Pot_twin bd_Pot_twin fun f fd F => ok_Pot_twin F B KL NA R_Pot_liquids MK_Pot
  exact ok_law F0 B KL NA EQC C__law_bag C__law_draw C__law_held MWK_Pot C__law_undone C__law_same C__law_step R_Pot_liquids R_Pot_start M_Pot_twin M_Pot_undo

end K52
end

section
set_option Elab.async false
set_option linter.all false
set_option maxRecDepth 100000
namespace HX
open PySem
def l0 : List PySem.Str := ["_wall", "__name__", "PotError", "InvalidContent", "InvalidKept", "InvalidRow", "InvalidStrengths", "InvalidLiquid", "InvalidIndex", "InvalidNumber", "NothingToUndo", "MOST_LIQUIDS", "MOST_TOP_UPS", "MOST_PARTS", "is_integer", "is_within"]
def l1 : List PySem.Str := ["is_pair_in_lowest_terms", "is_kept", "is_row", "check_kept", "check_row", "check_liquid", "check_number", "check_index", "lowest_terms", "common_divisor", "without_divisor", "is_content", "pure_content", "check_content", "check_strengths", "content_behind"]
def l2 : List PySem.Str := ["contents_by", "Pot", "_law_bag", "_law_stirred", "_law_draw", "_law_alike", "_law_common", "_law_simple", "_law_held", "_law_point", "_law_reduced", "_law_drawn", "_law_behind", "_law_same", "_law_undone", "_law_step"]
def loose : List PySem.Str := l0 ++ (l1 ++ (l2))
end HX
open PySem PySem.W PyProof.Rows K52 Gx
local macro_rules | `(tactic| o_head ($f:ident $k $as $p)) => `(tactic| refine HeadRun.head_imp (r := (OpenLaw.row PySem.Challenge.rw_topups_k52_pots_call_by_call)) (q := view (OpenLaw.row PySem.Challenge.rw_topups_k52_pots_call_by_call).prog [0, 20, 33, 36, 38, 59]) (H := $f:ident $k $as $p) (ob := fun s => List.map (HeadRun.getT s) $as) (M := 20000) (loose := HX.loose) (d := HeadRun.topDef (OpenLaw.row PySem.Challenge.rw_topups_k52_pots_call_by_call).prog 59) (kwd := []) (fun s => congrArg (fun g => List.map g $as) (funext (HeadRun.getT_eq s)))
    (fun w => by unfold HeadRun.RunEqI; kernel_rfl) (by kernel_rfl) (by kernel_rfl) (by kernel_rfl) (by rfl) (by first | assumption | decide +kernel) (by decide +kernel) ⟨rfl, rfl, rfl, rfl, rfl, by decide +kernel⟩ ?hw ?hc)
set_option maxHeartbeats 0 in
theorem PySem.Challenge.cw_topups_k52_pots_call_by_call_holds : PySem.Challenge.rw_topups_k52_pots_call_by_call.Holds := by
  w_on; o_law; k_head; (case hw => w_witness2)
  k_fill
  refine Gx.walk_E (l := PySem.Challenge.rw_topups_k52_pots_call_by_call) (n := 63) (k := 13) (x := "script") rfl (by decide) rfl ⟨rfl, by decide, by decide⟩ (fun w h Y => PySem.W.kIn_of Y) ?F
  case F =>
    intro w mg fa h KX G hmg
    refine' Gx.with_kls (x := "Pot") KX G ?a0 ?l0 ?c0 ?k0 ?t0 ?r0 ?n0 ?go0
    (case a0 => k_is); (case l0 => k_is); (case c0 => k_is); (case k0 => k_is); (case t0 => k_is); (case r0 => k_is); (case n0 => k_is)
    intro KL
    refine' Gx.with_na2 (f := "_start") KL ?a1 ?go1
    (case a1 => k_is)
    intro na_start
    refine' Gx.with_na2 (f := "_kept") KL ?a2 ?go2
    (case a2 => k_is)
    intro na_kept
    refine' Gx.with_na2 (f := "_content") KL ?a3 ?go3
    (case a3 => k_is)
    intro na_content
    refine' Gx.with_na2 (f := "_past") KL ?a4 ?go4
    (case a4 => k_is)
    intro na_past
    refine' Gx.with_na2 (f := "_before") KL ?a5 ?go5
    (case a5 => k_is)
    intro na_before
    refine' with_df (x := "is_integer") (st := s_is_integer) KX G ?a6 ?l6 ?c6 ?k6 ?go6
    (case a6 => k_is); (case l6 => k_is); (case c6 => k_is); (case k6 => k_is)
    intro d_is_integer
    refine' with_df (x := "is_within") (st := s_is_within) KX G ?a7 ?l7 ?c7 ?k7 ?go7
    (case a7 => k_is); (case l7 => k_is); (case c7 => k_is); (case k7 => k_is)
    intro d_is_within
    refine' with_df (x := "is_pair_in_lowest_terms") (st := s_is_pair_in_lowest_terms) KX G ?a8 ?l8 ?c8 ?k8 ?go8
    (case a8 => k_is); (case l8 => k_is); (case c8 => k_is); (case k8 => k_is)
    intro d_is_pair_in_lowest_terms
    refine' with_df (x := "is_kept") (st := s_is_kept) KX G ?a9 ?l9 ?c9 ?k9 ?go9
    (case a9 => k_is); (case l9 => k_is); (case c9 => k_is); (case k9 => k_is)
    intro d_is_kept
    refine' with_dc (x := "is_list_of_liquids") (st := s_is_list_of_liquids) KX G ?a10 ?l10 ?c10 ?k10 ?t10 ?r10 ?n10 ?go10
    (case a10 => k_is); (case l10 => k_is); (case c10 => k_is); (case k10 => k_is); (case t10 => k_is); (case r10 => rfl); (case n10 => first | kernel_rfl | rfl | decide +kernel)
    intro c_is_list_of_liquids P_is_list_of_liquids d_is_list_of_liquids t_is_list_of_liquids n_is_list_of_liquids
    refine' with_df (x := "is_row") (st := s_is_row) KX G ?a11 ?l11 ?c11 ?k11 ?go11
    (case a11 => k_is); (case l11 => k_is); (case c11 => k_is); (case k11 => k_is)
    intro d_is_row
    refine' with_df (x := "check_kept") (st := s_check_kept) KX G ?a12 ?l12 ?c12 ?k12 ?go12
    (case a12 => k_is); (case l12 => k_is); (case c12 => k_is); (case k12 => k_is)
    intro d_check_kept
    refine' with_df (x := "check_row") (st := s_check_row) KX G ?a13 ?l13 ?c13 ?k13 ?go13
    (case a13 => k_is); (case l13 => k_is); (case c13 => k_is); (case k13 => k_is)
    intro d_check_row
    refine' with_df (x := "check_liquid") (st := s_check_liquid) KX G ?a14 ?l14 ?c14 ?k14 ?go14
    (case a14 => k_is); (case l14 => k_is); (case c14 => k_is); (case k14 => k_is)
    intro d_check_liquid
    refine' with_df (x := "check_number") (st := s_check_number) KX G ?a15 ?l15 ?c15 ?k15 ?go15
    (case a15 => k_is); (case l15 => k_is); (case c15 => k_is); (case k15 => k_is)
    intro d_check_number
    refine' with_df (x := "check_index") (st := s_check_index) KX G ?a16 ?l16 ?c16 ?k16 ?go16
    (case a16 => k_is); (case l16 => k_is); (case c16 => k_is); (case k16 => k_is)
    intro d_check_index
    refine' with_df (x := "lowest_terms") (st := s_lowest_terms) KX G ?a17 ?l17 ?c17 ?k17 ?go17
    (case a17 => k_is); (case l17 => k_is); (case c17 => k_is); (case k17 => k_is)
    intro d_lowest_terms
    refine' with_df (x := "common_divisor") (st := s_common_divisor) KX G ?a18 ?l18 ?c18 ?k18 ?go18
    (case a18 => k_is); (case l18 => k_is); (case c18 => k_is); (case k18 => k_is)
    intro d_common_divisor
    refine' with_df (x := "without_divisor") (st := s_without_divisor) KX G ?a19 ?l19 ?c19 ?k19 ?go19
    (case a19 => k_is); (case l19 => k_is); (case c19 => k_is); (case k19 => k_is)
    intro d_without_divisor
    refine' with_df (x := "is_content") (st := s_is_content) KX G ?a20 ?l20 ?c20 ?k20 ?go20
    (case a20 => k_is); (case l20 => k_is); (case c20 => k_is); (case k20 => k_is)
    intro d_is_content
    refine' with_df (x := "pure_content") (st := s_pure_content) KX G ?a21 ?l21 ?c21 ?k21 ?go21
    (case a21 => k_is); (case l21 => k_is); (case c21 => k_is); (case k21 => k_is)
    intro d_pure_content
    refine' with_dc (x := "is_list_of_amounts") (st := s_is_list_of_amounts) KX G ?a22 ?l22 ?c22 ?k22 ?t22 ?r22 ?n22 ?go22
    (case a22 => k_is); (case l22 => k_is); (case c22 => k_is); (case k22 => k_is); (case t22 => k_is); (case r22 => rfl); (case n22 => first | kernel_rfl | rfl | decide +kernel)
    intro c_is_list_of_amounts P_is_list_of_amounts d_is_list_of_amounts t_is_list_of_amounts n_is_list_of_amounts
    refine' with_df (x := "check_content") (st := s_check_content) KX G ?a23 ?l23 ?c23 ?k23 ?go23
    (case a23 => k_is); (case l23 => k_is); (case c23 => k_is); (case k23 => k_is)
    intro d_check_content
    refine' with_dc (x := "strength_of") (st := s_strength_of) KX G ?a24 ?l24 ?c24 ?k24 ?t24 ?r24 ?n24 ?go24
    (case a24 => k_is); (case l24 => k_is); (case c24 => k_is); (case k24 => k_is); (case t24 => k_is); (case r24 => rfl); (case n24 => first | kernel_rfl | rfl | decide +kernel)
    intro c_strength_of P_strength_of d_strength_of t_strength_of n_strength_of
    refine' with_df (x := "check_strengths") (st := s_check_strengths) KX G ?a25 ?l25 ?c25 ?k25 ?go25
    (case a25 => k_is); (case l25 => k_is); (case c25 => k_is); (case k25 => k_is)
    intro d_check_strengths
    refine' with_dc (x := "is_list_of_strengths") (st := s_is_list_of_strengths) KX G ?a26 ?l26 ?c26 ?k26 ?t26 ?r26 ?n26 ?go26
    (case a26 => k_is); (case l26 => k_is); (case c26 => k_is); (case k26 => k_is); (case t26 => k_is); (case r26 => rfl); (case n26 => first | kernel_rfl | rfl | decide +kernel)
    intro c_is_list_of_strengths P_is_list_of_strengths d_is_list_of_strengths t_is_list_of_strengths n_is_list_of_strengths
    refine' with_df (x := "content_behind") (st := s_content_behind) KX G ?a27 ?l27 ?c27 ?k27 ?go27
    (case a27 => k_is); (case l27 => k_is); (case c27 => k_is); (case k27 => k_is)
    intro d_content_behind
    refine' with_df (x := "contents_by") (st := s_contents_by) KX G ?a28 ?l28 ?c28 ?k28 ?go28
    (case a28 => k_is); (case l28 => k_is); (case c28 => k_is); (case k28 => k_is)
    intro d_contents_by
    refine' Gx.with_meth2 KL (x := "__init__") (qual := "Pot.__init__") (st := s_Pot___init__) ?a29 ?l29 ?c29 ?k29 ?t29 ?go29
    (case a29 => k_is); (case l29 => k_is); (case c29 => k_is); (case k29 => k_is); (case t29 => k_is)
    intro d_Pot___init__
    refine' Gx.with_prop2 KL (x := "liquids") (qual := "Pot.liquids") (st := s_Pot_liquids) ?a30 ?l30 ?c30 ?k30 ?t30 ?r30 ?n30 ?go30
    (case a30 => k_is); (case l30 => k_is); (case c30 => k_is); (case k30 => k_is); (case t30 => k_is); (case r30 => k_is); (case n30 => k_is)
    intro d_Pot_liquids
    refine' Gx.with_prop2 KL (x := "start") (qual := "Pot.start") (st := s_Pot_start) ?a31 ?l31 ?c31 ?k31 ?t31 ?r31 ?n31 ?go31
    (case a31 => k_is); (case l31 => k_is); (case c31 => k_is); (case k31 => k_is); (case t31 => k_is); (case r31 => k_is); (case n31 => k_is)
    intro d_Pot_start
    refine' Gx.with_prop2 KL (x := "kept") (qual := "Pot.kept") (st := s_Pot_kept) ?a32 ?l32 ?c32 ?k32 ?t32 ?r32 ?n32 ?go32
    (case a32 => k_is); (case l32 => k_is); (case c32 => k_is); (case k32 => k_is); (case t32 => k_is); (case r32 => k_is); (case n32 => k_is)
    intro d_Pot_kept
    refine' Gx.with_prop2 KL (x := "content") (qual := "Pot.content") (st := s_Pot_content) ?a33 ?l33 ?c33 ?k33 ?t33 ?r33 ?n33 ?go33
    (case a33 => k_is); (case l33 => k_is); (case c33 => k_is); (case k33 => k_is); (case t33 => k_is); (case r33 => k_is); (case n33 => k_is)
    intro d_Pot_content
    refine' Gx.with_prop2 KL (x := "past") (qual := "Pot.past") (st := s_Pot_past) ?a34 ?l34 ?c34 ?k34 ?t34 ?r34 ?n34 ?go34
    (case a34 => k_is); (case l34 => k_is); (case c34 => k_is); (case k34 => k_is); (case t34 => k_is); (case r34 => k_is); (case n34 => k_is)
    intro d_Pot_past
    refine' Gx.with_meth2 KL (x := "top_up") (qual := "Pot.top_up") (st := s_Pot_top_up) ?a35 ?l35 ?c35 ?k35 ?t35 ?go35
    (case a35 => k_is); (case l35 => k_is); (case c35 => k_is); (case k35 => k_is); (case t35 => k_is)
    intro d_Pot_top_up
    refine' Gx.with_meth2 KL (x := "pour") (qual := "Pot.pour") (st := s_Pot_pour) ?a36 ?l36 ?c36 ?k36 ?t36 ?go36
    (case a36 => k_is); (case l36 => k_is); (case c36 => k_is); (case k36 => k_is); (case t36 => k_is)
    intro d_Pot_pour
    refine' Gx.with_meth2 KL (x := "keep") (qual := "Pot.keep") (st := s_Pot_keep) ?a37 ?l37 ?c37 ?k37 ?t37 ?go37
    (case a37 => k_is); (case l37 => k_is); (case c37 => k_is); (case k37 => k_is); (case t37 => k_is)
    intro d_Pot_keep
    refine' Gx.with_meth2 KL (x := "undo") (qual := "Pot.undo") (st := s_Pot_undo) ?a38 ?l38 ?c38 ?k38 ?t38 ?go38
    (case a38 => k_is); (case l38 => k_is); (case c38 => k_is); (case k38 => k_is); (case t38 => k_is)
    intro d_Pot_undo
    refine' Gx.with_meth2 KL (x := "mark") (qual := "Pot.mark") (st := s_Pot_mark) ?a39 ?l39 ?c39 ?k39 ?t39 ?go39
    (case a39 => k_is); (case l39 => k_is); (case c39 => k_is); (case k39 => k_is); (case t39 => k_is)
    intro d_Pot_mark
    refine' Gx.with_meth2 KL (x := "undo_to") (qual := "Pot.undo_to") (st := s_Pot_undo_to) ?a40 ?l40 ?c40 ?k40 ?t40 ?go40
    (case a40 => k_is); (case l40 => k_is); (case c40 => k_is); (case k40 => k_is); (case t40 => k_is)
    intro d_Pot_undo_to
    refine' Gx.with_meth2 KL (x := "twin") (qual := "Pot.twin") (st := s_Pot_twin) ?a41 ?l41 ?c41 ?k41 ?t41 ?go41
    (case a41 => k_is); (case l41 => k_is); (case c41 => k_is); (case k41 => k_is); (case t41 => k_is)
    intro d_Pot_twin
    refine' Gx.with_meth2 KL (x := "strength") (qual := "Pot.strength") (st := s_Pot_strength) ?a42 ?l42 ?c42 ?k42 ?t42 ?go42
    (case a42 => k_is); (case l42 => k_is); (case c42 => k_is); (case k42 => k_is); (case t42 => k_is)
    intro d_Pot_strength
    refine' Gx.with_meth2 KL (x := "__len__") (qual := "Pot.__len__") (st := s_Pot___len__) ?a43 ?l43 ?c43 ?k43 ?t43 ?go43
    (case a43 => k_is); (case l43 => k_is); (case c43 => k_is); (case k43 => k_is); (case t43 => k_is)
    intro d_Pot___len__
    refine' Gx.with_meth2 KL (x := "_pour_all") (qual := "Pot._pour_all") (st := s_Pot__pour_all) ?a44 ?l44 ?c44 ?k44 ?t44 ?go44
    (case a44 => k_is); (case l44 => k_is); (case c44 => k_is); (case k44 => k_is); (case t44 => k_is)
    intro d_Pot__pour_all
    refine' Gx.with_meth2 KL (x := "_go_on") (qual := "Pot._go_on") (st := s_Pot__go_on) ?a45 ?l45 ?c45 ?k45 ?t45 ?go45
    (case a45 => k_is); (case l45 => k_is); (case c45 => k_is); (case k45 => k_is); (case t45 => k_is)
    intro d_Pot__go_on
    refine' with_df (x := "_law_bag") (st := s__law_bag) KX G ?a46 ?l46 ?c46 ?k46 ?go46
    (case a46 => k_is); (case l46 => k_is); (case c46 => k_is); (case k46 => k_is)
    intro d__law_bag
    refine' with_df (x := "_law_stirred") (st := s__law_stirred) KX G ?a47 ?l47 ?c47 ?k47 ?go47
    (case a47 => k_is); (case l47 => k_is); (case c47 => k_is); (case k47 => k_is)
    intro d__law_stirred
    refine' with_df (x := "_law_draw") (st := s__law_draw) KX G ?a48 ?l48 ?c48 ?k48 ?go48
    (case a48 => k_is); (case l48 => k_is); (case c48 => k_is); (case k48 => k_is)
    intro d__law_draw
    refine' with_df (x := "_law_alike") (st := s__law_alike) KX G ?a49 ?l49 ?c49 ?k49 ?go49
    (case a49 => k_is); (case l49 => k_is); (case c49 => k_is); (case k49 => k_is)
    intro d__law_alike
    refine' with_df (x := "_law_common") (st := s__law_common) KX G ?a50 ?l50 ?c50 ?k50 ?go50
    (case a50 => k_is); (case l50 => k_is); (case c50 => k_is); (case k50 => k_is)
    intro d__law_common
    refine' with_df (x := "_law_simple") (st := s__law_simple) KX G ?a51 ?l51 ?c51 ?k51 ?go51
    (case a51 => k_is); (case l51 => k_is); (case c51 => k_is); (case k51 => k_is)
    intro d__law_simple
    refine' with_df (x := "_law_held") (st := s__law_held) KX G ?a52 ?l52 ?c52 ?k52 ?go52
    (case a52 => k_is); (case l52 => k_is); (case c52 => k_is); (case k52 => k_is)
    intro d__law_held
    refine' with_df (x := "_law_reduced") (st := s__law_reduced) KX G ?a53 ?l53 ?c53 ?k53 ?go53
    (case a53 => k_is); (case l53 => k_is); (case c53 => k_is); (case k53 => k_is)
    intro d__law_reduced
    refine' with_df (x := "_law_behind") (st := s__law_behind) KX G ?a54 ?l54 ?c54 ?k54 ?go54
    (case a54 => k_is); (case l54 => k_is); (case c54 => k_is); (case k54 => k_is)
    intro d__law_behind
    refine' with_df (x := "_law_same") (st := s__law_same) KX G ?a55 ?l55 ?c55 ?k55 ?go55
    (case a55 => k_is); (case l55 => k_is); (case c55 => k_is); (case k55 => k_is)
    intro d__law_same
    refine' with_df (x := "_law_undone") (st := s__law_undone) KX G ?a56 ?l56 ?c56 ?k56 ?go56
    (case a56 => k_is); (case l56 => k_is); (case c56 => k_is); (case k56 => k_is)
    intro d__law_undone
    refine' with_df (x := "_law_step") (st := s__law_step) KX G ?a57 ?l57 ?c57 ?k57 ?go57
    (case a57 => k_is); (case l57 => k_is); (case c57 => k_is); (case k57 => k_is)
    intro d__law_step
    refine' with_df (x := "law") (st := s_law) KX G ?a58 ?l58 ?c58 ?k58 ?go58
    (case a58 => k_is); (case l58 => k_is); (case c58 => k_is); (case k58 => k_is)
    intro d_law
    refine' with_bl (x := "abs") KX G ?z59 ?go59
    (case z59 => k_is)
    intro b_abs
    refine' with_bl (x := "all") KX G ?z60 ?go60
    (case z60 => k_is)
    intro b_all
    refine' with_bl (x := "bool") KX G ?z61 ?go61
    (case z61 => k_is)
    intro b_bool
    refine' with_bl (x := "int") KX G ?z62 ?go62
    (case z62 => k_is)
    intro b_int
    refine' with_bl (x := "isinstance") KX G ?z63 ?go63
    (case z63 => k_is)
    intro b_isinstance
    refine' with_bl (x := "len") KX G ?z64 ?go64
    (case z64 => k_is)
    intro b_len
    refine' with_bl (x := "list") KX G ?z65 ?go65
    (case z65 => k_is)
    intro b_list
    refine' with_bl (x := "property") KX G ?z66 ?go66
    (case z66 => k_is)
    intro b_property
    refine' with_bl (x := "range") KX G ?z67 ?go67
    (case z67 => k_is)
    intro b_range
    refine' with_bl (x := "str") KX G ?z68 ?go68
    (case z68 => k_is)
    intro b_str
    refine' with_bl (x := "sum") KX G ?z69 ?go69
    (case z69 => k_is)
    intro b_sum
    refine' with_bl (x := "tuple") KX G ?z70 ?go70
    (case z70 => k_is)
    intro b_tuple
    refine' with_bl (x := "type") KX G ?z71 ?go71
    (case z71 => k_is)
    intro b_type
    refine' with_bl (x := "zip") KX G ?z72 ?go72
    (case z72 => k_is)
    intro b_zip
    refine' with_gi (x := "MOST_LIQUIDS") (n := 8) KX G ?z73 ?go73
    (case z73 => k_is)
    intro b_MOST_LIQUIDS
    refine' with_gi (x := "MOST_PARTS") (n := 100) KX G ?z74 ?go74
    (case z74 => k_is)
    intro b_MOST_PARTS
    refine' with_gi (x := "MOST_TOP_UPS") (n := 60) KX G ?z75 ?go75
    (case z75 => k_is)
    intro b_MOST_TOP_UPS
    refine' with_bf (x := "gcd") (id := "math.gcd") KX G ?z76 ?go76
    (case z76 => k_is)
    intro b_gcd
    refine' Gx.with_er (x := "NothingToUndo") KX G ?a77 ?l77 ?c77 ?k77 ?t77 ?r77 ?n77 ?go77
    (case a77 => k_is); (case l77 => k_exc); (case c77 => k_is); (case k77 => k_is); (case t77 => k_is); (case r77 => k_is); (case n77 => first | rfl | k_is)
    intro e_NothingToUndo
    refine' Gx.with_eqc KL ?lq ?oq ?eq ?nq ?goq
    (case lq => k_is); (case oq => kernel_rfl); (case eq => k_is); (case nq => k_is)
    intro EQC
    exact K52.k52_end KL ⟨na_start, na_kept, na_content, na_past, na_before⟩ EQC hmg d_is_integer d_is_within d_is_pair_in_lowest_terms d_is_kept d_is_list_of_liquids t_is_list_of_liquids n_is_list_of_liquids (by first | rfl | decide +kernel) d_is_row d_check_kept d_check_row d_check_liquid d_check_number d_check_index d_lowest_terms d_common_divisor d_without_divisor d_is_content d_pure_content d_is_list_of_amounts t_is_list_of_amounts n_is_list_of_amounts (by first | rfl | decide +kernel) d_check_content d_strength_of t_strength_of n_strength_of (by first | rfl | decide +kernel) d_check_strengths d_is_list_of_strengths t_is_list_of_strengths n_is_list_of_strengths (by first | rfl | decide +kernel) d_content_behind d_contents_by d_Pot___init__ d_Pot_liquids d_Pot_start d_Pot_kept d_Pot_content d_Pot_past d_Pot_top_up d_Pot_pour d_Pot_keep d_Pot_undo d_Pot_mark d_Pot_undo_to d_Pot_twin d_Pot_strength d_Pot___len__ d_Pot__pour_all d_Pot__go_on d__law_bag d__law_stirred d__law_draw d__law_alike d__law_common d__law_simple d__law_held d__law_reduced d__law_behind d__law_same d__law_undone d__law_step d_law b_abs b_all b_bool b_int b_isinstance b_len b_list b_property b_range b_str b_sum b_tuple b_type b_zip b_MOST_LIQUIDS b_MOST_PARTS b_MOST_TOP_UPS b_gcd e_NothingToUndo
end
