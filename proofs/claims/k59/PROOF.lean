import PyProof.Rows.All
import PySem.Challenge.RW_topups_k59_errors_made
import HandS.ForMost
import HandS.AnyAll
import HandS.GenOver
import HandS.Gcd
import HandS.Wide
import HandS.IsInst
import HandS.More
import HandS.EndTab
import PyProof.TypeEq
import PyProof.ReprRoads
import PyProof.ReprLen
import HandS.Style
import PyProof.CallFns
import PyProof.Rows.RuleB_floordiv
import HandS.Zip
import HandS.Walk
import HandS.TupLen
import HandS.Dict
import PyProof.SumWalkG
import HandS.SetBool
import HandS.SetKeys
import HandS.WideBits
import HandS.Deep
import HandS.Exc
import HandS.ExcOwn
import HandS.WordsExc
import HandS.TryOnly
import HandS.ForExc
import HandS.ExcValue
import HandS.ExcIs
import HandS.Text
section
set_option Elab.async false
set_option linter.all false
set_option maxRecDepth 100000
set_option maxHeartbeats 4000000
/-! Generator expressions walked by all(..), with the element any expression of the layer; a code object's table is held as an open thing. -/
namespace Gx
open PySem PySem.Spec PyProof.Rows L2 GxR

/-- a code object's table, whatever it holds so far -/
def tabPhi (P : Addr) : Heap → Prop := fun h => ∃ ps : Array Value, h.get? P = some { cls := .none, data := .fields ps } ∧ TriplesOk ps.toList
def TabO (P : Addr) : HO := .ext (tabPhi P)
theorem tab_stay {P : Addr} : ∀ h1 h2 : Heap, tabPhi P h1 → (∀ o, h1.get? P = some o → h2.get? P = some o) → tabPhi P h2 := fun h1 h2 ⟨ps, e, t⟩ k => ⟨ps, k _ e, t⟩
theorem tab_ok {Pr : Program} {w : World} {H : Hp} {h : Heap} {P : Addr} (t : tabPhi P h) : ObjOk Pr w H h P (TabO P) := ⟨t, let ⟨ps, e, _⟩ := t; ⟨_, e⟩, tab_stay⟩

theorem inv_same {X : Cx} {pins : List (Addr × Obj)} {σ : L2.St} {H : Hp} {s s' : Shared} (I : Inv X pins σ H s) (h : s'.heap = s.heap) (o : s'.os = s.os) (b : AllBare s'.gens) : Inv X pins σ H s' :=
  ⟨I.ok, o.trans I.os, b, by rw [h]; exact I.base, by rw [h]; exact I.loc, by rw [h]; exact I.cell, I.free, I.freeC, by rw [h]; exact I.pin, by rw [h]; exact I.hok, I.len⟩
theorem bare_set {s : Shared} {g : Nat} {x : GenState} (h : AllBare s.gens) (hx : x.bare = true) : AllBare (s.setGen g x).gens :=
  AllBare.moved h (.inr ⟨GenOnly.setGen s g x, fun y hy => by
    have h1 : (s.gens.setIfInBounds g x)[g]? = some y := hy
    rw [Array.getElem?_setIfInBounds_self] at h1
    split at h1
    · cases h1; exact hx
    · cases h1⟩)
theorem setGen_at {s : Shared} {g : Nat} {x : GenState} (h : g < s.gens.size) : (s.setGen g x).gens[g]? = some x := by
  show (s.gens.setIfInBounds g x)[g]? = some x
  rw [Array.getElem?_setIfInBounds_self, if_pos h]

/-- the context of a generator expression's frame: made at s; fp: its iterator's objects -/
abbrev gcx (X : Cx) (s : Shared) (H : Hp) (N : List Str) (cenv : Env) (fp : List Addr) (A : Around) : Cx :=
  { X with A := A, N := N, s_0 := s, H_0 := H, env := cenv, outer := X.stack, stack := cenv :: X.stack, ex := fp, fn := fun _ => false, calm := true, pn := [], xe := fun _ _ => False }
/-- the expression's own scope: x its target; ns: the names that it captures, with their places in the def -/
structure GOk (N : List Str) (sc scope : Scope) (x : Str) (ns : List (Str × Nat)) : Prop where
  kind : scope.kind = .function
  co : scope.isCoroutine = false
  cell : ∀ y ∈ scope.names, y.2 ≠ .cell
  dot : scope.names.lookup (".0" : Str) = some NameKind.local
  loc : scope.names.lookup x = some .local
  free : ∀ y ∈ scope.names, y.2 = .free → sc.names.lookup y.1 = some .cell ∨ sc.names.lookup y.1 = some .free
  caps : ∀ p ∈ ns, N[p.2]? = some p.1 ∧ (p.1, NameKind.free) ∈ scope.names
  uniq : ∀ y ∈ scope.names, scope.names.lookup y.1 = some y.2
def capsOf (σ : L2.St) (ns : List (Str × Nat)) : L2.St := ns.map fun p => (σ[p.2]?).join

section
variable {X : Cx} {pins : List (Addr × Obj)} {σ : L2.St} {H : Hp} {s : Shared}
theorem clo_lookup {cells : List (Str × Addr)} {names : List (Str × NameKind)} {y : Str} {c : Addr} (h : (y, NameKind.free) ∈ names) (hc : cells.lookup y = some c) : (cloFrom cells names []).lookup y = some c := by
  obtain ⟨c', e⟩ := mem_lookup (cloFrom_has (cells := cells) (acc := []) h)
  rcases cloFrom_mem (PySem.mem_of_lookup e) with z | ⟨_, z⟩
  · cases z
  · rw [e, z, hc]; rfl
theorem clo_of {cells : List (Str × Addr)} {names : List (Str × NameKind)} {y : Str} {c : Addr} (hf : ∀ y ∈ names, y.2 = .free → ∃ c, cells.lookup y.1 = some c) (h : (cloFrom cells names []).lookup y = some c) : (y, NameKind.free) ∈ names ∧ cells.lookup y = some c := by
  rcases cloFrom_mem (PySem.mem_of_lookup h) with z | ⟨z1, z2⟩
  · cases z
  · obtain ⟨d, hd⟩ := hf _ z1 rfl
    refine ⟨z1, ?_⟩
    have hd' : cells.lookup y = some d := hd
    rw [hd'] at z2
    rw [hd', z2]; rfl
theorem inv_gen {s5 : Shared} {scope : Scope} {x : Str} {ns : List (Str × Nat)} {fp : List Addr} {P C a : Addr} {go : Obj} {code it : Value} {A : Around}
    (I : Inv X pins σ H s) (S : GOk X.N X.env.scope scope x ns) (hP : H P = some (TabO P)) (hf : ∀ b ∈ fp, FpOk X pins H b) (hfo : ∀ b ∈ fp, ∃ o, s.heap.get? b = some o)
    (hA : A.frames = some (genEnv scope (cloFrom X.env.cells scope.names []) C code builtinsNs X.env :: X.stack)) (hh : A.handled = none) (hC : s.heap.objs.size ≤ C) (ha : C < a)
    (ho : s5.os = s.os) (hb : AllBare s5.gens) (k : ∀ b o, b ≠ P → s.heap.get? b = some o → s5.heap.get? b = some o) (hp : tabPhi P s5.heap)
    (hn : s5.heap.Ns C (fun y => if y = ".0" then some it else none)) (hgo : s5.heap.get? a = some go) (hgd : ∀ v, go.data ≠ .cell v) :
    Inv (gcx X s H (x :: ns.map (·.1)) (genEnv scope (cloFrom X.env.cells scope.names []) C code builtinsNs X.env) fp A) [(a, go)] (none :: capsOf σ ns) H s5 := by
  have hfree : ∀ y ∈ scope.names, y.2 = .free → ∃ c, X.env.cells.lookup y.1 = some c := fun y hy e => by
    rcases S.free y hy e with k | k
    · exact I.ok.has _ (.inl k)
    · exact I.ok.has _ (.inr k)
  have nP : ∀ b, H b = none → b ≠ P := fun b e z => by
    rw [z, hP] at e
    cases e
  have fplt : ∀ b ∈ fp, b < s.heap.objs.size := fun b hb => let ⟨o, e⟩ := hfo b hb; Heap.lt_size e
  have stk : ∀ b ∈ fp, b ∉ frs X.stack := fun b hb hm => by
    obtain ⟨_, f1, f2, _⟩ := hf b hb
    rcases List.mem_cons.mp (I.stkSub b hm) with z | z
    · exact f1 z
    · exact f2 z
  have noA : ∀ b, s.heap.objs.size ≤ b → b ∉ frs X.stack := fun b hb hm => by
    rcases List.mem_cons.mp (I.stkSub b hm) with z | z
    · have := I.lt
      rw [← z] at this
      exact absurd (Nat.lt_of_lt_of_le this hb) (Nat.lt_irrefl _)
    · exact I.nofs hb z
  refine ⟨⟨I.mod, S.kind, I.ok.glob, rfl, hC, fun y z c h1 h2 => ?_, fun y hy => ?_, fun y c h _ => (by cases h), fun _ => hh, hA, .inr ⟨rfl, rfl⟩, fun b hb => ⟨?_, fun y c h z => ?_⟩, fun b o e => I.bs b o e, Nat.le_trans I.ok.bsz I.sz, fun b o e hm => ?_, fun b hb => stk b hb, I.stack, I.stkFree⟩,
    ho, hb, ⟨fun b o e n _ _ => k b o (nP b n) e, fun b o e n _ _ => ⟨o.slots, k b o (nP b n) e⟩, fun _ _ _ n _ => n, fun b o e _ => ?_, fun _ _ q => q, fun _ _ _ q => q, fun b ps q => ⟨#[], by
      have q' : H b = some (.tbl ps) := q
      rw [q']; simp⟩⟩,
    ⟨_, hn, fun i y v h1 h2 h3 => ?_⟩, fun y c h => ?_, I.hok.fresh hC, fun y c h => ?_, fun p hp' => ?_, fun b u e => ?_, ?_⟩
  · exact I.ok.inj _ _ _ (clo_of hfree h1).2 (clo_of hfree h2).2
  · have hy : scope.names.lookup y = some .cell ∨ scope.names.lookup y = some .free := hy
    rcases hy with hy | hy
    · exact absurd rfl (S.cell _ (PySem.mem_of_lookup hy))
    · obtain ⟨c, e⟩ := hfree _ (PySem.mem_of_lookup hy) rfl
      exact ⟨c, clo_lookup (PySem.mem_of_lookup hy) e⟩
  · exact Nat.ne_of_lt (Nat.lt_of_lt_of_le (fplt b hb) hC)
  · obtain ⟨_, _, _, _, f4, _⟩ := hf b hb
    exact f4 y c (clo_of hfree h).2 z
  · obtain ⟨_, _, _, f3, _⟩ := hf b hm
    rcases f3 with z | z
    · exact I.ok.noex b o e z
    · exact absurd (Nat.lt_of_lt_of_le (Heap.lt_size e) (Nat.le_trans I.ok.bsz z)) (Nat.lt_irrefl _)
  · by_cases hb : b = P
    · obtain ⟨ps, e2, _⟩ := hp
      exact ⟨_, by rw [hb]; exact e2⟩
    · exact ⟨o, k b o hb e⟩
  · cases i with
    | zero => cases h2
    | succ i =>
      have h1' : (ns.map (·.1))[i]? = some y := h1
      have h2' : (capsOf σ ns)[i]? = some (some v) := h2
      unfold capsOf at h2'
      rw [List.getElem?_map] at h1' h2'
      cases e : ns[i]? with
      | none => rw [e] at h1'; cases h1'
      | some p =>
        rw [e] at h1' h2'
        have e1 : p.1 = y := Option.some.inj h1'
        have e2 : (σ[p.2]?).join = some v := Option.some.inj h2'
        obtain ⟨c1, c2⟩ := S.caps p (List.mem_of_getElem? e)
        obtain ⟨m, hm, hl⟩ := I.loc
        have e3 : σ[p.2]? = some (some v) := by
          cases q : σ[p.2]? with
          | none => rw [q] at e2; cases e2
          | some w => rw [q] at e2; have e2' : w = some v := e2; rw [e2']
        have hk := S.free _ c2 rfl
        have hvis : Vis X.env.scope p.1 := .inr hk
        obtain ⟨u, r, lk⟩ := hl p.2 p.1 v c1 e3 hvis
        refine ⟨u, r, ?_⟩
        rcases lk with ⟨kl, _⟩ | ⟨_, c, hc, ic⟩
        · have kl' : X.env.scope.names.lookup p.1 = some .local := kl
          rcases hk with hk | hk
          · rw [show X.env.scope.names.lookup p.1 = some .cell from hk] at kl'; cases kl'
          · rw [show X.env.scope.names.lookup p.1 = some .free from hk] at kl'; cases kl'
        · rw [← e1]
          refine .inr ⟨.inr (S.uniq _ c2), c, clo_lookup c2 hc, ?_⟩
          obtain ⟨oc, ho', hd'⟩ := ic
          exact ⟨oc, k c oc (nP c (I.freeC _ _ hc)) ho', hd'⟩
  · have hc := (clo_of hfree h).2
    obtain ⟨v, oc, ho', hd'⟩ := I.cell y c hc
    exact ⟨v, oc, k c oc (nP c (I.freeC _ _ hc)) ho', hd'⟩
  · exact I.freeC _ _ (clo_of hfree h).2
  · have hp2 : p ∈ [(a, go)] := hp'
    rw [List.mem_singleton.mp hp2]
    have hsa : s.heap.objs.size ≤ a := Nat.le_trans hC (Nat.le_of_lt ha)
    exact ⟨hgo, I.hok.fresh hsa, Nat.ne_of_gt ha, noA a hsa, hgd⟩
  · by_cases hb : b = P
    · rw [hb, hP] at e
      cases e
      rw [hb]
      exact tab_ok hp
    · refine (I.hok b u e).stay (fun c v hc q => k c v ?_ q) (fun _ q => q) fun _ _ q => q
      rcases hc with z | z
      · rw [z]; exact hb
      · intro w
        rw [w, hP] at z
        cases z
  · show (none :: capsOf σ ns).length = (x :: ns.map (·.1)).length
    unfold capsOf
    simp
/-- back in the def -/
theorem inv_back {N : List Str} {cenv : Env} {fp : List Addr} {A : Around} {pins' : List (Addr × Obj)} {σ' : L2.St} {H' : Hp} {s' : Shared} (I : Inv X pins σ H s) (hf : ∀ b ∈ fp, FpOk X pins H b)
    (J : Inv (gcx X s H N cenv fp A) pins' σ' H' s') : Inv X pins σ H' s' :=
  I.call' (ch := fp) J.os J.base J.hok J.bare fun b hb => let ⟨_, f1, _, f3, f4, f5⟩ := hf b hb; ⟨f3, f1, f4, f5⟩
end

/-! ### the segment -/
def GEnd (G : Cx) (a : Addr) (go : Obj) (caps : L2.St) (L : Nat) (Pv : Nat → Hp → Prop) : Nat → Shared → Shared → Prop := fun n _ s => n = 1 ∧ ∃ H, Inv G [(a, go)] (none :: caps) H s ∧ Pv L H
def GYld (G : Cx) (a : Addr) (go : Obj) (caps : L2.St) (L : Nat) (Pv : Nat → Hp → Prop) (Ye : Nat → V → Hp → Prop) : Protocol := fun n _ v s kap =>
  ∃ i y H, i < L ∧ n + i = L ∧ RelV y v ∧ Inv G [(a, go)] (none :: caps) H s ∧ Ye i y H ∧ ∀ s', s'.heap = s.heap → s'.os = s.os → AllBare s'.gens → Pv (i + 1) H → kap (.send .none) s'
section
variable {G : Cx} {A : Around} {elt iter : Expr} {x : Str} {px : Pos} {scope : Scope} {pos : Pos} {it a : Addr} {go : Obj} {fp : List Addr} {tn : Nat → Heap → Prop} {J : It} {caps : L2.St} {te : TE} {L : Nat} {Pv : Nat → Hp → Prop} {Ye : Nat → V → Hp → Prop}
theorem seg_gloop (hA : A.over (.compLoop (.GeneratorExp elt [⟨.Name x px, iter, [], 0⟩] scope pos) 0 (.ref it) .none G.env) [] = G.A) (hc : G.calm = true) (hex : G.ex = fp) (hxe : G.xe = fun _ _ => False) (hpn : G.pn = []) (hco : G.env.scope.isCoroutine = false)
    (T : Turn G.prog G.w G.K (.Name x px) J fp it tn) (hg : PG G (.Name x px) (gName 0)) (he : PE G elt te) (ha : ∀ b ∈ fp, a ≠ b)
    (step : ∀ i H, i < L → Pv i H → J.go i H ∧ ∀ y H', J.yld i H y H' → te (some y :: caps) H' (Ye i)) (stop : ∀ H, Pv L H → J.stop L H) :
    ∀ (k i : Nat) (s₀ s : Shared) (H : Hp), L - i = k → i ≤ L → Inv G [(a, go)] (none :: caps) H s → tn i s.heap → (∀ b ∈ fp, H b = none) → Pv i H →
      Seg (model G.prog G.w) A (fun n s₀ r s₁ => r = .ok .next ∧ GEnd G a go caps L Pv n s₀ s₁) (GYld G a go caps L Pv Ye) (k + 1) s₀
        (.compLoop (.GeneratorExp elt [⟨.Name x px, iter, [], 0⟩] scope pos) 0 (.ref it) .none G.env)
        ((model G.prog G.w).den (.compLoop (.GeneratorExp elt [⟨.Name x px, iter, [], 0⟩] scope pos) 0 (.ref it) .none G.env)) [] s := by
  have fpok : ∀ {H : Hp} {σ : L2.St} {s : Shared}, Inv G [(a, go)] σ H s → (∀ b ∈ fp, H b = none) → ∀ b ∈ fp, FpOk G [(a, go)] H b := fun {H σ s} I hn b hb => by
    have hb' : b ∈ G.ex := by rw [hex]; exact hb
    obtain ⟨e1, e2⟩ := I.ok.exf b hb'
    refine ⟨hn b hb, e1, I.ok.exfs b hb', .inl hb', e2, fun p hp => ?_⟩
    rw [hpn, List.nil_append] at hp
    rw [List.mem_singleton.mp hp]
    exact ha b hb
  intro k
  induction k with
  | zero =>
    intro i s₀ s H hk hi I st fr pv
    have hin : i = L := by omega
    subst hin
    show Seg _ A _ _ _ s₀ _ ((compTurn (.GeneratorExp elt [⟨.Name x px, iter, [], 0⟩] scope pos) 0 (.ref it) .none G.env).onRaise (leaving G.env)) [] s
    rw [compTurn_gen, Sem.onRaise_eq_wrap]
    refine seg_bind_wrap (wpAny_standAt ?_)
    refine seg_bind_wrap ?_
    rw [hA]
    refine thn (T.done G rfl rfl rfl hc i _ s _ H _ I (fpok I fr) st (stop H pv)) fun r s1 ⟨hr, I1⟩ => ?_
    subst hr
    exact seg_end (.ok .next) ⟨rfl, rfl, H, I1, pv⟩
  | succ k ih =>
    intro i s₀ s H hk hi I st fr pv
    have hlt : i < L := by omega
    obtain ⟨hgo, hstep⟩ := step i H hlt pv
    show Seg _ A _ _ _ s₀ _ ((compTurn (.GeneratorExp elt [⟨.Name x px, iter, [], 0⟩] scope pos) 0 (.ref it) .none G.env).onRaise (leaving G.env)) [] s
    rw [compTurn_gen, Sem.onRaise_eq_wrap]
    refine seg_bind_wrap (wpAny_standAt ?_)
    refine seg_bind_wrap ?_
    rw [hA]
    refine thn (T.item G rfl rfl rfl hc i _ s _ H _ I (fpok I fr) st hgo) fun r s1 ⟨u, hr, h1⟩ => ?_
    subst hr
    refine seg_bind_wrap ?_
    rw [hA]
    refine thn h1 fun _ s2 ⟨y, H2, I2, ru, yl, st2, fr2⟩ => ?_
    have I2p := I2.pinned (fpok I2 fr2) (T.obj _ _ st2)
    refine seg_bind_wrap ?_
    rw [hA]
    refine wpAny_mono (hg.run _ s2 _ H2 y u (fun σ' H' => σ' = some y :: caps ∧ H' = H2) I2p ru ⟨rfl, rfl⟩) (fun _ s3 h3 => ?_) (fun e s' hx => by rw [hxe] at hx; exact hx.elim)
    obtain ⟨σ3, H3, I3, e3, e3'⟩ := h3
    subst e3 e3'
    simp only [List.forIn_nil]
    refine seg_bind_wrap (wpAny_pure ?_)
    simp only [if_true]
    have hy : ∀ v, yieldOut G.env v = yieldValue v := fun v => by simp only [yieldOut, hco, Bool.false_eq_true, if_false]
    simp only [hy]
    rw [Sem.bind_eq_wrap', Sem.bind_eq_wrap', Sem.wrap_wrap, Sem.wrap_wrap]
    refine seg_wrap ?_
    rw [hA]
    refine wpAny_mono (he.run _ s3 _ _ (Ye i) I3 (hstep y _ yl)) (fun v s4 h4 => ?_) (fun e s' hx => by rw [hxe] at hx; exact hx.elim)
    obtain ⟨y4, H4, I4, r4, q4⟩ := h4
    have pinAt : ∀ b ∈ fp, ∀ o, s2.heap.get? b = some o → s4.heap.get? b = some o ∧ H4 b = none := fun b hb o e =>
      let z := I4.pin (b, o) (List.mem_append_right _ (List.mem_append_right _ (mem_pinsAt hb e))); ⟨z.1, z.2.1⟩
    have st4 : tn (i + 1) s4.heap := T.keep _ _ _ st2 fun b hb o e => (pinAt b hb o e).1
    have fr4 : ∀ b ∈ fp, H4 b = none := fun b hb => by
      obtain ⟨o, e, _⟩ := T.obj _ _ st2 b hb
      exact (pinAt b hb o e).2
    have I4w : Inv G [(a, go)] (none :: caps) H4 s4 := I4.unpinned.weak rfl fun j v hj => by
      cases j with
      | zero => cases hj
      | succ j => exact hj
    refine seg_at (seg_yield rfl rfl rfl ⟨i, y4, H4, hlt, by omega, r4, I4w, q4, fun s5 eh eo eb pv5 => ?_⟩)
    exact seg_again rfl (ih (i + 1) s5 s5 H4 (by omega) hlt (inv_same I4w eh eo eb) (by rw [eh]; exact st4) fr4 pv5)

theorem seg_gstart (hA : A.over (.compLoop (.GeneratorExp elt [⟨.Name x px, iter, [], 0⟩] scope pos) 0 (.ref it) .none G.env) [] = G.A) (hc : G.calm = true) (hex : G.ex = fp) (hxe : G.xe = fun _ _ => False) (hpn : G.pn = []) (hco : G.env.scope.isCoroutine = false)
    (T : Turn G.prog G.w G.K (.Name x px) J fp it tn) (hg : PG G (.Name x px) (gName 0)) (he : PE G elt te) (ha : ∀ b ∈ fp, a ≠ b)
    (step : ∀ i H, i < L → Pv i H → J.go i H ∧ ∀ y H', J.yld i H y H' → te (some y :: caps) H' (Ye i)) (stop : ∀ H, Pv L H → J.stop L H)
    (s₀ s : Shared) (H : Hp) (I : Inv G [(a, go)] (none :: caps) H s) (st : tn 0 s.heap) (fr : ∀ b ∈ fp, H b = none) (pv : Pv 0 H) :
      Seg (model G.prog G.w) A (fun n s₀ r s₁ => r = .ok .next ∧ GEnd G a go caps L Pv n s₀ s₁) (GYld G a go caps L Pv Ye) (L + 1) s₀
        (.compStart (.GeneratorExp elt [⟨.Name x px, iter, [], 0⟩] scope pos) 0 (.ref it) .none G.env)
        ((model G.prog G.w).den (.compStart (.GeneratorExp elt [⟨.Name x px, iter, [], 0⟩] scope pos) 0 (.ref it) .none G.env)) [] s := by
  have loop := seg_gloop (a := a) (go := go) hA hc hex hxe hpn hco T hg he ha step stop L 0 s₀ s H (Nat.sub_zero _) (Nat.zero_le _) I st fr pv
  show Seg _ A _ _ _ s₀ _ ((compStart (.GeneratorExp elt [⟨.Name x px, iter, [], 0⟩] scope pos) 0 (.ref it) .none G.env).onRaise (leaving G.env)) [] s
  unfold compStart
  rw [Sem.onRaise_eq_wrap]
  show Seg _ A _ _ _ s₀ _ ((ask >>= _).wrap _ _ _ _) [] s
  refine seg_bind_wrap (wpAny_askSetting ?_)
  split
  · exact seg_again rfl loop
  · first
      | exact seg_bind_wrap (wpAny_rule (seg_bind_wrap (wpAny_standAt (seg_bind_wrap (T.self _ 0 s _ _ st (seg_again rfl loop))))))
      | (refine seg_bind_wrap (wpAny_rule ?_); show Seg _ A _ _ _ s₀ _ ((standAt iter.pos >>= _).wrap _ _ _ _) [] s; exact seg_bind_wrap (wpAny_standAt (seg_bind_wrap (T.self _ 0 s _ _ st (seg_again rfl loop)))))
end
end Gx
end

section
set_option Elab.async false
set_option linter.all false
set_option maxRecDepth 100000
set_option maxHeartbeats 4000000
namespace Gx
open PySem PySem.Spec PyProof.Rows L2 GxR
/-- what stands when a generator expression has been made -/
def GReady (X : Cx) (pins : List (Addr × Obj)) (σ : L2.St) (J : It) (H2 : Hp) (te : TE) (caps : L2.St) (k : Nat) (a : Addr) (s5 : Shared) : Prop :=
  ∃ (g : Nat) (go : Obj) (c : Code), (∀ h : Heap, h.get? a = some go → h.IsGen a g) ∧ s5.gens[g]? = some (.fresh c) ∧
    ∀ A : Around, Room (k + 1) A → A.frames = some X.stack → ∃ G : Cx, G.prog = X.prog ∧ G.w = X.w ∧ (∀ H' s', Inv G [(a, go)] (none :: caps) H' s' → Inv X pins σ H' s') ∧ Inv G [(a, go)] (none :: caps) H2 s5 ∧
      ∀ (L : Nat) (Pv : Nat → Hp → Prop) (Ye : Nat → V → Hp → Prop), (∀ i H, i < L → Pv i H → J.go i H ∧ ∀ y H', J.yld i H y H' → te (some y :: caps) H' (Ye i)) → (∀ H, Pv L H → J.stop L H) → Pv 0 H2 →
        ∀ s', s'.heap = s5.heap → s'.os = s5.os → AllBare s'.gens →
          (GenState.fresh c).Goes (model X.prog X.w) A (fun n s₀ r s₁ => r = .ok .next ∧ GEnd G a go caps L Pv n s₀ s₁) (GYld G a go caps L Pv Ye) (L + 1) (.send .none) s'
section
variable {X : Cx} {pins : List (Addr × Obj)} {σ : L2.St} {H : Hp} {s : Shared}
theorem gen_made {c P : Addr} {elt iter : Expr} {x : Str} {px gpos : Pos} {scope : Scope} {ns : List (Str × Nat)} {wi : TI} {te : TE} {k k' : Nat} {Q' : Value → Shared → Prop} {R : It → Hp → Prop}
    (hr : Room k X.A) (TB : TabB X.base X.mg c P) (hcode : X.env.code = .ref c) (S : GOk X.N X.env.scope scope x ns) (hnd : (x :: ns.map (·.1)).Nodup) (hi : PI X (.Name x px) iter wi)
    (he : ∀ (s : Shared) (H : Hp) (C : Addr) (code : Value) (fp : List Addr) (A : Around), Room k' A → PE (gcx X s H (x :: ns.map (·.1)) (genEnv scope (cloFrom X.env.cells scope.names []) C code builtinsNs X.env) fp A) elt te)
    (hs : ∀ v, genFold iter X.env v = pure v) (I : Inv X pins σ H s) (h : wi σ H fun J H1 => H1 P = some (TabO P) ∧ R J H1)
    (hQ : ∀ J H2 a s5, R J H2 → GReady X pins σ J H2 te (capsOf σ ns) k' a s5 → Q' (.ref a) s5) :
    wpAny (model X.prog X.w) X.A (eval (.GeneratorExp elt [⟨.Name x px, iter, [], 0⟩] scope gpos) X.env) Q' X.xe s := by
  have hfree : ∀ y ∈ scope.names, y.2 = .free → ∃ c, X.env.cells.lookup y.1 = some c := fun y hy e => by
    rcases S.free y hy e with k | k
    · exact I.ok.has _ (.inl k)
    · exact I.ok.has _ (.inr k)
  refine wpAny_GeneratorExp_make S.co (closure_ok hfree) S.cell S.dot S.kind (by have := hr.dp; omega) (thn (hi.run pins s σ H _ I h) fun xv s1 hx => thn hx fun itv s2 h2 => ?_) hs
  obtain ⟨it, fp, tn, J, H2, e, I2, T, st2, f2, hP, q⟩ := h2
  subst e
  obtain ⟨⟨ps, hPs, ht⟩, _, _⟩ := I2.hok P _ hP
  have hPlt : P < s2.heap.objs.size := Heap.lt_size hPs
  have cd : PySem.W.CodeHd s2.heap c P := TB.code.keeps fun b u e => I2.bk b u e
  have cont : ∀ (code : Value) (h3 : Heap) (tk : Nat), Heap.ExtBut P s2.heap h3 → s2.heap.objs.size ≤ h3.objs.size → tabPhi P h3 →
      wpAny (model X.prog X.w) X.A (builtinsFor X.env.globals X.env.builtins) (fun bi s₄ =>
        ∀ h', h'.Ns s₄.heap.objs.size (fun y => if y = ".0" then some (.ref it) else none) → Heap.SameBut s₄.heap.objs.size (s₄.heap.push { cls := .type "frame", data := .dict #[] }) h' →
          Q' (.ref h'.objs.size) { s₄ with
            gens := s₄.gens.push (.fresh (.compStart (.GeneratorExp elt [⟨.Name x px, iter, [], 0⟩] scope gpos) 0 (.ref it) .none (genEnv scope (cloFrom X.env.cells scope.names []) s₄.heap.objs.size code bi X.env))),
            toks := s₄.toks + 1 + 1 + 1,
            heap := h'.push { cls := .type "generator", data := .fields #[.int s₄.gens.size 0, .str "<genexpr>" (s₄.toks + 1), .str (X.env.qual ++ "<genexpr>") (s₄.toks + 1 + 1)] } }) X.xe { s2 with heap := h3, toks := tk } := by
    intro code h3 tk hx hsz hp3
    obtain ⟨bm, ob, e1, e2, e3, e4, e5, e6, e7, e8⟩ := TB.bm
    have keep3 : ∀ b u, b ≠ P → s2.heap.get? b = some u → h3.get? b = some u := fun b u hb e => hx b u hb e
    refine wpAny_builtinsFor (m := X.mg) (by rw [I2.ok.glob]; exact (I2.mod.glob.keeps I2.bk).extBut hx TB.gP) e1 e2 (keep3 _ _ e4 (I2.bk _ _ e5)) e6 e7 e8 ?_
    intro h' hn' hs'
    have hn' : h'.Ns h3.objs.size (fun y => if y = ".0" then some (.ref it) else none) := hn'
    have hs' : Heap.SameBut h3.objs.size (h3.push { cls := .type "frame", data := .dict #[] }) h' := hs'
    have hsz' : h'.objs.size = h3.objs.size + 1 := by rw [hs'.1, Heap.size_push]
    have keep' : ∀ b o, h3.get? b = some o → h'.get? b = some o := fun b o e => hs'.extBut b o (Nat.ne_of_lt (Heap.lt_size e)) (Heap.get?_push_of_some _ e)
    generalize hgo : ({ cls := .type "generator", data := .fields #[.int s2.gens.size 0, .str "<genexpr>" (tk + 1), .str (X.env.qual ++ "<genexpr>") (tk + 1 + 1)] } : Obj) = go
    have hgen : ∀ h : Heap, h.get? h'.objs.size = some go → h.IsGen h'.objs.size s2.gens.size := fun h e => ⟨go, _, _, e, by rw [← hgo], by rw [← hgo], by rw [← hgo]⟩
    have hgd : ∀ v, go.data ≠ .cell v := fun v z => by rw [← hgo] at z; cases z
    have hself : (h'.push go).get? h'.objs.size = some go := Heap.get?_push_size _ (by rw [← hgo]; rfl)
    have keep5 : ∀ b o, b ≠ P → s2.heap.get? b = some o → (h'.push go).get? b = some o := fun b o hb e => Heap.get?_push_of_some _ (keep' b o (keep3 b o hb e))
    have phi5 : tabPhi P (h'.push go) := tab_stay _ _ hp3 fun o e => Heap.get?_push_of_some _ (keep' _ o e)
    have CP : fp = fp := rfl
    have hfo : ∀ b ∈ fp, ∃ o, s2.heap.get? b = some o := fun b hb => let ⟨o, e, _⟩ := T.obj _ _ st2 b hb; ⟨o, e⟩
    have fpP : ∀ b ∈ fp, b ≠ P := fun b hb z => by
      obtain ⟨f0, _⟩ := f2 b hb
      rw [z, hP] at f0
      cases f0
    refine hQ J H2 h'.objs.size _ q ?_
    refine ⟨s2.gens.size, go, _, hgen, Array.getElem?_push_size .., fun A hA hfr => ?_⟩
    have hAf : (A.over (.compLoop (.GeneratorExp elt [⟨.Name x px, iter, [], 0⟩] scope gpos) 0 (.ref it) .none (genEnv scope (cloFrom X.env.cells scope.names []) h3.objs.size code builtinsNs X.env)) []).frames = some ((genEnv scope (cloFrom X.env.cells scope.names []) h3.objs.size code builtinsNs X.env) :: X.stack) := by
      show pushEnvs [(genEnv scope (cloFrom X.env.cells scope.names []) h3.objs.size code builtinsNs X.env)] (pushEnvs [] A.frames) = _
      rw [hfr]
      rfl
    have hAr : Room k' (A.over (.compLoop (.GeneratorExp elt [⟨.Name x px, iter, [], 0⟩] scope gpos) 0 (.ref it) .none (genEnv scope (cloFrom X.env.cells scope.names []) h3.objs.size code builtinsNs X.env)) []) := by
      refine ⟨hA.hd, ?_, ?_⟩
      · have := hA.dp
        show A.depth + 1 + 3 * k' + 5 < _
        omega
      · have := hA.un
        show A.units + 3 + 16 * k' + 200 < _
        omega
    have I5 := inv_gen (s5 := { s2 with gens := s2.gens.push (.fresh (.compStart (.GeneratorExp elt [⟨.Name x px, iter, [], 0⟩] scope gpos) 0 (.ref it) .none (genEnv scope (cloFrom X.env.cells scope.names []) h3.objs.size code builtinsNs X.env))), toks := tk + 1 + 1 + 1, heap := h'.push go }) (code := code) (it := .ref it) (A := A.over (.compLoop (.GeneratorExp elt [⟨.Name x px, iter, [], 0⟩] scope gpos) 0 (.ref it) .none (genEnv scope (cloFrom X.env.cells scope.names []) h3.objs.size code builtinsNs X.env)) []) (a := h'.objs.size)
      I2 S hP f2 hfo hAf hAr.hd hsz (by rw [hsz']; exact Nat.lt_succ_self _) rfl (I2.bare.push rfl) keep5 phi5 (hn'.push _) hself hgd
    refine ⟨gcx X s2 H2 (x :: ns.map (·.1)) (genEnv scope (cloFrom X.env.cells scope.names []) h3.objs.size code builtinsNs X.env) fp (A.over (.compLoop (.GeneratorExp elt [⟨.Name x px, iter, [], 0⟩] scope gpos) 0 (.ref it) .none (genEnv scope (cloFrom X.env.cells scope.names []) h3.objs.size code builtinsNs X.env)) []), rfl, rfl, fun H' s' J' => inv_back I2 f2 J', I5, fun L Pv Ye step stop pv s' eh eo eb => ⟨rfl, ?_⟩⟩
    refine seg_gstart (G := gcx X s2 H2 (x :: ns.map (·.1)) (genEnv scope (cloFrom X.env.cells scope.names []) h3.objs.size code builtinsNs X.env) fp (A.over (.compLoop (.GeneratorExp elt [⟨.Name x px, iter, [], 0⟩] scope gpos) 0 (.ref it) .none (genEnv scope (cloFrom X.env.cells scope.names []) h3.objs.size code builtinsNs X.env)) [])) (fp := fp) (tn := tn) (J := J) rfl rfl rfl rfl rfl (S.co) T ?_ ?_ (fun b hb z => ?_) step stop s' s' H2 (inv_same I5 eh eo eb) ?_ (fun b hb => (f2 b hb).1) pv
    · refine pg_name (i := 0) hnd rfl (.inl S.loc) (.inr S.loc)
    · exact he s2 H2 h3.objs.size code fp (A.over (.compLoop (.GeneratorExp elt [⟨.Name x px, iter, [], 0⟩] scope gpos) 0 (.ref it) .none (genEnv scope (cloFrom X.env.cells scope.names []) h3.objs.size code builtinsNs X.env)) []) hAr
    · obtain ⟨o, e⟩ := hfo b hb
      have h1 := Heap.lt_size e
      rw [← z, hsz'] at h1
      have h1' : h3.objs.size + 1 < s2.heap.objs.size := h1
      omega
    · rw [eh]
      exact T.keep _ _ _ st2 fun b hb o e => keep5 b o (fpP b hb) e
  refine ⟨I2.nolimit, ?_⟩
  cases hf : codeAmong gpos ps.toList with
  | none =>
    refine wpAny_genexprCodeX hcode (cd.code hPs ht) (cd.tab hPs) hf fun c' h' tk hx hge hlt hco' _ htab' _ => ?_
    obtain ⟨o1, vs, f1, tf, fl, tg, inF, tx, tt, op, _, _, _, _, _, _, _, _, _, htr, _⟩ := hco'
    exact cont _ h' tk hx (Nat.le_trans hge (Nat.le_of_lt hlt)) ⟨_, htab'.2, htr⟩
  | some cv =>
    refine wpAny_genexprCode_hit hcode (cd.code hPs ht) hf ?_
    exact cont cv s2.heap s2.toks (Heap.ExtBut.refl _ _) (Nat.le_refl _) ⟨ps, hPs, ht⟩

theorem codeAny_allG {A0 : Around} {a : Addr} {g : Nat} {go : Obj} {G : Cx} {caps : L2.St} {L : Nat} {Pv : Nat → Hp → Prop} {Ye : Nat → V → Hp → Prop} {Qf : Hp → Prop} {R' : Result → Shared → Prop} {prog : Program} {w : World}
    (hG : G.prog = prog ∧ G.w = w) (hh : A0.handled = none) (hroom : A0.depth < recursionLimit) (hgen : ∀ h : Heap, h.get? a = some go → h.IsGen a g)
    (hYe : ∀ i y H, Ye i y H → ∃ b, y = .bl b ∧ if b = true then Pv (i + 1) H else Qf H)
    (hfalse : ∀ H s, Inv G [(a, go)] (none :: caps) H s → Qf H → R' (.ok (.ret (.bool false))) s) (htrue : ∀ H s, Inv G [(a, go)] (none :: caps) H s → Pv L H → R' (.ok (.ret (.bool true))) s) :
    ∀ (k i : Nat) (s : Shared) (gs : GenState), L - i = k → i ≤ L → (∃ H, Inv G [(a, go)] (none :: caps) H s) → s.gens[g]? = some gs →
      (∀ s', s'.heap = s.heap → s'.os = s.os → AllBare s'.gens → gs.Goes (model prog w) A0.in1.in1 (fun n s₀ r s₁ => r = .ok .next ∧ GEnd G a go caps L Pv n s₀ s₁) (GYld G a go caps L Pv Ye) (L - i + 1) (.send .none) s') →
      codeAny (model prog w) A0 (.builtin "all.loop" ⟨[.ref a], []⟩) R' s := by
  have pin : ∀ {H : Hp} {σ : L2.St} {s : Shared}, Inv G [(a, go)] σ H s → s.heap.IsGen a g := fun I => hgen _ (I.pin (a, go) (List.mem_append_right _ (List.mem_singleton.mpr rfl))).1
  intro k
  induction k with
  | zero =>
    intro i s gs hk hi ⟨H, I⟩ hgs hgo
    have hin : i = L := by omega
    subst hin
    refine codeAny_builtin F.entry_all_loop ?_
    rw [Around.under_plainId F.plain_all_loop _]
    show wpAny _ A0.in1 (pyNext (.ref a) >>= _) _ _ s
    refine wpAny_bind (wpAny_pyNext_genexpQ (n := i - i + 1) (P := GEnd G a go caps i Pv) hh I.nolimit hroom (pin I) hgs (hgo _ rfl rfl (bare_set I.bare rfl)) (fun v s₁ gs' hb hv => ?_) (fun s₁ hp h' hk => ?_))
    · obtain ⟨j, y, H2, hl, hj, _⟩ := hv
      have hj' : i - i + 1 - 1 + j = i := hj
      omega
    · obtain ⟨_, H2, I2, pv⟩ := hp
      refine wpAny_bind (wpAny_rule (wpAny_pure ?_))
      exact htrue H2 _ (inv_same ((inv_same I2 rfl rfl (s' := s₁.setGen g .finished) (bare_set I2.bare rfl)).kept (t' := s₁.toks) hk) rfl rfl (bare_set I2.bare rfl)) pv
  | succ k ih =>
    intro i s gs hk hi ⟨H, I⟩ hgs hgo
    have hlt : i < L := by omega
    refine codeAny_builtin F.entry_all_loop ?_
    rw [Around.under_plainId F.plain_all_loop _]
    show wpAny _ A0.in1 (pyNext (.ref a) >>= _) _ _ s
    have hsz : g + 1 ≤ s.gens.size := (Array.getElem?_eq_some_iff.mp hgs).1
    refine wpAny_bind (GenW.wpAny_gsz hsz (wpAny_pyNext_genexpQ (n := L - i + 1) (P := GEnd G a go caps L Pv) hh I.nolimit hroom (pin I) hgs (hgo _ rfl rfl (bare_set I.bare rfl)) (fun v s₁ gs' hb hv => ?_) (fun s₁ hp h' hk => ?_)))
    · obtain ⟨j, y, H2, hl, hj, r2, I2, ye, kap⟩ := hv
      have hj' : L - i + 1 - 1 + j = L := hj
      have hji : j = i := by omega
      subst hji
      obtain ⟨b, eb, hb2⟩ := hYe j y H2 ye
      subst eb
      have r2' : v = Value.bool b := r2
      subst r2'
      intro hz
      rw [GenW.setGen_size] at hz
      refine wpAny_bind (wpAny_holding (wpAny_truthy_bool ?_))
      refine wpAny_bind (wpAny_letGo ?_)
      have I3 : Inv G [(a, go)] (none :: caps) H2 (s₁.setGen g gs') := inv_same I2 rfl rfl (bare_set I2.bare hb)
      cases b with
      | true =>
        rw [if_pos rfl] at hb2
        simp only [if_true]
        refine wpAny_pure ⟨plainId_quiet F.plain_all_loop _, ih (j + 1) _ gs' (by omega) hl ⟨H2, I3⟩ (setGen_at hz) fun s' eh eo eb => ?_⟩
        have e : L - j = L - (j + 1) + 1 := by omega
        have := kap s' eh eo eb hb2
        rw [e] at this
        exact this
      | false =>
        rw [if_neg Bool.false_ne_true] at hb2
        simp only [Bool.false_eq_true, if_false]
        refine wpAny_bind (wpAny_rule (wpAny_pure ?_))
        exact hfalse H2 _ I3 hb2
    · obtain ⟨h0, _⟩ := hp
      have h0' : L - i + 1 = 1 := h0
      omega
end
end Gx
namespace Gx
open PySem PySem.Spec PyProof.Rows L2 GxR
/-- all(elt for x in iter): Pv i, what holds when i items have passed -/
def rAllG (te : TE) (caps : L2.St) (Q : VK) : It → Hp → Prop := fun J H1 => ∃ (L : Nat) (Pv : Nat → Hp → Prop), Pv 0 H1 ∧ (∀ H, Pv L H → J.stop L H ∧ Q (.bl true) H) ∧
    ∀ i H, i < L → Pv i H → J.go i H ∧ ∀ y H', J.yld i H y H' → te (some y :: caps) H' fun z H2 => ∃ b, z = .bl b ∧ if b = true then Pv (i + 1) H2 else Q (.bl false) H2
def tAllG (P : Addr) (wi : TI) (te : TE) (ns : List (Str × Nat)) : TE := fun σ H Q => wi σ H fun J H1 => H1 P = some (TabO P) ∧ rAllG te (capsOf σ ns) Q J H1
section
variable {X : Cx}
theorem pe_allG {c P : Addr} {elt iter : Expr} {x : Str} {px p pos gpos : Pos} {scope : Scope} {ns : List (Str × Nat)} {wi : TI} {te : TE} {k' : Nat}
    (hr : Room (k' + 3) X.A) (hg : Gl X "all") (hm : X.mg "all" = none) (TB : TabB X.base X.mg c P) (hcode : X.env.code = .ref c) (S : GOk X.N X.env.scope scope x ns) (hnd : (x :: ns.map (·.1)).Nodup) (hi : PI X (.Name x px) iter wi)
    (he : ∀ (s : Shared) (H : Hp) (C : Addr) (code : Value) (fp : List Addr) (A : Around), Room k' A → PE (gcx X s H (x :: ns.map (·.1)) (genEnv scope (cloFrom X.env.cells scope.names []) C code builtinsNs X.env) fp A) elt te)
    (hs : ∀ v, genFold iter X.env v = pure v := by intro _; rfl) (hb : bootBuiltins "all" = some (.builtin "all") := by decide +kernel)
    (hst : starEach [.GeneratorExp elt [⟨.Name x px, iter, [], 0⟩] scope gpos] X.env = (false, eval (.GeneratorExp elt [⟨.Name x px, iter, [], 0⟩] scope gpos) X.env) :: starEach [] X.env := by rfl) :
    PE X (.Call (.Name "all" p) [.GeneratorExp elt [⟨.Name x px, iter, [], 0⟩] scope gpos] [] pos) (tAllG P wi te ns) := by
  refine ⟨fun pins s σ H Q I h => ?_⟩
  refine wpAny_Call_Name_kw (ld_blt I hg hm hb ?_)
  refine PyProof.Rows.callWith_builtin1 ?_ hst (by rfl)
  rw [hst]
  show wpAny _ _ (spliced ((false, eval (.GeneratorExp elt [⟨.Name x px, iter, [], 0⟩] scope gpos) X.env) :: backTo pos (starEach [] X.env))) _ _ s
  refine Calls.spliced_cons (gen_made (R := rAllG te (capsOf σ ns) Q) hr TB hcode S hnd hi he hs I h fun J H1 a s5 hR hG => ?_)
  obtain ⟨g, go, c5, hgen, hgs, hA⟩ := hG
  have hr1 : Room (k' + 1) X.A.in1.in1 := hr.in1.in1
  obtain ⟨G, hG1, hG2, back, I5, goes⟩ := hA X.A.in1.in1 hr1 (by rw [show X.A.in1.in1.frames = X.A.frames from rfl]; exact I.ok.frames)
  obtain ⟨L, Pv, p0, hstop, hstep⟩ := hR
  refine Calls.spliced_nil ?_
  refine call_function_tree F.kind_all F.plain_all F.entry_all (F.args_all1 _) ?_
  unfold Builtin.«all»
  refine wpAny_bind (m := oneArg "all" _) (wpAny_pure ?_)
  refine wpAny_bind (wpAny_pyIter_gen (hgen _ (I5.pin (a, go) (List.mem_append_right _ (List.mem_singleton.mpr rfl))).1) ?_)
  refine wpAny_pure ⟨plainId_quiet F.plain_all_loop _, ?_⟩
  refine codeAny_allG (G := G) (L := L) (Pv := Pv) (Qf := fun H => Q (.bl false) H) (Ye := fun i z H2 => ∃ b, z = .bl b ∧ if b = true then Pv (i + 1) H2 else Q (.bl false) H2) ⟨hG1, hG2⟩ hr.hd (by have := hr.dp; show X.A.depth < recursionLimit; omega) hgen (fun i y H h => h) (fun H' s' J' q => ?_) (fun H' s' J' q => ?_) L 0 s5 (.fresh c5) rfl (Nat.zero_le _) ⟨H1, I5⟩ hgs
    (goes L Pv _ (fun i H' hi hp => hstep i H' hi hp) (fun H' hp => (hstop H' hp).1) p0)
  · exact ⟨.bl false, H', back H' s' J', rfl, q⟩
  · exact ⟨.bl true, H', back H' s' J', rfl, (hstop H' q).2⟩
end
end Gx
end

section
set_option Elab.async false
set_option linter.all false
set_option maxRecDepth 100000
set_option maxHeartbeats 4000000
/-! Defs that lean on «no repr is under way» (their callers' guards are empty), and the end of a law whose tables are open things. -/
namespace Gx
open PySem PySem.Spec PyProof.Rows L2 GxR
structure FnG (P : Program) (w : World) (K : PySem.W.Frag) (mg : Str → Option Value) (base : Heap) (k : Nat) (f : Addr) (fd : FuncData) (ps : List Str) (sp : Sp) : Prop where
  len : ∀ vs H Q E, sp vs H Q E → vs.length = ps.length
  run : ∀ (A : Around) (outer : List Env) (s : Shared) (H : Hp) (args : Args) (us : List Value) (vs : List V) (Q : VK) (E : XK), Room k A → A.guards = some [] → Env0 P w K mg base A outer s H → BindsTo s fd args (ps.zip us) → Vals vs us → sp vs H Q E →
    codeAny (model P w) A (.call (.ref f) args) (CR CX0 outer P w H s Q E) s
section
variable {P : Program} {w : World} {K : PySem.W.Frag} {mg : Str → Option Value} {base : Heap} {k : Nat} {f : Addr}
theorem fnG_mono {j : Nat} {fd : FuncData} {ps : List Str} {sp : Sp} (F : FnG P w K mg base j f fd ps sp) (h : j ≤ k) : FnG P w K mg base k f fd ps sp :=
  ⟨F.len, fun A outer s H args us vs Q E hr => F.run A outer s H args us vs Q E (hr.mono h)⟩
theorem fnG_of {x qual : Str} {st : Stmt} {fd : FuncData} {N ps : List Str} {sp : Sp} (F : Fun K x qual st f fd) (S : FnScope N ps (defScope st)) (len : ∀ vs H Q E, sp vs H Q E → vs.length = ps.length)
    (hbody : ∀ (cdv : Value) (A : Around) (outer : List Env) (s : Shared) (H : Hp) (vs : List V) (Q : VK) (E : XK), Room k (A.deeper (envOfC qual (defScope st) s.heap.objs.size f cdv)) → A.guards = some [] → sp vs H Q E →
      ∃ t, PSs (cxOf CX0 P w K mg base N qual (defScope st) f cdv A outer s H E).nox (defBody st) t ∧ t { nx := fun _ H' => Q .non H', rt := Q } (start N vs) H) : FnG P w K mg base (k + 1) f fd ps sp := by
  obtain ⟨oc, od, kV, doc, pm, an, cdv, ct, osl, rfl, lk, hcd⟩ := F.ex
  refine ⟨len, fun A outer s H args us vs Q E hr hg e0 hb r hsp => ?_⟩
  have KX : K.In s.heap := e0.mod.kin.keeps fun b o e => (e0.bs b o e).1
  refine codeAny_call_function hr.depth (KX _ _ lk) rfl S.co S.gen rfl (PySem.W.codeRec_of KX hcd) (hb _ _ _ _ ?_)
  refine wpAny_newFunctionEnv_cells S.kind (fun y hy => ?_) fun env he s1 x => ?_
  · rcases S.par y.1 (List.of_mem_zip hy).1 with q | q
    · exact .inl q
    · exact .inr ⟨q, PySem.W.cellsFrom_some _ _ _ (.inl q)⟩
  · subst he
    refine ⟨(e0.mod.nolimit.keeps fun b o e => (e0.bs b o e).1).keeps x.toInCall.keep, codeAny_func ?_⟩
    obtain ⟨t, ht, hq⟩ := hbody cdv A outer s H vs Q E (hr.deeper _) hg hsp
    have I : Inv (cxOf CX0 P w K mg base N qual (defScope st) f cdv A outer s H E) [] (start N vs) H s1 := inv_start S hr.hd e0 (len _ _ _ _ hsp) r x
    refine wpAny_mono (ht.nox.run [] s1 (start N vs) H _ I hq) (fun fl s' hs => ?_) fun e s' hs => hs
    cases fl with
    | ret u => exact let ⟨v, σ', H', J, rv, q⟩ := hs; ⟨v, H', J.os, J.bare, J.base, J.hok, rv, q⟩
    | next => exact let ⟨σ', H', J, q⟩ := hs; ⟨V.non, H', J.os, J.bare, J.base, J.hok, rfl, q⟩
    | brk => exact let ⟨_, _, _, q⟩ := hs; q.elim
    | cont => exact let ⟨_, _, _, q⟩ := hs; q.elim
end
/-- a def that may be called by its name: positionally (G: with the guards known) -/
structure Cal (P : Program) (w : World) (K : PySem.W.Frag) (mg : Str → Option Value) (base : Heap) (k : Nat) (x : Str) (ps : List Str) (sp : Sp) : Prop where
  ex : ∃ f fd, FnOk P w K mg base CX0 k f fd ps sp ∧ mg x = some (.ref f) ∧ PySem.W.keepIn K (.ref f) = true ∧ Binds K fd ps []
structure CalG (P : Program) (w : World) (K : PySem.W.Frag) (mg : Str → Option Value) (base : Heap) (k : Nat) (x : Str) (ps : List Str) (sp : Sp) : Prop where
  ex : ∃ f fd, FnG P w K mg base k f fd ps sp ∧ mg x = some (.ref f) ∧ PySem.W.keepIn K (.ref f) = true ∧ Binds K fd ps []
/-- .. with all its arguments by keywords, in the order ks -/
structure CalK (P : Program) (w : World) (K : PySem.W.Frag) (mg : Str → Option Value) (base : Heap) (k : Nat) (x : Str) (ps ks : List Str) (gV : List V → List V → List V) (sp : Sp) : Prop where
  ex : ∃ f fd g, FnOk P w K mg base CX0 k f fd ps sp ∧ mg x = some (.ref f) ∧ PySem.W.keepIn K (.ref f) = true ∧ KBinds K fd ps ks g gV
section
variable {X : Cx} {k : Nat} {x : Str} {ps : List Str} {sp : Sp}
theorem pe_cal {e : Expr} {es : List Expr} {p pos : Pos} {t : TA} (C : Cal X.prog X.w X.K X.mg X.base k x ps sp) (hr : Room k X.A) (ha : PA X (e :: es) t) (hg : Gl X x := by rfl) (hdb : (x == ("__debug__" : Str)) = false := by decide)
    (he : starEach (e :: es) X.env = (false, eval e X.env) :: starEach es X.env := by rfl) (hpl : (backTo pos (starEach es X.env)).any (·.1) = false := by rfl) : PE X (.Call (.Name x p) (e :: es) [] pos) (tCall sp [] E0 t) := by
  obtain ⟨f, fd, F, hm, hk, hb⟩ := C.ex
  exact pe_call F hr hg hm hk hb .nil pass0 ha hdb he hpl
theorem pe_calG {e : Expr} {es : List Expr} {p pos : Pos} {t : TA} (C : CalG X.prog X.w X.K X.mg X.base k x ps sp) (hr : Room k X.A) (hgd : X.A.guards = some []) (ha : PA X (e :: es) t) (hg : Gl X x := by rfl) (hdb : (x == ("__debug__" : Str)) = false := by decide)
    (he : starEach (e :: es) X.env = (false, eval e X.env) :: starEach es X.env := by rfl) (hpl : (backTo pos (starEach es X.env)).any (·.1) = false := by rfl) : PE X (.Call (.Name x p) (e :: es) [] pos) (tCall sp [] E0 t) := by
  obtain ⟨f, fd, F, hm, hk, hb⟩ := C.ex
  refine ⟨fun pins s σ H Q I h => ?_⟩
  refine wpAny_Call_Name_kw (ld_glob I hg hm ?_ hdb)
  refine PySem.W.callWith_K (h₀ := X.base) I.ok.mod.kin hk (thn (ha.run pos pins s σ H _ I h) fun us s1 ⟨vs, H1, I1, r, q⟩ => ⟨I1.kIn, ?_⟩) he hpl
  have q' : sp (vs ++ []) H1 Q E0 := q
  rw [List.append_nil] at q'
  have hl : (us ++ []).length = ps.length := by rw [List.append_nil, ← r.length]; exact F.len _ _ _ _ q'
  have hbt := hb s1 us I1.kIn hl
  rw [List.append_nil] at hbt
  refine wpAny_call (codeAny_mono (F.run X.A X.stack s1 H1 ⟨us, []⟩ us vs Q E0 hr hgd I1.env0 hbt r q') fun r s' hq => ?_)
  cases r with
  | error e => exact False.elim hq
  | ok fl =>
    cases fl with
    | ret u => exact I1.after hq
    | next => exact False.elim hq
    | brk => exact False.elim hq
    | cont => exact False.elim hq
theorem pe_calK {kws : List Keyword} {p pos : Pos} {tk : TA} {ks : List Str} {gV : List V → List V → List V} (C : CalK X.prog X.w X.K X.mg X.base k x ps ks gV sp) (hr : Room k X.A) (hkw : PK X kws tk) (hg : Gl X x := by rfl) (hall : (backToKw pos (keywordEach kws X.env)).all (·.1.isSome) = true := by rfl) (hks : (backToKw pos (keywordEach kws X.env)).filterMap (·.1) = ks := by rfl)
    (hdb : (x == ("__debug__" : Str)) = false := by decide) (hpl : ((backTo pos (starEach [] X.env)).any (·.1) || (backToKw pos (keywordEach kws X.env)).any (·.1.isNone)) = false := by rfl) :
    PE X (.Call (.Name x p) [] kws pos) (tCallK sp gV E0 tNil tk) := by
  obtain ⟨f, fd, g, F, hm, hk, hb⟩ := C.ex
  refine ⟨fun pins s σ H Q I h => ?_⟩
  refine wpAny_Call_Name_kw (ld_glob I hg hm ?_ hdb)
  refine PySem.W.callWith_KW0 (h₀ := X.base) I.ok.mod.kin hk hall (thn (hkw.run pos pins s σ H _ I h) fun ws s2 ⟨zs, H2, I2, rz, q2⟩ => ⟨I2.kIn, ?_⟩) hpl
  rw [hks]
  exact run_fnk F hr hb pass0 I2 .nil rz q2
end
/-- the keywords' values in the parameters' order -/
def gVof (idx : List Nat) (n : Nat) : List V → List V → List V
  | [], zs => if zs.length = n then idx.map (fun i => zs.getD i .non) else []
  | _ :: _, _ => []
def gOf (idx : List Nat) (n : Nat) : List Value → List Value → List Value
  | [], zs => if zs.length = n then idx.map (fun i => zs.getD i .none) else []
  | _ :: _, _ => []
theorem vals_getD {zs : List V} {ws : List Value} (r : Vals zs ws) (i : Nat) : RelV (zs.getD i .non) (ws.getD i .none) := by
  rw [List.getD_eq_getElem?_getD, List.getD_eq_getElem?_getD]
  cases e : zs[i]? with
  | none => rw [r.none_of e]; exact rfl
  | some x => obtain ⟨u, h1, h2⟩ := r.get e; rw [h1]; exact h2
theorem vals_idx {zs : List V} {ws : List Value} (r : Vals zs ws) : ∀ idx : List Nat, Vals (idx.map fun i => zs.getD i .non) (idx.map fun i => ws.getD i .none)
  | [] => .nil
  | i :: l => .cons (vals_getD r i) (vals_idx r l)
theorem kbinds_mk {K : PySem.W.Frag} {x qual : Str} {st : Stmt} {f : Addr} {fd : FuncData} {ps ks : List Str} (F : Fun K x qual st f fd) (idx : List Nat) (n : Nat) (hn : ps.length ≠ 0)
    (h : ∀ (kV doc pm : Value) (an : Option Addr) (cdv ct : Value) (ws : List Value), ws.length = n → bindArgs (PySem.W.fnOf x qual (defArgs st) (defBody st) (defScope st) .none kV doc pm an cdv ct) ⟨[], ks.zip ws⟩ = pure (ps.zip (idx.map fun i => ws.getD i .none))) :
    KBinds K fd ps ks (gOf idx n) (gVof idx n) := by
  obtain ⟨oc, od, kV, doc, pm, an, cdv, ct, osl, rfl, lk, hcd⟩ := F.ex
  refine ⟨fun s us ws _ hl => ?_, fun {vs us zs ws} r rz => ?_⟩
  · cases us with
    | cons u us => exact absurd hl.symm hn
    | nil =>
      by_cases e : ws.length = n
      · have e2 : gOf idx n [] ws = idx.map fun i => ws.getD i .none := if_pos e
        rw [e2]
        exact .of_eq (h kV doc pm an cdv ct ws e)
      · have e2 : gOf idx n [] ws = [] := if_neg e
        rw [e2] at hl
        exact absurd hl.symm hn
  · cases r with
    | cons _ _ => exact .nil
    | nil =>
      by_cases e : ws.length = n
      · have e2 : gOf idx n [] ws = idx.map fun i => ws.getD i .none := if_pos e
        have e3 : gVof idx n [] zs = idx.map fun i => zs.getD i .non := if_pos (rz.length.trans e)
        rw [e2, e3]
        exact vals_idx rz idx
      · have e2 : gOf idx n [] ws = [] := if_neg e
        have e3 : gVof idx n [] zs = [] := if_neg (fun z => e (rz.length.symm.trans z))
        rw [e2, e3]
        exact .nil
/-! ### the end of a law -/
section
variable {P : Program} {w : World} {K : PySem.W.Frag} {mg mb : Str → Option Value} {k : Nat} {fa a : Addr} {cs : List (Addr × Addr)} {fd : FuncData} {x : Str} {sp : Sp} {s1 : Shared} {vs : List Value} {ns : List Int}
/-- what is tracked at the law's entry: the script (unless it is written), the tables -/
def H0 (cs : List (Addr × Addr)) (a : Addr) (wr : Bool) (o : Obj) (xs : List V) : Hp := fun b => if b = a ∧ wr = false then some (.frz o (.lst xs)) else if b ∈ cs.map (·.2) then some (TabO b) else none
theorem law_end (KX : K.In s1.heap) (hns : s1.heap.Ns mainGlobals mg) (hb : s1.heap.Ns builtinsNs mb) (hbb : ∀ x : Str, x ≠ "__name__" → mb x = bootBuiltins x) (hlim : s1.heap.NoLimit) (hg : s1.gens = #[])
    (hT : ∀ p ∈ cs, s1.heap.get? p.2 = some { cls := .none, data := .fields #[] }) (nT : ∀ p ∈ cs, K.lookup p.2 = none) (C : ∀ p ∈ cs, PySem.W.CodeHd s1.heap p.1 p.2)
    (hbm : ∃ (bm : Addr) (ob : Obj), mg "__builtins__" = some (.ref bm) ∧ bm ≠ builtinsNs ∧ s1.heap.get? bm = some ob ∧ ob.cls = .type "module" ∧ ob.dict = some builtinsNs ∧ ob.data = .plain)
    (ha : s1.heap.get? a = some { cls := .type "list", data := .seq vs.toArray }) (hi : IntsAre vs ns) (hl : ns.length ≤ sizeLine) (hr : Room k callerA)
    (F : ∀ base : Heap, K.In base → base.Ns mainGlobals mg → (∀ p ∈ cs, TabB base mg p.1 p.2) → FnG P w K mg base k fa fd [x] sp) (hbind : ∀ (s : Shared) (u : Value), BindsTo s fd ⟨[u], []⟩ [(x, u)])
    (hsp : ∀ H : Hp, (∀ p ∈ cs, H p.2 = some (TabO p.2)) → SqL K H a (ns.map V.int) → sp [.ref a] H (fun v H' => v = .bl true ∧ ∀ p ∈ cs, H' p.2 = some (TabO p.2)) E0) :
    codeAny (model P w) callerA (.call (.ref fa) ⟨[.ref a], []⟩) (fun r s' => r = .ok (.ret (.bool true)) ∧ OldK s1.heap s'.heap ∧ s'.os = s1.os ∧ AllBare s'.gens) s1 := by
  have rv := vals_ints hi
  obtain ⟨wr, hwr⟩ : ∃ wr : Bool, wr = (K.lookup a).isSome := ⟨_, rfl⟩
  obtain ⟨H, hH⟩ : ∃ H, H = H0 cs a wr { cls := .type "list", data := .seq vs.toArray } (ns.map V.int) := ⟨_, rfl⟩
  have tabNe : ∀ p ∈ cs, p.2 ≠ a := fun p hp z => by
    have e := hT p hp
    rw [z, ha] at e
    cases e
  have HT : ∀ p ∈ cs, H p.2 = some (TabO p.2) := fun p hp => by
    rw [hH]
    show (if p.2 = a ∧ wr = false then _ else if p.2 ∈ cs.map (·.2) then _ else _) = _
    rw [if_neg fun z => tabNe p hp z.1, if_pos (List.mem_map.mpr ⟨p, hp, rfl⟩)]
  -- an address that is tracked: the script, or a table
  have Hcase : ∀ b, H b = none ∨ (b = a ∧ wr = false ∧ H b = some (.frz { cls := .type "list", data := .seq vs.toArray } (.lst (ns.map V.int)))) ∨ (∃ p ∈ cs, p.2 = b ∧ H b = some (TabO b)) := fun b => by
    by_cases h1 : b = a ∧ wr = false
    · refine .inr (.inl ⟨h1.1, h1.2, ?_⟩)
      rw [hH]
      exact if_pos h1
    · by_cases h2 : b ∈ cs.map (·.2)
      · obtain ⟨p, hp, e⟩ := List.mem_map.mp h2
        refine .inr (.inr ⟨p, hp, e, ?_⟩)
        rw [← e]
        exact HT p hp
      · refine .inl ?_
        rw [hH]
        exact (if_neg h1).trans (if_neg h2)
  have free : ∀ {b : Addr} {o : Obj}, s1.heap.get? b = some o → (∀ z n, o.data ≠ .seq z n) → o.data ≠ .fields #[] → H b = none := fun {b o} e h1 h2 => by
    rcases Hcase b with z | ⟨z, _⟩ | ⟨p, hp, z, _⟩
    · exact z
    · rw [z, ha] at e
      cases e
      exact (h1 _ _ rfl).elim
    · have e2 := hT p hp
      rw [z, e] at e2
      cases e2
      exact (h2 rfl).elim
  have toBase : ∀ {b : Addr} {o : Obj}, s1.heap.get? b = some o → H b = none → (hidT s1.heap H).get? b = some o := fun e n => hidT_get e n
  have nsB : ∀ {b : Addr} {m : Str → Option Value}, s1.heap.Ns b m → (hidT s1.heap H).Ns b m := fun {b m} ⟨o, es, ep, e, d, r⟩ =>
    ⟨o, es, ep, toBase e (free e (fun z n q => by rw [d] at q; cases q) fun q => by rw [d] at q; cases q), d, r⟩
  have kinB : K.In (hidT s1.heap H) := fun b o e => toBase (KX b o e) (by
    rcases Hcase b with z | ⟨z, hw, _⟩ | ⟨p, hp, z, _⟩
    · exact z
    · rw [hwr, ← z, e] at hw
      cases hw
    · rw [← z, nT p hp] at e
      cases e)
  have modB : L2.Mod K mg (hidT s1.heap H) := ⟨kinB, nsB hns, ⟨mb, nsB hb, hbb⟩, let ⟨mc, h1, h2⟩ := hlim; ⟨mc, nsB h1, h2⟩⟩
  have TB : ∀ p ∈ cs, TabB (hidT s1.heap H) mg p.1 p.2 := fun p hp => by
    have e0 := hT p hp
    refine ⟨?_, ?_, fun z => ?_⟩
    · obtain ⟨o, us, file, tf, flags, tg, inF, text, tt, e1, r1, r2, r3, rest⟩ := C p hp
      refine ⟨o, us, file, tf, flags, tg, inF, text, tt, toBase e1 (free e1 (fun z n q => ?_) fun q => ?_), r1, r2, r3, rest⟩
      · rw [r2] at q; cases q
      · rw [r2] at q; cases q; simp at r3
    · obtain ⟨bm, ob, b1, b2, b3, b4, b5, b6⟩ := hbm
      refine ⟨bm, ob, b1, b2, fun q => ?_, fun q => ?_, toBase b3 (free b3 (fun z n q => by rw [b6] at q; cases q) fun q => by rw [b6] at q; cases q), b4, b5, b6⟩
      · obtain ⟨o, es, ep, e, hd, _⟩ := hns
        rw [q, e] at b3
        cases b3
        rw [hd] at b6
        cases b6
      · rw [q, e0] at b3
        cases b3
        cases b6
    · obtain ⟨o, es, ep, e, hd, _⟩ := hns
      rw [z, e0] at e
      cases e
      cases hd
  have okH : HOk P w H s1.heap := fun b u e => by
    rcases Hcase b with z | ⟨z, _, z2⟩ | ⟨p, hp, z, z2⟩
    · rw [z] at e; cases e
    · rw [z2] at e; cases e
      rw [z]
      exact ⟨ha, by rw [List.length_map]; exact hl, vs, _, rv, ha⟩
    · rw [z2] at e; cases e
      exact tab_ok ⟨#[], by rw [← z]; exact hT p hp, trivial⟩
  have e0 : Env0 P w K mg (hidT s1.heap H) callerA [] s1 H := ⟨rfl, modB, fun b o e => of_hidT e, Nat.le_of_eq (hidT_size _ _), trivial, fun b hb => absurd (show b ∈ ([] : List Addr) from hb) (by simp), okH, .of_eq hg⟩
  have hS : SqL K H a (ns.map V.int) := by
    cases hk : K.lookup a with
    | some o =>
      have e := KX a o hk
      rw [ha] at e
      cases e
      exact .inr ⟨_, vs.toArray, _, hk, rfl, rfl, rfl, by rw [List.size_toArray, hi.length]; exact hl, by simpa using rv⟩
    | none =>
      refine .inl (.inr ⟨{ cls := .type "list", data := .seq vs.toArray }, ?_⟩)
      rw [hH]
      exact if_pos ⟨rfl, by rw [hwr, hk]; rfl⟩
  refine codeAny_mono ((F _ kinB (nsB hns) TB).run callerA [] s1 H ⟨[.ref a], []⟩ [.ref a] [.ref a] _ _ hr rfl e0 (hbind s1 (.ref a)) (.cons rfl .nil) (hsp H HT hS)) fun r s' h => ?_
  cases r with
  | error e => exact False.elim h
  | ok fl =>
    cases fl with
    | next => exact False.elim h
    | brk => exact False.elim h
    | cont => exact False.elim h
    | ret u =>
      obtain ⟨v, H', os, bare, un, okH', r', q1, q2⟩ := h
      subst q1
      obtain rfl : u = Value.bool true := r'
      have grown : ∀ p ∈ cs, ∃ more : Array Value, s'.heap.get? p.2 = some { cls := .none, data := .fields more } := fun p hp => let ⟨⟨ps, e, _⟩, _⟩ := okH' p.2 _ (q2 p hp); ⟨ps, e⟩
      have other : ∀ b o, (∀ p ∈ cs, p.2 ≠ b) → s1.heap.get? b = some o → s'.heap.get? b = some o := fun b o nb e => by
        rcases Hcase b with z | ⟨z, _, z2⟩ | ⟨p, hp, z, _⟩
        · exact un.keep b o e z (by intro z; cases z) (by simp)
        · have e1 := (okH b _ z2).1
          rw [e] at e1
          cases e1
          exact (okH' b _ (un.frzs b _ _ z2)).1
        · exact (nb p hp z).elim
      refine ⟨rfl, ⟨fun b o e => ?_, fun b o e => ?_⟩, os, bare⟩
      · by_cases hb : ∃ p ∈ cs, p.2 = b
        · obtain ⟨p, hp, ep⟩ := hb
          obtain ⟨more, hm⟩ := grown p hp
          subst ep
          rw [hT p hp] at e
          cases e
          exact .inr (.inl ⟨((C p hp).tab (hT p hp)).isCodeTable, rfl, #[], more, rfl, by rw [Array.empty_append]; exact hm⟩)
        · exact .inl (other b o (fun p hp z => hb ⟨p, hp, z⟩) e)
      · by_cases hb : ∃ p ∈ cs, p.2 = b
        · obtain ⟨p, hp, ep⟩ := hb
          obtain ⟨more, hm⟩ := grown p hp
          rw [← ep]
          exact ⟨_, hm⟩
        · exact ⟨o, other b o (fun p hp z => hb ⟨p, hp, z⟩) e⟩
end
/-- what is to be shown of the law at the head's heap; tn: the defs whose tables may grow, their code objects and tables -/
def LawE (l : PySem.W.OpenLaw) (q : Program) (w : World) (K : PySem.W.Frag) (k n : Nat) (x : Str) (mg : Str → Option Value) (fa : Addr) : Prop :=
  ∃ (fd : FuncData) (tn : List (Str × Addr × Addr)) (sp : Sp), (∀ p ∈ tn, PySem.W.tabIn K p.1 = some p.2 ∧ ((recsOf q).any fun e => e.name == p.1) = true ∧ K.lookup p.2.2 = none) ∧ (∀ (s : Shared) (u : Value), BindsTo s fd ⟨[u], []⟩ [(x, u)]) ∧
    (∀ (H : Hp) (a : Addr) (ns : List Int), ns.length ≤ n → (∀ z ∈ ns, Builtin.Int.intBits z ≤ 1048576) → (∀ p ∈ tn, H p.2.2 = some (TabO p.2.2)) → SqL K H a (ns.map V.int) → sp [.ref a] H (fun v H' => v = .bl true ∧ ∀ p ∈ tn, H' p.2.2 = some (TabO p.2.2)) E0) ∧
    ∀ base : Heap, K.In base → base.Ns mainGlobals mg → (∀ p ∈ tn, TabB base mg p.2.1 p.2.2) → FnG l.prog w K mg base k fa fd [x] sp
theorem walk_E {l : PySem.W.OpenLaw} {n k : Nat} {q : Program} {loose : List Str} {XP : (Str → Option Value) → Heap → Prop} {YP : World → Heap → Prop} {d : DefRec} {K : Params → PySem.W.Frag} {x : Str}
    (hn : l.most = some n) (hn2 : n ≤ sizeLine) (hdf : d.params.defaults = []) (hr : Room k callerA) (hY : ∀ (w : World) (h : Heap), YP w h → (K w.params).In h)
    (F : ∀ (w : World) (mg : Str → Option Value) (fa : Addr) (h : Heap), (K w.params).In h → h.Ns mainGlobals mg → mg d.name = some (.ref fa) → LawE l q w (K w.params) k n x mg fa) :
    PySem.W.WalkO q loose XP YP l.row.toRowW d [] (fun f vs => PySem.call f vs) := by
  refine Att.attach_callB hn hdf fun w s₀ s1 mg mb fa o pm cd doc a vs ns G Y ho hd hcd hmg hobj hints hlen hbits hg => ?_
  have KX := hY w _ Y
  obtain ⟨fd, tn, sp, hT, hb, hsp, hF⟩ := F w mg fa _ KX G.T.g hmg
  have key : ∀ p ∈ tn, PySem.W.CodeHd s1.heap p.2.1 p.2.2 ∧ s1.heap.get? p.2.2 = some { cls := .none, data := .fields #[] } := fun p hp => by
    obtain ⟨h1, h2, _⟩ := hT p hp
    cases e : (recsOf q).find? (fun e => e.name == p.1) with
    | none =>
      rw [List.find?_eq_none] at e
      obtain ⟨z, z1, z2⟩ := List.any_eq_true.mp h2
      exact absurd z2 (e z z1)
    | some d0 => exact PySem.W.tab_of G.T KX e h1
  have tr : ∀ p ∈ tn.map (·.2), ∃ y ∈ tn, y.2 = p := fun p hp => let ⟨y, h1, h2⟩ := List.mem_map.mp hp; ⟨y, h1, h2⟩
  refine law_end (cs := tn.map (·.2)) KX G.T.g G.T.b G.T.builtins G.T.nolimit hg (fun p hp => ?_) (fun p hp => ?_) (fun p hp => ?_) G.T.bmain hobj hints (Nat.le_trans hlen hn2) hr (fun base h1 h2 h3 => hF base h1 h2 fun p hp => h3 p.2 (List.mem_map.mpr ⟨p, hp, rfl⟩)) hb fun H hH hS => ?_
  · obtain ⟨y, hy, e⟩ := tr p hp
    rw [← e]
    exact (key y hy).2
  · obtain ⟨y, hy, e⟩ := tr p hp
    rw [← e]
    exact (hT y hy).2.2
  · obtain ⟨y, hy, e⟩ := tr p hp
    rw [← e]
    exact (key y hy).1
  · have := hsp H a ns hlen hbits (fun p hp => hH p.2 (List.mem_map.mpr ⟨p, hp, rfl⟩)) hS
    have e : (fun (v : V) (H' : Hp) => v = V.bl true ∧ ∀ p ∈ tn.map (·.2), H' p.2 = some (TabO p.2)) = fun v H' => v = V.bl true ∧ ∀ p ∈ tn, H' p.2.2 = some (TabO p.2.2) := by
      funext v H'
      exact propext ⟨fun ⟨a, b⟩ => ⟨a, fun p hp => b p.2 (List.mem_map.mpr ⟨p, hp, rfl⟩)⟩, fun ⟨a, b⟩ => ⟨a, fun p hp => by
        obtain ⟨y, hy, e⟩ := tr p hp
        rw [← e]
        exact b y hy⟩⟩
    rw [e]
    exact this
end Gx
end

section
set_option Elab.async false
set_option linter.all false
set_option maxRecDepth 100000
set_option maxHeartbeats 4000000
/-! More rules: ** of great ints, repr of nested data of ints, xs[i] op= e, chains of three, != of types. -/
namespace Gx
open PySem PySem.Spec PyProof.Rows L2 GxR
/-! ### repr -/
mutual
def nod : PyData → Nat
  | .list xs => nodAll xs + 3
  | .tuple xs => nodAll xs + 3
  | _ => 1
def nodAll : List PyData → Nat
  | [] => 0
  | x :: xs => nod x + 2 + nodAll xs
end
mutual
def intsP (B : Nat) : PyData → Prop
  | .int i => i.natAbs < 2 ^ B
  | .list xs => intsAll B xs
  | .tuple xs => intsAll B xs
  | _ => False
def intsAll (B : Nat) : List PyData → Prop
  | [] => True
  | x :: xs => intsP B x ∧ intsAll B xs
end
mutual
theorem ints_shown {B : Nat} (hB : 0 < B) : ∀ d : PyData, intsP B d → d.shown.length ≤ (B + 1) * nod d
  | .int i, h => by
    have h' : i.natAbs < 2 ^ B := h
    have e := int_text_length_le (a := i) hB (PySem.Flt.log2_lt_of hB h')
    show (Str.ofString (toString i)).length ≤ (B + 1) * 1
    rw [PySem.ofString_length, Nat.mul_one]
    exact e
  | .list xs, h => by
    have h1 := ints_shownAll hB xs h
    have h2 := listText_len_le (PyData.shownAll xs)
    have h3 := PyData.shownAll_length xs
    have e : (B + 1) * (nodAll xs + 3) = (B + 1) * nodAll xs + (B + 1) * 3 := Nat.mul_add ..
    show (listText (PyData.shownAll xs)).length ≤ (B + 1) * (nodAll xs + 3)
    omega
  | .tuple xs, h => by
    have h1 := ints_shownAll hB xs h
    have h2 := tupleText_len_le (PyData.shownAll xs)
    have h3 := PyData.shownAll_length xs
    have e : (B + 1) * (nodAll xs + 3) = (B + 1) * nodAll xs + (B + 1) * 3 := Nat.mul_add ..
    show (tupleText (PyData.shownAll xs)).length ≤ (B + 1) * (nodAll xs + 3)
    omega
  | .none, h => h.elim
  | .bool _, h => h.elim
  | .str _, h => h.elim
  | .dict _, h => h.elim
theorem ints_shownAll {B : Nat} (hB : 0 < B) : ∀ xs : List PyData, intsAll B xs → ((PyData.shownAll xs).map (·.length)).sum + 2 * xs.length ≤ (B + 1) * nodAll xs
  | [], _ => by simp [PyData.shownAll]
  | x :: xs, h => by
    have h1 := ints_shown hB x h.1
    have h2 := ints_shownAll hB xs h.2
    have e : (B + 1) * nodAll (x :: xs) = (B + 1) * nod x + (B + 1) * 2 + (B + 1) * nodAll xs := by
      show (B + 1) * (nod x + 2 + nodAll xs) = _
      rw [Nat.mul_add, Nat.mul_add]
    rw [e]
    simp only [PyData.shownAll, List.map_cons, List.sum_cons, List.length_cons]
    omega
end
mutual
theorem ints_show {B : Nat} (h2 : B ≤ 1900) (hB : 0 < B) : ∀ d : PyData, intsP B d → d.showable = true ∧ d.hasDict = false
  | .int i, h => by
    have h' : i.natAbs < 2 ^ B := h
    exact ⟨decide_eq_true (Nat.lt_of_lt_of_le (PySem.Flt.log2_lt_of hB h') (by omega)), rfl⟩
  | .list xs, h => ints_showAll h2 hB xs h
  | .tuple xs, h => ints_showAll h2 hB xs h
  | .none, h => h.elim
  | .bool _, h => h.elim
  | .str _, h => h.elim
  | .dict _, h => h.elim
theorem ints_showAll {B : Nat} (h2 : B ≤ 1900) (hB : 0 < B) : ∀ xs : List PyData, intsAll B xs → PyData.showableAll xs = true ∧ PyData.hasDictAll xs = false
  | [], _ => ⟨rfl, rfl⟩
  | x :: xs, h => by
    obtain ⟨a1, a2⟩ := ints_show h2 hB x h.1
    obtain ⟨b1, b2⟩ := ints_showAll h2 hB xs h.2
    exact ⟨by simp only [PyData.showableAll, a1, b1, Bool.and_self], by simp only [PyData.hasDictAll, a2, b2, Bool.or_self]⟩
end
section
variable {X : Cx}
/-- repr of a list or a tuple of ints, at any depth -/
def rRepr (K : PySem.W.Frag) : List V → Hp → VK → Prop := fun vs H Q => ∃ (a : Addr) (d : PyData) (B : Nat), vs = [.ref a] ∧ Dp K H (.ref a) d ∧ intsP B d ∧ 0 < B ∧ B ≤ 1900 ∧ (B + 1) * nod d ≤ 16777216 ∧ d.depth ≤ 30 ∧ Q (.str d.shown) H
theorem cr_repr {k : Nat} (hr : Room k X.A) (hg : X.A.guards = some []) : CallR X (.builtin "repr") (rRepr X.K) := by
  intro pins s σ H vs us Q I r h
  obtain ⟨a, d, B, rfl, hd, hi, h0, hB, hn, hdp, q⟩ := h
  cases r with
  | cons r1 rr =>
    cases rr
    cases (show _ = Value.ref a from r1)
    obtain ⟨as, R⟩ := Dp.reads I d (.ref a) (.ref a) hd rfl
    obtain ⟨s1, s2⟩ := ints_show hB h0 d hi
    refine repr_of_reads' R s1 (PyData.noDict_hsm s2) hg (by have := hr.un; omega) (fun b o e => e) (fun h' u tk hk => ⟨.str d.shown, H, I.kept hk, ⟨u, rfl⟩, q⟩) ?_
    have := ints_shown h0 d hi
    show d.shown.length ≤ 16777216
    omega
/-! ### ** -/
def CPowW (i j : Int) : Prop := 0 ≤ j ∧ ∃ b : Nat, i.natAbs < 2 ^ b ∧ 0 < b ∧ (b : Int) * j ≤ 134217728
theorem op_powW : OpR X (binaryOp .Pow) (rI CPowW fun i j => .int (i ^ j.toNat)) := opI fun i j _ _ _ _ _ hc q => by
  obtain ⟨h0, b, hb, b0, hm⟩ := hc
  refine pow_int h0 ?_ q
  have h1 : Builtin.Int.intBits i ≤ b := by
    unfold Builtin.Int.intBits
    split
    · omega
    · have := PySem.Flt.log2_lt_of b0 hb
      omega
  have h2 : (Builtin.Int.intBits i : Int) * j ≤ (b : Int) * j := Int.mul_le_mul_of_nonneg_right (by omega) h0
  exact Int.le_trans h2 hm
/-! ### xs[i] op= e -/
def rGetL (K : PySem.W.Frag) : V → V → Hp → VK → Prop := fun x y H Q => ∃ p xs i v, x = .ref p ∧ y = .int i ∧ SqL K H p xs ∧ 0 ≤ i ∧ xs[i.toNat]? = some v ∧ Q v H
theorem get_list : PGet X (rGetL X.K) := by
  intro pins s σ H x y v u Q I rx ry h
  obtain ⟨p, xs, i, z, rfl, rfl, hq, h0, he, q⟩ := h
  cases rx
  obtain ⟨t, rfl⟩ := ry
  obtain ⟨its, r, pl, hz⟩ := I.list hq
  obtain ⟨w, ew, rw'⟩ := r.get he
  have hl := r.length
  have hn := line63
  have hlt := (List.getElem?_eq_some_iff.mp he).1
  exact wpAny_getItem_list pl.isList h0 (by omega) (by simpa using ew) ⟨z, H, I, rw', q⟩
/-! ### a < b < c <= d -/
def tChain3 (r r' r'' : R2) (ta tb tc td : TE) : TE := fun σ H Q => ta σ H fun x H1 => tb σ H1 fun y H2 => r x y H2 fun z H3 => ∃ k, z = .bl k ∧
  (if k = true then tc σ H3 fun x2 H4 => r' y x2 H4 fun z2 H5 => ∃ k2, z2 = .bl k2 ∧ (if k2 = true then td σ H5 fun x3 H6 => r'' x2 x3 H6 Q else Q (.bl false) H5) else Q (.bl false) H3)
theorem pe_chain3 {op op' op'' : CmpOp} {r r' r'' : R2} {a b c d : Expr} {ta tb tc td : TE} {pos : Pos} (ho : OpR X (compareOp op) r) (ho' : OpR X (compareOp op') r') (ho'' : OpR X (compareOp op'') r'') (ha : PE X a ta) (hb : PE X b tb) (hc : PE X c tc) (hd : PE X d td)
    (hm : lastMarks [op, op', op''] [b, c, d] = false := by with_unfolding_all rfl) : PE X (.Compare a [op, op', op''] [b, c, d] pos) (tChain3 r r' r'' ta tb tc td) := by
  refine ⟨fun pins s σ H Q I h => ?_⟩
  refine Compare_chain (thn (ha.run pins s σ H _ I h) fun v s1 ⟨x, H1, I1, r1, q1⟩ => chain_link (thn (hb.run pins s1 σ H1 _ I1 q1) fun u s2 ⟨y, H2, I2, r2, q2⟩ =>
    thn (ho pins s2 σ H2 x y v u _ I2 r1 r2 q2) fun d s3 ⟨z, H3, I3, r3, k, e, q3⟩ => ?_)) hm
  subst e
  cases r3
  refine wpAny_truthy_bool ?_
  cases k with
  | false => exact ite_ff ⟨.bl false, H3, I3, rfl, q3⟩
  | true =>
    refine ite_tt (chain_link (thn (hc.run pins s3 σ H3 _ I3 q3) fun w' s4 ⟨x2, H4, I4, r4, q4⟩ => thn (ho' pins s4 σ H4 y x2 u w' _ I4 r2 r4 q4) fun d2 s5 ⟨z2, H5, I5, r5, k2, e2, q5⟩ => ?_))
    subst e2
    cases r5
    refine wpAny_truthy_bool ?_
    cases k2 with
    | false => exact ite_ff ⟨.bl false, H5, I5, rfl, q5⟩
    | true => exact ite_tt (chain_last (thn (hd.run pins s5 σ H5 _ I5 q5) fun w2 s6 ⟨x3, H6, I6, r6, q6⟩ => ho'' pins s6 σ H6 x2 x3 w' w2 Q I6 r4 r6 q6))
/-! ### != of types -/
theorem slot_type_ne : Slot "type" (cmpInfo .NotEq).2.1 "object.__ne__" :=
  .of (owner := "object") (n := "__ne__") (by rw [typeLookup_type, builtinLookup_eq_fast]; kernel_rfl) (by decide +kernel) (by decide +kernel) (by decide +kernel)
    (by first | exact .inl (by decide +kernel) | exact .inr (by decide +kernel)) (by rw [isSubtype_type]; kernel_rfl)
theorem ne_type_same {prog : Program} {w : World} {A : Around} {E : Value → Shared → Prop} {s : Shared} {Q : Value → Shared → Prop} {T : String} (hX : ∀ s' : Shared, s'.TypeIs (.type T) "type") (h : Q (.bool false) s) :
    wpAny (model prog w) A (compareOp .NotEq (.type T) (.type T)) Q E s := by
  show wpAny _ A (richCompare .NotEq _ _) Q E s
  refine wpAny_richCompare_same (T := "type") (hX s) (hX s) slot_type_ne ?_
  refine wpAny_call_entry slot_type_ne (hX s) F.entry_object_ne ?_ (F.args_object_ne_2 _ _)
  unfold Builtin.«object.__ne__»
  refine wpAny_bind (wpAny_of_eq (a := (Value.type T, [Value.type T])) (by simp [slotArgs]) ?_)
  refine wpAny_bind (wpAny_cRoomFor_or (.inl rfl) ?_)
  refine wpAny_bind (wpAny_callSpecialIfBound?_slot (hX s) TypeEq.slot_type_eq (call_gives TypeEq.slot_type_eq (hX s) F.entry_object_eq (F.args_object_eq_2 _ _) (TypeEq.object_eq_same rfl (by simp)) ?_))
  refine wpAny_bind (wpAny_truthy_bool ?_)
  exact wpAny_pure ⟨.bool false, rfl, (by intro e; cases e), h⟩
end
end Gx
end

section
set_option Elab.async false
set_option linter.all false
set_option maxRecDepth 100000
set_option maxHeartbeats 4000000
/-! Defs of the text by their names. -/
namespace Gx
open PySem PySem.Spec PyProof.Rows L2 GxR
/-- a def whose code object stands at c -/
structure FunC (K : PySem.W.Frag) (x qual : Str) (st : Stmt) (f : Addr) (fd : FuncData) (c : Addr) : Prop where
  ex : ∃ (oc : Value) (od : Option Addr) (kV doc pm : Value) (an : Option Addr) (ct : Value) (osl : Array (Option Value)),
    fd = PySem.W.fnOf x qual (defArgs st) (defBody st) (defScope st) .none kV doc pm an (.ref c) ct ∧ K.lookup f = some ⟨oc, od, .func fd, osl⟩ ∧ PySem.W.codeIn K (.ref c) qual = true
  kp : PySem.W.keepIn K (.ref f) = true
theorem FunC.fn {K : PySem.W.Frag} {x qual : Str} {st : Stmt} {f : Addr} {fd : FuncData} {c : Addr} (F : FunC K x qual st f fd c) : Fun K x qual st f fd :=
  ⟨let ⟨oc, od, kV, doc, pm, an, ct, osl, h⟩ := F.ex; ⟨oc, od, kV, doc, pm, an, .ref c, ct, osl, h⟩, F.kp⟩
theorem FunC.ok {P : Program} {w : World} {K : PySem.W.Frag} {mg : Str → Option Value} {base : Heap} {x qual : Str} {st : Stmt} {f : Addr} {fd : FuncData} {c : Addr} {N ps : List Str} {k : Nat} {sp : Sp} (F : FunC K x qual st f fd c) (S : FnScope N ps (defScope st)) (len : ∀ vs H Q E, sp vs H Q E → vs.length = ps.length)
    (hbody : ∀ (A : Around) (outer : List Env) (s : Shared) (H : Hp) (vs : List V) (Q : VK) (E : XK), Room k (A.deeper (envOfC qual (defScope st) s.heap.objs.size f (.ref c))) → sp vs H Q E →
      ∃ t, PSs (cxOf CX0 P w K mg base N qual (defScope st) f (.ref c) A outer s H E).nox (defBody st) t ∧ t { nx := fun _ H' => Q .non H', rt := Q } (start N vs) H) : FnOk P w K mg base CX0 (k + 1) f fd ps sp := by
  obtain ⟨oc, od, kV, doc, pm, an, ct, osl, rfl, lk, hcd⟩ := F.ex
  refine fn_of lk hcd S len fun A outer s H vs Q E hr hsp => ?_
  obtain ⟨t, h, q⟩ := hbody A outer s H vs Q E hr hsp
  exact ⟨t, h.nox, q⟩
/-- the def x stands at its name -/
structure DF (K : PySem.W.Frag) (mg : Str → Option Value) (x : Str) (st : Stmt) : Prop where
  ex : ∃ f fd, Fun K x x st f fd ∧ mg x = some (.ref f)
structure DC (K : PySem.W.Frag) (mg : Str → Option Value) (x : Str) (st : Stmt) (c : Addr) : Prop where
  ex : ∃ f fd, FunC K x x st f fd c ∧ mg x = some (.ref f)
section
variable {K : PySem.W.Frag} {mg : Str → Option Value} {h : Heap}
theorem df_mk {x : Str} {st : Stmt} {f : Addr} {oc : Value} {od an : Option Addr} {osl : Array (Option Value)} {kV doc pm cdv ct : Value} (X : K.In h) (G : h.Ns mainGlobals mg) (a : PySem.W.nsIn K mainGlobals x = some (some (.ref f)))
    (l : K.lookup f = some ⟨oc, od, .func (PySem.W.fnOf x x (defArgs st) (defBody st) (defScope st) .none kV doc pm an cdv ct), osl⟩) (c : PySem.W.codeIn K cdv x = true) (k : PySem.W.keepIn K (.ref f) = true) : DF K mg x st :=
  ⟨⟨f, _, fun_mk l c k, PySem.W.mg_of X G a⟩⟩
theorem dc_mk {x : Str} {st : Stmt} {f cc : Addr} {oc : Value} {od an : Option Addr} {osl : Array (Option Value)} {kV doc pm ct : Value} (X : K.In h) (G : h.Ns mainGlobals mg) (a : PySem.W.nsIn K mainGlobals x = some (some (.ref f)))
    (l : K.lookup f = some ⟨oc, od, .func (PySem.W.fnOf x x (defArgs st) (defBody st) (defScope st) .none kV doc pm an (.ref cc) ct), osl⟩) (c : PySem.W.codeIn K (.ref cc) x = true) (k : PySem.W.keepIn K (.ref f) = true) : DC K mg x st cc :=
  ⟨⟨f, _, ⟨⟨oc, od, kV, doc, pm, an, ct, osl, rfl, l, c⟩, k⟩, PySem.W.mg_of X G a⟩⟩
end
section
variable {P : Program} {w : World} {K : PySem.W.Frag} {mg : Str → Option Value} {base : Heap} {k : Nat} {x : Str} {ps : List Str} {sp : Sp} {st : Stmt}
theorem cal_mk (D : DF K mg x st) (hb : ∀ f fd, Fun K x x st f fd → Binds K fd ps []) (F : ∀ f fd, Fun K x x st f fd → FnOk P w K mg base CX0 k f fd ps sp) : Cal P w K mg base k x ps sp :=
  let ⟨f, fd, F0, m⟩ := D.ex; ⟨⟨f, fd, F f fd F0, m, F0.kp, hb f fd F0⟩⟩
theorem calG_mk (D : DF K mg x st) (hb : ∀ f fd, Fun K x x st f fd → Binds K fd ps []) (F : ∀ f fd, Fun K x x st f fd → FnG P w K mg base k f fd ps sp) : CalG P w K mg base k x ps sp :=
  let ⟨f, fd, F0, m⟩ := D.ex; ⟨⟨f, fd, F f fd F0, m, F0.kp, hb f fd F0⟩⟩
theorem calC_mk {c : Addr} (D : DC K mg x st c) (hb : ∀ f fd, Fun K x x st f fd → Binds K fd ps []) (F : ∀ f fd, FunC K x x st f fd c → FnOk P w K mg base CX0 k f fd ps sp) : Cal P w K mg base k x ps sp :=
  let ⟨f, fd, F0, m⟩ := D.ex; ⟨⟨f, fd, F f fd F0, m, F0.kp, hb f fd F0.fn⟩⟩
theorem calK_mk {ks : List Str} {g : List Value → List Value → List Value} {gV : List V → List V → List V} (D : DF K mg x st) (hb : ∀ f fd, Fun K x x st f fd → KBinds K fd ps ks g gV) (F : ∀ f fd, Fun K x x st f fd → FnOk P w K mg base CX0 k f fd ps sp) : CalK P w K mg base k x ps ks gV sp :=
  let ⟨f, fd, F0, m⟩ := D.ex; ⟨⟨f, fd, g, F f fd F0, m, F0.kp, hb f fd F0⟩⟩
end
section
variable {X : Cx}
/-- a module's int -/
theorem pe_gi {x : Str} {n : Int} {pos : Pos} (h : ∃ t, X.mg x = some (.int n t)) (hg : Gl X x := by rfl) (hd : (x == ("__debug__" : Str)) = false := by decide) : PE X (.Name x pos) (tC (.int n)) :=
  let ⟨t, e⟩ := h; pe_glob hg e ⟨t, rfl⟩ hd
def rNeTy : R2 := fun x y H Q => ∃ n, x = .ty n ∧ y = .ty n ∧ (∀ s' : Shared, s'.TypeIs (.type n) "type") ∧ Q (.bl false) H
theorem op_neTy : OpR X (compareOp .NotEq) rNeTy := by
  intro pins s σ H x y v u Q I rx ry h
  obtain ⟨n, rfl, rfl, hm, q⟩ := h
  cases (show v = Value.type n from rx)
  cases (show u = Value.type n from ry)
  exact ne_type_same hm ⟨.bl false, H, I, rfl, q⟩
end
/-- the scope of a generator expression, decided -/
def gokB (N : List Str) (sc scope : Scope) (x : Str) (ns : List (Str × Nat)) : Bool :=
  decide (scope.kind = .function) && !scope.isCoroutine && scope.names.all (fun y => decide (y.2 ≠ .cell)) && decide (scope.names.lookup (".0" : Str) = some NameKind.local) && decide (scope.names.lookup x = some .local) &&
  scope.names.all (fun y => decide (y.2 = .free → sc.names.lookup y.1 = some .cell ∨ sc.names.lookup y.1 = some .free)) && ns.all (fun p => decide (N[p.2]? = some p.1) && decide ((p.1, NameKind.free) ∈ scope.names)) && scope.names.all (fun y => decide (scope.names.lookup y.1 = some y.2))
theorem gok_by {N : List Str} {sc scope : Scope} {x : Str} {ns : List (Str × Nat)} (h : gokB N sc scope x ns = true) : GOk N sc scope x ns := by
  unfold gokB at h
  simp only [Bool.and_eq_true, List.all_eq_true, decide_eq_true_eq, Bool.not_eq_true'] at h
  obtain ⟨⟨⟨⟨⟨⟨⟨h1, h2⟩, h3⟩, h4⟩, h5⟩, h6⟩, h7⟩, h8⟩ := h
  exact ⟨h1, h2, fun y hy => h3 y hy, h4, h5, fun y hy => h6 y hy, fun p hp => h7 p hp, fun y hy => h8 y hy⟩
end Gx
namespace Gx
open PySem PySem.Spec PyProof.Rows L2 GxR
section
variable {K : PySem.W.Frag} {mg : Str → Option Value} {h : Heap} {Goal : Prop}
theorem with_df {x : Str} {st : Stmt} {f : Addr} {oc : Value} {od an : Option Addr} {osl : Array (Option Value)} {kV doc pm cdv ct : Value} (X : K.In h) (G : h.Ns mainGlobals mg) (a : PySem.W.nsIn K mainGlobals x = some (some (.ref f)))
    (l : K.lookup f = some ⟨oc, od, .func (PySem.W.fnOf x x (defArgs st) (defBody st) (defScope st) .none kV doc pm an cdv ct), osl⟩) (c : PySem.W.codeIn K cdv x = true) (k : PySem.W.keepIn K (.ref f) = true) (go : DF K mg x st → Goal) : Goal := go (df_mk X G a l c k)
theorem tab_mk {x qual : Str} {st : Stmt} {f cc tt : Addr} {oc e : Value} {od an dd : Option Addr} {osl sl : Array (Option Value)} {kV doc pm ct : Value} {vs : Array Value} (a : PySem.W.nsIn K mainGlobals x = some (some (.ref f)))
    (l : K.lookup f = some ⟨oc, od, .func (PySem.W.fnOf qual qual (defArgs st) (defBody st) (defScope st) .none kV doc pm an (.ref cc) ct), osl⟩) (lc : K.lookup cc = some ⟨e, dd, .fields vs, sl⟩) (hv : vs[11]? = some (.ref tt)) : PySem.W.tabIn K x = some (cc, tt) := by
  unfold PySem.W.tabIn
  rw [a]
  simp only [l, PySem.W.fnOf, lc, hv]
theorem with_dc {x : Str} {st : Stmt} {f cc tt : Addr} {oc e : Value} {od an dd : Option Addr} {osl sl : Array (Option Value)} {kV doc pm ct : Value} {vs : Array Value} (X : K.In h) (G : h.Ns mainGlobals mg) (a : PySem.W.nsIn K mainGlobals x = some (some (.ref f)))
    (l : K.lookup f = some ⟨oc, od, .func (PySem.W.fnOf x x (defArgs st) (defBody st) (defScope st) .none kV doc pm an (.ref cc) ct), osl⟩) (c : PySem.W.codeIn K (.ref cc) x = true) (k : PySem.W.keepIn K (.ref f) = true)
    (lc : K.lookup cc = some ⟨e, dd, .fields vs, sl⟩) (hv : vs[11]? = some (.ref tt)) (n : K.lookup tt = none) (go : ∀ c P, DC K mg x st c → PySem.W.tabIn K x = some (c, P) → K.lookup P = none → Goal) : Goal := go cc tt (dc_mk X G a l c k) (tab_mk a l lc hv) n
theorem with_bl {x : Str} (X : K.In h) (G : h.Ns mainGlobals mg) (a : PySem.W.nsIn K mainGlobals x = some none) (go : mg x = none → Goal) : Goal := go (PySem.W.mg_none_of X G a)
theorem with_gi {x : Str} {n : Int} {t : Tok} (X : K.In h) (G : h.Ns mainGlobals mg) (a : PySem.W.nsIn K mainGlobals x = some (some (.int n t))) (go : (∃ t, mg x = some (.int n t)) → Goal) : Goal := go ⟨t, PySem.W.mg_of X G a⟩
theorem with_bf {x : Str} {id : String} (X : K.In h) (G : h.Ns mainGlobals mg) (a : PySem.W.nsIn K mainGlobals x = some (some (.builtin id))) (go : mg x = some (.builtin id) → Goal) : Goal := go (PySem.W.mg_of X G a)
end
end Gx
end

section
set_option Elab.async false
set_option linter.all false
set_option maxRecDepth 100000
set_option maxHeartbeats 4000000
/-! *= and //= of great ints; repr of ints, truth values, None and of nested data of these. -/
namespace Gx
open PySem PySem.Spec PyProof.Rows L2 GxR
section
variable {X : Cx}
def ipIC (C : Int → Int → Prop) (f : Int → Int → Int) : TIp := fun x y H Q => ∃ i j, x = .int i ∧ y = .int j ∧ C i j ∧ Q (.int (f i j)) H
theorem ip_mulW : PIp X .Mult (ipIC CMulW fun i j => i * j) := by
  intro pins s σ H x y v u Q I r1 r2 h
  obtain ⟨i, j, e1, e2, hc, q⟩ := h
  subst e1; subst e2
  obtain ⟨t, rfl⟩ := r1
  obtain ⟨t', rfl⟩ := r2
  refine PySem.AutoIntOps.imul_0 ?_ hc.ok
  exact ⟨.int _, H, I.tok _, ⟨_, rfl⟩, q⟩
theorem ip_fdivW : PIp X .FloorDiv (ipIC CDivW fun i j => i / j) := by
  intro pins s σ H x y v u Q I r1 r2 h
  obtain ⟨i, j, e1, e2, hc, q⟩ := h
  subst e1; subst e2
  obtain ⟨t, rfl⟩ := r1
  obtain ⟨t', rfl⟩ := r2
  have h1 : (0 : Int) < j := hc.1
  exact ifloordiv_int (by omega) (by rw [Int.fdiv_eq_ediv_of_nonneg i (by omega)]; exact ⟨.int _, H, I.tok _, ⟨_, rfl⟩, q⟩) (.inl (PyProof.noPylong_of_log2 hc.2))
end
mutual
/-- ints below 2 ^ B, truth values, None, and lists and tuples of these -/
def shP (B : Nat) : PyData → Prop
  | .int i => i.natAbs < 2 ^ B
  | .none => True
  | .bool _ => True
  | .list xs => shAll B xs
  | .tuple xs => shAll B xs
  | _ => False
def shAll (B : Nat) : List PyData → Prop
  | [] => True
  | x :: xs => shP B x ∧ shAll B xs
end
mutual
theorem sh_shown {B : Nat} (hB : 4 ≤ B) : ∀ d : PyData, shP B d → d.shown.length ≤ (B + 1) * nod d
  | .int i, h => by
    have h' : i.natAbs < 2 ^ B := h
    have e := int_text_length_le (a := i) (by omega) (PySem.Flt.log2_lt_of (by omega) h')
    show (Str.ofString (toString i)).length ≤ (B + 1) * 1
    rw [PySem.ofString_length, Nat.mul_one]
    exact e
  | .none, _ => by
    show (PyData.shown .none).length ≤ (B + 1) * 1
    rw [Nat.mul_one]
    exact Nat.le_trans (show (PyData.shown .none).length ≤ 5 by decide) (by omega)
  | .bool b, _ => by
    show (PyData.shown (.bool b)).length ≤ (B + 1) * 1
    rw [Nat.mul_one]
    exact Nat.le_trans (show (PyData.shown (.bool b)).length ≤ 5 by cases b <;> decide) (by omega)
  | .list xs, h => by
    have h1 := sh_shownAll hB xs h
    have h2 := listText_len_le (PyData.shownAll xs)
    have h3 := PyData.shownAll_length xs
    have e : (B + 1) * (nodAll xs + 3) = (B + 1) * nodAll xs + (B + 1) * 3 := Nat.mul_add ..
    show (listText (PyData.shownAll xs)).length ≤ (B + 1) * (nodAll xs + 3)
    omega
  | .tuple xs, h => by
    have h1 := sh_shownAll hB xs h
    have h2 := tupleText_len_le (PyData.shownAll xs)
    have h3 := PyData.shownAll_length xs
    have e : (B + 1) * (nodAll xs + 3) = (B + 1) * nodAll xs + (B + 1) * 3 := Nat.mul_add ..
    show (tupleText (PyData.shownAll xs)).length ≤ (B + 1) * (nodAll xs + 3)
    omega
  | .str _, h => h.elim
  | .dict _, h => h.elim
theorem sh_shownAll {B : Nat} (hB : 4 ≤ B) : ∀ xs : List PyData, shAll B xs → ((PyData.shownAll xs).map (·.length)).sum + 2 * xs.length ≤ (B + 1) * nodAll xs
  | [], _ => by simp [PyData.shownAll]
  | x :: xs, h => by
    have h1 := sh_shown hB x h.1
    have h2 := sh_shownAll hB xs h.2
    have e : (B + 1) * nodAll (x :: xs) = (B + 1) * nod x + (B + 1) * 2 + (B + 1) * nodAll xs := by
      show (B + 1) * (nod x + 2 + nodAll xs) = _
      rw [Nat.mul_add, Nat.mul_add]
    rw [e]
    simp only [PyData.shownAll, List.map_cons, List.sum_cons, List.length_cons]
    omega
end
mutual
theorem sh_show {B : Nat} (h2 : B ≤ 1900) (hB : 0 < B) : ∀ d : PyData, shP B d → d.showable = true ∧ d.hasDict = false
  | .int i, h => by
    have h' : i.natAbs < 2 ^ B := h
    exact ⟨decide_eq_true (Nat.lt_of_lt_of_le (PySem.Flt.log2_lt_of hB h') (by omega)), rfl⟩
  | .none, _ => ⟨rfl, rfl⟩
  | .bool _, _ => ⟨rfl, rfl⟩
  | .list xs, h => sh_showAll h2 hB xs h
  | .tuple xs, h => sh_showAll h2 hB xs h
  | .str _, h => h.elim
  | .dict _, h => h.elim
theorem sh_showAll {B : Nat} (h2 : B ≤ 1900) (hB : 0 < B) : ∀ xs : List PyData, shAll B xs → PyData.showableAll xs = true ∧ PyData.hasDictAll xs = false
  | [], _ => ⟨rfl, rfl⟩
  | x :: xs, h => by
    obtain ⟨a1, a2⟩ := sh_show h2 hB x h.1
    obtain ⟨b1, b2⟩ := sh_showAll h2 hB xs h.2
    exact ⟨by simp only [PyData.showableAll, a1, b1, Bool.and_self], by simp only [PyData.hasDictAll, a2, b2, Bool.or_self]⟩
end
/-- how repr writes a value: what it asks -/
structure Shows (d : PyData) : Prop where
  ex : ∃ B, shP B d ∧ 4 ≤ B ∧ B ≤ 1900 ∧ (B + 1) * nod d ≤ 16777216
  dp : d.depth ≤ 30
section
variable {X : Cx}
def rReprD (K : PySem.W.Frag) : List V → Hp → VK → Prop := fun vs H Q => ∃ (x : V) (d : PyData), vs = [x] ∧ Dp K H x d ∧ Shows d ∧ Q (.str d.shown) H
theorem cr_reprD {k : Nat} (hr : Room k X.A) (hg : X.A.guards = some []) : CallR X (.builtin "repr") (rReprD X.K) := by
  intro pins s σ H vs us Q I r h
  obtain ⟨x, d, rfl, hd, ⟨⟨B, hi, h0, hB, hn⟩, hdp⟩, q⟩ := h
  obtain ⟨s1, s2⟩ := sh_show hB (by omega) d hi
  cases r with
  | cons r1 rr =>
    cases rr
    cases hd with
    | non =>
      cases r1
      exact PySem.P.repr_of_none ⟨.str _, H, I.tok _, ⟨_, rfl⟩, q⟩
    | bl b =>
      cases (show _ = Value.bool b from r1)
      refine PySem.P.repr_of_bool ⟨.str _, H, I.tok _, ⟨_, rfl⟩, ?_⟩
      cases b <;> exact q
    | int i =>
      obtain ⟨t, rfl⟩ := r1
      have h' : i.natAbs < 2 ^ B := hi
      exact PySem.P.repr_of_int (Nat.lt_of_lt_of_le (PySem.Flt.log2_lt_of (by omega) h') (by omega)) ⟨.str _, H, I.tok _, ⟨_, rfl⟩, q⟩
    | str x => exact hi.elim
    | lst h1 h2 =>
      rename_i a xs ds
      cases (show _ = Value.ref a from r1)
      obtain ⟨as, R⟩ := Dp.reads I (.list ds) (.ref a) (.ref a) (.lst h1 h2) rfl
      refine repr_of_reads' R s1 (PyData.noDict_hsm s2) hg (by have := hr.un; omega) (fun b o e => e) (fun h' u tk hk => ⟨.str _, H, I.kept hk, ⟨u, rfl⟩, q⟩) ?_
      have := sh_shown h0 _ hi
      show (PyData.shown (.list ds)).length ≤ 16777216
      omega
    | tup h1 h2 =>
      rename_i a xs ds
      cases (show _ = Value.ref a from r1)
      obtain ⟨as, R⟩ := Dp.reads I (.tuple ds) (.ref a) (.ref a) (.tup h1 h2) rfl
      refine repr_of_reads' R s1 (PyData.noDict_hsm s2) hg (by have := hr.un; omega) (fun b o e => e) (fun h' u tk hk => ⟨.str _, H, I.kept hk, ⟨u, rfl⟩, q⟩) ?_
      have := sh_shown h0 _ hi
      show (PyData.shown (.tuple ds)).length ≤ 16777216
      omega
end
end Gx
end

section
set_option Elab.async false
set_option linter.all false
set_option maxRecDepth 100000
set_option maxHeartbeats 4000000
namespace K59
open PySem PySem.Spec PyProof.Rows L2 GxR Gx
def topS (i : Nat) : Stmt := PySem.Challenge.pw_topups_k59_errors_made.main.body.getD i (.Pass ⟨0, 0, 0, 0⟩)
abbrev s__law_bag : Stmt := topS 18
theorem sc__law_bag : FnScope ["script", "stir", "cell"] ["script"] (defScope s__law_bag) := ⟨rfl, rfl, rfl, by decide +kernel, rfl, by decide +kernel, by decide +kernel⟩
theorem bd__law_bag {K : PySem.W.Frag} : ∀ f fd, Fun K "_law_bag" "_law_bag" s__law_bag f fd → Binds K fd ["script"] [] := fun f fd F => F.binds fun _ _ _ _ _ _ us hl => match us, hl with | [_], _ => rfl
abbrev s__law_stirred : Stmt := topS 19
theorem sc__law_stirred : FnScope ["bag", "wide", "found", "k", "mixed"] ["bag", "wide"] (defScope s__law_stirred) := ⟨rfl, rfl, rfl, by decide +kernel, rfl, by decide +kernel, by decide +kernel⟩
theorem bd__law_stirred {K : PySem.W.Frag} : ∀ f fd, Fun K "_law_stirred" "_law_stirred" s__law_stirred f fd → Binds K fd ["bag", "wide"] [] := fun f fd F => F.binds fun _ _ _ _ _ _ us hl => match us, hl with | [_, _], _ => rfl
abbrev s__law_draw : Stmt := topS 20
theorem sc__law_draw : FnScope ["bag", "wide", "found"] ["bag", "wide"] (defScope s__law_draw) := ⟨rfl, rfl, rfl, by decide +kernel, rfl, by decide +kernel, by decide +kernel⟩
theorem bd__law_draw {K : PySem.W.Frag} : ∀ f fd, Fun K "_law_draw" "_law_draw" s__law_draw f fd → Binds K fd ["bag", "wide"] [] := fun f fd F => F.binds fun _ _ _ _ _ _ us hl => match us, hl with | [_, _], _ => rfl
abbrev s__law_alike : Stmt := topS 21
theorem sc__law_alike : FnScope ["found", "due", "k"] ["found", "due"] (defScope s__law_alike) := ⟨rfl, rfl, rfl, by decide +kernel, rfl, by decide +kernel, by decide +kernel⟩
theorem bd__law_alike {K : PySem.W.Frag} : ∀ f fd, Fun K "_law_alike" "_law_alike" s__law_alike f fd → Binds K fd ["found", "due"] [] := fun f fd F => F.binds fun _ _ _ _ _ _ us hl => match us, hl with | [_, _], _ => rfl
abbrev s__law_of : Stmt := topS 22
theorem sc__law_of : FnScope ["made", "found"] ["made"] (defScope s__law_of) := ⟨rfl, rfl, rfl, by decide +kernel, rfl, by decide +kernel, by decide +kernel⟩
theorem bd__law_of {K : PySem.W.Frag} : ∀ f fd, Fun K "_law_of" "_law_of" s__law_of f fd → Binds K fd ["made"] [] := fun f fd F => F.binds fun _ _ _ _ _ _ us hl => match us, hl with | [_], _ => rfl
abbrev s_law : Stmt := topS 23
theorem sc_law : FnScope ["script", "bag", "k", "word", "spot", "rows", "i"] ["script"] (defScope s_law) := ⟨rfl, rfl, rfl, by decide +kernel, rfl, by decide +kernel, by decide +kernel⟩
theorem bd_law {K : PySem.W.Frag} : ∀ f fd, Fun K "law" "law" s_law f fd → Binds K fd ["script"] [] := fun f fd F => F.binds fun _ _ _ _ _ _ us hl => match us, hl with | [_], _ => rfl
end K59
end

section
set_option linter.all false
set_option maxHeartbeats 1000000
/-! The mathematics of contents: common divisors, contents without one, top-ups. -/
namespace Ma
def gcdF (d : Nat) (ns : List Int) : Nat := ns.foldl (fun d n => Nat.gcd d n.natAbs) d
def gcdN (ns : List Int) : Nat := gcdF 0 ns
theorem dvd_gcdF {e : Nat} : ∀ (ns : List Int) (d : Nat), e ∣ gcdF d ns ↔ e ∣ d ∧ ∀ n ∈ ns, e ∣ n.natAbs
  | [], d => by simp [gcdF]
  | n :: r, d => by
    have h := dvd_gcdF (e := e) r (Nat.gcd d n.natAbs)
    show e ∣ gcdF (Nat.gcd d n.natAbs) r ↔ _
    rw [h, Nat.dvd_gcd_iff]
    constructor
    · rintro ⟨⟨a, b⟩, c⟩
      refine ⟨a, fun m hm => ?_⟩
      rcases List.mem_cons.mp hm with z | z
      · rw [z]; exact b
      · exact c m z
    · rintro ⟨a, b⟩
      exact ⟨⟨a, b n List.mem_cons_self⟩, fun m hm => b m (List.mem_cons_of_mem _ hm)⟩
theorem dvd_gcdN {e : Nat} {ns : List Int} : e ∣ gcdN ns ↔ ∀ n ∈ ns, e ∣ n.natAbs := by
  unfold gcdN
  rw [dvd_gcdF]
  exact ⟨fun h => h.2, fun h => ⟨Nat.dvd_zero e, h⟩⟩
theorem gcdF_take {ns : List Int} {i : Nat} {n : Int} (d : Nat) (h : ns[i]? = some n) : gcdF d (ns.take (i + 1)) = Nat.gcd (gcdF d (ns.take i)) n.natAbs := by
  rw [List.take_add_one, h]
  unfold gcdF
  rw [List.foldl_append]
  rfl
theorem gcdN_take {ns : List Int} {i : Nat} {n : Int} (h : ns[i]? = some n) : gcdN (ns.take (i + 1)) = Nat.gcd (gcdN (ns.take i)) n.natAbs := gcdF_take 0 h
theorem gcdN_dvd {ns : List Int} {n : Int} (h : n ∈ ns) : ((gcdN ns : Nat) : Int) ∣ n := by
  have := (dvd_gcdN (e := gcdN ns) (ns := ns)).mp (Nat.dvd_refl _) n h
  exact Int.ofNat_dvd_left.mpr this
/-- numbers from 0 on, not all 0 -/
structure Amt (ns : List Int) : Prop where
  nn : ∀ n ∈ ns, 0 ≤ n
  pos : 0 < ns.sum
structure Con (ns : List Int) : Prop where
  len : 0 < ns.length
  le8 : ns.length ≤ 8
  nn : ∀ n ∈ ns, 0 ≤ n
  g : gcdN ns = 1
theorem sum_nn : ∀ {ns : List Int}, (∀ n ∈ ns, 0 ≤ n) → 0 ≤ ns.sum
  | [], _ => by simp
  | n :: r, h => by
    rw [List.sum_cons]
    have h1 := h n List.mem_cons_self
    have h2 := sum_nn (ns := r) fun m hm => h m (List.mem_cons_of_mem _ hm)
    omega
theorem le_sum : ∀ {ns : List Int} {n : Int}, (∀ n ∈ ns, 0 ≤ n) → n ∈ ns → n ≤ ns.sum
  | [], _, _, h => by cases h
  | m :: r, n, h, hm => by
    rw [List.sum_cons]
    have h1 := h m List.mem_cons_self
    have hr : ∀ n ∈ r, 0 ≤ n := fun m hm => h m (List.mem_cons_of_mem _ hm)
    have h2 := sum_nn hr
    rcases List.mem_cons.mp hm with z | z
    · rw [z]; omega
    · have := le_sum hr z
      omega
theorem sum_zero {ns : List Int} (h : ∀ n ∈ ns, 0 ≤ n) (hs : ns.sum = 0) : ∀ n ∈ ns, n = 0 := fun n hn => by
  have := le_sum h hn
  have := h n hn
  omega
theorem gcdN_pos {ns : List Int} (h : Amt ns) : 0 < gcdN ns := by
  rcases Nat.eq_zero_or_pos (gcdN ns) with z | z
  · exfalso
    have h0 : ∀ n ∈ ns, n = 0 := fun n hn => by
      have := gcdN_dvd hn
      rw [z] at this
      exact Int.zero_dvd.mp this
    have : ns.sum = 0 := by
      clear h z
      induction ns with
      | nil => rfl
      | cons m r ih =>
        rw [List.sum_cons, h0 m List.mem_cons_self, ih fun n hn => h0 n (List.mem_cons_of_mem _ hn)]
        rfl
    have := h.pos
    omega
  · exact z
theorem Con.amt {ns : List Int} (h : Con ns) : Amt ns := by
  refine ⟨h.nn, ?_⟩
  have h1 := sum_nn h.nn
  by_cases z : ns.sum = 0
  · exfalso
    have h0 := sum_zero h.nn z
    have : 2 ∣ gcdN ns := dvd_gcdN.mpr fun n hn => by rw [h0 n hn]; exact ⟨0, rfl⟩
    rw [h.g] at this
    omega
  · omega
def plain (ns : List Int) : List Int := ns.map fun n => n / ((gcdN ns : Nat) : Int)
theorem plain_len (ns : List Int) : (plain ns).length = ns.length := List.length_map _
theorem plain_mul {ns : List Int} {n : Int} (h : n ∈ ns) : n / ((gcdN ns : Nat) : Int) * ((gcdN ns : Nat) : Int) = n := Int.ediv_mul_cancel (gcdN_dvd h)
theorem sum_div {g : Int} (hg : 0 < g) : ∀ {ns : List Int}, (∀ n ∈ ns, g ∣ n) → (ns.map fun n => n / g).sum * g = ns.sum
  | [], _ => by simp
  | n :: r, h => by
    rw [List.map_cons, List.sum_cons, List.sum_cons, Int.add_mul, sum_div hg (ns := r) fun m hm => h m (List.mem_cons_of_mem _ hm), Int.ediv_mul_cancel (h n List.mem_cons_self)]
theorem plain_sum {ns : List Int} (h : Amt ns) : (plain ns).sum * ((gcdN ns : Nat) : Int) = ns.sum := sum_div (by have := gcdN_pos h; omega) fun n hn => gcdN_dvd hn
theorem plain_con {ns : List Int} (h : Amt ns) (h1 : 0 < ns.length) (h8 : ns.length ≤ 8) : Con (plain ns) := by
  have hg := gcdN_pos h
  refine ⟨by rw [plain_len]; exact h1, by rw [plain_len]; exact h8, fun n hn => ?_, ?_⟩
  · obtain ⟨m, hm, e⟩ := List.mem_map.mp hn
    rw [← e]
    exact Int.ediv_nonneg (h.nn m hm) (Int.natCast_nonneg _)
  · have key : gcdN (plain ns) * gcdN ns ∣ gcdN ns := dvd_gcdN.mpr fun n hn => by
      have h2 : gcdN (plain ns) ∣ (n / ((gcdN ns : Nat) : Int)).natAbs := dvd_gcdN.mp (Nat.dvd_refl _) _ (List.mem_map.mpr ⟨n, hn, rfl⟩)
      have h3 := Nat.mul_dvd_mul_right h2 (gcdN ns)
      have h4 : (n / ((gcdN ns : Nat) : Int)).natAbs * gcdN ns = n.natAbs := by
        have := congrArg Int.natAbs (plain_mul hn)
        rw [Int.natAbs_mul, Int.natAbs_natCast] at this
        exact this
      rw [h4] at h3
      exact h3
    have h5 := Nat.le_of_dvd hg key
    have h6 : gcdN (plain ns) * gcdN ns ≤ 1 * gcdN ns := by omega
    have h7 := Nat.le_of_mul_le_mul_right h6 hg
    have h8 : gcdN (plain ns) ≠ 0 := fun z => by
      rw [z, Nat.zero_mul] at key
      have := Nat.eq_zero_of_zero_dvd key
      omega
    omega
theorem plain_sum_le {ns : List Int} (h : Amt ns) : (plain ns).sum ≤ ns.sum := by
  have e := plain_sum h
  have hg := gcdN_pos h
  have h1 : 0 ≤ (plain ns).sum := sum_nn fun n hn => by
    obtain ⟨m, hm, e⟩ := List.mem_map.mp hn
    rw [← e]
    exact Int.ediv_nonneg (h.nn m hm) (Int.natCast_nonneg _)
  have h2 : (plain ns).sum * 1 ≤ (plain ns).sum * ((gcdN ns : Nat) : Int) := Int.mul_le_mul_of_nonneg_left (by omega) h1
  omega
theorem plain_of_one {ns : List Int} (h : gcdN ns = 1) : plain ns = ns := by
  unfold plain
  rw [h]
  conv => rhs; rw [← List.map_id ns]
  exact List.map_congr_left fun n _ => by simp
/-! ### top-ups -/
structure Kep (a b : Int) : Prop where
  a1 : 1 ≤ a
  ab : a < b
  b100 : b ≤ 100
  g : Nat.gcd a.natAbs b.natAbs = 1
def pre (ns : List Int) (a b : Int) (c : Nat) : List Int := (ns.map fun n => n * a).set c ((ns.getD c 0) * a + (b - a) * ns.sum)
def step (ns : List Int) (a b : Int) (c : Nat) : List Int := plain (pre ns a b c)
theorem sum_map_mul (a : Int) : ∀ ns : List Int, (ns.map fun n => n * a).sum = ns.sum * a
  | [] => by simp
  | n :: r => by rw [List.map_cons, List.sum_cons, List.sum_cons, sum_map_mul a r, Int.add_mul]
theorem sum_set (v : Int) : ∀ (ns : List Int) (c : Nat), c < ns.length → (ns.set c v).sum = ns.sum - ns.getD c 0 + v
  | [], c, h => by simp at h
  | n :: r, 0, _ => by
    rw [List.set_cons_zero, List.sum_cons, List.sum_cons]
    show v + r.sum = n + r.sum - n + v
    omega
  | n :: r, c + 1, h => by
    rw [List.set_cons_succ, List.sum_cons, List.sum_cons, sum_set v r c (by simpa using h)]
    show n + (r.sum - r.getD c 0 + v) = n + r.sum - r.getD c 0 + v
    omega
theorem pre_len (ns : List Int) (a b : Int) (c : Nat) : (pre ns a b c).length = ns.length := by unfold pre; simp
theorem pre_sum {ns : List Int} {a b : Int} {c : Nat} (h : c < ns.length) : (pre ns a b c).sum = b * ns.sum := by
  unfold pre
  rw [sum_set _ _ _ (by simpa using h), sum_map_mul]
  have e : (ns.map fun n => n * a).getD c 0 = ns.getD c 0 * a := by
    rw [List.getD_eq_getElem?_getD, List.getD_eq_getElem?_getD, List.getElem?_map, List.getElem?_eq_getElem h]
    rfl
  rw [e, Int.sub_mul, Int.mul_comm ns.sum a]
  omega
theorem pre_nn {ns : List Int} {a b : Int} {c : Nat} (hn : ∀ n ∈ ns, 0 ≤ n) (ha : 0 ≤ a) (hb : a ≤ b) : ∀ n ∈ pre ns a b c, 0 ≤ n := fun n hm => by
  unfold pre at hm
  rcases List.mem_or_eq_of_mem_set hm with z | z
  · obtain ⟨m, h1, e⟩ := List.mem_map.mp z
    rw [← e]
    exact Int.mul_nonneg (hn m h1) ha
  · rw [z]
    have h1 : 0 ≤ ns.getD c 0 := by
      rw [List.getD_eq_getElem?_getD]
      cases q : ns[c]? with
      | none => exact Int.le_refl _
      | some m => exact hn m (List.mem_of_getElem? q)
    have h2 := Int.mul_nonneg h1 ha
    have h3 := Int.mul_nonneg (show 0 ≤ b - a by omega) (sum_nn hn)
    omega
theorem pre_amt {ns : List Int} {a b : Int} {c : Nat} (h : Con ns) (k : Kep a b) (hc : c < ns.length) : Amt (pre ns a b c) := by
  refine ⟨pre_nn h.nn (by have := k.a1; omega) (by have := k.ab; omega), ?_⟩
  rw [pre_sum hc]
  exact Int.mul_pos (by have := k.a1; have := k.ab; omega) h.amt.pos
theorem step_con {ns : List Int} {a b : Int} {c : Nat} (h : Con ns) (k : Kep a b) (hc : c < ns.length) : Con (step ns a b c) :=
  plain_con (pre_amt h k hc) (by rw [pre_len]; exact h.len) (by rw [pre_len]; exact h.le8)
theorem step_len (ns : List Int) (a b : Int) (c : Nat) : (step ns a b c).length = ns.length := by unfold step; rw [plain_len, pre_len]
theorem step_sum {ns : List Int} {a b : Int} {c : Nat} (h : Con ns) (k : Kep a b) (hc : c < ns.length) : (step ns a b c).sum ≤ 100 * ns.sum := by
  have h1 := plain_sum_le (pre_amt h k hc)
  rw [pre_sum hc] at h1
  have h2 : b * ns.sum ≤ 100 * ns.sum := Int.mul_le_mul_of_nonneg_right k.b100 (Int.le_of_lt h.amt.pos)
  have e : step ns a b c = plain (pre ns a b c) := rfl
  rw [e]
  omega
/-- the contents behind 0, 1 .. all top-ups -/
def walk (ns : List Int) (a b : Int) : List Nat → List (List Int)
  | [] => [ns]
  | c :: r => ns :: walk (step ns a b c) a b r
end Ma
end

section
set_option Elab.async false
set_option linter.all false
set_option maxRecDepth 100000
set_option maxHeartbeats 4000000
namespace K59
open PySem PySem.Spec PyProof.Rows L2 GxR Gx Ma
abbrev LI (H : Hp) (a : Addr) (ns : List Int) : Prop := H a = some (.lst (ns.map V.int))
structure Bl (mg : Str → Option Value) : Prop where
  ValueError : mg "ValueError" = none
  abs : mg "abs" = none
  all : mg "all" = none
  bool : mg "bool" = none
  int : mg "int" = none
  isinstance : mg "isinstance" = none
  len : mg "len" = none
  list : mg "list" = none
  range : mg "range" = none
  str : mg "str" = none
  tuple : mg "tuple" = none

theorem same_new {H : Hp} {p : Addr} {o : HO} (h : H p = none) : Same H (upd H p o) := fun b x e => by
  rw [upd_ne (ne_of_none e h)]
  exact e
section
variable {P : Program} {w : World} {K : PySem.W.Frag} {mg : Str → Option Value} {base : Heap}

def sp_is_integer : Sp := fun vs H Q _ => ∃ i, vs = [V.int i] ∧ Q (.bl true) H


def sp_is_within : Sp := fun vs H Q _ => ∃ i lo hi, vs = [V.int i, V.int lo, V.int hi] ∧ lo ≤ i ∧ i ≤ hi ∧ Q (.bl true) H


end
end K59
end

section
set_option Elab.async false
set_option linter.all false
set_option maxRecDepth 100000
set_option maxHeartbeats 4000000
namespace K59
open PySem PySem.Spec PyProof.Rows L2 GxR Gx Ma
section
variable {P : Program} {w : World} {K : PySem.W.Frag} {mg : Str → Option Value} {base : Heap}

def sp_is_pair : Sp := fun vs H Q _ => ∃ t a b, vs = [V.ref t] ∧ H t = some (.tup [.int a, .int b]) ∧ Nat.gcd a.natAbs b.natAbs = 1 ∧ Q (.bl true) H
def sp_is_kept : Sp := fun vs H Q _ => ∃ t a b, vs = [V.ref t] ∧ H t = some (.tup [.int a, .int b]) ∧ Kep a b ∧ Q (.bl true) H



def sp_is_row (T : Addr) : Sp := fun vs H Q _ => ∃ l cs k, vs = [V.ref l, V.int k] ∧ LI H l cs ∧ cs.length ≤ 60 ∧ (∀ c ∈ cs, 0 ≤ c ∧ c ≤ k - 1) ∧ H T = some (TabO T) ∧ Q (.bl true) H
theorem map_get {ns : List Int} {i : Nat} {y : V} (h : (ns.map V.int)[i]? = some y) : ∃ n, ns[i]? = some n ∧ y = .int n := by
  rw [List.getElem?_map] at h
  cases e : ns[i]? with
  | none => rw [e] at h; cases h
  | some n => rw [e] at h; exact ⟨n, rfl, (Option.some.inj h).symm⟩
theorem get_map {ns : List Int} {i : Nat} {n : Int} (h : ns[i]? = some n) : (ns.map V.int)[i]? = some (.int n) := by
  rw [List.getElem?_map, h]; rfl
/-- all(..) over a list that stands still -/
theorem all_list {te : TE} {caps : L2.St} {Q : VK} {a : Addr} {xs : List V} {H : Hp} (hL : H a = some (.lst xs)) (h : ∀ (i : Nat) (y : V), xs[i]? = some y → ∀ R : VK, R (.bl true) H → te (some y :: caps) H R) (q : Q (.bl true) H) : rAllG te caps Q (Itl K a) H := by
  refine ⟨xs.length, fun _ H' => H' = H, rfl, fun H' e => ?_, fun i H' hi e => ?_⟩
  · subst e
    exact ⟨⟨xs, SqL.of hL, Nat.le_refl _⟩, q⟩
  · subst e
    refine ⟨⟨xs, xs[i], SqL.of hL, List.getElem?_eq_getElem hi⟩, fun y H2 hy => ?_⟩
    obtain ⟨e2, hy⟩ := hy
    subst e2
    exact h i y (hy xs (SqL.of hL)) _ ⟨true, rfl, iteT rfl⟩


def sp_check_kept : Sp := fun vs H Q _ => ∃ t a b, vs = [V.ref t] ∧ H t = some (.tup [.int a, .int b]) ∧ Kep a b ∧ Q .non H
def sp_check_row (T : Addr) : Sp := fun vs H Q _ => ∃ l cs k, vs = [V.ref l, V.int k] ∧ LI H l cs ∧ cs.length ≤ 60 ∧ (∀ c ∈ cs, 0 ≤ c ∧ c ≤ k - 1) ∧ H T = some (TabO T) ∧ Q .non H
def sp_check_liquid : Sp := fun vs H Q _ => ∃ i k, vs = [V.int i, V.int k] ∧ 0 ≤ i ∧ i ≤ k - 1 ∧ Q .non H
def sp_check_number : Sp := fun vs H Q _ => ∃ i lo hi, vs = [V.int i, V.int lo, V.int hi] ∧ lo ≤ i ∧ i ≤ hi ∧ Q .non H





def sp_common_divisor : Sp := fun vs H Q _ => ∃ l ns, vs = [V.ref l] ∧ LI H l ns ∧ Q (.int ((gcdN ns : Nat) : Int)) H


def sp_without_divisor : Sp := fun vs H Q _ => ∃ l ns, vs = [V.ref l] ∧ LI H l ns ∧ Amt ns ∧ ns.length ≤ 100 ∧ gcdN ns < 2 ^ 8000 ∧ ∀ p H', Same H H' → H p = none → LI H' p (plain ns) → Q (.ref p) H'


end
end K59
end

section
set_option Elab.async false
set_option linter.all false
set_option maxRecDepth 100000
set_option maxHeartbeats 4000000
namespace K59
open PySem PySem.Spec PyProof.Rows L2 GxR Gx Ma
section
variable {P : Program} {w : World} {K : PySem.W.Frag} {mg : Str → Option Value} {base : Heap}

def sp_is_list_of_amounts (T : Addr) : Sp := fun vs H Q _ => ∃ l ns, vs = [V.ref l] ∧ LI H l ns ∧ 0 < ns.length ∧ ns.length ≤ 8 ∧ (∀ n ∈ ns, 0 ≤ n) ∧ H T = some (TabO T) ∧ Q (.bl true) H


def sp_is_content (T : Addr) : Sp := fun vs H Q _ => ∃ l ns, vs = [V.ref l] ∧ LI H l ns ∧ Con ns ∧ H T = some (TabO T) ∧ Q (.bl true) H
def sp_check_content (T : Addr) : Sp := fun vs H Q _ => ∃ l ns, vs = [V.ref l] ∧ LI H l ns ∧ Con ns ∧ H T = some (TabO T) ∧ Q .non H



/-- the fraction of two numbers without a common divisor -/
def fr (a b : Int) : Int × Int := (a / ((Nat.gcd a.natAbs b.natAbs : Nat) : Int), b / ((Nat.gcd a.natAbs b.natAbs : Nat) : Int))
def sp_share_of (T : Addr) : Sp := fun vs H Q _ => ∃ l ns n i, vs = [V.ref l, V.int i] ∧ LI H l ns ∧ Con ns ∧ ns.sum < 2 ^ 8000 ∧ 0 ≤ i ∧ ns[i.toNat]? = some n ∧ H T = some (TabO T) ∧ ∀ p H', Same H H' → H p = none → H' p = some (.tup [.int (fr n ns.sum).1, .int (fr n ns.sum).2]) → Q (.ref p) H'
theorem fr_gcd {n m : Int} (hm : 0 < m) (h : m < 2 ^ 8000) : (0 : Int) < ((Nat.gcd n.natAbs m.natAbs : Nat) : Int) ∧ ((Nat.gcd n.natAbs m.natAbs : Nat) : Int).natAbs < 2 ^ 8000 := by
  have h0 : 0 < m.natAbs := by omega
  have h1 := Nat.gcd_le_right n.natAbs h0
  have h2 := Nat.gcd_pos_of_pos_right n.natAbs h0
  refine ⟨by omega, ?_⟩
  rw [Int.natAbs_natCast]
  omega
theorem atI_map {ns : List Int} {i n : Int} (h0 : 0 ≤ i) (h : ns[i.toNat]? = some n) : atI (ns.map V.int) i = some (.int n) := by
  obtain ⟨j, rfl⟩ := Int.eq_ofNat_of_zero_le h0
  exact atI_nat (get_map h)

def sp_low : Sp := fun vs H Q _ => ∃ a b : Int, vs = [V.int a, V.int b] ∧ 0 < b ∧ b < 2 ^ 8000 ∧ ∀ p H', Same H H' → H p = none → H' p = some (.tup [.int (fr a b).1, .int (fr a b).2]) → Q (.ref p) H'



def pur (k i : Nat) : List Int := (List.replicate k 0).set i 1
theorem rep_flat (v : V) : ∀ k : Nat, (List.replicate k [v]).flatten = List.replicate k v
  | 0 => rfl
  | k + 1 => by rw [List.replicate_succ, List.flatten_cons, rep_flat v k]; rfl
theorem ixN_of {n j : Nat} (h : j < n) : ixN n (j : Int) = some j := by
  unfold ixN
  rw [if_pos (by omega), if_pos (by omega), Int.toNat_natCast]
def sp_pure_content : Sp := fun vs H Q _ => ∃ k i : Nat, vs = [V.int k, V.int i] ∧ 1 ≤ k ∧ k ≤ 8 ∧ i < k ∧ ∀ p H', Same H H' → H p = none → LI H' p (pur k i) → Q (.ref p) H'


end
end K59
end

section
set_option Elab.async false
set_option linter.all false
set_option maxRecDepth 100000
set_option maxHeartbeats 4000000
namespace K59
open PySem PySem.Spec PyProof.Rows L2 GxR Gx Ma
section
variable {P : Program} {w : World} {K : PySem.W.Frag} {mg : Str → Option Value} {base : Heap}

theorem gcd_le_sum {ns : List Int} (h : Amt ns) : ((gcdN ns : Nat) : Int) ≤ ns.sum := by
  have e := plain_sum h
  have hg := gcdN_pos h
  have hs := h.pos
  have h1 : 0 < (Ma.plain ns).sum := by
    by_cases z : 0 < (Ma.plain ns).sum
    · exact z
    · have : (Ma.plain ns).sum * ((gcdN ns : Nat) : Int) ≤ 0 * ((gcdN ns : Nat) : Int) := Int.mul_le_mul_of_nonneg_right (by omega) (by omega)
      omega
  have h2 : 1 * ((gcdN ns : Nat) : Int) ≤ (Ma.plain ns).sum * ((gcdN ns : Nat) : Int) := Int.mul_le_mul_of_nonneg_right (by omega) (by omega)
  omega
def sp_content_behind : Sp := fun vs H Q _ => ∃ l t ns a b, ∃ c : Nat, vs = [V.ref l, V.ref t, V.int c] ∧ LI H l ns ∧ Con ns ∧ H t = some (.tup [.int a, .int b]) ∧ Kep a b ∧ c < ns.length ∧ ns.sum < 2 ^ 7900 ∧ ∀ p H', Same H H' → H p = none → LI H' p (step ns a b c) → Q (.ref p) H'
theorem pow_le_of {m n : Nat} (h : m ≤ n) : (2 : Int) ^ m ≤ 2 ^ n := by
  have := Nat.pow_le_pow_right (show 0 < 2 by decide) h
  exact_mod_cast this
theorem abs_lt {n : Int} {k : Nat} (h0 : 0 ≤ n) (h : n < 2 ^ k) : n.natAbs < 2 ^ k := by
  have e : ((n.natAbs : Nat) : Int) = n := Int.natAbs_of_nonneg h0
  have : ((n.natAbs : Nat) : Int) < ((2 ^ k : Nat) : Int) := by
    rw [e]
    have e2 : ((2 ^ k : Nat) : Int) = (2 : Int) ^ k := by rw [Int.natCast_pow]; rfl
    rw [e2]
    exact h
  exact Int.ofNat_lt.mp this


end
end K59
end

section
set_option Elab.async false
set_option linter.all false
set_option maxRecDepth 100000
set_option maxHeartbeats 4000000
namespace K59
open PySem PySem.Spec PyProof.Rows L2 GxR Gx Ma
section
variable {P : Program} {w : World} {K : PySem.W.Frag} {mg : Str → Option Value} {base : Heap}

/-- the content behind i top-ups, each by its own kept share -/
def ctn (ns : List Int) (ks : List (Int × Int)) (cs : List Nat) : Nat → List Int
  | 0 => ns
  | i + 1 => step (ctn ns ks cs i) (ks.getD i (1, 2)).1 (ks.getD i (1, 2)).2 (cs.getD i 0)
structure Rowy (ns : List Int) (ks : List (Int × Int)) (cs : List Nat) : Prop where
  con : Con ns
  len : ks.length = cs.length
  c60 : cs.length ≤ 60
  kep : ∀ q ∈ ks, Kep q.1 q.2
  liq : ∀ c ∈ cs, c < ns.length
theorem getD_mem {α : Type} {l : List α} {i : Nat} {d : α} (h : i < l.length) : l.getD i d ∈ l := by
  rw [List.getD_eq_getElem?_getD, List.getElem?_eq_getElem h]
  exact List.getElem_mem h
theorem ctn_len (ns : List Int) (ks : List (Int × Int)) (cs : List Nat) : ∀ i, (ctn ns ks cs i).length = ns.length
  | 0 => rfl
  | i + 1 => by rw [← ctn_len ns ks cs i]; exact step_len ..
theorem ctn_con {ns : List Int} {ks : List (Int × Int)} {cs : List Nat} (R : Rowy ns ks cs) : ∀ i, i ≤ cs.length → Con (ctn ns ks cs i)
  | 0, _ => R.con
  | i + 1, h => by
    have hik : i < ks.length := by have := R.len; omega
    have hic : i < cs.length := by omega
    exact step_con (ctn_con R i (by omega)) (R.kep _ (getD_mem hik)) (by rw [ctn_len]; exact R.liq _ (getD_mem hic))
theorem ctn_sum {ns : List Int} {ks : List (Int × Int)} {cs : List Nat} (R : Rowy ns ks cs) : ∀ i, i ≤ cs.length → (ctn ns ks cs i).sum ≤ 100 ^ i * ns.sum
  | 0, _ => by show ns.sum ≤ 100 ^ 0 * ns.sum; rw [Int.pow_zero, Int.one_mul]; exact Int.le_refl _
  | i + 1, h => by
    have hik : i < ks.length := by have := R.len; omega
    have hic : i < cs.length := by omega
    have h1 := step_sum (ctn_con R i (by omega)) (R.kep _ (getD_mem (d := (1, 2)) hik)) (c := cs.getD i 0) (by rw [ctn_len]; exact R.liq _ (getD_mem hic))
    have h2 := ctn_sum R i (by omega)
    have h3 : (100 : Int) * (ctn ns ks cs i).sum ≤ 100 * (100 ^ i * ns.sum) := Int.mul_le_mul_of_nonneg_left h2 (by decide)
    have e : (100 : Int) ^ (i + 1) * ns.sum = 100 * (100 ^ i * ns.sum) := by rw [Int.pow_succ, Int.mul_comm ((100 : Int) ^ i) 100, Int.mul_assoc]
    rw [e]
    exact Int.le_trans h1 h3
theorem hund_le (i : Nat) (h : i ≤ 60) : (100 : Int) ^ i ≤ 2 ^ 420 := by
  have h1 : (100 : Nat) ^ i ≤ 100 ^ 60 := Nat.pow_le_pow_right (by decide) h
  have h2 : (100 : Nat) ^ 60 ≤ 2 ^ 420 := by decide +kernel
  have h3 : (100 : Nat) ^ i ≤ 2 ^ 420 := Nat.le_trans h1 h2
  exact_mod_cast h3
theorem ctn_small {ns : List Int} {ks : List (Int × Int)} {cs : List Nat} {m : Nat} (R : Rowy ns ks cs) (i : Nat) (hi : i ≤ cs.length) (hz : ns.sum < 2 ^ m) : (ctn ns ks cs i).sum < 2 ^ (m + 420) := by
  have h1 := ctn_sum R i hi
  have hs := R.con.amt.pos
  have h2 : (100 : Int) ^ i * ns.sum ≤ 2 ^ 420 * ns.sum := Int.mul_le_mul_of_nonneg_right (hund_le i (by have := R.c60; omega)) (by omega)
  have h3 : (2 : Int) ^ 420 * ns.sum < 2 ^ 420 * 2 ^ m := Int.mul_lt_mul_of_pos_left hz (Int.pow_pos (by decide))
  have e : (2 : Int) ^ (m + 420) = 2 ^ 420 * 2 ^ m := by rw [Int.pow_add, Int.mul_comm]
  rw [e]
  exact Int.lt_of_le_of_lt (Int.le_trans h1 h2) h3
/-- a list of n + 1 new lists of ints -/
structure Rows (H H' : Hp) (p : Addr) (ps : List Addr) (n : Nat) (v : Nat → List Int) : Prop where
  at_ : H' p = some (.lst (ps.map V.ref))
  len : ps.length = n
  row : ∀ i a, ps[i]? = some a → LI H' a (v i)
  new : ∀ a ∈ ps, H a = none
  nd : ps.Nodup
  out : p ∉ ps
  pnew : H p = none
theorem Rows.grow {H H' H2 : Hp} {p a : Addr} {ps : List Addr} {n : Nat} {v : Nat → List Int} (R : Rows H H' p ps n v) (s : Same H H') (e : Same H' H2) (na : H' a = none) (ha : LI H2 a (v n)) : Rows H (upd H2 p (.lst (ps.map V.ref ++ [.ref a]))) p (ps ++ [a]) (n + 1) v := by
  have hpa : a ≠ p := fun z => by rw [z, R.at_] at na; cases na
  refine ⟨?_, ?_, fun i b hb => ?_, fun b hb => ?_, ?_, fun z => ?_, R.pnew⟩
  · rw [upd_same, List.map_append]
    rfl
  · rw [List.length_append, R.len]
    rfl
  · by_cases hi : i < ps.length
    · rw [List.getElem?_append_left hi] at hb
      have hbp : b ≠ p := fun z => R.out (by rw [← z]; exact List.mem_of_getElem? hb)
      show upd H2 p _ b = _
      rw [upd_ne hbp]
      exact e b _ (R.row i b hb)
    · have hi2 := (List.getElem?_eq_some_iff.mp hb).1
      rw [List.length_append] at hi2
      have e1 : i = ps.length := by
        have : i < ps.length + 1 := hi2
        omega
      rw [e1, List.getElem?_append_right (Nat.le_refl _), Nat.sub_self] at hb
      have e2 : a = b := Option.some.inj hb
      rw [← e2, e1, R.len]
      show upd H2 p _ a = _
      rw [upd_ne hpa]
      exact ha
  · rcases List.mem_append.mp hb with z | z
    · exact R.new b z
    · rw [List.mem_singleton.mp z]
      exact s.free na
  · refine List.nodup_append.mpr ⟨R.nd, List.nodup_cons.mpr ⟨List.not_mem_nil, List.nodup_nil⟩, fun x hx y hy z => ?_⟩
    rw [List.mem_singleton.mp hy] at z
    obtain ⟨i, hi⟩ := List.getElem?_of_mem hx
    have := R.row i x hi
    rw [z] at this
    have t2 : H' a = some _ := this
    rw [na] at t2
    cases t2
  · rcases List.mem_append.mp z with z | z
    · exact R.out z
    · exact hpa (List.mem_singleton.mp z).symm
theorem Rows.last {H H' : Hp} {p : Addr} {ps : List Addr} {n : Nat} {v : Nat → List Int} (R : Rows H H' p ps (n + 1) v) : ∃ a, atI (ps.map V.ref) (-1) = some (.ref a) ∧ LI H' a (v n) ∧ ps[n]? = some a := by
  have hl := R.len
  have hn : n < ps.length := by omega
  have e : ps.map V.ref = (ps.take n).map V.ref ++ [.ref ps[n]] := by
    have e1 : ps = ps.take n ++ [ps[n]] := by
      have := List.take_append_getElem hn
      rw [this, List.take_of_length_le (by omega)]
    conv => lhs; rw [e1]
    rw [List.map_append]
    rfl
  refine ⟨ps[n], ?_, R.row n _ (List.getElem?_eq_getElem hn), List.getElem?_eq_getElem hn⟩
  rw [e]
  exact atI_last _ _
def rowI (cs : List Nat) : List Int := cs.map fun (c : Nat) => (c : Int)
theorem rowI_get {cs : List Nat} {i : Nat} {y : V} (h : ((rowI cs).map V.int)[i]? = some y) : i < cs.length ∧ y = .int ((cs.getD i 0 : Nat) : Int) := by
  obtain ⟨n, hn, rfl⟩ := map_get h
  unfold rowI at hn
  rw [List.getElem?_map] at hn
  cases e : cs[i]? with
  | none => rw [e] at hn; cases hn
  | some c =>
    rw [e] at hn
    refine ⟨(List.getElem?_eq_some_iff.mp e).1, ?_⟩
    rw [List.getD_eq_getElem?_getD, e]
    exact congrArg V.int (Option.some.inj hn).symm
/-- a list of tuples of two ints -/
structure Keeps (H : Hp) (l : Addr) (ts : List Addr) (ks : List (Int × Int)) : Prop where
  at_ : H l = some (.lst (ts.map V.ref))
  len : ts.length = ks.length
  tup : ∀ i t, ts[i]? = some t → H t = some (.tup [.int (ks.getD i (1, 2)).1, .int (ks.getD i (1, 2)).2])
theorem Keeps.same {H H' : Hp} {l : Addr} {ts : List Addr} {ks : List (Int × Int)} (k : Keeps H l ts ks) (e : Same H H') : Keeps H' l ts ks := ⟨e _ _ k.at_, k.len, fun i t h => e _ _ (k.tup i t h)⟩
def sp_contents_by : Sp := fun vs H Q _ => ∃ l kl r ns ts ks cs, vs = [V.ref l, V.ref kl, V.ref r] ∧ LI H l ns ∧ Keeps H kl ts ks ∧ LI H r (rowI cs) ∧ Rowy ns ks cs ∧ ns.sum < 2 ^ 7000 ∧ ∀ p ps H', Same H H' → Rows H H' p ps (cs.length + 1) (ctn ns ks cs) → Q (.ref p) H'
theorem same_upd_new {H H' : Hp} {p : Addr} {o : HO} (e : Same H H') (h : H p = none) : Same H (upd H' p o) := fun b x hb => by
  rw [upd_ne (ne_of_none hb h)]
  exact e b x hb


end
end K59
end

section
set_option Elab.async false
set_option linter.all false
set_option maxRecDepth 100000
set_option maxHeartbeats 4000000
namespace K59
open PySem PySem.Spec PyProof.Rows L2 GxR Gx Ma
section
variable {P : Program} {w : World} {K : PySem.W.Frag} {mg : Str → Option Value} {base : Heap}

def ctn1 (ns : List Int) (a b : Int) (cs : List Nat) : Nat → List Int := ctn ns (List.replicate cs.length (a, b)) cs
structure Row1 (ns : List Int) (a b : Int) (cs : List Nat) : Prop where
  con : Con ns
  c60 : cs.length ≤ 60
  kep : Kep a b
  liq : ∀ c ∈ cs, c < ns.length
theorem Row1.y {ns : List Int} {a b : Int} {cs : List Nat} (R : Row1 ns a b cs) : Rowy ns (List.replicate cs.length (a, b)) cs :=
  ⟨R.con, List.length_replicate, R.c60, fun q hq => by rw [(List.mem_replicate.mp hq).2]; exact R.kep, R.liq⟩
theorem keeps_rep {H : Hp} {l t : Addr} {a b : Int} {n : Nat} (h : H l = some (.lst ((List.replicate n t).map V.ref))) (ht : H t = some (.tup [.int a, .int b])) : Keeps H l (List.replicate n t) (List.replicate n (a, b)) := by
  refine ⟨h, by rw [List.length_replicate, List.length_replicate], fun i u hu => ?_⟩
  have hi := (List.getElem?_eq_some_iff.mp hu).1
  rw [List.length_replicate] at hi
  have e : t = u := by
    rw [List.getElem?_replicate, if_pos hi] at hu
    exact Option.some.inj hu
  rw [← e, List.getD_eq_getElem?_getD, List.getElem?_replicate, if_pos hi]
  exact ht
theorem rowI_le {cs : List Nat} {k : Nat} (h : ∀ c ∈ cs, c < k) : ∀ c ∈ rowI cs, 0 ≤ c ∧ c ≤ (k : Int) - 1 := fun c hc => by
  obtain ⟨m, hm, e⟩ := List.mem_map.mp hc
  have := h m hm
  have e2 : (m : Int) = c := e
  omega
def sp_contents_along (Tc Tr : Addr) : Sp := fun vs H Q _ => ∃ l t r ns a b cs, vs = [V.ref l, V.ref t, V.ref r] ∧ LI H l ns ∧ H t = some (.tup [.int a, .int b]) ∧ LI H r (rowI cs) ∧ Row1 ns a b cs ∧ ns.sum < 2 ^ 7000 ∧ H Tc = some (TabO Tc) ∧ H Tr = some (TabO Tr) ∧
  ∀ p ps H', Same H H' → Rows H H' p ps (cs.length + 1) (ctn1 ns a b cs) → Q (.ref p) H'
def sp_topped_row (Tc Tr : Addr) : Sp := fun vs H Q _ => ∃ l t r ns a b cs, vs = [V.ref l, V.ref t, V.ref r] ∧ LI H l ns ∧ H t = some (.tup [.int a, .int b]) ∧ LI H r (rowI cs) ∧ Row1 ns a b cs ∧ ns.sum < 2 ^ 7000 ∧ H Tc = some (TabO Tc) ∧ H Tr = some (TabO Tr) ∧
  ∀ p H', Same H H' → H p = none → LI H' p (ctn1 ns a b cs cs.length) → Q (.ref p) H'
theorem Rows.back {H0 H H' : Hp} {p : Addr} {ps : List Addr} {n : Nat} {v : Nat → List Int} (R : Rows H H' p ps n v) (s : Same H0 H) : Rows H0 H' p ps n v := ⟨R.at_, R.len, R.row, fun a h => s.free (R.new a h), R.nd, R.out, s.free R.pnew⟩



end
end K59
end

section
set_option linter.all false
set_option maxHeartbeats 1000000
/-! Mixtures: weighted sums of contents over a bottom, and that a common factor goes away. -/
namespace Ma
def mixN (cs : List (List Int)) (ws : List Int) (W : Int) (s : Nat) : Nat → Int
  | 0 => 0
  | i + 1 => mixN cs ws W s i + ws.getD i 0 * (W / (cs.getD i []).sum) * (cs.getD i []).getD s 0
def mixL (cs : List (List Int)) (ws : List Int) (W : Int) (n m : Nat) : List Int := (List.range n).map fun s => mixN cs ws W s m
def lcmZ (cs : List (List Int)) : Nat → Int
  | 0 => 1
  | i + 1 => ((Nat.lcm (lcmZ cs i).natAbs (cs.getD i []).sum.natAbs : Nat) : Int)
def prodZ (cs : List (List Int)) : Nat → Int
  | 0 => 1
  | i + 1 => prodZ cs i * (cs.getD i []).sum
def wsum (ws : List Int) : Nat → Int
  | 0 => 0
  | i + 1 => wsum ws i + ws.getD i 0
/-- contents of one length with weights -/
structure Mix (cs : List (List Int)) (ws : List Int) (n : Nat) : Prop where
  c0 : 0 < cs.length
  c8 : cs.length ≤ 8
  wl : ws.length = cs.length
  con : ∀ c ∈ cs, Con c
  len : ∀ c ∈ cs, c.length = n
  small : ∀ c ∈ cs, c.sum < 2 ^ 102
  w0 : ∀ w ∈ ws, 0 ≤ w ∧ w < 2 ^ 98
  wp : 0 < ws.sum
theorem Mix.at {cs : List (List Int)} {ws : List Int} {n : Nat} (M : Mix cs ws n) {i : Nat} (h : i < cs.length) : cs.getD i [] ∈ cs := by
  rw [List.getD_eq_getElem?_getD, List.getElem?_eq_getElem h]
  exact List.getElem_mem h
theorem Mix.wat {cs : List (List Int)} {ws : List Int} {n : Nat} (M : Mix cs ws n) {i : Nat} (h : i < cs.length) : ws.getD i 0 ∈ ws := by
  rw [List.getD_eq_getElem?_getD, List.getElem?_eq_getElem (by rw [M.wl]; exact h)]
  exact List.getElem_mem _
theorem Mix.sp {cs : List (List Int)} {ws : List Int} {n : Nat} (M : Mix cs ws n) {i : Nat} (h : i < cs.length) : 0 < (cs.getD i []).sum := (M.con _ (M.at h)).amt.pos
theorem lcm_pos {cs : List (List Int)} {ws : List Int} {n : Nat} (M : Mix cs ws n) : ∀ i, i ≤ cs.length → 0 < lcmZ cs i
  | 0, _ => by first | (show (0 : Int) < 1; decide) | (show (1 : Int) ≤ 2 ^ 0; decide)
  | i + 1, h => by
    have h1 := lcm_pos M i (by omega)
    have h2 := M.sp (i := i) (by omega)
    have := Nat.lcm_pos (m := (lcmZ cs i).natAbs) (n := (cs.getD i []).sum.natAbs) (by omega) (by omega)
    show 0 < ((Nat.lcm _ _ : Nat) : Int)
    omega
theorem prod_pos {cs : List (List Int)} {ws : List Int} {n : Nat} (M : Mix cs ws n) : ∀ i, i ≤ cs.length → 0 < prodZ cs i
  | 0, _ => by first | (show (0 : Int) < 1; decide) | (show (1 : Int) ≤ 2 ^ 0; decide)
  | i + 1, h => Int.mul_pos (prod_pos M i (by omega)) (M.sp (by omega))
theorem two_mul' {x y : Int} {a b : Nat} (hx : x ≤ 2 ^ a) (hy : y ≤ 2 ^ b) (h0 : 0 ≤ y) : x * y ≤ 2 ^ (a + b) := by
  rw [Int.pow_add]
  exact Int.mul_le_mul hx hy h0 (Int.le_of_lt (Int.pow_pos (by decide)))
theorem prod_le {cs : List (List Int)} {ws : List Int} {n : Nat} (M : Mix cs ws n) : ∀ i, i ≤ cs.length → prodZ cs i ≤ 2 ^ (102 * i)
  | 0, _ => by first | (show (0 : Int) < 1; decide) | (show (1 : Int) ≤ 2 ^ 0; decide)
  | i + 1, h => by
    have h1 := prod_le M i (by omega)
    exact two_mul' (a := 102 * i) (b := 102) h1 (Int.le_of_lt (M.small _ (M.at (by omega)))) (Int.le_of_lt (M.sp (by omega)))
theorem dvd_nat_of {a : Int} {n : Nat} (h : a.natAbs ∣ n) : a ∣ (n : Int) := Int.natAbs_dvd_natAbs.mp (by rw [Int.natAbs_natCast]; exact h)
theorem nat_dvd_of {n : Nat} {a : Int} (h : n ∣ a.natAbs) : (n : Int) ∣ a := Int.natAbs_dvd_natAbs.mp (by rw [Int.natAbs_natCast]; exact h)
theorem dvd_lcm {cs : List (List Int)} : ∀ (i k : Nat), k < i → (cs.getD k []).sum ∣ lcmZ cs i
  | 0, _, h => by omega
  | i + 1, k, h => by
    show _ ∣ ((Nat.lcm _ _ : Nat) : Int)
    by_cases e : k = i
    · subst e
      exact dvd_nat_of (Nat.dvd_lcm_right _ _)
    · have h1 := dvd_lcm (cs := cs) i k (by omega)
      exact Int.dvd_trans h1 (dvd_nat_of (Nat.dvd_lcm_left _ _))
theorem lcm_dvd {cs : List (List Int)} : ∀ i, lcmZ cs i ∣ prodZ cs i
  | 0 => Int.dvd_refl _
  | i + 1 => by
    have h1 := lcm_dvd (cs := cs) i
    show ((Nat.lcm _ _ : Nat) : Int) ∣ prodZ cs i * _
    refine nat_dvd_of (Nat.lcm_dvd ?_ ?_)
    · exact Int.natAbs_dvd_natAbs.mpr (Int.dvd_trans h1 (Int.dvd_mul_right _ _))
    · exact Int.natAbs_dvd_natAbs.mpr (Int.dvd_mul_left _ _)
theorem lcm_le {cs : List (List Int)} {ws : List Int} {n : Nat} (M : Mix cs ws n) (i : Nat) (h : i ≤ cs.length) : lcmZ cs i ≤ 2 ^ (102 * i) :=
  Int.le_trans (Int.le_of_dvd (prod_pos M i h) (lcm_dvd i)) (prod_le M i h)
/-! sums -/
def sumN (f : Nat → Int) : Nat → Int
  | 0 => 0
  | n + 1 => sumN f n + f n
theorem sum_range (f : Nat → Int) : ∀ n, ((List.range n).map f).sum = sumN f n
  | 0 => rfl
  | n + 1 => by
    rw [List.range_succ, List.map_append, List.sum_append, sum_range f n]
    show _ + (f n + 0) = _
    rw [Int.add_zero]
    rfl
theorem sumN_add (f g : Nat → Int) (a : Int) : ∀ n, sumN (fun s => f s + a * g s) n = sumN f n + a * sumN g n
  | 0 => by simp [sumN]
  | n + 1 => by
    show sumN _ n + (f n + a * g n) = (sumN f n + f n) + a * (sumN g n + g n)
    rw [sumN_add f g a n, Int.mul_add]
    omega
theorem sumN_take (c : List Int) : ∀ i, i ≤ c.length → sumN (fun s => c.getD s 0) i = (c.take i).sum
  | 0, _ => by rw [List.take_zero]; rfl
  | i + 1, h => by
    show sumN _ i + c.getD i 0 = _
    rw [sumN_take c i (by omega), List.take_add_one, List.getElem?_eq_getElem (by omega), List.sum_append, List.getD_eq_getElem?_getD, List.getElem?_eq_getElem (by omega)]
    show _ + c[i] = _ + (c[i] + 0)
    rw [Int.add_zero]
theorem sumN_list (c : List Int) : sumN (fun s => c.getD s 0) c.length = c.sum := by rw [sumN_take c _ (Nat.le_refl _), List.take_length]
theorem mix_sum {cs : List (List Int)} {ws : List Int} {n : Nat} (M : Mix cs ws n) {W : Int} : ∀ m, m ≤ cs.length → (∀ k, k < m → (cs.getD k []).sum ∣ W) → (mixL cs ws W n m).sum = W * wsum ws m
  | 0, _, _ => by
    unfold mixL
    rw [sum_range]
    have : ∀ n, sumN (fun s => mixN cs ws W s 0) n = 0 := fun n => by
      induction n with
      | zero => rfl
      | succ n ih => show _ + 0 = _; rw [ih]; rfl
    rw [this]
    show 0 = W * 0
    rw [Int.mul_zero]
  | m + 1, h, hd => by
    have ih := mix_sum M m (by omega) fun k hk => hd k (by omega)
    unfold mixL at ih ⊢
    rw [sum_range] at ih ⊢
    show sumN (fun s => mixN cs ws W s m + ws.getD m 0 * (W / (cs.getD m []).sum) * (cs.getD m []).getD s 0) n = _
    rw [sumN_add, ih]
    have hl := M.len _ (M.at (i := m) (by omega))
    rw [← hl, sumN_list, Int.mul_assoc, Int.ediv_mul_cancel (hd m (by omega))]
    show _ = W * (wsum ws m + ws.getD m 0)
    rw [Int.mul_add, Int.mul_comm (ws.getD m 0)]
theorem wsum_take (ws : List Int) : ∀ i, i ≤ ws.length → wsum ws i = (ws.take i).sum
  | 0, _ => by rw [List.take_zero]; rfl
  | i + 1, h => by
    show wsum ws i + ws.getD i 0 = _
    rw [wsum_take ws i (by omega), List.take_add_one, List.getElem?_eq_getElem (by omega), List.sum_append, List.getD_eq_getElem?_getD, List.getElem?_eq_getElem (by omega)]
    show _ + ws[i] = _ + (ws[i] + 0)
    rw [Int.add_zero]
theorem Mix.ws {cs : List (List Int)} {ws : List Int} {n : Nat} (M : Mix cs ws n) : wsum ws cs.length = ws.sum := by
  rw [wsum_take ws _ (by rw [M.wl]; exact Nat.le_refl _), ← M.wl, List.take_length]
theorem mix_nn {cs : List (List Int)} {ws : List Int} {n : Nat} (M : Mix cs ws n) {W : Int} (hW : 0 ≤ W) (s : Nat) : ∀ m, m ≤ cs.length → 0 ≤ mixN cs ws W s m
  | 0, _ => Int.le_refl _
  | m + 1, h => by
    have h1 := mix_nn M hW s m (by omega)
    have h2 := (M.w0 _ (M.wat (i := m) (by omega))).1
    have h3 : 0 ≤ W / (cs.getD m []).sum := Int.ediv_nonneg hW (Int.le_of_lt (M.sp (by omega)))
    have h4 : 0 ≤ (cs.getD m []).getD s 0 := by
      rw [List.getD_eq_getElem?_getD]
      cases e : (cs.getD m [])[s]? with
      | none => exact Int.le_refl _
      | some x => exact (M.con _ (M.at (i := m) (by omega))).nn x (List.mem_of_getElem? e)
    have h5 := Int.mul_nonneg (Int.mul_nonneg h2 h3) h4
    show 0 ≤ _ + _
    omega
theorem mix_len (cs : List (List Int)) (ws : List Int) (W : Int) (n m : Nat) : (mixL cs ws W n m).length = n := by unfold mixL; rw [List.length_map, List.length_range]
theorem mix_amt {cs : List (List Int)} {ws : List Int} {n : Nat} (M : Mix cs ws n) {W : Int} (hW : 0 < W) (hd : ∀ k, k < cs.length → (cs.getD k []).sum ∣ W) : Amt (mixL cs ws W n cs.length) := by
  refine ⟨fun x hx => ?_, ?_⟩
  · obtain ⟨s, _, e⟩ := List.mem_map.mp hx
    rw [← e]
    exact mix_nn M (Int.le_of_lt hW) s _ (Nat.le_refl _)
  · rw [mix_sum M _ (Nat.le_refl _) hd, M.ws]
    exact Int.mul_pos hW M.wp
theorem mix_scale {cs : List (List Int)} {ws : List Int} {n : Nat} (M : Mix cs ws n) {W t : Int} (s : Nat) : ∀ m, m ≤ cs.length → (∀ k, k < m → (cs.getD k []).sum ∣ W) → mixN cs ws (W * t) s m = t * mixN cs ws W s m
  | 0, _, _ => by show 0 = t * 0; rw [Int.mul_zero]
  | m + 1, h, hd => by
    have ih := mix_scale M (t := t) s m (by omega) fun k hk => hd k (by omega)
    obtain ⟨q, hq⟩ := hd m (by omega)
    have hs := M.sp (i := m) (by omega)
    show mixN cs ws (W * t) s m + _ * (W * t / _) * _ = t * (mixN cs ws W s m + _ * (W / _) * _)
    have e1 : W * t / (cs.getD m []).sum = q * t := by rw [hq, Int.mul_assoc, Int.mul_ediv_cancel_left _ (by omega)]
    have e2 : W / (cs.getD m []).sum = q := by rw [hq, Int.mul_ediv_cancel_left _ (by omega)]
    rw [ih, e1, e2, Int.mul_add]
    congr 1
    rw [← Int.mul_assoc, Int.mul_right_comm _ t, Int.mul_comm t]
theorem gcdF_scale (t : Nat) : ∀ (ns : List Int) (d : Nat), gcdF (t * d) (ns.map fun n => (t : Int) * n) = t * gcdF d ns
  | [], d => rfl
  | n :: r, d => by
    show gcdF (Nat.gcd (t * d) ((t : Int) * n).natAbs) _ = t * gcdF (Nat.gcd d n.natAbs) r
    rw [Int.natAbs_mul, Int.natAbs_natCast, Nat.gcd_mul_left, gcdF_scale t r]
theorem plain_scale {ns : List Int} {t : Int} (ht : 0 < t) (hg : 0 < gcdN ns) : plain (ns.map fun n => t * n) = plain ns := by
  obtain ⟨k, rfl⟩ := Int.eq_ofNat_of_zero_le (Int.le_of_lt ht)
  unfold plain
  have e : gcdN (ns.map fun n => (k : Int) * n) = k * gcdN ns := by
    have := gcdF_scale k ns 0
    rw [Nat.mul_zero] at this
    exact this
  rw [e, List.map_map]
  refine List.map_congr_left fun n _ => ?_
  show (k : Int) * n / ((k * gcdN ns : Nat) : Int) = _
  rw [Int.natCast_mul, Int.mul_ediv_mul_of_pos _ _ ht]
/-- over the product or over the least common multiple: the same content -/
theorem mix_same {cs : List (List Int)} {ws : List Int} {n : Nat} (M : Mix cs ws n) : plain (mixL cs ws (prodZ cs cs.length) n cs.length) = plain (mixL cs ws (lcmZ cs cs.length) n cs.length) := by
  obtain ⟨t, ht⟩ := lcm_dvd (cs := cs) cs.length
  have h1 := lcm_pos M cs.length (Nat.le_refl _)
  have h2 := prod_pos M cs.length (Nat.le_refl _)
  have h3 : 0 < t := by
    rcases Int.lt_or_le 0 t with h | h
    · exact h
    · have := Int.mul_nonpos_of_nonneg_of_nonpos (Int.le_of_lt h1) h
      omega
  have e : mixL cs ws (prodZ cs cs.length) n cs.length = (mixL cs ws (lcmZ cs cs.length) n cs.length).map fun x => t * x := by
    unfold mixL
    rw [List.map_map]
    refine List.map_congr_left fun s _ => ?_
    rw [ht]
    exact mix_scale M s _ (Nat.le_refl _) fun k hk => dvd_lcm _ k hk
  rw [e]
  exact plain_scale h3 (gcdN_pos (mix_amt M h1 fun k hk => dvd_lcm _ k hk))
/-- one content alone -/
theorem mix_one {c : List Int} {x : Int} (M : Mix [c] [x] c.length) : plain (mixL [c] [x] (lcmZ [c] 1) c.length 1) = c := by
  have hc : Con c := M.con c List.mem_cons_self
  have hs := hc.amt.pos
  have hx : 0 < x := by
    have := M.wp
    simpa using this
  have e1 : lcmZ [c] 1 = c.sum := by
    show ((Nat.lcm 1 c.sum.natAbs : Nat) : Int) = _
    rw [Nat.lcm_one_left]
    omega
  have e : mixL [c] [x] (lcmZ [c] 1) c.length 1 = c.map fun n => x * n := by
    rw [e1]
    unfold mixL
    refine List.ext_getElem (by simp) fun i h1 h2 => ?_
    simp only [List.getElem_map, List.getElem_range]
    show 0 + x * (c.sum / c.sum) * c.getD i 0 = _
    rw [Int.ediv_self (by omega), Int.mul_one, Int.zero_add, List.getD_eq_getElem?_getD, List.getElem?_eq_getElem (by simpa using h2)]
    rfl
  rw [e, plain_scale hx (gcdN_pos hc.amt), plain_of_one hc.g]
end Ma
end

section
set_option Elab.async false
set_option linter.all false
set_option maxHeartbeats 1000000
namespace Ma
/-! histories: what is undone -/
/-- whether a number is a power, by dividing -/
def powF : Nat → Int → Int → Bool
  | 0, _, _ => false
  | f + 1, b, S => if S % b = 0 then powF f b (S / b) else decide (S = 1)
def powB (b S : Int) : Bool := powF S.toNat b S
theorem div_lt' {b S : Int} (hb : 2 ≤ b) (hS : 1 ≤ S) (h : S % b = 0) : 1 ≤ S / b ∧ S / b < S := by
  have e := Int.emod_add_mul_ediv S b
  rw [h, Int.zero_add] at e
  have p : 0 < S / b := by
    rcases Int.lt_or_le 0 (S / b) with z | z
    · exact z
    · have := Int.mul_le_mul_of_nonneg_left z (show 0 ≤ b by omega)
      omega
  have h2 := Int.mul_le_mul_of_nonneg_right hb (Int.le_of_lt p)
  exact ⟨p, by omega⟩
theorem powF_more {b : Int} (hb : 2 ≤ b) : ∀ (f : Nat) (S : Int), 1 ≤ S → S ≤ f → ∀ f' : Nat, S ≤ f' → powF f' b S = powF f b S
  | 0, S, h1, h2, _, _ => by omega
  | f + 1, S, h1, h2, f', h3 => by
    obtain ⟨g, rfl⟩ : ∃ g, f' = g + 1 := ⟨f' - 1, by omega⟩
    unfold powF
    by_cases h : S % b = 0
    · obtain ⟨p, q⟩ := div_lt' hb h1 h
      rw [if_pos h, if_pos h]
      exact powF_more hb f _ p (by omega) g (by omega)
    · rw [if_neg h, if_neg h]
theorem powB_div {b S : Int} (hb : 2 ≤ b) (hS : 1 ≤ S) (h : S % b = 0) : powB b S = powB b (S / b) := by
  obtain ⟨p, q⟩ := div_lt' hb hS h
  unfold powB
  obtain ⟨g, hg⟩ : ∃ g, S.toNat = g + 1 := ⟨S.toNat - 1, by omega⟩
  rw [hg, powF, if_pos h]
  exact powF_more hb _ _ p (by omega) _ (by omega)
theorem powB_end {b S : Int} (hS : 1 ≤ S) (h : S % b ≠ 0) : powB b S = decide (S = 1) := by
  unfold powB
  obtain ⟨g, hg⟩ : ∃ g, S.toNat = g + 1 := ⟨S.toNat - 1, by omega⟩
  rw [hg, powF, if_neg h]
theorem powF_ex {b : Int} (hb : 2 ≤ b) : ∀ (f : Nat) (S : Int), powF f b S = true → ∃ n : Nat, S = b ^ n
  | 0, S, h => by cases h
  | f + 1, S, h => by
    unfold powF at h
    by_cases hz : S % b = 0
    · rw [if_pos hz] at h
      obtain ⟨n, hn⟩ := powF_ex hb f _ h
      refine ⟨n + 1, ?_⟩
      have e := Int.emod_add_mul_ediv S b
      rw [hz, Int.zero_add, hn] at e
      rw [Int.pow_succ, Int.mul_comm]
      exact e.symm
    · rw [if_neg hz] at h
      exact ⟨0, by rw [Int.pow_zero]; exact of_decide_eq_true h⟩
theorem powB_ex {b S : Int} (hb : 2 ≤ b) (h : powB b S = true) : ∃ n : Nat, S = b ^ n := powF_ex hb _ _ h
theorem one_mod {b : Int} (hb : 2 ≤ b) : (1 : Int) % b ≠ 0 := by
  rw [Int.emod_eq_of_lt (by decide) (by omega)]
  decide
theorem pow_pos' {b : Int} (hb : 2 ≤ b) (n : Nat) : 1 ≤ b ^ n := Int.pow_pos (by omega)
theorem powB_pow {b : Int} (hb : 2 ≤ b) : ∀ n : Nat, powB b (b ^ n) = true
  | 0 => by
    rw [Int.pow_zero, powB_end (by decide) (one_mod hb)]
    rfl
  | n + 1 => by
    have e : b ^ (n + 1) % b = 0 := by rw [Int.pow_succ]; exact Int.mul_emod_left _ _
    rw [powB_div hb (pow_pos' hb _) e, Int.pow_succ, Int.mul_ediv_cancel _ (by omega)]
    exact powB_pow hb n
theorem pow_dvd {b S : Int} {n : Nat} (h : S = b ^ n) (h1 : S ≠ 1) : b ∣ S := by
  cases n with
  | zero => exact absurd (by rw [h, Int.pow_zero]) h1
  | succ n => rw [h, Int.pow_succ]; exact Int.dvd_mul_left _ _
/-! the last liquid -/
def fit (ns : List Int) (a b : Int) (i : Nat) : Bool := decide (ns.getD i 0 * b ≥ (b - a) * ns.sum)
def mark (ns : List Int) (a : Int) (i : Nat) : Bool := decide (a = 1) || decide (ns.getD i 0 % a ≠ 0)
def marked (ns : List Int) (a : Int) : List Nat := (List.range ns.length).filter (mark ns a)
def lastL (ns : List Int) (a b : Int) : Option Nat := if a > 1 ∧ (marked ns a).length > 1 then none else ((marked ns a).filter (fit ns a b)).getLast?
theorem lastL_some {ns : List Int} {a b : Int} {c : Nat} (h : lastL ns a b = some c) : c < ns.length ∧ fit ns a b c = true := by
  unfold lastL at h
  split at h
  · cases h
  · have h1 := List.mem_of_getLast? h
    obtain ⟨h2, h3⟩ := List.mem_filter.mp h1
    unfold marked at h2
    exact ⟨List.mem_range.mp (List.mem_filter.mp h2).1, h3⟩
/-! undone -/
def bef (ns : List Int) (a b : Int) (c : Nat) : List Int := (ns.map fun n => n * b).set c (ns.getD c 0 * b - (b - a) * ns.sum)
def befo (ns : List Int) (a b : Int) (c : Nat) : List Int := plain (bef ns a b c)
theorem bef_len (ns : List Int) (a b : Int) (c : Nat) : (bef ns a b c).length = ns.length := by unfold bef; simp
theorem befo_len (ns : List Int) (a b : Int) (c : Nat) : (befo ns a b c).length = ns.length := by unfold befo; rw [plain_len, bef_len]
theorem bef_sum {ns : List Int} {a b : Int} {c : Nat} (h : c < ns.length) : (bef ns a b c).sum = a * ns.sum := by
  unfold bef
  rw [sum_set _ _ _ (by rw [List.length_map]; exact h), sum_map_mul]
  have e : (ns.map fun n => n * b).getD c 0 = ns.getD c 0 * b := by
    rw [List.getD_eq_getElem?_getD, List.getD_eq_getElem?_getD, List.getElem?_map, List.getElem?_eq_getElem h]
    rfl
  rw [e, Int.sub_mul, Int.mul_comm ns.sum b]
  omega
theorem bef_get {ns : List Int} {a b : Int} {c i : Nat} (hi : i < ns.length) : (bef ns a b c)[i]? = some (ns.getD i 0 * b - if i = c then (b - a) * ns.sum else 0) := by
  unfold bef
  rw [List.getElem?_set]
  by_cases h : c = i
  · subst h
    rw [if_pos rfl, if_pos (by rw [List.length_map]; exact hi), if_pos rfl]
  · rw [if_neg h, if_neg (fun z => h z.symm), List.getElem?_map, List.getD_eq_getElem?_getD, List.getElem?_eq_getElem hi, Int.sub_zero]
    rfl
theorem pre_get {ns : List Int} {a b : Int} {c i : Nat} (hi : i < ns.length) : (pre ns a b c)[i]? = some (ns.getD i 0 * a + if i = c then (b - a) * ns.sum else 0) := by
  unfold pre
  rw [List.getElem?_set]
  by_cases h : c = i
  · subst h
    rw [if_pos rfl, if_pos (by rw [List.length_map]; exact hi), if_pos rfl]
  · rw [if_neg h, if_neg (fun z => h z.symm), List.getElem?_map, List.getD_eq_getElem?_getD, List.getElem?_eq_getElem hi, Int.add_zero]
    rfl
theorem getD_of {ns : List Int} {i : Nat} {x : Int} (h : ns[i]? = some x) : ns.getD i 0 = x := by rw [List.getD_eq_getElem?_getD, h]; rfl
theorem getD_in {ns : List Int} {i : Nat} (h : i < ns.length) : ns.getD i 0 ∈ ns := by
  rw [List.getD_eq_getElem?_getD, List.getElem?_eq_getElem h]
  exact List.getElem_mem h
theorem mem_at {ns : List Int} {x : Int} (h : x ∈ ns) : ∃ i, i < ns.length ∧ ns.getD i 0 = x := by
  obtain ⟨i, hi, e⟩ := List.mem_iff_getElem.mp h
  exact ⟨i, hi, by rw [List.getD_eq_getElem?_getD, List.getElem?_eq_getElem hi]; exact e⟩
theorem bef_amt {ns : List Int} {a b : Int} {c : Nat} (h : Con ns) (k : Kep a b) (hc : c < ns.length) (hf : fit ns a b c = true) : Amt (bef ns a b c) := by
  have hs := h.amt.pos
  have k1 := k.a1
  have k2 := k.ab
  refine ⟨fun n hn => ?_, ?_⟩
  · obtain ⟨i, hi, e⟩ := mem_at hn
    rw [bef_len] at hi
    rw [getD_of (bef_get hi)] at e
    rw [← e]
    have h0 := h.nn _ (getD_in hi)
    have h1 := Int.mul_nonneg h0 (show 0 ≤ b by omega)
    by_cases hic : i = c
    · subst hic
      rw [if_pos rfl]
      have := of_decide_eq_true hf
      omega
    · rw [if_neg hic]
      omega
  · rw [bef_sum hc]
    exact Int.mul_pos (by omega) hs
theorem befo_con {ns : List Int} {a b : Int} {c : Nat} (h : Con ns) (k : Kep a b) (hc : c < ns.length) (hf : fit ns a b c = true) : Con (befo ns a b c) :=
  plain_con (bef_amt h k hc hf) (by rw [bef_len]; exact h.len) (by rw [bef_len]; exact h.le8)
theorem befo_lt {ns : List Int} {a b : Int} {c : Nat} (h : Con ns) (k : Kep a b) (hc : c < ns.length) (hf : fit ns a b c = true) (hd : b ∣ ns.sum) : (befo ns a b c).sum < ns.sum := by
  have hs := h.amt.pos
  have k1 := k.a1
  have k2 := k.ab
  have hA := bef_amt h k hc hf
  have e := plain_sum hA
  rw [bef_sum hc] at e
  have hb : b.natAbs ∣ gcdN (bef ns a b c) := dvd_gcdN.mpr fun n hn => by
    obtain ⟨i, hi, e⟩ := mem_at hn
    rw [bef_len] at hi
    rw [getD_of (bef_get hi)] at e
    rw [← e]
    refine Int.natAbs_dvd_natAbs.mpr (Int.dvd_sub (Int.dvd_mul_left _ _) ?_)
    split
    · exact Int.dvd_trans hd (Int.dvd_mul_left _ _)
    · exact Int.dvd_zero _
  have hg := Nat.le_of_dvd (gcdN_pos hA) hb
  have hp : 0 ≤ (plain (bef ns a b c)).sum := sum_nn (befo_con h k hc hf).nn
  have h1 : (befo ns a b c).sum * b ≤ (befo ns a b c).sum * ((gcdN (bef ns a b c) : Nat) : Int) := Int.mul_le_mul_of_nonneg_left (by omega) hp
  have h2 : (befo ns a b c).sum * ((gcdN (bef ns a b c) : Nat) : Int) = a * ns.sum := e
  have h3 : a * ns.sum < b * ns.sum := Int.mul_lt_mul_of_pos_right k2 hs
  rw [h2] at h1
  have h4 : (befo ns a b c).sum * b < ns.sum * b := by rw [Int.mul_comm ns.sum b]; omega
  exact Int.lt_of_mul_lt_mul_right h4 (by omega)
def undo : Nat → List Int → Int → Int → List Nat × List Int
  | 0, ns, _, _ => ([], ns)
  | f + 1, ns, a, b => if ns.sum ≠ 1 ∧ powB b ns.sum = true then
      match lastL ns a b with
      | none => ([], ns)
      | some c => (c :: (undo f (befo ns a b c) a b).1, (undo f (befo ns a b c) a b).2)
    else ([], ns)
def und (ns : List Int) (a b : Int) : List Nat × List Int := undo ns.sum.toNat ns a b
structure Goes (ns : List Int) (a b : Int) (c : Nat) : Prop where
  s1 : ns.sum ≠ 1
  pw : powB b ns.sum = true
  la : lastL ns a b = some c
theorem Goes.con {ns : List Int} {a b : Int} {c : Nat} (G : Goes ns a b c) (h : Con ns) (k : Kep a b) : Con (befo ns a b c) := befo_con h k (lastL_some G.la).1 (lastL_some G.la).2
theorem Goes.dvd {ns : List Int} {a b : Int} {c : Nat} (G : Goes ns a b c) (k : Kep a b) : b ∣ ns.sum := by
  obtain ⟨n, hn⟩ := powB_ex (by have := k.a1; have := k.ab; omega) G.pw
  exact pow_dvd hn G.s1
theorem Goes.lt {ns : List Int} {a b : Int} {c : Nat} (G : Goes ns a b c) (h : Con ns) (k : Kep a b) : (befo ns a b c).sum < ns.sum := befo_lt h k (lastL_some G.la).1 (lastL_some G.la).2 (G.dvd k)
theorem undo_more {a b : Int} (k : Kep a b) : ∀ (f : Nat) (ns : List Int), Con ns → ns.sum ≤ f → ∀ f' : Nat, ns.sum ≤ f' → undo f' ns a b = undo f ns a b
  | 0, ns, h, h1, _, _ => by have := h.amt.pos; omega
  | f + 1, ns, h, h1, f', h2 => by
    have hs := h.amt.pos
    obtain ⟨g, rfl⟩ : ∃ g, f' = g + 1 := ⟨f' - 1, by omega⟩
    unfold undo
    by_cases hc : ns.sum ≠ 1 ∧ powB b ns.sum = true
    · rw [if_pos hc, if_pos hc]
      cases hl : lastL ns a b with
      | none => rfl
      | some c =>
        have G : Goes ns a b c := ⟨hc.1, hc.2, hl⟩
        have hlt := G.lt h k
        have := undo_more k f _ (G.con h k) (by omega) g (by omega)
        dsimp only
        rw [this]
    · rw [if_neg hc, if_neg hc]
theorem und_go {ns : List Int} {a b : Int} {c : Nat} (k : Kep a b) (h : Con ns) (G : Goes ns a b c) : und ns a b = (c :: (und (befo ns a b c) a b).1, (und (befo ns a b c) a b).2) := by
  have hs := h.amt.pos
  have hlt := G.lt h k
  have hc2 := G.con h k
  have e := undo_more k (befo ns a b c).sum.toNat _ hc2 (by omega) (ns.sum.toNat - 1) (by omega)
  unfold und
  rw [← e]
  obtain ⟨g, hg⟩ : ∃ g, ns.sum.toNat = g + 1 := ⟨ns.sum.toNat - 1, by omega⟩
  rw [hg, Nat.add_sub_cancel, undo, if_pos ⟨G.s1, G.pw⟩, G.la]
theorem und_stop {ns : List Int} {a b : Int} (h : Con ns) (hn : ∀ c, ¬ Goes ns a b c) : und ns a b = ([], ns) := by
  have hs := h.amt.pos
  unfold und
  obtain ⟨g, hg⟩ : ∃ g, ns.sum.toNat = g + 1 := ⟨ns.sum.toNat - 1, by omega⟩
  rw [hg, undo]
  split
  · rename_i hc
    cases hl : lastL ns a b with
    | none => rfl
    | some c => exact absurd ⟨hc.1, hc.2, hl⟩ (hn c)
  · rfl
theorem und_pure {ns : List Int} {a b : Int} (h : Con ns) (h1 : ns.sum = 1) : und ns a b = ([], ns) := und_stop h fun c G => G.s1 h1
/-- what is undone so far -/
inductive Un (a b : Int) : List Int → List Nat → List Int → Prop
  | nil {ns : List Int} : Un a b ns [] ns
  | go {ns : List Int} {us : List Nat} {ms : List Int} {c : Nat} : Un a b ns us ms → Goes ms a b c → Un a b ns (us ++ [c]) (befo ms a b c)
theorem Un.con {a b : Int} (k : Kep a b) {ns : List Int} {us : List Nat} {ms : List Int} (u : Un a b ns us ms) (h : Con ns) : Con ms := by
  induction u with
  | nil => exact h
  | go u G ih => exact G.con ih k
theorem Un.sum {a b : Int} (k : Kep a b) {ns : List Int} {us : List Nat} {ms : List Int} (u : Un a b ns us ms) (h : Con ns) : ms.sum ≤ ns.sum := by
  induction u with
  | nil => exact Int.le_refl _
  | go u G ih => have := G.lt (u.con k h) k; omega
theorem Un.len {a b : Int} {ns : List Int} {us : List Nat} {ms : List Int} (u : Un a b ns us ms) : ms.length = ns.length := by
  induction u with
  | nil => rfl
  | go u G ih => rw [befo_len]; exact ih
theorem Un.liq {a b : Int} {ns : List Int} {us : List Nat} {ms : List Int} (u : Un a b ns us ms) : ∀ c ∈ us, c < ns.length := by
  induction u with
  | nil => intro c hc; cases hc
  | go u G ih =>
    intro c hc
    rcases List.mem_append.mp hc with z | z
    · exact ih c z
    · rw [List.mem_singleton.mp z, ← u.len]
      exact (lastL_some G.la).1
theorem Un.und {a b : Int} (k : Kep a b) {ns : List Int} {us : List Nat} {ms : List Int} (u : Un a b ns us ms) (h : Con ns) : und ns a b = (us ++ (und ms a b).1, (und ms a b).2) := by
  induction u with
  | nil => rfl
  | go u G ih =>
    rw [ih, und_go k (u.con k h) G, List.append_assoc]
    rfl
/-- each undone one halves the bottom at least -/
theorem Goes.half {ns : List Int} {a b : Int} {c : Nat} (G : Goes ns a b c) (h : Con ns) (k : Kep a b) : (befo ns a b c).sum < ns.sum := G.lt h k
end Ma
namespace Ma
theorem pow_gap {b : Int} (hb : 2 ≤ b) {i j : Nat} (h : b ^ i < b ^ j) : b ^ i * b ≤ b ^ j := by
  have hij : i < j := by
    rcases Nat.lt_or_ge i j with z | z
    · exact z
    · have h1 : b ^ j ≤ b ^ i := by
        obtain ⟨d, rfl⟩ := Nat.exists_eq_add_of_le z
        rw [Int.pow_add]
        have h2 := pow_pos' hb d
        have h3 := pow_pos' hb j
        have := Int.mul_le_mul_of_nonneg_left h2 (show 0 ≤ b ^ j by omega)
        omega
      omega
  obtain ⟨d, rfl⟩ := Nat.exists_eq_add_of_le (show i + 1 ≤ j from hij)
  rw [Int.pow_add, Int.pow_succ]
  have h2 := pow_pos' hb d
  have h3 := pow_pos' hb i
  have h4 : 0 ≤ b ^ i * b := Int.mul_nonneg (by omega) (by omega)
  have := Int.mul_le_mul_of_nonneg_left h2 h4
  omega
/-- each top-up that is undone before another one makes the bottom less by half at least -/
theorem Un.bound {a b : Int} (k : Kep a b) {ns : List Int} {us : List Nat} {ms : List Int} (u : Un a b ns us ms) (h : Con ns) : ∀ c, Goes ms a b c → ms.sum * 2 ^ us.length ≤ ns.sum := by
  have hb : 2 ≤ b := by have := k.a1; have := k.ab; omega
  induction u with
  | nil => intro c _; rw [List.length_nil, Int.pow_zero, Int.mul_one]; exact Int.le_refl _
  | go u G ih =>
    rename_i us ms c0
    intro c G2
    have h1 := ih _ G
    have h2 := G.lt (u.con k h) k
    obtain ⟨i, e1⟩ := powB_ex hb G2.pw
    obtain ⟨j, e2⟩ := powB_ex hb G.pw
    have h3 : (befo ms a b c0).sum * b ≤ ms.sum := by
      rw [e1, e2] at h2 ⊢
      exact pow_gap hb h2
    have hp := (G.con (u.con k h) k).amt.pos
    have h4 : (befo ms a b c0).sum * 2 ≤ ms.sum := Int.le_trans (Int.mul_le_mul_of_nonneg_left hb (by omega)) h3
    have h5 : (befo ms a b c0).sum * 2 * 2 ^ us.length ≤ ms.sum * 2 ^ us.length := Int.mul_le_mul_of_nonneg_right h4 (Int.le_of_lt (Int.pow_pos (by decide)))
    rw [List.length_append, List.length_singleton, Int.pow_succ, Int.mul_comm ((2 : Int) ^ us.length) 2, ← Int.mul_assoc]
    exact Int.le_trans h5 h1
theorem Un.len_lt {a b : Int} (k : Kep a b) {ns : List Int} {us : List Nat} {ms : List Int} (u : Un a b ns us ms) (h : Con ns) {c : Nat} (G : Goes ms a b c) {n : Nat} (hn : ns.sum < 2 ^ n) : us.length < n := by
  have h1 := u.bound k h c G
  have hp := (u.con k h).amt.pos
  have h2 : (1 : Int) * 2 ^ us.length ≤ ms.sum * 2 ^ us.length := Int.mul_le_mul_of_nonneg_right (by omega) (Int.le_of_lt (Int.pow_pos (by decide)))
  rw [Int.one_mul] at h2
  have h3 : (2 : Int) ^ us.length < 2 ^ n := Int.lt_of_le_of_lt (Int.le_trans h2 h1) hn
  rcases Nat.lt_or_ge us.length n with z | z
  · exact z
  · obtain ⟨d, hd⟩ := Nat.exists_eq_add_of_le z
    rw [hd, Int.pow_add] at h3
    have h4 := pow_pos' (b := 2) (by decide) d
    have h5 := pow_pos' (b := 2) (by decide) n
    have := Int.mul_le_mul_of_nonneg_left h4 (show (0 : Int) ≤ 2 ^ n by omega)
    omega
theorem go_front {a b : Int} {ns : List Int} {c : Nat} (G : Goes ns a b c) {us : List Nat} {ms : List Int} (u : Un a b (befo ns a b c) us ms) : Un a b ns (c :: us) ms := by
  generalize hx : befo ns a b c = x at u
  induction u with
  | nil => rw [← hx]; exact .go .nil G
  | go u G2 ih => exact .go ih G2
theorem und_un {a b : Int} (k : Kep a b) : ∀ (f : Nat) (ns : List Int), Con ns → ns.sum ≤ f → Un a b ns (undo f ns a b).1 (undo f ns a b).2
  | 0, ns, h, h1 => by have := h.amt.pos; omega
  | f + 1, ns, h, h1 => by
    unfold undo
    split
    · rename_i hc
      cases hl : lastL ns a b with
      | none => exact .nil
      | some c =>
        have G : Goes ns a b c := ⟨hc.1, hc.2, hl⟩
        have hlt := G.lt h k
        have ih := und_un k f _ (G.con h k) (by omega)
        dsimp only
        exact go_front G ih
    · exact .nil
theorem und_un' {a b : Int} (k : Kep a b) {ns : List Int} (h : Con ns) : Un a b ns (und ns a b).1 (und ns a b).2 := und_un k _ _ h (by have := h.amt.pos; omega)
theorem und_con {a b : Int} (k : Kep a b) {ns : List Int} (h : Con ns) : Con (und ns a b).2 := (und_un' k h).con k h
theorem und_len {a b : Int} (k : Kep a b) {ns : List Int} (h : Con ns) : (und ns a b).2.length = ns.length := (und_un' k h).len
theorem und_liq {a b : Int} (k : Kep a b) {ns : List Int} (h : Con ns) : ∀ c ∈ (und ns a b).1, c < ns.length := (und_un' k h).liq
theorem und_size {a b : Int} (k : Kep a b) {ns : List Int} (h : Con ns) {n : Nat} (hn : ns.sum < 2 ^ n) : (und ns a b).1.length ≤ n := by
  have u := und_un' k h
  generalize (und ns a b).1 = us at u
  generalize (und ns a b).2 = ms at u
  cases u with
  | nil => exact Nat.zero_le _
  | go u G =>
    have := u.len_lt k h G hn
    rw [List.length_append]
    exact this
end Ma
namespace Ma
/-! the histories told -/
def startOf (ns : List Int) : Nat := ns.findIdx fun n => n == 1
theorem start_at {ns : List Int} (hn : ∀ n ∈ ns, 0 ≤ n) (h : ns.sum = 1) : startOf ns < ns.length ∧ ns[startOf ns]? = some 1 := by
  have h1 : ∃ n ∈ ns, (n == 1) = true := by
    refine Classical.byContradiction fun z => ?_
    have h2 : ∀ n ∈ ns, n = 0 := fun n hm => by
      have h3 := hn n hm
      have h4 := le_sum hn hm
      have h5 : n ≠ 1 := fun e => z ⟨n, hm, by rw [e]; rfl⟩
      omega
    have h6 : ns.sum = 0 := by
      clear z hn h
      induction ns with
      | nil => rfl
      | cons n r ih =>
        rw [List.sum_cons, h2 n List.mem_cons_self, ih fun m hm => h2 m (List.mem_cons_of_mem _ hm)]
        rfl
    omega
  have hlt : startOf ns < ns.length := List.findIdx_lt_length.mpr h1
  refine ⟨hlt, ?_⟩
  have h7 := List.findIdx_getElem (w := hlt)
  rw [List.getElem?_eq_getElem hlt]
  have h8 : ns[startOf ns] = 1 := eq_of_beq h7
  rw [h8]
theorem start_min {ns : List Int} {m : Nat} (h : m < startOf ns) : ns.getD m 0 ≠ 1 := by
  have h1 := List.not_of_lt_findIdx h
  intro e
  have hl : m < ns.length := Nat.lt_of_lt_of_le h List.findIdx_le_length
  rw [List.getD_eq_getElem?_getD, List.getElem?_eq_getElem hl] at e
  have e2 : ns[m] = 1 := e
  rw [e2] at h1
  cases h1
def shortsOf (s : Nat) (row : List Nat) (a b : Int) : List (Nat × List Nat) :=
  if a = 1 ∧ b = 2 then match row with
    | [] => [(s, [])]
    | c :: r => [(s, c :: r), (c, s :: r)]
  else [(s, row)]
def shorts (ns : List Int) (a b : Int) : List (Nat × List Nat) :=
  if (und ns a b).2.sum = 1 then shortsOf (startOf (und ns a b).2) (und ns a b).1.reverse a b else []
def pad (n : Nat) (h : Nat × List Nat) : Option (Nat × List Nat) := if h.2.length ≤ n then some (h.1, List.replicate (n - h.2.length) h.1 ++ h.2) else none
def hofl (ns : List Int) (a b : Int) (n : Nat) : List (Nat × List Nat) := (shorts ns a b).filterMap (pad n)
theorem shorts_liq {a b : Int} (k : Kep a b) {ns : List Int} (h : Con ns) : ∀ x ∈ shorts ns a b, x.1 < ns.length ∧ ∀ c ∈ x.2, c < ns.length := by
  intro x hx
  unfold shorts at hx
  split at hx
  · rename_i h1
    have hs := (start_at (und_con k h).nn h1).1
    rw [und_len k h] at hs
    have hl := und_liq k h
    have hr : ∀ c ∈ (und ns a b).1.reverse, c < ns.length := fun c hc => hl c (List.mem_reverse.mp hc)
    generalize (und ns a b).1.reverse = row at *
    generalize startOf (und ns a b).2 = s at *
    unfold shortsOf at hx
    split at hx
    · cases row with
      | nil =>
        rw [List.mem_singleton.mp hx]
        exact ⟨hs, hr⟩
      | cons c r =>
        rcases List.mem_cons.mp hx with z | z
        · rw [z]; exact ⟨hs, hr⟩
        · rw [List.mem_singleton.mp z]
          refine ⟨hr c List.mem_cons_self, fun d hd => ?_⟩
          rcases List.mem_cons.mp hd with y | y
          · rw [y]; exact hs
          · exact hr d (List.mem_cons_of_mem _ y)
    · rw [List.mem_singleton.mp hx]
      exact ⟨hs, hr⟩
  · cases hx
theorem shorts_size {a b : Int} (k : Kep a b) {ns : List Int} (h : Con ns) {n : Nat} (hn : ns.sum < 2 ^ n) : ∀ x ∈ shorts ns a b, x.2.length ≤ n := by
  have hz := und_size k h hn
  intro x hx
  unfold shorts at hx
  split at hx
  · have hr : (und ns a b).1.reverse.length ≤ n := by rw [List.length_reverse]; exact hz
    generalize (und ns a b).1.reverse = row at *
    unfold shortsOf at hx
    split at hx
    · cases row with
      | nil =>
        rw [List.mem_singleton.mp hx]
        exact hr
      | cons c r =>
        rcases List.mem_cons.mp hx with z | z
        · rw [z]; exact hr
        · rw [List.mem_singleton.mp z]; exact hr
    · rw [List.mem_singleton.mp hx]
      exact hr
  · cases hx
end Ma
namespace Ma
/-! the last liquid, in the law's words -/
def greatL (ns : List Int) (a b : Int) : List Nat := (List.range ns.length).filter fun i => decide (ns.getD i 0 ≥ (b - a) * ns.sum / b)
def oddL (ns : List Int) (a : Int) : List Nat := (List.range ns.length).filter fun i => decide (ns.getD i 0 % a > 0)
def lastsL (ns : List Int) (a b : Int) : List Nat := if a = 1 then greatL ns a b else (greatL ns a b).filter fun i => decide (oddL ns a = [i])
theorem great_fit {ns : List Int} {a b : Int} (hb : 0 < b) (hd : b ∣ ns.sum) : greatL ns a b = (List.range ns.length).filter (fit ns a b) := by
  unfold greatL
  refine List.filter_congr fun i _ => ?_
  unfold fit
  obtain ⟨q, hq⟩ := hd
  have e : (b - a) * ns.sum = (b - a) * q * b := by rw [hq, Int.mul_comm b q, Int.mul_assoc]
  rw [e, Int.mul_ediv_cancel _ (by omega)]
  by_cases h : ns.getD i 0 ≥ (b - a) * q
  · rw [decide_eq_true h, decide_eq_true (Int.mul_le_mul_of_nonneg_right h (by omega))]
  · rw [decide_eq_false h, decide_eq_false fun z => h (Int.le_of_mul_le_mul_right z hb)]
theorem range_single {p : Nat → Bool} {c : Nat} : ∀ n, c < n → (List.range n).filter (fun i => p i && decide (i = c)) = if p c = true then [c] else []
  | 0, h => by omega
  | n + 1, h => by
    rw [List.range_succ, List.filter_append]
    by_cases e : c = n
    · subst e
      have h1 : (List.range c).filter (fun i => p i && decide (i = c)) = [] := by
        rw [List.filter_eq_nil_iff]
        intro i hi
        have := List.mem_range.mp hi
        rw [decide_eq_false (show ¬ i = c by omega), Bool.and_false]
        exact Bool.false_ne_true
      rw [h1, List.nil_append, List.filter_cons, decide_eq_true rfl, Bool.and_true]
      cases p c <;> rfl
    · rw [range_single n (by omega), List.filter_cons, decide_eq_false (show ¬ n = c by omega), Bool.and_false]
      simp
theorem lasts_last {ns : List Int} {a b : Int} (k : Kep a b) (hd : b ∣ ns.sum) : (lastsL ns a b).getLast? = lastL ns a b := by
  have k1 := k.a1
  have k2 := k.ab
  unfold lastsL lastL
  rw [great_fit (a := a) (by omega) hd]
  by_cases h1 : a = 1
  · rw [if_pos h1, if_neg (by omega)]
    have e : marked ns a = List.range ns.length := by
      unfold marked
      rw [List.filter_eq_self]
      intro i _
      unfold mark
      rw [decide_eq_true h1]
      rfl
    rw [e]
  · rw [if_neg h1]
    have e : oddL ns a = marked ns a := by
      unfold oddL marked
      refine List.filter_congr fun i _ => ?_
      unfold mark
      have h0 := Int.emod_nonneg (ns.getD i 0) (show a ≠ 0 by omega)
      rw [decide_eq_false h1, Bool.false_or]
      by_cases h : ns.getD i 0 % a = 0
      · rw [decide_eq_false (by omega), decide_eq_false (by simpa using h)]
      · rw [decide_eq_true (by omega), decide_eq_true h]
    rw [e]
    have hM : ∀ c ∈ marked ns a, c < ns.length := fun c hc => List.mem_range.mp (List.mem_filter.mp hc).1
    generalize marked ns a = M at *
    match M, hM with
    | [], _ =>
      rw [if_neg (by simp)]
      have : ((List.range ns.length).filter (fit ns a b)).filter (fun i => decide (([] : List Nat) = [i])) = [] := by
        rw [List.filter_eq_nil_iff]
        intro i _
        simp
      rw [this]
      rfl
    | [c], hM =>
      rw [if_neg (by simp)]
      have hc := hM c (List.mem_singleton.mpr rfl)
      rw [List.filter_filter]
      have e2 : (fun i => decide ([c] = [i]) && fit ns a b i) = fun i => fit ns a b i && decide (i = c) := by
        funext i
        rw [Bool.and_comm]
        congr 1
        by_cases h : i = c
        · rw [h, decide_eq_true rfl, decide_eq_true rfl]
        · rw [decide_eq_false h, decide_eq_false (by simpa using fun z => h z.symm)]
      rw [e2, range_single _ hc, List.filter_cons]
      cases fit ns a b c <;> rfl
    | c :: d :: r, _ =>
      rw [if_pos ⟨by omega, by simp⟩]
      have : ((List.range ns.length).filter (fit ns a b)).filter (fun i => decide (c :: d :: r = [i])) = [] := by
        rw [List.filter_eq_nil_iff]
        intro i _
        simp
      rw [this]
      rfl
end Ma
end

section
set_option Elab.async false
set_option linter.all false
set_option maxHeartbeats 1000000
namespace Ma
/-! a top-up and what is undone -/
theorem list_ext {xs ys : List Int} (hl : xs.length = ys.length) (h : ∀ i, i < xs.length → xs.getD i 0 = ys.getD i 0) : xs = ys := by
  refine List.ext_getElem hl fun i h1 h2 => ?_
  have := h i h1
  rw [List.getD_eq_getElem?_getD, List.getD_eq_getElem?_getD, List.getElem?_eq_getElem h1, List.getElem?_eq_getElem h2] at this
  exact this
theorem map_getD {ns : List Int} {f : Int → Int} {i : Nat} (h : i < ns.length) : (ns.map f).getD i 0 = f (ns.getD i 0) := by
  rw [List.getD_eq_getElem?_getD, List.getD_eq_getElem?_getD, List.getElem?_map, List.getElem?_eq_getElem h]
  rfl
theorem step_get {x : List Int} {a b : Int} {c i : Nat} (hi : i < x.length) : (step x a b c).getD i 0 * ((gcdN (pre x a b c) : Nat) : Int) = x.getD i 0 * a + if i = c then (b - a) * x.sum else 0 := by
  unfold step plain
  rw [map_getD (by rw [pre_len]; exact hi)]
  have := plain_mul (getD_in (ns := pre x a b c) (i := i) (by rw [pre_len]; exact hi))
  rw [this, getD_of (pre_get hi)]
theorem step_sum_g {x : List Int} {a b : Int} {c : Nat} (h : Con x) (k : Kep a b) (hc : c < x.length) : (step x a b c).sum * ((gcdN (pre x a b c) : Nat) : Int) = b * x.sum := by
  have := plain_sum (pre_amt h k hc)
  rw [pre_sum hc] at this
  exact this
theorem fit_step {x : List Int} {a b : Int} {c : Nat} (h : Con x) (k : Kep a b) (hc : c < x.length) : fit (step x a b c) a b c = true := by
  have hg := gcdN_pos (pre_amt h k hc)
  have k1 := k.a1
  have k2 := k.ab
  have e1 := step_get (a := a) (b := b) (c := c) hc
  have e2 := step_sum_g h k hc
  rw [if_pos rfl] at e1
  have hx := Int.mul_nonneg (h.nn _ (getD_in hc)) (show 0 ≤ a by omega)
  refine decide_eq_true (Int.le_of_mul_le_mul_right (a := ((gcdN (pre x a b c) : Nat) : Int)) ?_ (by omega))
  rw [Int.mul_assoc, e2, Int.mul_right_comm, e1]
  have e3 : (b - a) * (b * x.sum) = (b - a) * x.sum * b := by rw [Int.mul_comm b x.sum, Int.mul_assoc]
  rw [e3]
  exact Int.mul_le_mul_of_nonneg_right (by omega) (by omega)
theorem befo_step {x : List Int} {a b : Int} {c : Nat} (h : Con x) (k : Kep a b) (hc : c < x.length) : befo (step x a b c) a b c = x := by
  have hA := pre_amt h k hc
  have hg := gcdN_pos hA
  have k1 := k.a1
  have k2 := k.ab
  have e0 : ∀ i, i < x.length → (step x a b c).getD i 0 * ((gcdN (pre x a b c) : Nat) : Int) = x.getD i 0 * a + if i = c then (b - a) * x.sum else 0 := fun i hi => by
    unfold step plain
    rw [map_getD (by rw [pre_len]; exact hi)]
    have := plain_mul (getD_in (ns := pre x a b c) (i := i) (by rw [pre_len]; exact hi))
    rw [this, getD_of (pre_get hi)]
  have es : (step x a b c).sum * ((gcdN (pre x a b c) : Nat) : Int) = b * x.sum := by
    have := plain_sum hA
    rw [pre_sum hc] at this
    exact this
  have e1 : (bef (step x a b c) a b c).map (fun n => ((gcdN (pre x a b c) : Nat) : Int) * n) = x.map fun n => (a * b) * n := by
    refine list_ext (by simp [bef_len, step_len]) fun i hi => ?_
    rw [List.length_map, bef_len, step_len] at hi
    rw [map_getD (by rw [bef_len, step_len]; exact hi), map_getD hi, getD_of (bef_get (by rw [step_len]; exact hi)), Int.mul_sub, ← Int.mul_assoc, Int.mul_comm _ ((step x a b c).getD i 0), e0 i hi]
    by_cases hic : i = c
    · subst hic
      rw [if_pos rfl, if_pos rfl]
      have : ((gcdN (pre x a b i) : Nat) : Int) * ((b - a) * (step x a b i).sum) = (b - a) * ((step x a b i).sum * ((gcdN (pre x a b i) : Nat) : Int)) := by
        rw [Int.mul_comm, Int.mul_assoc]
      rw [this, es]
      have e5 : (b - a) * (b * x.sum) = (b - a) * x.sum * b := by rw [Int.mul_comm b x.sum, Int.mul_assoc]
      rw [e5, Int.add_mul, Int.add_sub_cancel, Int.mul_comm (x.getD i 0) a, Int.mul_assoc, Int.mul_comm (x.getD i 0) b, Int.mul_assoc]
    · rw [if_neg hic, if_neg hic, Int.mul_zero, Int.sub_zero, Int.add_zero, Int.mul_comm (x.getD i 0) a, Int.mul_assoc, Int.mul_comm (x.getD i 0) b, Int.mul_assoc]
  have hgx : 0 < gcdN x := by rw [h.g]; decide
  have hab : 0 < a * b := Int.mul_pos (by omega) (by omega)
  have hb2 := gcdN_pos (bef_amt (step_con h k hc) k (by rw [step_len]; exact hc) (fit_step h k hc))
  have e3 := plain_scale (ns := bef (step x a b c) a b c) (t := ((gcdN (pre x a b c) : Nat) : Int)) (by omega) hb2
  have e4 := plain_scale (ns := x) hab hgx
  unfold befo
  rw [← e3, e1, e4, plain_of_one h.g]
end Ma
namespace Ma
theorem cop_of {a S d : Nat} (h : Nat.gcd a S = 1) (hd : d ∣ S) : Nat.gcd d a = 1 := by
  have : Nat.gcd d a ∣ Nat.gcd a S := Nat.dvd_gcd (Nat.gcd_dvd_right _ _) (Nat.dvd_trans (Nat.gcd_dvd_left _ _) hd)
  rw [h] at this
  exact Nat.dvd_one.mp this
theorem dvd_sum_but {d : Int} {c : Nat} : ∀ {ns : List Int}, c < ns.length → (∀ i, i < ns.length → i ≠ c → d ∣ ns.getD i 0) → d ∣ ns.sum → d ∣ ns.getD c 0
  | [], hc, _, _ => by simp at hc
  | n :: r, hc, h, hs => by
    rw [List.sum_cons] at hs
    cases c with
    | zero =>
      have hr : d ∣ r.sum := by
        have : ∀ m ∈ r, d ∣ m := fun m hm => by
          obtain ⟨i, hi, e⟩ := mem_at hm
          have := h (i + 1) (by simp; exact hi) (by omega)
          rw [← e]
          exact this
        clear h hs hc
        induction r with
        | nil => exact Int.dvd_zero _
        | cons m r ih => rw [List.sum_cons]; exact Int.dvd_add (this m List.mem_cons_self) (ih fun y hy => this y (List.mem_cons_of_mem _ hy))
      have := Int.dvd_sub hs hr
      rw [Int.add_sub_cancel] at this
      exact this
    | succ c =>
      have h0 : d ∣ n := h 0 (by simp) (by omega)
      have := Int.dvd_sub hs h0
      rw [Int.add_comm, Int.add_sub_cancel] at this
      exact dvd_sum_but (ns := r) (c := c) (Nat.lt_of_succ_lt_succ hc) (fun i hi hic => h (i + 1) (Nat.succ_lt_succ hi) (by omega)) this
/-- a top-up by a kept share of a content whose bottom is a multiple of the whole: nothing to divide by -/
theorem pre_one {x : List Int} {a b : Int} {c : Nat} (h : Con x) (k : Kep a b) (hc : c < x.length) (hd : b ∣ x.sum) (hcop : Nat.gcd a.natAbs x.sum.natAbs = 1) : gcdN (pre x a b c) = 1 := by
  have hs := h.amt.pos
  have hb := k.g
  have hA := pre_amt h k hc
  generalize hg : gcdN (pre x a b c) = d
  have dd : ∀ i, i < x.length → (d : Int) ∣ x.getD i 0 * a + if i = c then (b - a) * x.sum else 0 := fun i hi => by
    rw [← getD_of (pre_get hi), ← hg]
    exact gcdN_dvd (getD_in (by rw [pre_len]; exact hi))
  have ds : (d : Int) ∣ b * x.sum := by
    rw [← pre_sum hc, ← hg, ← plain_sum hA]
    exact Int.dvd_mul_left _ _
  have dsN : d ∣ b.natAbs * x.sum.natAbs := by
    have := Int.natAbs_dvd_natAbs.mpr ds
    rw [Int.natAbs_mul, Int.natAbs_natCast] at this
    exact this
  have hab : Nat.gcd a.natAbs (b.natAbs * x.sum.natAbs) = 1 := Nat.Coprime.mul_right hb hcop
  have hda := cop_of hab dsN
  have hi : ∀ i, i < x.length → i ≠ c → (d : Int) ∣ x.getD i 0 := fun i hi hic => by
    have := dd i hi
    rw [if_neg hic, Int.add_zero] at this
    have := Int.natAbs_dvd_natAbs.mpr this
    rw [Int.natAbs_mul, Int.natAbs_natCast] at this
    have := Nat.Coprime.dvd_of_dvd_mul_right hda this
    exact Int.natAbs_dvd_natAbs.mp (by rw [Int.natAbs_natCast]; exact this)
  -- e divides all of x
  have he : Nat.gcd d x.sum.natAbs = 1 := by
    have e1 : ((Nat.gcd d x.sum.natAbs : Nat) : Int) ∣ x.sum := Int.natAbs_dvd_natAbs.mp (by rw [Int.natAbs_natCast]; exact Nat.gcd_dvd_right _ _)
    have e2 : ((Nat.gcd d x.sum.natAbs : Nat) : Int) ∣ (d : Int) := Int.natAbs_dvd_natAbs.mp (by rw [Int.natAbs_natCast, Int.natAbs_natCast]; exact Nat.gcd_dvd_left _ _)
    have e3 : ∀ i, i < x.length → ((Nat.gcd d x.sum.natAbs : Nat) : Int) ∣ x.getD i 0 := fun i hix => by
      by_cases hic : i = c
      · subst hic
        exact dvd_sum_but hix (fun m hm hmc => Int.dvd_trans e2 (hi m hm hmc)) e1
      · exact Int.dvd_trans e2 (hi i hix hic)
    have e4 : Nat.gcd d x.sum.natAbs ∣ gcdN x := dvd_gcdN.mpr fun n hn => by
      obtain ⟨i, hi, e⟩ := mem_at hn
      have := Int.natAbs_dvd_natAbs.mpr (e3 i hi)
      rw [Int.natAbs_natCast, e] at this
      exact this
    rw [h.g] at e4
    exact Nat.dvd_one.mp e4
  have hdb : d ∣ b.natAbs := Nat.Coprime.dvd_of_dvd_mul_right he dsN
  have hdS : d ∣ x.sum.natAbs := Nat.dvd_trans hdb (Int.natAbs_dvd_natAbs.mpr hd)
  have : d ∣ Nat.gcd d x.sum.natAbs := Nat.dvd_gcd (Nat.dvd_refl _) hdS
  rw [he] at this
  exact Nat.dvd_one.mp this
/-- what such a top-up tells -/
structure Reg (x : List Int) (a b : Int) : Prop where
  con : Con x
  ex : ∃ m : Nat, x.sum = b ^ (m + 1)
theorem cop_pow {a b : Int} (h : Nat.gcd a.natAbs b.natAbs = 1) : ∀ m : Nat, Nat.gcd a.natAbs (b ^ m).natAbs = 1
  | 0 => by rw [Int.pow_zero]; exact Nat.gcd_one_right _
  | m + 1 => by rw [Int.pow_succ, Int.natAbs_mul]; exact Nat.Coprime.mul_right (cop_pow h m) h
theorem single_of {p : Nat → Bool} {c n : Nat} (hc : c < n) (h : ∀ i, i < n → (p i = true ↔ i = c)) : (List.range n).filter p = [c] := by
  have e : (List.range n).filter p = (List.range n).filter fun i => (fun _ => true) i && decide (i = c) := by
    refine List.filter_congr fun i hi => ?_
    have := h i (List.mem_range.mp hi)
    by_cases hic : i = c
    · rw [this.mpr hic, hic, decide_eq_true rfl]
      rfl
    · rw [decide_eq_false hic]
      cases hp : p i with
      | false => rfl
      | true => exact absurd (this.mp hp) hic
  rw [e, range_single n hc]
  rfl
theorem mod_ne {a b S x : Int} (ha : 2 ≤ a) (h : Nat.gcd a.natAbs (b * S).natAbs = 1) : (x * a + (b - a) * S) % a ≠ 0 := fun z => by
  have h1 : a ∣ x * a + (b - a) * S := Int.dvd_of_emod_eq_zero z
  have h2 : a ∣ b * S := by
    have e : b * S = (x * a + (b - a) * S) - (x * a - a * S) := by rw [Int.sub_mul]; omega
    rw [e]
    exact Int.dvd_sub h1 (Int.dvd_sub (Int.dvd_mul_left _ _) (Int.dvd_mul_right _ _))
  have h3 := Nat.dvd_gcd (Nat.dvd_refl a.natAbs) (Int.natAbs_dvd_natAbs.mpr h2)
  rw [h] at h3
  have := Nat.dvd_one.mp h3
  omega
theorem two_le_sum {ns : List Int} (hn : ∀ n ∈ ns, 0 ≤ n) {i j : Nat} (hi : i < ns.length) (hj : j < ns.length) (hij : i ≠ j) : ns.getD i 0 + ns.getD j 0 ≤ ns.sum := by
    have e := sum_set 0 ns i hi
    have h1 : ∀ n ∈ ns.set i 0, 0 ≤ n := fun n hm => by
      rcases List.mem_or_eq_of_mem_set hm with z | z
      · exact hn n z
      · rw [z]; exact Int.le_refl _
    have h2 : (ns.set i 0).getD j 0 = ns.getD j 0 := by
      rw [List.getD_eq_getElem?_getD, List.getD_eq_getElem?_getD, List.getElem?_set_ne hij]
    have h3 := le_sum h1 (getD_in (ns := ns.set i 0) (i := j) (by rw [List.length_set]; exact hj))
    rw [h2] at h3
    omega
/-- the last liquid of a top-up is told -/
theorem step_last {x : List Int} {a b : Int} {c : Nat} (h : Con x) (k : Kep a b) (hc : c < x.length) (hg : gcdN (pre x a b c) = 1) (hcop : Nat.gcd a.natAbs x.sum.natAbs = 1) (hx : 2 ≤ a ∨ 3 ≤ b ∨ x.sum ≠ 1) : lastL (step x a b c) a b = some c := by
  have k1 := k.a1
  have k2 := k.ab
  have hs := h.amt.pos
  have eS : (step x a b c).sum = b * x.sum := by
    have := step_sum_g h k hc
    rw [hg] at this
    omega
  have eI : ∀ i, i < x.length → (step x a b c).getD i 0 = x.getD i 0 * a + if i = c then (b - a) * x.sum else 0 := fun i hi => by
    have := step_get (a := a) (b := b) (c := c) hi
    rw [hg] at this
    omega
  have hfit := fit_step h k hc
  have hl : (step x a b c).length = x.length := step_len _ _ _ _
  unfold lastL
  by_cases ha : 2 ≤ a
  · have hm : marked (step x a b c) a = [c] := by
      unfold marked
      refine single_of (by rw [hl]; exact hc) fun i hi => ?_
      rw [hl] at hi
      unfold mark
      rw [decide_eq_false (show ¬ a = 1 by omega), Bool.false_or, decide_eq_true_eq, eI i hi]
      constructor
      · intro z
        refine Classical.byContradiction fun hic => z ?_
        rw [if_neg hic, Int.add_zero]
        exact Int.mul_emod_left _ _
      · intro z
        subst z
        rw [if_pos rfl]
        refine mod_ne ha ?_
        rw [Int.natAbs_mul]
        exact Nat.Coprime.mul_right k.g hcop
    rw [hm, if_neg (by simp), List.filter_cons, if_pos hfit]
    rfl
  · have h1 : a = 1 := by omega
    subst h1
    have hm : marked (step x 1 b c) 1 = List.range x.length := by
      unfold marked
      rw [hl, List.filter_eq_self]
      intro i _
      rfl
    rw [hm, if_neg (by omega)]
    have e : (List.range x.length).filter (fit (step x 1 b c) 1 b) = [c] := by
      refine single_of hc fun i hi => ?_
      constructor
      · intro z
        refine Classical.byContradiction fun hic => ?_
        have z2 := of_decide_eq_true z
        rw [eI i hi, if_neg hic, eS, Int.add_zero, Int.mul_one] at z2
        have h0 := h.nn _ (getD_in hi)
        have hle := le_sum h.nn (getD_in hi)
        have z3 : (b - 1) * (b * x.sum) = (b - 1) * x.sum * b := by rw [Int.mul_comm b x.sum, Int.mul_assoc]
        rw [z3] at z2
        have z4 := Int.le_of_mul_le_mul_right z2 (by omega)
        -- (b - 1) * S ≤ x_i ≤ S
        by_cases hb : 3 ≤ b
        · have : 2 * x.sum ≤ (b - 1) * x.sum := Int.mul_le_mul_of_nonneg_right (by omega) (by omega)
          omega
        · have hb2 : b = 2 := by omega
          subst hb2
          have hS1 : x.sum ≠ 1 := by omega
          have z5 : x.getD i 0 = x.sum := by omega
          -- all others are 0, so the sum divides all
          have hz : ∀ j, j < x.length → j ≠ i → x.getD j 0 = 0 := fun j hj hji => by
            have := two_le_sum h.nn hi hj (fun z => hji z.symm)
            have := h.nn _ (getD_in hj)
            omega
          have hdv : x.sum.natAbs ∣ gcdN x := dvd_gcdN.mpr fun n hn => by
            obtain ⟨j, hj, ej⟩ := mem_at hn
            rw [← ej]
            by_cases hji : j = i
            · rw [hji, z5]; exact Nat.dvd_refl _
            · rw [hz j hj hji]
              exact Nat.dvd_zero _
          rw [h.g] at hdv
          have := Nat.dvd_one.mp hdv
          omega
      · intro z
        subst z
        exact hfit
    rw [e]
    rfl
theorem Reg.step {x : List Int} {a b : Int} {c : Nat} (R : Reg x a b) (k : Kep a b) (hc : c < x.length) : Reg (step x a b c) a b ∧ und (step x a b c) a b = (c :: (und x a b).1, (und x a b).2) := by
  have k1 := k.a1
  have k2 := k.ab
  have hb : 2 ≤ b := by omega
  obtain ⟨m, hm⟩ := R.ex
  have hd : b ∣ x.sum := by rw [hm, Int.pow_succ]; exact Int.dvd_mul_left _ _
  have hcop : Nat.gcd a.natAbs x.sum.natAbs = 1 := by rw [hm]; exact cop_pow k.g _
  have hg := pre_one R.con k hc hd hcop
  have eS : (Ma.step x a b c).sum = b ^ (m + 1 + 1) := by
    have := step_sum_g R.con k hc
    rw [hg, hm] at this
    rw [Int.pow_succ, Int.mul_comm]
    omega
  have hx1 : x.sum ≠ 1 := by
    have h1 := pow_pos' hb m
    have h2 := Int.mul_le_mul_of_nonneg_left hb (show 0 ≤ b ^ m by omega)
    rw [hm, Int.pow_succ]
    omega
  have hc2 := step_con R.con k hc
  refine ⟨⟨hc2, m + 1, eS⟩, ?_⟩
  have hlt := R.con.amt.pos
  have G : Goes (Ma.step x a b c) a b c := by
    refine ⟨?_, by rw [eS]; exact powB_pow hb _, step_last R.con k hc hg hcop (.inr (.inr hx1))⟩
    rw [eS, Int.pow_succ]
    have h1 := pow_pos' hb (m + 1)
    have h2 := Int.mul_le_mul_of_nonneg_left hb (show 0 ≤ b ^ (m + 1) by omega)
    omega
  rw [und_go k hc2 G, befo_step R.con k hc]
theorem Reg.walk {a b : Int} (k : Kep a b) : ∀ (cs : List Nat) {x : List Int}, Reg x a b → (∀ c ∈ cs, c < x.length) → und (cs.foldl (fun x c => Ma.step x a b c) x) a b = (cs.reverse ++ (und x a b).1, (und x a b).2) ∧ Reg (cs.foldl (fun x c => Ma.step x a b c) x) a b
  | [], x, R, _ => ⟨rfl, R⟩
  | c :: r, x, R, h => by
    obtain ⟨R1, e1⟩ := R.step k (h c List.mem_cons_self)
    obtain ⟨e2, R2⟩ := Reg.walk k r R1 fun d hd => by rw [step_len]; exact h d (List.mem_cons_of_mem _ hd)
    refine ⟨?_, R2⟩
    rw [List.foldl_cons, e2, e1, List.reverse_cons, List.append_assoc]
    rfl
end Ma
end

section
set_option Elab.async false
set_option linter.all false
set_option maxHeartbeats 1000000
namespace Ma
/-! undone and done again -/
theorem step_befo {x : List Int} {a b : Int} {c : Nat} (h : Con x) (k : Kep a b) (hc : c < x.length) (hf : fit x a b c = true) : step (befo x a b c) a b c = x := by
  have hA := bef_amt h k hc hf
  have hg := gcdN_pos hA
  have k1 := k.a1
  have k2 := k.ab
  have hy := befo_con h k hc hf
  have ly : (befo x a b c).length = x.length := befo_len _ _ _ _
  have e0 : ∀ i, i < x.length → (befo x a b c).getD i 0 * ((gcdN (bef x a b c) : Nat) : Int) = x.getD i 0 * b - if i = c then (b - a) * x.sum else 0 := fun i hi => by
    unfold befo plain
    rw [map_getD (by rw [bef_len]; exact hi)]
    have := plain_mul (getD_in (ns := bef x a b c) (i := i) (by rw [bef_len]; exact hi))
    rw [this, getD_of (bef_get hi)]
  have es : (befo x a b c).sum * ((gcdN (bef x a b c) : Nat) : Int) = a * x.sum := by
    have := plain_sum hA
    rw [bef_sum hc] at this
    exact this
  have e1 : (pre (befo x a b c) a b c).map (fun n => ((gcdN (bef x a b c) : Nat) : Int) * n) = x.map fun n => (a * b) * n := by
    refine list_ext (by simp [pre_len, befo_len]) fun i hi => ?_
    rw [List.length_map, pre_len, ly] at hi
    rw [map_getD (by rw [pre_len, ly]; exact hi), map_getD hi, getD_of (pre_get (by rw [ly]; exact hi)), Int.mul_add, ← Int.mul_assoc, Int.mul_comm _ ((befo x a b c).getD i 0), e0 i hi]
    by_cases hic : i = c
    · subst hic
      rw [if_pos rfl, if_pos rfl]
      have : ((gcdN (bef x a b i) : Nat) : Int) * ((b - a) * (befo x a b i).sum) = (b - a) * ((befo x a b i).sum * ((gcdN (bef x a b i) : Nat) : Int)) := by
        rw [Int.mul_comm, Int.mul_assoc]
      rw [this, es]
      have e5 : (b - a) * (a * x.sum) = (b - a) * x.sum * a := by rw [Int.mul_comm a x.sum, Int.mul_assoc]
      rw [e5, Int.sub_mul, Int.sub_add_cancel, Int.mul_comm (x.getD i 0) b, Int.mul_right_comm, Int.mul_comm b a]
    · rw [if_neg hic, if_neg hic, Int.mul_zero, Int.sub_zero, Int.add_zero, Int.mul_comm (x.getD i 0) b, Int.mul_right_comm, Int.mul_comm b a]
  have hgx : 0 < gcdN x := by rw [h.g]; decide
  have hab : 0 < a * b := Int.mul_pos (by omega) (by omega)
  have hp2 := gcdN_pos (pre_amt hy k (by rw [ly]; exact hc))
  have e3 := plain_scale (ns := pre (befo x a b c) a b c) (t := ((gcdN (bef x a b c) : Nat) : Int)) (by omega) hp2
  have e4 := plain_scale (ns := x) hab hgx
  unfold step
  rw [← e3, e1, e4, plain_of_one h.g]
theorem Un.redo {a b : Int} (k : Kep a b) {ns : List Int} {us : List Nat} {ms : List Int} (u : Un a b ns us ms) (h : Con ns) : us.reverse.foldl (fun x c => step x a b c) ms = ns := by
  induction u with
  | nil => rfl
  | go u G ih =>
    have hl := lastL_some G.la
    rw [List.reverse_append, List.reverse_singleton, List.singleton_append, List.foldl_cons, step_befo (u.con k h) k hl.1 hl.2]
    exact ih
/-! pure contents -/
def pur' (k i : Nat) : List Int := (List.replicate k 0).set i 1
theorem pur'_len (k i : Nat) : (pur' k i).length = k := by unfold pur'; simp
theorem pur'_get {k s i : Nat} (hi : i < k) : (pur' k s).getD i 0 = if i = s then 1 else 0 := by
  unfold pur'
  rw [List.getD_eq_getElem?_getD, List.getElem?_set]
  by_cases h : s = i
  · subst h
    rw [if_pos rfl, if_pos (by simpa using hi), if_pos rfl]
    rfl
  · rw [if_neg h, if_neg (fun z => h z.symm), List.getElem?_replicate, if_pos hi]
    rfl
theorem pur'_sum {k s : Nat} (h : s < k) : (pur' k s).sum = 1 := by
  unfold pur'
  rw [sum_set _ _ _ (by simpa using h)]
  have e : (List.replicate k (0 : Int)).sum = 0 := by
    clear h
    induction k with
    | zero => rfl
    | succ k ih => rw [List.replicate_succ, List.sum_cons, ih]; rfl
  have e2 : (List.replicate k (0 : Int)).getD s 0 = 0 := by rw [List.getD_eq_getElem?_getD, List.getElem?_replicate, if_pos h]; rfl
  rw [e, e2]
  rfl
theorem pur'_con {k s : Nat} (h : s < k) (h8 : k ≤ 8) : Con (pur' k s) := by
  refine ⟨by rw [pur'_len]; omega, by rw [pur'_len]; exact h8, fun n hn => ?_, ?_⟩
  · obtain ⟨i, hi, e⟩ := mem_at hn
    rw [pur'_len] at hi
    rw [← e, pur'_get hi]
    split <;> decide
  · have h1 : gcdN (pur' k s) ∣ 1 := by
      have := gcdN_dvd (getD_in (ns := pur' k s) (i := s) (by rw [pur'_len]; exact h))
      rw [pur'_get h, if_pos rfl] at this
      have := Int.natAbs_dvd_natAbs.mpr this
      rw [Int.natAbs_natCast] at this
      exact this
    exact Nat.dvd_one.mp h1
theorem pure_is {L : List Int} (h : Con L) (h1 : L.sum = 1) : L = pur' L.length (startOf L) := by
  obtain ⟨i1, i2⟩ := start_at h.nn h1
  refine list_ext (by rw [pur'_len]) fun i hi => ?_
  rw [pur'_get hi]
  by_cases hs : i = startOf L
  · rw [if_pos hs, hs]
    exact getD_of i2
  · rw [if_neg hs]
    have := two_le_sum h.nn hi i1 hs
    rw [getD_of i2] at this
    have := h.nn _ (getD_in hi)
    omega
theorem start_pur {k s : Nat} (h : s < k) (h8 : k ≤ 8) : startOf (pur' k s) = s := by
  have hc := pur'_con h h8
  obtain ⟨i1, i2⟩ := start_at hc.nn (pur'_sum h)
  rw [pur'_len] at i1
  have := getD_of i2
  rw [pur'_get i1] at this
  split at this
  · assumption
  · cases this
theorem pre_pur {k s c : Nat} {a b : Int} (kp : Kep a b) (hs : s < k) (hc : c < k) (hsc : c ≠ s) (h8 : k ≤ 8) : gcdN (pre (pur' k s) a b c) = 1 := by
  generalize hg : gcdN (pre (pur' k s) a b c) = d
  have dd : ∀ i, i < k → (d : Int) ∣ (pur' k s).getD i 0 * a + if i = c then (b - a) * (pur' k s).sum else 0 := fun i hi => by
    have hi' : i < (pur' k s).length := by rw [pur'_len]; exact hi
    rw [← getD_of (pre_get (a := a) (b := b) (c := c) hi'), ← hg]
    exact gcdN_dvd (getD_in (by rw [pre_len]; exact hi'))
  have d1 := dd s hs
  rw [pur'_get hs, if_pos rfl, if_neg (fun z => hsc z.symm), Int.one_mul, Int.add_zero] at d1
  have d2 := dd c hc
  rw [pur'_get hc, if_neg hsc, if_pos rfl, pur'_sum hs, Int.zero_mul, Int.zero_add, Int.mul_one] at d2
  have d3 : (d : Int) ∣ b := by
    have := Int.dvd_add d2 d1
    rw [Int.sub_add_cancel] at this
    exact this
  have n1 := Int.natAbs_dvd_natAbs.mpr d1
  have n3 := Int.natAbs_dvd_natAbs.mpr d3
  rw [Int.natAbs_natCast] at n1 n3
  have := Nat.dvd_gcd n1 n3
  rw [kp.g] at this
  exact Nat.dvd_one.mp this
theorem last_filter {p : Nat → Bool} {m : Nat} : ∀ n, m < n → p m = true → (∀ i, m < i → i < n → p i = false) → ((List.range n).filter p).getLast? = some m
  | 0, h, _, _ => by omega
  | n + 1, h, hp, hz => by
    rw [List.range_succ, List.filter_append]
    by_cases e : m = n
    · subst e
      rw [List.filter_cons, if_pos hp, List.filter_nil, List.getLast?_append]
      rfl
    · rw [List.filter_cons, hz n (by omega) (by omega)]
      have := last_filter n (by omega) hp fun i h1 h2 => hz i h1 (by omega)
      simpa using this
theorem half_step {k s c : Nat} (hs : s < k) (hc : c < k) (hsc : c ≠ s) (h8 : k ≤ 8) : step (pur' k s) 1 2 c = (pur' k s).set c 1 := by
  have kp : Kep 1 2 := ⟨by decide, by decide, by decide, by decide⟩
  unfold step
  rw [plain_of_one (pre_pur kp hs hc hsc h8)]
  unfold pre
  rw [pur'_get hc, if_neg hsc, pur'_sum hs]
  have : (pur' k s).map (fun n => n * 1) = pur' k s := by
    have : (fun n : Int => n * 1) = id := by funext n; exact Int.mul_one n
    rw [this, List.map_id]
  rw [this]
  rfl
theorem half_swap {k s c : Nat} (hs : s < k) (hc : c < k) (hsc : c ≠ s) (h8 : k ≤ 8) : step (pur' k s) 1 2 c = step (pur' k c) 1 2 s := by
  rw [half_step hs hc hsc h8, half_step hc hs (fun z => hsc z.symm) h8]
  unfold pur'
  rw [List.set_comm _ _ (fun z => hsc z.symm)]
/-- what is undone of the first top-up of a pure pot -/
theorem und_first {k s c : Nat} {a b : Int} (kp : Kep a b) (hs : s < k) (hc : c < k) (hsc : c ≠ s) (h8 : k ≤ 8) :
    Reg (step (pur' k s) a b c) a b ∧ und (step (pur' k s) a b c) a b = if a = 1 ∧ b = 2 then ([max s c], pur' k (min s c)) else ([c], pur' k s) := by
  have k1 := kp.a1
  have k2 := kp.ab
  have hb : 2 ≤ b := by omega
  have hp := pur'_con hs h8
  have hcl : c < (pur' k s).length := by rw [pur'_len]; exact hc
  have hg := pre_pur kp hs hc hsc h8
  have eS : (step (pur' k s) a b c).sum = b := by
    have := step_sum_g hp kp hcl
    rw [hg, pur'_sum hs] at this
    omega
  have hc2 := step_con hp kp hcl
  refine ⟨⟨hc2, 0, by rw [eS, Int.pow_succ, Int.pow_zero, Int.one_mul]⟩, ?_⟩
  have pw : powB b (step (pur' k s) a b c).sum = true := by
    have := powB_pow hb 1
    rw [Int.pow_succ, Int.pow_zero, Int.one_mul] at this
    rw [eS]; exact this
  by_cases hh : a = 1 ∧ b = 2
  · rw [if_pos hh]
    obtain ⟨rfl, rfl⟩ := hh
    have key : ∀ {u v : Nat}, u < k → v < k → u < v → und (step (pur' k u) 1 2 v) 1 2 = ([v], pur' k u) := fun {u v} hu hv huv => by
      have hpu := pur'_con hu h8
      have hvl : v < (pur' k u).length := by rw [pur'_len]; exact hv
      have hgu := pre_pur kp hu hv (by omega) h8
      have eSu : (step (pur' k u) 1 2 v).sum = 2 := by
        have := step_sum_g hpu kp hvl
        rw [hgu, pur'_sum hu] at this
        omega
      have hcu := step_con hpu kp hvl
      have lk : (step (pur' k u) 1 2 v).length = k := by rw [step_len, pur'_len]
      have la : lastL (step (pur' k u) 1 2 v) 1 2 = some v := by
        unfold lastL
        rw [if_neg (by omega)]
        have hm : marked (step (pur' k u) 1 2 v) 1 = List.range k := by
          unfold marked
          rw [lk, List.filter_eq_self]
          intro i _
          rfl
        rw [hm]
        have gi : ∀ i, i < k → (step (pur' k u) 1 2 v).getD i 0 = if i = v then 1 else if i = u then 1 else 0 := fun i hi => by
          rw [half_step hu hv (by omega) h8, List.getD_eq_getElem?_getD, List.getElem?_set]
          by_cases h : v = i
          · rw [if_pos h, if_pos (by rw [pur'_len]; exact hv), if_pos h.symm]; rfl
          · rw [if_neg h, if_neg (fun z => h z.symm), ← List.getD_eq_getElem?_getD, pur'_get hi]
        refine last_filter k hv ?_ fun i h1 h2 => ?_
        · unfold fit
          rw [gi v hv, if_pos rfl, eSu]
          decide
        · unfold fit
          rw [gi i h2, if_neg (by omega), if_neg (by omega), eSu]
          decide
      rw [und_go kp hcu ⟨by rw [eSu]; decide, by rw [eSu]; decide, la⟩, befo_step hpu kp hvl, und_pure hpu (pur'_sum hu)]
    rcases Nat.lt_or_ge s c with z | z
    · rw [Nat.max_eq_right (by omega), Nat.min_eq_left (by omega)]
      exact key hs hc z
    · rw [Nat.max_eq_left (by omega), Nat.min_eq_right (by omega), half_swap hs hc hsc h8]
      exact key hc hs (by omega)
  · rw [if_neg hh]
    have la := step_last hp kp hcl hg (by rw [pur'_sum hs]; exact Nat.gcd_one_right _) (by
      by_cases h2 : 2 ≤ a
      · exact .inl h2
      · exact .inr (.inl (by
          have : a = 1 := by omega
          have : b ≠ 2 := fun z => hh ⟨this, z⟩
          omega)))
    rw [und_go kp hc2 ⟨by rw [eS]; omega, pw, la⟩, befo_step hp kp hcl, und_pure hp (pur'_sum hs)]
/-- the row of a short history, told back -/
theorem und_short {k s c : Nat} {a b : Int} {r : List Nat} (kp : Kep a b) (hs : s < k) (h8 : k ≤ 8) (hsc : c ≠ s) (hr : ∀ d ∈ c :: r, d < k) :
    und ((c :: r).foldl (fun x c => step x a b c) (pur' k s)) a b = if a = 1 ∧ b = 2 then (r.reverse ++ [max s c], pur' k (min s c)) else ((c :: r).reverse, pur' k s) := by
  have hc := hr c List.mem_cons_self
  obtain ⟨R, e⟩ := und_first kp hs hc hsc h8
  have e2 := (Reg.walk kp r R fun d hd => by rw [step_len, pur'_len]; exact hr d (List.mem_cons_of_mem _ hd)).1
  rw [List.foldl_cons, e2, e]
  split
  · rfl
  · rw [List.reverse_cons]
/-- all short histories of a content behind a short history -/
theorem shorts_of {k s c : Nat} {a b : Int} {r : List Nat} (kp : Kep a b) (hs : s < k) (h8 : k ≤ 8) (hsc : c ≠ s) (hr : ∀ d ∈ c :: r, d < k) :
    shorts ((c :: r).foldl (fun x c => step x a b c) (pur' k s)) a b = if a = 1 ∧ b = 2 then [(min s c, max s c :: r), (max s c, min s c :: r)] else [(s, c :: r)] := by
  have hc := hr c List.mem_cons_self
  unfold shorts
  rw [und_short kp hs h8 hsc hr]
  by_cases hh : a = 1 ∧ b = 2
  · rw [if_pos hh, if_pos (pur'_sum (by omega)), start_pur (by omega) h8, List.reverse_append, List.reverse_reverse, if_pos hh]
    unfold shortsOf
    rw [if_pos hh]
    rfl
  · rw [if_neg hh, if_pos (pur'_sum hs), start_pur hs h8, List.reverse_reverse, if_neg hh]
    unfold shortsOf
    rw [if_neg hh]
theorem shorts_pur {k s : Nat} {a b : Int} (hs : s < k) (h8 : k ≤ 8) : shorts (pur' k s) a b = [(s, [])] := by
  unfold shorts
  rw [und_pure (pur'_con hs h8) (pur'_sum hs), if_pos (pur'_sum hs), start_pur hs h8]
  unfold shortsOf
  split <;> rfl
/-- each short history that is told leads there -/
theorem shorts_lead {ns : List Int} {a b : Int} (kp : Kep a b) (h : Con ns) : ∀ x ∈ shorts ns a b, x.1 < ns.length ∧ x.2.foldl (fun x c => step x a b c) (pur' ns.length x.1) = ns := by
  intro x hx
  have hl := (shorts_liq kp h x hx).1
  refine ⟨hl, ?_⟩
  unfold shorts at hx
  split at hx
  · rename_i h1
    have u := und_un' kp h
    have cL := und_con kp h
    have lL := und_len kp h
    have rd := u.redo kp h
    have eL := pure_is cL h1
    have hs := (start_at cL.nn h1).1
    have hlq := und_liq kp h
    rw [lL] at eL hs
    generalize (und ns a b).2 = L at *
    generalize (und ns a b).1 = U at *
    have hr : ∀ d ∈ U.reverse, d < ns.length := fun d hd => hlq d (List.mem_reverse.mp hd)
    generalize hrow : U.reverse = row at *
    generalize startOf L = s at *
    rw [eL] at rd
    unfold shortsOf at hx
    split at hx
    · rename_i hh
      obtain ⟨rfl, rfl⟩ := hh
      cases row with
      | nil =>
        rw [List.mem_singleton.mp hx]
        exact rd
      | cons c r =>
        rcases List.mem_cons.mp hx with z | z
        · rw [z]; exact rd
        · rw [List.mem_singleton.mp z]
          show (s :: r).foldl _ (pur' ns.length c) = ns
          rw [List.foldl_cons] at rd ⊢
          by_cases hcs : c = s
          · rw [hcs] at rd ⊢
            exact rd
          · rw [← half_swap hs (hr c List.mem_cons_self) hcs h.le8]
            exact rd
    · rw [List.mem_singleton.mp hx]
      exact rd
  · cases hx
end Ma
end

section
set_option Elab.async false
set_option linter.all false
set_option maxHeartbeats 1000000
namespace Ma
/-! uses of one liquid -/
def b2n (u : Bool) : Nat := if u then 1 else 0
def rowU (us : List Bool) : List Nat := us.map b2n
def foldS (x : List Int) (a b : Int) (cs : List Nat) : List Int := cs.foldl (fun x c => step x a b c) x
/-- the law's numbers -/
def ledP (a b : Int) : List Bool → Int × Int → Int × Int
  | [], q => q
  | u :: r, q => ledP a b r (a * q.1 + (b2n u : Nat) * ((b - a) * q.2), q.2 * b)
theorem ledP_app (a b : Int) (u : Bool) : ∀ (us : List Bool) (q : Int × Int), ledP a b (us ++ [u]) q = (a * (ledP a b us q).1 + (b2n u : Nat) * ((b - a) * (ledP a b us q).2), (ledP a b us q).2 * b)
  | [], _ => rfl
  | v :: r, q => ledP_app a b u r _
structure Led (a b : Int) (q : Int × Int) : Prop where
  t0 : 0 ≤ q.1
  tb : q.1 ≤ q.2
  b1 : 1 ≤ q.2
theorem Led.next {a b : Int} {q : Int × Int} (k : Kep a b) (L : Led a b q) (u : Bool) : Led a b (a * q.1 + (b2n u : Nat) * ((b - a) * q.2), q.2 * b) := by
  have k1 := k.a1
  have k2 := k.ab
  have t0 := L.t0
  have tb := L.tb
  have b1 := L.b1
  have m1 : 0 ≤ a * q.1 := Int.mul_nonneg (by omega) t0
  have m2 : a * q.1 ≤ a * q.2 := Int.mul_le_mul_of_nonneg_left tb (by omega)
  have m3 : 0 ≤ (b - a) * q.2 := Int.mul_nonneg (by omega) (by omega)
  have m4 : a * q.2 + (b - a) * q.2 = q.2 * b := by rw [← Int.add_mul, Int.mul_comm q.2 b]; congr 1; omega
  have m5 : q.2 * 1 ≤ q.2 * b := Int.mul_le_mul_of_nonneg_left (by omega) (by omega)
  cases u with
  | false =>
    show Led a b (a * q.1 + 0 * _, _)
    rw [Int.zero_mul, Int.add_zero]
    exact ⟨m1, by show a * q.1 ≤ q.2 * b; omega, by show 1 ≤ q.2 * b; omega⟩
  | true =>
    show Led a b (a * q.1 + 1 * _, _)
    rw [Int.one_mul]
    exact ⟨by show 0 ≤ a * q.1 + (b - a) * q.2; omega, by show a * q.1 + (b - a) * q.2 ≤ q.2 * b; omega, by show 1 ≤ q.2 * b; omega⟩
theorem ledP_led {a b : Int} (k : Kep a b) : ∀ (us : List Bool) (q : Int × Int), Led a b q → Led a b (ledP a b us q)
  | [], _, L => L
  | u :: r, q, L => ledP_led k r _ (L.next k u)
theorem ledP_bot (a b : Int) : ∀ (us : List Bool) (q : Int × Int), (ledP a b us q).2 = q.2 * b ^ us.length
  | [], q => by rw [List.length_nil, Int.pow_zero, Int.mul_one]; rfl
  | u :: r, q => by
    show (ledP a b r _).2 = _
    rw [ledP_bot a b r, List.length_cons, Int.pow_succ, Int.mul_assoc, Int.mul_comm b]
def two2 (q : Int × Int) : List Int := [q.2 - q.1, q.1]
theorem two2_amt {a b : Int} {q : Int × Int} (L : Led a b q) : Amt (two2 q) := by
  have := L.t0
  have := L.tb
  have := L.b1
  refine ⟨fun n hn => ?_, ?_⟩
  · rcases List.mem_cons.mp hn with z | z
    · omega
    · rw [List.mem_singleton.mp z]; exact L.t0
  · show 0 < (q.2 - q.1) + (q.1 + 0)
    omega
theorem two2_con {a b : Int} {q : Int × Int} (L : Led a b q) : Con (plain (two2 q)) := plain_con (two2_amt L) (by show 0 < 2; decide) (by show 2 ≤ 8; decide)
theorem pre_two2 (a b : Int) (q : Int × Int) (u : Bool) : pre (two2 q) a b (b2n u) = two2 (a * q.1 + (b2n u : Nat) * ((b - a) * q.2), q.2 * b) := by
  have hs : (two2 q).sum = q.2 := by show (q.2 - q.1) + (q.1 + 0) = q.2; omega
  cases u with
  | false =>
    show [(q.2 - q.1) * a + (b - a) * (two2 q).sum, q.1 * a] = [q.2 * b - (a * q.1 + 0 * _), a * q.1 + 0 * _]
    rw [hs, Int.zero_mul, Int.add_zero, Int.mul_comm q.1 a, Int.sub_mul, Int.sub_mul, Int.mul_comm q.1 a, Int.mul_comm q.2 a, Int.mul_comm q.2 b]
    congr 1
    omega
  | true =>
    show [(q.2 - q.1) * a, q.1 * a + (b - a) * (two2 q).sum] = [q.2 * b - (a * q.1 + 1 * _), a * q.1 + 1 * _]
    rw [hs, Int.one_mul, Int.mul_comm q.1 a, Int.sub_mul, Int.sub_mul, Int.mul_comm q.1 a, Int.mul_comm q.2 a, Int.mul_comm q.2 b]
    congr 1
    omega
theorem pre_plain {x : List Int} {a b : Int} {c : Nat} (h : Amt x) (hc : c < x.length) : (pre (plain x) a b c).map (fun n => ((gcdN x : Nat) : Int) * n) = pre x a b c := by
  refine list_ext (by simp [pre_len, plain_len]) fun i hi => ?_
  rw [List.length_map, pre_len, plain_len] at hi
  have e : ∀ j, j < x.length → (plain x).getD j 0 * ((gcdN x : Nat) : Int) = x.getD j 0 := fun j hj => by
    unfold plain
    rw [map_getD hj]
    exact plain_mul (getD_in hj)
  rw [map_getD (by rw [pre_len, plain_len]; exact hi), getD_of (pre_get (by rw [plain_len]; exact hi)), getD_of (pre_get hi), Int.mul_add, ← Int.mul_assoc, Int.mul_comm _ ((plain x).getD i 0), e i hi]
  congr 1
  split
  · rw [Int.mul_comm, Int.mul_assoc, plain_sum h]
  · rw [Int.mul_zero]
theorem step_plain {x : List Int} {a b : Int} {c : Nat} (h : Amt x) (hx : Con (plain x)) (k : Kep a b) (hc : c < x.length) : step (plain x) a b c = plain (pre x a b c) := by
  have e := pre_plain (a := a) (b := b) h hc
  have hg := gcdN_pos h
  have hp := gcdN_pos (pre_amt hx k (c := c) (by rw [plain_len]; exact hc))
  unfold step
  rw [← e, plain_scale (by omega) hp]
theorem foldS_led {a b : Int} (k : Kep a b) : ∀ (us : List Bool) (q : Int × Int), Led a b q → foldS (plain (two2 q)) a b (rowU us) = plain (two2 (ledP a b us q))
  | [], _, _ => rfl
  | u :: r, q, L => by
    show foldS (step (plain (two2 q)) a b (b2n u)) a b (rowU r) = _
    rw [step_plain (two2_amt L) (two2_con L) k (by cases u <;> (show _ < 2; decide)), pre_two2]
    exact foldS_led k r _ (L.next k u)
/-- a fraction without a common divisor -/
def frz (q : Int × Int) : Int × Int := (q.1 / ((Nat.gcd q.1.natAbs q.2.natAbs : Nat) : Int), q.2 / ((Nat.gcd q.1.natAbs q.2.natAbs : Nat) : Int))
theorem gcd_two2 {a b : Int} {q : Int × Int} (L : Led a b q) : gcdN (two2 q) = Nat.gcd q.1.natAbs q.2.natAbs := by
  have t0 := L.t0
  have tb := L.tb
  show Nat.gcd (Nat.gcd 0 (q.2 - q.1).natAbs) q.1.natAbs = _
  rw [Nat.gcd_zero_left, Nat.gcd_comm q.1.natAbs]
  have e : q.2.natAbs = (q.2 - q.1).natAbs + q.1.natAbs := by omega
  rw [e, Nat.gcd_add_self_left]
theorem plain_two2 {a b : Int} {q : Int × Int} (L : Led a b q) : plain (two2 q) = two2 (frz q) := by
  unfold plain
  rw [gcd_two2 L]
  show [(q.2 - q.1) / _, q.1 / _] = [q.2 / _ - q.1 / _, q.1 / _]
  have h1 : ((Nat.gcd q.1.natAbs q.2.natAbs : Nat) : Int) ∣ q.1 := Int.natAbs_dvd_natAbs.mp (by rw [Int.natAbs_natCast]; exact Nat.gcd_dvd_left _ _)
  rw [Int.sub_ediv_of_dvd _ h1]
theorem two2_inj {p q : Int × Int} (h : two2 p = two2 q) : p = q := by
  have h1 : p.1 = q.1 := by injection h with _ h; injection h
  have h2 : p.2 - p.1 = q.2 - q.1 := by injection h
  ext
  · exact h1
  · show p.2 = q.2
    omega
/-- the fraction behind uses -/
def ledF (a b : Int) (us : List Bool) : Int × Int := frz (ledP a b us (0, 1))
theorem led0 (a b : Int) : Led a b (0, 1) := ⟨by decide, by decide, by decide⟩
theorem plain01 : plain (two2 (0, 1)) = [1, 0] := by decide
theorem foldS_uses {a b : Int} (k : Kep a b) (us : List Bool) : foldS [1, 0] a b (rowU us) = two2 (ledF a b us) := by
  have := foldS_led k us (0, 1) (led0 a b)
  rw [plain01, plain_two2 (ledP_led k us _ (led0 a b))] at this
  exact this
theorem pur20 : pur' 2 0 = [1, 0] := rfl
/-- what is told -/
def usesL (x : List Int) (a b : Int) (n : Nat) : Option (List Bool) := ((hofl x a b n).find? fun h => h.1 == 0).map fun h => h.2.map fun c => c == 1
theorem step10 {a b : Int} (k : Kep a b) : step [1, 0] a b 0 = [1, 0] := by
  have h := foldS_uses k [false]
  have e : ledF a b [false] = (0, 1) := by
    show frz (a * 0 + 0 * ((b - a) * 1), 1 * b) = (0, 1)
    rw [Int.mul_zero, Int.zero_mul, Int.add_zero, Int.one_mul]
    have k1 := k.a1
    have k2 := k.ab
    unfold frz
    have e2 : Nat.gcd (0 : Int).natAbs b.natAbs = b.natAbs := by show Nat.gcd 0 _ = _; rw [Nat.gcd_zero_left]
    rw [e2, Int.natAbs_of_nonneg (by omega), Int.ediv_self (by omega), Int.zero_ediv]
  rw [e] at h
  exact h
theorem strip (us : List Bool) : ∃ p ds, us = List.replicate p false ++ ds ∧ (ds = [] ∨ ∃ r, ds = true :: r) := by
  induction us with
  | nil => exact ⟨0, [], rfl, .inl rfl⟩
  | cons u r ih =>
    cases u with
    | true => exact ⟨0, true :: r, rfl, .inr ⟨r, rfl⟩⟩
    | false =>
      obtain ⟨p, ds, e, h⟩ := ih
      exact ⟨p + 1, ds, by rw [List.replicate_succ, List.cons_append, ← e], h⟩
theorem foldS_zero {a b : Int} (k : Kep a b) : ∀ p, foldS [1, 0] a b (List.replicate p 0) = [1, 0]
  | 0 => rfl
  | p + 1 => by
    show foldS (step [1, 0] a b 0) a b (List.replicate p 0) = _
    rw [step10 k]
    exact foldS_zero k p
theorem rowU_lt (us : List Bool) : ∀ c ∈ rowU us, c < 2 := fun c hc => by
  obtain ⟨u, _, rfl⟩ := List.mem_map.mp hc
  cases u <;> decide
theorem rowU_back (us : List Bool) : (rowU us).map (fun c => c == 1) = us := by
  unfold rowU
  rw [List.map_map]
  have : ((fun c => c == 1) ∘ b2n) = id := by funext u; cases u <;> rfl
  rw [this, List.map_id]
/-- the uses that were gone are told, with as many more ahead as there is room for -/
theorem uses_told {a b : Int} (k : Kep a b) (us : List Bool) {n : Nat} (hn : us.length ≤ n) : usesL (two2 (ledF a b us)) a b n = some (List.replicate (n - us.length) false ++ us) := by
  obtain ⟨p, ds, rfl, hd⟩ := strip us
  rw [← foldS_uses k]
  have e1 : rowU (List.replicate p false ++ ds) = List.replicate p 0 ++ rowU ds := by unfold rowU; rw [List.map_append, List.map_replicate]; rfl
  have e2 : foldS [1, 0] a b (rowU (List.replicate p false ++ ds)) = foldS (pur' 2 0) a b (rowU ds) := by
    rw [e1]
    unfold foldS
    rw [List.foldl_append]
    have := foldS_zero k p
    unfold foldS at this
    rw [this]
    rfl
  rw [e2]
  rw [List.length_append, List.length_replicate] at hn
  have fin : ∀ (hs : List (Nat × List Nat)), shorts (foldS (pur' 2 0) a b (rowU ds)) a b = (0, rowU ds) :: hs → usesL (foldS (pur' 2 0) a b (rowU ds)) a b n = some (List.replicate (n - (List.replicate p false ++ ds).length) false ++ (List.replicate p false ++ ds)) := fun hs e => by
    unfold usesL hofl
    have hp : pad n (0, rowU ds) = some (0, List.replicate (n - ds.length) 0 ++ rowU ds) := by
      unfold pad
      have hl : (rowU ds).length = ds.length := List.length_map _
      show (if (rowU ds).length ≤ n then _ else _) = _
      rw [if_pos (by omega), hl]
    rw [e, List.filterMap_cons, hp]
    show Option.map _ (List.find? _ ((0, _) :: _)) = _
    rw [List.find?_cons_of_pos (by rfl)]
    show some ((List.replicate (n - ds.length) 0 ++ rowU ds).map fun c => c == 1) = _
    rw [List.map_append, rowU_back, List.map_replicate, List.length_append, List.length_replicate, ← List.append_assoc, List.replicate_append_replicate]
    congr 3
    omega
  rcases hd with rfl | ⟨r, rfl⟩
  · exact fin [] (shorts_pur (by decide) (by decide))
  · have hs := shorts_of (k := 2) (s := 0) (c := 1) (r := rowU r) k (by decide) (by decide) (by decide) (fun d hd => rowU_lt (true :: r) d hd)
    have e3 : foldS (pur' 2 0) a b (rowU (true :: r)) = (1 :: rowU r).foldl (fun x c => step x a b c) (pur' 2 0) := rfl
    rw [← e3] at hs
    split at hs
    · exact fin [(1, 0 :: rowU r)] hs
    · exact fin [] hs
theorem uses_same {a b : Int} (k : Kep a b) (us : List Bool) : usesL (two2 (ledF a b us)) a b us.length = some us := by
  rw [uses_told k us (Nat.le_refl _), Nat.sub_self]
  rfl
/-- uses that are told lead there -/
theorem uses_lead {q : Int × Int} {a b : Int} {n : Nat} {us : List Bool} (k : Kep a b) (h : Con (two2 q)) (e : usesL (two2 q) a b n = some us) : us.length = n ∧ ledF a b us = q := by
  unfold usesL at e
  cases hf : (hofl (two2 q) a b n).find? (fun h => h.1 == 0) with
  | none => rw [hf] at e; cases e
  | some x =>
    rw [hf] at e
    have e : x.2.map (fun c => c == 1) = us := Option.some.inj e
    have h0 : x.1 = 0 := by have := List.find?_some hf; exact eq_of_beq this
    have hm := List.mem_of_find?_eq_some hf
    unfold hofl at hm
    obtain ⟨y, hy, hp⟩ := List.mem_filterMap.mp hm
    unfold pad at hp
    split at hp
    · rename_i hle
      have hx := (Option.some.inj hp).symm
      obtain ⟨l1, l2⟩ := shorts_lead k h y hy
      have lq := (shorts_liq k h y hy).2
      have hy0 : y.1 = 0 := by rw [hx] at h0; exact h0
      have l2' : foldS [1, 0] a b y.2 = two2 q := by
        rw [hy0] at l2
        exact l2
      have lx : x.2 = List.replicate (n - y.2.length) 0 ++ y.2 := by rw [hx, hy0]
      have back : ∀ cs : List Nat, (∀ c ∈ cs, c < 2) → rowU (cs.map fun c => c == 1) = cs := fun cs hc => by
        unfold rowU
        rw [List.map_map]
        induction cs with
        | nil => rfl
        | cons c r ih =>
          rw [List.map_cons, ih fun d hd => hc d (List.mem_cons_of_mem _ hd)]
          have := hc c List.mem_cons_self
          have : c = 0 ∨ c = 1 := by omega
          rcases this with rfl | rfl <;> rfl
      have hx2 : ∀ c ∈ x.2, c < 2 := fun c hc => by
        rw [lx] at hc
        rcases List.mem_append.mp hc with z | z
        · rw [(List.mem_replicate.mp z).2]; decide
        · exact lq c z
      refine ⟨?_, two2_inj ?_⟩
      · rw [← e, List.length_map, lx, List.length_append, List.length_replicate]
        omega
      · rw [← foldS_uses k, ← e, back _ hx2, lx]
        unfold foldS
        rw [List.foldl_append]
        have := foldS_zero k (n - y.2.length)
        unfold foldS at this
        rw [this]
        exact l2'
    · cases hp
end Ma
end

section
set_option Elab.async false
set_option linter.all false
set_option maxHeartbeats 1000000
/-! The limit of a row: the content that the row leads back to. -/
namespace Ma
theorem plain_prop {xs ys : List Int} {p q : Int} (hx : Amt xs) (hy : Amt ys) (hp : 0 < p) (hq : 0 < q) (h : (xs.map fun n => p * n) = ys.map fun n => q * n) : plain xs = plain ys := by
  rw [← plain_scale hp (gcdN_pos hx), h, plain_scale hq (gcdN_pos hy)]
/-- the numbers behind i liquids of a row, undivided -/
def lu (k : Nat) (a b : Int) (cs : List Nat) : Nat → List Int
  | 0 => List.replicate k 0
  | i + 1 => ((lu k a b cs i).map fun n => n * a).set (cs.getD i 0) ((lu k a b cs i).getD (cs.getD i 0) 0 * a + b ^ i)
def lim (k : Nat) (a b : Int) (cs : List Nat) : List Int := plain (lu k a b cs cs.length)
theorem lu_len (k : Nat) (a b : Int) (cs : List Nat) : ∀ i, (lu k a b cs i).length = k
  | 0 => List.length_replicate
  | i + 1 => by
    unfold lu
    rw [List.length_set, List.length_map, lu_len k a b cs i]
theorem lu_get {k : Nat} {a b : Int} {cs : List Nat} {i s : Nat} (hs : s < k) : (lu k a b cs (i + 1)).getD s 0 = (lu k a b cs i).getD s 0 * a + if s = cs.getD i 0 then b ^ i else 0 := by
  have hl := lu_len k a b cs i
  show (((lu k a b cs i).map fun n => n * a).set (cs.getD i 0) ((lu k a b cs i).getD (cs.getD i 0) 0 * a + b ^ i)).getD s 0 = _
  rw [List.getD_eq_getElem?_getD, List.getElem?_set]
  by_cases h : cs.getD i 0 = s
  · rw [if_pos h, if_pos h.symm, if_pos (by rw [List.length_map, hl, h]; exact hs), h]
    rfl
  · rw [if_neg h, if_neg (fun z => h z.symm), List.getElem?_map, List.getD_eq_getElem?_getD, List.getElem?_eq_getElem (by rw [hl]; exact hs)]
    show _ * a = _ * a + 0
    rw [Int.add_zero]
    rfl
theorem lu_nn {k : Nat} {a b : Int} {cs : List Nat} (ha : 0 ≤ a) (hb : 0 ≤ b) : ∀ i, ∀ n ∈ lu k a b cs i, 0 ≤ n
  | 0 => fun n hn => by rw [(List.mem_replicate.mp hn).2]; exact Int.le_refl 0
  | i + 1 => fun n hn => by
    obtain ⟨s, hs, e⟩ := mem_at hn
    rw [lu_len] at hs
    rw [← e, lu_get hs]
    have h1 : 0 ≤ (lu k a b cs i).getD s 0 := lu_nn ha hb i _ (getD_in (by rw [lu_len]; exact hs))
    have h2 := Int.mul_nonneg h1 ha
    have h3 : 0 ≤ b ^ i := Int.pow_nonneg hb
    split <;> omega
theorem sum_rep0 : ∀ k : Nat, (List.replicate k (0 : Int)).sum = 0
  | 0 => rfl
  | k + 1 => by rw [List.replicate_succ, List.sum_cons, sum_rep0 k]; rfl
theorem lu_sum {k : Nat} {a b : Int} {cs : List Nat} {i : Nat} (h : cs.getD i 0 < k) : (lu k a b cs (i + 1)).sum = (lu k a b cs i).sum * a + b ^ i := by
  have hl := lu_len k a b cs i
  show (((lu k a b cs i).map fun n => n * a).set (cs.getD i 0) ((lu k a b cs i).getD (cs.getD i 0) 0 * a + b ^ i)).sum = _
  rw [sum_set _ _ _ (by rw [List.length_map, hl]; exact h), sum_map_mul, map_getD (by rw [hl]; exact h)]
  omega
/-- (b - a) times the sum -/
theorem lu_geo {k : Nat} {a b : Int} {cs : List Nat} : ∀ i, (∀ j, j < i → cs.getD j 0 < k) → (b - a) * (lu k a b cs i).sum = b ^ i - a ^ i
  | 0, _ => by
    show (b - a) * (List.replicate k (0 : Int)).sum = _
    rw [sum_rep0, Int.mul_zero, Int.pow_zero, Int.pow_zero]
    rfl
  | i + 1, h => by
    have e := lu_geo (k := k) (a := a) (b := b) i fun j hj => h j (by omega)
    rw [lu_sum (h i (by omega)), Int.mul_add, ← Int.mul_assoc, e, Int.pow_succ, Int.pow_succ, Int.sub_mul, Int.sub_mul, Int.mul_comm b (b ^ i), Int.mul_comm a (b ^ i)]
    omega
theorem lu_pos {k : Nat} {a b : Int} {cs : List Nat} (ha : 0 ≤ a) (hb : 0 < b) {i : Nat} (h : cs.getD i 0 < k) : 0 < (lu k a b cs (i + 1)).sum := by
  rw [lu_sum h]
  have h1 := Int.mul_nonneg (sum_nn (lu_nn (k := k) (cs := cs) ha (Int.le_of_lt hb) i)) ha
  have h2 : 0 < b ^ i := Int.pow_pos hb
  omega
structure Lro (k : Nat) (a b : Int) (cs : List Nat) : Prop where
  k1 : 1 ≤ k
  k8 : k ≤ 8
  kep : Kep a b
  ne : 0 < cs.length
  c60 : cs.length ≤ 60
  liq : ∀ c ∈ cs, c < k
theorem Lro.at_ {k : Nat} {a b : Int} {cs : List Nat} (R : Lro k a b cs) {j : Nat} (hj : j < cs.length) : cs.getD j 0 < k := by
  rw [List.getD_eq_getElem?_getD, List.getElem?_eq_getElem hj]
  exact R.liq _ (List.getElem_mem hj)
theorem Lro.amt_i {k : Nat} {a b : Int} {cs : List Nat} (R : Lro k a b cs) {i : Nat} (h1 : 0 < i) (hi : i ≤ cs.length) : Amt (lu k a b cs i) := by
  have ha := R.kep.a1
  have hb := R.kep.ab
  obtain ⟨j, rfl⟩ : ∃ j, i = j + 1 := ⟨i - 1, by omega⟩
  exact ⟨lu_nn (by omega) (by omega) _, lu_pos (by omega) (by omega) (R.at_ (by omega))⟩
theorem Lro.amt {k : Nat} {a b : Int} {cs : List Nat} (R : Lro k a b cs) : Amt (lu k a b cs cs.length) := R.amt_i R.ne (Nat.le_refl _)
theorem Lro.con {k : Nat} {a b : Int} {cs : List Nat} (R : Lro k a b cs) : Con (lim k a b cs) := by
  have := R.k1
  have := R.k8
  exact plain_con R.amt (by rw [lu_len]; omega) (by rw [lu_len]; omega)
theorem lim_len (k : Nat) (a b : Int) (cs : List Nat) : (lim k a b cs).length = k := by unfold lim; rw [plain_len, lu_len]
theorem Lro.geo {k : Nat} {a b : Int} {cs : List Nat} (R : Lro k a b cs) {i : Nat} (hi : i ≤ cs.length) : (b - a) * (lu k a b cs i).sum = b ^ i - a ^ i := lu_geo i fun j hj => R.at_ (by omega)
theorem pow_mono {x y : Int} (hx : 0 ≤ x) (h : x ≤ y) : ∀ i : Nat, x ^ i ≤ y ^ i
  | 0 => by rw [Int.pow_zero, Int.pow_zero]; exact Int.le_refl 1
  | i + 1 => by
    rw [Int.pow_succ, Int.pow_succ]
    exact Int.le_trans (Int.mul_le_mul_of_nonneg_right (pow_mono hx h i) hx) (Int.mul_le_mul_of_nonneg_left h (Int.pow_nonneg (by omega)))
theorem Lro.le_pow {k : Nat} {a b : Int} {cs : List Nat} (R : Lro k a b cs) {i : Nat} (hi : i ≤ cs.length) : (lu k a b cs i).sum ≤ b ^ i := by
  have ha := R.kep.a1
  have hb := R.kep.ab
  have e := R.geo hi
  have h1 : 0 ≤ a ^ i := Int.pow_nonneg (by omega)
  have h2 := sum_nn (lu_nn (k := k) (cs := cs) (show 0 ≤ a by omega) (show 0 ≤ b by omega) i)
  have h3 : 1 * (lu k a b cs i).sum ≤ (b - a) * (lu k a b cs i).sum := Int.mul_le_mul_of_nonneg_right (by omega) h2
  omega
theorem hund60 (i : Nat) (h : i ≤ 60) : (100 : Int) ^ i < 2 ^ 420 := by
  have h1 : (100 : Nat) ^ i ≤ 100 ^ 60 := Nat.pow_le_pow_right (by decide) h
  have h2 : (100 : Nat) ^ 60 < 2 ^ 420 := by decide +kernel
  have h3 : (100 : Nat) ^ i < 2 ^ 420 := Nat.lt_of_le_of_lt h1 h2
  exact_mod_cast h3
theorem Lro.small_i {k : Nat} {a b : Int} {cs : List Nat} (R : Lro k a b cs) {i : Nat} (hi : i ≤ cs.length) : (lu k a b cs i).sum < 2 ^ 420 := by
  have ha := R.kep.a1
  have hb := R.kep.ab
  have h60 := R.c60
  exact Int.lt_of_le_of_lt (Int.le_trans (R.le_pow hi) (pow_mono (by omega) R.kep.b100 i)) (hund60 i (by omega))
theorem Lro.small {k : Nat} {a b : Int} {cs : List Nat} (R : Lro k a b cs) : (lim k a b cs).sum < 2 ^ 420 := Int.lt_of_le_of_lt (plain_sum_le R.amt) (R.small_i (Nat.le_refl _))
/-- what i liquids of the row make of its limit, undivided -/
def lw (k : Nat) (a b : Int) (cs : List Nat) (i : Nat) : List Int :=
  (List.range k).map fun s => a ^ i * (lu k a b cs cs.length).getD s 0 + (b ^ cs.length - a ^ cs.length) * (lu k a b cs i).getD s 0
theorem lw_len (k : Nat) (a b : Int) (cs : List Nat) (i : Nat) : (lw k a b cs i).length = k := by unfold lw; rw [List.length_map, List.length_range]
theorem lw_get {k : Nat} {a b : Int} {cs : List Nat} {i s : Nat} (hs : s < k) : (lw k a b cs i).getD s 0 = a ^ i * (lu k a b cs cs.length).getD s 0 + (b ^ cs.length - a ^ cs.length) * (lu k a b cs i).getD s 0 := by
  unfold lw
  rw [List.getD_eq_getElem?_getD, List.getElem?_map, List.getElem?_range hs]
  rfl
theorem sum_two (p q : Int) (x y : List Int) : ∀ k : Nat, x.length = k → y.length = k → ((List.range k).map fun s => p * x.getD s 0 + q * y.getD s 0).sum = p * x.sum + q * y.sum := by
  intro k
  induction k generalizing x y with
  | zero =>
    intro hx hy
    rw [List.length_eq_zero_iff.mp hx, List.length_eq_zero_iff.mp hy]
    show (0 : Int) = p * 0 + q * 0
    omega
  | succ k ih =>
    intro hx hy
    cases x with
    | nil => cases hx
    | cons u x =>
    cases y with
    | nil => cases hy
    | cons v y =>
    rw [List.range_succ_eq_map, List.map_cons, List.map_map, List.sum_cons, List.sum_cons, List.sum_cons]
    have e := ih x y (Nat.succ.inj hx) (Nat.succ.inj hy)
    have e2 : ((List.range k).map ((fun s => p * (u :: x).getD s 0 + q * (v :: y).getD s 0) ∘ Nat.succ)) = (List.range k).map fun s => p * x.getD s 0 + q * y.getD s 0 := List.map_congr_left fun s _ => rfl
    rw [e2, e, Int.mul_add, Int.mul_add]
    show p * u + q * v + _ = _
    omega
theorem lw_sum {k : Nat} {a b : Int} {cs : List Nat} {i : Nat} : (lw k a b cs i).sum = a ^ i * (lu k a b cs cs.length).sum + (b ^ cs.length - a ^ cs.length) * (lu k a b cs i).sum :=
  sum_two _ _ _ _ k (lu_len ..) (lu_len ..)
theorem Lro.lw_geo {k : Nat} {a b : Int} {cs : List Nat} (R : Lro k a b cs) {i : Nat} (hi : i ≤ cs.length) : (b - a) * (lw k a b cs i).sum = (b ^ cs.length - a ^ cs.length) * b ^ i := by
  rw [lw_sum, Int.mul_add, Int.mul_left_comm, R.geo (Nat.le_refl _), Int.mul_left_comm (b - a), R.geo hi]
  generalize b ^ cs.length - a ^ cs.length = D
  rw [Int.mul_sub, Int.mul_comm (a ^ i)]
  omega
theorem Lro.D_pos {k : Nat} {a b : Int} {cs : List Nat} (R : Lro k a b cs) : 0 < b ^ cs.length - a ^ cs.length := by
  rw [← R.geo (Nat.le_refl _)]
  exact Int.mul_pos (by have := R.kep.ab; omega) R.amt.pos
theorem Lro.lw_amt {k : Nat} {a b : Int} {cs : List Nat} (R : Lro k a b cs) (i : Nat) : Amt (lw k a b cs i) := by
  have ha := R.kep.a1
  have hb := R.kep.ab
  have hD := R.D_pos
  have n1 : ∀ j, ∀ n ∈ lu k a b cs j, 0 ≤ n := lu_nn (by omega) (by omega)
  refine ⟨fun n hn => ?_, ?_⟩
  · obtain ⟨s, hs, e⟩ := mem_at hn
    rw [lw_len] at hs
    rw [← e, lw_get hs]
    have h1 := Int.mul_nonneg (show (0 : Int) ≤ a ^ i from Int.pow_nonneg (by omega)) (n1 cs.length _ (getD_in (ns := lu k a b cs cs.length) (i := s) (by rw [lu_len]; exact hs)))
    have h2 := Int.mul_nonneg (Int.le_of_lt hD) (n1 i _ (getD_in (ns := lu k a b cs i) (i := s) (by rw [lu_len]; exact hs)))
    omega
  · rw [lw_sum]
    have h1 := Int.mul_pos (show (0 : Int) < a ^ i from Int.pow_pos (by omega)) R.amt.pos
    have h2 := Int.mul_nonneg (Int.le_of_lt hD) (sum_nn (n1 i))
    omega
theorem Lro.pre_lw {k : Nat} {a b : Int} {cs : List Nat} (R : Lro k a b cs) {i : Nat} (hi : i < cs.length) : pre (lw k a b cs i) a b (cs.getD i 0) = lw k a b cs (i + 1) := by
  refine list_ext (by rw [pre_len, lw_len, lw_len]) fun s hs => ?_
  rw [pre_len, lw_len] at hs
  rw [getD_of (pre_get (by rw [lw_len]; exact hs)), lw_get hs, lw_get hs, lu_get hs, R.lw_geo (Nat.le_of_lt hi), Int.add_mul, Int.pow_succ, Int.mul_add, Int.mul_assoc, Int.mul_comm ((lu k a b cs cs.length).getD s 0) a, ← Int.mul_assoc, Int.mul_assoc _ _ a, Int.add_assoc]
  congr 2
  split
  · rfl
  · rw [Int.mul_zero]
theorem lw_zero {k : Nat} {a b : Int} {cs : List Nat} : lw k a b cs 0 = lu k a b cs cs.length := by
  refine list_ext (by rw [lw_len, lu_len]) fun s hs => ?_
  rw [lw_len] at hs
  rw [lw_get hs]
  have e : (lu k a b cs 0).getD s 0 = 0 := by
    show (List.replicate k (0 : Int)).getD s 0 = 0
    rw [List.getD_eq_getElem?_getD, List.getElem?_replicate, if_pos hs]
    rfl
  rw [e, Int.mul_zero, Int.pow_zero, Int.one_mul, Int.add_zero]
theorem lw_end {k : Nat} {a b : Int} {cs : List Nat} : lw k a b cs cs.length = (lu k a b cs cs.length).map fun n => b ^ cs.length * n := by
  refine list_ext (by rw [lw_len, List.length_map, lu_len]) fun s hs => ?_
  rw [lw_len] at hs
  rw [lw_get hs, map_getD (by rw [lu_len]; exact hs), Int.sub_mul]
  omega
theorem Lro.step_lw {k : Nat} {a b : Int} {cs : List Nat} (R : Lro k a b cs) {i : Nat} (hi : i < cs.length) : step (plain (lw k a b cs i)) a b (cs.getD i 0) = plain (lw k a b cs (i + 1)) := by
  have := R.k1
  have := R.k8
  rw [step_plain (R.lw_amt i) (plain_con (R.lw_amt i) (by rw [lw_len]; omega) (by rw [lw_len]; omega)) R.kep (by rw [lw_len]; exact R.at_ hi), R.pre_lw hi]
theorem Lro.plain_end {k : Nat} {a b : Int} {cs : List Nat} (R : Lro k a b cs) : plain (lw k a b cs cs.length) = lim k a b cs := by
  have ha := R.kep.a1
  have hb := R.kep.ab
  unfold lim
  rw [lw_end, plain_scale (Int.pow_pos (by omega)) (gcdN_pos R.amt)]
end Ma
end

section
set_option Elab.async false
set_option linter.all false
set_option maxHeartbeats 1000000
/-! Distances to a limit: they shrink by a power each round. -/
namespace Ma
/-- undivided: behind i liquids of a row -/
def rnd (x : List Int) (a b : Int) (cs : List Nat) : Nat → List Int
  | 0 => x
  | i + 1 => pre (rnd x a b cs i) a b (cs.getD i 0)
theorem rnd_len (x : List Int) (a b : Int) (cs : List Nat) : ∀ i, (rnd x a b cs i).length = x.length
  | 0 => rfl
  | i + 1 => by unfold rnd; rw [pre_len, rnd_len x a b cs i]
theorem rnd_sum {x : List Int} {a b : Int} {cs : List Nat} : ∀ i, (∀ j, j < i → cs.getD j 0 < x.length) → (rnd x a b cs i).sum = b ^ i * x.sum
  | 0, _ => by unfold rnd; rw [Int.pow_zero, Int.one_mul]
  | i + 1, h => by
    unfold rnd
    rw [pre_sum (by rw [rnd_len]; exact h i (by omega)), rnd_sum i fun j hj => h j (by omega), Int.pow_succ, ← Int.mul_assoc, Int.mul_comm b]
theorem rnd_nn {x : List Int} {a b : Int} {cs : List Nat} (hx : ∀ n ∈ x, 0 ≤ n) (ha : 0 ≤ a) (hb : a ≤ b) : ∀ i, ∀ n ∈ rnd x a b cs i, 0 ≤ n
  | 0 => hx
  | i + 1 => pre_nn (rnd_nn hx ha hb i) ha hb
/-- behind r rounds -/
def rnds (x : List Int) (a b : Int) (cs : List Nat) : Nat → List Int
  | 0 => x
  | r + 1 => rnd (rnds x a b cs r) a b cs cs.length
theorem rnds_len (x : List Int) (a b : Int) (cs : List Nat) : ∀ r, (rnds x a b cs r).length = x.length
  | 0 => rfl
  | r + 1 => by unfold rnds; rw [rnd_len, rnds_len x a b cs r]
theorem rnds_nn {x : List Int} {a b : Int} {cs : List Nat} (hx : ∀ n ∈ x, 0 ≤ n) (ha : 0 ≤ a) (hb : a ≤ b) : ∀ r, ∀ n ∈ rnds x a b cs r, 0 ≤ n
  | 0 => hx
  | r + 1 => rnd_nn (rnds_nn hx ha hb r) ha hb _
theorem rnds_sum {x : List Int} {a b : Int} {cs : List Nat} (h : ∀ j, j < cs.length → cs.getD j 0 < x.length) : ∀ r, (rnds x a b cs r).sum = (b ^ cs.length) ^ r * x.sum
  | 0 => by unfold rnds; rw [Int.pow_zero, Int.one_mul]
  | r + 1 => by
    unfold rnds
    rw [rnd_sum _ (by rw [rnds_len]; exact h), rnds_sum h r, Int.pow_succ, ← Int.mul_assoc, Int.mul_comm (b ^ cs.length)]
/-- the difference of shares of a liquid, over both bottoms -/
def dif (x l : List Int) (i : Nat) : Int := x.getD i 0 * l.sum - l.getD i 0 * x.sum
theorem pre_getD {x : List Int} {a b : Int} {c i : Nat} (hi : i < x.length) : (pre x a b c).getD i 0 = x.getD i 0 * a + if i = c then (b - a) * x.sum else 0 := getD_of (pre_get hi)
theorem dif_pre {x l : List Int} {a b : Int} {c i : Nat} (hl : l.length = x.length) (hc : c < x.length) (hi : i < x.length) : dif (pre x a b c) (pre l a b c) i = a * b * dif x l i := by
  unfold dif
  rw [pre_getD hi, pre_getD (by rw [hl]; exact hi), pre_sum hc, pre_sum (by rw [hl]; exact hc)]
  generalize x.getD i 0 = u
  generalize l.getD i 0 = v
  generalize x.sum = S
  generalize l.sum = L
  split
  · have e1 : (u * a + (b - a) * S) * (b * L) - (v * a + (b - a) * L) * (b * S) = (u * a * (b * L) - v * a * (b * S)) + ((b - a) * S * (b * L) - (b - a) * L * (b * S)) := by
      rw [Int.add_mul, Int.add_mul]
      omega
    have e2 : (b - a) * S * (b * L) = (b - a) * L * (b * S) := by
      simp only [Int.mul_comm, Int.mul_left_comm, Int.mul_assoc]
    have e3 : u * a * (b * L) = a * b * (u * L) := by simp only [Int.mul_comm, Int.mul_left_comm, Int.mul_assoc]
    have e4 : v * a * (b * S) = a * b * (v * S) := by simp only [Int.mul_comm, Int.mul_left_comm, Int.mul_assoc]
    rw [e1, e2, e3, e4, Int.mul_sub]
    omega
  · rw [Int.add_zero, Int.add_zero]
    have e3 : u * a * (b * L) = a * b * (u * L) := by simp only [Int.mul_comm, Int.mul_left_comm, Int.mul_assoc]
    have e4 : v * a * (b * S) = a * b * (v * S) := by simp only [Int.mul_comm, Int.mul_left_comm, Int.mul_assoc]
    rw [e3, e4, Int.mul_sub]
theorem dif_rnd {x l : List Int} {a b : Int} {cs : List Nat} {s : Nat} (hl : l.length = x.length) (hs : s < x.length) : ∀ i, (∀ j, j < i → cs.getD j 0 < x.length) → dif (rnd x a b cs i) (rnd l a b cs i) s = (a * b) ^ i * dif x l s
  | 0, _ => by unfold rnd; rw [Int.pow_zero, Int.one_mul]
  | i + 1, h => by
    unfold rnd
    rw [dif_pre (by rw [rnd_len, rnd_len, hl]) (by rw [rnd_len]; exact h i (by omega)) (by rw [rnd_len]; exact hs), dif_rnd hl hs i fun j hj => h j (by omega), Int.pow_succ, ← Int.mul_assoc, Int.mul_comm (a * b)]
theorem pre_scale (g : Int) {x : List Int} {a b : Int} {c : Nat} : pre (x.map fun n => g * n) a b c = (pre x a b c).map fun n => g * n := by
  refine list_ext (by simp [pre_len]) fun i hi => ?_
  rw [pre_len, List.length_map] at hi
  have e : (x.map fun n => g * n).sum = g * x.sum := by
    have := sum_map_mul g x
    rw [← Int.mul_comm, ← this]
    congr 1
    exact List.map_congr_left fun n _ => Int.mul_comm ..
  rw [pre_getD (by rw [List.length_map]; exact hi), map_getD hi, map_getD (by rw [pre_len]; exact hi), pre_getD hi, Int.mul_add, Int.mul_assoc, e]
  congr 1
  split
  · rw [Int.mul_left_comm]
  · rw [Int.mul_zero]
theorem rnd_scale (g : Int) {x : List Int} {a b : Int} {cs : List Nat} : ∀ i, rnd (x.map fun n => g * n) a b cs i = (rnd x a b cs i).map fun n => g * n
  | 0 => rfl
  | i + 1 => by
    show pre (rnd (x.map fun n => g * n) a b cs i) a b _ = (pre (rnd x a b cs i) a b _).map _
    rw [rnd_scale g i, pre_scale]
theorem Lro.rnd_lw {k : Nat} {a b : Int} {cs : List Nat} (R : Lro k a b cs) : ∀ i, i ≤ cs.length → rnd (lu k a b cs cs.length) a b cs i = lw k a b cs i
  | 0, _ => lw_zero.symm
  | i + 1, h => by
    show pre (rnd (lu k a b cs cs.length) a b cs i) a b _ = _
    rw [R.rnd_lw i (by omega), R.pre_lw (by omega)]
theorem plain_up {xs : List Int} : (plain xs).map (fun n => ((gcdN xs : Nat) : Int) * n) = xs := by
  unfold plain
  rw [List.map_map]
  have : ∀ n ∈ xs, ((fun n => ((gcdN xs : Nat) : Int) * n) ∘ fun n => n / ((gcdN xs : Nat) : Int)) n = n := fun n hn => by
    show ((gcdN xs : Nat) : Int) * (n / ((gcdN xs : Nat) : Int)) = n
    rw [Int.mul_comm, plain_mul hn]
  rw [List.map_congr_left this, List.map_id']
/-- the row leads the limit to itself, undivided to a multiple -/
theorem Lro.rnd_lim {k : Nat} {a b : Int} {cs : List Nat} (R : Lro k a b cs) : rnd (lim k a b cs) a b cs cs.length = (lim k a b cs).map fun n => b ^ cs.length * n := by
  have hg := gcdN_pos R.amt
  have e := rnd_scale ((gcdN (lu k a b cs cs.length) : Nat) : Int) (x := lim k a b cs) (a := a) (b := b) (cs := cs) cs.length
  have e2 : (lim k a b cs).map (fun n => ((gcdN (lu k a b cs cs.length) : Nat) : Int) * n) = lu k a b cs cs.length := plain_up
  rw [e2, R.rnd_lw _ (Nat.le_refl _), lw_end] at e
  refine list_ext (by rw [rnd_len, List.length_map]) fun s hs => ?_
  rw [rnd_len, lim_len] at hs
  have e3 := congrArg (fun l => l.getD s 0) e
  have e4 : (lu k a b cs cs.length).getD s 0 = ((gcdN (lu k a b cs cs.length) : Nat) : Int) * (lim k a b cs).getD s 0 := by
    rw [← map_getD (f := fun n => ((gcdN (lu k a b cs cs.length) : Nat) : Int) * n) (by rw [lim_len]; exact hs), e2]
  have e5 : ((lu k a b cs cs.length).map fun n => b ^ cs.length * n).getD s 0 = ((rnd (lim k a b cs) a b cs cs.length).map fun n => ((gcdN (lu k a b cs cs.length) : Nat) : Int) * n).getD s 0 := e3
  rw [map_getD (by rw [lu_len]; exact hs), map_getD (by rw [rnd_len, lim_len]; exact hs), e4, Int.mul_left_comm] at e5
  rw [map_getD (by rw [lim_len]; exact hs)]
  exact (Int.eq_of_mul_eq_mul_left (by omega) e5).symm
theorem dif_rnds {k : Nat} {a b : Int} {cs : List Nat} (R : Lro k a b cs) {x : List Int} (hx : x.length = k) {s : Nat} (hs : s < k) : ∀ r, dif (rnds x a b cs r) (lim k a b cs) s = (a ^ cs.length) ^ r * dif x (lim k a b cs) s
  | 0 => by unfold rnds; rw [Int.pow_zero, Int.one_mul]
  | r + 1 => by
    have hb : 0 < b ^ cs.length := Int.pow_pos (by have := R.kep.a1; have := R.kep.ab; omega)
    have hl := rnds_len x a b cs r
    have e := dif_rnd (x := rnds x a b cs r) (l := lim k a b cs) (a := a) (b := b) (cs := cs) (s := s) (by rw [lim_len, hl, hx]) (by rw [hl, hx]; exact hs) cs.length fun j hj => by rw [hl, hx]; exact R.at_ hj
    rw [R.rnd_lim, dif_rnds R hx hs r] at e
    have e2 : dif (rnds x a b cs (r + 1)) ((lim k a b cs).map fun n => b ^ cs.length * n) s = b ^ cs.length * dif (rnds x a b cs (r + 1)) (lim k a b cs) s := by
      have e3 : ((lim k a b cs).map fun n => b ^ cs.length * n).sum = b ^ cs.length * (lim k a b cs).sum := by
        have := sum_map_mul (b ^ cs.length) (lim k a b cs)
        rw [← Int.mul_comm, ← this]
        congr 1
        exact List.map_congr_left fun n _ => Int.mul_comm ..
      unfold dif
      rw [e3, map_getD (by rw [lim_len]; exact hs), Int.mul_sub, Int.mul_left_comm, Int.mul_assoc]
    have e4 : dif (rnd (rnds x a b cs r) a b cs cs.length) ((lim k a b cs).map fun n => b ^ cs.length * n) s = b ^ cs.length * dif (rnds x a b cs (r + 1)) (lim k a b cs) s := e2
    rw [e4, Int.mul_pow] at e
    refine Int.eq_of_mul_eq_mul_left (a := b ^ cs.length) (by omega) ?_
    rw [e, Int.pow_succ]
    simp only [Int.mul_comm, Int.mul_left_comm, Int.mul_assoc]
/-- the greatest of numbers from 0 on -/
def mx : List Int → Int
  | [] => 0
  | n :: ns => if mx ns ≤ n then n else mx ns
theorem le_mx : ∀ {ns : List Int} {n : Int}, n ∈ ns → n ≤ mx ns
  | m :: ns, n, h => by
    unfold mx
    rcases List.mem_cons.mp h with e | e
    · subst e
      split <;> omega
    · have := le_mx e
      split <;> omega
theorem mx_mem : ∀ {ns : List Int}, 0 < ns.length → (∀ n ∈ ns, 0 ≤ n) → mx ns ∈ ns
  | [n], _, h => by
    have := h n List.mem_cons_self
    unfold mx
    have e : mx [] = 0 := rfl
    rw [e, if_pos this]
    exact List.mem_cons_self
  | n :: m :: ns, _, h => by
    have := mx_mem (ns := m :: ns) (by simp) fun x hx => h x (List.mem_cons_of_mem _ hx)
    unfold mx
    split
    · exact List.mem_cons_self
    · exact List.mem_cons_of_mem _ this
theorem mx_is {ns : List Int} {m : Int} (h : ∀ n ∈ ns, 0 ≤ n) (hm : m ∈ ns) (hu : ∀ y ∈ ns, y ≤ m) : m = mx ns :=
  Int.le_antisymm (le_mx hm) (hu _ (mx_mem (List.length_pos_of_mem hm) h))
theorem mx_scale {t : Int} (ht : 0 ≤ t) : ∀ ns : List Int, (∀ n ∈ ns, 0 ≤ n) → mx (ns.map fun n => t * n) = t * mx ns
  | [], _ => by show (0 : Int) = t * 0; omega
  | n :: ns, h => by
    have e := mx_scale ht ns fun x hx => h x (List.mem_cons_of_mem _ hx)
    show (if mx (ns.map fun n => t * n) ≤ t * n then t * n else mx (ns.map fun n => t * n)) = t * (if mx ns ≤ n then n else mx ns)
    rw [e]
    by_cases hc : mx ns ≤ n
    · rw [if_pos hc, if_pos (Int.mul_le_mul_of_nonneg_left hc ht)]
    · rw [if_neg hc]
      by_cases hd : t * mx ns ≤ t * n
      · rw [if_pos hd]
        exact Int.le_antisymm (Int.mul_le_mul_of_nonneg_left (by omega) ht) hd
      · rw [if_neg hd]
theorem mx_nn : ∀ ns : List Int, (∀ n ∈ ns, 0 ≤ n) → 0 ≤ mx ns
  | [], _ => Int.le_refl 0
  | n :: ns, h => by
    have := h n List.mem_cons_self
    have := mx_nn ns fun x hx => h x (List.mem_cons_of_mem _ hx)
    unfold mx
    split <;> omega
def tops (x l : List Int) : List Int := (List.range x.length).map fun i => ((dif x l i).natAbs : Int)
theorem tops_nn (x l : List Int) : ∀ n ∈ tops x l, 0 ≤ n := fun n hn => by
  obtain ⟨i, _, e⟩ := List.mem_map.mp hn
  omega
theorem tops_len (x l : List Int) : (tops x l).length = x.length := by unfold tops; rw [List.length_map, List.length_range]
def gd (x l : List Int) : Int := mx (tops x l)
theorem gd_nn (x l : List Int) : 0 ≤ gd x l := mx_nn _ (tops_nn x l)
theorem tops_rnds {k : Nat} {a b : Int} {cs : List Nat} (R : Lro k a b cs) {x : List Int} (hx : x.length = k) (r : Nat) : tops (rnds x a b cs r) (lim k a b cs) = (tops x (lim k a b cs)).map fun n => (a ^ cs.length) ^ r * n := by
  have ha : 0 ≤ (a ^ cs.length) ^ r := Int.pow_nonneg (Int.pow_nonneg (by have := R.kep.a1; omega))
  unfold tops
  rw [rnds_len, List.map_map]
  refine List.map_congr_left fun i hi => ?_
  have hi2 := List.mem_range.mp hi
  show _ = (a ^ cs.length) ^ r * (((dif x (lim k a b cs) i).natAbs : Nat) : Int)
  rw [dif_rnds R hx (by rw [← hx]; exact hi2) r, Int.natAbs_mul]
  show ((((a ^ cs.length) ^ r).natAbs * (dif x (lim k a b cs) i).natAbs : Nat) : Int) = _
  rw [Int.natCast_mul, Int.natAbs_of_nonneg ha]
/-- the greatest difference behind r rounds -/
theorem gd_rnds {k : Nat} {a b : Int} {cs : List Nat} (R : Lro k a b cs) {x : List Int} (hx : x.length = k) (r : Nat) : gd (rnds x a b cs r) (lim k a b cs) = (a ^ cs.length) ^ r * gd x (lim k a b cs) := by
  unfold gd
  rw [tops_rnds R hx r, mx_scale (Int.pow_nonneg (Int.pow_nonneg (by have := R.kep.a1; omega))) _ (tops_nn _ _)]
theorem dif_le {x l : List Int} (hx : ∀ n ∈ x, 0 ≤ n) (hl : ∀ n ∈ l, 0 ≤ n) {i : Nat} (hi : i < x.length) (hi2 : i < l.length) : ((dif x l i).natAbs : Int) ≤ x.sum * l.sum := by
  have h1 := le_sum hx (getD_in hi)
  have h2 := le_sum hl (getD_in hi2)
  have h3 := hx _ (getD_in hi)
  have h4 := hl _ (getD_in hi2)
  have h5 := sum_nn hx
  have h6 := sum_nn hl
  have g1 : x.getD i 0 * l.sum ≤ x.sum * l.sum := Int.mul_le_mul_of_nonneg_right h1 h6
  have g2 : l.getD i 0 * x.sum ≤ l.sum * x.sum := Int.mul_le_mul_of_nonneg_right h2 h5
  have g3 := Int.mul_nonneg h3 h6
  have g4 := Int.mul_nonneg h4 h5
  rw [Int.mul_comm l.sum] at g2
  unfold dif
  omega
theorem gd_le {x l : List Int} (hx : ∀ n ∈ x, 0 ≤ n) (hl : ∀ n ∈ l, 0 ≤ n) (he : l.length = x.length) (h0 : 0 < x.length) : gd x l ≤ x.sum * l.sum := by
  have hm := mx_mem (ns := tops x l) (by rw [tops_len]; exact h0) (tops_nn x l)
  obtain ⟨i, hi, e⟩ := List.mem_map.mp hm
  have hi2 := List.mem_range.mp hi
  have := dif_le hx hl hi2 (by rw [he]; exact hi2)
  unfold gd
  omega
/-! how often -/
/-- s is the least number of steps behind which T * A ^ s is at most U * B ^ s -/
structure Lst (T U A B : Int) (s : Nat) : Prop where
  le : T * A ^ s ≤ U * B ^ s
  lt : ∀ r, r < s → U * B ^ r < T * A ^ r
theorem Lst.uniq {T U A B : Int} {s t : Nat} (h : Lst T U A B s) (g : Lst T U A B t) : s = t := by
  rcases Nat.lt_trichotomy s t with z | z | z
  · have := g.lt s z
    have := h.le
    omega
  · exact z
  · have := h.lt t z
    have := g.le
    omega
theorem pow99 {a b : Int} (ha : 0 ≤ a) (hb : 0 ≤ b) (h : 100 * a ≤ 99 * b) : ∀ s : Nat, 100 ^ s * a ^ s ≤ 99 ^ s * b ^ s
  | 0 => by simp
  | s + 1 => by
    have e := pow99 ha hb h s
    have e1 : (100 : Int) ^ (s + 1) * a ^ (s + 1) = (100 ^ s * a ^ s) * (100 * a) := by
      rw [Int.pow_succ, Int.pow_succ]
      simp only [Int.mul_comm, Int.mul_left_comm, Int.mul_assoc]
    have e2 : (99 : Int) ^ (s + 1) * b ^ (s + 1) = (99 ^ s * b ^ s) * (99 * b) := by
      rw [Int.pow_succ, Int.pow_succ]
      simp only [Int.mul_comm, Int.mul_left_comm, Int.mul_assoc]
    rw [e1, e2]
    have h1 : 0 ≤ (100 : Int) ^ s * a ^ s := Int.mul_nonneg (Int.pow_nonneg (by decide)) (Int.pow_nonneg ha)
    exact Int.le_trans (Int.mul_le_mul_of_nonneg_left h h1) (Int.mul_le_mul_of_nonneg_right e (by omega))
theorem end1400 : (1000000 : Int) * 99 ^ 1400 ≤ 100 ^ 1400 := by decide +kernel
/-- behind 1400 steps it is over -/
theorem steps_end {T U A B : Int} (hA : 0 ≤ A) (hB : 0 ≤ B) (hAB : 100 * A ≤ 99 * B) (hU : 0 ≤ U) (hT : T ≤ 1000000 * U) : T * A ^ 1400 ≤ U * B ^ 1400 := by
  have h1 : T * A ^ 1400 ≤ 1000000 * U * A ^ 1400 := Int.mul_le_mul_of_nonneg_right hT (Int.pow_nonneg hA)
  have h2 := pow99 hA hB hAB 1400
  have h3 : (0 : Int) < 100 ^ 1400 := Int.pow_pos (by decide)
  have h4 : (100 : Int) ^ 1400 * (1000000 * U * A ^ 1400) ≤ 100 ^ 1400 * (U * B ^ 1400) := by
    have e1 : (100 : Int) ^ 1400 * (1000000 * U * A ^ 1400) = 1000000 * U * (100 ^ 1400 * A ^ 1400) := by simp only [Int.mul_comm, Int.mul_left_comm, Int.mul_assoc]
    have e2 : (1000000 : Int) * U * (99 ^ 1400 * B ^ 1400) = (1000000 * 99 ^ 1400) * (U * B ^ 1400) := by simp only [Int.mul_comm, Int.mul_left_comm, Int.mul_assoc]
    rw [e1]
    refine Int.le_trans (Int.mul_le_mul_of_nonneg_left h2 (by omega)) ?_
    rw [e2]
    exact Int.mul_le_mul_of_nonneg_right end1400 (Int.mul_nonneg hU (Int.pow_nonneg hB))
  exact Int.le_trans h1 (Int.le_of_mul_le_mul_left h4 h3)
theorem pow100 {a b : Int} (ha : 0 ≤ a) (hb : 0 ≤ b) (h : 100 * a ≤ 99 * b) (hab : a ≤ b) : ∀ n : Nat, 0 < n → 100 * a ^ n ≤ 99 * b ^ n
  | 1, _ => by rw [Int.pow_succ, Int.pow_succ, Int.pow_zero, Int.pow_zero]; omega
  | n + 2, _ => by
    have e := pow100 ha hb h hab (n + 1) (by omega)
    rw [Int.pow_succ a, Int.pow_succ b, ← Int.mul_assoc, ← Int.mul_assoc]
    have h1 : 0 ≤ a ^ (n + 1) := Int.pow_nonneg ha
    exact Int.le_trans (Int.mul_le_mul_of_nonneg_left hab (by omega)) (Int.mul_le_mul_of_nonneg_right e hb)
end Ma
end

section
set_option Elab.async false
set_option linter.all false
set_option maxRecDepth 100000
set_option maxHeartbeats 4000000
/-! Comprehensions whose elements leave what is tracked as it is: the list so far, by a function of the place. -/
namespace Gx
open PySem PySem.Spec PyProof.Rows L2 GxR
theorem sameR (H : Hp) : Same H H := fun _ _ h => h
theorem sameN {H : Hp} {p : Addr} {o : HO} (h : H p = none) : Same H (L2.upd H p o) := fun b x e => by
  rw [L2.upd_ne (ne_of_none e h)]
  exact e
/-- the list so far -/
def fmL (f : Nat → Option V) (i : Nat) : List V := (List.range i).filterMap f
theorem fmL_succ (f : Nat → Option V) (i : Nat) : fmL f (i + 1) = fmL f i ++ (f i).toList := by
  unfold fmL
  rw [List.range_succ, List.filterMap_append]
  cases h : f i <;> simp [h]
theorem fmL_len (f : Nat → Option V) (i : Nat) : (fmL f i).length ≤ i := by
  unfold fmL
  have := List.length_filterMap_le f (List.range i)
  rw [List.length_range] at this
  exact this
structure PvF (f : Nat → Option V) (H1 : Hp) (D : Addr) (i : Nat) (H : Hp) : Prop where
  s : Same H1 H
  at_ : H D = some (.lst (fmL f i))
theorem PvF.zero {f : Nat → Option V} {H1 : Hp} {D : Addr} (h : H1 D = none) : PvF f H1 D 0 (L2.upd H1 D (.lst [])) := ⟨sameN h, L2.upd_same⟩
theorem PvF.ext {f : Nat → Option V} {H1 : Hp} {D : Addr} {i : Nat} {H H4 : Hp} {y : V} (p : PvF f H1 D i H) (hD : H1 D = none) (hi : i < 16777216) (s : Same H H4) (e : f i = some y) :
    ∃ acc, H4 D = some (.lst acc) ∧ acc.length < sizeLine ∧ PvF f H1 D (i + 1) (L2.upd H4 D (.lst (acc ++ [y]))) := by
  refine ⟨_, s _ _ p.at_, ?_, fun b x hb => ?_, ?_⟩
  · have := fmL_len f i
    show (fmL f i).length < 16777216
    omega
  · rw [L2.upd_ne (ne_of_none hb hD)]
    exact s _ _ (p.s b x hb)
  · rw [L2.upd_same, fmL_succ, e]
    rfl
theorem PvF.skip {f : Nat → Option V} {H1 : Hp} {D : Addr} {i : Nat} {H H3 : Hp} (p : PvF f H1 D i H) (s : Same H H3) (e : f i = none) : PvF f H1 D (i + 1) H3 :=
  ⟨fun b x hb => s _ _ (p.s b x hb), by rw [s _ _ p.at_, fmL_succ, e]; simp⟩
theorem fmL_take {α : Type} (l : List α) (h : α → Option V) : ∀ i, i ≤ l.length → fmL (fun i => l[i]?.bind h) i = (l.take i).filterMap h
  | 0, _ => rfl
  | i + 1, hi => by
    rw [fmL_succ, fmL_take l h i (by omega), List.take_add_one, List.filterMap_append, List.getElem?_eq_getElem (show i < l.length by omega)]
    show _ ++ (h l[i]).toList = _ ++ [l[i]].filterMap h
    congr 1
theorem fmL_bind {α : Type} (l : List α) (h : α → Option V) : fmL (fun i => l[i]?.bind h) l.length = l.filterMap h := by
  rw [fmL_take l h _ (Nat.le_refl _), List.take_length]
theorem fmL_map {α : Type} (l : List α) (h : α → V) : fmL (fun i => l[i]?.map h) l.length = l.map h := by
  have e := fmL_bind l fun x => some (h x)
  have e2 : (fun i : Nat => l[i]?.map h) = fun i : Nat => l[i]?.bind fun x => some (h x) := by
    funext i
    cases l[i]? <;> rfl
  rw [e2, e, List.filterMap_eq_map']
theorem fmL_range (h : Nat → V) (n : Nat) : fmL (fun i => some (h i)) n = (List.range n).map h := by
  unfold fmL
  rw [List.filterMap_eq_map']
theorem ix_tupK {X : Cx} {K : PySem.W.Frag} (e : X.K = K) : IxR X (rIxT K) := e ▸ ix_tup
theorem ite_dup {c : Prop} [Decidable c] {A R : Prop} (hR : R) (hA : c → R → A) : if decide c = true then A else R := by
  by_cases h : c
  · rw [if_pos (decide_eq_true h)]
    exact hA h hR
  · rw [if_neg (by rw [decide_eq_false h]; exact Bool.false_ne_true)]
    exact hR
theorem op_eqDK {X : Cx} {K : PySem.W.Frag} (e : X.K = K) (hu : X.A.units + 64 < cLine) : OpR X (compareOp .Eq) (rEqD K) := e ▸ op_eqD hu
theorem op_neDK {X : Cx} {K : PySem.W.Frag} (e : X.K = K) (hu : X.A.units + 64 < cLine) : OpR X (compareOp .NotEq) (rNeD K) := e ▸ op_neD hu
theorem u1 {k : Nat} {A : Around} (r : Room k A) : A.units + 1 < cLine := by have := r.un; omega
/-- over a list that stands still -/
theorem lc_fm {K : PySem.W.Frag} {a : Addr} {xs : List V} {g : TG} {tt : TT} {te : TE} {vs : List Nat} {σ : L2.St} {H1 : Hp} {D : Addr} {Qd : Hp → Prop} (f : Nat → Option V) (hD : H1 D = none) (hl : SqL K H1 a xs)
    (hs : ∀ i x H, xs[i]? = some x → PvF f H1 D i H → g x (wipe σ vs) H fun σ2 H2 => wipe σ2 vs = wipe σ vs ∧ tt σ2 H2 fun b H3 =>
      if b = true then te σ2 H3 fun y H4 => ∃ acc, H4 D = some (.lst acc) ∧ acc.length < sizeLine ∧ PvF f H1 D (i + 1) (L2.upd H4 D (.lst (acc ++ [y]))) else PvF f H1 D (i + 1) H3) (hd : ∀ H, PvF f H1 D xs.length H → Qd H) :
    ∃ W : Nat → Nat → Hp → Prop, (∃ m, W 0 m (L2.upd H1 D (.lst []))) ∧ ∀ i m H, W i m H →
      ((Itl K a).stop i H ∧ Qd H) ∨ ((Itl K a).go i H ∧ ∃ Nx : Hp → Prop, (∀ H', Nx H' → ∃ m', m' < m ∧ W (i + 1) m' H') ∧ ∀ x H', (Itl K a).yld i H x H' → g x (wipe σ vs) H' fun σ2 H2 => wipe σ2 vs = wipe σ vs ∧ tt σ2 H2 fun b H3 =>
        if b = true then te σ2 H3 fun y H4 => ∃ acc, H4 D = some (.lst acc) ∧ acc.length < sizeLine ∧ Nx (L2.upd H4 D (.lst (acc ++ [y]))) else Nx H3) :=
  lc_list (PvF f H1 D) (PvF.zero hD) (fun i H _ p => hl.elim (fun h => .inl (h.elim (fun h => .inl (p.s _ _ h)) fun ⟨o, h⟩ => .inr ⟨o, p.s _ _ h⟩)) fun h => .inr h) hs hd
end Gx
end

section
set_option Elab.async false
set_option linter.all false
set_option maxRecDepth 100000
set_option maxHeartbeats 4000000
/-! Generator expressions with any target, whose callers may write to what is tracked between two items; sum(..) of one. -/
namespace Gx
open PySem PySem.Spec PyProof.Rows L2 GxR
def none0 (xs : List Str) : L2.St := xs.map fun _ => none
structure GOkV (N : List Str) (sc scope : Scope) (xs : List Str) (ns : List (Str × Nat)) : Prop where
  kind : scope.kind = .function
  co : scope.isCoroutine = false
  cell : ∀ y ∈ scope.names, y.2 ≠ .cell
  dot : scope.names.lookup (".0" : Str) = some NameKind.local
  free : ∀ y ∈ scope.names, y.2 = .free → sc.names.lookup y.1 = some .cell ∨ sc.names.lookup y.1 = some .free
  caps : ∀ p ∈ ns, N[p.2]? = some p.1 ∧ (p.1, NameKind.free) ∈ scope.names
  uniq : ∀ y ∈ scope.names, scope.names.lookup y.1 = some y.2
def gokVB (N : List Str) (sc scope : Scope) (ns : List (Str × Nat)) : Bool :=
  decide (scope.kind = .function) && !scope.isCoroutine && scope.names.all (fun y => decide (y.2 ≠ .cell)) && decide (scope.names.lookup (".0" : Str) = some NameKind.local) &&
  scope.names.all (fun y => decide (y.2 = .free → sc.names.lookup y.1 = some .cell ∨ sc.names.lookup y.1 = some .free)) && ns.all (fun p => decide (N[p.2]? = some p.1) && decide ((p.1, NameKind.free) ∈ scope.names)) && scope.names.all (fun y => decide (scope.names.lookup y.1 = some y.2))
theorem gokV_by {N : List Str} {sc scope : Scope} {xs : List Str} {ns : List (Str × Nat)} (h : gokVB N sc scope ns = true) : GOkV N sc scope xs ns := by
  unfold gokVB at h
  simp only [Bool.and_eq_true, List.all_eq_true, decide_eq_true_eq, Bool.not_eq_true'] at h
  obtain ⟨⟨⟨⟨⟨⟨h1, h2⟩, h3⟩, h4⟩, h6⟩, h7⟩, h8⟩ := h
  exact ⟨h1, h2, fun y hy => h3 y hy, h4, fun y hy => h6 y hy, fun p hp => h7 p hp, fun y hy => h8 y hy⟩
/-- the names of the def are as they were -/
def Keep2 (σ0 σ1 : L2.St) : Prop := σ1.length = σ0.length ∧ ∀ (j : Nat) (v : V), σ0[j]? = some (some v) → σ1[j]? = some (some v)
theorem keep2_1 {x : V} {c : L2.St} : Keep2 (none :: c) (some x :: c) := ⟨rfl, fun j v h => by
  cases j with
  | zero => cases h
  | succ j => exact h⟩
theorem keep2_2 {x y : Option V} {c : L2.St} : Keep2 (none :: none :: c) (x :: y :: c) := ⟨rfl, fun j v h => by
  match j, h with
  | 0, h => cases h
  | 1, h => cases h
  | j + 2, h => exact h⟩
/-- what is not tracked is as it was -/
def Unt (H : Hp) (s : Shared) (H' : Hp) (s' : Shared) : Prop := ∀ b o, H b = none → s.heap.get? b = some o → H' b = none ∧ s'.heap.get? b = some o
def GEndV (G : Cx) (a : Addr) (go : Obj) (σ0 : L2.St) (L : Nat) (Pv : Nat → Hp → Prop) : Nat → Shared → Shared → Prop := fun n _ s => n = 1 ∧ ∃ H, Inv G [(a, go)] σ0 H s ∧ Pv L H
def GYldV (G : Cx) (a : Addr) (go : Obj) (σ0 : L2.St) (L : Nat) (Pv : Nat → Hp → Prop) (Ye : Nat → V → Hp → Prop) : Protocol := fun n _ v s kap =>
  ∃ i y H, i < L ∧ n + i = L ∧ RelV y v ∧ Inv G [(a, go)] σ0 H s ∧ Ye i y H ∧ ∀ s' H', Inv G [(a, go)] σ0 H' s' → Unt H s H' s' → Pv (i + 1) H' → kap (.send .none) s'
section
variable {X : Cx} {pins : List (Addr × Obj)} {σ : L2.St} {H : Hp} {s : Shared}
theorem inv_genV {s5 : Shared} {scope : Scope} {xs : List Str} {ns : List (Str × Nat)} {fp : List Addr} {P C a : Addr} {go : Obj} {code it : Value} {A : Around}
    (I : Inv X pins σ H s) (S : GOkV X.N X.env.scope scope xs ns) (hP : H P = some (TabO P)) (hf : ∀ b ∈ fp, FpOk X pins H b) (hfo : ∀ b ∈ fp, ∃ o, s.heap.get? b = some o)
    (hA : A.frames = some (genEnv scope (cloFrom X.env.cells scope.names []) C code builtinsNs X.env :: X.stack)) (hh : A.handled = none) (hC : s.heap.objs.size ≤ C) (ha : C < a)
    (ho : s5.os = s.os) (hb : AllBare s5.gens) (k : ∀ b o, b ≠ P → s.heap.get? b = some o → s5.heap.get? b = some o) (hp : tabPhi P s5.heap)
    (hn : s5.heap.Ns C (fun y => if y = ".0" then some it else none)) (hgo : s5.heap.get? a = some go) (hgd : ∀ v, go.data ≠ .cell v) :
    Inv (gcx X s H (xs ++ ns.map (·.1)) (genEnv scope (cloFrom X.env.cells scope.names []) C code builtinsNs X.env) fp A) [(a, go)] (none0 xs ++ capsOf σ ns) H s5 := by
  have hfree : ∀ y ∈ scope.names, y.2 = .free → ∃ c, X.env.cells.lookup y.1 = some c := fun y hy e => by
    rcases S.free y hy e with k | k
    · exact I.ok.has _ (.inl k)
    · exact I.ok.has _ (.inr k)
  have nP : ∀ b, H b = none → b ≠ P := fun b e z => by
    rw [z, hP] at e
    cases e
  have fplt : ∀ b ∈ fp, b < s.heap.objs.size := fun b hb => let ⟨o, e⟩ := hfo b hb; Heap.lt_size e
  have stk : ∀ b ∈ fp, b ∉ frs X.stack := fun b hb hm => by
    obtain ⟨_, f1, f2, _⟩ := hf b hb
    rcases List.mem_cons.mp (I.stkSub b hm) with z | z
    · exact f1 z
    · exact f2 z
  have noA : ∀ b, s.heap.objs.size ≤ b → b ∉ frs X.stack := fun b hb hm => by
    rcases List.mem_cons.mp (I.stkSub b hm) with z | z
    · have := I.lt
      rw [← z] at this
      exact absurd (Nat.lt_of_lt_of_le this hb) (Nat.lt_irrefl _)
    · exact I.nofs hb z
  refine ⟨⟨I.mod, S.kind, I.ok.glob, rfl, hC, fun y z c h1 h2 => ?_, fun y hy => ?_, fun y c h _ => (by cases h), fun _ => hh, hA, .inr ⟨rfl, rfl⟩, fun b hb => ⟨?_, fun y c h z => ?_⟩, fun b o e => I.bs b o e, Nat.le_trans I.ok.bsz I.sz, fun b o e hm => ?_, fun b hb => stk b hb, I.stack, I.stkFree⟩,
    ho, hb, ⟨fun b o e n _ _ => k b o (nP b n) e, fun b o e n _ _ => ⟨o.slots, k b o (nP b n) e⟩, fun _ _ _ n _ => n, fun b o e _ => ?_, fun _ _ q => q, fun _ _ _ q => q, fun b ps q => ⟨#[], by
      have q' : H b = some (.tbl ps) := q
      rw [q']; simp⟩⟩,
    ⟨_, hn, fun i y v h1 h2 h3 => ?_⟩, fun y c h => ?_, I.hok.fresh hC, fun y c h => ?_, fun p hp' => ?_, fun b u e => ?_, ?_⟩
  · exact I.ok.inj _ _ _ (clo_of hfree h1).2 (clo_of hfree h2).2
  · have hy : scope.names.lookup y = some .cell ∨ scope.names.lookup y = some .free := hy
    rcases hy with hy | hy
    · exact absurd rfl (S.cell _ (PySem.mem_of_lookup hy))
    · obtain ⟨c, e⟩ := hfree _ (PySem.mem_of_lookup hy) rfl
      exact ⟨c, clo_lookup (PySem.mem_of_lookup hy) e⟩
  · exact Nat.ne_of_lt (Nat.lt_of_lt_of_le (fplt b hb) hC)
  · obtain ⟨_, _, _, _, f4, _⟩ := hf b hb
    exact f4 y c (clo_of hfree h).2 z
  · obtain ⟨_, _, _, f3, _⟩ := hf b hm
    rcases f3 with z | z
    · exact I.ok.noex b o e z
    · exact absurd (Nat.lt_of_lt_of_le (Heap.lt_size e) (Nat.le_trans I.ok.bsz z)) (Nat.lt_irrefl _)
  · by_cases hb : b = P
    · obtain ⟨ps, e2, _⟩ := hp
      exact ⟨_, by rw [hb]; exact e2⟩
    · exact ⟨o, k b o hb e⟩
  · by_cases hix : i < xs.length
    · rw [List.getElem?_append_left (by unfold none0; rw [List.length_map]; exact hix)] at h2
      unfold none0 at h2
      rw [List.getElem?_map, List.getElem?_eq_getElem hix] at h2
      cases h2
    · obtain ⟨i, rfl⟩ : ∃ j, i = xs.length + j := ⟨i - xs.length, by omega⟩
      have hln : (none0 xs).length = xs.length := List.length_map _
      rw [List.getElem?_append_right (by omega), Nat.add_sub_cancel_left] at h1
      rw [List.getElem?_append_right (by omega), hln, Nat.add_sub_cancel_left] at h2
      have h1' : (ns.map (·.1))[i]? = some y := h1
      have h2' : (capsOf σ ns)[i]? = some (some v) := h2
      unfold capsOf at h2'
      rw [List.getElem?_map] at h1' h2'
      cases e : ns[i]? with
      | none => rw [e] at h1'; cases h1'
      | some p =>
        rw [e] at h1' h2'
        have e1 : p.1 = y := Option.some.inj h1'
        have e2 : (σ[p.2]?).join = some v := Option.some.inj h2'
        obtain ⟨c1, c2⟩ := S.caps p (List.mem_of_getElem? e)
        obtain ⟨m, hm, hl⟩ := I.loc
        have e3 : σ[p.2]? = some (some v) := by
          cases q : σ[p.2]? with
          | none => rw [q] at e2; cases e2
          | some w => rw [q] at e2; have e2' : w = some v := e2; rw [e2']
        have hk := S.free _ c2 rfl
        have hvis : Vis X.env.scope p.1 := .inr hk
        obtain ⟨u, r, lk⟩ := hl p.2 p.1 v c1 e3 hvis
        refine ⟨u, r, ?_⟩
        rcases lk with ⟨kl, _⟩ | ⟨_, c, hc, ic⟩
        · have kl' : X.env.scope.names.lookup p.1 = some .local := kl
          rcases hk with hk | hk
          · rw [show X.env.scope.names.lookup p.1 = some .cell from hk] at kl'; cases kl'
          · rw [show X.env.scope.names.lookup p.1 = some .free from hk] at kl'; cases kl'
        · rw [← e1]
          refine .inr ⟨.inr (S.uniq _ c2), c, clo_lookup c2 hc, ?_⟩
          obtain ⟨oc, ho', hd'⟩ := ic
          exact ⟨oc, k c oc (nP c (I.freeC _ _ hc)) ho', hd'⟩
  · have hc := (clo_of hfree h).2
    obtain ⟨v, oc, ho', hd'⟩ := I.cell y c hc
    exact ⟨v, oc, k c oc (nP c (I.freeC _ _ hc)) ho', hd'⟩
  · exact I.freeC _ _ (clo_of hfree h).2
  · have hp2 : p ∈ [(a, go)] := hp'
    rw [List.mem_singleton.mp hp2]
    have hsa : s.heap.objs.size ≤ a := Nat.le_trans hC (Nat.le_of_lt ha)
    exact ⟨hgo, I.hok.fresh hsa, Nat.ne_of_gt ha, noA a hsa, hgd⟩
  · by_cases hb : b = P
    · rw [hb, hP] at e
      cases e
      rw [hb]
      exact tab_ok hp
    · refine (I.hok b u e).stay (fun c v hc q => k c v ?_ q) (fun _ q => q) fun _ _ q => q
      rcases hc with z | z
      · rw [z]; exact hb
      · intro w
        rw [w, hP] at z
        cases z
  · show (none0 xs ++ capsOf σ ns).length = (xs ++ ns.map (·.1)).length
    unfold capsOf none0
    simp
end
section
variable {G : Cx} {A : Around} {elt iter tg : Expr} {scope : Scope} {pos : Pos} {it a : Addr} {go : Obj} {fp : List Addr} {tn : Nat → Heap → Prop} {J : It} {σ0 : L2.St} {g : TG} {te : TE} {L : Nat} {Pv : Nat → Hp → Prop} {Ye : Nat → V → Hp → Prop}
theorem seg_gloopV (hA : A.over (.compLoop (.GeneratorExp elt [⟨tg, iter, [], 0⟩] scope pos) 0 (.ref it) .none G.env) [] = G.A) (hc : G.calm = true) (hex : G.ex = fp) (hxe : G.xe = fun _ _ => False) (hpn : G.pn = []) (hco : G.env.scope.isCoroutine = false)
    (T : Turn G.prog G.w G.K tg J fp it tn) (hg : PG G tg g) (he : PE G elt te) (ha : ∀ b ∈ fp, a ≠ b)
    (step : ∀ i H, i < L → Pv i H → J.go i H ∧ ∀ y H', J.yld i H y H' → g y σ0 H' fun σ1 H1 => Keep2 σ0 σ1 ∧ te σ1 H1 (Ye i)) (stop : ∀ H, Pv L H → J.stop L H) :
    ∀ (k i : Nat) (s₀ s : Shared) (H : Hp), L - i = k → i ≤ L → Inv G [(a, go)] (σ0) H s → tn i s.heap → (∀ b ∈ fp, H b = none) → Pv i H →
      Seg (model G.prog G.w) A (fun n s₀ r s₁ => r = .ok .next ∧ GEndV G a go σ0 L Pv n s₀ s₁) (GYldV G a go σ0 L Pv Ye) (k + 1) s₀
        (.compLoop (.GeneratorExp elt [⟨tg, iter, [], 0⟩] scope pos) 0 (.ref it) .none G.env)
        ((model G.prog G.w).den (.compLoop (.GeneratorExp elt [⟨tg, iter, [], 0⟩] scope pos) 0 (.ref it) .none G.env)) [] s := by
  have fpok : ∀ {H : Hp} {σ : L2.St} {s : Shared}, Inv G [(a, go)] σ H s → (∀ b ∈ fp, H b = none) → ∀ b ∈ fp, FpOk G [(a, go)] H b := fun {H σ s} I hn b hb => by
    have hb' : b ∈ G.ex := by rw [hex]; exact hb
    obtain ⟨e1, e2⟩ := I.ok.exf b hb'
    refine ⟨hn b hb, e1, I.ok.exfs b hb', .inl hb', e2, fun p hp => ?_⟩
    rw [hpn, List.nil_append] at hp
    rw [List.mem_singleton.mp hp]
    exact ha b hb
  intro k
  induction k with
  | zero =>
    intro i s₀ s H hk hi I st fr pv
    have hin : i = L := by omega
    subst hin
    show Seg _ A _ _ _ s₀ _ ((compTurn (.GeneratorExp elt [⟨tg, iter, [], 0⟩] scope pos) 0 (.ref it) .none G.env).onRaise (leaving G.env)) [] s
    rw [compTurn_gen, Sem.onRaise_eq_wrap]
    refine seg_bind_wrap (wpAny_standAt ?_)
    refine seg_bind_wrap ?_
    rw [hA]
    refine thn (T.done G rfl rfl rfl hc i _ s _ H _ I (fpok I fr) st (stop H pv)) fun r s1 ⟨hr, I1⟩ => ?_
    subst hr
    exact seg_end (.ok .next) ⟨rfl, rfl, H, I1, pv⟩
  | succ k ih =>
    intro i s₀ s H hk hi I st fr pv
    have hlt : i < L := by omega
    obtain ⟨hgo, hstep⟩ := step i H hlt pv
    show Seg _ A _ _ _ s₀ _ ((compTurn (.GeneratorExp elt [⟨tg, iter, [], 0⟩] scope pos) 0 (.ref it) .none G.env).onRaise (leaving G.env)) [] s
    rw [compTurn_gen, Sem.onRaise_eq_wrap]
    refine seg_bind_wrap (wpAny_standAt ?_)
    refine seg_bind_wrap ?_
    rw [hA]
    refine thn (T.item G rfl rfl rfl hc i _ s _ H _ I (fpok I fr) st hgo) fun r s1 ⟨u, hr, h1⟩ => ?_
    subst hr
    refine seg_bind_wrap ?_
    rw [hA]
    refine thn h1 fun _ s2 ⟨y, H2, I2, ru, yl, st2, fr2⟩ => ?_
    have I2p := I2.pinned (fpok I2 fr2) (T.obj _ _ st2)
    refine seg_bind_wrap ?_
    rw [hA]
    refine wpAny_mono (hg.run _ s2 _ H2 y u (fun σ' H' => Keep2 σ0 σ' ∧ te σ' H' (Ye i)) I2p ru (hstep y _ yl)) (fun _ s3 h3 => ?_) (fun e s' hx => by rw [hxe] at hx; exact hx.elim)
    obtain ⟨σ3, H3, I3, kp, hte⟩ := h3
    simp only [List.forIn_nil]
    refine seg_bind_wrap (wpAny_pure ?_)
    simp only [if_true]
    have hy : ∀ v, yieldOut G.env v = yieldValue v := fun v => by simp only [yieldOut, hco, Bool.false_eq_true, if_false]
    simp only [hy]
    rw [Sem.bind_eq_wrap', Sem.bind_eq_wrap', Sem.wrap_wrap, Sem.wrap_wrap]
    refine seg_wrap ?_
    rw [hA]
    refine wpAny_mono (he.run _ s3 _ _ (Ye i) I3 hte) (fun v s4 h4 => ?_) (fun e s' hx => by rw [hxe] at hx; exact hx.elim)
    obtain ⟨y4, H4, I4, r4, q4⟩ := h4
    have pinAt : ∀ b ∈ fp, ∀ o, s2.heap.get? b = some o → s4.heap.get? b = some o ∧ H4 b = none := fun b hb o e =>
      let z := I4.pin (b, o) (List.mem_append_right _ (List.mem_append_right _ (mem_pinsAt hb e))); ⟨z.1, z.2.1⟩
    have st4 : tn (i + 1) s4.heap := T.keep _ _ _ st2 fun b hb o e => (pinAt b hb o e).1
    have fr4 : ∀ b ∈ fp, H4 b = none := fun b hb => by
      obtain ⟨o, e, _⟩ := T.obj _ _ st2 b hb
      exact (pinAt b hb o e).2
    have I4w : Inv G [(a, go)] σ0 H4 s4 := I4.unpinned.weak kp.1.symm kp.2
    refine seg_at (seg_yield rfl rfl rfl ⟨i, y4, H4, hlt, by omega, r4, I4w, q4, fun s5 H5 I5 un pv5 => ?_⟩)
    exact seg_again rfl (ih (i + 1) s5 s5 H5 (by omega) hlt I5 (T.keep _ _ _ st4 fun b hb o e => (un b o (fr4 b hb) e).2) (fun b hb => let ⟨o, e, _⟩ := T.obj _ _ st4 b hb; (un b o (fr4 b hb) e).1) pv5)

theorem seg_gstartV (hA : A.over (.compLoop (.GeneratorExp elt [⟨tg, iter, [], 0⟩] scope pos) 0 (.ref it) .none G.env) [] = G.A) (hc : G.calm = true) (hex : G.ex = fp) (hxe : G.xe = fun _ _ => False) (hpn : G.pn = []) (hco : G.env.scope.isCoroutine = false)
    (T : Turn G.prog G.w G.K tg J fp it tn) (hg : PG G tg g) (he : PE G elt te) (ha : ∀ b ∈ fp, a ≠ b)
    (step : ∀ i H, i < L → Pv i H → J.go i H ∧ ∀ y H', J.yld i H y H' → g y σ0 H' fun σ1 H1 => Keep2 σ0 σ1 ∧ te σ1 H1 (Ye i)) (stop : ∀ H, Pv L H → J.stop L H)
    (s₀ s : Shared) (H : Hp) (I : Inv G [(a, go)] (σ0) H s) (st : tn 0 s.heap) (fr : ∀ b ∈ fp, H b = none) (pv : Pv 0 H) :
      Seg (model G.prog G.w) A (fun n s₀ r s₁ => r = .ok .next ∧ GEndV G a go σ0 L Pv n s₀ s₁) (GYldV G a go σ0 L Pv Ye) (L + 1) s₀
        (.compStart (.GeneratorExp elt [⟨tg, iter, [], 0⟩] scope pos) 0 (.ref it) .none G.env)
        ((model G.prog G.w).den (.compStart (.GeneratorExp elt [⟨tg, iter, [], 0⟩] scope pos) 0 (.ref it) .none G.env)) [] s := by
  have loop := seg_gloopV (a := a) (go := go) hA hc hex hxe hpn hco T hg he ha step stop L 0 s₀ s H (Nat.sub_zero _) (Nat.zero_le _) I st fr pv
  show Seg _ A _ _ _ s₀ _ ((compStart (.GeneratorExp elt [⟨tg, iter, [], 0⟩] scope pos) 0 (.ref it) .none G.env).onRaise (leaving G.env)) [] s
  unfold compStart
  rw [Sem.onRaise_eq_wrap]
  show Seg _ A _ _ _ s₀ _ ((ask >>= _).wrap _ _ _ _) [] s
  refine seg_bind_wrap (wpAny_askSetting ?_)
  split
  · exact seg_again rfl loop
  · first
      | exact seg_bind_wrap (wpAny_rule (seg_bind_wrap (wpAny_standAt (seg_bind_wrap (T.self _ 0 s _ _ st (seg_again rfl loop))))))
      | (refine seg_bind_wrap (wpAny_rule ?_); show Seg _ A _ _ _ s₀ _ ((standAt iter.pos >>= _).wrap _ _ _ _) [] s; exact seg_bind_wrap (wpAny_standAt (seg_bind_wrap (T.self _ 0 s _ _ st (seg_again rfl loop)))))
end
/-- what stands when a generator expression has been made -/
def GReadyV (X : Cx) (pins : List (Addr × Obj)) (σ : L2.St) (J : It) (H2 : Hp) (g : TG) (te : TE) (σ0 : L2.St) (k : Nat) (a : Addr) (s5 : Shared) : Prop :=
  ∃ (gi : Nat) (go : Obj) (c : Code), (∀ h : Heap, h.get? a = some go → h.IsGen a gi) ∧ s5.gens[gi]? = some (.fresh c) ∧
    ∀ A : Around, Room (k + 1) A → A.frames = some X.stack → ∃ G : Cx, G.prog = X.prog ∧ G.w = X.w ∧ (∀ H' s', Inv G [(a, go)] (σ0) H' s' → Inv X pins σ H' s') ∧ Inv G [(a, go)] (σ0) H2 s5 ∧
      ∀ (L : Nat) (Pv : Nat → Hp → Prop) (Ye : Nat → V → Hp → Prop), (∀ i H, i < L → Pv i H → J.go i H ∧ ∀ y H', J.yld i H y H' → g y σ0 H' fun σ1 H1 => Keep2 σ0 σ1 ∧ te σ1 H1 (Ye i)) → (∀ H, Pv L H → J.stop L H) →
        ∀ s' H', Inv G [(a, go)] σ0 H' s' → Unt H2 s5 H' s' → Pv 0 H' →
          (GenState.fresh c).Goes (model X.prog X.w) A (fun n s₀ r s₁ => r = .ok .next ∧ GEndV G a go σ0 L Pv n s₀ s₁) (GYldV G a go σ0 L Pv Ye) (L + 1) (.send .none) s'
section
variable {X : Cx} {pins : List (Addr × Obj)} {σ : L2.St} {H : Hp} {s : Shared}
theorem gen_madeV {c P : Addr} {elt iter : Expr} {tg : Expr} {xs : List Str} {gpos : Pos} {scope : Scope} {ns : List (Str × Nat)} {wi : TI} {g : TG} {te : TE} {k k' : Nat} {Q' : Value → Shared → Prop} {R : It → Hp → Prop}
    (hr : Room k X.A) (TB : TabB X.base X.mg c P) (hcode : X.env.code = .ref c) (S : GOkV X.N X.env.scope scope xs ns) (hi : PI X tg iter wi)
    (hg : ∀ (s : Shared) (H : Hp) (C : Addr) (code : Value) (fp : List Addr) (A : Around), PG (gcx X s H (xs ++ ns.map (·.1)) (genEnv scope (cloFrom X.env.cells scope.names []) C code builtinsNs X.env) fp A) tg g)
    (he : ∀ (s : Shared) (H : Hp) (C : Addr) (code : Value) (fp : List Addr) (A : Around), Room k' A → PE (gcx X s H (xs ++ ns.map (·.1)) (genEnv scope (cloFrom X.env.cells scope.names []) C code builtinsNs X.env) fp A) elt te)
    (hs : ∀ v, genFold iter X.env v = pure v) (I : Inv X pins σ H s) (h : wi σ H fun J H1 => H1 P = some (TabO P) ∧ R J H1)
    (hQ : ∀ J H2 a s5, R J H2 → GReadyV X pins σ J H2 g te (none0 xs ++ capsOf σ ns) k' a s5 → Q' (.ref a) s5) :
    wpAny (model X.prog X.w) X.A (eval (.GeneratorExp elt [⟨tg, iter, [], 0⟩] scope gpos) X.env) Q' X.xe s := by
  have hfree : ∀ y ∈ scope.names, y.2 = .free → ∃ c, X.env.cells.lookup y.1 = some c := fun y hy e => by
    rcases S.free y hy e with k | k
    · exact I.ok.has _ (.inl k)
    · exact I.ok.has _ (.inr k)
  refine wpAny_GeneratorExp_make S.co (closure_ok hfree) S.cell S.dot S.kind (by have := hr.dp; omega) (thn (hi.run pins s σ H _ I h) fun xv s1 hx => thn hx fun itv s2 h2 => ?_) hs
  obtain ⟨it, fp, tn, J, H2, e, I2, T, st2, f2, hP, q⟩ := h2
  subst e
  obtain ⟨⟨ps, hPs, ht⟩, _, _⟩ := I2.hok P _ hP
  have hPlt : P < s2.heap.objs.size := Heap.lt_size hPs
  have cd : PySem.W.CodeHd s2.heap c P := TB.code.keeps fun b u e => I2.bk b u e
  have cont : ∀ (code : Value) (h3 : Heap) (tk : Nat), Heap.ExtBut P s2.heap h3 → s2.heap.objs.size ≤ h3.objs.size → tabPhi P h3 →
      wpAny (model X.prog X.w) X.A (builtinsFor X.env.globals X.env.builtins) (fun bi s₄ =>
        ∀ h', h'.Ns s₄.heap.objs.size (fun y => if y = ".0" then some (.ref it) else none) → Heap.SameBut s₄.heap.objs.size (s₄.heap.push { cls := .type "frame", data := .dict #[] }) h' →
          Q' (.ref h'.objs.size) { s₄ with
            gens := s₄.gens.push (.fresh (.compStart (.GeneratorExp elt [⟨tg, iter, [], 0⟩] scope gpos) 0 (.ref it) .none (genEnv scope (cloFrom X.env.cells scope.names []) s₄.heap.objs.size code bi X.env))),
            toks := s₄.toks + 1 + 1 + 1,
            heap := h'.push { cls := .type "generator", data := .fields #[.int s₄.gens.size 0, .str "<genexpr>" (s₄.toks + 1), .str (X.env.qual ++ "<genexpr>") (s₄.toks + 1 + 1)] } }) X.xe { s2 with heap := h3, toks := tk } := by
    intro code h3 tk hx hsz hp3
    obtain ⟨bm, ob, e1, e2, e3, e4, e5, e6, e7, e8⟩ := TB.bm
    have keep3 : ∀ b u, b ≠ P → s2.heap.get? b = some u → h3.get? b = some u := fun b u hb e => hx b u hb e
    refine wpAny_builtinsFor (m := X.mg) (by rw [I2.ok.glob]; exact (I2.mod.glob.keeps I2.bk).extBut hx TB.gP) e1 e2 (keep3 _ _ e4 (I2.bk _ _ e5)) e6 e7 e8 ?_
    intro h' hn' hs'
    have hn' : h'.Ns h3.objs.size (fun y => if y = ".0" then some (.ref it) else none) := hn'
    have hs' : Heap.SameBut h3.objs.size (h3.push { cls := .type "frame", data := .dict #[] }) h' := hs'
    have hsz' : h'.objs.size = h3.objs.size + 1 := by rw [hs'.1, Heap.size_push]
    have keep' : ∀ b o, h3.get? b = some o → h'.get? b = some o := fun b o e => hs'.extBut b o (Nat.ne_of_lt (Heap.lt_size e)) (Heap.get?_push_of_some _ e)
    generalize hgo : ({ cls := .type "generator", data := .fields #[.int s2.gens.size 0, .str "<genexpr>" (tk + 1), .str (X.env.qual ++ "<genexpr>") (tk + 1 + 1)] } : Obj) = go
    have hgen : ∀ h : Heap, h.get? h'.objs.size = some go → h.IsGen h'.objs.size s2.gens.size := fun h e => ⟨go, _, _, e, by rw [← hgo], by rw [← hgo], by rw [← hgo]⟩
    have hgd : ∀ v, go.data ≠ .cell v := fun v z => by rw [← hgo] at z; cases z
    have hself : (h'.push go).get? h'.objs.size = some go := Heap.get?_push_size _ (by rw [← hgo]; rfl)
    have keep5 : ∀ b o, b ≠ P → s2.heap.get? b = some o → (h'.push go).get? b = some o := fun b o hb e => Heap.get?_push_of_some _ (keep' b o (keep3 b o hb e))
    have phi5 : tabPhi P (h'.push go) := tab_stay _ _ hp3 fun o e => Heap.get?_push_of_some _ (keep' _ o e)
    have CP : fp = fp := rfl
    have hfo : ∀ b ∈ fp, ∃ o, s2.heap.get? b = some o := fun b hb => let ⟨o, e, _⟩ := T.obj _ _ st2 b hb; ⟨o, e⟩
    have fpP : ∀ b ∈ fp, b ≠ P := fun b hb z => by
      obtain ⟨f0, _⟩ := f2 b hb
      rw [z, hP] at f0
      cases f0
    refine hQ J H2 h'.objs.size _ q ?_
    refine ⟨s2.gens.size, go, _, hgen, Array.getElem?_push_size .., fun A hA hfr => ?_⟩
    have hAf : (A.over (.compLoop (.GeneratorExp elt [⟨tg, iter, [], 0⟩] scope gpos) 0 (.ref it) .none (genEnv scope (cloFrom X.env.cells scope.names []) h3.objs.size code builtinsNs X.env)) []).frames = some ((genEnv scope (cloFrom X.env.cells scope.names []) h3.objs.size code builtinsNs X.env) :: X.stack) := by
      show pushEnvs [(genEnv scope (cloFrom X.env.cells scope.names []) h3.objs.size code builtinsNs X.env)] (pushEnvs [] A.frames) = _
      rw [hfr]
      rfl
    have hAr : Room k' (A.over (.compLoop (.GeneratorExp elt [⟨tg, iter, [], 0⟩] scope gpos) 0 (.ref it) .none (genEnv scope (cloFrom X.env.cells scope.names []) h3.objs.size code builtinsNs X.env)) []) := by
      refine ⟨hA.hd, ?_, ?_⟩
      · have := hA.dp
        show A.depth + 1 + 3 * k' + 5 < _
        omega
      · have := hA.un
        show A.units + 3 + 16 * k' + 200 < _
        omega
    have I5 := inv_genV (s5 := { s2 with gens := s2.gens.push (.fresh (.compStart (.GeneratorExp elt [⟨tg, iter, [], 0⟩] scope gpos) 0 (.ref it) .none (genEnv scope (cloFrom X.env.cells scope.names []) h3.objs.size code builtinsNs X.env))), toks := tk + 1 + 1 + 1, heap := h'.push go }) (code := code) (it := .ref it) (A := A.over (.compLoop (.GeneratorExp elt [⟨tg, iter, [], 0⟩] scope gpos) 0 (.ref it) .none (genEnv scope (cloFrom X.env.cells scope.names []) h3.objs.size code builtinsNs X.env)) []) (a := h'.objs.size)
      I2 S hP f2 hfo hAf hAr.hd hsz (by rw [hsz']; exact Nat.lt_succ_self _) rfl (I2.bare.push rfl) keep5 phi5 (hn'.push _) hself hgd
    refine ⟨gcx X s2 H2 (xs ++ ns.map (·.1)) (genEnv scope (cloFrom X.env.cells scope.names []) h3.objs.size code builtinsNs X.env) fp (A.over (.compLoop (.GeneratorExp elt [⟨tg, iter, [], 0⟩] scope gpos) 0 (.ref it) .none (genEnv scope (cloFrom X.env.cells scope.names []) h3.objs.size code builtinsNs X.env)) []), rfl, rfl, fun H' s' J' => inv_back I2 f2 J', I5, fun L Pv Ye step stop s' H' I' un pv => ⟨rfl, ?_⟩⟩
    refine seg_gstartV (G := gcx X s2 H2 (xs ++ ns.map (·.1)) (genEnv scope (cloFrom X.env.cells scope.names []) h3.objs.size code builtinsNs X.env) fp (A.over (.compLoop (.GeneratorExp elt [⟨tg, iter, [], 0⟩] scope gpos) 0 (.ref it) .none (genEnv scope (cloFrom X.env.cells scope.names []) h3.objs.size code builtinsNs X.env)) [])) (fp := fp) (tn := tn) (J := J) rfl rfl rfl rfl rfl (S.co) T ?_ ?_ (fun b hb z => ?_) step stop s' s' H' I' ?_ (fun b hb => let ⟨o, e⟩ := hfo b hb; (un b o ((f2 b hb).1) (keep5 b o (fpP b hb) e)).1) pv
    · exact hg s2 H2 h3.objs.size code fp _
    · exact he s2 H2 h3.objs.size code fp (A.over (.compLoop (.GeneratorExp elt [⟨tg, iter, [], 0⟩] scope gpos) 0 (.ref it) .none (genEnv scope (cloFrom X.env.cells scope.names []) h3.objs.size code builtinsNs X.env)) []) hAr
    · obtain ⟨o, e⟩ := hfo b hb
      have h1 := Heap.lt_size e
      rw [← z, hsz'] at h1
      have h1' : h3.objs.size + 1 < s2.heap.objs.size := h1
      omega
    · exact T.keep _ _ _ st2 fun b hb o e => (un b o ((f2 b hb).1) (keep5 b o (fpP b hb) e)).2
  refine ⟨I2.nolimit, ?_⟩
  cases hf : codeAmong gpos ps.toList with
  | none =>
    refine wpAny_genexprCodeX hcode (cd.code hPs ht) (cd.tab hPs) hf fun c' h' tk hx hge hlt hco' _ htab' _ => ?_
    obtain ⟨o1, vs, f1, tf, fl, tg, inF, tx, tt, op, _, _, _, _, _, _, _, _, _, htr, _⟩ := hco'
    exact cont _ h' tk hx (Nat.le_trans hge (Nat.le_of_lt hlt)) ⟨_, htab'.2, htr⟩
  | some cv =>
    refine wpAny_genexprCode_hit hcode (cd.code hPs ht) hf ?_
    exact cont cv s2.heap s2.toks (Heap.ExtBut.refl _ _) (Nat.le_refl _) ⟨ps, hPs, ht⟩

end
end Gx
end

section
set_option Elab.async false
set_option linter.all false
set_option maxRecDepth 100000
set_option maxHeartbeats 4000000
/-! sum(..) of a generator expression. -/
namespace Gx
open PySem PySem.Spec PyProof.Rows L2 GxR
theorem codeAny_sumG {A0 : Around} {a S : Addr} {g : Nat} {go : Obj} {G : Cx} {σ0 : L2.St} {L : Nat} {Pv : Nat → Hp → Prop} {Ye : Nat → V → Hp → Prop} {val : Nat → Int} {R' : Result → Shared → Prop} {prog : Program} {w : World}
    (hG : G.prog = prog ∧ G.w = w) (hh : A0.handled = none) (hroom : A0.depth < recursionLimit) (hgen : ∀ h : Heap, h.get? a = some go → h.IsGen a g)
    (hYe : ∀ i y H, i < L → Ye i y H → y = .int (val i) ∧ H S = some (.lst [.int (preSum val i)]) ∧ Pv (i + 1) (upd H S (.lst [.int (preSum val (i + 1))])))
    (hdone : ∀ H s t, Inv G [(a, go)] σ0 H s → Pv L H → R' (.ok (.ret (.int (preSum val L) t))) s) :
    ∀ (k i : Nat) (s : Shared) (gs : GenState) (stage : Int), (stage = 0 ∨ stage = 2) → L - i = k → i ≤ L → (∃ H, Inv G [(a, go)] σ0 H s ∧ H S = some (.lst [.int (preSum val i)])) → s.gens[g]? = some gs →
      (∀ s', s'.heap = s.heap → s'.os = s.os → AllBare s'.gens → gs.Goes (model prog w) A0.in1.in1 (fun n s₀ r s₁ => r = .ok .next ∧ GEndV G a go σ0 L Pv n s₀ s₁) (GYldV G a go σ0 L Pv Ye) (L - i + 1) (.send .none) s') →
      codeAny (model prog w) A0 (.builtin "sum.loop" ⟨[.ref a, .ref S, rawInt stage, rawInt 0], []⟩) R' s := by
  have pin : ∀ {H : Hp} {σ : L2.St} {s : Shared}, Inv G [(a, go)] σ H s → s.heap.IsGen a g := fun I => hgen _ (I.pin (a, go) (List.mem_append_right _ (List.mem_singleton.mpr rfl))).1
  have at1 : ∀ {H : Hp} {σ : L2.St} {s : Shared} {n : Int}, Inv G [(a, go)] σ H s → H S = some (.lst [.int n]) → ∃ (t : Tok) (c : Nat), s.heap.get? S = some { cls := .type "list", data := .seq [Value.int n t].toArray c } := fun I hS => by
    obtain ⟨z, its, c, r, hl, e⟩ := I.lstM hS
    obtain ⟨u, rfl, ru⟩ := r.one
    obtain ⟨t, rfl⟩ := ru
    exact ⟨t, c, e⟩
  intro k
  induction k with
  | zero =>
    intro i s gs stage hstage hk hi ⟨H, I, hS⟩ hgs hgo
    have hin : i = L := by omega
    subst hin
    obtain ⟨tA, c, eS⟩ := at1 I hS
    refine codeAny_builtin F.entry_sum_loop ?_
    rw [Around.under_plainId F.plain_sum_loop _]
    show wpAny _ A0.in1 (seqItems? (.ref S) >>= _) _ _ s
    refine wpAny_bind (wpAny_seqItems eS rfl ?_)
    show wpAny _ A0.in1 (tryCatch (pyNext (.ref a)) _ >>= _) _ _ s
    refine wpAny_bind (wpAny_tryCatch (wpAny_pyNext_genexpQ (n := i - i + 1) (P := GEndV G a go σ0 i Pv) hh I.nolimit hroom (pin I) hgs (hgo _ rfl rfl (bare_set I.bare rfl)) (fun v s₁ gs' hb hv => ?_) (fun s₁ hp h' hk => ?_)))
    · obtain ⟨j, y, H2, hl, hj, _⟩ := hv
      have hj' : i - i + 1 - 1 + j = i := hj
      omega
    · obtain ⟨_, H2, I2, pv⟩ := hp
      refine wpAny_pure ?_
      exact hdone H2 _ tA (inv_same ((inv_same I2 rfl rfl (s' := s₁.setGen g .finished) (bare_set I2.bare rfl)).kept (t' := s₁.toks) hk) rfl rfl (bare_set I2.bare rfl)) pv
  | succ k ih =>
    intro i s gs stage hstage hk hi ⟨H, I, hS⟩ hgs hgo
    have hlt : i < L := by omega
    obtain ⟨tA, c, eS⟩ := at1 I hS
    refine codeAny_builtin F.entry_sum_loop ?_
    rw [Around.under_plainId F.plain_sum_loop _]
    show wpAny _ A0.in1 (seqItems? (.ref S) >>= _) _ _ s
    refine wpAny_bind (wpAny_seqItems eS rfl ?_)
    show wpAny _ A0.in1 (tryCatch (pyNext (.ref a)) _ >>= _) _ _ s
    have hsz : g + 1 ≤ s.gens.size := (Array.getElem?_eq_some_iff.mp hgs).1
    refine wpAny_bind (wpAny_tryCatch (GenW.wpAny_gsz hsz (wpAny_pyNext_genexpQ (n := L - i + 1) (P := GEndV G a go σ0 L Pv) hh I.nolimit hroom (pin I) hgs (hgo _ rfl rfl (bare_set I.bare rfl)) (fun v s₁ gs' hb hv => ?_) (fun s₁ hp h' hk => ?_))))
    · obtain ⟨j, y, H2, hl, hj, r2, I2, ye, kap⟩ := hv
      have hj' : L - i + 1 - 1 + j = L := hj
      have hji : j = i := by omega
      subst hji
      obtain ⟨ey, hS2, pv⟩ := hYe j y H2 hlt ye
      subst ey
      obtain ⟨t, ev⟩ := r2
      subst ev
      intro hz
      rw [GenW.setGen_size] at hz
      have I3 : Inv G [(a, go)] σ0 H2 (s₁.setGen g gs') := inv_same I2 rfl rfl (bare_set I2.bare hb)
      obtain ⟨tB, c2, eS2⟩ := at1 I3 hS2
      -- what follows the write
      have next : ∀ (tk tok : Nat) (stage : Int), (stage = 0 ∨ stage = 2) →
          codeAny (model prog w) A0 (.builtin "sum.loop" ⟨[.ref a, .ref S, rawInt stage, rawInt 0], []⟩) R' { (s₁.setGen g gs') with heap := (s₁.setGen g gs').heap.update S (Obj.mapSeq fun _ => #[Value.int (preSum val j + val j) tk]), toks := tok } := by
        intro tk tok stage hstage
        have I4 := I3.lset (ys := [.int (preSum val (j + 1))]) (its' := [Value.int (preSum val j + val j) tk]) (f := fun _ => #[Value.int (preSum val j + val j) tk]) (t' := tok) hS2 eS2 (by simp) (.cons ⟨tk, rfl⟩ .nil) (by rw [sizeLine_eq]; exact Nat.le_of_ble_eq_true rfl)
        refine ih (j + 1) _ gs' stage hstage (by omega) hl ⟨_, I4, upd_same⟩ (setGen_at hz) fun s' eh eo eb => ?_
        have e : L - j = L - (j + 1) + 1 := by omega
        have := kap s' (upd H2 S (.lst [.int (preSum val (j + 1))])) (inv_same I4 eh eo eb) (fun b o hb ho => ?_) pv
        · rw [e] at this
          exact this
        · have hbS : b ≠ S := fun z => by rw [z, hS2] at hb; cases hb
          refine ⟨by rw [upd_ne hbS]; exact hb, ?_⟩
          rw [eh]
          exact (Heap.get?_update_other _ _ (Ne.symm hbS)).trans ho
      -- the twice written
      have next2 : ∀ (tk tok : Nat) (stage : Int), (stage = 0 ∨ stage = 2) →
          codeAny (model prog w) A0 (.builtin "sum.loop" ⟨[.ref a, .ref S, rawInt stage, rawInt 0], []⟩) R' { (s₁.setGen g gs') with heap := ((s₁.setGen g gs').heap.update S (Obj.mapSeq fun _ => #[Value.int (preSum val j + val j) tk])).update S (Obj.mapSeq fun _ => #[Value.int (preSum val j + val j) tk]), toks := tok } := by
        intro tk tok stage hstage
        have I4 := I3.lset (ys := [.int (preSum val (j + 1))]) (its' := [Value.int (preSum val j + val j) tk]) (f := fun _ => #[Value.int (preSum val j + val j) tk]) (t' := tok) hS2 eS2 (by simp) (.cons ⟨tk, rfl⟩ .nil) (by rw [sizeLine_eq]; exact Nat.le_of_ble_eq_true rfl)
        obtain ⟨z5, its5, c5, r5, hl5, e5⟩ := I4.lstM upd_same
        have I5 := I4.lset (ys := [.int (preSum val (j + 1))]) (its' := [Value.int (preSum val j + val j) tk]) (f := fun _ => #[Value.int (preSum val j + val j) tk]) (t' := tok) upd_same e5 (by simp) (.cons ⟨tk, rfl⟩ .nil) (by rw [sizeLine_eq]; exact Nat.le_of_ble_eq_true rfl)
        rw [upd_upd] at I5
        refine ih (j + 1) _ gs' stage hstage (by omega) hl ⟨_, I5, upd_same⟩ (setGen_at hz) fun s' eh eo eb => ?_
        have e : L - j = L - (j + 1) + 1 := by omega
        have := kap s' (upd H2 S (.lst [.int (preSum val (j + 1))])) (inv_same I5 eh eo eb) (fun b o hb ho => ?_) pv
        · rw [e] at this
          exact this
        · have hbS : b ≠ S := fun z => by rw [z, hS2] at hb; cases hb
          refine ⟨by rw [upd_ne hbS]; exact hb, ?_⟩
          rw [eh]
          exact (Heap.get?_update_other _ _ (Ne.symm hbS)).trans ((Heap.get?_update_other _ _ (Ne.symm hbS)).trans ho)
      rcases hstage with rfl | rfl
      · show wpAny _ A0.in1 (if (_ : Bool) = true then (mkInt (preSum val j + val j) >>= _) else _) _ _ _
        split
        · refine wpAny_bind (wpAny_mkInt ?_)
          show wpAny _ A0.in1 (updateSeq S (fun _ => #[.int (preSum val j + val j) _]) >>= _) _ _ _
          refine wpAny_bind ?_
          refine wpAny_updateSeq eS2 rfl (wpAny_pure ⟨plainId_quiet F.plain_sum_loop _, ?_⟩)
          exact next _ _ 0 (Or.inl rfl)
        · refine wpAny_bind (wpAny_rule ?_)
          refine wpAny_bind (wpAny_attempt (wpAny_holding (PySem.P.add_int ?_)))
          show wpAny _ A0.in1 (updateSeq S (fun _ => #[.int (preSum val j + val j) _]) >>= _) _ _ _
          refine wpAny_bind ?_
          refine wpAny_updateSeq eS2 rfl ?_
          have hS3 := Heap.get?_update_self (Obj.mapSeq fun _ => #[Value.int (preSum val j + val j) (s₁.setGen g gs').toks]) eS2 rfl
          refine wpAny_bind (wpAny_letGo ?_)
          refine wpAny_bind ?_
          refine wpAny_updateSeq hS3 rfl (wpAny_pure ⟨plainId_quiet F.plain_sum_loop _, ?_⟩)
          exact next2 _ _ 2 (Or.inr rfl)
      · show wpAny _ A0.in1 ((holding [Value.int (val j) t] (binaryOp .Add (.int (preSum val j) tA) (.int (val j) t))).attempt >>= _) _ _ _
        refine wpAny_bind (wpAny_attempt (wpAny_holding (PySem.P.add_int ?_)))
        show wpAny _ A0.in1 (updateSeq S (fun _ => #[.int (preSum val j + val j) _]) >>= _) _ _ _
        refine wpAny_bind ?_
        refine wpAny_updateSeq eS2 rfl ?_
        have hS3 := Heap.get?_update_self (Obj.mapSeq fun _ => #[Value.int (preSum val j + val j) (s₁.setGen g gs').toks]) eS2 rfl
        refine wpAny_bind (wpAny_letGo ?_)
        refine wpAny_bind ?_
        refine wpAny_updateSeq hS3 rfl (wpAny_pure ⟨plainId_quiet F.plain_sum_loop _, ?_⟩)
        exact next2 _ _ 2 (Or.inr rfl)
    · obtain ⟨h0, _⟩ := hp
      have h0' : L - i + 1 = 1 := h0
      omega

/-- sum(elt for t in iter): the list S holds the sum so far -/
def rSumG (g : TG) (te : TE) (σ0 : L2.St) (Q : VK) : It → Hp → Prop := fun J H1 => ∃ (L : Nat) (val : Nat → Int), ∀ S, H1 S = none → ∃ Pv : Nat → Hp → Prop, Pv 0 (upd H1 S (.lst [.int 0])) ∧
  (∀ H, Pv L H → J.stop L H ∧ Q (.int (preSum val L)) H) ∧
  ∀ i H, i < L → Pv i H → J.go i H ∧ ∀ y H', J.yld i H y H' → g y σ0 H' fun σ1 H1' => Keep2 σ0 σ1 ∧ te σ1 H1' fun z H2 => z = .int (val i) ∧ H2 S = some (.lst [.int (preSum val i)]) ∧ Pv (i + 1) (upd H2 S (.lst [.int (preSum val (i + 1))]))
def tSumG (P : Addr) (wi : TI) (g : TG) (te : TE) (xs : List Str) (ns : List (Str × Nat)) : TE := fun σ H Q => wi σ H fun J H1 => H1 P = some (TabO P) ∧ rSumG g te (none0 xs ++ capsOf σ ns) Q J H1
section
variable {X : Cx}
theorem pe_sumG {c P : Addr} {elt iter tg : Expr} {xs : List Str} {p pos gpos : Pos} {scope : Scope} {ns : List (Str × Nat)} {wi : TI} {g : TG} {te : TE} {k' : Nat}
    (hr : Room (k' + 3) X.A) (hgl : Gl X "sum") (hm : X.mg "sum" = none) (TB : TabB X.base X.mg c P) (hcode : X.env.code = .ref c) (S : GOkV X.N X.env.scope scope xs ns) (hi : PI X tg iter wi)
    (hg : ∀ (s : Shared) (H : Hp) (C : Addr) (code : Value) (fp : List Addr) (A : Around), PG (gcx X s H (xs ++ ns.map (·.1)) (genEnv scope (cloFrom X.env.cells scope.names []) C code builtinsNs X.env) fp A) tg g)
    (he : ∀ (s : Shared) (H : Hp) (C : Addr) (code : Value) (fp : List Addr) (A : Around), Room k' A → PE (gcx X s H (xs ++ ns.map (·.1)) (genEnv scope (cloFrom X.env.cells scope.names []) C code builtinsNs X.env) fp A) elt te)
    (hs : ∀ v, genFold iter X.env v = pure v := by intro _; rfl) (hb : bootBuiltins "sum" = some (.builtin "sum") := by decide +kernel)
    (hst : starEach [.GeneratorExp elt [⟨tg, iter, [], 0⟩] scope gpos] X.env = (false, eval (.GeneratorExp elt [⟨tg, iter, [], 0⟩] scope gpos) X.env) :: starEach [] X.env := by rfl) :
    PE X (.Call (.Name "sum" p) [.GeneratorExp elt [⟨tg, iter, [], 0⟩] scope gpos] [] pos) (tSumG P wi g te xs ns) := by
  refine ⟨fun pins s σ H Q I h => ?_⟩
  refine wpAny_Call_Name_kw (ld_blt I hgl hm hb ?_)
  refine PyProof.Rows.callWith_builtin1 ?_ hst (by rfl)
  rw [hst]
  show wpAny _ _ (spliced ((false, eval (.GeneratorExp elt [⟨tg, iter, [], 0⟩] scope gpos) X.env) :: backTo pos (starEach [] X.env))) _ _ s
  refine Calls.spliced_cons (gen_madeV (R := rSumG g te (none0 xs ++ capsOf σ ns) Q) hr TB hcode S hi hg he hs I h fun J H1 a s5 hR hG => ?_)
  obtain ⟨gi, go, c5, hgen, hgs, hA⟩ := hG
  have hr1 : Room (k' + 1) X.A.in1.in1 := hr.in1.in1
  obtain ⟨G, hG1, hG2, back, I5, goes⟩ := hA X.A.in1.in1 hr1 (by rw [show X.A.in1.in1.frames = X.A.frames from rfl]; exact I.ok.frames)
  obtain ⟨L, val, hR⟩ := hR
  refine Calls.spliced_nil ?_
  refine call_function_tree F.kind_sum F.plain_sum F.entry_sum (F.args_sum1 _) ?_
  unfold Builtin.«sum»
  simp only [List.length_cons, List.length_nil]
  rw [if_neg (by decide)]
  refine wpAny_bind (wpAny_of_eq (show Builtin.Builtins.bindParams "sum" ["start"] 0 { } = pure [none] from rfl) ?_)
  refine wpAny_bind (wpAny_pyIter_gen (hgen _ (I5.pin (a, go) (List.mem_append_right _ (List.mem_singleton.mpr rfl))).1) ?_)
  refine wpAny_bind (wpAny_mkInt ?_)
  refine wpAny_bind (wpAny_pure ?_)
  simp only [List.forIn_cons, List.forIn_nil]
  refine wpAny_bind (wpAny_bind (wpAny_bind (wpAny_isInstance (T := "int") (b := false) (typeIs_int _ _ _) PySem.sub_int_str ?_)))
  simp only [Bool.false_eq_true, if_false]
  refine wpAny_pure (wpAny_bind (wpAny_bind (wpAny_isInstance (T := "int") (b := false) (typeIs_int _ _ _) PySem.sub_int_bytes ?_)))
  simp only [Bool.false_eq_true, if_false]
  refine wpAny_pure (wpAny_bind (wpAny_bind (wpAny_isInstance (T := "int") (b := false) (typeIs_int _ _ _) PySem.sub_int_bytearray ?_)))
  simp only [Bool.false_eq_true, if_false]
  refine wpAny_pure (wpAny_pure ?_)
  refine wpAny_bind (wpAny_newObj_type ?_)
  refine wpAny_pure ⟨plainId_quiet F.plain_sum_loop _, ?_⟩
  obtain ⟨Pv, p0, hstop, hstep⟩ := hR s5.heap.objs.size I5.fresh
  have I6 := I5.lnew (ys := [.int 0]) (its := [Value.int 0 s5.toks]) (t' := s5.toks + 1) (.cons ⟨_, rfl⟩ .nil) (by rw [sizeLine_eq]; exact Nat.le_of_ble_eq_true rfl)
  refine codeAny_sumG (G := G) (L := L) (Pv := Pv) (val := val) (Ye := fun i z H2 => z = .int (val i) ∧ H2 s5.heap.objs.size = some (.lst [.int (preSum val i)]) ∧ Pv (i + 1) (upd H2 s5.heap.objs.size (.lst [.int (preSum val (i + 1))])))
    ⟨hG1, hG2⟩ hr.hd (by have := hr.dp; show X.A.depth < recursionLimit; omega) hgen (fun i y H _ h => h) (fun H' s' t J' q => ?_) L 0 _ (.fresh c5) 0 (Or.inl rfl) rfl (Nat.zero_le _) ⟨_, I6, upd_same⟩ hgs
    (fun s' eh eo eb => goes L Pv _ (fun i H' hi hp => hstep i H' hi hp) (fun H' hp => (hstop H' hp).1) s' _ (inv_same I6 eh eo eb) (fun b o hb ho => ?_) p0)
  · exact ⟨.int (preSum val L), H', back H' s' J', ⟨t, rfl⟩, (hstop H' q).2⟩
  · have hbS : b ≠ s5.heap.objs.size := Nat.ne_of_lt (Heap.lt_size ho)
    refine ⟨by rw [upd_ne hbS]; exact hb, ?_⟩
    rw [eh]
    exact Heap.get?_push_of_some _ ho
end
end Gx
end

section
set_option Elab.async false
set_option linter.all false
set_option maxRecDepth 100000
set_option maxHeartbeats 4000000
/-! A set comprehension of ints, and its size. -/
namespace Gx
open PySem PySem.Spec PyProof.Rows L2 GxR
def memK (val : Nat → Int) : Nat → Key → Bool
  | 0 => fun _ => false
  | i + 1 => fun j => memK val i j || decide (j = .inl (val i))
def cntK (val : Nat → Int) : Nat → Nat
  | 0 => 0
  | i + 1 => if memK val i (.inl (val i)) = true then cntK val i else cntK val i + 1
theorem cntK_le (val : Nat → Int) : ∀ i, cntK val i ≤ i
  | 0 => Nat.le_refl _
  | i + 1 => by
    have := cntK_le val i
    unfold cntK
    split <;> omega
theorem memK_iff (val : Nat → Int) (k : Int) : ∀ i, memK val i (.inl k) = true ↔ ∃ j, j < i ∧ val j = k
  | 0 => by
    constructor
    · intro h; cases h
    · rintro ⟨j, h, _⟩; omega
  | i + 1 => by
    have ih := memK_iff val k i
    show (memK val i (.inl k) || decide ((.inl k : Key) = .inl (val i))) = true ↔ _
    rw [Bool.or_eq_true, decide_eq_true_eq, ih]
    constructor
    · rintro (⟨j, h, e⟩ | e)
      · exact ⟨j, by omega, e⟩
      · exact ⟨i, by omega, (Sum.inl.inj e).symm⟩
    · rintro ⟨j, h, e⟩
      by_cases hj : j = i
      · subst hj; exact .inr (by rw [e])
      · exact .inl ⟨j, by omega, e⟩
/-- as many as there are items: all differ -/
theorem cntK_eq (val : Nat → Int) : ∀ i, cntK val i = i ↔ ∀ j, j < i → memK val j (.inl (val j)) = false
  | 0 => ⟨fun _ j h => by omega, fun _ => rfl⟩
  | i + 1 => by
    have hle := cntK_le val i
    have ih := cntK_eq val i
    show (if memK val i (.inl (val i)) = true then cntK val i else cntK val i + 1) = i + 1 ↔ _
    constructor
    · intro h j hj
      split at h
      · omega
      · by_cases e : j = i
        · subst e; exact Bool.eq_false_iff.mpr ‹¬ _›
        · exact ih.mp (by omega) j (by omega)
    · intro h
      rw [if_neg (by rw [h i (by omega)]; decide), ih.mpr fun j hj => h j (by omega)]
def rScK (P : Program) (w : World) (g : TG) (te : TE) (σw : L2.St) (Q : VK) : It → Hp → Prop := fun J H1 => ∃ (L : Nat) (val : Nat → Int), L + 1 < scanBound ∧ ∀ D, H1 D = none → ∃ Pv : Nat → Hp → Prop, Pv 0 (upd H1 D (SetK P w D (memK val 0) (cntK val 0))) ∧
  (∀ H, Pv L H → J.stop L H ∧ Q (.ref D) H) ∧
  ∀ i H, i < L → Pv i H → J.go i H ∧ ∀ y H', J.yld i H y H' → g y σw H' fun σ1 H1' => (σ1.length = σw.length ∧ ∀ (j : Nat) (v : V), σw[j]? = some (some v) → σ1[j]? = some (some v)) ∧ te σ1 H1' fun z H2 => z = .int (val i) ∧ H2 D = some (SetK P w D (memK val i) (cntK val i)) ∧ Pv (i + 1) (upd H2 D (SetK P w D (memK val (i + 1)) (cntK val (i + 1))))
def tScK (P : Program) (w : World) (wi : TI) (g : TG) (te : TE) (vs : List Nat) : TE := fun σ H Q => wi σ H (rScK P w g te (wipe σ vs) Q)
section
variable {X : Cx}
theorem addK_ok {pins : List (Addr × Obj)} {σ : L2.St} {H : Hp} {s : Shared} {E : Value → Shared → Prop} {D : Addr} {S : Key → Bool} {n : Nat} {y : Int} {u : Value} {Q : Value → Shared → Prop} (I : Inv X pins σ H s) (ru : RelV (.int y) u) (hD : H D = some (SetK X.prog X.w D S n)) (room : n + 1 < scanBound)
    (h : ∀ s', Inv X pins σ (upd H D (SetK X.prog X.w D (fun j => S j || decide (j = .inl y)) (if S (.inl y) = true then n else n + 1))) s' → Q .none s') : wpAny (model X.prog X.w) X.A (call (.builtin "set.add") [.ref D, u]) Q E s := by
  have rk : RelV (kV (.inl y)) u := ru
  refine call_set_add (kV_is rk) (key_scan rk) (setK_get I hD) room fun h' sb new => h _ ?_
  obtain ⟨o, _, _, _, ho, _⟩ := id new
  exact I.write (e := D) (t' := s.toks + 1) (by rw [hD]; exact trivial) (.inl rfl) (fun b v hb hv => (sb.2 b hb).trans hv) ⟨o, ho⟩ (setK_new new)
theorem setK_fresh {P : Program} (w : World) {h : Heap} : (h.push { cls := .type "set", dict := none, data := .set #[] 0 (.fresh 0 0 (!w.params.followText "set-order")) }).SetOf (mixKind P w) h.objs.size (fun _ => false) 0 :=
  ⟨_, #[], 0, _, Heap.get?_push_size _ rfl, ⟨rfl, rfl, rfl⟩, rfl, (fun e he => by simp at he), (fun k => by simp), (by decide), (by rfl), rfl⟩
theorem pe_scK {elt tg iter : Expr} {scope : Scope} {own : List (PySem.Str × Nat)} {pos : Pos} {wi : TI} {g : TG} {te : TE} (hc : X.calm = true) (hN : X.N.Nodup) (hi : PI X tg iter wi) (ok : BlkOk X.N X.env.scope scope own)
    (hg : ∀ (s : Shared) (H : Hp) (C : Addr) (cl : List (PySem.Str × Addr)) (fp : List Addr), PG (X.blk s H scope (compEnvC scope cl C X.env) fp) tg g)
    (he : ∀ (s : Shared) (H : Hp) (C : Addr) (cl : List (PySem.Str × Addr)) (fp : List Addr), PE (X.blk s H scope (compEnvC scope cl C X.env) fp) elt te) (hs : ∀ x, foldedSetIterable iter X.env x = pure x := by intro _; rfl) :
    PE X (.SetComp elt [⟨tg, iter, [], 0⟩] scope pos) (tScK X.prog X.w wi g te (own.map (·.2))) := by
  refine ⟨fun pins s σ H Q I h => ?_⟩
  rw [PpSet.eval_SetComp]
  have hclo : ∀ y ∈ scope.names, y.2 = .free → ∃ c, X.env.cells.lookup y.1 = some c := fun y hy e =>
    (ok.free y hy e).elim (fun k => I.ok.has _ (.inl k)) fun k => I.ok.has _ (.inr k)
  refine wpAny_comprehension_free (use := none) rfl hs (closure_ok hclo) ok.kind (fun y hy e => (ok.uniq y hy).trans (by rw [e])) (thn (hi.run pins s σ H _ I h) fun xv s1 hx => thn hx fun itv s2 h2 => ?_)
  obtain ⟨it, fp, tn, J, H2, rfl, I2, T, st2, f2, L, val, hL, q⟩ := h2
  refine PpSet.newSet_ok (newEnv_comp ?_)
  obtain ⟨Pv, p0, hstop, hstep⟩ := q s2.heap.objs.size I2.fresh
  generalize hD : s2.heap.objs.size = D at p0 hstop hstep ⊢
  have fpD : ∀ b ∈ fp, b < D := fun b hb => by
    obtain ⟨o, e, _⟩ := T.obj _ _ st2 b hb
    rw [← hD]
    exact Heap.lt_size e
  generalize hs3 : ({ s2 with heap := s2.heap.push { cls := .type "set", dict := none, data := .set #[] 0 (.fresh 0 0 (!X.w.params.followText "set-order")) } } : Shared) = s3
  have heap3 : s3.heap = s2.heap.push { cls := .type "set", dict := none, data := .set #[] 0 (.fresh 0 0 (!X.w.params.followText "set-order")) } := by rw [← hs3]
  have old3 : ∀ b o, s2.heap.get? b = some o → s3.heap.get? b = some o := fun b o e => by rw [heap3]; exact Heap.get?_push_of_some _ e
  have I3 : Inv X pins σ (upd H2 D (SetK X.prog X.w D (memK val 0) (cntK val 0))) s3 := by
    rw [← hs3, ← hD]
    exact I2.laid (t' := s2.toks) (fun b o e => Heap.get?_push_of_some _ e) (Nat.le_refl _) (setK_new (setK_fresh X.w))
  have ok3 : ∀ b ∈ fp, FpOk X pins (upd H2 D (SetK X.prog X.w D (memK val 0) (cntK val 0))) b ∧ b < s3.heap.objs.size := fun b hb => by
    refine ⟨⟨(upd_ne (Nat.ne_of_lt (fpD b hb))).trans (f2 b hb).1, (f2 b hb).2⟩, ?_⟩
    rw [heap3, Heap.size_push, hD]
    exact Nat.lt_succ_of_lt (fpD b hb)
  generalize upd H2 D (SetK X.prog X.w D (memK val 0) (cntK val 0)) = H3 at I3 p0 ok3
  have B3 := block_start I3 ok hN ok3
  have pg := hg s3 H3 s3.heap.objs.size (cellsFrom (s3.heap.objs.size + 1) scope.names (cloFrom X.env.cells scope.names [])) fp
  have pe := he s3 H3 s3.heap.objs.size (cellsFrom (s3.heap.objs.size + 1) scope.names (cloFrom X.env.cells scope.names [])) fp
  show codeAny _ _ (.compStart (.SetComp elt [⟨tg, iter, [], 0⟩] scope pos) 0 (.ref it) (.ref D) (compEnvC scope (cellsFrom (s3.heap.objs.size + 1) scope.names (cloFrom X.env.cells scope.names [])) s3.heap.objs.size X.env)) (compPost (model X.prog X.w) X.A X.xe none _ (.ref D) s3.heap.objs.size) { s3 with heap := pushCells (s3.heap.push { cls := .type "dict", data := .dict #[] }) scope.names }
  generalize hce : compEnvC scope (cellsFrom (s3.heap.objs.size + 1) scope.names (cloFrom X.env.cells scope.names [])) s3.heap.objs.size X.env = ce at B3 pg pe ⊢
  have cL : ce.locals = s3.heap.objs.size := by rw [← hce]; rfl
  generalize hs4 : ({ s3 with heap := pushCells (s3.heap.push { cls := .type "dict", data := .dict #[] }) scope.names } : Shared) = s4 at B3 ⊢
  have st4 : tn 0 s4.heap := T.keep _ _ _ st2 fun b _ o e => by
    rw [← hs4]
    exact pushCells_keeps _ _ _ _ (Heap.get?_push_of_some _ (old3 b o e))
  -- the iterator's objects, seen from the block
  have foot : ∀ {σ' : L2.St} {H' : Hp} {s' : Shared}, Inv (X.blk s3 H3 scope ce fp) [] σ' H' s' → (∀ b ∈ fp, H' b = none) → ∀ b ∈ fp, FpOk (X.blk s3 H3 scope ce fp) [] H' b := fun I' hn b hb => by
    have z := I'.ok.exf b hb
    exact ⟨hn b hb, z.1, I'.ok.exfs b hb, .inl hb, fun x c e => z.2 x c e, fun p hp => absurd (show p ∈ ([] : List (Addr × Obj)) ++ [] from hp) (by simp)⟩
  have turns : codeAny (model X.prog X.w) X.A (.compLoop (.SetComp elt [⟨tg, iter, [], 0⟩] scope pos) 0 (.ref it) (.ref D) ce) (compPost (model X.prog X.w) X.A X.xe none (fun v s' => EP X pins σ Q v s') (.ref D) s3.heap.objs.size) s4 := by
    refine PpSet.compLoopS_any (fun n s' => ∃ i H', n = L - i ∧ i ≤ L ∧ Inv (X.blk s3 H3 scope ce fp) [] (wipe σ (own.map (·.2))) H' s' ∧ tn i s'.heap ∧ (∀ b ∈ fp, H' b = none) ∧ Pv i H') ?_ L ⟨0, H3, rfl, Nat.zero_le _, B3, st4, fun b hb => (ok3 b hb).1.1, p0⟩
    rintro n s5 ⟨i, H5, rfl, hi, I5, st5, n5, p5⟩
    by_cases hlt : i < L
    · obtain ⟨go, step⟩ := hstep i H5 hlt p5
      refine thnF (T.item (X.blk s3 H3 scope ce fp) rfl rfl rfl hc i [] s5 _ H5 (fun _ _ => False) I5 (foot I5 n5) st5 go) fun r s6 ⟨u, hr, h6⟩ => ?_
      subst hr
      refine thnF h6 fun _ s7 ⟨x, H7, I7, r7, y7, st7, n7⟩ => ?_
      refine thnF (pg.run _ s7 _ H7 x u _ (I7.pinned (foot I7 n7) (T.obj _ _ st7)) r7 (step x H7 y7)) fun _ s8 ⟨σ8, H8, I8, kp, q8⟩ => ?_
      rw [List.forIn_nil]
      refine wpAny_pure ?_
      simp only [if_true]
      refine thnF (pe.run _ s8 σ8 H8 _ I8 q8) fun z s9 ⟨yv, H9, I9, r9, ey, hD9, p9⟩ => ?_
      subst ey
      refine addK_ok (X := X.blk s3 H3 scope ce fp) I9 r9 hD9 (by have := cntK_le val i; omega) fun s10 I10 => ?_
      have pinned : ∀ b ∈ fp, ∀ o, s7.heap.get? b = some o → s10.heap.get? b = some o ∧ upd H9 D (SetK X.prog X.w D (memK val (i + 1)) (cntK val (i + 1))) b = none := fun b hb o e =>
        have z := I10.pin (b, o) (List.mem_append_right _ (List.mem_append_right _ (mem_pinsAt hb e)))
        ⟨z.1, z.2.1⟩
      refine ⟨L - (i + 1), by omega, i + 1, _, rfl, hlt, (I10.unpinned (pins := [])).weak kp.1.symm kp.2, T.keep _ _ _ st7 fun b hb o e => (pinned b hb o e).1, fun b hb => ?_, p9⟩
      obtain ⟨o, e, _⟩ := T.obj _ _ st7 b hb
      exact (pinned b hb o e).2
    · have e : i = L := by omega
      subst e
      obtain ⟨stop, hQ⟩ := hstop H5 p5
      refine thnF (T.done (X.blk s3 H3 scope ce fp) rfl rfl rfl hc i [] s5 _ H5 (fun _ _ => False) I5 (foot I5 n5) st5 stop) fun r s6 ⟨hr, I6⟩ => ?_
      subst hr
      have I7 : Inv X pins σ H5 s6 := I3.call' (ch := fp) I6.os I6.base I6.hok I6.bare fun b hb => by
        have z := (ok3 b hb).1.2
        exact ⟨z.2.2.1, z.1, z.2.2.2.1, z.2.2.2.2⟩
      have nC : H5 s3.heap.objs.size = none := by rw [← cL]; exact I6.free
      obtain ⟨m, hn, _⟩ := I6.loc
      have hn' : s6.heap.Ns ce.locals m := hn
      rw [cL] at hn'
      obtain ⟨f0, f1, f2', f3, f4, f5⟩ := I3.fpOk (Nat.le_refl _) nC
      exact ⟨m, hn', fun h'' sb => ⟨.ref D, H5, I7.turned (t' := s6.toks) (fun b o hb e => (sb.2 b hb).trans e) f0 f1 f3 f4 f5, rfl, hQ⟩⟩
  exact PpSet.codeAny_compStart_set turns (T.self X.A 0 _ _ _ st4 turns)
/-- len of a set -/
theorem call_len_setK : CallR X (.builtin "len") (fun xs H Q => ∃ p S n, xs = [.ref p] ∧ H p = some (SetK X.prog X.w p S n) ∧ Q (.int n) H) := by
  intro pins s σ H xs us Q I r h
  obtain ⟨p, S, n, rfl, hp, q⟩ := h
  obtain ⟨u, rfl, rx⟩ := r.one
  cases rx
  obtain ⟨o, es, ep, t, ho, hex, hd, _, _, hb, hf, hn⟩ := setK_get I hp
  refine call_len_set ho hex hd hf (by have : scanBound ≤ 2 ^ 63 := by decide +kernel
                                       omega) ⟨.int n, H, I.tok _, ⟨s.toks + 1, by rw [hn]⟩, q⟩
end
end Gx
end

section
set_option Elab.async false
set_option linter.all false
set_option maxRecDepth 100000
set_option maxHeartbeats 4000000
namespace K59
open PySem PySem.Spec PyProof.Rows L2 GxR Gx Ma
section
variable {P : Program} {w : World} {K : PySem.W.Frag} {mg : Str → Option Value} {base : Heap}

/-- a fraction from 0 to 1 -/
structure Shr (q : Int × Int) : Prop where
  t0 : 0 ≤ q.1
  tb : q.1 ≤ q.2
  b1 : 1 ≤ q.2
  g : Nat.gcd q.1.natAbs q.2.natAbs = 1
  z : q.2 ≤ 1000000
abbrev TQ (H : Hp) (a : Addr) (q : Int × Int) : Prop := H a = some (.tup [.int q.1, .int q.2])
def sp_is_frac : Sp := fun vs H Q _ => ∃ (p : Addr) (x : Int × Int), vs = [V.ref p] ∧ TQ H p x ∧ Nat.gcd x.1.natAbs x.2.natAbs = 1 ∧ 1 ≤ x.2 ∧ Q (.bl true) H
def sp_check_frac : Sp := fun vs H Q _ => ∃ (p : Addr) (x : Int × Int), vs = [V.ref p] ∧ TQ H p x ∧ Nat.gcd x.1.natAbs x.2.natAbs = 1 ∧ 1 ≤ x.2 ∧ Q .non H
def sp_check_share : Sp := fun vs H Q _ => ∃ (p : Addr) (x : Int × Int), vs = [V.ref p] ∧ TQ H p x ∧ Shr x ∧ Q .non H
def pows (b : Int) (n : Nat) : List Int := (List.range (n + 1)).map fun i => b ^ i
theorem pows_zero (b : Int) : pows b 0 = [1] := by
  unfold pows
  rw [show List.range (0 + 1) = [0] from rfl, List.map_cons, List.map_nil, Int.pow_zero]
theorem pows_next (b : Int) (n : Nat) : pows b (n + 1) = pows b n ++ [b ^ (n + 1)] := by
  unfold pows
  rw [List.range_succ (n := n + 1), List.map_append]
  rfl
theorem pows_last (b : Int) (n : Nat) : atI ((pows b n).map V.int) (-1) = some (.int (b ^ n)) := by
  cases n with
  | zero => rfl
  | succ n =>
    rw [pows_next, List.map_append]
    exact atI_last _ _
theorem pows_len (b : Int) (n : Nat) : (pows b n).length = n + 1 := by unfold pows; rw [List.length_map, List.length_range]
theorem pow_small {b : Int} (h1 : 1 ≤ b) (h2 : b ≤ 100) {n : Nat} (hn : n ≤ 600) : (b ^ n).natAbs < 2 ^ 4000 := by
  refine abs_lt (Int.pow_nonneg (by omega)) ?_
  have e1 : b ^ n ≤ 100 ^ n := pow_mono (by omega) h2 n
  have h3 : (100 : Nat) ^ n ≤ 100 ^ 600 := Nat.pow_le_pow_right (by decide) hn
  have h4 : (100 : Nat) ^ 600 < 2 ^ 4000 := by decide +kernel
  have h5 : (100 : Nat) ^ n < 2 ^ 4000 := Nat.lt_of_le_of_lt h3 h4
  have h6 : (100 : Int) ^ n < 2 ^ 4000 := by exact_mod_cast h5
  omega
def sp_powers : Sp := fun vs H Q _ => ∃ (b : Int) (n : Nat), vs = [V.int b, V.int n] ∧ 1 ≤ b ∧ b ≤ 100 ∧ n ≤ 600 ∧ ∀ p H', Same H H' → H p = none → LI H' p (pows b n) → Q (.ref p) H'
def sp_kept_by : Sp := fun vs H Q _ => ∃ (t : Addr) (a b : Int) (n : Nat), vs = [V.ref t, V.int n] ∧ H t = some (.tup [.int a, .int b]) ∧ Kep a b ∧ n ≤ 600 ∧ ∀ p H', Same H H' → H p = none → TQ H' p (a ^ n, b ^ n) → Q (.ref p) H'
/-- what steps_within tells -/
def Ans (T U : Int) (f : Int × Int) (A B : Int) (v : V) : Prop := (0 < T ∧ f.1 = 0 ∧ v = .non) ∨ (¬ (0 < T ∧ f.1 = 0) ∧ ∃ s : Nat, v = .int s ∧ Lst (T * f.2) (U * f.1) A B s)
def sp_steps : Sp := fun vs H Q _ => ∃ (d c f : Addr) (T U A B : Int) (x : Int × Int), vs = [V.ref d, V.ref c, V.ref f] ∧ TQ H d (T, U) ∧ TQ H c (A, B) ∧ TQ H f x ∧ Shr x ∧ 0 ≤ T ∧ T ≤ U ∧ U < 2 ^ 1900 ∧ 1 ≤ A ∧ 100 * A ≤ 99 * B ∧ B < 2 ^ 420 ∧ ∀ v, Ans T U x A B v → Q v H
theorem absmul {x y : Int} {m n : Nat} (h : x.natAbs < 2 ^ m) (g : y.natAbs < 2 ^ n) : (x * y).natAbs < 2 ^ (m + n) := by
  rw [Int.natAbs_mul, Nat.pow_add]
  exact Nat.mul_lt_mul'' h g
theorem abspow {x A : Int} {m n : Nat} (h : x.natAbs < 2 ^ m) (g : A.natAbs < 2 ^ n) : ∀ s : Nat, (x * A ^ s).natAbs < 2 ^ (m + n * s)
  | 0 => by rw [Int.pow_zero, Int.mul_one, Nat.mul_zero]; exact h
  | s + 1 => by
    have := absmul (abspow h g s) g
    rw [Int.pow_succ, ← Int.mul_assoc, show m + n * (s + 1) = m + n * s + n by rw [Nat.mul_succ]; omega]
    exact this
theorem dec_int {i j : Int} : decide (V.int i = V.int j) = decide (i = j) := by
  by_cases h : i = j
  · rw [decide_eq_true h, decide_eq_true (by rw [h])]
  · rw [decide_eq_false h, decide_eq_false (fun z => h (by injection z))]
theorem abs_if (d : Int) : (if d < 0 then -d else d) = (d.natAbs : Int) := by split <;> omega
def sp_gd : Sp := fun vs H Q _ => ∃ (l1 l2 : Addr) (x l : List Int), vs = [V.ref l1, V.ref l2] ∧ LI H l1 x ∧ LI H l2 l ∧ (∀ n ∈ x, 0 ≤ n) ∧ (∀ n ∈ l, 0 ≤ n) ∧ l.length = x.length ∧ 0 < x.length ∧ x.length ≤ 8 ∧ x.sum < 2 ^ 7000 ∧ l.sum < 2 ^ 7000 ∧ ∀ p H', Same H H' → H p = none → TQ H' p (gd x l, x.sum * l.sum) → Q (.ref p) H'
theorem getD_mapI {ns : List Int} {i : Nat} (h : i < ns.length) : (ns.map V.int)[i]? = some (.int (ns.getD i 0)) := by
  rw [List.getElem?_map, List.getD_eq_getElem?_getD, List.getElem?_eq_getElem h]
  rfl
theorem tops_vals (x l : List Int) : ((List.range x.length).map fun i => V.int ((dif x l i).natAbs : Int)) = (tops x l).map V.int := by
  unfold tops
  rw [List.map_map]
  rfl









def sp_check_rounds (Tc T : Addr) : Sp := fun vs H Q _ => ∃ (l r t : Addr) (x : List Int) (a b : Int) (cs : List Nat), vs = [V.ref l, V.ref r, V.ref t] ∧ LI H l x ∧ Con x ∧ LI H r (rowI cs) ∧ H t = some (.tup [.int a, .int b]) ∧ Lro x.length a b cs ∧ H Tc = some (TabO Tc) ∧ H T = some (TabO T) ∧ Q .non H
def sp_dist : Sp := fun vs H Q _ => ∃ (l r t : Addr) (x : List Int) (a b : Int) (cs : List Nat), vs = [V.ref l, V.ref r, V.ref t] ∧ LI H l x ∧ Con x ∧ x.sum < 2 ^ 600 ∧ LI H r (rowI cs) ∧ H t = some (.tup [.int a, .int b]) ∧ Lro x.length a b cs ∧ ∀ p H', Same H H' → H p = none → TQ H' p (gd x (lim x.length a b cs), x.sum * (lim x.length a b cs).sum) → Q (.ref p) H'
def aft (x : List Int) (a b : Int) (cs : List Nat) (r : Nat) : Int × Int := fr (gd x (lim x.length a b cs) * a ^ (cs.length * r)) (x.sum * (lim x.length a b cs).sum * b ^ (cs.length * r))
def sp_after (Tc T : Addr) : Sp := fun vs H Q _ => ∃ (l r t : Addr) (x : List Int) (a b : Int) (cs : List Nat) (n : Nat), vs = [V.ref l, V.ref r, V.ref t, V.int n] ∧ LI H l x ∧ Con x ∧ x.sum < 2 ^ 600 ∧ LI H r (rowI cs) ∧ H t = some (.tup [.int a, .int b]) ∧ Lro x.length a b cs ∧ n ≤ 10 ∧ H Tc = some (TabO Tc) ∧ H T = some (TabO T) ∧ ∀ p H', Same H H' → H p = none → TQ H' p (aft x a b cs n) → Q (.ref p) H'
def sp_within (Tc T : Addr) : Sp := fun vs H Q _ => ∃ (l r t f : Addr) (x : List Int) (a b : Int) (cs : List Nat) (y : Int × Int), vs = [V.ref l, V.ref r, V.ref t, V.ref f] ∧ LI H l x ∧ Con x ∧ x.sum < 2 ^ 600 ∧ LI H r (rowI cs) ∧ H t = some (.tup [.int a, .int b]) ∧ Lro x.length a b cs ∧ TQ H f y ∧ Shr y ∧ H Tc = some (TabO Tc) ∧ H T = some (TabO T) ∧ ∀ v H', Same H H' → Ans (gd x (lim x.length a b cs)) (x.sum * (lim x.length a b cs).sum) y (a ^ cs.length) (b ^ cs.length) v → Q v H'
theorem two_mul_lt {x y : Int} {m n : Nat} (x0 : 0 ≤ x) (y0 : 0 ≤ y) (hx : x < 2 ^ m) (hy : y < 2 ^ n) : x * y < 2 ^ (m + n) := by
  have h := absmul (abs_lt x0 hx) (abs_lt y0 hy)
  have e : (((x * y).natAbs : Nat) : Int) < ((2 ^ (m + n) : Nat) : Int) := Int.ofNat_lt.mpr h
  rw [Int.natAbs_of_nonneg (Int.mul_nonneg x0 y0)] at e
  have e2 : ((2 ^ (m + n) : Nat) : Int) = (2 : Int) ^ (m + n) := by rw [Int.natCast_pow]; rfl
  rwa [e2] at e
theorem lim_bot {x : List Int} {a b : Int} {cs : List Nat} (hx : Con x) (hz : x.sum < 2 ^ 600) (R : Lro x.length a b cs) : 0 < x.sum * (lim x.length a b cs).sum ∧ x.sum * (lim x.length a b cs).sum < 2 ^ 1020 :=
  ⟨Int.mul_pos hx.amt.pos R.con.amt.pos, two_mul_lt (Int.le_of_lt hx.amt.pos) (Int.le_of_lt R.con.amt.pos) hz R.small⟩





end
end K59
end

section
set_option Elab.async false
set_option linter.all false
set_option maxRecDepth 100000
set_option maxHeartbeats 4000000
namespace K59
open PySem PySem.Spec PyProof.Rows L2 GxR Gx Ma
section
variable {P : Program} {w : World} {K : PySem.W.Frag} {mg : Str → Option Value} {base : Heap}

theorem dp_ints {K : PySem.W.Frag} {H : Hp} : ∀ ns : List Int, DpAll K H (ns.map V.int) (ns.map PyData.int)
  | [] => .nil
  | n :: r => .cons (.int n) (dp_ints r)
theorem canLay_ints : ∀ ns : List Int, PyData.canLayAll0 (ns.map PyData.int) = true
  | [] => rfl
  | n :: r => by rw [List.map_cons, PyData.canLayAll0, canLay_ints r]; rfl
theorem depth_ints : ∀ ns : List Int, PyData.depthAll (ns.map PyData.int) ≤ 1
  | [] => by decide
  | n :: r => by
    have := depth_ints r
    simp only [List.map_cons, PyData.depthAll, PyData.depth]
    omega
theorem shaped_ints (ns : List Int) : SeqAt.shaped (.list (ns.map PyData.int)) = true := by
  have h1 := depth_ints ns
  unfold SeqAt.shaped
  rw [Bool.and_eq_true]
  refine ⟨canLay_ints ns, decide_eq_true ?_⟩
  rw [PyData.depth]
  omega
theorem dp_li {K : PySem.W.Frag} {H : Hp} {l : Addr} {ns : List Int} (h : LI H l ns) : Dp K H (.ref l) (.list (ns.map PyData.int)) := .lst (SqL.of h) (dp_ints ns)
theorem eqv_ints (ns : List Int) : PyData.eqv (.list (ns.map PyData.int)) (.list (ns.map PyData.int)) = true := SeqAt.eqv_refl _ (canLay_ints ns)

theorem sql_same {H H' : Hp} {a : Addr} {xs : List V} (h : SqL K H a xs) (e : Same H H') : SqL K H' a xs :=
  h.elim (fun h => .inl (h.elim (fun h => .inl (e _ _ h)) fun ⟨o, h⟩ => .inr ⟨o, e _ _ h⟩)) fun h => .inr h
theorem intsAll_of {B : Nat} : ∀ ns : List Int, (∀ n ∈ ns, n.natAbs < 2 ^ B) → intsAll B (ns.map PyData.int)
  | [], _ => trivial
  | n :: r, h => ⟨h n List.mem_cons_self, intsAll_of r fun m hm => h m (List.mem_cons_of_mem _ hm)⟩
theorem nodAll_ints : ∀ ns : List Int, nodAll (ns.map PyData.int) = 3 * ns.length
  | [] => rfl
  | n :: r => by
    have h1 : nod (PyData.int n) = 1 := by simp [nod]
    rw [List.map_cons, nodAll, nodAll_ints r, List.length_cons, h1]
    omega
theorem depth_li (ns : List Int) : (PyData.list (ns.map PyData.int)).depth ≤ 30 := by
  have := depth_ints ns
  rw [PyData.depth]
  omega
theorem nod_li {ns : List Int} {B : Nat} (h : ns.length ≤ 1000) (hB : B ≤ 1900) : (B + 1) * nod (.list (ns.map PyData.int)) ≤ 16777216 := by
  have e : nod (.list (ns.map PyData.int)) = 3 * ns.length + 3 := by rw [nod, nodAll_ints]
  rw [e]
  have h1 : (B + 1) * (3 * ns.length + 3) ≤ 1901 * 3003 := Nat.mul_le_mul (by omega) (by omega)
  omega

theorem cut_last (xs : List V) (y : V) : cutV (xs ++ [y]) none (some (-1)) = xs := by
  unfold cutV
  have e : (xs ++ [y]).length = xs.length + 1 := by rw [List.length_append]; rfl
  have e1 : HT.sIx (xs ++ [y]).length 0 none = 0 := rfl
  have e2 : HT.sIx (xs ++ [y]).length (xs ++ [y]).length (some (-1)) = xs.length := by
    unfold HT.sIx
    dsimp only
    rw [if_pos (by decide), e]
    omega
  rw [e1, e2, List.drop_zero, Nat.sub_zero, List.take_left']
  rfl

theorem sl_listK {X : Cx} {K : PySem.W.Frag} (e : X.K = K) : SlR X (rSlL K) := e ▸ sl_list
theorem dp_rows {K : PySem.W.Frag} {H : Hp} {v : Nat → List Int} : ∀ (ps : List Addr) (k : Nat), (∀ (i : Nat) (a : Addr), ps[i]? = some a → LI H a (v (k + i))) → DpAll K H (ps.map V.ref) ((List.range' k ps.length).map fun i => PyData.list ((v i).map PyData.int))
  | [], _, _ => .nil
  | a :: r, k, h => by
    rw [List.length_cons, List.range'_succ]
    refine .cons (dp_li (h 0 a rfl)) (dp_rows r (k + 1) fun i b hb => ?_)
    have := h (i + 1) b hb
    rw [show k + 1 + i = k + (i + 1) by omega]
    exact this
def datR (v : Nat → List Int) (n : Nat) : PyData := .list ((List.range' 0 n).map fun i => PyData.list ((v i).map PyData.int))
theorem Rows.dp {K : PySem.W.Frag} {H H' : Hp} {p : Addr} {ps : List Addr} {n : Nat} {v : Nat → List Int} (R : Rows H H' p ps n v) {H2 : Hp} (s : Same H' H2) : Dp K H2 (.ref p) (datR v n) := by
  unfold datR
  rw [← R.len]
  exact .lst (SqL.of (s _ _ R.at_)) (dp_rows ps 0 fun i a h => by rw [Nat.zero_add]; exact s _ _ (R.row i a h))
theorem canLay_rows (v : Nat → List Int) : ∀ l : List Nat, PyData.canLayAll0 (l.map fun i => PyData.list ((v i).map PyData.int)) = true
  | [] => rfl
  | i :: r => by
    have h1 : (PyData.list ((v i).map PyData.int)).canLay0 = true := canLay_ints (v i)
    rw [List.map_cons, PyData.canLayAll0, canLay_rows v r, h1]
    rfl
theorem depth_rows (v : Nat → List Int) : ∀ l : List Nat, PyData.depthAll (l.map fun i => PyData.list ((v i).map PyData.int)) ≤ 2
  | [] => by rw [List.map_nil, PyData.depthAll]; decide
  | i :: r => by
    have h1 := depth_rows v r
    have h2 := depth_ints (v i)
    simp only [List.map_cons, PyData.depthAll, PyData.depth]
    omega
theorem depth_dat (v : Nat → List Int) (n : Nat) : (datR v n).depth ≤ 30 := by
  have := depth_rows v (List.range' 0 n)
  unfold datR
  rw [PyData.depth]
  omega
theorem lay_dat (v : Nat → List Int) (n : Nat) : (datR v n).canLay0 = true := canLay_rows v _
theorem shaped_dat (v : Nat → List Int) (n : Nat) : SeqAt.shaped (datR v n) = true := by
  have h1 := depth_dat v n
  unfold SeqAt.shaped
  rw [Bool.and_eq_true]
  exact ⟨lay_dat v n, decide_eq_true (by omega)⟩
theorem eqv_dat (v : Nat → List Int) (n : Nat) : PyData.eqv (datR v n) (datR v n) = true := SeqAt.eqv_refl _ (lay_dat v n)
theorem ints_rows {B : Nat} {v : Nat → List Int} : ∀ l : List Nat, (∀ i ∈ l, ∀ n ∈ v i, n.natAbs < 2 ^ B) → intsAll B (l.map fun i => PyData.list ((v i).map PyData.int))
  | [], _ => trivial
  | i :: r, h => ⟨intsAll_of _ (h i List.mem_cons_self), ints_rows r fun j hj => h j (List.mem_cons_of_mem _ hj)⟩
theorem nod_ints (ns : List Int) : nod (.list (ns.map PyData.int)) = 3 * ns.length + 3 := by rw [nod, nodAll_ints]
theorem nodAll_rows {M : Nat} {v : Nat → List Int} : ∀ l : List Nat, (∀ i ∈ l, (v i).length ≤ M) → nodAll (l.map fun i => PyData.list ((v i).map PyData.int)) ≤ l.length * (3 * M + 5)
  | [], _ => Nat.zero_le _
  | i :: r, h => by
    have h1 := nodAll_rows r fun j hj => h j (List.mem_cons_of_mem _ hj)
    have h2 := h i List.mem_cons_self
    rw [List.map_cons, nodAll, nod_ints, List.length_cons, Nat.add_mul, Nat.one_mul]
    omega
theorem nod_dat {M n : Nat} {v : Nat → List Int} (h : ∀ i, i < n → (v i).length ≤ M) : nod (datR v n) ≤ n * (3 * M + 5) + 3 := by
  have := nodAll_rows (M := M) (v := v) (List.range' 0 n) fun i hi => h i (by rw [List.mem_range'_1] at hi; omega)
  rw [List.length_range'] at this
  unfold datR
  rw [nod]
  omega
/-- what repr asks of the rows of a walk -/
theorem ctn_bits {ns : List Int} {ks : List (Int × Int)} {cs : List Nat} (R : Rowy ns ks cs) (hz : ns.sum < 2 ^ 600) {i : Nat} (hi : i ≤ cs.length) : ∀ n ∈ ctn ns ks cs i, n.natAbs < 2 ^ 1020 := fun n hn => by
  have hc := ctn_con R i hi
  have h1 := hc.nn n hn
  have h2 := le_sum hc.nn hn
  have h3 := ctn_small R i hi hz
  exact abs_lt h1 (Int.lt_of_le_of_lt h2 h3)
theorem dat_ok {ns : List Int} {ks : List (Int × Int)} {cs : List Nat} (R : Rowy ns ks cs) (hz : ns.sum < 2 ^ 600) (h60 : cs.length ≤ 60) : intsP 1020 (datR (ctn ns ks cs) (cs.length + 1)) ∧ (1020 + 1) * nod (datR (ctn ns ks cs) (cs.length + 1)) ≤ 16777216 := by
  refine ⟨ints_rows _ fun i hi => ctn_bits R hz (by rw [List.mem_range'_1] at hi; omega), ?_⟩
  have h1 := nod_dat (M := 8) (n := cs.length + 1) (v := ctn ns ks cs) fun i hi => by rw [ctn_len]; exact R.con.le8
  have h2 : (cs.length + 1) * (3 * 8 + 5) ≤ 61 * 29 := Nat.mul_le_mul (by omega) (by omega)
  have h3 : nod (datR (ctn ns ks cs) (cs.length + 1)) ≤ 1772 := by omega
  exact Nat.le_trans (Nat.mul_le_mul_left _ h3) (by decide)
theorem con_bits {ns : List Int} (hc : Con ns) (hz : ns.sum < 2 ^ 1020) : intsP 1020 (.list (ns.map PyData.int)) ∧ (1020 + 1) * nod (.list (ns.map PyData.int)) ≤ 16777216 := by
  refine ⟨intsAll_of _ fun n hn => abs_lt (hc.nn n hn) (Int.lt_of_le_of_lt (le_sum hc.nn hn) hz), ?_⟩
  have h8 := hc.le8
  have h3 : nod (.list (ns.map PyData.int)) ≤ 27 := by rw [nod_ints]; omega
  exact Nat.le_trans (Nat.mul_le_mul_left _ h3) (by decide)
def two (ns ms : List Int) : PyData := .list [.list (ns.map PyData.int), .list (ms.map PyData.int)]
theorem rowI_len (cs : List Nat) : (rowI cs).length = cs.length := by unfold rowI; rw [List.length_map]
theorem two_ok {ns : List Int} {cs : List Nat} {k : Nat} (hc : Con ns) (hz : ns.sum < 2 ^ 1020) (h60 : cs.length ≤ 60) (hk : k ≤ 8) (hcs : ∀ c ∈ cs, c < k) : intsP 1020 (two ns (rowI cs)) ∧ (1020 + 1) * nod (two ns (rowI cs)) ≤ 16777216 ∧ (two ns (rowI cs)).depth ≤ 30 := by
  refine ⟨⟨(con_bits hc hz).1, intsAll_of _ fun n hn => ?_, trivial⟩, ?_, ?_⟩
  · obtain ⟨m, hm, e⟩ := List.mem_map.mp hn
    have e2 : (m : Int) = n := e
    have := hcs m hm
    rw [← e2, Int.natAbs_natCast]
    exact Nat.lt_of_lt_of_le (show m < 2 ^ 3 by omega) (Nat.pow_le_pow_right (by decide) (by decide))
  · have h8 := hc.le8
    have e : nod (two ns (rowI cs)) = (3 * ns.length + 3) + 2 + ((3 * cs.length + 3) + 2 + 0) + 3 := by
      unfold two
      rw [nod, nodAll, nodAll, nodAll, nod_ints, nod_ints, rowI_len]
    have h3 : nod (two ns (rowI cs)) ≤ 300 := by omega
    exact Nat.le_trans (Nat.mul_le_mul_left _ h3) (by decide)
  · have h1 := depth_ints ns
    have h2 := depth_ints (rowI cs)
    unfold two
    simp only [PyData.depth, PyData.depthAll]
    omega
theorem dp_two {K : PySem.W.Frag} {H : Hp} {o l r : Addr} {ns ms : List Int} (ho : H o = some (.lst [.ref l, .ref r])) (hl : LI H l ns) (hr2 : LI H r ms) : Dp K H (.ref o) (two ns ms) := .lst (SqL.of ho) (.cons (dp_li hl) (.cons (dp_li hr2) .nil))

theorem cut_take (xs : List V) (i : Nat) : cutV xs none (some (i : Int)) = xs.take i := by
  unfold cutV
  have e1 : HT.sIx xs.length 0 none = 0 := rfl
  have e2 : HT.sIx xs.length xs.length (some (i : Int)) = min i xs.length := by
    unfold HT.sIx
    dsimp only
    rw [if_neg (by omega)]
    omega
  rw [e1, e2, List.drop_zero, Nat.sub_zero]
  by_cases h : i ≤ xs.length
  · rw [Nat.min_eq_left h]
  · rw [Nat.min_eq_right (by omega), List.take_length, List.take_of_length_le (by omega)]

def But (j : Addr) (H H' : Hp) : Prop := ∀ x o, x ≠ j → H x = some o → H' x = some o
theorem But.trans {j : Addr} {H H1 H2 : Hp} (a : But j H H1) (b : But j H1 H2) : But j H H2 := fun x o n h => b x o n (a x o n h)
theorem But.of {j : Addr} {H H' : Hp} (e : Same H H') : But j H H' := fun x o _ h => e x o h
theorem But.put (j : Addr) (H : Hp) (o : HO) : But j H (L2.upd H j o) := fun x o' n h => by rw [upd_ne n]; exact h
theorem But.same2 {j : Addr} {H0 H H' : Hp} (e : But j H H') (s : Same H0 H) (h : H0 j = none) : Same H0 H' := fun x o q => e x o (ne_of_none q h) (s x o q)
def Fre (H H' : Hp) : Prop := ∀ x, H' x = none → H x = none
theorem Fre.put {j : Addr} {H : Hp} {o : HO} : Fre H (L2.upd H j o) := fun x h => by
  by_cases e : x = j
  · rw [e, upd_same] at h
    cases h
  · rw [upd_ne e] at h
    exact h
theorem Fre.trans {H H1 H2 : Hp} (a : Fre H H1) (b : Fre H1 H2) : Fre H H2 := fun x h => a x (b x h)
theorem Fre.of {H H' : Hp} (e : Same H H') : Fre H H' := fun _ h => e.free h
/-- the bag of draws: its cells, the place, the digits, the stirred number, the count -/
def Bg (H : Hp) (b c : Addr) (n : Nat) : Prop := ∃ (xs : List Int) (i d st k : Int), H b = some (.lst [.ref c, .int i, .int d, .int st, .int k]) ∧ LI H c xs ∧ (∀ x ∈ xs, 0 ≤ x ∧ x < 2 ^ 2100) ∧ xs.length ≤ 63 ∧ 0 ≤ i ∧ 0 ≤ d ∧ d < 2 ^ 2100 ∧ 0 ≤ st ∧ st < 2147483647 ∧ 0 ≤ k ∧ k ≤ n
theorem Bg.le {H : Hp} {b c : Addr} {n m : Nat} (h : Bg H b c n) (hn : n ≤ m) : Bg H b c m := let ⟨xs, i, d, st, k, a1, a2, a3, a4, a5, a6, a7, a8, a9, a10, a11⟩ := h; ⟨xs, i, d, st, k, a1, a2, a3, a4, a5, a6, a7, a8, a9, a10, by omega⟩
theorem Bg.keep {H H' : Hp} {b c : Addr} {n : Nat} (h : Bg H b c n) (e : Same H H') : Bg H' b c n := let ⟨xs, i, d, st, k, a1, a2, a3⟩ := h; ⟨xs, i, d, st, k, e _ _ a1, e _ _ a2, a3⟩
theorem Bg.ne {H : Hp} {b c p : Addr} {n : Nat} (h : Bg H b c n) (hp : H p = none) : p ≠ b := fun z => by
  obtain ⟨_, _, _, _, _, q, _⟩ := h
  rw [z, q] at hp
  cases hp
theorem Bg.tupne {H : Hp} {b c T : Addr} {n : Nat} {xs : List V} (h : Bg H b c n) (e : H T = some (.tup xs)) : T ≠ b := fun z => by
  obtain ⟨_, _, _, _, _, q, _⟩ := h
  rw [z, q] at e
  cases e
theorem Bg.tab {H : Hp} {b c T : Addr} {n : Nat} (h : Bg H b c n) (e : H T = some (TabO T)) : T ≠ b := fun z => by
  obtain ⟨_, _, _, _, _, q, _⟩ := h
  rw [z, q] at e
  cases e
theorem Bg.liN {H : Hp} {b c T : Addr} {n : Nat} {ns : List Int} (h : Bg H b c n) (e : LI H T ns) : T ≠ b := fun z => by
  obtain ⟨_, _, _, _, _, q, _⟩ := h
  have e2 : H T = _ := e
  rw [z, q] at e2
  cases ns with
  | nil => cases e2
  | cons c r => cases e2
theorem cellne {H : Hp} {b c : Addr} {xs : List Int} {r : List V} (h : H b = some (.lst (.ref c :: r))) (e : LI H c xs) : c ≠ b := fun z => by
  have e2 : H c = _ := e
  rw [z] at e2 h
  rw [h] at e2
  cases xs with
  | nil => cases e2
  | cons c r => cases e2
theorem pw {i j : Int} (b : Nat) (h0 : 0 ≤ j) (h : i.natAbs < 2 ^ b) (hb : 0 < b) (hm : (b : Int) * j ≤ 134217728) : CPowW i j := ⟨h0, b, h, hb, hm⟩
theorem bits_le {i : Int} {b : Nat} (hb : i.natAbs < 2 ^ b) (b0 : 0 < b) : Builtin.Int.intBits i ≤ b := by
  unfold Builtin.Int.intBits
  split
  · omega
  · have := PySem.Flt.log2_lt_of b0 hb
    omega
def sp_bag (K : PySem.W.Frag) : Sp := fun vs H Q _ => ∃ (s : Addr) (ns : List Int), vs = [V.ref s] ∧ SqL K H s (ns.map V.int) ∧ ns.length ≤ 63 ∧ ∀ b c H', Same H H' → H b = none → Bg H' b c 0 → Q (.ref b) H'
def sp_stirred : Sp := fun vs H Q _ => ∃ (b c : Addr) (w : Int) (n : Nat), vs = [V.ref b, V.int w] ∧ Bg H b c n ∧ n ≤ 1000000 ∧ 1 ≤ w ∧ w < 2 ^ 600 ∧ ∀ d H', But b H H' → Fre H H' → Bg H' b c (n + 30) → 0 ≤ d → d < w → Q (.int d) H'
def sp_draw : Sp := fun vs H Q _ => ∃ (b c : Addr) (w : Int) (n : Nat), vs = [V.ref b, V.int w] ∧ Bg H b c n ∧ n ≤ 1000000 ∧ 1 ≤ w ∧ w < 2 ^ 600 ∧ ∀ d H', But b H H' → Fre H H' → Bg H' b c (n + 30) → 0 ≤ d → d < w → Q (.int d) H'
def sp_common : Sp := fun vs H Q _ => ∃ a b : Nat, vs = [V.int a, V.int b] ∧ Q (.int ((Nat.gcd a b : Nat) : Int)) H
theorem big600 : (0 : Int) < (10 ^ (60 : Int).toNat) ^ (10 : Int).toNat := by decide +kernel
theorem big600' : ((10 : Int) ^ (60 : Int).toNat) ^ (10 : Int).toNat < 2 ^ 2100 := by decide +kernel
theorem big60 : ((10 : Int) ^ (60 : Int).toNat).natAbs < 2 ^ 200 := by decide +kernel

theorem ok__law_bag {f : Addr} {fd : FuncData}  (F : Fun K "_law_bag" "_law_bag" s__law_bag f fd) (B : Bl mg)  : FnOk P w K mg base CX0 1 f fd ["script"] (sp_bag K) := by
  refine F.ok sc__law_bag (fun vs H Q E h => ?_) (fun cdv A outer s H vs Q E hr h => ?_)
  · obtain ⟨s0, ns, rfl, _⟩ := h; rfl
  · obtain ⟨s0, ns, rfl, hs, h63, q⟩ := h
    have nd := sc__law_bag.nd
    refine ⟨_, (pss_cons (ps_set (i := 1) nd rfl (Or.inl rfl) pe_int)
      (pss_cons (ps_for PassesOwn.never rfl (pi_list (pe_slice sl_list (pv 0) po_none (po_some pe_int))) (pg_name (i := 2) nd rfl (Or.inl rfl)) (pss_one (ps_set (i := 1) nd rfl (Or.inl rfl) (pe_op op_mod (pe_callTy call_int1 (by rfl) B.int (by decide +kernel) (pa_cons (pe_op op_add (pe_op op_add (pe_op op_mulW (pv 1) pe_int) (pe_op op_mod (pe_callTy call_int1 (by rfl) B.int (by decide +kernel) (pa_cons (pv 2) pa_nil)) pe_int)) pe_int) pa_nil)) pe_int))))
      (pss_one (ps_ret (pe_lst (pa_cons (pe_lc (own := [("cell", 2)]) (g := gName 2) rfl nd (pi_list (pe_slice sl_list (pv 0) po_none (po_some pe_int))) (blkOk_by (own := [("cell", 2)]) (N := ["script", "stir", "cell"]) (sc := defScope s__law_bag) (by decide +kernel)) (fun _ _ _ _ _ => (pg_name (i := 2) nd rfl (Or.inl rfl))) (fun _ _ _ _ _ => pts_nil) (fun _ _ _ _ _ => (pe_op op_mod (pe_callTy call_int1 (by rfl) B.int (by decide +kernel) (pa_cons (pe_callB call_abs (by rfl) B.abs (by decide +kernel) (pa_cons (pv 2) pa_nil)) pa_nil)) (pe_op op_powW (pe_op op_powW pe_int pe_int) pe_int)))) (pa_cons pe_int (pa_cons pe_int (pa_cons (pv 1) (pa_cons pe_int pa_nil)))))))))), ?_⟩
    refine ⟨.ref s0, rfl, 63, rfl, s0, _, rfl, hs, fun u nu => ?_⟩
    rw [show (63 : Int) = ((63 : Nat) : Int) from rfl, cut_take, List.take_of_length_le (by rw [List.length_map]; exact h63)]
    have s1 := sameN (o := .lst (ns.map V.int)) nu
    have hu : L2.upd H u (.lst (ns.map V.int)) u = some (.lst (ns.map V.int)) := upd_same
    generalize L2.upd H u (.lst (ns.map V.int)) = H1 at *
    refine ⟨u, rfl, ⟨_, SqL.of hu⟩, for_list (xs := ns.map V.int) (fun i σ H' => ∃ st y, σ = [some (.ref s0), some (.int st), y] ∧ H' = H1 ∧ 0 ≤ st ∧ st < 2147483647) ⟨151, none, rfl, rfl, by decide, by decide⟩ (fun i σ H' _ ⟨_, _, _, e, _⟩ => by rw [e]; exact SqL.of hu) (fun i x σ H' hx ⟨st, y, e0, e1, g0, g1⟩ => ?_) (fun σ H' ⟨st, y, e0, e1, g0, g1⟩ => ?_)⟩
    · subst e0 e1
      obtain ⟨n, hn, rfl⟩ := map_get hx
      refine ⟨.int st, rfl, st, 48271, rfl, rfl, wide_mul (a := 31) (b := 16) (abs_lt g0 (by omega)) (by decide) (by decide) (by decide) (by decide), .int n, rfl, .inl ⟨n, rfl, n, 2147483629, rfl, rfl, by show (0 : Int) < 2147483629; decide, _, _, rfl, rfl, _, 1, rfl, rfl, .inl ⟨_, rfl, _, 2147483647, rfl, rfl, by show (0 : Int) < 2147483647; decide, _, _, rfl, rfl, Int.emod_nonneg _ (by decide), Int.emod_lt_of_pos _ (by decide)⟩⟩⟩
    · subst e0 e1
      refine ⟨.ref s0, rfl, 63, rfl, s0, _, rfl, sql_same hs s1, fun u2 nu2 => ?_⟩
      rw [show (63 : Int) = ((63 : Nat) : Int) from rfl, cut_take, List.take_of_length_le (by rw [List.length_map]; exact h63)]
      have s2 := sameN (o := .lst (ns.map V.int)) nu2
      have hu2 : L2.upd H' u2 (.lst (ns.map V.int)) u2 = some (.lst (ns.map V.int)) := upd_same
      generalize L2.upd H' u2 (.lst (ns.map V.int)) = H2 at *
      refine ⟨u2, rfl, ⟨_, SqL.of hu2⟩, fun D hD => lc_list (xs := ns.map V.int) (fun i H' => ∃ xs : List Int, xs.length = i ∧ Same H2 H' ∧ LI H' D xs ∧ ∀ x ∈ xs, 0 ≤ x ∧ x < 2 ^ 2100) ⟨[], rfl, same_new hD, upd_same, fun x h => by cases h⟩ (fun i H' _ ⟨_, _, e, _⟩ => SqL.of (e _ _ hu2)) (fun i x H' hx ⟨xs, e1, e2, e3, e4⟩ => ?_) (fun H' ⟨xs, e1, e2, e3, e4⟩ => ?_)⟩
      · obtain ⟨n, hn, rfl⟩ := map_get hx
        have hi := (List.getElem?_eq_some_iff.mp hn).1
        refine ⟨rfl, .int n, rfl, n, rfl, .inl ⟨_, rfl, 10, 60, rfl, rfl, pw 4 (by decide) (by decide) (by decide) (by decide), _, 10, rfl, rfl, pw 200 (by decide) big60 (by decide) (by decide), _, _, rfl, rfl, big600, _, e3, ?_, xs ++ [(if n < 0 then -n else n) % ((10 ^ (60 : Int).toNat) ^ (10 : Int).toNat)], ?_, fun b x hb => ?_, ?_, fun x hx => ?_⟩⟩
        · rw [List.length_map, e1]
          show i < 16777216
          omega
        · rw [List.length_append, e1]
          rfl
        · rw [upd_ne (ne_of_none hb hD)]
          exact e2 b x hb
        · show L2.upd H' D _ D = _
          rw [upd_same, List.map_append]
          rfl
        · rcases List.mem_append.mp hx with h | h
          · exact e4 x h
          · rw [List.mem_singleton.mp h]
            have := Int.emod_lt_of_pos (if n < 0 then -n else n) big600
            have := big600'
            exact ⟨Int.emod_nonneg _ (Int.ne_of_gt big600), by omega⟩
      · rw [List.length_map] at e1
        refine ⟨.int st, rfl, by show 5 ≤ 16777216; decide, fun b nb => ?_⟩
        have sb := sameN (o := .lst [.ref D, .int 0, .int 0, .int st, .int 0]) nb
        exact q b D _ ((s1.trans (s2.trans e2)).trans sb) ((s1.trans (s2.trans e2)).free nb) ⟨xs, 0, 0, st, 0, upd_same, sb _ _ e3, e4, by omega, by decide, by decide, by decide +kernel, g0, g1, by decide, by decide⟩

theorem ok__law_stirred {f : Addr} {fd : FuncData}  (F : Fun K "_law_stirred" "_law_stirred" s__law_stirred f fd) (B : Bl mg)  : FnOk P w K mg base CX0 1 f fd ["bag", "wide"] (sp_stirred) := by
  refine F.ok sc__law_stirred (fun vs H Q E h => ?_) (fun cdv A outer s H vs Q E hr h => ?_)
  · obtain ⟨b, c, wv, n, rfl, _⟩ := h; rfl
  · obtain ⟨b, c, wv, n, rfl, hb, hn, w1, w2, q⟩ := h
    have nd := sc__law_stirred.nd
    refine ⟨_, (pss_cons (ps_set (i := 2) nd rfl (Or.inl rfl) pe_int)
      (pss_cons (ps_for PassesOwn.never rfl (pi_range1 rfl B.range (pa_cons (pe_op op_add pe_int (pe_op op_fdivW (pe_bits (pv 1)) pe_int)) pa_nil)) (pg_name (i := 3) nd rfl (Or.inl rfl)) (pss_cons (ps_asg (pe_op op_add (pe_ix ix_list (pv 0) pe_int (fun _ _ => rfl)) pe_int) (pg_sub (pv 0) pe_int set_list))
      (pss_cons (ps_set (i := 4) nd rfl (Or.inl rfl) (pe_op op_add (pe_op op_add (pe_op op_add (pe_op op_powW (pe_ix ix_list (pv 0) pe_int (fun _ _ => rfl)) pe_int) (pe_op op_mulW pe_int (pe_ix ix_list (pv 0) pe_int (fun _ _ => rfl)))) (pe_op op_mulW pe_int (pe_ix ix_list (pv 0) pe_int (fun _ _ => rfl)))) pe_int))
      (pss_cons (ps_asg (pe_op op_mod (pe_callTy call_int1 (by rfl) B.int (by decide +kernel) (pa_cons (pv 4) pa_nil)) pe_int) (pg_sub (pv 0) pe_int set_list))
      (pss_one (ps_set (i := 2) nd rfl (Or.inl rfl) (pe_op op_add (pe_op op_mulW (pv 2) pe_int) (pe_op op_fdivW (pe_ix ix_list (pv 0) pe_int (fun _ _ => rfl)) pe_int))))))))
      (pss_one (ps_ret (pe_op op_mod (pe_callTy call_int1 (by rfl) B.int (by decide +kernel) (pa_cons (pv 2) pa_nil)) (pv 1)))))), ?_⟩
    have hbits := bits_le (abs_lt (show 0 ≤ wv by omega) w2) (by decide : 0 < 600)
    have hcnt : (Builtin.Int.intBits wv : Int) / 27 ≤ 22 := by omega
    refine ⟨.int wv, rfl, wv, rfl, _, 27, rfl, rfl, wide_div (b := 5) (by decide) (by decide) (by decide) (by decide), 1, _, rfl, rfl, _, rfl, by omega, by omega, ?_⟩
    generalize hm : (1 + (Builtin.Int.intBits wv : Int) / 27).toNat = m
    have hm23 : m ≤ 23 := by omega
    refine for_range (lo := 0) (n := m) (fun i σ H' => ∃ f y3 y4, σ = [some (.ref b), some (.int wv), some (.int f), y3, y4] ∧ But b H H' ∧ Fre H H' ∧ Bg H' b c (n + i) ∧ 0 ≤ f ∧ f < 2 ^ (27 * i + 1)) ⟨0, none, none, rfl, fun _ _ _ h => h, fun _ h => h, hb, by decide, by decide⟩ (fun i σ H' hi ⟨f, y3, y4, e0, e1, e2, e3, e4, e5⟩ => ?_) (fun σ H' ⟨f, y3, y4, e0, e1, e2, e3, e4, e5⟩ => ?_)
    · subst e0
      obtain ⟨xs, ix, d, st, k, g1, g2, g3, g4, g5, g6, g7, g8, g9, g10, g11⟩ := e3
      have hcb := cellne g1 g2
      refine ⟨.ref b, rfl, b, _, 4, .int k, rfl, rfl, SqL.of g1, rfl, k, 1, rfl, rfl, .ref b, rfl, b, _, 4, 4, rfl, rfl, g1, rfl, ?_⟩
      have b1 := But.put b H' (.lst [.ref c, .int ix, .int d, .int st, .int (k + 1)])
      have f1 := Fre.put (j := b) (H := H') (o := .lst [.ref c, .int ix, .int d, .int st, .int (k + 1)])
      have h1 : L2.upd H' b (.lst [.ref c, .int ix, .int d, .int st, .int (k + 1)]) b = some (.lst [.ref c, .int ix, .int d, .int st, .int (k + 1)]) := upd_same
      have eset : ([.ref c, .int ix, .int d, .int st, .int k] : List V).set 4 (.int (k + 1)) = [.ref c, .int ix, .int d, .int st, .int (k + 1)] := rfl
      rw [eset]
      generalize L2.upd H' b (.lst [.ref c, .int ix, .int d, .int st, .int (k + 1)]) = H1 at *
      have g21 := b1 _ _ hcb g2
      have zst : st.natAbs < 2 ^ 31 := abs_lt g8 (by omega)
      refine ⟨.ref b, rfl, b, _, 3, .int st, rfl, rfl, SqL.of h1, rfl, st, 3, rfl, rfl, pw 31 (by decide) zst (by decide) (by decide), .ref b, rfl, b, _, 3, .int st, rfl, rfl, SqL.of h1, rfl, 69621, st, rfl, rfl, wide_mul (a := 17) (b := 31) (by decide) zst (by decide) (by decide) (by decide), _, _, rfl, rfl, .ref b, rfl, b, _, 4, .int (k + 1), rfl, rfl, SqL.of h1, rfl, 1031, k + 1, rfl, rfl, wide_mul (a := 11) (b := 30) (by decide) (abs_lt (by omega) (by omega)) (by decide) (by decide) (by decide), _, _, rfl, rfl, _, 1, rfl, rfl, ?_⟩
      generalize hmx : st ^ (3 : Int).toNat + 69621 * st + 1031 * (k + 1) + 1 = mx
      have t0 : 0 ≤ mx % 2147483647 := Int.emod_nonneg _ (by decide)
      have t1 : mx % 2147483647 < 2147483647 := Int.emod_lt_of_pos _ (by decide)
      refine ⟨.int mx, by rw [← hmx]; rfl, .inl ⟨mx, rfl, mx, 2147483647, rfl, rfl, by show (0 : Int) < 2147483647; decide, .ref b, rfl, b, _, 3, 3, rfl, rfl, h1, rfl, ?_⟩⟩
      have b2 := But.put b H1 (.lst [.ref c, .int ix, .int d, .int (mx % 2147483647), .int (k + 1)])
      have f2 := Fre.put (j := b) (H := H1) (o := .lst [.ref c, .int ix, .int d, .int (mx % 2147483647), .int (k + 1)])
      have h2 : L2.upd H1 b (.lst [.ref c, .int ix, .int d, .int (mx % 2147483647), .int (k + 1)]) b = some (.lst [.ref c, .int ix, .int d, .int (mx % 2147483647), .int (k + 1)]) := upd_same
      have eset2 : ([.ref c, .int ix, .int d, .int st, .int (k + 1)] : List V).set 3 (.int (mx % 2147483647)) = [.ref c, .int ix, .int d, .int (mx % 2147483647), .int (k + 1)] := rfl
      rw [eset2]
      generalize L2.upd H1 b (.lst [.ref c, .int ix, .int d, .int (mx % 2147483647), .int (k + 1)]) = H2 at *
      have g22 := b2 _ _ hcb g21
      refine ⟨.int f, rfl, f, 134217728, rfl, rfl, wide_mul (a := 27 * i + 1) (b := 28) (abs_lt e4 e5) (by decide) (by omega) (by decide) (by omega), .ref b, rfl, b, _, 3, .int (mx % 2147483647), rfl, rfl, SqL.of h2, rfl, _, 16, rfl, rfl, wide_div (b := 5) (by decide) (by decide) (by decide) (by decide), _, _, rfl, rfl, ?_⟩
      refine ⟨_, _, _, rfl, (e1.trans b1).trans b2, (e2.trans f1).trans f2, ⟨xs, ix, d, _, k + 1, h2, g22, g3, g4, g5, g6, g7, t0, t1, by omega, by omega⟩, by omega, ?_⟩
      have e6 : (2 : Int) ^ (27 * (i + 1) + 1) = 134217728 * 2 ^ (27 * i + 1) := by
        rw [show 27 * (i + 1) + 1 = 27 + (27 * i + 1) by omega, Int.pow_add]
        rfl
      rw [e6]
      omega
    · subst e0
      exact ⟨.int f, rfl, .inl ⟨f, rfl, .int wv, rfl, f, wv, rfl, rfl, by show 0 < wv; omega, q _ H' e1 e2 (e3.le (by omega)) (Int.emod_nonneg _ (by omega)) (Int.emod_lt_of_pos _ (by omega))⟩⟩

theorem ok__law_draw {f : Addr} {fd : FuncData}  (F : Fun K "_law_draw" "_law_draw" s__law_draw f fd) (B : Bl mg) (C__law_stirred : Cal P w K mg base 1 "_law_stirred" ["bag", "wide"] sp_stirred) : FnOk P w K mg base CX0 2 f fd ["bag", "wide"] (sp_draw) := by
  refine F.ok sc__law_draw (fun vs H Q E h => ?_) (fun cdv A outer s H vs Q E hr h => ?_)
  · obtain ⟨b, c, wv, n, rfl, _⟩ := h; rfl
  · obtain ⟨b, c, wv, n, rfl, hb, hn, w1, w2, q⟩ := h
    have hb0 := hb
    obtain ⟨xs, ix, d, st, k, g1, g2, g3, g4, g5, g6, g7, g8, g9, g10, g11⟩ := hb
    have hcb := cellne g1 g2
    have nd := sc__law_draw.nd
    refine ⟨_, (pss_cons (ps_if (PW.pt (pw_and (pt_cmpR op_eq (pe_ix ix_list (pv 0) pe_int (fun _ _ => rfl)) pe_int (nomark _)) (pw_and1 (pt_cmpR op_lt (pe_ix ix_list (pv 0) pe_int (fun _ _ => rfl)) (pe_callB call_len_seq (by rfl) B.len PySem.boot_len (pa_cons (pe_ix ix_list (pv 0) pe_int (fun _ _ => rfl)) pa_nil)) (nomark _)))))
      (pss_cons (ps_asg (pe_ix ix_list (pe_ix ix_list (pv 0) pe_int (fun _ _ => rfl)) (pe_ix ix_list (pv 0) pe_int (fun _ _ => rfl)) (fun _ _ => rfl)) (pg_sub (pv 0) pe_int set_list))
      (pss_one (ps_asg (pe_op op_add (pe_ix ix_list (pv 0) pe_int (fun _ _ => rfl)) pe_int) (pg_sub (pv 0) pe_int set_list)))) (pss_one (ps_if (pt_cmpR op_eq (pe_ix ix_list (pv 0) pe_int (fun _ _ => rfl)) pe_int (nomark _))
      (pss_one (ps_ret (pe_cal C__law_stirred (hr.mono (by decide)) (pa_cons (pv 0) (pa_cons (pv 1) pa_nil))))) pss_nil)))
      (pss_cons (ps_set (i := 2) nd rfl (Or.inl rfl) (pe_op op_mod (pe_callTy call_int1 (by rfl) B.int (by decide +kernel) (pa_cons (pe_ix ix_list (pv 0) pe_int (fun _ _ => rfl)) pa_nil)) (pv 1)))
      (pss_cons (ps_asg (pe_op op_fdivW (pe_ix ix_list (pv 0) pe_int (fun _ _ => rfl)) (pv 1)) (pg_sub (pv 0) pe_int set_list))
      (pss_one (ps_ret (pv 2)))))), ?_⟩
    refine ⟨.ref b, rfl, b, _, 2, .int d, rfl, rfl, SqL.of g1, rfl, rfl, _, rfl, ?_⟩
    rw [dec_int]
    refine ite2 (fun gd => ?_) (fun gd => ?_)
    · have d0 : d = 0 := of_decide_eq_true gd
      refine ⟨.ref b, rfl, b, _, 1, .int ix, rfl, rfl, SqL.of g1, rfl, .ref b, rfl, b, _, 0, .ref c, rfl, rfl, SqL.of g1, rfl, c, _, rfl, .inl (SqL.of g2), _, _, rfl, rfl, _, rfl, ?_⟩
      refine ite2 (fun gi => ?_) (fun gi => ?_)
      · obtain ⟨ixn, rfl⟩ := Int.eq_ofNat_of_zero_le g5
        have hix : ixn < xs.length := by
          have := of_decide_eq_true gi
          rw [List.length_map] at this
          omega
        have hg := get_map (List.getElem?_eq_getElem hix)
        obtain ⟨x0, x1⟩ := g3 _ (List.getElem_mem hix)
        generalize xs[ixn] = cell at *
        refine ⟨.ref b, rfl, b, _, 0, .ref c, rfl, rfl, SqL.of g1, rfl, .ref b, rfl, b, _, 1, .int (ixn : Int), rfl, rfl, SqL.of g1, rfl, c, _, ixn, .int cell, rfl, rfl, SqL.of g2, atI_nat hg, .ref b, rfl, b, _, 2, 2, rfl, rfl, g1, rfl, ?_⟩
        have b1 := But.put b H (.lst [.ref c, .int (ixn : Int), .int cell, .int st, .int k])
        have f1 := Fre.put (j := b) (H := H) (o := .lst [.ref c, .int (ixn : Int), .int cell, .int st, .int k])
        have h1 : L2.upd H b (.lst [.ref c, .int (ixn : Int), .int cell, .int st, .int k]) b = some (.lst [.ref c, .int (ixn : Int), .int cell, .int st, .int k]) := upd_same
        have eset : ([.ref c, .int (ixn : Int), .int d, .int st, .int k] : List V).set 2 (.int cell) = [.ref c, .int (ixn : Int), .int cell, .int st, .int k] := rfl
        rw [eset]
        generalize L2.upd H b (.lst [.ref c, .int (ixn : Int), .int cell, .int st, .int k]) = H1 at *
        have g21 := b1 _ _ hcb g2
        refine ⟨.ref b, rfl, b, _, 1, .int (ixn : Int), rfl, rfl, SqL.of h1, rfl, _, 1, rfl, rfl, .ref b, rfl, b, _, 1, 1, rfl, rfl, h1, rfl, ?_⟩
        have b2 := But.put b H1 (.lst [.ref c, .int ((ixn : Int) + 1), .int cell, .int st, .int k])
        have f2 := Fre.put (j := b) (H := H1) (o := .lst [.ref c, .int ((ixn : Int) + 1), .int cell, .int st, .int k])
        have h2 : L2.upd H1 b (.lst [.ref c, .int ((ixn : Int) + 1), .int cell, .int st, .int k]) b = some (.lst [.ref c, .int ((ixn : Int) + 1), .int cell, .int st, .int k]) := upd_same
        have eset2 : ([.ref c, .int (ixn : Int), .int cell, .int st, .int k] : List V).set 1 (.int ((ixn : Int) + 1)) = [.ref c, .int ((ixn : Int) + 1), .int cell, .int st, .int k] := rfl
        rw [eset2]
        generalize L2.upd H1 b (.lst [.ref c, .int ((ixn : Int) + 1), .int cell, .int st, .int k]) = H2 at *
        have g22 := b2 _ _ hcb g21
        refine ⟨.ref b, rfl, b, _, 2, .int cell, rfl, rfl, SqL.of h2, rfl, .inl ⟨cell, rfl, .int wv, rfl, cell, wv, rfl, rfl, by show 0 < wv; omega, ?_⟩⟩
        have z1 : 0 ≤ cell / wv := Int.ediv_nonneg x0 (by omega)
        have z2 : cell / wv ≤ cell := Int.ediv_le_self _ x0
        refine ⟨.ref b, rfl, b, _, 2, .int cell, rfl, rfl, SqL.of h2, rfl, .int wv, rfl, cell, wv, rfl, rfl, wide_div (b := 600) (by omega) (abs_lt (by omega) w2) (by decide) (by decide), .ref b, rfl, b, _, 2, 2, rfl, rfl, h2, rfl, ?_⟩
        have b9 := But.put b H2 (.lst [.ref c, .int ((ixn : Int) + 1), .int (cell / wv), .int st, .int k])
        have f9 := Fre.put (j := b) (H := H2) (o := .lst [.ref c, .int ((ixn : Int) + 1), .int (cell / wv), .int st, .int k])
        refine ⟨.int (cell % wv), rfl, q (cell % wv) _ ((b1.trans b2).trans b9) ((f1.trans f2).trans f9) ⟨xs, ((ixn : Int) + 1), cell / wv, st, k, upd_same, b9 _ _ hcb g22, g3, g4, by omega, z1, by omega, g8, g9, g10, by omega⟩ (Int.emod_nonneg _ (by omega)) (Int.emod_lt_of_pos _ (by omega))⟩
      · refine ⟨.ref b, rfl, b, _, 2, .int d, rfl, rfl, SqL.of g1, rfl, rfl, _, rfl, ?_⟩
        rw [dec_int, gd]
        refine iteT ⟨.ref b, rfl, .int wv, rfl, b, c, wv, n, rfl, hb0, hn, w1, w2, q⟩
    · refine ⟨.ref b, rfl, b, _, 2, .int d, rfl, rfl, SqL.of g1, rfl, rfl, _, rfl, ?_⟩
      rw [dec_int, show decide (d = 0) = false by cases h : decide (d = 0) with | false => rfl | true => exact absurd h gd]
      refine iteF ?_
      refine ⟨.ref b, rfl, b, _, 2, .int d, rfl, rfl, SqL.of g1, rfl, .inl ⟨d, rfl, .int wv, rfl, d, wv, rfl, rfl, by show 0 < wv; omega, ?_⟩⟩
      have z1 : 0 ≤ d / wv := Int.ediv_nonneg g6 (by omega)
      have z2 : d / wv ≤ d := Int.ediv_le_self _ g6
      refine ⟨.ref b, rfl, b, _, 2, .int d, rfl, rfl, SqL.of g1, rfl, .int wv, rfl, d, wv, rfl, rfl, wide_div (b := 600) (by omega) (abs_lt (by omega) w2) (by decide) (by decide), .ref b, rfl, b, _, 2, 2, rfl, rfl, g1, rfl, ?_⟩
      have b9 := But.put b H (.lst [.ref c, .int ix, .int (d / wv), .int st, .int k])
      have f9 := Fre.put (j := b) (H := H) (o := .lst [.ref c, .int ix, .int (d / wv), .int st, .int k])
      refine ⟨.int (d % wv), rfl, q (d % wv) _ ((But.of (j := b) (sameR H)).trans b9) ((Fre.of (sameR H)).trans f9) ⟨xs, ix, d / wv, st, k, upd_same, b9 _ _ hcb g2, g3, g4, g5, z1, by omega, g8, g9, g10, by omega⟩ (Int.emod_nonneg _ (by omega)) (Int.emod_lt_of_pos _ (by omega))⟩



end
end K59
end

section
set_option Elab.async false
set_option linter.all false
set_option maxRecDepth 100000
set_option maxHeartbeats 4000000
namespace K59
open PySem PySem.Spec PyProof.Rows L2 GxR Gx Ma
section
variable {P : Program} {w : World} {K : PySem.W.Frag} {mg : Str → Option Value} {base : Heap}

theorem fr_kep {s w : Int} (h1 : 1 ≤ s) (h2 : s < w) (h3 : w ≤ 100) : Kep (fr s w).1 (fr s w).2 := by
  obtain ⟨a, rfl⟩ := Int.eq_ofNat_of_zero_le (show 0 ≤ s by omega)
  obtain ⟨b, rfl⟩ := Int.eq_ofNat_of_zero_le (show 0 ≤ w by omega)
  have hg : 0 < Nat.gcd a b := Nat.gcd_pos_of_pos_left b (by omega)
  have e1 : (fr (a : Int) (b : Int)).1 = ((a / Nat.gcd a b : Nat) : Int) := by
    show (a : Int) / ((Nat.gcd (a : Int).natAbs (b : Int).natAbs : Nat) : Int) = _
    rw [Int.natAbs_natCast, Int.natAbs_natCast, Int.natCast_ediv]
  have e2 : (fr (a : Int) (b : Int)).2 = ((b / Nat.gcd a b : Nat) : Int) := by
    show (b : Int) / ((Nat.gcd (a : Int).natAbs (b : Int).natAbs : Nat) : Int) = _
    rw [Int.natAbs_natCast, Int.natAbs_natCast, Int.natCast_ediv]
  rw [e1, e2]
  have q1 := Nat.div_mul_cancel (Nat.gcd_dvd_left a b)
  have q2 := Nat.div_mul_cancel (Nat.gcd_dvd_right a b)
  have q3 : Nat.gcd (a / Nat.gcd a b) (b / Nat.gcd a b) = 1 := by rw [Nat.gcd_div (Nat.gcd_dvd_left a b) (Nat.gcd_dvd_right a b), Nat.div_self hg]
  have p3 : b / Nat.gcd a b ≤ b := Nat.div_le_self _ _
  generalize a / Nat.gcd a b = x at *
  generalize b / Nat.gcd a b = y at *
  generalize Nat.gcd a b = g at *
  have p1 : x ≠ 0 := fun z => by rw [z, Nat.zero_mul] at q1; omega
  have p2 : x < y := Nat.lt_of_not_le fun z => by
    have := Nat.mul_le_mul_right g z
    omega
  refine ⟨by omega, by omega, by omega, ?_⟩
  rw [Int.natAbs_natCast, Int.natAbs_natCast]
  exact q3

theorem fr_shr {t m : Int} (h0 : 0 ≤ t) (h1 : t ≤ m) (h2 : 1 ≤ m) (h3 : m ≤ 1000000) : Shr (fr t m) := by
  obtain ⟨a, rfl⟩ := Int.eq_ofNat_of_zero_le h0
  obtain ⟨b, rfl⟩ := Int.eq_ofNat_of_zero_le (show 0 ≤ m by omega)
  have hg : 0 < Nat.gcd a b := Nat.gcd_pos_of_pos_right a (by omega)
  have e1 : (fr (a : Int) (b : Int)).1 = ((a / Nat.gcd a b : Nat) : Int) := by
    show (a : Int) / ((Nat.gcd (a : Int).natAbs (b : Int).natAbs : Nat) : Int) = _
    rw [Int.natAbs_natCast, Int.natAbs_natCast, Int.natCast_ediv]
  have e2 : (fr (a : Int) (b : Int)).2 = ((b / Nat.gcd a b : Nat) : Int) := by
    show (b : Int) / ((Nat.gcd (a : Int).natAbs (b : Int).natAbs : Nat) : Int) = _
    rw [Int.natAbs_natCast, Int.natAbs_natCast, Int.natCast_ediv]
  have q1 := Nat.div_mul_cancel (Nat.gcd_dvd_left a b)
  have q2 := Nat.div_mul_cancel (Nat.gcd_dvd_right a b)
  have q3 : Nat.gcd (a / Nat.gcd a b) (b / Nat.gcd a b) = 1 := by rw [Nat.gcd_div (Nat.gcd_dvd_left a b) (Nat.gcd_dvd_right a b), Nat.div_self hg]
  have p3 : b / Nat.gcd a b ≤ b := Nat.div_le_self _ _
  have p4 : a / Nat.gcd a b ≤ b / Nat.gcd a b := Nat.div_le_div_right (by omega)
  have p5 : 1 ≤ b / Nat.gcd a b := by
    by_cases z : 1 ≤ b / Nat.gcd a b
    · exact z
    · have z2 : b / Nat.gcd a b = 0 := Nat.eq_zero_of_not_pos z
      rw [z2, Nat.zero_mul] at q2
      omega
  have p7 : b ≤ 1000000 := by omega
  have p6 : b / Nat.gcd a b ≤ 1000000 := Nat.le_trans p3 p7
  generalize a / Nat.gcd a b = X at *
  generalize b / Nat.gcd a b = Y at *
  refine ⟨by rw [e1]; omega, by rw [e1, e2]; omega, by rw [e2]; omega, ?_, by rw [e2]; omega⟩
  rw [e1, e2, Int.natAbs_natCast, Int.natAbs_natCast]
  exact q3

theorem ix_listK {X : Cx} {K : PySem.W.Frag} (e : X.K = K) : IxR X (rIxL K) := e ▸ ix_list
theorem at2 {x y : Int} {i : Int} (h0 : 0 ≤ i) (h1 : i < 2) : ∃ v, atI ([.int x, .int y] : List V) i = some (.int v) ∧ (v = x ∨ v = y) := by
  have : i = 0 ∨ i = 1 := by omega
  rcases this with rfl | rfl
  · exact ⟨x, rfl, .inl rfl⟩
  · exact ⟨y, rfl, .inr rfl⟩
theorem at3 {x y z : Int} {i : Int} (h0 : 0 ≤ i) (h1 : i < 3) : ∃ v, atI ([.int x, .int y, .int z] : List V) i = some (.int v) ∧ (v = x ∨ v = y ∨ v = z) := by
  have : i = 0 ∨ i = 1 ∨ i = 2 := by omega
  rcases this with rfl | rfl | rfl
  · exact ⟨x, rfl, .inl rfl⟩
  · exact ⟨y, rfl, .inr (.inl rfl)⟩
  · exact ⟨z, rfl, .inr (.inr rfl)⟩
theorem at4 {x y z u : Int} {i : Int} (h0 : 0 ≤ i) (h1 : i < 4) : ∃ v, atI ([.int x, .int y, .int z, .int u] : List V) i = some (.int v) ∧ (v = x ∨ v = y ∨ v = z ∨ v = u) := by
  have : i = 0 ∨ i = 1 ∨ i = 2 ∨ i = 3 := by omega
  rcases this with rfl | rfl | rfl | rfl
  · exact ⟨x, rfl, .inl rfl⟩
  · exact ⟨y, rfl, .inr (.inl rfl)⟩
  · exact ⟨z, rfl, .inr (.inr (.inl rfl))⟩
  · exact ⟨u, rfl, .inr (.inr (.inr rfl))⟩
theorem w600 {x : Int} {k : Nat} (h : x ≤ 2 ^ k) (hk : k < 600) : x < 2 ^ 600 := Int.lt_of_le_of_lt h (by
  have := Nat.pow_lt_pow_right (show 1 < 2 by decide) hk
  exact_mod_cast this)
def sp_held : Sp := fun vs H Q _ => ∃ (b c : Addr) (m : Int) (n : Nat), vs = [V.ref b, V.int m] ∧ Bg H b c n ∧ n ≤ 900000 ∧ 2 ≤ m ∧ m ≤ 100 ∧ ∀ t x y H', But b H H' → Fre H H' → H t = none → Bg H' b c (n + 90) → H' t = some (.tup [.int x, .int y]) → Kep x y → Q (.ref t) H'
def sp_point : Sp := fun vs H Q _ => ∃ (b c : Addr) (m : Int) (n : Nat), vs = [V.ref b, V.int m] ∧ Bg H b c n ∧ n ≤ 900000 ∧ 1 ≤ m ∧ m ≤ 999999 ∧ ∀ t y H', But b H H' → Fre H H' → H t = none → Bg H' b c (n + 150) → TQ H' t y → Shr y → Q (.ref t) H'
def sp_drawn : Sp := fun vs H Q _ => ∃ (b c : Addr) (m : Nat) (far : Int) (n : Nat), vs = [V.ref b, V.int m, V.int far] ∧ Bg H b c n ∧ n ≤ 800000 ∧ 1 ≤ m ∧ m ≤ 8 ∧ 1 ≤ far ∧ far ≤ 1000000000000000000000000000000 ∧ ∀ p ns H', But b H H' → Fre H H' → H p = none → Bg H' b c (n + 600) → LI H' p ns → Con ns → ns.length = m → ns.sum < 2 ^ 110 → Q (.ref p) H'
def sp_less : Sp := fun vs H Q _ => ∃ (p r : Addr) (x y : Int × Int), vs = [V.ref p, V.ref r] ∧ TQ H p x ∧ TQ H r y ∧ x.1.natAbs < 2 ^ 20000 ∧ x.2.natAbs < 2 ^ 20000 ∧ y.1.natAbs < 2 ^ 20000 ∧ y.2.natAbs < 2 ^ 20000 ∧ Q (.bl (decide (x.1 * y.2 < y.1 * x.2))) H
/-- what stands in a list by itself -/
def Scal (v : V) : Prop := v = .non ∨ (∃ n : Int, v = .int n) ∨ ∃ x : Bool, v = .bl x
def sp_alike0 : Sp := fun vs H Q _ => ∃ v : V, vs = [v, v] ∧ Scal v ∧ ∀ H', Same H H' → Q (.bl true) H'
def sp_alike : Sp := fun vs H Q _ => ∃ (l l2 : Addr) (us : List V), vs = [V.ref l, V.ref l2] ∧ H l = some (.lst us) ∧ H l2 = some (.lst us) ∧ (∀ v ∈ us, Scal v) ∧ us.length ≤ 1000 ∧ ∀ H', Same H H' → Q (.bl true) H'
theorem kitLT {K : PySem.W.Frag} {t : String} (h1 : W.kitOne K (.type t) (.type "list") = some false) (h2 : W.kitOne K (.type t) (.type "tuple") = some false) : W.kitAny K (.type t) [.type "list", .type "tuple"] = some false := by
  simp only [W.kitAny, h1, h2]
theorem kitLL {K : PySem.W.Frag} : W.kitAny K (.type "list") [.type "list", .type "tuple"] = some true := by
  have h1 : W.kitOne K (.type "list") (.type "list") = some true := kit_ty (by decide +kernel)
  simp only [W.kitAny, h1]




theorem pow_lt_of {m n : Nat} (h : m < n) : (2 : Int) ^ m < 2 ^ n := by
  have := Nat.pow_lt_pow_right (show 1 < 2 by decide) h
  exact_mod_cast this
theorem sum_le_len {B : Int} : ∀ xs : List Int, (∀ x ∈ xs, x ≤ B) → xs.sum ≤ (xs.length : Int) * B
  | [], _ => by simp
  | x :: r, h => by
    have h1 := h x List.mem_cons_self
    have h2 := sum_le_len r fun y hy => h y (List.mem_cons_of_mem _ hy)
    rw [List.sum_cons, List.length_cons, Int.natCast_add, Int.add_mul]
    omega


end
end K59
end

section
set_option linter.all false
namespace GxR
open PySem PySem.Spec PyProof.Rows L2 Gx
def tIfT (tc : TT) (ta tb : TT) : TT := fun σ H Q => tc σ H fun k H1 => if k = true then ta σ H1 Q else tb σ H1 Q
/-- a test that is itself a choice -/
theorem pt_ifExp {X : Cx} {c a b : Expr} {tc ta tb : TT} {pos : Pos} (hc : PT X c tc) (ha : PT X a ta) (hb : PT X b tb) : PT X (.IfExp c a b pos) (tIfT tc ta tb) := by
  refine ⟨fun pins s σ H Q I h => ?_⟩
  rw [PySem.isTrue.eq_def]
  refine wpAny_bind ?_
  refine wpAny_mono (hc.run pins s σ H _ I h) (fun k s1 ⟨H1, I1, h1⟩ => ?_) (fun _ _ z => z)
  cases k with
  | true => exact ha.run pins s1 σ H1 Q I1 h1
  | false => exact hb.run pins s1 σ H1 Q I1 h1
end GxR
end

section
set_option Elab.async false
set_option linter.all false
set_option maxHeartbeats 4000000
/-! Trees of lists and tuples, all of them tracked, and the data that they are. -/
namespace Gx
open PySem PySem.Spec PyProof.Rows L2 GxR
inductive Tr (H : Hp) : Nat → V → PyData → Prop
  | non (n : Nat) : Tr H n .non .none
  | bl (n : Nat) (b : Bool) : Tr H n (.bl b) (.bool b)
  | int (n : Nat) (i : Int) : Tr H n (.int i) (.int i)
  | str (n : Nat) (z : Str) (hz : (PyData.str z).canLay0 = true) : Tr H n (.str z) (.str z)
  | lst {n : Nat} {a : Addr} {xs : List V} {ds : List PyData} (h : H a = some (.lst xs)) (hl : xs.length = ds.length) (h1 : xs.length ≤ 1000) (hh : ∀ (i : Nat) (x : V) (d : PyData), xs[i]? = some x → ds[i]? = some d → Tr H n x d) : Tr H (n + 1) (.ref a) (.list ds)
  | tup {n : Nat} {a : Addr} {xs : List V} {ds : List PyData} (h : H a = some (.tup xs)) (hl : xs.length = ds.length) (h1 : xs.length ≤ 1000) (hh : ∀ (i : Nat) (x : V) (d : PyData), xs[i]? = some x → ds[i]? = some d → Tr H n x d) : Tr H (n + 1) (.ref a) (.tuple ds)
theorem Tr.same {H H' : Hp} (e : Same H H') {n : Nat} {v : V} {d : PyData} (t : Tr H n v d) : Tr H' n v d := by
  induction t with
  | non n => exact .non n
  | bl n b => exact .bl n b
  | int n i => exact .int n i
  | str n z hz => exact .str n z hz
  | lst h hl h1 hh ih => exact .lst (e _ _ h) hl h1 ih
  | tup h hl h1 hh ih => exact .tup (e _ _ h) hl h1 ih
theorem Tr.up {H : Hp} {n : Nat} {v : V} {d : PyData} (t : Tr H n v d) : Tr H (n + 1) v d := by
  induction t with
  | non n => exact .non _
  | bl n b => exact .bl _ b
  | int n i => exact .int _ i
  | str n z hz => exact .str _ z hz
  | lst h hl h1 hh ih => exact .lst h hl h1 ih
  | tup h hl h1 hh ih => exact .tup h hl h1 ih
theorem Tr.mono {H : Hp} {n m : Nat} {v : V} {d : PyData} (t : Tr H n v d) (h : n ≤ m) : Tr H m v d := by
  obtain ⟨k, rfl⟩ := Nat.le.dest h
  induction k with
  | zero => exact t
  | succ k ih => exact (ih (Nat.le_add_right _ _)).up
theorem dpAll_of {K : PySem.W.Frag} {H : Hp} : ∀ (xs : List V) (ds : List PyData), xs.length = ds.length → (∀ (i : Nat) (x : V) (d : PyData), xs[i]? = some x → ds[i]? = some d → Dp K H x d) → DpAll K H xs ds
  | [], [], _, _ => .nil
  | x :: xs, d :: ds, hl, h => .cons (h 0 x d rfl rfl) (dpAll_of xs ds (by simpa using hl) fun i y e h1 h2 => h (i + 1) y e h1 h2)
theorem Tr.dp {K : PySem.W.Frag} {H : Hp} {n : Nat} {v : V} {d : PyData} (t : Tr H n v d) : Dp K H v d := by
  induction t with
  | non n => exact .non
  | bl n b => exact .bl b
  | int n i => exact .int i
  | str n z hz => exact .str z
  | lst h hl h1 hh ih => exact .lst (SqL.of h) (dpAll_of _ _ hl ih)
  | tup h hl h1 hh ih => exact .tup (SqT.of h) (dpAll_of _ _ hl ih)
theorem layAll_of : ∀ ds : List PyData, (∀ (i : Nat) (d : PyData), ds[i]? = some d → d.canLay0 = true) → PyData.canLayAll0 ds = true
  | [], _ => rfl
  | d :: ds, h => by
    rw [PyData.canLayAll0, h 0 d rfl, layAll_of ds fun i e hh => h (i + 1) e hh]
    rfl
theorem depthAll_of {n : Nat} : ∀ ds : List PyData, (∀ (i : Nat) (d : PyData), ds[i]? = some d → d.depth ≤ n) → PyData.depthAll ds ≤ n
  | [], _ => by rw [PyData.depthAll]; exact Nat.zero_le _
  | d :: ds, h => by
    have h1 := h 0 d rfl
    have h2 := depthAll_of ds fun i e hh => h (i + 1) e hh
    rw [PyData.depthAll]
    omega
theorem got {α β : Type} {xs : List α} {ds : List β} (hl : xs.length = ds.length) {i : Nat} {d : β} (h : ds[i]? = some d) : ∃ x, xs[i]? = some x := by
  have hi := (List.getElem?_eq_some_iff.mp h).1
  exact ⟨_, List.getElem?_eq_getElem (by omega)⟩
theorem Tr.lay {H : Hp} {n : Nat} {v : V} {d : PyData} (t : Tr H n v d) : d.canLay0 = true := by
  induction t with
  | non n => rfl
  | bl n b => rfl
  | int n i => rfl
  | str n z hz => exact hz
  | lst h hl h1 hh ih => exact layAll_of _ fun i d hd => let ⟨x, hx⟩ := got hl hd; ih i x d hx hd
  | tup h hl h1 hh ih => exact layAll_of _ fun i d hd => let ⟨x, hx⟩ := got hl hd; ih i x d hx hd
theorem Tr.depth {H : Hp} {n : Nat} {v : V} {d : PyData} (t : Tr H n v d) : d.depth ≤ n + 1 := by
  induction t with
  | non n => rw [PyData.depth] <;> first | omega | (intros; contradiction)
  | bl n b => rw [PyData.depth] <;> first | omega | (intros; contradiction)
  | int n i => rw [PyData.depth] <;> first | omega | (intros; contradiction)
  | str n z hz => rw [PyData.depth] <;> first | omega | (intros; contradiction)
  | lst h hl h1 hh ih =>
    have := depthAll_of (n := _ + 1) _ fun i d hd => let ⟨x, hx⟩ := got hl hd; ih i x d hx hd
    rw [PyData.depth]
    omega
  | tup h hl h1 hh ih =>
    have := depthAll_of (n := _ + 1) _ fun i d hd => let ⟨x, hx⟩ := got hl hd; ih i x d hx hd
    rw [PyData.depth]
    omega
theorem Tr.shaped {H : Hp} {n : Nat} {v : V} {d : PyData} (t : Tr H n v d) (h : n ≤ 60) : SeqAt.shaped d = true := by
  have := t.depth
  unfold SeqAt.shaped
  rw [Bool.and_eq_true]
  exact ⟨t.lay, decide_eq_true (by omega)⟩
theorem Tr.eqv {H : Hp} {n : Nat} {v : V} {d : PyData} (t : Tr H n v d) : PyData.eqv d d = true := SeqAt.eqv_refl _ t.lay
/-- item by item -/
inductive TrAll (H : Hp) (n : Nat) : List V → List PyData → Prop
  | nil : TrAll H n [] []
  | cons {v : V} {vs : List V} {d : PyData} {ds : List PyData} : Tr H n v d → TrAll H n vs ds → TrAll H n (v :: vs) (d :: ds)
theorem TrAll.get {H : Hp} {n : Nat} : ∀ {vs : List V} {ds : List PyData}, TrAll H n vs ds → vs.length = ds.length ∧ ∀ (i : Nat) (x : V) (d : PyData), vs[i]? = some x → ds[i]? = some d → Tr H n x d
  | _, _, .nil => ⟨rfl, fun i x d h => by rw [List.getElem?_nil] at h; cases h⟩
  | _, _, .cons t r => ⟨by rw [List.length_cons, List.length_cons, r.get.1], fun i x d h1 h2 => by
    cases i with
    | zero =>
      cases Option.some.inj h1
      cases Option.some.inj h2
      exact t
    | succ i => exact r.get.2 i x d h1 h2⟩
theorem Tr.ofL {H : Hp} {n : Nat} {a : Addr} {xs : List V} {ds : List PyData} (h : H a = some (.lst xs)) (t : TrAll H n xs ds) (h1 : xs.length ≤ 1000) : Tr H (n + 1) (.ref a) (.list ds) := .lst h t.get.1 h1 t.get.2
theorem Tr.ofT {H : Hp} {n : Nat} {a : Addr} {xs : List V} {ds : List PyData} (h : H a = some (.tup xs)) (t : TrAll H n xs ds) (h1 : xs.length ≤ 1000) : Tr H (n + 1) (.ref a) (.tuple ds) := .tup h t.get.1 h1 t.get.2
theorem TrAll.ints {H : Hp} {n : Nat} : ∀ ns : List Int, TrAll H n (ns.map V.int) (ns.map PyData.int)
  | [] => .nil
  | m :: r => .cons (.int n m) (TrAll.ints r)
theorem Tr.ints {H : Hp} {n : Nat} {a : Addr} {ns : List Int} (h : H a = some (.lst (ns.map V.int))) (h1 : ns.length ≤ 1000) : Tr H (n + 1) (.ref a) (.list (ns.map PyData.int)) := .ofL h (.ints ns) (by rw [List.length_map]; exact h1)
theorem Tr.pair {H : Hp} {n : Nat} {a : Addr} {x y : Int} (h : H a = some (.tup [.int x, .int y])) : Tr H (n + 1) (.ref a) (.tuple [.int x, .int y]) := .ofT h (.cons (.int n x) (.cons (.int n y) .nil)) (by show 2 ≤ 1000; decide)
theorem Tr.two {H : Hp} {m : Nat} {x y : V} {d : PyData} (t : Tr H m x d) (u : Tr H m y d) :
    (x = .non ∧ y = .non) ∨ (∃ b, x = .bl b ∧ y = .bl b) ∨ (∃ i, x = .int i ∧ y = .int i) ∨ (∃ z, (PyData.str z).canLay0 = true ∧ x = .str z ∧ y = .str z) ∨
    (∃ n a b xs ys ds, m = n + 1 ∧ x = .ref a ∧ y = .ref b ∧ H a = some (.lst xs) ∧ H b = some (.lst ys) ∧ xs.length = List.length ds ∧ ys.length = ds.length ∧ ys.length ≤ 1000 ∧ (∀ (i : Nat) (z : V) (d : PyData), xs[i]? = some z → ds[i]? = some d → Tr H n z d) ∧ ∀ (i : Nat) (z : V) (d : PyData), ys[i]? = some z → ds[i]? = some d → Tr H n z d) ∨
    ∃ n a b xs ys ds, m = n + 1 ∧ x = .ref a ∧ y = .ref b ∧ H a = some (.tup xs) ∧ H b = some (.tup ys) ∧ xs.length = List.length ds ∧ ys.length = ds.length ∧ ys.length ≤ 1000 ∧ (∀ (i : Nat) (z : V) (d : PyData), xs[i]? = some z → ds[i]? = some d → Tr H n z d) ∧ ∀ (i : Nat) (z : V) (d : PyData), ys[i]? = some z → ds[i]? = some d → Tr H n z d := by
  cases t with
  | non n => cases u; exact .inl ⟨rfl, rfl⟩
  | bl n b => cases u; exact .inr (.inl ⟨b, rfl, rfl⟩)
  | int n i => cases u; exact .inr (.inr (.inl ⟨i, rfl, rfl⟩))
  | str n z hz => cases u; exact .inr (.inr (.inr (.inl ⟨z, hz, rfl, rfl⟩)))
  | lst h hl h1 hh =>
    cases u with
    | lst k kl k1 kk => exact .inr (.inr (.inr (.inr (.inl ⟨_, _, _, _, _, _, rfl, rfl, rfl, h, k, hl, kl, k1, hh, kk⟩))))
  | tup h hl h1 hh =>
    cases u with
    | tup k kl k1 kk => exact .inr (.inr (.inr (.inr (.inr ⟨_, _, _, _, _, _, rfl, rfl, rfl, h, k, hl, kl, k1, hh, kk⟩))))
theorem call_list_ofK {X : Cx} {K : PySem.W.Frag} (e : X.K = K) : CallR X (.type "list") (fun xs H Q => ∃ p ys, xs = [V.ref p] ∧ (SqL K H p ys ∨ SqT K H p ys) ∧ ∀ l, H l = none → Q (V.ref l) (L2.upd H l (HO.lst ys))) := e ▸ call_list_of
theorem pe_cal0 {X : Cx} {k : Nat} {x : Str} {ps : List Str} {sp : Sp} {p pos : Pos} (C : Cal X.prog X.w X.K X.mg X.base k x ps sp) (hr : Room k X.A) (hg : Gl X x := by rfl) (hdb : (x == ("__debug__" : Str)) = false := by decide) : PE X (.Call (.Name x p) [] [] pos) (tCall sp [] E0 tNil) := by
  obtain ⟨f, fd, F, hm, hk, hb⟩ := C.ex
  exact pe_call0 F hr hg hm hk hb .nil pass0 hdb
/-- contents in a list -/
def dll (cs : List (List Int)) : PyData := .list (cs.map fun c => .list (c.map PyData.int))
theorem Tr.rows {H : Hp} {n : Nat} {a : Addr} {ps : List Addr} {cs : List (List Int)} (h : H a = some (.lst (ps.map V.ref))) (hl : ps.length = cs.length) (hr : ∀ (i : Nat) (b : Addr), ps[i]? = some b → H b = some (.lst ((cs.getD i []).map V.int))) (h1 : ps.length ≤ 1000) (h2 : ∀ c ∈ cs, c.length ≤ 1000) : Tr H (n + 2) (.ref a) (dll cs) := by
  refine .lst h (by rw [List.length_map, List.length_map, hl]) (by rw [List.length_map]; exact h1) fun i x d hx hd => ?_
  rw [List.getElem?_map] at hx hd
  cases hp : ps[i]? with
  | none => rw [hp] at hx; cases hx
  | some b =>
    rw [hp] at hx
    cases hx
    cases hc : cs[i]? with
    | none => rw [hc] at hd; cases hd
    | some c =>
      rw [hc] at hd
      cases hd
      have e := hr i b hp
      rw [List.getD_eq_getElem?_getD, hc] at e
      exact .ints e (h2 c (List.mem_of_getElem? hc))
end Gx
end

section
set_option Elab.async false
set_option linter.all false
set_option maxRecDepth 100000
set_option maxHeartbeats 4000000
namespace K59
open PySem PySem.Spec PyProof.Rows L2 GxR Gx Ma
section
variable {P : Program} {w : World} {K : PySem.W.Frag} {mg : Str → Option Value} {base : Heap}

theorem ix_seqK {X : Cx} {K : PySem.W.Frag} (e : X.K = K) : IxR X (rIx K) := e ▸ ix_seq
theorem kitLTt {K : PySem.W.Frag} : W.kitAny K (.type "tuple") [.type "list", .type "tuple"] = some true := by
  have h1 : W.kitOne K (.type "tuple") (.type "list") = some false := kit_ty (by decide +kernel)
  have h2 : W.kitOne K (.type "tuple") (.type "tuple") = some true := kit_ty (by decide +kernel)
  simp only [W.kitAny, h1, h2]
theorem same_refl (H : Hp) : Same H H := fun _ _ h => h
def sp_alikeT (n : Nat) : Sp := fun vs H Q _ => ∃ (x y : V) (d : PyData), vs = [x, y] ∧ Tr H n x d ∧ Tr H n y d ∧ ∀ H', Same H H' → Q (.bl true) H'

theorem ok__law_alikeF {f : Addr} {fd : FuncData} (F : Fun K "_law_alike" "_law_alike" s__law_alike f fd) : FnOk P w K mg base CX0 1 f fd ["found", "due"] (fun _ _ _ _ => False) := by
  refine F.ok sc__law_alike (fun vs H Q E h => ?_) (fun cdv A outer s H vs Q E hr h => ?_)
  · exact False.elim h
  · exact False.elim h

theorem ok__law_alike {f : Addr} {fd : FuncData}  (F : Fun K "_law_alike" "_law_alike" s__law_alike f fd) (B : Bl mg) {m : Nat} {spI : Sp} (hI : ∀ n, m = n + 1 → spI = sp_alikeT n) (C__law_alike : Cal P w K mg base (m + 1) "_law_alike" ["found", "due"] spI) : FnOk P w K mg base CX0 (m + 2) f fd ["found", "due"] (sp_alikeT m) := by
  refine F.ok sc__law_alike (fun vs H Q E h => ?_) (fun cdv A outer s H vs Q E hr h => ?_)
  · obtain ⟨x, y, d, rfl, _⟩ := h; rfl
  · obtain ⟨x, y, d, rfl, tx, ty, q⟩ := h
    have nd := sc__law_alike.nd
    refine ⟨_, (pss_cons (ps_if (pt_val (pe_callB call_isiT (by rfl) B.isinstance (by decide +kernel) (pa_cons (pv 1) (pa_cons (pe_tup (pa_cons (pe_bltn (v := .ty "list") (by rfl) B.list (by decide +kernel) rfl) (pa_cons (pe_bltn (v := .ty "tuple") (by rfl) B.tuple (by decide +kernel) rfl) pa_nil))) pa_nil))))
      (pss_cons (ps_if (PW.pt (pw_or (pt_not (pt_val (pe_callB call_isiT (by rfl) B.isinstance (by decide +kernel) (pa_cons (pv 0) (pa_cons (pe_tup (pa_cons (pe_bltn (v := .ty "list") (by rfl) B.list (by decide +kernel) rfl) (pa_cons (pe_bltn (v := .ty "tuple") (by rfl) B.tuple (by decide +kernel) rfl) pa_nil))) pa_nil))))) (pw_or1 (pt_cmpR op_ne (pe_callB call_isi (by rfl) B.isinstance (by decide +kernel) (pa_cons (pv 0) (pa_cons (pe_bltn (v := .ty "list") (by rfl) B.list (by decide +kernel) rfl) pa_nil))) (pe_callB call_isi (by rfl) B.isinstance (by decide +kernel) (pa_cons (pv 1) (pa_cons (pe_bltn (v := .ty "list") (by rfl) B.list (by decide +kernel) rfl) pa_nil))) (nomark _)))))
      (pss_one (ps_ret pe_bl)) pss_nil)
      (pss_cons (ps_if (pt_cmpR op_ne (pe_callB call_len_seq (by rfl) B.len PySem.boot_len (pa_cons (pv 0) pa_nil)) (pe_callB call_len_seq (by rfl) B.len PySem.boot_len (pa_cons (pv 1) pa_nil)) (nomark _))
      (pss_one (ps_ret pe_bl)) pss_nil)
      (pss_one (ps_ret (pe_callB (cr_all rfl) (by rfl) B.all (by decide +kernel) (pa_cons (pe_lc (own := [("k", 2)]) (g := gName 2) rfl nd (pi_range1 rfl B.range (pa_cons (pe_callB call_len_seq (by rfl) B.len PySem.boot_len (pa_cons (pv 1) pa_nil)) pa_nil)) (blkOk_by (own := [("k", 2)]) (N := ["found", "due", "k"]) (sc := defScope s__law_alike) (by decide +kernel)) (fun _ _ _ _ _ => (pg_name (i := 2) nd rfl (Or.inl rfl))) (fun _ _ _ _ _ => pts_nil) (fun _ _ _ _ _ => (pe_cal C__law_alike (hr.mono (by omega)) (pa_cons (pe_ix (ix_seqK (K := K) rfl) (pv 0) (pv 2) (fun _ _ => rfl)) (pa_cons (pe_ix (ix_seqK (K := K) rfl) (pv 1) (pv 2) (fun _ _ => rfl)) pa_nil))))) pa_nil)))))) pss_nil)
      (pss_cons (ps_if (PW.pt (pw_or (pt_cmpR op_ne (pe_callB call_isi (by rfl) B.isinstance (by decide +kernel) (pa_cons (pv 0) (pa_cons (pe_bltn (v := .ty "bool") (by rfl) B.bool (by decide +kernel) rfl) pa_nil))) (pe_callB call_isi (by rfl) B.isinstance (by decide +kernel) (pa_cons (pv 1) (pa_cons (pe_bltn (v := .ty "bool") (by rfl) B.bool (by decide +kernel) rfl) pa_nil))) (nomark _)) (pw_or1 (pt_cmpR op_ne (pe_callB call_isi (by rfl) B.isinstance (by decide +kernel) (pa_cons (pv 0) (pa_cons (pe_bltn (v := .ty "int") (by rfl) B.int (by decide +kernel) rfl) pa_nil))) (pe_callB call_isi (by rfl) B.isinstance (by decide +kernel) (pa_cons (pv 1) (pa_cons (pe_bltn (v := .ty "int") (by rfl) B.int (by decide +kernel) rfl) pa_nil))) (nomark _)))))
      (pss_one (ps_ret pe_bl)) pss_nil)
      (pss_one (ps_ret (pe_and (pe_cmpR op_eq (pe_callB call_isi (by rfl) B.isinstance (by decide +kernel) (pa_cons (pv 0) (pa_cons (pe_bltn (v := .ty "str") (by rfl) B.str (by decide +kernel) rfl) pa_nil))) (pe_callB call_isi (by rfl) B.isinstance (by decide +kernel) (pa_cons (pv 1) (pa_cons (pe_bltn (v := .ty "str") (by rfl) B.str (by decide +kernel) rfl) pa_nil))) (nomark _)) (pe_one (pe_cmpR (op_eqD hr.units) (pv 0) (pv 1) (nomark _)))))))), ?_⟩
    rcases tx.two ty with ⟨rfl, rfl⟩ | ⟨x, rfl, rfl⟩ | ⟨i, rfl, rfl⟩ | ⟨z, hz, rfl, rfl⟩ | ⟨n, l, l2, xs, ys, ds, hm, rfl, rfl, h1, h2, k1, k2, b2, hh1, hh2⟩ | ⟨n, l, l2, xs, ys, ds, hm, rfl, rfl, h1, h2, k1, k2, b2, hh1, hh2⟩
    · refine ⟨.non, rfl, by show 2 ≤ 16777216; decide, fun tp ntp => ?_⟩
      have sT := sameN (o := .tup [.ty "list", .ty "tuple"]) ntp
      refine ⟨.non, tp, [.ty "list", .ty "tuple"], .type "NoneType", [.type "list", .type "tuple"], false, rfl, upd_same, .cons (.ty _) (.cons (.ty _) .nil), .base (.non), kitLT (kit_ty (by decide +kernel)) (kit_ty (by decide +kernel)), false, rfl, iteF ?_⟩
      refine ⟨.non, rfl, .non, .ty "bool", .type "NoneType", .type "bool", false, rfl, .ty _, .base (.non), kit_ty (by decide +kernel), .non, rfl, .non, .ty "bool", .type "NoneType", .type "bool", false, rfl, .ty _, .base (.non), kit_ty (by decide +kernel), rfl, _, rfl, iteNS rfl ?_⟩
      refine ⟨.non, rfl, .non, .ty "int", .type "NoneType", .type "int", false, rfl, .ty _, .base (.non), kit_ty (by decide +kernel), .non, rfl, .non, .ty "int", .type "NoneType", .type "int", false, rfl, .ty _, .base (.non), kit_ty (by decide +kernel), rfl, _, rfl, iteNS rfl ?_⟩
      refine ⟨.non, rfl, .non, .ty "str", .type "NoneType", .type "str", false, rfl, .ty _, .base (.non), kit_ty (by decide +kernel), .non, rfl, .non, .ty "str", .type "NoneType", .type "str", false, rfl, .ty _, .base (.non), kit_ty (by decide +kernel), rfl, _, rfl, ?_⟩
      rw [decide_eq_true rfl]
      refine iteT ⟨.non, rfl, .non, rfl, .none, .none, .non, .non, rfl, rfl, ?_⟩
      rw [SeqAt.eqv_refl (.none) rfl]
      exact q _ sT
    · refine ⟨.bl x, rfl, by show 2 ≤ 16777216; decide, fun tp ntp => ?_⟩
      have sT := sameN (o := .tup [.ty "list", .ty "tuple"]) ntp
      refine ⟨.bl x, tp, [.ty "list", .ty "tuple"], .type "bool", [.type "list", .type "tuple"], false, rfl, upd_same, .cons (.ty _) (.cons (.ty _) .nil), .base (.bl x), kitLT (kit_ty (by decide +kernel)) (kit_ty (by decide +kernel)), false, rfl, iteF ?_⟩
      refine ⟨.bl x, rfl, .bl x, .ty "bool", .type "bool", .type "bool", true, rfl, .ty _, .base (.bl x), kit_ty (by decide +kernel), .bl x, rfl, .bl x, .ty "bool", .type "bool", .type "bool", true, rfl, .ty _, .base (.bl x), kit_ty (by decide +kernel), rfl, _, rfl, iteNS rfl ?_⟩
      refine ⟨.bl x, rfl, .bl x, .ty "int", .type "bool", .type "int", true, rfl, .ty _, .base (.bl x), kit_ty (by decide +kernel), .bl x, rfl, .bl x, .ty "int", .type "bool", .type "int", true, rfl, .ty _, .base (.bl x), kit_ty (by decide +kernel), rfl, _, rfl, iteNS rfl ?_⟩
      refine ⟨.bl x, rfl, .bl x, .ty "str", .type "bool", .type "str", false, rfl, .ty _, .base (.bl x), kit_ty (by decide +kernel), .bl x, rfl, .bl x, .ty "str", .type "bool", .type "str", false, rfl, .ty _, .base (.bl x), kit_ty (by decide +kernel), rfl, _, rfl, ?_⟩
      rw [decide_eq_true rfl]
      refine iteT ⟨.bl x, rfl, .bl x, rfl, .bool x, .bool x, .bl x, .bl x, rfl, rfl, ?_⟩
      rw [SeqAt.eqv_refl (.bool x) rfl]
      exact q _ sT
    · refine ⟨.int i, rfl, by show 2 ≤ 16777216; decide, fun tp ntp => ?_⟩
      have sT := sameN (o := .tup [.ty "list", .ty "tuple"]) ntp
      refine ⟨.int i, tp, [.ty "list", .ty "tuple"], .type "int", [.type "list", .type "tuple"], false, rfl, upd_same, .cons (.ty _) (.cons (.ty _) .nil), .base (.int i), kitLT (kit_ty (by decide +kernel)) (kit_ty (by decide +kernel)), false, rfl, iteF ?_⟩
      refine ⟨.int i, rfl, .int i, .ty "bool", .type "int", .type "bool", false, rfl, .ty _, .base (.int i), kit_ty (by decide +kernel), .int i, rfl, .int i, .ty "bool", .type "int", .type "bool", false, rfl, .ty _, .base (.int i), kit_ty (by decide +kernel), rfl, _, rfl, iteNS rfl ?_⟩
      refine ⟨.int i, rfl, .int i, .ty "int", .type "int", .type "int", true, rfl, .ty _, .base (.int i), kit_ty (by decide +kernel), .int i, rfl, .int i, .ty "int", .type "int", .type "int", true, rfl, .ty _, .base (.int i), kit_ty (by decide +kernel), rfl, _, rfl, iteNS rfl ?_⟩
      refine ⟨.int i, rfl, .int i, .ty "str", .type "int", .type "str", false, rfl, .ty _, .base (.int i), kit_ty (by decide +kernel), .int i, rfl, .int i, .ty "str", .type "int", .type "str", false, rfl, .ty _, .base (.int i), kit_ty (by decide +kernel), rfl, _, rfl, ?_⟩
      rw [decide_eq_true rfl]
      refine iteT ⟨.int i, rfl, .int i, rfl, .int i, .int i, .int i, .int i, rfl, rfl, ?_⟩
      rw [SeqAt.eqv_refl (.int i) rfl]
      exact q _ sT
    · refine ⟨.str z, rfl, by show 2 ≤ 16777216; decide, fun tp ntp => ?_⟩
      have sT := sameN (o := .tup [.ty "list", .ty "tuple"]) ntp
      refine ⟨.str z, tp, [.ty "list", .ty "tuple"], .type "str", [.type "list", .type "tuple"], false, rfl, upd_same, .cons (.ty _) (.cons (.ty _) .nil), .base (.str z), kitLT (kit_ty (by decide +kernel)) (kit_ty (by decide +kernel)), false, rfl, iteF ?_⟩
      refine ⟨.str z, rfl, .str z, .ty "bool", .type "str", .type "bool", false, rfl, .ty _, .base (.str z), kit_ty (by decide +kernel), .str z, rfl, .str z, .ty "bool", .type "str", .type "bool", false, rfl, .ty _, .base (.str z), kit_ty (by decide +kernel), rfl, _, rfl, iteNS rfl ?_⟩
      refine ⟨.str z, rfl, .str z, .ty "int", .type "str", .type "int", false, rfl, .ty _, .base (.str z), kit_ty (by decide +kernel), .str z, rfl, .str z, .ty "int", .type "str", .type "int", false, rfl, .ty _, .base (.str z), kit_ty (by decide +kernel), rfl, _, rfl, iteNS rfl ?_⟩
      refine ⟨.str z, rfl, .str z, .ty "str", .type "str", .type "str", true, rfl, .ty _, .base (.str z), kit_ty (by decide +kernel), .str z, rfl, .str z, .ty "str", .type "str", .type "str", true, rfl, .ty _, .base (.str z), kit_ty (by decide +kernel), rfl, _, rfl, ?_⟩
      rw [decide_eq_true rfl]
      refine iteT ⟨.str z, rfl, .str z, rfl, .str z, .str z, .str z, .str z, (by unfold SeqAt.shaped; rw [hz]; rfl), (by unfold SeqAt.shaped; rw [hz]; rfl), ?_⟩
      rw [SeqAt.eqv_refl (.str z) hz]
      exact q _ sT
    · have hsp := hI n hm
      subst hsp
      refine ⟨.ref l2, rfl, by show 2 ≤ 16777216; decide, fun tp ntp => ?_⟩
      have sT := sameN (o := .tup [.ty "list", .ty "tuple"]) ntp
      have htp : L2.upd H tp (.tup [.ty "list", .ty "tuple"]) tp = some (.tup [.ty "list", .ty "tuple"]) := upd_same
      generalize L2.upd H tp (.tup [.ty "list", .ty "tuple"]) = H1 at *
      have e1 := sT _ _ h1
      have e2 := sT _ _ h2
      refine ⟨.ref l2, tp, [.ty "list", .ty "tuple"], .type "list", [.type "list", .type "tuple"], true, rfl, htp, .cons (.ty _) (.cons (.ty _) .nil), .base (.lst e2), kitLL, true, rfl, iteT ?_⟩
      refine ⟨.ref l, rfl, by show 2 ≤ 16777216; decide, fun tp2 ntp2 => ?_⟩
      have sT2 := sameN (o := .tup [.ty "list", .ty "tuple"]) ntp2
      have htp2 : L2.upd H1 tp2 (.tup [.ty "list", .ty "tuple"]) tp2 = some (.tup [.ty "list", .ty "tuple"]) := upd_same
      generalize L2.upd H1 tp2 (.tup [.ty "list", .ty "tuple"]) = H2 at *
      have e12 := sT2 _ _ e1
      have e22 := sT2 _ _ e2
      refine ⟨.ref l, tp2, [.ty "list", .ty "tuple"], .type "list", [.type "list", .type "tuple"], true, rfl, htp2, .cons (.ty _) (.cons (.ty _) .nil), .base (.lst e12), kitLL, true, rfl, iteF ?_⟩
      refine ⟨.ref l, rfl, .ref l, .ty "list", .type "list", .type "list", true, rfl, .ty _, .base (.lst e12), kit_ty (by decide +kernel), .ref l2, rfl, .ref l2, .ty "list", .type "list", .type "list", true, rfl, .ty _, .base (.lst e22), kit_ty (by decide +kernel), rfl, _, rfl, iteNS rfl ?_⟩
      refine ⟨.ref l, rfl, l, _, rfl, .inl (SqL.of e12), .ref l2, rfl, l2, _, rfl, .inl (SqL.of e22), rfl, _, rfl, iteNS (by rw [k1, k2]) ?_⟩
      refine ⟨.ref l2, rfl, l2, _, rfl, .inl (SqL.of e22), (ys.length : Int), rfl, by omega, by omega, fun D hD => lc_range (lo := 0) (n := (ys.length : Int).toNat) (fun i H' => Same H2 H' ∧ H' D = some (.lst ((List.replicate i true).map V.bl))) ⟨sameN hD, upd_same⟩ (fun i H' hi ⟨g1, g2⟩ => ?_) (fun H' ⟨g1, g2⟩ => ?_)⟩
      · rw [show (0 : Int) + (i : Nat) = (i : Nat) from Int.zero_add _]
        have hil : i < ys.length := by omega
        have hgy := List.getElem?_eq_getElem hil
        have hgx := List.getElem?_eq_getElem (show i < xs.length by omega)
        have hgd := List.getElem?_eq_getElem (show i < ds.length by omega)
        have t1 := hh1 i _ _ hgx hgd
        have t2 := hh2 i _ _ hgy hgd
        refine ⟨rfl, .ref l, rfl, .int (i : Nat), rfl, .inl ⟨l, _, i, _, rfl, rfl, SqL.of (g1 _ _ e12), atI_nat hgx, .ref l2, rfl, .int (i : Nat), rfl, .inl ⟨l2, _, i, _, rfl, rfl, SqL.of (g1 _ _ e22), atI_nat hgy, _, _, _, rfl, t1.same ((sT.trans sT2).trans g1), t2.same ((sT.trans sT2).trans g1), fun H3 s3 => ⟨_, s3 _ _ g2, ?_, fun y o hy => ?_, ?_⟩⟩⟩⟩
        · rw [List.length_map, List.length_replicate]
          show i < 16777216
          omega
        · rw [upd_ne (ne_of_none hy hD)]
          exact (g1.trans s3) y o hy
        · rw [upd_same, List.replicate_succ', List.map_append]
          rfl
      refine ⟨D, _, rfl, SqL.of g2, ?_⟩
      have ea : (List.replicate (ys.length : Int).toNat true).all id = true := by
        rw [List.all_eq_true]
        intro x hx
        rw [(List.mem_replicate.mp hx).2]
        rfl
      rw [ea]
      exact q _ ((sT.trans sT2).trans g1)
    · have hsp := hI n hm
      subst hsp
      refine ⟨.ref l2, rfl, by show 2 ≤ 16777216; decide, fun tp ntp => ?_⟩
      have sT := sameN (o := .tup [.ty "list", .ty "tuple"]) ntp
      have htp : L2.upd H tp (.tup [.ty "list", .ty "tuple"]) tp = some (.tup [.ty "list", .ty "tuple"]) := upd_same
      generalize L2.upd H tp (.tup [.ty "list", .ty "tuple"]) = H1 at *
      have e1 := sT _ _ h1
      have e2 := sT _ _ h2
      refine ⟨.ref l2, tp, [.ty "list", .ty "tuple"], .type "tuple", [.type "list", .type "tuple"], true, rfl, htp, .cons (.ty _) (.cons (.ty _) .nil), .base (.tup e2), kitLTt, true, rfl, iteT ?_⟩
      refine ⟨.ref l, rfl, by show 2 ≤ 16777216; decide, fun tp2 ntp2 => ?_⟩
      have sT2 := sameN (o := .tup [.ty "list", .ty "tuple"]) ntp2
      have htp2 : L2.upd H1 tp2 (.tup [.ty "list", .ty "tuple"]) tp2 = some (.tup [.ty "list", .ty "tuple"]) := upd_same
      generalize L2.upd H1 tp2 (.tup [.ty "list", .ty "tuple"]) = H2 at *
      have e12 := sT2 _ _ e1
      have e22 := sT2 _ _ e2
      refine ⟨.ref l, tp2, [.ty "list", .ty "tuple"], .type "tuple", [.type "list", .type "tuple"], true, rfl, htp2, .cons (.ty _) (.cons (.ty _) .nil), .base (.tup e12), kitLTt, true, rfl, iteF ?_⟩
      refine ⟨.ref l, rfl, .ref l, .ty "list", .type "tuple", .type "list", false, rfl, .ty _, .base (.tup e12), kit_ty (by decide +kernel), .ref l2, rfl, .ref l2, .ty "list", .type "tuple", .type "list", false, rfl, .ty _, .base (.tup e22), kit_ty (by decide +kernel), rfl, _, rfl, iteNS rfl ?_⟩
      refine ⟨.ref l, rfl, l, _, rfl, .inr (SqT.of e12), .ref l2, rfl, l2, _, rfl, .inr (SqT.of e22), rfl, _, rfl, iteNS (by rw [k1, k2]) ?_⟩
      refine ⟨.ref l2, rfl, l2, _, rfl, .inr (SqT.of e22), (ys.length : Int), rfl, by omega, by omega, fun D hD => lc_range (lo := 0) (n := (ys.length : Int).toNat) (fun i H' => Same H2 H' ∧ H' D = some (.lst ((List.replicate i true).map V.bl))) ⟨sameN hD, upd_same⟩ (fun i H' hi ⟨g1, g2⟩ => ?_) (fun H' ⟨g1, g2⟩ => ?_)⟩
      · rw [show (0 : Int) + (i : Nat) = (i : Nat) from Int.zero_add _]
        have hil : i < ys.length := by omega
        have hgy := List.getElem?_eq_getElem hil
        have hgx := List.getElem?_eq_getElem (show i < xs.length by omega)
        have hgd := List.getElem?_eq_getElem (show i < ds.length by omega)
        have t1 := hh1 i _ _ hgx hgd
        have t2 := hh2 i _ _ hgy hgd
        refine ⟨rfl, .ref l, rfl, .int (i : Nat), rfl, .inr (.inl ⟨l, _, i, _, rfl, rfl, SqT.of (g1 _ _ e12), atI_nat hgx, .ref l2, rfl, .int (i : Nat), rfl, .inr (.inl ⟨l2, _, i, _, rfl, rfl, SqT.of (g1 _ _ e22), atI_nat hgy, _, _, _, rfl, t1.same ((sT.trans sT2).trans g1), t2.same ((sT.trans sT2).trans g1), fun H3 s3 => ⟨_, s3 _ _ g2, ?_, fun y o hy => ?_, ?_⟩⟩)⟩)⟩
        · rw [List.length_map, List.length_replicate]
          show i < 16777216
          omega
        · rw [upd_ne (ne_of_none hy hD)]
          exact (g1.trans s3) y o hy
        · rw [upd_same, List.replicate_succ', List.map_append]
          rfl
      refine ⟨D, _, rfl, SqL.of g2, ?_⟩
      have ea : (List.replicate (ys.length : Int).toNat true).all id = true := by
        rw [List.all_eq_true]
        intro x hx
        rw [(List.mem_replicate.mp hx).2]
        rfl
      rw [ea]
      exact q _ ((sT.trans sT2).trans g1)

end
end K59
end

section
namespace Gx
open PySem PySem.Spec PyProof.Rows L2 GxR
theorem u65 {k : Nat} {A : Around} (r : Room k A) : A.units + 65 < cLine := by have := r.un; omega
end Gx
end

section
set_option Elab.async false
set_option linter.all false
set_option maxRecDepth 100000
set_option maxHeartbeats 4000000
/-! Defs that may raise, by their names; classes of errors of the program's own. -/
namespace Gx
open PySem PySem.Spec PyProof.Rows L2 GxR
theorem op_inDK {X : Cx} {K : PySem.W.Frag} (e : X.K = K) (hu : X.A.units + 65 < cLine) : OpR X (compareOp .In) (rInD K) := e ▸ op_inD hu
/-- a def that may raise -/
structure CalE (P : Program) (w : World) (K : PySem.W.Frag) (mg : Str → Option Value) (base : Heap) (k : Nat) (x : Str) (ps : List Str) (sp : Sp) : Prop where
  ex : ∃ f fd, FnOk P w K mg base (L2.CX P w) k f fd ps sp ∧ mg x = some (.ref f) ∧ PySem.W.keepIn K (.ref f) = true ∧ Binds K fd ps []
structure CalEK (P : Program) (w : World) (K : PySem.W.Frag) (mg : Str → Option Value) (base : Heap) (k : Nat) (x : Str) (ps ks : List Str) (gV : List V → List V → List V) (sp : Sp) : Prop where
  ex : ∃ f fd g, FnOk P w K mg base (L2.CX P w) k f fd ps sp ∧ mg x = some (.ref f) ∧ PySem.W.keepIn K (.ref f) = true ∧ KBinds K fd ps ks g gV
def tCallE (sp : Sp) (W : WX) (t : TA) : TE := fun σ H Q => t σ H fun vs H1 => sp vs H1 Q (WE W σ)
def tCallEK (sp : Sp) (gV : List V → List V → List V) (W : WX) (tk : TA) : TE := fun σ H Q => tk σ H fun zs H1 => sp (gV [] zs) H1 Q (WE W σ)
section
variable {X : Cx} {k : Nat} {x : Str} {ps : List Str} {sp : Sp} {W : WX}
theorem pe_calE {e : Expr} {es : List Expr} {p pos : Pos} {t : TA} (C : CalE X.prog X.w X.K X.mg X.base k x ps sp) (hr : Room k X.A) (tk : Takes X W) (ha : PA X (e :: es) t) (hg : Gl X x := by rfl) (hdb : (x == ("__debug__" : Str)) = false := by decide)
    (he : starEach (e :: es) X.env = (false, eval e X.env) :: starEach es X.env := by rfl) (hpl : (backTo pos (starEach es X.env)).any (·.1) = false := by rfl) : PE X (.Call (.Name x p) (e :: es) [] pos) (tCallE sp W t) := by
  obtain ⟨f, fd, F, hm, hk, hb⟩ := C.ex
  exact pe_callS F hr hg hm hk hb (fun σ => passAt tk σ) ha hdb he hpl
theorem pe_calEK {kws : List Keyword} {p pos : Pos} {tk : TA} {ks : List Str} {gV : List V → List V → List V} (C : CalEK X.prog X.w X.K X.mg X.base k x ps ks gV sp) (hr : Room k X.A) (tkw : Takes X W) (hkw : PK X kws tk) (hg : Gl X x := by rfl) (hall : (backToKw pos (keywordEach kws X.env)).all (·.1.isSome) = true := by rfl) (hks : (backToKw pos (keywordEach kws X.env)).filterMap (·.1) = ks := by rfl)
    (hdb : (x == ("__debug__" : Str)) = false := by decide) (hpl : ((backTo pos (starEach [] X.env)).any (·.1) || (backToKw pos (keywordEach kws X.env)).any (·.1.isNone)) = false := by rfl) :
    PE X (.Call (.Name x p) [] kws pos) (tCallEK sp gV W tk) := by
  obtain ⟨f, fd, g, F, hm, hk, hb⟩ := C.ex
  refine ⟨fun pins s σ H Q I h => ?_⟩
  refine wpAny_Call_Name_kw (ld_glob I hg hm ?_ hdb)
  refine PySem.W.callWith_KW0 (h₀ := X.base) I.ok.mod.kin hk hall (thn (hkw.run pos pins s σ H _ I h) fun ws s2 ⟨zs, H2, I2, rz, q2⟩ => ⟨I2.kIn, ?_⟩) hpl
  rw [hks]
  have r2 := hb.rel (vs := []) (us := []) .nil rz
  have hl : (g [] ws).length = ps.length := by rw [← r2.length]; exact F.len _ _ _ _ q2
  refine wpAny_call (codeAny_mono (F.run X.A X.stack s2 H2 ⟨[], ks.zip ws⟩ (g [] ws) (gV [] zs) Q (WE W σ) hr I2.env0 (hb.to s2 [] ws I2.kIn hl) r2 q2) fun r s' hq => ?_)
  cases r with
  | error e => exact passAt tkw σ pins H2 s2 e s' I2 hq
  | ok fl =>
    cases fl with
    | ret u => exact I2.after hq
    | next => exact False.elim hq
    | brk => exact False.elim hq
    | cont => exact False.elim hq
end
/-- a class of errors of the program's own at C, by the name x -/
structure Er (K : PySem.W.Frag) (mg : Str → Option Value) (x : Str) (C : Addr) : Prop where
  at_ : mg x = some (.ref C)
  ex : PySem.W.excIn K C [.type "ValueError", .type "Exception", .type "BaseException", .type "object"] "ValueError.__new__" = true
  keep : PySem.W.keepIn K (.ref C) = true
  sub : PySem.W.subIn K (.ref C) (.type "BaseException") = some true
  typ : PySem.W.typeIn K (.ref C) = some (.type "type")
  cls : PySem.W.isClsIn K C = true
  self : PySem.W.subIn K (.ref C) (.ref C) = some true
theorem Er.me {K : PySem.W.Frag} {mg : Str → Option Value} {x : Str} {S : Addr} (e : Er K mg x S) : PySem.W.exmOne K (.ref S) (.ref S) = some true := by
  have e1 : (PySem.W.subIn K (.ref S) (.type "BaseException") == some true) = true := by rw [e.sub] <;> rfl
  have e2 : ((PySem.W.clsIn K S).isSome && PySem.W.typeIn K (.ref S) == some (.type "type")) = true := by
    have h2' : (PySem.W.clsIn K S).isSome = true := e.cls
    rw [h2', e.typ] <;> rfl
  show (if (PySem.W.subIn K (.ref S) (.type "BaseException") == some true) = true then (if ((PySem.W.clsIn K S).isSome && PySem.W.typeIn K (.ref S) == some (.type "type")) = true then PySem.W.subIn K (.ref S) (.ref S) else none) else none) = some true
  rw [if_pos e1, if_pos e2]
  exact e.self
theorem with_er {K : PySem.W.Frag} {mg : Str → Option Value} {h : Heap} {x : Str} {C : Addr} {Z : Prop} (X : K.In h) (G : h.Ns mainGlobals mg) (a : PySem.W.nsIn K mainGlobals x = some (some (.ref C)))
    (l : PySem.W.excIn K C [.type "ValueError", .type "Exception", .type "BaseException", .type "object"] "ValueError.__new__" = true) (c : PySem.W.keepIn K (.ref C) = true) (k : PySem.W.subIn K (.ref C) (.type "BaseException") = some true)
    (t : PySem.W.typeIn K (.ref C) = some (.type "type")) (r : PySem.W.isClsIn K C = true) (n : PySem.W.subIn K (.ref C) (.ref C) = some true) (go : Er K mg x C → Z) : Z := go ⟨PySem.W.mg_of X G a, l, c, k, t, r, n⟩
section
variable {P : Program} {w : World} {K : PySem.W.Frag} {mg : Str → Option Value} {base : Heap} {k : Nat} {x : Str} {ps : List Str} {sp : Sp} {st : Stmt}
theorem calE_mk (D : DF K mg x st) (hb : ∀ f fd, Fun K x x st f fd → Binds K fd ps []) (F : ∀ f fd, Fun K x x st f fd → FnOk P w K mg base (L2.CX P w) k f fd ps sp) : CalE P w K mg base k x ps sp :=
  let ⟨f, fd, F0, m⟩ := D.ex; ⟨⟨f, fd, F f fd F0, m, F0.kp, hb f fd F0⟩⟩
theorem calEK_mk {ks : List Str} {g : List Value → List Value → List Value} {gV : List V → List V → List V} (D : DF K mg x st) (hb : ∀ f fd, Fun K x x st f fd → KBinds K fd ps ks g gV) (F : ∀ f fd, Fun K x x st f fd → FnOk P w K mg base (L2.CX P w) k f fd ps sp) : CalEK P w K mg base k x ps ks gV sp :=
  let ⟨f, fd, F0, m⟩ := D.ex; ⟨⟨f, fd, g, F f fd F0, m, F0.kp, hb f fd F0⟩⟩
end
section
variable {X : Cx} {x : Str} {C : Addr}
/-- raise X("..") -/
theorem ps_err {m : Str} {j : Nat} {p p2 pos pos2 : Pos} {W : WX} (hc : X.calm = true) (tk : Takes X W) (e : Er X.K X.mg x C) (hg : Gl X x := by rfl) (hdb : (x == ("__debug__" : Str)) = false := by decide) :
    PS X (.Raise (some (.Call (.Name x p) [.Constant (.str m) j p2] [] pos)) none pos2) (fun _ σ H => W (.ref C) none σ H) :=
  ps_raise hc tk (pmk_own PySem.F.excBase_ValueError e.ex e.at_ e.keep (raises_own e.sub e.typ) hg hdb)
end
end Gx
end

section
set_option Elab.async false
set_option linter.all false
set_option maxRecDepth 100000
set_option maxHeartbeats 4000000
namespace PySem
namespace LowX
open PySem.W PySem.Calls PyProof.Rows PySem.HandSPX
/-! ### the text of __init__ -/
def iA (p1 p2 : Pos) : Arguments := { posonlyargs := [], args := [{ arg := "self", annotation := none, pos := p1 }, { arg := "place", annotation := none, pos := p2 }], vararg := none, kwonlyargs := [], kw_defaults := [], kwarg := none, defaults := [] }
def iB (q1 q2 q3 q4 : Pos) : List Stmt := [.Assign [.Attribute (.Name "self" q1) "place" q2] (.Name "place" q3) q4]
def iS : Scope := { kind := .function, names := [(PySem.Str.ofString "self", .local), (PySem.Str.ofString "place", .local)], isGenerator := false, isCoroutine := false, more := [] }
/-- what the written part says of Low, at C, and of its __init__, at fI -/
structure LowTxt (K : Frag) (mg : Str → Option Value) (C fI : Addr) : Prop where
  gC : mg "InvalidText" = some (.ref C)
  cls : ∃ nm q N bs bm sn sub ab col dd k0 k1 k2 k3 k5, K.lookup C = some (excClassObj nm q C N bs bm true sn sub ab col dd k0 k1 k2 k3 k5 "ValueError.__new__") ∧ refsVE bm = true
  sa : findIn K (.ref C) "__setattr__" = some (some (.builtin "object.__setattr__"))
  ga : findIn K (.ref C) "__getattribute__" = some (some (.builtin "BaseException.__getattribute__"))
  gg : findIn K (.ref C) "__getattr__" = some none
  noN : findIn K (.ref C) "place" = some none
  iC : findIn K (.ref C) "__init__" = some (some (.ref fI))
  tC : typeIn K (.ref fI) = some (.type "function")
  kC : keepIn K (.ref C) = true
  exC : subIn K (.ref C) (.type "BaseException") = some true
  tyC : typeIn K (.ref C) = some (.type "type")
  hdC : hasDictIn K C = true
  te : exmOne K (.ref C) (.ref C) = some true
  fn : ∃ (oc : Value) (od : Option Addr) (doc pm : Value) (an : Option Addr) (cdv ct : Value) (osl : Array (Option Value)) (p1 p2 q1 q2 q3 q4 : Pos),
    K.lookup fI = some ⟨oc, od, .func (fnOf "__init__" "InvalidText.__init__" (iA p1 p2) (iB q1 q2 q3 q4) iS .none .none doc pm an cdv ct), osl⟩ ∧ codeIn K cdv "InvalidText.__init__" = true
theorem one_size (v : Value) : [v].length ≤ sizeLine := by
  rw [sizeLine_eq]
  exact (by decide : 1 ≤ 16777216)
theorem kept_but {K : Frag} {h h' : Heap} {x : Addr} (X : K.In h) (hx : K.lookup x = none) (k : ∀ b o, b ≠ x → h.get? b = some o → h'.get? b = some o) : K.In h' := fun a o e =>
  k a o (fun z => by rw [z, hx] at e; cases e) (X a o e)
theorem ldC {M : Model} {s : Shared} {name : Str} {scope : Scope} {L a : Addr} {cd : Value} {m : Str → Option Value} {x : Str} {pos : Pos} {v : Value} {Q : Value → Shared → Prop} {A : Around} {E : Value → Shared → Prop} (hn : s.heap.Ns L m) (hv : m x = some v) (h : Q v s)
    (hk : scope.kind = .function := by rfl) (hl : (envOfC name scope L a cd).kindOf x = some .local := by rfl) (hd : (x == ("__debug__" : Str)) = false := by decide) :
    wpAny M A (eval (.Name x pos) (envOfC name scope L a cd)) Q E s := wpAny_Name (wpAny_loadName_local hk hl hn hv h) hd
/-- what __init__ leaves of a fresh exception at x -/
structure InitEnd (h h' : Heap) (x C dx t1 : Addr) (v : Value) : Prop where
  keep : ∀ b o, b ≠ x → h.get? b = some o → h'.get? b = some o
  obj : h'.get? x = some { cls := .ref C, dict := some dx, data := .fields #[.ref t1, .none, .none, .none, .bool false, .none] }
  dbig : h.objs.size ≤ dx
  dne : dx ≠ x
  ns : h'.Ns1 dx (fun y => if y = "place" then some v else none)
/-- a made Low -/
structure OwnMade (h h' : Heap) (e C d : Addr) (v : Value) : Prop where
  keep : ∀ b o, h.get? b = some o → h'.get? b = some o
  new : h.objs.size ≤ e
  obj : ∃ oe vs, h'.get? e = some oe ∧ oe.cls = .ref C ∧ oe.dict = some d ∧ oe.data = .fields vs ∧ vs[1]? = some .none
  dbig : h.objs.size ≤ d
  dne : d ≠ e
  ns : h'.Ns1 d (fun y => if y = "place" then some v else none)
section
variable {prog : Program} {w : World} {A : Around} {E : Value → Shared → Prop} {R : Result → Shared → Prop} {s : Shared} {K : Frag} {mg : Str → Option Value} {C fI : Addr}
theorem low_init (T : LowTxt K mg C fI) {x t0 : Addr} {v : Value} (X : K.In s.heap) (hlim : s.heap.NoLimit) (hx : s.heap.get? x = some (excO C t0)) (hnx : K.lookup x = none) (hroom : A.depth < recursionLimit)
    (hq : ∀ h' tk dx, InitEnd s.heap h' x C dx t0 v → R (.ok (.ret .none)) { s with heap := h', toks := tk }) :
    codeAny (model prog w) A (.call (.ref fI) ⟨[.ref x, v], []⟩) R s := by
  obtain ⟨oc, od, doc, pm, an, cdv, ct, osl, p1, p2, q1, q2, q3, q4, ho, hcd⟩ := T.fn
  obtain ⟨nm, q, N, bs, bm, sn, sub, ab, col, dd, k0, k1, k2, k3, k5, hC, hbm⟩ := T.cls
  have hcl : clsIn K C = some { name := nm, bases := bs, mro := .ref C :: bm, ns := N, qualname := q, hasDict := true, slotNames := sn, subclasses := sub, abstract := ab, collection := col, hasDel := false } := by unfold clsIn; rw [hC] <;> rfl
  refine Att.call_fn (binds := [("self", .ref x), ("place", v)]) X hlim ho hcd hroom (BindsTo.of_eq (by first | rfl | with_unfolding_all rfl)) (by first | rfl | decide | with_unfolding_all rfl) (fun s₁ IC => ?_) rfl rfl rfl
  obtain ⟨h₁, tk₁, rfl⟩ := IC.toInCall.same
  have k : ∀ b o, s.heap.get? b = some o → h₁.get? b = some o := IC.toInCall.keep
  have hn := IC.toInCall.ns
  have hxL : s.heap.objs.size ≠ x := Nat.ne_of_gt (Heap.lt_size hx)
  have X₁ : K.In h₁ := X.keeps k
  have hx₁ := k _ _ hx
  -- self.by = by
  show wpAny _ _ (execs _ _) _ _ _
  refine wpAny_execs_cons (plainObj_wpAny_Assign_Attribute ?_)
  refine ldC (v := v) hn (by first | rfl | with_unfolding_all rfl | kernel_rfl) (ldC (v := .ref x) hn (by first | rfl | with_unfolding_all rfl | kernel_rfl) ?_)
  refine set_plain X₁ (ox := excO C t0) (od := none) ⟨hx₁, rfl, rfl, trivial⟩ T.sa ?_
  refine exc_osa X₁ hx₁ hcl (show refsVE (.ref C :: bm) = true from hbm) rfl T.noN (fun h₃ tk₃ dx k₃ dn dne hx₃ hn₃ => ?_)
  show wpAny _ _ (execs _ _) _ _ _
  have z : s.heap.objs.size < h₁.objs.size := hn.lt
  exact wpAny_execs_nil (hq h₃ tk₃ dx ⟨fun b o hb e => k₃ b o hb (k b o e), hx₃, Nat.le_of_lt (Nat.lt_of_lt_of_le z dn), dne, hn₃⟩)
theorem low_made (T : LowTxt K mg C fI) {v : Value} (X : K.In s.heap) (hlim : s.heap.NoLimit) (hroom : A.depth + 1 < recursionLimit)
    (hq : ∀ h' tk e d, OwnMade s.heap h' e C d v → R (.ok (.ret (.ref e))) { s with heap := h', toks := tk }) :
    codeAny (model prog w) A (.call (.ref C) ⟨[v], []⟩) R s := by
  obtain ⟨nm, q, N, bs, bm, sn, sub, ab, col, dd, k0, k1, k2, k3, k5, hC, hbm⟩ := T.cls
  obtain ⟨hp, g, dr, tk, os⟩ := s
  have k : ∀ b o, hp.get? b = some o → ((hp.push (kdv_tup [v])).push (excO C hp.objs.size)).get? b = some o := fun b o e => Heap.get?_push_of_some _ (Heap.get?_push_of_some _ e)
  have hget : ((hp.push (kdv_tup [v])).push (excO C hp.objs.size)).get? (hp.objs.size + 1) = some (excO C hp.objs.size) := by heap_get
  have hnx : K.lookup (hp.objs.size + 1) = none := by
    cases e : K.lookup (hp.objs.size + 1) with
    | none => rfl
    | some o =>
      have z : hp.get? (hp.objs.size + 1) = some o := X _ _ e
      exact absurd (Nat.lt_of_succ_lt (Heap.lt_size z)) (Nat.lt_irrefl _)
  refine call_own F.excBase_ValueError (fun X => refsVE_contains X bm hbm) (X _ _ hC) (looks_findIn X T.iC) (fun self => bind_fn X self T.tC) (one_size v) ?_
  refine low_init (s := ⟨(hp.push (kdv_tup [v])).push (excO C hp.objs.size), g, dr, tk, os⟩) T (X.keeps k) (hlim.keeps k) hget hnx ?_ fun h' tk' dx ⟨k', hx, dn, dne, hns⟩ => ?_
  · show A.depth + 1 < recursionLimit
    exact hroom
  · have old : ∀ b o, hp.get? b = some o → h'.get? b = some o := fun b o e => k' b o (Nat.ne_of_lt (Nat.lt_succ_of_lt (Heap.lt_size e))) (k b o e)
    have z : hp.objs.size + 1 + 1 ≤ dx := by
      first
        | (simpa only [Heap.size_push] using dn)
        | exact dn
        | (have q := dn; rw [Heap.size_push, Heap.size_push] at q; exact q)
    exact ⟨rfl, hq h' tk' (hp.objs.size + 1) dx ⟨old, Nat.le_succ _, ⟨_, _, hx, rfl, rfl, rfl, rfl⟩, Nat.le_trans (Nat.le_trans (Nat.le_succ _) (Nat.le_succ _)) z, dne, hns⟩⟩
end
end LowX
end PySem
namespace L2
open PySem PySem.Spec PyProof.Rows
theorem relO_low {v : V} {v' : Value} (r : RelV v v') (f : Str) : RelO (List.lookup f [(("place" : Str), v)]) (if f = "place" then some v' else none) := by
  by_cases hw : f = "place"
  · subst hw
    rw [if_pos rfl]
    have q : List.lookup ("place" : Str) [(("place" : Str), v)] = some v := by simp [List.lookup]
    rw [q]
    exact r
  · rw [if_neg hw]
    have qw : (f == ("place" : Str)) = false := by simpa using hw
    have q2 : List.lookup f [(("place" : Str), v)] = none := by simp [List.lookup, qw]
    rw [q2]
    trivial
section
variable {X : Cx} {C fI : Addr}
/-- Low(e) -/
def tMkLow (C : Addr) (ta : TA) : St → Hp → XK → Prop := fun σ H Q => ta σ H fun vs H1 => ∃ v, vs = [v] ∧ ∀ d, H1 d = none → Q (.ref C) (some d) (upd H1 d (.xd [(("place" : Str), v)]))
theorem pmk_low {a : Expr} {ta : TA} {p pos : Pos} {k : Nat} (T : PySem.LowX.LowTxt X.K X.mg C fI) (hr : Room k X.A) (ha : PA X [a] ta) (hg : Gl X "InvalidText" := by rfl)
    (he : starEach (a :: []) X.env = (false, eval a X.env) :: starEach [] X.env := by rfl) (hpl : (backTo pos (starEach [] X.env)).any (·.1) = false := by rfl) :
    PMk X (.Call (.Name "InvalidText" p) [a] [] pos) (tMkLow C ta) := by
  intro pins s σ H Q I h
  refine wpAny_Call_Name_kw (ld_glob I hg T.gC ?_)
  refine PySem.W.callWith_K (h₀ := X.base) I.ok.mod.kin T.kC (thn (ha.run pos pins s σ H _ I h) fun us s1 hh => ?_) he hpl
  obtain ⟨vs, H1, I1, r1, v, ev, q1⟩ := hh
  subst ev
  refine ⟨I1.kIn, ?_⟩
  cases r1 with
  | cons rv rn =>
    rename_i v' us'
    cases rn
    show wpAny _ _ (call (.ref C) [v']) _ _ _
    have hlim := I1.nolimit
    obtain ⟨hp, g, dr, tk, os⟩ := s1
    refine wpAny_call (PySem.LowX.low_made T I1.kIn hlim (by have := hr.dp; omega) fun h' tk' e d M => ?_)
    show MkP X pins σ Q (.ref e) ⟨h', g, dr, tk', os⟩
    obtain ⟨oe, fv, hoe, hc, hd, hdat, h1⟩ := M.obj
    have hns := M.ns
    obtain ⟨G', g1, g2⟩ := restrict h' fun b => decide (b ≠ e)
    have gk : ∀ b, b ≠ e → G'.get? b = h'.get? b := fun b hb => g1 b (decide_eq_true hb)
    have ge : G'.get? e = none := g2 e (by simp)
    have old : ∀ b o, hp.get? b = some o → G'.get? b = some o := fun b o q => (gk b (Nat.ne_of_lt (Nat.lt_of_lt_of_le (Heap.lt_size q) M.new))).trans (M.keep b o q)
    have ob : ObjOk X.prog X.w (upd H1 d (.xd [(("place" : Str), v)])) G' d (.xd [(("place" : Str), v)]) :=
      ⟨_, hns.at (fun o q => (gk d M.dne).trans q), fun f => relO_low rv f⟩
    have J : Inv X pins σ (upd H1 d (.xd [(("place" : Str), v)])) ⟨G', g, dr, tk', os⟩ := I1.laid (t' := tk') old M.dbig ob
    refine ⟨e, oe, fv, ⟨G', g, dr, tk', os⟩, _, .ref C, some d, rfl, J, fun b o q => ?_, ge, hoe, ⟨hc, hd⟩, hdat, h1, ?_, rfl, I1.bare, raises_own T.exC T.tyC, q1 d (I1.hok.fresh M.dbig)⟩
    · by_cases hb : b = e
      · have q' : G'.get? b = some o := q
        rw [hb, ge] at q'; cases q'
      · exact (gk b hb).symm.trans q
    · rw [upd_ne (Ne.symm M.dne)]
      exact I1.hok.fresh M.new
/-- raise Low(e) -/
def tRaiseLow (C : Addr) (W : WX) (ta : TA) : TS := fun _ σ H => tMkLow C ta σ H fun cls d H' => W cls d σ H'
theorem ps_raiseLow {a : Expr} {ta : TA} {W : WX} {p pos pos2 : Pos} {k : Nat} (hc : X.calm = true) (T : PySem.LowX.LowTxt X.K X.mg C fI) (hr : Room k X.A) (tk : Takes X W) (ha : PA X [a] ta) (hg : Gl X "InvalidText" := by rfl)
    (he : starEach (a :: []) X.env = (false, eval a X.env) :: starEach [] X.env := by rfl) (hpl : (backTo pos (starEach [] X.env)).any (·.1) = false := by rfl) :
    PS X (.Raise (some (.Call (.Name "InvalidText" p) [a] [] pos)) none pos2) (tRaiseLow C W ta) := ps_raise hc tk (pmk_low T hr ha hg he hpl)
/-- low.by, low the exception that the suite holds (at a; its class cls, its dict d) -/
def tByLow (C : Addr) (a : Addr) (cls : Value) (d : Option Addr) (te : TE) : TE := fun σ H Q => te σ H fun x H1 => x = .ref a ∧ cls = .ref C ∧ ∃ (dd : Addr) (v : V), d = some dd ∧ H1 dd = some (.xd [(("place" : Str), v)]) ∧ Q v H1
theorem pe_byLow {a : Addr} {oe : Obj} {cls : Value} {d : Option Addr} {pn : List (Addr × Obj)} {e : Expr} {te : TE} {pos : Pos} (T : PySem.LowX.LowTxt X.K X.mg C fI) (hz : Zc cls d oe) (hf : ∃ vs, oe.data = .fields vs) (he : PE (X.suite a ((a, oe) :: pn)) e te)
    (hb : attributeBase e "place" X.env (eval e X.env) = eval e X.env := by rfl) :
    PE (X.suite a ((a, oe) :: pn)) (.Attribute e "place" pos) (tByLow C a cls d te) := by
  refine ⟨fun pins s σ H Q I h => ?_⟩
  refine attr_of hb (thn (he.run pins s σ H _ I h) fun u s1 hh => ?_)
  obtain ⟨x, H1, I1, rx, ex, ec, dd, v, ed, ea, q⟩ := hh
  subst ex
  obtain rfl : u = Value.ref a := rx
  subst ec
  subst ed
  obtain ⟨ha, _⟩ := I1.pin (a, oe) (List.mem_append_left _ List.mem_cons_self)
  obtain ⟨vs, hd⟩ := hf
  have hx : ObjOk X.prog X.w H1 s1.heap dd (.xd [(("place" : Str), v)]) := I1.hok dd _ ea
  obtain ⟨mA, hns, hr⟩ := hx
  obtain ⟨od, ho, hl⟩ := lookIn_ns hns
  have l : List.lookup ("place" : Str) [(("place" : Str), v)] = some v := by simp [List.lookup]
  obtain ⟨u, hu, ru⟩ := RelO.some_of (v := v) (o := mA "place") (by rw [← l]; exact hr "place")
  have J : PySem.W.InstAt s1.heap a oe C (some od) := ⟨ha, hz.1, by unfold PySem.W.notCls; rw [hd] <;> rfl, by rw [hz.2]; exact ho⟩
  exact HandSPX.exc_get I1.kIn J T.ga T.gg T.exC (PySem.W.findObj_own T.hdC T.noN rfl (by rw [hl, hu])) (handed_of ru) ⟨v, H1, I1.tok _, ru, q⟩
end
end L2
end

section
set_option Elab.async false
set_option linter.all false
set_option maxRecDepth 100000
set_option maxHeartbeats 4000000
namespace Gx
open PySem PySem.Spec PyProof.Rows L2 PySem.W PySem.Calls PySem.HandSPX
theorem exm_me {K : PySem.W.Frag} {S : Addr} (sub : PySem.W.subIn K (.ref S) (.type "BaseException") = some true) (cls : PySem.W.isClsIn K S = true) (typ : PySem.W.typeIn K (.ref S) = some (.type "type")) (self : PySem.W.subIn K (.ref S) (.ref S) = some true) : PySem.W.exmOne K (.ref S) (.ref S) = some true := by
  have e1 : (PySem.W.subIn K (.ref S) (.type "BaseException") == some true) = true := by rw [sub] <;> rfl
  have e2 : ((PySem.W.clsIn K S).isSome && PySem.W.typeIn K (.ref S) == some (.type "type")) = true := by
    have h2' : (PySem.W.clsIn K S).isSome = true := cls
    rw [h2', typ] <;> rfl
  show (if (PySem.W.subIn K (.ref S) (.type "BaseException") == some true) = true then (if ((PySem.W.clsIn K S).isSome && PySem.W.typeIn K (.ref S) == some (.type "type")) = true then PySem.W.subIn K (.ref S) (.ref S) else none) else none) = some true
  rw [if_pos e1, if_pos e2]
  exact self
theorem with_low {K : PySem.W.Frag} {h : Heap} {mg : Str → Option Value} {C f1 : Addr} {Z : Prop} (X : K.In h) (G : h.Ns mainGlobals mg)
    {nm q : Str} {N : Addr} {bs bm : List Value} {sn : List Str} {sub : List Value} {ab : Bool} {col : Option Bool} {dd : Option Addr} {m0 m1 m2 m3 m5 : Option Value}
    {od1 an1 : Option Addr} {sl1 : Array (Option Value)} {oc1 dc1 pm1 cd1 ct1 : Value} {p1 p2 q1 q2 q3 q4 : Pos}
    (aC : PySem.W.nsIn K mainGlobals "InvalidText" = some (some (.ref C)))
    (xL : K.lookup C = some (excClassObj nm q C N bs bm true sn sub ab col dd m0 m1 m2 m3 m5 "ValueError.__new__"))
    (sa : PySem.W.findIn K (.ref C) "__setattr__" = some (some (.builtin "object.__setattr__"))) (ga : PySem.W.findIn K (.ref C) "__getattribute__" = some (some (.builtin "BaseException.__getattribute__"))) (gg : PySem.W.findIn K (.ref C) "__getattr__" = some none) (nb : PySem.W.findIn K (.ref C) "place" = some none)
    (a1 : PySem.W.findIn K (.ref C) "__init__" = some (some (.ref f1))) (t1 : PySem.W.typeIn K (.ref f1) = some (.type "function"))
    (l1 : K.lookup f1 = some ⟨oc1, od1, .func (PySem.W.fnOf "__init__" "InvalidText.__init__" (PySem.LowX.iA p1 p2) (PySem.LowX.iB q1 q2 q3 q4) PySem.LowX.iS .none .none dc1 pm1 an1 cd1 ct1), sl1⟩) (c1 : PySem.W.codeIn K cd1 "InvalidText.__init__" = true)
    (kC : PySem.W.keepIn K (.ref C) = true) (eC : PySem.W.subIn K (.ref C) (.type "BaseException") = some true) (tC : PySem.W.typeIn K (.ref C) = some (.type "type")) (hC : PySem.W.hasDictIn K C = true) (iC : PySem.W.isClsIn K C = true) (sC : PySem.W.subIn K (.ref C) (.ref C) = some true)
    (hb : refsVE bm = true) (go : PySem.LowX.LowTxt K mg C f1 → Z) : Z := go
    { gC := PySem.W.mg_of X G aC, cls := ⟨nm, q, N, bs, _, sn, sub, ab, col, dd, m0, m1, m2, m3, m5, xL, hb⟩, sa := sa, ga := ga, gg := gg, noN := nb, iC := a1, tC := t1, kC := kC, exC := eC, tyC := tC, hdC := hC, te := exm_me eC iC tC sC,
      fn := ⟨_, _, _, _, _, _, _, _, _, _, _, _, _, _, l1, c1⟩ }
end Gx
end

section
set_option Elab.async false
set_option linter.all false
set_option maxRecDepth 100000
set_option maxHeartbeats 4000000
/-! Exceptions held as values: made by position and by keyword, isinstance, the field of one. -/
namespace PySem
namespace HandSPX
open PySem.W PySem.Calls PyProof.Rows
section
variable {M : Model} {A : Around} {E : Value → Shared → Prop} {h : Heap} {g : Array GenState} {d : Drawn} {t : Nat} {os : OsState} {prog : Program} {w : World} {R : Result → Shared → Prop}
variable {nm q : Str} {C N : Addr} {bs bm bmB : List Value} {hdct : Bool} {sn : List Str} {sub : List Value} {ab : Bool} {col : Option Bool} {dd : Option Addr} {k0 k1 k2 k3 k5 : Option Value} {B newId initId : String}
theorem kw_check (F : ExcBaseFacts B newId initId bmB) (hT : ∀ X : String, bm.contains (.type X) = bmB.contains (.type X)) {kws : List (Str × Value)} {Q : Unit → Shared → Prop}
    (hC : h.get? C = some (excClassObj nm q C N bs bm hdct sn sub ab col dd k0 k1 k2 k3 k5 newId)) (hq : Q () ⟨h, g, d, t, os⟩) : wpAny M A (checkBuiltinCall newId ⟨[.ref C], kws⟩) Q E ⟨h, g, d, t, os⟩ := by
  have has : (Value.ref C :: bm).contains (.type B) = true := by rw [List.contains_cons, hT, F.hasB, Bool.or_true]
  have st := F.noStar
  simp only [checkBuiltinCall, F.newKind, F.newSplit, F.newRow]
  repeat (first | refine wpAny_loadPart_at hC ?_ | (refine wpAny_isSubtype_exc hC ?_; rw [has]) | refine wpAny_staticBase_exc hC ?_ | refine wpAny_madeBy_exc hC ?_ | simp only [bne_self_eq_false, Bool.false_eq_true, if_false] | wp_step)
  exact hq
theorem kw_new (F : ExcBaseFacts B newId initId bmB) (hT : ∀ X : String, bm.contains (.type X) = bmB.contains (.type X)) {kws : List (Str × Value)}
    (hC : h.get? C = some (excClassObj nm q C N bs bm hdct sn sub ab col dd k0 k1 k2 k3 k5 newId))
    (hq : R (.ok (.ret (.ref (h.objs.size + 1)))) ⟨(h.push (kdv_tup [])).push (excO C h.objs.size), g, d, t, os⟩) :
    codeAny (model prog w) A (.builtin newId ⟨[.ref C], kws⟩) R ⟨h, g, d, t, os⟩ := by
  have he := F.ends
  have c1 : (Value.ref C :: bm).contains (.type B) = true := by rw [List.contains_cons, hT, F.hasB, Bool.or_true]
  have c2 : (Value.ref C :: bm).contains (.type "AttributeError") = false := by rw [List.contains_cons, hT, F.noAttr]; rfl
  have c3 : (Value.ref C :: bm).contains (.type "NameError") = false := by rw [List.contains_cons, hT, F.noName]; rfl
  have hz : ([] : List Value).length ≤ sizeLine := Nat.zero_le _
  refine codeAny_builtinAt F.entry ?_
  unfold Builtin.«BaseException.__new__»
  refine wpAt_bind ?_
  show wpAt _ _ _ (stack >>= _) _ _ _
  refine wpAt_bind (wpAt_stack fun p below => wpAt_of_wpAny ?_)
  wp_walk
  refine wpAt_of_wpAny ?_
  rw [F.owner]
  repeat (first | with_reducible refine wpAny_madeHere_exc F.canon hC ?_ | with_reducible refine wpAny_loadPart_at hC ?_ | (with_reducible refine wpAny_isSubtype_exc hC ?_; first | rw [c1] | rw [c2] | rw [c3]) | wp_step)
  show R _ _
  rw [Heap.size_push]
  exact hq
theorem kw_type (F : ExcBaseFacts B newId initId bmB) (hT : ∀ X : String, bm.contains (.type X) = bmB.contains (.type X)) {kws : List (Str × Value)} {fI : Addr} {Q : Fin → Shared → Prop}
    (hC : h.get? C = some (excClassObj nm q C N bs bm hdct sn sub ab col dd k0 k1 k2 k3 k5 newId))
    (hi : W.Looks (model prog w) h (typeLookup (.ref C) "__init__") (some (.ref fI))) (hb : ∀ self, W.Looks (model prog w) h (bindSpecial (.ref fI) self) (.ref fI, [self]))
    (hq : codeAny (model prog w) A (.call (.ref fI) ⟨[.ref (h.objs.size + 1)], kws⟩)
      (fun r s' => match r with | .ok (.ret v) => v = .none ∧ Q (.done (.ret (.ref (h.objs.size + 1)))) s' | .ok _ => False | .error e => E e s')
      ⟨(h.push (kdv_tup [])).push (excO C h.objs.size), g, d, t, os⟩) :
    wpAny (model prog w) A (Builtin.«type.__call__» ⟨[.ref C], kws⟩) Q E ⟨h, g, d, t, os⟩ := by
  repeat (first | with_reducible refine wpAny_loadPart_at hC ?_ | with_reducible refine wpAny_madeBy_exc hC ?_ | wp_step)
  refine codeAny_call_builtin_code (Code.quiet_builtin _ F.quiet) (kw_check F hT hC ?_)
  refine kw_new F hT hC ?_
  show wpAny _ _ _ _ _ _
  have k : ∀ b o, h.get? b = some o → ((h.push (kdv_tup [])).push (excO C h.objs.size)).get? b = some o := fun b o e => Heap.get?_push_of_some _ (Heap.get?_push_of_some _ e)
  have hC' := k _ _ hC
  have hx : ((h.push (kdv_tup [])).push (excO C h.objs.size)).get? (h.objs.size + 1) = some (excO C h.objs.size) := by heap_get
  have cc : (Value.ref C :: bm).contains (.ref C) = true := by simp
  have i1 := hi.keeps k
  have b1 := (hb (.ref (h.objs.size + 1))).keeps k
  unfold isInstance
  repeat (first | with_reducible refine wpAny_loadPart_at hx ?_ | (with_reducible refine wpAny_isSubtype_exc hC' ?_; rw [cc]) | wp_step)
  show wpAny _ _ (typeLookup (.ref C) _) _ _ _
  refine i1.at ?_
  refine wpAny_holding (wpAny_bind (b1.at ?_))
  refine wpAny_bind (wpAny_call (codeAny_mono hq fun r s' z => ?_))
  rcases r with e | (v | _ | _ | _) <;> first | exact z | exact z.elim | skip
  obtain ⟨rfl, z⟩ := z
  first
    | exact wpAny_pure (wpAny_pure z)
    | (wp_walk; exact z)
theorem kw_own (F : ExcBaseFacts B newId initId bmB) (hT : ∀ X : String, bm.contains (.type X) = bmB.contains (.type X)) {kws : List (Str × Value)} {fI : Addr}
    (hC : h.get? C = some (excClassObj nm q C N bs bm hdct sn sub ab col dd k0 k1 k2 k3 k5 newId))
    (hi : W.Looks (model prog w) h (typeLookup (.ref C) "__init__") (some (.ref fI))) (hb : ∀ self, W.Looks (model prog w) h (bindSpecial (.ref fI) self) (.ref fI, [self]))
    (hq : codeAny (model prog w) (A.under (.builtin "type.__call__" ⟨[.ref C], kws⟩)) (.call (.ref fI) ⟨[.ref (h.objs.size + 1)], kws⟩) (W.InitBack (h.objs.size + 1) R)
      ⟨(h.push (kdv_tup [])).push (excO C h.objs.size), g, d, t, os⟩) :
    codeAny (model prog w) A (.call (.ref C) ⟨[], kws⟩) R ⟨h, g, d, t, os⟩ := by
  have f1 := tc_lookup
  have f2 := tc_bind (.ref C)
  have hTy : (⟨h, g, d, t, os⟩ : Shared).TypeIs (.ref C) "type" := ⟨_, hC, rfl⟩
  refine codeAny_of_tree ?_
  show wpAny _ _ (callAny (.ref C) _) _ _ _
  repeat (any_goals (first | assumption | with_reducible refine wpAny_loadPart_at hC ?_ | wp_step))
  refine ⟨rfl, ?_⟩
  refine codeAny_call_builtin_at (Code.quiet_builtin _ (by decide +kernel)) entry_typeCall (wpAny_check_type_call_sub hC (kw_type F hT hC hi hb ?_))
  refine codeAny_mono hq fun r s' z => ?_
  rcases r with e | (v | _ | _ | _) <;> exact z
end
end HandSPX
end PySem
end

section
set_option Elab.async false
set_option linter.all false
set_option maxRecDepth 100000
set_option maxHeartbeats 4000000
namespace PySem
namespace LowX
open PySem.W PySem.Calls PyProof.Rows PySem.HandSPX
section
variable {prog : Program} {w : World} {A : Around} {E : Value → Shared → Prop} {R : Result → Shared → Prop} {s : Shared} {K : Frag} {mg : Str → Option Value} {C fI : Addr}
theorem kw_init (T : LowTxt K mg C fI) {x t0 : Addr} {v : Value} (X : K.In s.heap) (hlim : s.heap.NoLimit) (hx : s.heap.get? x = some (excO C t0)) (hnx : K.lookup x = none) (hroom : A.depth < recursionLimit)
    (hq : ∀ h' tk dx, InitEnd s.heap h' x C dx t0 v → R (.ok (.ret .none)) { s with heap := h', toks := tk }) :
    codeAny (model prog w) A (.call (.ref fI) ⟨[.ref x], [("place", v)]⟩) R s := by
  obtain ⟨oc, od, doc, pm, an, cdv, ct, osl, p1, p2, q1, q2, q3, q4, ho, hcd⟩ := T.fn
  obtain ⟨nm, q, N, bs, bm, sn, sub, ab, col, dd, k0, k1, k2, k3, k5, hC, hbm⟩ := T.cls
  have hcl : clsIn K C = some { name := nm, bases := bs, mro := .ref C :: bm, ns := N, qualname := q, hasDict := true, slotNames := sn, subclasses := sub, abstract := ab, collection := col, hasDel := false } := by unfold clsIn; rw [hC] <;> rfl
  refine Att.call_fn (binds := [("self", .ref x), ("place", v)]) X hlim ho hcd hroom (BindsTo.of_eq (by first | rfl | with_unfolding_all rfl | kernel_rfl)) (by first | rfl | decide | with_unfolding_all rfl) (fun s₁ IC => ?_) rfl rfl rfl
  obtain ⟨h₁, tk₁, rfl⟩ := IC.toInCall.same
  have k : ∀ b o, s.heap.get? b = some o → h₁.get? b = some o := IC.toInCall.keep
  have hn := IC.toInCall.ns
  have X₁ : K.In h₁ := X.keeps k
  have hx₁ := k _ _ hx
  show wpAny _ _ (execs _ _) _ _ _
  refine wpAny_execs_cons (plainObj_wpAny_Assign_Attribute ?_)
  refine ldC (v := v) hn (by first | rfl | with_unfolding_all rfl | kernel_rfl) (ldC (v := .ref x) hn (by first | rfl | with_unfolding_all rfl | kernel_rfl) ?_)
  refine set_plain X₁ (ox := excO C t0) (od := none) ⟨hx₁, rfl, rfl, trivial⟩ T.sa ?_
  refine exc_osa X₁ hx₁ hcl (show refsVE (.ref C :: bm) = true from hbm) rfl T.noN (fun h₃ tk₃ dx k₃ dn dne hx₃ hn₃ => ?_)
  show wpAny _ _ (execs _ _) _ _ _
  have z : s.heap.objs.size < h₁.objs.size := hn.lt
  exact wpAny_execs_nil (hq h₃ tk₃ dx ⟨fun b o hb e => k₃ b o hb (k b o e), hx₃, Nat.le_of_lt (Nat.lt_of_lt_of_le z dn), dne, hn₃⟩)
theorem kw_made (T : LowTxt K mg C fI) {v : Value} (X : K.In s.heap) (hlim : s.heap.NoLimit) (hroom : A.depth + 1 < recursionLimit)
    (hq : ∀ h' tk e d, OwnMade s.heap h' e C d v → R (.ok (.ret (.ref e))) { s with heap := h', toks := tk }) :
    codeAny (model prog w) A (.call (.ref C) ⟨[], [("place", v)]⟩) R s := by
  obtain ⟨nm, q, N, bs, bm, sn, sub, ab, col, dd, k0, k1, k2, k3, k5, hC, hbm⟩ := T.cls
  obtain ⟨hp, g, dr, tk, os⟩ := s
  have k : ∀ b o, hp.get? b = some o → ((hp.push (kdv_tup [])).push (excO C hp.objs.size)).get? b = some o := fun b o e => Heap.get?_push_of_some _ (Heap.get?_push_of_some _ e)
  have hget : ((hp.push (kdv_tup [])).push (excO C hp.objs.size)).get? (hp.objs.size + 1) = some (excO C hp.objs.size) := by heap_get
  have hnx : K.lookup (hp.objs.size + 1) = none := by
    cases e : K.lookup (hp.objs.size + 1) with
    | none => rfl
    | some o =>
      have z : hp.get? (hp.objs.size + 1) = some o := X _ _ e
      exact absurd (Nat.lt_of_succ_lt (Heap.lt_size z)) (Nat.lt_irrefl _)
  refine kw_own F.excBase_ValueError (fun X => refsVE_contains X bm hbm) (X _ _ hC) (looks_findIn X T.iC) (fun self => bind_fn X self T.tC) ?_
  refine kw_init (s := ⟨(hp.push (kdv_tup [])).push (excO C hp.objs.size), g, dr, tk, os⟩) T (X.keeps k) (hlim.keeps k) hget hnx ?_ fun h' tk' dx ⟨k', hx, dn, dne, hns⟩ => ?_
  · show A.depth + 1 < recursionLimit
    exact hroom
  · have old : ∀ b o, hp.get? b = some o → h'.get? b = some o := fun b o e => k' b o (Nat.ne_of_lt (Nat.lt_succ_of_lt (Heap.lt_size e))) (k b o e)
    have z : hp.objs.size + 1 + 1 ≤ dx := by
      first
        | (simpa only [Heap.size_push] using dn)
        | exact dn
        | (have q := dn; rw [Heap.size_push, Heap.size_push] at q; exact q)
    exact ⟨rfl, hq h' tk' (hp.objs.size + 1) dx ⟨old, Nat.le_succ _, ⟨_, _, hx, rfl, rfl, rfl, rfl⟩, Nat.le_trans (Nat.le_trans (Nat.le_succ _) (Nat.le_succ _)) z, dne, hns⟩⟩
end
end LowX
namespace W
open PySem PySem.Spec PySem.Calls PyProof.Rows
section
variable {prog : Program} {w : World} {A : Around} {E : Value → Shared → Prop} {s : Shared} {K : Frag} {x D : Addr} {ox : Obj}
theorem askClass {od : Option Obj} {Q : Option Value → Shared → Prop} (hga : findIn K (.ref D) "__getattribute__" = some (some (.builtin "BaseException.__getattribute__"))) (hgt : findIn K (.ref D) "__getattr__" = some none) (hsub : subIn K (.ref D) (.type "BaseException") = some true)
    (hf : findObj K D od "__class__" = some (.bind (.builtin "getset_descriptor.__get__") (.builtin "object.__class__"))) (hm : mroIn K D (.type "object") = some true)
    (X : K.In s.heap) (I : InstAt s.heap x ox D od) (h : Q (some (.ref D)) { s with toks := s.toks + 1 }) : wpAny (model prog w) A (getAttr? (.ref x) "__class__") Q E s := by
  obtain ⟨hp, g, d, t, os⟩ := s
  have L0 := I.type (M := model prog w)
  have L1 := looks_findIn (M := model prog w) X hga
  have L2 := looks_findIn (M := model prog w) X hgt
  have L3 := looks_find (M := model prog w) X I hf
  have sub : Looks (model prog w) hp (isInstance (.ref x) (.type "BaseException")) true := L0.andThen (looks_subIn X hsub)
  have z0 : (false && onTheHeap (Value.builtin "BaseException.__getattribute__")) = false := rfl
  have z2 : (Value.builtin "BaseException.__getattribute__" == Value.builtin "object.__getattribute__") = false := by decide +kernel
  have z1 : (onTheHeap (Value.ref D) && Value.builtin "BaseException.__getattribute__" == Value.builtin "object.__getattribute__") = false := by rw [z2]; rfl
  unfold getAttr? getAttrBy? getAttrBy
  refine wpAny_bind (wpAny_mkText (wpAny_bind (wpAny_attempt (wpAny_holding (wpAny_bind (L0.at (wpAny_bind (L1.at ?_))))))))
  show wpAny _ _ (if (onTheHeap (Value.ref D) && Value.builtin "BaseException.__getattribute__" == Value.builtin "object.__getattribute__") = true then _ else _) _ _ _
  rw [z1, if_neg Bool.false_ne_true]
  unfold getAttrByItsOwn hookBefore
  refine wpAny_bind ?_
  rw [if_pos (show onTheHeap (Value.ref D) = true from rfl)]
  refine L2.at ?_
  refine wpAny_bind (wpAny_attempt (wpAny_holding ?_))
  unfold callGetattribute
  rw [z0, if_neg Bool.false_ne_true]
  unfold boundAndCalled
  rw [PySem.F.excAttr_ValueError.ga.bind (.ref x)]
  refine wpAny_bind (wpAny_pure ?_)
  show wpAny _ _ (call (.builtin "BaseException.__getattribute__") [.ref x, .str "__class__" t]) _ _ _
  refine wpAny_call (codeAny_call_builtin PySem.F.excAttr_ValueError.ga.plain PySem.F.entry_bexc_ga ?_)
  refine @check_slot (model prog w) _ _ ⟨hp, g, d, t + 1, os⟩ "BaseException.__getattribute__" "BaseException" "__getattribute__" (.ref x) [.str "__class__" t] [] _ (by decide +kernel) (by decide +kernel) sub (PySem.F.args_bexc_ga (.ref x) (.str "__class__" t)) ?_
  unfold Builtin.«object.__getattribute__»
  refine wpAny_bind (wpAny_of_eq (a := ((Value.ref x : Value), [Value.str "__class__" t])) (by first | rfl | (simp only [slotArgs]; rfl)) ?_)
  refine wpAny_bind (wpAny_pure (wpAny_bind (L0.at (wpAny_bind (L3.at ?_)))))
  show wpAny _ _ (holding [Value.builtin "object.__class__"] (call (.builtin "getset_descriptor.__get__") [.builtin "object.__class__", .ref x, .ref D]) >>= ret) _ _ _
  refine wpAny_bind (wpAny_holding (wpAny_call (class_get (s := ⟨hp, g, d, t + 1, os⟩) (ox := ox) (od := od) X I hm ?_)))
  refine wpAny_pure ?_
  show wpAny _ _ (handedOut (.ref D)) _ _ _
  rw [handedOut_of (v := .ref D) rfl]
  first
    | exact wpAny_pure (wpAny_pure h)
    | exact wpAny_pure h
    | exact wpAny_pure (wpAny_bind (wpAny_pure (wpAny_pure h)))
theorem dataN {C : Addr} {od : Option Obj} {name : Str} {a g : Value} (hc : (clsIn K C).isSome = true) (ha : findIn K (.ref C) name = some (some a)) (hg : specialIn K a "__get__" = some (some g)) (ht : takesIn K a = some true) : findObj K C od name = some (.bind g a) := by
  obtain ⟨cd, hc⟩ := Option.isSome_iff_exists.mp hc
  unfold findObj
  rw [hc, Option.bind_some, ha, Option.bind_some]
  simp [hg, ht]
theorem kitD (hga : findIn K (.ref D) "__getattribute__" = some (some (.builtin "BaseException.__getattribute__"))) (hgt : findIn K (.ref D) "__getattr__" = some none) (hsub : subIn K (.ref D) (.type "BaseException") = some true) (hdct : hasDictIn K D = true) (ha : findIn K (.ref D) "__class__" = some (some (.builtin "object.__class__")))
    (hn : specialIn K (.builtin "object.__class__") "__get__" = some (some (.builtin "getset_descriptor.__get__"))) (htk : takesIn K (.builtin "object.__class__") = some true) (hm : mroIn K D (.type "object") = some true) :
    KitX K (.ref x) (.ref D) (fun h => ∃ od, InstAt h x ox D od) where
  ty := fun _ _ _ ⟨_, I⟩ => I.type
  it := fun _ _ X _ => by
    obtain ⟨cdD, hcD, _⟩ := any_some hdct
    unfold clsIn at hcD
    split at hcD
    · rename_i c' d' cd' sl' ho
      intro A' Q' E' s' k q
      unfold isType loadHead
      exact wpAny_bind (wpAny_loadPart (k _ _ (X _ _ ho)) (wpAny_pure q))
    · cases hcD
  ne := fun h tp dd its n sl X htp => by
    obtain ⟨cdD, hcD, _⟩ := any_some hdct
    refine Bool.eq_false_iff.mpr fun q => ?_
    have e : D = tp := Value.ref.inj (beq_iff_eq.mp q)
    subst e
    unfold clsIn at hcD
    split at hcD
    · rename_i c' d' cd' sl' ho
      have z := (X _ _ ho).symm.trans htp
      cases z
    · cases hcD
  ca := fun X ⟨od, I⟩ k => askClass hga hgt hsub (dataN (by obtain ⟨cd, hc, _⟩ := any_some hdct; rw [hc]; rfl) ha hn htk) hm X I k
end
end W
end PySem
namespace Gx
open PySem PySem.Spec PyProof.Rows L2 GxR
/-- an exception held as a value: of the class C; d is its own dict, where it has one -/
def ExV (C : Addr) (d : Option Addr) (a : Addr) : HO := .ext fun h => ∃ (oe : Obj) (vs : Array Value), h.get? a = some oe ∧ Zc (.ref C) d oe ∧ oe.data = .fields vs
theorem exV_ok {P : Program} {w : World} {H : Hp} {h : Heap} {a C : Addr} {d : Option Addr} {oe : Obj} {vs : Array Value} (e : h.get? a = some oe) (z : Zc (.ref C) d oe) (f : oe.data = .fields vs) : ObjOk P w H h a (ExV C d a) :=
  ⟨⟨oe, vs, e, z, f⟩, ⟨oe, e⟩, fun _ _ ⟨o, v, q, r⟩ k => ⟨o, v, k o q, r⟩⟩
section
variable {X : Cx} {x : Str} {C fI : Addr}
/-- the name of an own class as a value -/
theorem pe_gcl {pos : Pos} (e : X.mg x = some (.ref C)) (hg : Gl X x := by rfl) (hd : (x == ("__debug__" : Str)) = false := by decide) : PE X (.Name x pos) (tC (.ref C)) := by
  refine ⟨fun pins s σ H Q I h => ?_⟩
  exact ld_glob I hg e ⟨.ref C, H, I, rfl, h⟩ hd
/-- X(e) as a value -/
theorem pe_erV {e : Expr} {ta : TE} {p pos : Pos} (er : Er X.K X.mg x C) (he : PE X e ta) (hg : Gl X x := by rfl) (hs : starEach [e] X.env = (false, eval e X.env) :: starEach [] X.env := by rfl) (hdb : (x == ("__debug__" : Str)) = false := by decide) :
    PE X (.Call (.Name x p) [e] [] pos) (fun σ H Q => ta σ H fun _ H1 => ∀ a, H1 a = none → Q (.ref a) (upd H1 a (ExV C none a))) := by
  refine ⟨fun pins s σ H Q I h => ?_⟩
  refine wpAny_Call_Name_kw (ld_glob I hg er.at_ ?_ hdb)
  refine PySem.W.callWith_K (h₀ := X.base) I.ok.mod.kin er.keep ?_ hs (by rfl)
  rw [hs]
  show wpAny _ _ (spliced ((false, eval e X.env) :: backTo pos (starEach [] X.env))) _ _ s
  refine Calls.spliced_cons (thn (he.run pins s σ H _ I h) fun u s1 ⟨v, H1, I1, r1, q1⟩ => ?_)
  refine Calls.spliced_nil ⟨I1.kIn, ?_⟩
  show wpAny _ _ (call (.ref C) [u]) _ _ _
  obtain ⟨bm, N, nm, qn, bs, hdct, sn, sub, ab, col, dd, k0, k1, k2, k3, k5, mN, hC, hN, hni, T⟩ := exc_obj I1.kIn er.ex
  refine wpAny_call_exc_subT PySem.F.excBase_ValueError T hC hN hni (fun h' a hm => ?_) (by show 1 ≤ sizeLine; rw [sizeLine_eq]; omega)
  have hn : H1 a = none := I1.hok.gone hm.new
  obtain ⟨t, ht, _, _⟩ := hm.there
  exact ⟨.ref a, upd H1 a (ExV C none a), I1.laidN hm.keeps hm.new hn (exV_ok ht ⟨rfl, rfl⟩ rfl), rfl, q1 a hn⟩
/-- what is told of a new Low -/
def LowV (C : Addr) (v : V) (Q : VK) (H1 : Hp) : Prop := ∀ a d, H1 d = none → H1 a = none → a ≠ d → Q (.ref a) (upd (upd H1 d (.xd [(("place" : Str), v)])) a (ExV C (some d) a))
theorem lowV_end {pins : List (Addr × Obj)} {σ : L2.St} {H1 : Hp} {hp h' : Heap} {g : Array GenState} {dr : Drawn} {tk tk' : Nat} {os : OsState} {e d : Addr} {v : V} {v' : Value} {Q : VK} (I1 : Inv X pins σ H1 ⟨hp, g, dr, tk, os⟩) (rv : RelV v v') (M : PySem.LowX.OwnMade hp h' e C d v') (q : LowV C v Q H1) :
    EP X pins σ Q (.ref e) ⟨h', g, dr, tk', os⟩ := by
  obtain ⟨oe, fv, hoe, hc, hd, hdat, h1⟩ := M.obj
  have hns := M.ns
  obtain ⟨G', g1, g2⟩ := restrict h' fun b => decide (b ≠ e)
  have gk : ∀ b, b ≠ e → G'.get? b = h'.get? b := fun b hb => g1 b (decide_eq_true hb)
  have ge : G'.get? e = none := g2 e (by simp)
  have old : ∀ b o, hp.get? b = some o → G'.get? b = some o := fun b o q => (gk b (Nat.ne_of_lt (Nat.lt_of_lt_of_le (Heap.lt_size q) M.new))).trans (M.keep b o q)
  have ob : ObjOk X.prog X.w (upd H1 d (.xd [(("place" : Str), v)])) G' d (.xd [(("place" : Str), v)]) :=
    ⟨_, hns.at (fun o q => (gk d M.dne).trans q), fun f => relO_low rv f⟩
  have J : Inv X pins σ (upd H1 d (.xd [(("place" : Str), v)])) ⟨G', g, dr, tk', os⟩ := I1.laid (t' := tk') old M.dbig ob
  have he0 : H1 e = none := I1.hok.fresh M.new
  have he : upd H1 d (.xd [(("place" : Str), v)]) e = none := by rw [upd_ne (Ne.symm M.dne)]; exact he0
  have J2 := J.laidN (h' := h') (a := e) (o := ExV C (some d) e) (t' := tk') (fun b o q => by
    by_cases hb : b = e
    · have q' : G'.get? b = some o := q
      rw [hb, ge] at q'; cases q'
    · exact (gk b hb).symm.trans q) ge he (exV_ok hoe ⟨hc, hd⟩ hdat)
  exact ⟨.ref e, _, J2, rfl, q e d (I1.hok.fresh M.dbig) he0 (Ne.symm M.dne)⟩
/-- Low(e) as a value -/
theorem pe_lowV {a : Expr} {ta : TA} {p pos : Pos} {k : Nat} (T : PySem.LowX.LowTxt X.K X.mg C fI) (hr : Room k X.A) (ha : PA X [a] ta) (hg : Gl X "InvalidText" := by rfl)
    (he : starEach (a :: []) X.env = (false, eval a X.env) :: starEach [] X.env := by rfl) (hpl : (backTo pos (starEach [] X.env)).any (·.1) = false := by rfl) :
    PE X (.Call (.Name "InvalidText" p) [a] [] pos) (fun σ H Q => ta σ H fun vs H1 => ∃ v, vs = [v] ∧ LowV C v Q H1) := by
  refine ⟨fun pins s σ H Q I h => ?_⟩
  refine wpAny_Call_Name_kw (ld_glob I hg T.gC ?_)
  refine PySem.W.callWith_K (h₀ := X.base) I.ok.mod.kin T.kC (thn (ha.run pos pins s σ H _ I h) fun us s1 hh => ?_) he hpl
  obtain ⟨vs, H1, I1, r1, v, ev, q1⟩ := hh
  subst ev
  refine ⟨I1.kIn, ?_⟩
  cases r1 with
  | cons rv rn =>
    rename_i v' us'
    cases rn
    show wpAny _ _ (call (.ref C) [v']) _ _ _
    have hlim := I1.nolimit
    obtain ⟨hp, g, dr, tk, os⟩ := s1
    exact wpAny_call (PySem.LowX.low_made T I1.kIn hlim (by have := hr.dp; omega) fun h' tk' e d M => lowV_end I1 rv M q1)
/-- Low(place = e) as a value -/
theorem pe_lowK {kws : List Keyword} {tk : TA} {p pos : Pos} {k : Nat} (T : PySem.LowX.LowTxt X.K X.mg C fI) (hr : Room k X.A) (hkw : PK X kws tk) (hg : Gl X "InvalidText" := by rfl) (hall : (backToKw pos (keywordEach kws X.env)).all (·.1.isSome) = true := by rfl) (hks : (backToKw pos (keywordEach kws X.env)).filterMap (·.1) = [("place" : Str)] := by rfl)
    (hdb : ("InvalidText" == ("__debug__" : Str)) = false := by decide) (hpl : ((backTo pos (starEach [] X.env)).any (·.1) || (backToKw pos (keywordEach kws X.env)).any (·.1.isNone)) = false := by rfl) :
    PE X (.Call (.Name "InvalidText" p) [] kws pos) (fun σ H Q => tk σ H fun vs H1 => ∃ v, vs = [v] ∧ LowV C v Q H1) := by
  refine ⟨fun pins s σ H Q I h => ?_⟩
  refine wpAny_Call_Name_kw (ld_glob I hg T.gC ?_ hdb)
  refine PySem.W.callWith_KW0 (h₀ := X.base) I.ok.mod.kin T.kC hall (thn (hkw.run pos pins s σ H _ I h) fun ws s2 ⟨zs, H2, I2, rz, v, ev, q2⟩ => ⟨I2.kIn, ?_⟩) hpl
  subst ev
  rw [hks]
  cases rz with
  | @cons _ v' _ _ rv rn =>
    cases rn
    show wpAny _ _ (call (.ref C) [] [(("place" : Str), v')]) _ _ _
    have hlim := I2.nolimit
    obtain ⟨hp, g, dr, tk0, os⟩ := s2
    exact wpAny_call (PySem.LowX.kw_made T I2.kIn hlim (by have := hr.dp; omega) fun h' tk' e d M => lowV_end I2 rv M q2)
/-- e.place, e a Low held as a value -/
theorem pe_plcV {e : Expr} {te : TE} {pos : Pos} (T : PySem.LowX.LowTxt X.K X.mg C fI) (he : PE X e te) (hb : attributeBase e "place" X.env (eval e X.env) = eval e X.env := by rfl) :
    PE X (.Attribute e "place" pos) (fun σ H Q => te σ H fun x H1 => ∃ a d v, x = .ref a ∧ H1 a = some (ExV C (some d) a) ∧ H1 d = some (.xd [(("place" : Str), v)]) ∧ Q v H1) := by
  refine ⟨fun pins s σ H Q I h => ?_⟩
  refine attr_of hb (thn (he.run pins s σ H _ I h) fun u s1 hh => ?_)
  obtain ⟨x, H1, I1, rx, a, d, v, ex, ea, ed, q⟩ := hh
  subst ex
  obtain rfl : u = Value.ref a := rx
  obtain ⟨⟨oe, vs, hget, hz, hd⟩, _, _⟩ := I1.hok a _ ea
  have hx : ObjOk X.prog X.w H1 s1.heap d (.xd [(("place" : Str), v)]) := I1.hok d _ ed
  obtain ⟨mA, hns, hr⟩ := hx
  obtain ⟨od, ho, hl⟩ := lookIn_ns hns
  have l : List.lookup ("place" : Str) [(("place" : Str), v)] = some v := by simp [List.lookup]
  obtain ⟨u, hu, ru⟩ := RelO.some_of (v := v) (o := mA "place") (by rw [← l]; exact hr "place")
  have J : PySem.W.InstAt s1.heap a oe C (some od) := ⟨hget, hz.1, by unfold PySem.W.notCls; rw [hd] <;> rfl, by rw [hz.2]; exact ho⟩
  exact HandSPX.exc_get I1.kIn J T.ga T.gg T.exC (PySem.W.findObj_own T.hdC T.noN rfl (by rw [hl, hu])) (handed_of ru) ⟨v, H1, I1.tok _, ru, q⟩
/-- isinstance(e, c), e an exception held as a value -/
def rIsV (K : PySem.W.Frag) : List V → Hp → VK → Prop := fun xs H Q => ∃ (a D : Addr) (c : V) (cv : Value) (b : Bool), xs = [.ref a, c] ∧ (H a = some (ExV D none a) ∨ ∃ d fs, H a = some (ExV D (some d) a) ∧ H d = some (.xd fs)) ∧ ExcC K D ∧ (∀ u, RelV c u → u = cv) ∧ PySem.W.kitOne K (.ref D) cv = some b ∧ Q (.bl b) H
theorem call_isV : CallR X (.builtin "isinstance") (rIsV X.K) := by
  intro pins s σ H xs us Q I r h
  obtain ⟨a, D, c, cv, b, rfl, hh, C, hcv, e, q⟩ := h
  cases r with
  | cons rx rr =>
    cases rr with
    | cons rt rr =>
      cases rr
      cases rx
      have ec := hcv _ rt
      subst ec
      have J : ∃ oe od, PySem.W.InstAt s.heap a oe D od := by
        rcases hh with ha | ⟨d, fs, ha, hd⟩
        · obtain ⟨⟨oe, vs, hget, hz, hv⟩, _, _⟩ := I.hok a _ ha
          exact ⟨oe, none, hget, hz.1, by unfold PySem.W.notCls; rw [hv] <;> rfl, by rw [hz.2]; trivial⟩
        · obtain ⟨⟨oe, vs, hget, hz, hv⟩, _, _⟩ := I.hok a _ ha
          have hx : ObjOk X.prog X.w H s.heap d (.xd fs) := I.hok d _ hd
          obtain ⟨mA, hns, hr⟩ := hx
          obtain ⟨od, ho, hl⟩ := lookIn_ns hns
          exact ⟨oe, some od, hget, hz.1, by unfold PySem.W.notCls; rw [hv] <;> rfl, by rw [hz.2]; exact ho⟩
      obtain ⟨oe, od, J⟩ := J
      exact PySem.W.kia_one (PySem.W.kitD (ox := oe) C.hg C.hk C.hs C.hd C.ha C.hn C.ht C.hm) I.kIn ⟨od, J⟩ e (fun z => nomatch z) fun tk => ⟨.bl b, H, I.kept (t' := tk) fun _ _ z => z, rfl, q⟩
end
end Gx
end

section
set_option Elab.async false
set_option linter.all false
set_option maxRecDepth 100000
set_option maxHeartbeats 4000000
namespace K59
open PySem PySem.Spec PyProof.Rows L2 GxR Gx Ma
section
variable {P : Program} {w : World} {K : PySem.W.Frag} {mg : Str → Option Value} {base : Heap}

inductive Subs (K : PySem.W.Frag) (D : Addr) : List Addr → List Bool → Prop
  | nil : Subs K D [] []
  | cons {C : Addr} {cs : List Addr} {b : Bool} {bs : List Bool} (h : PySem.W.subIn K (.ref D) (.ref C) = some b) (t : Subs K D cs bs) : Subs K D (C :: cs) (b :: bs)
theorem Subs.at_ {D C : Addr} {b : Bool} : ∀ {cs : List Addr} {bs : List Bool}, Subs K D cs bs → ∀ j : Nat, cs[j]? = some C → bs[j]? = some b → PySem.W.subIn K (.ref D) (.ref C) = some b
  | _, _, .nil, j, h, _ => by cases h
  | _, _, .cons h t, 0, h1, h2 => by cases h1; cases h2; exact h
  | _, _, .cons h t, j + 1, h1, h2 => t.at_ j h1 h2
/-- what is asked of a class that stands in isinstance -/
structure ClsF (K : PySem.W.Frag) (C : Addr) : Prop where
  c : PySem.W.isClsIn K C = true
  t : PySem.W.typeIn K (.ref C) = some (.type "type")
  s : PySem.W.subIn K (.ref C) (.ref C) = some true
theorem kit_sub {D C : Addr} {b : Bool} (f : ClsF K C) (h : PySem.W.subIn K (.ref D) (.ref C) = some b) : PySem.W.kitOne K (.ref D) (.ref C) = some b := by
  unfold PySem.W.kitOne
  by_cases e : ((Value.ref D) == .ref C) = true
  · rw [if_pos e]
    have e2 : D = C := Value.ref.inj (beq_iff_eq.mp e)
    subst e2
    rw [← h]; exact f.s.symm
  · rw [if_neg e]
    have e2 : ((PySem.W.clsIn K C).isSome && PySem.W.typeIn K (.ref C) == some (.type "type")) = true := by
      have h2 : (PySem.W.clsIn K C).isSome = true := f.c
      rw [h2, f.t] <;> rfl
    show (if ((PySem.W.clsIn K C).isSome && PySem.W.typeIn K (.ref C) == some (.type "type")) = true then PySem.W.subIn K (.ref D) (.ref C) else none) = some b
    rw [if_pos e2]; exact h
theorem kit_val {D : Addr} (h : PySem.W.subIn K (.ref D) (.type "ValueError") = some true) : PySem.W.kitOne K (.ref D) (.type "ValueError") = some true := by
  have e : ((Value.ref D) == .type "ValueError") = false := rfl
  unfold PySem.W.kitOne
  rw [e, if_neg Bool.false_ne_true]
  show (if PySem.W.kitMeta "ValueError" = true then PySem.W.subIn K (.ref D) (.type "ValueError") else none) = _
  rw [if_pos (by decide +kernel)]; exact h
def rowB (i : Nat) : List Bool := ((List.range 15).map fun j => decide (i = j)) ++ [true]
/-- the class of place i, among the 15 and PotError's place 15 -/
structure Rw (K : PySem.W.Frag) (cs : List Addr) (i : Nat) (D : Addr) : Prop where
  s : Subs K D cs (rowB i)
  v : PySem.W.subIn K (.ref D) (.type "ValueError") = some true
  x : ExcC K D
  f : ∀ C ∈ cs, ClsF K C
theorem rowB_at (i j : Nat) (h : j < 15) : (rowB i)[j]? = some (decide (i = j)) := by
  unfold rowB
  rw [List.getElem?_append_left (by rw [List.length_map, List.length_range]; exact h), List.getElem?_map, List.getElem?_range h]; rfl
theorem rowB_15 (i : Nat) : (rowB i)[15]? = some true := rfl
theorem Rw.kit {cs : List Addr} {i : Nat} {D C : Addr} (r : Rw K cs i D) (j : Nat) (h : j < 15) (hc : cs[j]? = some C) : PySem.W.kitOne K (.ref D) (.ref C) = some (decide (i = j)) := kit_sub (r.f C (List.mem_of_getElem? hc)) (r.s.at_ j hc (rowB_at i j h))
theorem Rw.pot {cs : List Addr} {i : Nat} {D C : Addr} (r : Rw K cs i D) (hc : cs[15]? = some C) : PySem.W.kitOne K (.ref D) (.ref C) = some true := kit_sub (r.f C (List.mem_of_getElem? hc)) (r.s.at_ 15 hc (rowB_15 i))
/-- an exception of the class D stands at a -/
def IsV (H : Hp) (a D : Addr) : Prop := H a = some (ExV D none a) ∨ ∃ d fs, H a = some (ExV D (some d) a) ∧ H d = some (.xd fs)
theorem IsV.same {H H' : Hp} {a D : Addr} (h : IsV H a D) (e : Same H H') : IsV H' a D := by
  rcases h with h | ⟨d, fs, h1, h2⟩
  · exact .inl (e _ _ h)
  · exact .inr ⟨d, fs, e _ _ h1, e _ _ h2⟩
def sp_of (K : PySem.W.Frag) (cs : List Addr) : Sp := fun vs H Q _ => ∃ (a D : Addr) (i : Nat), vs = [V.ref a] ∧ IsV H a D ∧ Rw K cs i D ∧ ∀ H' p, Same H H' → H p = none → H' p = some (.lst ((List.range 15).map fun j => V.bl (decide (i = j)))) → Q (.ref p) H'

theorem same_free {H H' : Hp} (e : Same H H') {x : Addr} (h : H' x = none) : H x = none := by
  cases q : H x with
  | none => rfl
  | some o => rw [e _ _ q] at h; cases h

theorem ok__law_of {f : Addr} {fd : FuncData}  (F : Fun K "_law_of" "_law_of" s__law_of f fd) (B : Bl mg) {E_InvalidContent E_InvalidPots E_InvalidNumbers E_InvalidKept E_InvalidRow E_InvalidStrengths E_InvalidFraction E_InvalidCup E_InvalidDeeds E_InvalidLiquid E_InvalidIndex E_InvalidNumber E_TooMany E_NothingToUndo C E_PotError fI : Addr} (ER_InvalidContent : Er K mg "InvalidContent" E_InvalidContent) (ER_InvalidPots : Er K mg "InvalidPots" E_InvalidPots) (ER_InvalidNumbers : Er K mg "InvalidNumbers" E_InvalidNumbers) (ER_InvalidKept : Er K mg "InvalidKept" E_InvalidKept) (ER_InvalidRow : Er K mg "InvalidRow" E_InvalidRow) (ER_InvalidStrengths : Er K mg "InvalidStrengths" E_InvalidStrengths) (ER_InvalidFraction : Er K mg "InvalidFraction" E_InvalidFraction) (ER_InvalidCup : Er K mg "InvalidCup" E_InvalidCup) (ER_InvalidDeeds : Er K mg "InvalidDeeds" E_InvalidDeeds) (ER_InvalidLiquid : Er K mg "InvalidLiquid" E_InvalidLiquid) (ER_InvalidIndex : Er K mg "InvalidIndex" E_InvalidIndex) (ER_InvalidNumber : Er K mg "InvalidNumber" E_InvalidNumber) (ER_TooMany : Er K mg "TooMany" E_TooMany) (ER_NothingToUndo : Er K mg "NothingToUndo" E_NothingToUndo) (LW : PySem.LowX.LowTxt K mg C fI) : FnOk P w K mg base CX0 1 f fd ["made"] (sp_of K [E_InvalidContent, E_InvalidPots, E_InvalidNumbers, E_InvalidKept, E_InvalidRow, E_InvalidStrengths, E_InvalidFraction, E_InvalidCup, E_InvalidDeeds, E_InvalidLiquid, E_InvalidIndex, E_InvalidNumber, E_TooMany, E_NothingToUndo, C, E_PotError]) := by
  refine F.ok sc__law_of (fun vs H Q E h => ?_) (fun cdv A outer s H vs Q E hr h => ?_)
  · obtain ⟨a, D, i, rfl, _⟩ := h; rfl
  · obtain ⟨a, D, i, rfl, hv, R, q⟩ := h
    have nd := sc__law_of.nd
    refine ⟨_, (pss_cons (ps_set (i := 1) nd rfl (Or.inl rfl) (pe_lst (pa_cons (pe_callB call_isV (by rfl) B.isinstance (by decide +kernel) (pa_cons (pv 0) (pa_cons (pe_gcl ER_InvalidContent.at_) pa_nil))) (pa_cons (pe_callB call_isV (by rfl) B.isinstance (by decide +kernel) (pa_cons (pv 0) (pa_cons (pe_gcl ER_InvalidPots.at_) pa_nil))) (pa_cons (pe_callB call_isV (by rfl) B.isinstance (by decide +kernel) (pa_cons (pv 0) (pa_cons (pe_gcl ER_InvalidNumbers.at_) pa_nil))) pa_nil)))))
      (pss_cons (ps_set (i := 1) nd rfl (Or.inl rfl) (pe_op op_cat (pv 1) (pe_lst (pa_cons (pe_callB call_isV (by rfl) B.isinstance (by decide +kernel) (pa_cons (pv 0) (pa_cons (pe_gcl ER_InvalidKept.at_) pa_nil))) (pa_cons (pe_callB call_isV (by rfl) B.isinstance (by decide +kernel) (pa_cons (pv 0) (pa_cons (pe_gcl ER_InvalidRow.at_) pa_nil))) (pa_cons (pe_callB call_isV (by rfl) B.isinstance (by decide +kernel) (pa_cons (pv 0) (pa_cons (pe_gcl ER_InvalidStrengths.at_) pa_nil))) pa_nil))))))
      (pss_cons (ps_set (i := 1) nd rfl (Or.inl rfl) (pe_op op_cat (pv 1) (pe_lst (pa_cons (pe_callB call_isV (by rfl) B.isinstance (by decide +kernel) (pa_cons (pv 0) (pa_cons (pe_gcl ER_InvalidFraction.at_) pa_nil))) (pa_cons (pe_callB call_isV (by rfl) B.isinstance (by decide +kernel) (pa_cons (pv 0) (pa_cons (pe_gcl ER_InvalidCup.at_) pa_nil))) (pa_cons (pe_callB call_isV (by rfl) B.isinstance (by decide +kernel) (pa_cons (pv 0) (pa_cons (pe_gcl ER_InvalidDeeds.at_) pa_nil))) pa_nil))))))
      (pss_cons (ps_set (i := 1) nd rfl (Or.inl rfl) (pe_op op_cat (pv 1) (pe_lst (pa_cons (pe_callB call_isV (by rfl) B.isinstance (by decide +kernel) (pa_cons (pv 0) (pa_cons (pe_gcl ER_InvalidLiquid.at_) pa_nil))) (pa_cons (pe_callB call_isV (by rfl) B.isinstance (by decide +kernel) (pa_cons (pv 0) (pa_cons (pe_gcl ER_InvalidIndex.at_) pa_nil))) (pa_cons (pe_callB call_isV (by rfl) B.isinstance (by decide +kernel) (pa_cons (pv 0) (pa_cons (pe_gcl ER_InvalidNumber.at_) pa_nil))) pa_nil))))))
      (pss_one (ps_ret (pe_op op_cat (pv 1) (pe_lst (pa_cons (pe_callB call_isV (by rfl) B.isinstance (by decide +kernel) (pa_cons (pv 0) (pa_cons (pe_gcl ER_TooMany.at_) pa_nil))) (pa_cons (pe_callB call_isV (by rfl) B.isinstance (by decide +kernel) (pa_cons (pv 0) (pa_cons (pe_gcl ER_NothingToUndo.at_) pa_nil))) (pa_cons (pe_callB call_isV (by rfl) B.isinstance (by decide +kernel) (pa_cons (pv 0) (pa_cons (pe_gcl LW.gC) pa_nil))) pa_nil))))))))))), ?_⟩
    refine ⟨.ref a, rfl, a, D, .ref E_InvalidContent, .ref E_InvalidContent, decide (i = 0), rfl, hv, R.x, (fun _ r => r), R.kit 0 (by decide) rfl, .ref a, rfl, a, D, .ref E_InvalidPots, .ref E_InvalidPots, decide (i = 1), rfl, hv, R.x, (fun _ r => r), R.kit 1 (by decide) rfl, .ref a, rfl, a, D, .ref E_InvalidNumbers, .ref E_InvalidNumbers, decide (i = 2), rfl, hv, R.x, (fun _ r => r), R.kit 2 (by decide) rfl, by show 3 ≤ 16777216; decide, fun p0 np0 => ?_⟩
    have s0 := sameN (o := .lst [V.bl (decide (i = 0)), V.bl (decide (i = 1)), V.bl (decide (i = 2))]) np0
    have l0 : L2.upd H p0 (.lst [V.bl (decide (i = 0)), V.bl (decide (i = 1)), V.bl (decide (i = 2))]) p0 = some (.lst [V.bl (decide (i = 0)), V.bl (decide (i = 1)), V.bl (decide (i = 2))]) := upd_same
    have hv0 := hv.same s0
    generalize L2.upd H p0 (.lst [V.bl (decide (i = 0)), V.bl (decide (i = 1)), V.bl (decide (i = 2))]) = H0 at *
    refine ⟨.ref p0, rfl, .ref a, rfl, a, D, .ref E_InvalidKept, .ref E_InvalidKept, decide (i = 3), rfl, hv0, R.x, (fun _ r => r), R.kit 3 (by decide) rfl, .ref a, rfl, a, D, .ref E_InvalidRow, .ref E_InvalidRow, decide (i = 4), rfl, hv0, R.x, (fun _ r => r), R.kit 4 (by decide) rfl, .ref a, rfl, a, D, .ref E_InvalidStrengths, .ref E_InvalidStrengths, decide (i = 5), rfl, hv0, R.x, (fun _ r => r), R.kit 5 (by decide) rfl, by show 3 ≤ 16777216; decide, fun q1 nq1 => ?_⟩
    have t1 := sameN (o := .lst [V.bl (decide (i = 3)), V.bl (decide (i = 4)), V.bl (decide (i = 5))]) nq1
    have m1 : L2.upd H0 q1 (.lst [V.bl (decide (i = 3)), V.bl (decide (i = 4)), V.bl (decide (i = 5))]) q1 = some (.lst [V.bl (decide (i = 3)), V.bl (decide (i = 4)), V.bl (decide (i = 5))]) := upd_same
    refine ⟨p0, q1, _, _, rfl, rfl, t1 _ _ l0, m1, by show 6 ≤ 16777216; decide, fun p1 np1 => ?_⟩
    have u1 := sameN (o := .lst ([V.bl (decide (i = 0)), V.bl (decide (i = 1)), V.bl (decide (i = 2))] ++ [V.bl (decide (i = 3)), V.bl (decide (i = 4)), V.bl (decide (i = 5))])) np1
    have l1 : L2.upd (L2.upd H0 q1 (.lst [V.bl (decide (i = 3)), V.bl (decide (i = 4)), V.bl (decide (i = 5))])) p1 (.lst ([V.bl (decide (i = 0)), V.bl (decide (i = 1)), V.bl (decide (i = 2))] ++ [V.bl (decide (i = 3)), V.bl (decide (i = 4)), V.bl (decide (i = 5))])) p1 = some (.lst [V.bl (decide (i = 0)), V.bl (decide (i = 1)), V.bl (decide (i = 2)), V.bl (decide (i = 3)), V.bl (decide (i = 4)), V.bl (decide (i = 5))]) := upd_same
    have s1 := s0.trans (t1.trans u1)
    have hv1 := hv.same s1
    have f1 : H p1 = none := same_free (s0.trans t1) np1
    generalize L2.upd (L2.upd H0 q1 (.lst [V.bl (decide (i = 3)), V.bl (decide (i = 4)), V.bl (decide (i = 5))])) p1 (.lst ([V.bl (decide (i = 0)), V.bl (decide (i = 1)), V.bl (decide (i = 2))] ++ [V.bl (decide (i = 3)), V.bl (decide (i = 4)), V.bl (decide (i = 5))])) = H1 at *
    refine ⟨.ref p1, rfl, .ref a, rfl, a, D, .ref E_InvalidFraction, .ref E_InvalidFraction, decide (i = 6), rfl, hv1, R.x, (fun _ r => r), R.kit 6 (by decide) rfl, .ref a, rfl, a, D, .ref E_InvalidCup, .ref E_InvalidCup, decide (i = 7), rfl, hv1, R.x, (fun _ r => r), R.kit 7 (by decide) rfl, .ref a, rfl, a, D, .ref E_InvalidDeeds, .ref E_InvalidDeeds, decide (i = 8), rfl, hv1, R.x, (fun _ r => r), R.kit 8 (by decide) rfl, by show 3 ≤ 16777216; decide, fun q2 nq2 => ?_⟩
    have t2 := sameN (o := .lst [V.bl (decide (i = 6)), V.bl (decide (i = 7)), V.bl (decide (i = 8))]) nq2
    have m2 : L2.upd H1 q2 (.lst [V.bl (decide (i = 6)), V.bl (decide (i = 7)), V.bl (decide (i = 8))]) q2 = some (.lst [V.bl (decide (i = 6)), V.bl (decide (i = 7)), V.bl (decide (i = 8))]) := upd_same
    refine ⟨p1, q2, _, _, rfl, rfl, t2 _ _ l1, m2, by show 9 ≤ 16777216; decide, fun p2 np2 => ?_⟩
    have u2 := sameN (o := .lst ([V.bl (decide (i = 0)), V.bl (decide (i = 1)), V.bl (decide (i = 2)), V.bl (decide (i = 3)), V.bl (decide (i = 4)), V.bl (decide (i = 5))] ++ [V.bl (decide (i = 6)), V.bl (decide (i = 7)), V.bl (decide (i = 8))])) np2
    have l2 : L2.upd (L2.upd H1 q2 (.lst [V.bl (decide (i = 6)), V.bl (decide (i = 7)), V.bl (decide (i = 8))])) p2 (.lst ([V.bl (decide (i = 0)), V.bl (decide (i = 1)), V.bl (decide (i = 2)), V.bl (decide (i = 3)), V.bl (decide (i = 4)), V.bl (decide (i = 5))] ++ [V.bl (decide (i = 6)), V.bl (decide (i = 7)), V.bl (decide (i = 8))])) p2 = some (.lst [V.bl (decide (i = 0)), V.bl (decide (i = 1)), V.bl (decide (i = 2)), V.bl (decide (i = 3)), V.bl (decide (i = 4)), V.bl (decide (i = 5)), V.bl (decide (i = 6)), V.bl (decide (i = 7)), V.bl (decide (i = 8))]) := upd_same
    have s2 := s1.trans (t2.trans u2)
    have hv2 := hv.same s2
    have f2 : H p2 = none := same_free (s1.trans t2) np2
    generalize L2.upd (L2.upd H1 q2 (.lst [V.bl (decide (i = 6)), V.bl (decide (i = 7)), V.bl (decide (i = 8))])) p2 (.lst ([V.bl (decide (i = 0)), V.bl (decide (i = 1)), V.bl (decide (i = 2)), V.bl (decide (i = 3)), V.bl (decide (i = 4)), V.bl (decide (i = 5))] ++ [V.bl (decide (i = 6)), V.bl (decide (i = 7)), V.bl (decide (i = 8))])) = H2 at *
    refine ⟨.ref p2, rfl, .ref a, rfl, a, D, .ref E_InvalidLiquid, .ref E_InvalidLiquid, decide (i = 9), rfl, hv2, R.x, (fun _ r => r), R.kit 9 (by decide) rfl, .ref a, rfl, a, D, .ref E_InvalidIndex, .ref E_InvalidIndex, decide (i = 10), rfl, hv2, R.x, (fun _ r => r), R.kit 10 (by decide) rfl, .ref a, rfl, a, D, .ref E_InvalidNumber, .ref E_InvalidNumber, decide (i = 11), rfl, hv2, R.x, (fun _ r => r), R.kit 11 (by decide) rfl, by show 3 ≤ 16777216; decide, fun q3 nq3 => ?_⟩
    have t3 := sameN (o := .lst [V.bl (decide (i = 9)), V.bl (decide (i = 10)), V.bl (decide (i = 11))]) nq3
    have m3 : L2.upd H2 q3 (.lst [V.bl (decide (i = 9)), V.bl (decide (i = 10)), V.bl (decide (i = 11))]) q3 = some (.lst [V.bl (decide (i = 9)), V.bl (decide (i = 10)), V.bl (decide (i = 11))]) := upd_same
    refine ⟨p2, q3, _, _, rfl, rfl, t3 _ _ l2, m3, by show 12 ≤ 16777216; decide, fun p3 np3 => ?_⟩
    have u3 := sameN (o := .lst ([V.bl (decide (i = 0)), V.bl (decide (i = 1)), V.bl (decide (i = 2)), V.bl (decide (i = 3)), V.bl (decide (i = 4)), V.bl (decide (i = 5)), V.bl (decide (i = 6)), V.bl (decide (i = 7)), V.bl (decide (i = 8))] ++ [V.bl (decide (i = 9)), V.bl (decide (i = 10)), V.bl (decide (i = 11))])) np3
    have l3 : L2.upd (L2.upd H2 q3 (.lst [V.bl (decide (i = 9)), V.bl (decide (i = 10)), V.bl (decide (i = 11))])) p3 (.lst ([V.bl (decide (i = 0)), V.bl (decide (i = 1)), V.bl (decide (i = 2)), V.bl (decide (i = 3)), V.bl (decide (i = 4)), V.bl (decide (i = 5)), V.bl (decide (i = 6)), V.bl (decide (i = 7)), V.bl (decide (i = 8))] ++ [V.bl (decide (i = 9)), V.bl (decide (i = 10)), V.bl (decide (i = 11))])) p3 = some (.lst [V.bl (decide (i = 0)), V.bl (decide (i = 1)), V.bl (decide (i = 2)), V.bl (decide (i = 3)), V.bl (decide (i = 4)), V.bl (decide (i = 5)), V.bl (decide (i = 6)), V.bl (decide (i = 7)), V.bl (decide (i = 8)), V.bl (decide (i = 9)), V.bl (decide (i = 10)), V.bl (decide (i = 11))]) := upd_same
    have s3 := s2.trans (t3.trans u3)
    have hv3 := hv.same s3
    have f3 : H p3 = none := same_free (s2.trans t3) np3
    generalize L2.upd (L2.upd H2 q3 (.lst [V.bl (decide (i = 9)), V.bl (decide (i = 10)), V.bl (decide (i = 11))])) p3 (.lst ([V.bl (decide (i = 0)), V.bl (decide (i = 1)), V.bl (decide (i = 2)), V.bl (decide (i = 3)), V.bl (decide (i = 4)), V.bl (decide (i = 5)), V.bl (decide (i = 6)), V.bl (decide (i = 7)), V.bl (decide (i = 8))] ++ [V.bl (decide (i = 9)), V.bl (decide (i = 10)), V.bl (decide (i = 11))])) = H3 at *
    refine ⟨.ref p3, rfl, .ref a, rfl, a, D, .ref E_TooMany, .ref E_TooMany, decide (i = 12), rfl, hv3, R.x, (fun _ r => r), R.kit 12 (by decide) rfl, .ref a, rfl, a, D, .ref E_NothingToUndo, .ref E_NothingToUndo, decide (i = 13), rfl, hv3, R.x, (fun _ r => r), R.kit 13 (by decide) rfl, .ref a, rfl, a, D, .ref C, .ref C, decide (i = 14), rfl, hv3, R.x, (fun _ r => r), R.kit 14 (by decide) rfl, by show 3 ≤ 16777216; decide, fun q4 nq4 => ?_⟩
    have t4 := sameN (o := .lst [V.bl (decide (i = 12)), V.bl (decide (i = 13)), V.bl (decide (i = 14))]) nq4
    have m4 : L2.upd H3 q4 (.lst [V.bl (decide (i = 12)), V.bl (decide (i = 13)), V.bl (decide (i = 14))]) q4 = some (.lst [V.bl (decide (i = 12)), V.bl (decide (i = 13)), V.bl (decide (i = 14))]) := upd_same
    refine ⟨p3, q4, _, _, rfl, rfl, t4 _ _ l3, m4, by show 15 ≤ 16777216; decide, fun p4 np4 => ?_⟩
    have u4 := sameN (o := .lst ([V.bl (decide (i = 0)), V.bl (decide (i = 1)), V.bl (decide (i = 2)), V.bl (decide (i = 3)), V.bl (decide (i = 4)), V.bl (decide (i = 5)), V.bl (decide (i = 6)), V.bl (decide (i = 7)), V.bl (decide (i = 8)), V.bl (decide (i = 9)), V.bl (decide (i = 10)), V.bl (decide (i = 11))] ++ [V.bl (decide (i = 12)), V.bl (decide (i = 13)), V.bl (decide (i = 14))])) np4
    have l4 : L2.upd (L2.upd H3 q4 (.lst [V.bl (decide (i = 12)), V.bl (decide (i = 13)), V.bl (decide (i = 14))])) p4 (.lst ([V.bl (decide (i = 0)), V.bl (decide (i = 1)), V.bl (decide (i = 2)), V.bl (decide (i = 3)), V.bl (decide (i = 4)), V.bl (decide (i = 5)), V.bl (decide (i = 6)), V.bl (decide (i = 7)), V.bl (decide (i = 8)), V.bl (decide (i = 9)), V.bl (decide (i = 10)), V.bl (decide (i = 11))] ++ [V.bl (decide (i = 12)), V.bl (decide (i = 13)), V.bl (decide (i = 14))])) p4 = some (.lst [V.bl (decide (i = 0)), V.bl (decide (i = 1)), V.bl (decide (i = 2)), V.bl (decide (i = 3)), V.bl (decide (i = 4)), V.bl (decide (i = 5)), V.bl (decide (i = 6)), V.bl (decide (i = 7)), V.bl (decide (i = 8)), V.bl (decide (i = 9)), V.bl (decide (i = 10)), V.bl (decide (i = 11)), V.bl (decide (i = 12)), V.bl (decide (i = 13)), V.bl (decide (i = 14))]) := upd_same
    have s4 := s3.trans (t4.trans u4)
    have hv4 := hv.same s4
    have f4 : H p4 = none := same_free (s3.trans t4) np4
    exact q _ _ s4 f4 l4


end
end K59
end

section
set_option Elab.async false
set_option linter.all false
set_option maxRecDepth 100000
set_option maxHeartbeats 4000000
namespace K59
open PySem PySem.Spec PyProof.Rows L2 GxR Gx Ma
section
variable {P : Program} {w : World} {K : PySem.W.Frag} {mg : Str → Option Value} {base : Heap}

theorem dp_bls {K : PySem.W.Frag} {H : Hp} : ∀ us : List Bool, DpAll K H (us.map V.bl) (us.map PyData.bool)
  | [] => .nil
  | u :: r => .cons (.bl u) (dp_bls r)
theorem canLay_bls : ∀ us : List Bool, PyData.canLayAll0 (us.map PyData.bool) = true
  | [] => rfl
  | u :: r => by rw [List.map_cons, PyData.canLayAll0, canLay_bls r]; rfl
theorem depth_bls : ∀ us : List Bool, PyData.depthAll (us.map PyData.bool) ≤ 1
  | [] => by decide
  | u :: r => by
    have := depth_bls r
    simp only [List.map_cons, PyData.depthAll, PyData.depth]
    omega
theorem shaped_bls (us : List Bool) : SeqAt.shaped (.list (us.map PyData.bool)) = true := by
  have h1 := depth_bls us
  unfold SeqAt.shaped
  rw [Bool.and_eq_true]
  refine ⟨canLay_bls us, decide_eq_true ?_⟩
  rw [PyData.depth]
  omega
theorem eqv_bls (us : List Bool) : PyData.eqv (.list (us.map PyData.bool)) (.list (us.map PyData.bool)) = true := SeqAt.eqv_refl _ (canLay_bls us)

/-- the rows of the table of classes, by their places -/
def bls (i : Nat) : List Bool := (List.range 15).map fun j => decide (i = j)
theorem bls_map (i : Nat) : ((List.range 15).map fun j => V.bl (decide (i = j))) = (bls i).map V.bl := by unfold bls; rw [List.map_map]; rfl
theorem dp_bl {H : Hp} {p : Addr} {us : List Bool} (h : H p = some (.lst (us.map V.bl))) : Dp K H (.ref p) (.list (us.map PyData.bool)) := .lst (SqL.of h) (dp_bls us)
def sp_law (K : PySem.W.Frag) : Sp := fun vs H Q _ => ∃ (s : Addr) (ns : List Int), vs = [V.ref s] ∧ SqL K H s (ns.map V.int) ∧ ns.length ≤ 63 ∧ ∀ H', Q (.bl true) H'
theorem sgn_at {d : Int} (h0 : 0 ≤ d) (h6 : d < 6) : ∃ c, atI ("abc \n-" : Str).cps.toList d = some c := by
  have h : d = 0 ∨ d = 1 ∨ d = 2 ∨ d = 3 ∨ d = 4 ∨ d = 5 := by omega
  rcases h with rfl | rfl | rfl | rfl | rfl | rfl
  · exact ⟨97, by decide +kernel⟩
  · exact ⟨98, by decide +kernel⟩
  · exact ⟨99, by decide +kernel⟩
  · exact ⟨32, by decide +kernel⟩
  · exact ⟨10, by decide +kernel⟩
  · exact ⟨45, by decide +kernel⟩
theorem lens1 : ∀ zs : List Str, (∀ z ∈ zs, z.length = 1) → (zs.map (·.length)).sum = zs.length
  | [], _ => rfl
  | z :: r, h => by
    rw [List.map_cons, List.sum_cons, lens1 r fun y hy => h y (List.mem_cons_of_mem _ hy), h z List.mem_cons_self, List.length_cons]
    omega
theorem bl_at {us : List Bool} {i : Nat} {v : V} (h : (us.map V.bl)[i]? = some v) : ∃ b, v = .bl b := by
  rw [List.getElem?_map] at h
  cases e : us[i]? with
  | none => rw [e] at h; cases h
  | some b => rw [e] at h; exact ⟨b, (Option.some.inj h).symm⟩

theorem Bg.cells {H : Hp} {b c : Addr} {n : Nat} (h : Bg H b c n) : ∃ xs : List Int, H c = some (.lst (xs.map V.int)) := by
  obtain ⟨ys, _, _, _, _, _, lc, _⟩ := h
  exact ⟨ys, lc⟩

theorem ok_law {f : Addr} {fd : FuncData}  (F : Fun K "law" "law" s_law f fd) (B : Bl mg) {E_InvalidContent E_InvalidPots E_InvalidNumbers E_InvalidKept E_InvalidRow E_InvalidStrengths E_InvalidFraction E_InvalidCup E_InvalidDeeds E_InvalidLiquid E_InvalidIndex E_InvalidNumber E_TooMany E_NothingToUndo C E_PotError fI : Addr} (ER_InvalidContent : Er K mg "InvalidContent" E_InvalidContent) (ER_InvalidPots : Er K mg "InvalidPots" E_InvalidPots) (ER_InvalidNumbers : Er K mg "InvalidNumbers" E_InvalidNumbers) (ER_InvalidKept : Er K mg "InvalidKept" E_InvalidKept) (ER_InvalidRow : Er K mg "InvalidRow" E_InvalidRow) (ER_InvalidStrengths : Er K mg "InvalidStrengths" E_InvalidStrengths) (ER_InvalidFraction : Er K mg "InvalidFraction" E_InvalidFraction) (ER_InvalidCup : Er K mg "InvalidCup" E_InvalidCup) (ER_InvalidDeeds : Er K mg "InvalidDeeds" E_InvalidDeeds) (ER_InvalidLiquid : Er K mg "InvalidLiquid" E_InvalidLiquid) (ER_InvalidIndex : Er K mg "InvalidIndex" E_InvalidIndex) (ER_InvalidNumber : Er K mg "InvalidNumber" E_InvalidNumber) (ER_TooMany : Er K mg "TooMany" E_TooMany) (ER_NothingToUndo : Er K mg "NothingToUndo" E_NothingToUndo) (ER_PotError : Er K mg "PotError" E_PotError) (LW : PySem.LowX.LowTxt K mg C fI) (RW_0 : Rw K [E_InvalidContent, E_InvalidPots, E_InvalidNumbers, E_InvalidKept, E_InvalidRow, E_InvalidStrengths, E_InvalidFraction, E_InvalidCup, E_InvalidDeeds, E_InvalidLiquid, E_InvalidIndex, E_InvalidNumber, E_TooMany, E_NothingToUndo, C, E_PotError] 0 E_InvalidContent) (RW_1 : Rw K [E_InvalidContent, E_InvalidPots, E_InvalidNumbers, E_InvalidKept, E_InvalidRow, E_InvalidStrengths, E_InvalidFraction, E_InvalidCup, E_InvalidDeeds, E_InvalidLiquid, E_InvalidIndex, E_InvalidNumber, E_TooMany, E_NothingToUndo, C, E_PotError] 1 E_InvalidPots) (RW_2 : Rw K [E_InvalidContent, E_InvalidPots, E_InvalidNumbers, E_InvalidKept, E_InvalidRow, E_InvalidStrengths, E_InvalidFraction, E_InvalidCup, E_InvalidDeeds, E_InvalidLiquid, E_InvalidIndex, E_InvalidNumber, E_TooMany, E_NothingToUndo, C, E_PotError] 2 E_InvalidNumbers) (RW_3 : Rw K [E_InvalidContent, E_InvalidPots, E_InvalidNumbers, E_InvalidKept, E_InvalidRow, E_InvalidStrengths, E_InvalidFraction, E_InvalidCup, E_InvalidDeeds, E_InvalidLiquid, E_InvalidIndex, E_InvalidNumber, E_TooMany, E_NothingToUndo, C, E_PotError] 3 E_InvalidKept) (RW_4 : Rw K [E_InvalidContent, E_InvalidPots, E_InvalidNumbers, E_InvalidKept, E_InvalidRow, E_InvalidStrengths, E_InvalidFraction, E_InvalidCup, E_InvalidDeeds, E_InvalidLiquid, E_InvalidIndex, E_InvalidNumber, E_TooMany, E_NothingToUndo, C, E_PotError] 4 E_InvalidRow) (RW_5 : Rw K [E_InvalidContent, E_InvalidPots, E_InvalidNumbers, E_InvalidKept, E_InvalidRow, E_InvalidStrengths, E_InvalidFraction, E_InvalidCup, E_InvalidDeeds, E_InvalidLiquid, E_InvalidIndex, E_InvalidNumber, E_TooMany, E_NothingToUndo, C, E_PotError] 5 E_InvalidStrengths) (RW_6 : Rw K [E_InvalidContent, E_InvalidPots, E_InvalidNumbers, E_InvalidKept, E_InvalidRow, E_InvalidStrengths, E_InvalidFraction, E_InvalidCup, E_InvalidDeeds, E_InvalidLiquid, E_InvalidIndex, E_InvalidNumber, E_TooMany, E_NothingToUndo, C, E_PotError] 6 E_InvalidFraction) (RW_7 : Rw K [E_InvalidContent, E_InvalidPots, E_InvalidNumbers, E_InvalidKept, E_InvalidRow, E_InvalidStrengths, E_InvalidFraction, E_InvalidCup, E_InvalidDeeds, E_InvalidLiquid, E_InvalidIndex, E_InvalidNumber, E_TooMany, E_NothingToUndo, C, E_PotError] 7 E_InvalidCup) (RW_8 : Rw K [E_InvalidContent, E_InvalidPots, E_InvalidNumbers, E_InvalidKept, E_InvalidRow, E_InvalidStrengths, E_InvalidFraction, E_InvalidCup, E_InvalidDeeds, E_InvalidLiquid, E_InvalidIndex, E_InvalidNumber, E_TooMany, E_NothingToUndo, C, E_PotError] 8 E_InvalidDeeds) (RW_9 : Rw K [E_InvalidContent, E_InvalidPots, E_InvalidNumbers, E_InvalidKept, E_InvalidRow, E_InvalidStrengths, E_InvalidFraction, E_InvalidCup, E_InvalidDeeds, E_InvalidLiquid, E_InvalidIndex, E_InvalidNumber, E_TooMany, E_NothingToUndo, C, E_PotError] 9 E_InvalidLiquid) (RW_10 : Rw K [E_InvalidContent, E_InvalidPots, E_InvalidNumbers, E_InvalidKept, E_InvalidRow, E_InvalidStrengths, E_InvalidFraction, E_InvalidCup, E_InvalidDeeds, E_InvalidLiquid, E_InvalidIndex, E_InvalidNumber, E_TooMany, E_NothingToUndo, C, E_PotError] 10 E_InvalidIndex) (RW_11 : Rw K [E_InvalidContent, E_InvalidPots, E_InvalidNumbers, E_InvalidKept, E_InvalidRow, E_InvalidStrengths, E_InvalidFraction, E_InvalidCup, E_InvalidDeeds, E_InvalidLiquid, E_InvalidIndex, E_InvalidNumber, E_TooMany, E_NothingToUndo, C, E_PotError] 11 E_InvalidNumber) (RW_12 : Rw K [E_InvalidContent, E_InvalidPots, E_InvalidNumbers, E_InvalidKept, E_InvalidRow, E_InvalidStrengths, E_InvalidFraction, E_InvalidCup, E_InvalidDeeds, E_InvalidLiquid, E_InvalidIndex, E_InvalidNumber, E_TooMany, E_NothingToUndo, C, E_PotError] 12 E_TooMany) (RW_13 : Rw K [E_InvalidContent, E_InvalidPots, E_InvalidNumbers, E_InvalidKept, E_InvalidRow, E_InvalidStrengths, E_InvalidFraction, E_InvalidCup, E_InvalidDeeds, E_InvalidLiquid, E_InvalidIndex, E_InvalidNumber, E_TooMany, E_NothingToUndo, C, E_PotError] 13 E_NothingToUndo) (RW_14 : Rw K [E_InvalidContent, E_InvalidPots, E_InvalidNumbers, E_InvalidKept, E_InvalidRow, E_InvalidStrengths, E_InvalidFraction, E_InvalidCup, E_InvalidDeeds, E_InvalidLiquid, E_InvalidIndex, E_InvalidNumber, E_TooMany, E_NothingToUndo, C, E_PotError] 14 C) (RW_15 : Rw K [E_InvalidContent, E_InvalidPots, E_InvalidNumbers, E_InvalidKept, E_InvalidRow, E_InvalidStrengths, E_InvalidFraction, E_InvalidCup, E_InvalidDeeds, E_InvalidLiquid, E_InvalidIndex, E_InvalidNumber, E_TooMany, E_NothingToUndo, C, E_PotError] 15 E_PotError) (C__law_bag : Cal P w K mg base 1 "_law_bag" ["script"] (sp_bag K)) (C__law_draw : Cal P w K mg base 2 "_law_draw" ["bag", "wide"] sp_draw) (C__law_of : Cal P w K mg base 1 "_law_of" ["made"] (sp_of K [E_InvalidContent, E_InvalidPots, E_InvalidNumbers, E_InvalidKept, E_InvalidRow, E_InvalidStrengths, E_InvalidFraction, E_InvalidCup, E_InvalidDeeds, E_InvalidLiquid, E_InvalidIndex, E_InvalidNumber, E_TooMany, E_NothingToUndo, C, E_PotError])) (C__law_alike : Cal P w K mg base 3 "_law_alike" ["found", "due"] (sp_alikeT 1)) : FnG P w K mg base 4 f fd ["script"] (sp_law K) := by
  refine fnG_of F sc_law (fun vs H Q E h => ?_) (fun cdv A outer s H vs Q E hr hgd h => ?_)
  · obtain ⟨s, ns, rfl, _⟩ := h; rfl
  · obtain ⟨s, ns, rfl, hs, hlen, q⟩ := h
    have nd := sc_law.nd
    refine ⟨_, (pss_cons (ps_set (i := 1) nd rfl (Or.inr rfl) (pe_cal C__law_bag (hr.mono (by decide)) (pa_cons (pv 0) pa_nil)))
      (pss_cons (ps_set (i := 3) nd rfl (Or.inl rfl) (pe_bm PySem.F.plainAttrs_str PySem.F.slot_str_join PySem.F.type_str_join mt_join pe_str (pa_cons (pe_lc (own := [("k", 2)]) (g := gName 2) rfl nd (pi_range1 rfl B.range (pa_cons (pe_cal C__law_draw (hr.mono (by decide)) (pa_cons (pv 1) (pa_cons pe_int pa_nil))) pa_nil)) (blkOk_by (own := [("k", 2)]) (N := ["script", "bag", "k", "word", "spot", "rows", "i"]) (sc := defScope s_law) (by decide +kernel)) (fun _ _ _ _ _ => (pg_name (i := 2) nd rfl (Or.inl rfl))) (fun _ _ _ _ _ => pts_nil) (fun _ _ _ _ _ => (pe_ix ix_str pe_str (pe_cal C__law_draw (hr.mono (by decide)) (pa_cons (pv 1) (pa_cons pe_int pa_nil))) (fun _ _ => rfl)))) pa_nil)))
      (pss_cons (ps_set (i := 4) nd rfl (Or.inl rfl) (pe_ix ix_list (pe_lst (pa_cons (pe_cal C__law_draw (hr.mono (by decide)) (pa_cons (pv 1) (pa_cons pe_int pa_nil))) (pa_cons (pe_op op_powW pe_int pe_int) (pa_cons pe_int pa_nil)))) (pe_cal C__law_draw (hr.mono (by decide)) (pa_cons (pv 1) (pa_cons pe_int pa_nil))) (fun _ _ => rfl)))
      (pss_cons (ps_set (i := 5) nd rfl (Or.inl rfl) (pe_lst (pa_cons (pe_erV ER_InvalidContent (pv 3)) (pa_cons (pe_erV ER_InvalidPots (pv 3)) (pa_cons (pe_erV ER_InvalidNumbers (pv 3)) (pa_cons (pe_erV ER_InvalidKept (pv 3)) (pa_cons (pe_erV ER_InvalidRow (pv 3)) pa_nil)))))))
      (pss_cons (ps_set (i := 5) nd rfl (Or.inl rfl) (pe_op op_cat (pv 5) (pe_lst (pa_cons (pe_erV ER_InvalidStrengths (pv 3)) (pa_cons (pe_erV ER_InvalidFraction (pv 3)) (pa_cons (pe_erV ER_InvalidCup (pv 3)) (pa_cons (pe_erV ER_InvalidDeeds (pv 3)) pa_nil)))))))
      (pss_cons (ps_set (i := 5) nd rfl (Or.inl rfl) (pe_op op_cat (pv 5) (pe_lst (pa_cons (pe_erV ER_InvalidLiquid (pv 3)) pa_nil))))
      (pss_cons (ps_set (i := 5) nd rfl (Or.inl rfl) (pe_op op_cat (pv 5) (pe_lst (pa_cons (pe_erV ER_InvalidIndex (pv 3)) (pa_cons (pe_erV ER_InvalidNumber (pv 3)) (pa_cons (pe_erV ER_TooMany (pv 3)) (pa_cons (pe_erV ER_NothingToUndo (pv 3)) (pa_cons (pe_lowV LW hr (pa_cons (pv 4) pa_nil)) pa_nil))))))))
      (pss_cons (ps_for PassesOwn.never rfl (pi_range1 rfl B.range (pa_cons (pe_callB call_len_seq (by rfl) B.len PySem.boot_len (pa_cons (pv 5) pa_nil)) pa_nil)) (pg_name (i := 2) nd rfl (Or.inr rfl)) (pss_cons (ps_if (PW.pt (pw_or (pt_not (pt_val (pe_callB call_isV (by rfl) B.isinstance (by decide +kernel) (pa_cons (pe_ix ix_list (pv 5) (pv 2) (fun _ _ => rfl)) (pa_cons (pe_gcl ER_PotError.at_) pa_nil))))) (pw_or1 (pt_not (pt_val (pe_callB call_isV (by rfl) B.isinstance (by decide +kernel) (pa_cons (pe_ix ix_list (pv 5) (pv 2) (fun _ _ => rfl)) (pa_cons (pe_bltn (v := .ty "ValueError") (by rfl) B.ValueError (by decide +kernel) rfl) pa_nil))))))))
      (pss_one (ps_ret pe_bl)) pss_nil)
      (pss_one (ps_if (pt_cmpR (op_neD hr.units) (pe_cal C__law_of (hr.mono (by decide)) (pa_cons (pe_ix ix_list (pv 5) (pv 2) (fun _ _ => rfl)) pa_nil)) (pe_lc (own := [("i", 6)]) (g := gName 6) rfl nd (pi_range1 rfl B.range (pa_cons (pe_callB call_len_seq (by rfl) B.len PySem.boot_len (pa_cons (pv 5) pa_nil)) pa_nil)) (blkOk_by (own := [("i", 6)]) (N := ["script", "bag", "k", "word", "spot", "rows", "i"]) (sc := defScope s_law) (by decide +kernel)) (fun _ _ _ _ _ => (pg_name (i := 6) nd rfl (Or.inl rfl))) (fun _ _ _ _ _ => pts_nil) (fun _ _ _ _ _ => (pe_cmpR op_eq (pv 6) (pv 2) (nomark _)))) (nomark _))
      (pss_one (ps_ret pe_bl)) pss_nil))))
      (pss_cons (ps_if (pt_cmpR (op_neD hr.units) (pe_cal C__law_of (hr.mono (by decide)) (pa_cons (pe_erV ER_PotError (pv 3)) pa_nil)) (pe_op op_rep (pe_lst (pa_cons pe_bl pa_nil)) (pe_callB call_len_seq (by rfl) B.len PySem.boot_len (pa_cons (pv 5) pa_nil))) (nomark _))
      (pss_one (ps_ret pe_bl)) pss_nil)
      (pss_one (ps_ret (pe_cal C__law_alike (hr.mono (by decide)) (pa_cons (pe_lst (pa_cons (pe_plcV LW (pe_ix ix_list (pv 5) pe_int (fun _ _ => rfl))) (pa_cons (pe_plcV LW (pe_lowK LW hr (pk_cons (pv 4) pk_nil))) pa_nil))) (pa_cons (pe_lst (pa_cons (pv 4) (pa_cons (pv 4) pa_nil))) pa_nil)))))))))))))), ?_⟩
    refine ⟨.ref s, rfl, s, ns, rfl, hs, hlen, fun j c H1 s1 nb hb => ?_⟩
    refine ⟨rfl, .ref j, rfl, j, c, 9, _, rfl, hb, by decide, by decide, by decide +kernel, fun zI G u f b z0 z1 => ⟨zI, rfl, by omega, by omega, fun R nR => ?_⟩⟩
    obtain ⟨z, rfl⟩ := Int.eq_ofNat_of_zero_le z0
    rw [Int.toNat_natCast]
    refine lc_range (lo := 0) (n := z) (fun k H' => ∃ zs : List Str, zs.length = k ∧ (∀ x ∈ zs, x.length = 1) ∧ H' R = some (.lst (zs.map V.str)) ∧ Bg H' j c (30 + 30 * k)) ⟨[], rfl, (fun x hx => by cases hx), upd_same, (b.keep (sameN nR)).le (by omega)⟩ (fun k H' hk ⟨zs, c1, c2, c3, c6⟩ => ?_) (fun G8 ⟨zs, c1, c2, c3, c6⟩ => ?_)
    · refine ⟨rfl, .ref j, rfl, j, c, 6, _, rfl, c6, by omega, by decide, by decide +kernel, fun d H2 u f bb d0 d1 => ?_⟩
      have Rj : R ≠ j := b.ne nR
      have hR2 := u _ _ Rj c3
      obtain ⟨ch, hch⟩ := sgn_at d0 d1
      refine ⟨_, d, ch, rfl, rfl, by decide +kernel, hch, _, hR2, by rw [List.length_map]; show _ < 16777216; omega, zs ++ [⟨#[ch]⟩], by rw [List.length_append, List.length_singleton]; omega, fun x hx => ?_, by rw [upd_same, List.map_append]; rfl, ?_⟩
      · rcases List.mem_append.mp hx with h | h
        · exact c2 x h
        · rw [List.mem_singleton.mp h]; rfl
      · obtain ⟨ys, i, e, st, k', a1, a2, a3, a4, a5, a6, a7, a8, a9, a10, a11⟩ := bb
        refine ⟨ys, i, e, st, k', ?_, ?_, a3, a4, a5, a6, a7, a8, a9, a10, by omega⟩
        · rw [upd_ne (Ne.symm Rj)]; exact a1
        · show L2.upd H2 R _ c = _
          rw [upd_ne (fun e => ?_)]
          · exact a2
          · obtain ⟨ys', lc⟩ := b.cells
            rw [e, nR] at lc
            cases lc
    refine ⟨_, R, zs, rfl, rfl, .inl (SqL.of c3), by rw [lens1 zs c2]; show zs.length + zs.length * 0 ≤ 16777216; omega, ?_⟩
    generalize Txt.join _ zs = W
    refine ⟨.ref j, rfl, j, c, 30, _, rfl, c6, by omega, by decide, by decide +kernel, fun d1 G9 u9 f9 b9 d10 d11 => ?_⟩
    refine ⟨_, _, rfl, rfl, ⟨by decide, 4, by decide, by decide, by decide⟩, ?_⟩
    refine ⟨by show 3 ≤ 16777216; decide, fun o1 no1 => ?_⟩
    have ho1 : L2.upd G9 o1 (.lst [.int d1, .int (10 ^ (29 : Int).toNat), .int 0]) o1 = some (.lst [.int d1, .int (10 ^ (29 : Int).toNat), .int 0]) := upd_same
    have b10 := b9.keep (sameN (o := .lst [.int d1, .int (10 ^ (29 : Int).toNat), .int 0]) no1)
    have bo1 := b9.ne no1
    generalize L2.upd G9 o1 (.lst [.int d1, .int (10 ^ (29 : Int).toNat), .int 0]) = G10 at *
    refine ⟨.ref j, rfl, j, c, 3, _, rfl, b10, by omega, by decide, by decide +kernel, fun i1 G11 u11 f11 b11 i10 i11 => ?_⟩
    obtain ⟨spot, hsp⟩ : ∃ spot : Int, atI [V.int d1, V.int (10 ^ (29 : Int).toNat), V.int 0] i1 = some (.int spot) := by
      have h3 : i1 = 0 ∨ i1 = 1 ∨ i1 = 2 := by omega
      rcases h3 with rfl | rfl | rfl
      · exact ⟨_, rfl⟩
      · exact ⟨_, rfl⟩
      · exact ⟨_, rfl⟩
    refine ⟨o1, _, i1, _, rfl, rfl, SqL.of (u11 _ _ bo1 ho1), hsp, ?_⟩
    clear ho1 hsp u11 u9 f9 f11 c3 hs s1 u f
    have H0ok : G11 = G11 := rfl
    refine ⟨.str W, rfl, fun a0 na0 => ?_⟩
    have z_Z0 := sameN (o := ExV E_InvalidContent none a0) na0
    have x0 : (L2.upd G11 a0 (ExV E_InvalidContent none a0)) a0 = some (ExV E_InvalidContent none a0) := upd_same
    generalize L2.upd G11 a0 (ExV E_InvalidContent none a0) = Z0 at *
    refine ⟨.str W, rfl, fun a1 na1 => ?_⟩
    have z_Z1 := sameN (o := ExV E_InvalidPots none a1) na1
    have x1 : (L2.upd Z0 a1 (ExV E_InvalidPots none a1)) a1 = some (ExV E_InvalidPots none a1) := upd_same
    generalize L2.upd Z0 a1 (ExV E_InvalidPots none a1) = Z1 at *
    refine ⟨.str W, rfl, fun a2 na2 => ?_⟩
    have z_Z2 := sameN (o := ExV E_InvalidNumbers none a2) na2
    have x2 : (L2.upd Z1 a2 (ExV E_InvalidNumbers none a2)) a2 = some (ExV E_InvalidNumbers none a2) := upd_same
    generalize L2.upd Z1 a2 (ExV E_InvalidNumbers none a2) = Z2 at *
    refine ⟨.str W, rfl, fun a3 na3 => ?_⟩
    have z_Z3 := sameN (o := ExV E_InvalidKept none a3) na3
    have x3 : (L2.upd Z2 a3 (ExV E_InvalidKept none a3)) a3 = some (ExV E_InvalidKept none a3) := upd_same
    generalize L2.upd Z2 a3 (ExV E_InvalidKept none a3) = Z3 at *
    refine ⟨.str W, rfl, fun a4 na4 => ?_⟩
    have z_Z4 := sameN (o := ExV E_InvalidRow none a4) na4
    have x4 : (L2.upd Z3 a4 (ExV E_InvalidRow none a4)) a4 = some (ExV E_InvalidRow none a4) := upd_same
    generalize L2.upd Z3 a4 (ExV E_InvalidRow none a4) = Z4 at *
    refine ⟨by show 5 ≤ 16777216; decide, fun r0 nr0 => ?_⟩
    have z_Z5 := sameN (o := .lst [V.ref a0, V.ref a1, V.ref a2, V.ref a3, V.ref a4]) nr0
    have lr0 : L2.upd Z4 r0 (.lst [V.ref a0, V.ref a1, V.ref a2, V.ref a3, V.ref a4]) r0 = some (.lst [V.ref a0, V.ref a1, V.ref a2, V.ref a3, V.ref a4]) := upd_same
    generalize L2.upd Z4 r0 (.lst [V.ref a0, V.ref a1, V.ref a2, V.ref a3, V.ref a4]) = Z5 at *
    refine ⟨.ref r0, rfl, .str W, rfl, fun a5 na5 => ?_⟩
    have z_Z6 := sameN (o := ExV E_InvalidStrengths none a5) na5
    have x5 : (L2.upd Z5 a5 (ExV E_InvalidStrengths none a5)) a5 = some (ExV E_InvalidStrengths none a5) := upd_same
    generalize L2.upd Z5 a5 (ExV E_InvalidStrengths none a5) = Z6 at *
    refine ⟨.str W, rfl, fun a6 na6 => ?_⟩
    have z_Z7 := sameN (o := ExV E_InvalidFraction none a6) na6
    have x6 : (L2.upd Z6 a6 (ExV E_InvalidFraction none a6)) a6 = some (ExV E_InvalidFraction none a6) := upd_same
    generalize L2.upd Z6 a6 (ExV E_InvalidFraction none a6) = Z7 at *
    refine ⟨.str W, rfl, fun a7 na7 => ?_⟩
    have z_Z8 := sameN (o := ExV E_InvalidCup none a7) na7
    have x7 : (L2.upd Z7 a7 (ExV E_InvalidCup none a7)) a7 = some (ExV E_InvalidCup none a7) := upd_same
    generalize L2.upd Z7 a7 (ExV E_InvalidCup none a7) = Z8 at *
    refine ⟨.str W, rfl, fun a8 na8 => ?_⟩
    have z_Z9 := sameN (o := ExV E_InvalidDeeds none a8) na8
    have x8 : (L2.upd Z8 a8 (ExV E_InvalidDeeds none a8)) a8 = some (ExV E_InvalidDeeds none a8) := upd_same
    generalize L2.upd Z8 a8 (ExV E_InvalidDeeds none a8) = Z9 at *
    refine ⟨by show 4 ≤ 16777216; decide, fun q1 nq1 => ?_⟩
    have z_Z10 := sameN (o := .lst [V.ref a5, V.ref a6, V.ref a7, V.ref a8]) nq1
    have lq1 : L2.upd Z9 q1 (.lst [V.ref a5, V.ref a6, V.ref a7, V.ref a8]) q1 = some (.lst [V.ref a5, V.ref a6, V.ref a7, V.ref a8]) := upd_same
    generalize L2.upd Z9 q1 (.lst [V.ref a5, V.ref a6, V.ref a7, V.ref a8]) = Z10 at *
    refine ⟨r0, q1, _, _, rfl, rfl, z_Z10 _ _ (z_Z9 _ _ (z_Z8 _ _ (z_Z7 _ _ (z_Z6 _ _ (lr0))))), lq1, by show 9 ≤ 16777216; decide, fun r1 nr1 => ?_⟩
    have z_Z11 := sameN (o := .lst ([V.ref a0, V.ref a1, V.ref a2, V.ref a3, V.ref a4] ++ [V.ref a5, V.ref a6, V.ref a7, V.ref a8])) nr1
    have lr1 : L2.upd Z10 r1 (.lst ([V.ref a0, V.ref a1, V.ref a2, V.ref a3, V.ref a4] ++ [V.ref a5, V.ref a6, V.ref a7, V.ref a8])) r1 = some (.lst [V.ref a0, V.ref a1, V.ref a2, V.ref a3, V.ref a4, V.ref a5, V.ref a6, V.ref a7, V.ref a8]) := upd_same
    generalize L2.upd Z10 r1 (.lst ([V.ref a0, V.ref a1, V.ref a2, V.ref a3, V.ref a4] ++ [V.ref a5, V.ref a6, V.ref a7, V.ref a8])) = Z11 at *
    refine ⟨.ref r1, rfl, .str W, rfl, fun a9 na9 => ?_⟩
    have z_Z12 := sameN (o := ExV E_InvalidLiquid none a9) na9
    have x9 : (L2.upd Z11 a9 (ExV E_InvalidLiquid none a9)) a9 = some (ExV E_InvalidLiquid none a9) := upd_same
    generalize L2.upd Z11 a9 (ExV E_InvalidLiquid none a9) = Z12 at *
    refine ⟨by show 1 ≤ 16777216; decide, fun q2 nq2 => ?_⟩
    have z_Z13 := sameN (o := .lst [V.ref a9]) nq2
    have lq2 : L2.upd Z12 q2 (.lst [V.ref a9]) q2 = some (.lst [V.ref a9]) := upd_same
    generalize L2.upd Z12 q2 (.lst [V.ref a9]) = Z13 at *
    refine ⟨r1, q2, _, _, rfl, rfl, z_Z13 _ _ (z_Z12 _ _ (lr1)), lq2, by show 10 ≤ 16777216; decide, fun r2 nr2 => ?_⟩
    have z_Z14 := sameN (o := .lst ([V.ref a0, V.ref a1, V.ref a2, V.ref a3, V.ref a4, V.ref a5, V.ref a6, V.ref a7, V.ref a8] ++ [V.ref a9])) nr2
    have lr2 : L2.upd Z13 r2 (.lst ([V.ref a0, V.ref a1, V.ref a2, V.ref a3, V.ref a4, V.ref a5, V.ref a6, V.ref a7, V.ref a8] ++ [V.ref a9])) r2 = some (.lst [V.ref a0, V.ref a1, V.ref a2, V.ref a3, V.ref a4, V.ref a5, V.ref a6, V.ref a7, V.ref a8, V.ref a9]) := upd_same
    generalize L2.upd Z13 r2 (.lst ([V.ref a0, V.ref a1, V.ref a2, V.ref a3, V.ref a4, V.ref a5, V.ref a6, V.ref a7, V.ref a8] ++ [V.ref a9])) = Z14 at *
    refine ⟨.ref r2, rfl, .str W, rfl, fun a10 na10 => ?_⟩
    have z_Z15 := sameN (o := ExV E_InvalidIndex none a10) na10
    have x10 : (L2.upd Z14 a10 (ExV E_InvalidIndex none a10)) a10 = some (ExV E_InvalidIndex none a10) := upd_same
    generalize L2.upd Z14 a10 (ExV E_InvalidIndex none a10) = Z15 at *
    refine ⟨.str W, rfl, fun a11 na11 => ?_⟩
    have z_Z16 := sameN (o := ExV E_InvalidNumber none a11) na11
    have x11 : (L2.upd Z15 a11 (ExV E_InvalidNumber none a11)) a11 = some (ExV E_InvalidNumber none a11) := upd_same
    generalize L2.upd Z15 a11 (ExV E_InvalidNumber none a11) = Z16 at *
    refine ⟨.str W, rfl, fun a12 na12 => ?_⟩
    have z_Z17 := sameN (o := ExV E_TooMany none a12) na12
    have x12 : (L2.upd Z16 a12 (ExV E_TooMany none a12)) a12 = some (ExV E_TooMany none a12) := upd_same
    generalize L2.upd Z16 a12 (ExV E_TooMany none a12) = Z17 at *
    refine ⟨.str W, rfl, fun a13 na13 => ?_⟩
    have z_Z18 := sameN (o := ExV E_NothingToUndo none a13) na13
    have x13 : (L2.upd Z17 a13 (ExV E_NothingToUndo none a13)) a13 = some (ExV E_NothingToUndo none a13) := upd_same
    generalize L2.upd Z17 a13 (ExV E_NothingToUndo none a13) = Z18 at *
    refine ⟨.int spot, rfl, .int spot, rfl, fun a14 d14 nd14 na14 ne14 => ?_⟩
    have z_Z19 : Same Z18 (L2.upd (L2.upd Z18 d14 (.xd [(("place" : Str), V.int spot)])) a14 (ExV C (some d14) a14)) := fun q o e => by rw [upd_ne (ne_of_none e na14), upd_ne (ne_of_none e nd14)]; exact e
    have x14 : (L2.upd (L2.upd Z18 d14 (.xd [(("place" : Str), V.int spot)])) a14 (ExV C (some d14) a14)) a14 = some (ExV C (some d14) a14) := upd_same
    have y14 : (L2.upd (L2.upd Z18 d14 (.xd [(("place" : Str), V.int spot)])) a14 (ExV C (some d14) a14)) d14 = some (.xd [(("place" : Str), V.int spot)]) := by rw [upd_ne (Ne.symm ne14)]; exact upd_same
    generalize L2.upd (L2.upd Z18 d14 (.xd [(("place" : Str), V.int spot)])) a14 (ExV C (some d14) a14) = Z19 at *
    refine ⟨by show 5 ≤ 16777216; decide, fun q3 nq3 => ?_⟩
    have z_Z20 := sameN (o := .lst [V.ref a10, V.ref a11, V.ref a12, V.ref a13, V.ref a14]) nq3
    have lq3 : L2.upd Z19 q3 (.lst [V.ref a10, V.ref a11, V.ref a12, V.ref a13, V.ref a14]) q3 = some (.lst [V.ref a10, V.ref a11, V.ref a12, V.ref a13, V.ref a14]) := upd_same
    generalize L2.upd Z19 q3 (.lst [V.ref a10, V.ref a11, V.ref a12, V.ref a13, V.ref a14]) = Z20 at *
    refine ⟨r2, q3, _, _, rfl, rfl, z_Z20 _ _ (z_Z19 _ _ (z_Z18 _ _ (z_Z17 _ _ (z_Z16 _ _ (z_Z15 _ _ (lr2)))))), lq3, by show 15 ≤ 16777216; decide, fun r3 nr3 => ?_⟩
    have z_Z21 := sameN (o := .lst ([V.ref a0, V.ref a1, V.ref a2, V.ref a3, V.ref a4, V.ref a5, V.ref a6, V.ref a7, V.ref a8, V.ref a9] ++ [V.ref a10, V.ref a11, V.ref a12, V.ref a13, V.ref a14])) nr3
    have lr3 : L2.upd Z20 r3 (.lst ([V.ref a0, V.ref a1, V.ref a2, V.ref a3, V.ref a4, V.ref a5, V.ref a6, V.ref a7, V.ref a8, V.ref a9] ++ [V.ref a10, V.ref a11, V.ref a12, V.ref a13, V.ref a14])) r3 = some (.lst [V.ref a0, V.ref a1, V.ref a2, V.ref a3, V.ref a4, V.ref a5, V.ref a6, V.ref a7, V.ref a8, V.ref a9, V.ref a10, V.ref a11, V.ref a12, V.ref a13, V.ref a14]) := upd_same
    generalize L2.upd Z20 r3 (.lst ([V.ref a0, V.ref a1, V.ref a2, V.ref a3, V.ref a4, V.ref a5, V.ref a6, V.ref a7, V.ref a8, V.ref a9] ++ [V.ref a10, V.ref a11, V.ref a12, V.ref a13, V.ref a14])) = Z21 at *
    have c_Z21 : Same Z21 Z21 := fun _ _ e => e
    have c_Z20 : Same Z20 Z21 := z_Z21.trans c_Z21
    have c_Z19 : Same Z19 Z21 := z_Z20.trans c_Z20
    have c_Z18 : Same Z18 Z21 := z_Z19.trans c_Z19
    have c_Z17 : Same Z17 Z21 := z_Z18.trans c_Z18
    have c_Z16 : Same Z16 Z21 := z_Z17.trans c_Z17
    have c_Z15 : Same Z15 Z21 := z_Z16.trans c_Z16
    have c_Z14 : Same Z14 Z21 := z_Z15.trans c_Z15
    have c_Z13 : Same Z13 Z21 := z_Z14.trans c_Z14
    have c_Z12 : Same Z12 Z21 := z_Z13.trans c_Z13
    have c_Z11 : Same Z11 Z21 := z_Z12.trans c_Z12
    have c_Z10 : Same Z10 Z21 := z_Z11.trans c_Z11
    have c_Z9 : Same Z9 Z21 := z_Z10.trans c_Z10
    have c_Z8 : Same Z8 Z21 := z_Z9.trans c_Z9
    have c_Z7 : Same Z7 Z21 := z_Z8.trans c_Z8
    have c_Z6 : Same Z6 Z21 := z_Z7.trans c_Z7
    have c_Z5 : Same Z5 Z21 := z_Z6.trans c_Z6
    have c_Z4 : Same Z4 Z21 := z_Z5.trans c_Z5
    have c_Z3 : Same Z3 Z21 := z_Z4.trans c_Z4
    have c_Z2 : Same Z2 Z21 := z_Z3.trans c_Z3
    have c_Z1 : Same Z1 Z21 := z_Z2.trans c_Z2
    have c_Z0 : Same Z0 Z21 := z_Z1.trans c_Z1
    have v0 : Z21 a0 = some (ExV E_InvalidContent none a0) := c_Z0 _ _ x0
    have v1 : Z21 a1 = some (ExV E_InvalidPots none a1) := c_Z1 _ _ x1
    have v2 : Z21 a2 = some (ExV E_InvalidNumbers none a2) := c_Z2 _ _ x2
    have v3 : Z21 a3 = some (ExV E_InvalidKept none a3) := c_Z3 _ _ x3
    have v4 : Z21 a4 = some (ExV E_InvalidRow none a4) := c_Z4 _ _ x4
    have v5 : Z21 a5 = some (ExV E_InvalidStrengths none a5) := c_Z6 _ _ x5
    have v6 : Z21 a6 = some (ExV E_InvalidFraction none a6) := c_Z7 _ _ x6
    have v7 : Z21 a7 = some (ExV E_InvalidCup none a7) := c_Z8 _ _ x7
    have v8 : Z21 a8 = some (ExV E_InvalidDeeds none a8) := c_Z9 _ _ x8
    have v9 : Z21 a9 = some (ExV E_InvalidLiquid none a9) := c_Z12 _ _ x9
    have v10 : Z21 a10 = some (ExV E_InvalidIndex none a10) := c_Z15 _ _ x10
    have v11 : Z21 a11 = some (ExV E_InvalidNumber none a11) := c_Z16 _ _ x11
    have v12 : Z21 a12 = some (ExV E_TooMany none a12) := c_Z17 _ _ x12
    have v13 : Z21 a13 = some (ExV E_NothingToUndo none a13) := c_Z18 _ _ x13
    have v14 : Z21 a14 = some (ExV C (some d14) a14) := c_Z19 _ _ x14
    have vy := c_Z19 _ _ y14
    clear c_Z0 z_Z0 c_Z1 z_Z1 c_Z2 z_Z2 c_Z3 z_Z3 c_Z4 z_Z4 c_Z5 z_Z5 c_Z6 z_Z6 c_Z7 z_Z7 c_Z8 z_Z8 c_Z9 z_Z9 c_Z10 z_Z10 c_Z11 z_Z11 c_Z12 z_Z12 c_Z13 z_Z13 c_Z14 z_Z14 c_Z15 z_Z15 c_Z16 z_Z16 c_Z17 z_Z17 c_Z18 z_Z18 c_Z19 z_Z19 c_Z20 z_Z20 c_Z21 z_Z21 x0 x1 x2 x3 x4 x5 x6 x7 x8 x9 x10 x11 x12 x13 x14 y14 H0ok
    have vz : ∀ i, i < 15 → ∃ a D, ([V.ref a0, V.ref a1, V.ref a2, V.ref a3, V.ref a4, V.ref a5, V.ref a6, V.ref a7, V.ref a8, V.ref a9, V.ref a10, V.ref a11, V.ref a12, V.ref a13, V.ref a14])[i]? = some (V.ref a) ∧ IsV Z21 a D ∧ Rw K [E_InvalidContent, E_InvalidPots, E_InvalidNumbers, E_InvalidKept, E_InvalidRow, E_InvalidStrengths, E_InvalidFraction, E_InvalidCup, E_InvalidDeeds, E_InvalidLiquid, E_InvalidIndex, E_InvalidNumber, E_TooMany, E_NothingToUndo, C, E_PotError] i D := fun i hi => by
      have h : i = 0 ∨ i = 1 ∨ i = 2 ∨ i = 3 ∨ i = 4 ∨ i = 5 ∨ i = 6 ∨ i = 7 ∨ i = 8 ∨ i = 9 ∨ i = 10 ∨ i = 11 ∨ i = 12 ∨ i = 13 ∨ i = 14 := by omega
      rcases h with rfl | rfl | rfl | rfl | rfl | rfl | rfl | rfl | rfl | rfl | rfl | rfl | rfl | rfl | rfl
      · exact ⟨a0, E_InvalidContent, rfl, .inl v0, RW_0⟩
      · exact ⟨a1, E_InvalidPots, rfl, .inl v1, RW_1⟩
      · exact ⟨a2, E_InvalidNumbers, rfl, .inl v2, RW_2⟩
      · exact ⟨a3, E_InvalidKept, rfl, .inl v3, RW_3⟩
      · exact ⟨a4, E_InvalidRow, rfl, .inl v4, RW_4⟩
      · exact ⟨a5, E_InvalidStrengths, rfl, .inl v5, RW_5⟩
      · exact ⟨a6, E_InvalidFraction, rfl, .inl v6, RW_6⟩
      · exact ⟨a7, E_InvalidCup, rfl, .inl v7, RW_7⟩
      · exact ⟨a8, E_InvalidDeeds, rfl, .inl v8, RW_8⟩
      · exact ⟨a9, E_InvalidLiquid, rfl, .inl v9, RW_9⟩
      · exact ⟨a10, E_InvalidIndex, rfl, .inl v10, RW_10⟩
      · exact ⟨a11, E_InvalidNumber, rfl, .inl v11, RW_11⟩
      · exact ⟨a12, E_TooMany, rfl, .inl v12, RW_12⟩
      · exact ⟨a13, E_NothingToUndo, rfl, .inl v13, RW_13⟩
      · exact ⟨a14, C, rfl, .inr ⟨d14, _, v14, vy⟩, RW_14⟩
    have lenA : ([V.ref a0, V.ref a1, V.ref a2, V.ref a3, V.ref a4, V.ref a5, V.ref a6, V.ref a7, V.ref a8, V.ref a9, V.ref a10, V.ref a11, V.ref a12, V.ref a13, V.ref a14]).length = 15 := rfl
    generalize eA : ([V.ref a0, V.ref a1, V.ref a2, V.ref a3, V.ref a4, V.ref a5, V.ref a6, V.ref a7, V.ref a8, V.ref a9, V.ref a10, V.ref a11, V.ref a12, V.ref a13, V.ref a14]) = AS at *
    refine ⟨.ref r3, rfl, r3, _, rfl, .inl (SqL.of lr3), _, rfl, by rw [lenA]; decide, by rw [lenA]; decide, ?_⟩
    rw [lenA]
    refine for_range (lo := 0) (n := 15) (fun i σ G => ∃ y2 y6, σ = [some (.ref s), some (.ref j), y2, some (.str W), some (.int spot), some (.ref r3), y6] ∧ Same Z21 G) ⟨_, _, rfl, fun _ _ e => e⟩ (fun i σ G hi ⟨y2, y6, e1, e2⟩ => ?_) (fun σ G ⟨y2, y6, e1, e2⟩ => ?_)
    · subst e1
      rw [show (0 : Int) + (i : Nat) = (i : Nat) from Int.zero_add _]
      obtain ⟨a, D, ha, hv, R0⟩ := vz i hi
      have hv := hv.same e2
      have hl := e2 _ _ lr3
      refine ⟨.ref r3, rfl, .int (i : Nat), rfl, r3, _, i, _, rfl, rfl, SqL.of hl, atI_nat ha, a, D, .ref E_PotError, .ref E_PotError, true, rfl, hv, R0.x, (fun _ r => r), R0.pot rfl, true, rfl, iteF ?_⟩
      refine ⟨.ref r3, rfl, .int (i : Nat), rfl, r3, _, i, _, rfl, rfl, SqL.of hl, atI_nat ha, a, D, .ty "ValueError", .type "ValueError", true, rfl, hv, R0.x, (fun _ r => r), kit_val R0.v, true, rfl, iteF ?_⟩
      refine ⟨.ref r3, rfl, .int (i : Nat), rfl, r3, _, i, _, rfl, rfl, SqL.of hl, atI_nat ha, a, D, i, rfl, hv, R0, fun G2 p s2 np hp => ?_⟩
      rw [bls_map] at hp
      refine ⟨.ref r3, rfl, r3, _, rfl, .inl (SqL.of (s2 _ _ hl)), _, rfl, by rw [lenA]; decide, by rw [lenA]; decide, fun L nL => ?_⟩
      rw [lenA]
      refine lc_range (lo := 0) (n := 15) (fun k H' => Same G2 H' ∧ H' L = some (.lst (((bls i).take k).map V.bl))) ⟨sameN nL, upd_same⟩ (fun k H' hk ⟨c1, c2⟩ => ?_) (fun G8 ⟨c1, c2⟩ => ?_)
      · rw [show (0 : Int) + (k : Nat) = (k : Nat) from Int.zero_add _]
        have hbk : (bls i)[k]? = some (decide (i = k)) := by
          unfold bls
          rw [List.getElem?_map, List.getElem?_range hk]; rfl
        have eqk : decide (V.int (k : Nat) = V.int (i : Nat)) = decide (i = k) := by
          by_cases h : i = k
          · subst h; rw [decide_eq_true rfl, decide_eq_true rfl]
          · rw [decide_eq_false h, decide_eq_false (fun z => h (by have := V.int.inj z; omega))]
        refine ⟨rfl, .int (k : Nat), rfl, .int (i : Nat), rfl, rfl, _, c2, by rw [List.length_map, List.length_take]; show _ < 16777216; omega, fun q o e => by rw [upd_ne (ne_of_none e nL)]; exact c1 _ _ e, ?_⟩
        rw [upd_same, List.take_add_one, hbk, eqk, List.map_append]
        rfl
      · rw [List.take_of_length_le (by show 15 ≤ 15; decide)] at c2
        refine ⟨_, _, dp_bl (c1 _ _ hp), dp_bl c2, shaped_bls _, shaped_bls _, _, rfl, ?_⟩
        rw [eqv_bls]
        exact iteF ⟨_, _, rfl, e2.trans (s2.trans c1)⟩
    · subst e1
      have hl := e2 _ _ lr3
      refine ⟨.str W, rfl, fun a na => ?_⟩
      have t1 := sameN (o := ExV E_PotError none a) na
      have ha : L2.upd G a (ExV E_PotError none a) a = some (ExV E_PotError none a) := upd_same
      generalize L2.upd G a (ExV E_PotError none a) = G1 at *
      refine ⟨a, E_PotError, 15, rfl, .inl ha, RW_15, fun G2 p s2 np hp => ?_⟩
      rw [bls_map] at hp
      refine ⟨by show 1 ≤ 16777216; decide, fun o1 no1 => ?_⟩
      have t3 := sameN (o := .lst [.bl false]) no1
      have ho1 : L2.upd G2 o1 (.lst [.bl false]) o1 = some (.lst [.bl false]) := upd_same
      generalize L2.upd G2 o1 (.lst [.bl false]) = G3 at *
      have hl3 := t3 _ _ (s2 _ _ (t1 _ _ hl))
      refine ⟨.ref r3, rfl, r3, _, rfl, .inl (SqL.of hl3), o1, _, [.bl false], rfl, rfl, ho1, by rw [lenA]; decide, by rw [lenA]; decide, by rw [lenA]; decide, fun kl nkl => ?_⟩
      rw [lenA, show (List.replicate (((15 : Nat) : Int)).toNat [V.bl false]).flatten = (bls 15).map V.bl from rfl]
      have t4 := sameN (o := .lst ((bls 15).map V.bl)) nkl
      have hkl : L2.upd G3 kl (.lst ((bls 15).map V.bl)) kl = some (.lst ((bls 15).map V.bl)) := upd_same
      refine ⟨_, _, dp_bl (t4 _ _ (t3 _ _ hp)), dp_bl hkl, shaped_bls _, shaped_bls _, _, rfl, ?_⟩
      rw [eqv_bls]
      refine iteF ?_
      have eG : Same Z21 (L2.upd G3 kl (.lst ((bls 15).map V.bl))) := (e2.trans (t1.trans (s2.trans t3))).trans t4
      change _
      generalize L2.upd G3 kl (.lst ((bls 15).map V.bl)) = G4 at *
      have hA14 : atI AS 14 = some (V.ref a14) := by rw [← eA]; rfl
      refine ⟨.ref r3, rfl, r3, _, 14, _, rfl, rfl, SqL.of (eG _ _ lr3), hA14, a14, d14, .int spot, rfl, eG _ _ v14, eG _ _ vy, ?_⟩
      refine ⟨.int spot, rfl, .int spot, rfl, fun a d nd na' ne => ⟨a, d, .int spot, rfl, upd_same, by rw [upd_ne (Ne.symm ne)]; exact upd_same, ?_⟩⟩
      generalize L2.upd (L2.upd G4 d (.xd [(("place" : Str), V.int spot)])) a (ExV C (some d) a) = G5 at *
      refine ⟨by show 2 ≤ 16777216; decide, fun l1 nl1 => ?_⟩
      have hl1 : L2.upd G5 l1 (.lst [.int spot, .int spot]) l1 = some (.lst [.int spot, .int spot]) := upd_same
      generalize L2.upd G5 l1 (.lst [.int spot, .int spot]) = G6 at *
      refine ⟨.int spot, rfl, .int spot, rfl, by show 2 ≤ 16777216; decide, fun l2 nl2 => ?_⟩
      have s7 := sameN (o := .lst [.int spot, .int spot]) nl2
      refine ⟨.ref l1, .ref l2, _, rfl, Tr.ints (ns := [spot, spot]) (s7 _ _ hl1) (by show 2 ≤ 1000; decide), Tr.ints (ns := [spot, spot]) (upd_same) (by show 2 ≤ 1000; decide), fun G7 s8 => ?_⟩
      exact q _


end
end K59
end

section
set_option Elab.async false
set_option linter.all false
set_option maxRecDepth 100000
set_option maxHeartbeats 4000000
namespace K59
open PySem PySem.Spec PyProof.Rows L2 GxR Gx Ma

theorem cls_er {K : PySem.W.Frag} {mg : Str → Option Value} {x : Str} {C : Addr} (e : Er K mg x C) : ClsF K C := ⟨e.cls, e.typ, e.self⟩
theorem cls_low {K : PySem.W.Frag} {mg : Str → Option Value} {C fI : Addr} (T : PySem.LowX.LowTxt K mg C fI) : ClsF K C := by
  have h := T.te
  unfold PySem.W.exmOne at h
  split at h
  · unfold PySem.W.kitCls at h
    dsimp only at h
    split at h
    · rename_i h1 h2
      rw [Bool.and_eq_true] at h2
      exact ⟨h2.1, T.tyC, h⟩
    · cases h
  · cases h
theorem with_row {K : PySem.W.Frag} {mg : Str → Option Value} {C0 C1 C2 C3 C4 C5 C6 C7 C8 C9 C10 C11 C12 C13 C fI C15 D : Addr} {x : Str} (i : Nat) {b0 b1 b2 b3 b4 b5 b6 b7 b8 b9 b10 b11 b12 b13 b14 b15 : Bool} (e0 : Er K mg "InvalidContent" C0) (e1 : Er K mg "InvalidPots" C1) (e2 : Er K mg "InvalidNumbers" C2) (e3 : Er K mg "InvalidKept" C3) (e4 : Er K mg "InvalidRow" C4) (e5 : Er K mg "InvalidStrengths" C5) (e6 : Er K mg "InvalidFraction" C6) (e7 : Er K mg "InvalidCup" C7) (e8 : Er K mg "InvalidDeeds" C8) (e9 : Er K mg "InvalidLiquid" C9) (e10 : Er K mg "InvalidIndex" C10) (e11 : Er K mg "InvalidNumber" C11) (e12 : Er K mg "TooMany" C12) (e13 : Er K mg "NothingToUndo" C13) (LW : PySem.LowX.LowTxt K mg C fI) (e15 : Er K mg "PotError" C15) (d : mg x = some (.ref D)) (hb : [b0, b1, b2, b3, b4, b5, b6, b7, b8, b9, b10, b11, b12, b13, b14, b15] = rowB i)
  (s0 : PySem.W.subIn K (.ref D) (.ref C0) = some b0) (s1 : PySem.W.subIn K (.ref D) (.ref C1) = some b1) (s2 : PySem.W.subIn K (.ref D) (.ref C2) = some b2) (s3 : PySem.W.subIn K (.ref D) (.ref C3) = some b3) (s4 : PySem.W.subIn K (.ref D) (.ref C4) = some b4) (s5 : PySem.W.subIn K (.ref D) (.ref C5) = some b5) (s6 : PySem.W.subIn K (.ref D) (.ref C6) = some b6) (s7 : PySem.W.subIn K (.ref D) (.ref C7) = some b7) (s8 : PySem.W.subIn K (.ref D) (.ref C8) = some b8) (s9 : PySem.W.subIn K (.ref D) (.ref C9) = some b9) (s10 : PySem.W.subIn K (.ref D) (.ref C10) = some b10) (s11 : PySem.W.subIn K (.ref D) (.ref C11) = some b11) (s12 : PySem.W.subIn K (.ref D) (.ref C12) = some b12) (s13 : PySem.W.subIn K (.ref D) (.ref C13) = some b13) (s14 : PySem.W.subIn K (.ref D) (.ref C) = some b14) (s15 : PySem.W.subIn K (.ref D) (.ref C15) = some b15)
  (v : PySem.W.subIn K (.ref D) (.type "ValueError") = some true) (h1 : PySem.W.findIn K (.ref D) "__getattribute__" = some (some (.builtin "BaseException.__getattribute__"))) (h2 : PySem.W.findIn K (.ref D) "__getattr__" = some none) (h3 : PySem.W.subIn K (.ref D) (.type "BaseException") = some true)
  (h4 : PySem.W.hasDictIn K D = true) (h5 : PySem.W.findIn K (.ref D) "__class__" = some (some (.builtin "object.__class__"))) (h6 : PySem.W.specialIn K (.builtin "object.__class__") "__get__" = some (some (.builtin "getset_descriptor.__get__"))) (h7 : PySem.W.takesIn K (.builtin "object.__class__") = some true) (h8 : PySem.W.mroIn K D (.type "object") = some true) {Z : Prop}
  (go : Rw K [C0, C1, C2, C3, C4, C5, C6, C7, C8, C9, C10, C11, C12, C13, C, C15] i D → Z) : Z := go ⟨by rw [← hb]; exact .cons s0 (.cons s1 (.cons s2 (.cons s3 (.cons s4 (.cons s5 (.cons s6 (.cons s7 (.cons s8 (.cons s9 (.cons s10 (.cons s11 (.cons s12 (.cons s13 (.cons s14 (.cons s15 (.nil)))))))))))))))), v, ⟨h1, h2, h3, h4, h5, h6, h7, h8⟩, by
  simp only [List.forall_mem_cons, List.not_mem_nil, false_imp_iff, implies_true, and_true]
  exact ⟨cls_er e0, cls_er e1, cls_er e2, cls_er e3, cls_er e4, cls_er e5, cls_er e6, cls_er e7, cls_er e8, cls_er e9, cls_er e10, cls_er e11, cls_er e12, cls_er e13, cls_low LW, cls_er e15⟩⟩
theorem k59_end {l : PySem.W.OpenLaw} {q : Program} {w : World} {K : PySem.W.Frag} {mg : Str → Option Value} {fa : Addr}  {E_InvalidContent E_InvalidPots E_InvalidNumbers E_InvalidKept E_InvalidRow E_InvalidStrengths E_InvalidFraction E_InvalidCup E_InvalidDeeds E_InvalidLiquid E_InvalidIndex E_InvalidNumber E_TooMany E_NothingToUndo E_PotError : Addr} {C fI : Addr} (LW : PySem.LowX.LowTxt K mg C fI) (hmg : mg "law" = some (.ref fa))
  (d__law_bag : DF K mg "_law_bag" s__law_bag)
  (d__law_stirred : DF K mg "_law_stirred" s__law_stirred)
  (d__law_draw : DF K mg "_law_draw" s__law_draw)
  (d__law_alike : DF K mg "_law_alike" s__law_alike)
  (d__law_of : DF K mg "_law_of" s__law_of)
  (d_law : DF K mg "law" s_law)
  (b_ValueError : mg "ValueError" = none) (b_abs : mg "abs" = none) (b_all : mg "all" = none) (b_bool : mg "bool" = none) (b_int : mg "int" = none) (b_isinstance : mg "isinstance" = none) (b_len : mg "len" = none) (b_list : mg "list" = none) (b_range : mg "range" = none) (b_str : mg "str" = none) (b_tuple : mg "tuple" = none)   (e_InvalidContent : Er K mg "InvalidContent" E_InvalidContent) (e_InvalidPots : Er K mg "InvalidPots" E_InvalidPots) (e_InvalidNumbers : Er K mg "InvalidNumbers" E_InvalidNumbers) (e_InvalidKept : Er K mg "InvalidKept" E_InvalidKept) (e_InvalidRow : Er K mg "InvalidRow" E_InvalidRow) (e_InvalidStrengths : Er K mg "InvalidStrengths" E_InvalidStrengths) (e_InvalidFraction : Er K mg "InvalidFraction" E_InvalidFraction) (e_InvalidCup : Er K mg "InvalidCup" E_InvalidCup) (e_InvalidDeeds : Er K mg "InvalidDeeds" E_InvalidDeeds) (e_InvalidLiquid : Er K mg "InvalidLiquid" E_InvalidLiquid) (e_InvalidIndex : Er K mg "InvalidIndex" E_InvalidIndex) (e_InvalidNumber : Er K mg "InvalidNumber" E_InvalidNumber) (e_TooMany : Er K mg "TooMany" E_TooMany) (e_NothingToUndo : Er K mg "NothingToUndo" E_NothingToUndo) (e_PotError : Er K mg "PotError" E_PotError) (RW_0 : Rw K [E_InvalidContent, E_InvalidPots, E_InvalidNumbers, E_InvalidKept, E_InvalidRow, E_InvalidStrengths, E_InvalidFraction, E_InvalidCup, E_InvalidDeeds, E_InvalidLiquid, E_InvalidIndex, E_InvalidNumber, E_TooMany, E_NothingToUndo, C, E_PotError] 0 E_InvalidContent) (RW_1 : Rw K [E_InvalidContent, E_InvalidPots, E_InvalidNumbers, E_InvalidKept, E_InvalidRow, E_InvalidStrengths, E_InvalidFraction, E_InvalidCup, E_InvalidDeeds, E_InvalidLiquid, E_InvalidIndex, E_InvalidNumber, E_TooMany, E_NothingToUndo, C, E_PotError] 1 E_InvalidPots) (RW_2 : Rw K [E_InvalidContent, E_InvalidPots, E_InvalidNumbers, E_InvalidKept, E_InvalidRow, E_InvalidStrengths, E_InvalidFraction, E_InvalidCup, E_InvalidDeeds, E_InvalidLiquid, E_InvalidIndex, E_InvalidNumber, E_TooMany, E_NothingToUndo, C, E_PotError] 2 E_InvalidNumbers) (RW_3 : Rw K [E_InvalidContent, E_InvalidPots, E_InvalidNumbers, E_InvalidKept, E_InvalidRow, E_InvalidStrengths, E_InvalidFraction, E_InvalidCup, E_InvalidDeeds, E_InvalidLiquid, E_InvalidIndex, E_InvalidNumber, E_TooMany, E_NothingToUndo, C, E_PotError] 3 E_InvalidKept) (RW_4 : Rw K [E_InvalidContent, E_InvalidPots, E_InvalidNumbers, E_InvalidKept, E_InvalidRow, E_InvalidStrengths, E_InvalidFraction, E_InvalidCup, E_InvalidDeeds, E_InvalidLiquid, E_InvalidIndex, E_InvalidNumber, E_TooMany, E_NothingToUndo, C, E_PotError] 4 E_InvalidRow) (RW_5 : Rw K [E_InvalidContent, E_InvalidPots, E_InvalidNumbers, E_InvalidKept, E_InvalidRow, E_InvalidStrengths, E_InvalidFraction, E_InvalidCup, E_InvalidDeeds, E_InvalidLiquid, E_InvalidIndex, E_InvalidNumber, E_TooMany, E_NothingToUndo, C, E_PotError] 5 E_InvalidStrengths) (RW_6 : Rw K [E_InvalidContent, E_InvalidPots, E_InvalidNumbers, E_InvalidKept, E_InvalidRow, E_InvalidStrengths, E_InvalidFraction, E_InvalidCup, E_InvalidDeeds, E_InvalidLiquid, E_InvalidIndex, E_InvalidNumber, E_TooMany, E_NothingToUndo, C, E_PotError] 6 E_InvalidFraction) (RW_7 : Rw K [E_InvalidContent, E_InvalidPots, E_InvalidNumbers, E_InvalidKept, E_InvalidRow, E_InvalidStrengths, E_InvalidFraction, E_InvalidCup, E_InvalidDeeds, E_InvalidLiquid, E_InvalidIndex, E_InvalidNumber, E_TooMany, E_NothingToUndo, C, E_PotError] 7 E_InvalidCup) (RW_8 : Rw K [E_InvalidContent, E_InvalidPots, E_InvalidNumbers, E_InvalidKept, E_InvalidRow, E_InvalidStrengths, E_InvalidFraction, E_InvalidCup, E_InvalidDeeds, E_InvalidLiquid, E_InvalidIndex, E_InvalidNumber, E_TooMany, E_NothingToUndo, C, E_PotError] 8 E_InvalidDeeds) (RW_9 : Rw K [E_InvalidContent, E_InvalidPots, E_InvalidNumbers, E_InvalidKept, E_InvalidRow, E_InvalidStrengths, E_InvalidFraction, E_InvalidCup, E_InvalidDeeds, E_InvalidLiquid, E_InvalidIndex, E_InvalidNumber, E_TooMany, E_NothingToUndo, C, E_PotError] 9 E_InvalidLiquid) (RW_10 : Rw K [E_InvalidContent, E_InvalidPots, E_InvalidNumbers, E_InvalidKept, E_InvalidRow, E_InvalidStrengths, E_InvalidFraction, E_InvalidCup, E_InvalidDeeds, E_InvalidLiquid, E_InvalidIndex, E_InvalidNumber, E_TooMany, E_NothingToUndo, C, E_PotError] 10 E_InvalidIndex) (RW_11 : Rw K [E_InvalidContent, E_InvalidPots, E_InvalidNumbers, E_InvalidKept, E_InvalidRow, E_InvalidStrengths, E_InvalidFraction, E_InvalidCup, E_InvalidDeeds, E_InvalidLiquid, E_InvalidIndex, E_InvalidNumber, E_TooMany, E_NothingToUndo, C, E_PotError] 11 E_InvalidNumber) (RW_12 : Rw K [E_InvalidContent, E_InvalidPots, E_InvalidNumbers, E_InvalidKept, E_InvalidRow, E_InvalidStrengths, E_InvalidFraction, E_InvalidCup, E_InvalidDeeds, E_InvalidLiquid, E_InvalidIndex, E_InvalidNumber, E_TooMany, E_NothingToUndo, C, E_PotError] 12 E_TooMany) (RW_13 : Rw K [E_InvalidContent, E_InvalidPots, E_InvalidNumbers, E_InvalidKept, E_InvalidRow, E_InvalidStrengths, E_InvalidFraction, E_InvalidCup, E_InvalidDeeds, E_InvalidLiquid, E_InvalidIndex, E_InvalidNumber, E_TooMany, E_NothingToUndo, C, E_PotError] 13 E_NothingToUndo) (RW_14 : Rw K [E_InvalidContent, E_InvalidPots, E_InvalidNumbers, E_InvalidKept, E_InvalidRow, E_InvalidStrengths, E_InvalidFraction, E_InvalidCup, E_InvalidDeeds, E_InvalidLiquid, E_InvalidIndex, E_InvalidNumber, E_TooMany, E_NothingToUndo, C, E_PotError] 14 C) (RW_15 : Rw K [E_InvalidContent, E_InvalidPots, E_InvalidNumbers, E_InvalidKept, E_InvalidRow, E_InvalidStrengths, E_InvalidFraction, E_InvalidCup, E_InvalidDeeds, E_InvalidLiquid, E_InvalidIndex, E_InvalidNumber, E_TooMany, E_NothingToUndo, C, E_PotError] 15 E_PotError) : Gx.LawE l q w K 4 63 "script" mg fa := by
  have B : Bl mg := { ValueError := b_ValueError, abs := b_abs, all := b_all, bool := b_bool, int := b_int, isinstance := b_isinstance, len := b_len, list := b_list, range := b_range, str := b_str, tuple := b_tuple }
  obtain ⟨f, fd, F0, m0⟩ := d_law.ex
  obtain rfl : f = fa := by
    rw [m0] at hmg
    cases hmg
    rfl
  refine ⟨fd, [], sp_law K, ?_, ?_, ?_, ?_⟩
  · exact fun e he => by cases he
  · intro s u
    obtain ⟨oc, od, kV, doc, pm, an, cdv, ct, osl, rfl, lk, hcd⟩ := F0.ex
    exact .of_eq rfl
  · intro H a ns hl _ hT hs
    exact ⟨a, ns, rfl, hs, hl, fun H1 => ⟨rfl, fun e he => by cases he⟩⟩
  intro base _ _ TBs
  have C__law_bag : Cal l.prog w K mg base 1 "_law_bag" ["script"] ((sp_bag K)) := cal_mk d__law_bag bd__law_bag fun f fd F => ok__law_bag F B
  have C__law_stirred : Cal l.prog w K mg base 1 "_law_stirred" ["bag", "wide"] ((sp_stirred)) := cal_mk d__law_stirred bd__law_stirred fun f fd F => ok__law_stirred F B
  have C__law_draw : Cal l.prog w K mg base 2 "_law_draw" ["bag", "wide"] ((sp_draw)) := cal_mk d__law_draw bd__law_draw fun f fd F => ok__law_draw F B C__law_stirred
  have C__law_of : Cal l.prog w K mg base 1 "_law_of" ["made"] ((sp_of K [E_InvalidContent, E_InvalidPots, E_InvalidNumbers, E_InvalidKept, E_InvalidRow, E_InvalidStrengths, E_InvalidFraction, E_InvalidCup, E_InvalidDeeds, E_InvalidLiquid, E_InvalidIndex, E_InvalidNumber, E_TooMany, E_NothingToUndo, C, E_PotError])) := cal_mk d__law_of bd__law_of fun f fd F => ok__law_of F B e_InvalidContent e_InvalidPots e_InvalidNumbers e_InvalidKept e_InvalidRow e_InvalidStrengths e_InvalidFraction e_InvalidCup e_InvalidDeeds e_InvalidLiquid e_InvalidIndex e_InvalidNumber e_TooMany e_NothingToUndo LW
  have CA : ∀ n, Cal l.prog w K mg base (n + 2) "_law_alike" ["found", "due"] (sp_alikeT n) := fun n => by
    induction n with
    | zero => exact cal_mk d__law_alike bd__law_alike fun f fd F => ok__law_alike F B (m := 0) (spI := fun _ _ _ _ => False) (fun n h => by cases h) (cal_mk d__law_alike bd__law_alike fun f fd F => ok__law_alikeF F)
    | succ n ih => exact cal_mk d__law_alike bd__law_alike fun f fd F => ok__law_alike F B (m := n + 1) (spI := sp_alikeT n) (fun k h => by cases h; rfl) ih
  have C__law_alike : Cal l.prog w K mg base 3 "_law_alike" ["found", "due"] (sp_alikeT 1) := CA 1
  exact ok_law F0 B e_InvalidContent e_InvalidPots e_InvalidNumbers e_InvalidKept e_InvalidRow e_InvalidStrengths e_InvalidFraction e_InvalidCup e_InvalidDeeds e_InvalidLiquid e_InvalidIndex e_InvalidNumber e_TooMany e_NothingToUndo e_PotError LW RW_0 RW_1 RW_2 RW_3 RW_4 RW_5 RW_6 RW_7 RW_8 RW_9 RW_10 RW_11 RW_12 RW_13 RW_14 RW_15 C__law_bag C__law_draw C__law_of C__law_alike

end K59
end

section
set_option Elab.async false
set_option linter.all false
set_option maxRecDepth 100000
open PySem PySem.W PyProof.Rows K59 Gx
set_option maxHeartbeats 0 in
theorem PySem.Challenge.cw_topups_k59_errors_made_holds : PySem.Challenge.rw_topups_k59_errors_made.Holds := by
  w_on; o_law; k_head; (case hw => w_witness2)
  k_fill
  refine Gx.walk_E (l := PySem.Challenge.rw_topups_k59_errors_made) (n := 63) (k := 4) (x := "script") rfl (by decide) rfl ⟨rfl, by decide, by decide⟩ (fun w h Y => PySem.W.kIn_of Y) ?F
  case F =>
    intro w mg fa h KX G hmg
    refine' with_df (x := "_law_bag") (st := s__law_bag) KX G ?a0 ?l0 ?c0 ?k0 ?go0
    (case a0 => k_is); (case l0 => k_is); (case c0 => k_is); (case k0 => k_is)
    intro d__law_bag
    refine' with_df (x := "_law_stirred") (st := s__law_stirred) KX G ?a1 ?l1 ?c1 ?k1 ?go1
    (case a1 => k_is); (case l1 => k_is); (case c1 => k_is); (case k1 => k_is)
    intro d__law_stirred
    refine' with_df (x := "_law_draw") (st := s__law_draw) KX G ?a2 ?l2 ?c2 ?k2 ?go2
    (case a2 => k_is); (case l2 => k_is); (case c2 => k_is); (case k2 => k_is)
    intro d__law_draw
    refine' with_df (x := "_law_alike") (st := s__law_alike) KX G ?a3 ?l3 ?c3 ?k3 ?go3
    (case a3 => k_is); (case l3 => k_is); (case c3 => k_is); (case k3 => k_is)
    intro d__law_alike
    refine' with_df (x := "_law_of") (st := s__law_of) KX G ?a4 ?l4 ?c4 ?k4 ?go4
    (case a4 => k_is); (case l4 => k_is); (case c4 => k_is); (case k4 => k_is)
    intro d__law_of
    refine' with_df (x := "law") (st := s_law) KX G ?a5 ?l5 ?c5 ?k5 ?go5
    (case a5 => k_is); (case l5 => k_is); (case c5 => k_is); (case k5 => k_is)
    intro d_law
    refine' with_bl (x := "ValueError") KX G ?z6 ?go6
    (case z6 => k_is)
    intro b_ValueError
    refine' with_bl (x := "abs") KX G ?z7 ?go7
    (case z7 => k_is)
    intro b_abs
    refine' with_bl (x := "all") KX G ?z8 ?go8
    (case z8 => k_is)
    intro b_all
    refine' with_bl (x := "bool") KX G ?z9 ?go9
    (case z9 => k_is)
    intro b_bool
    refine' with_bl (x := "int") KX G ?z10 ?go10
    (case z10 => k_is)
    intro b_int
    refine' with_bl (x := "isinstance") KX G ?z11 ?go11
    (case z11 => k_is)
    intro b_isinstance
    refine' with_bl (x := "len") KX G ?z12 ?go12
    (case z12 => k_is)
    intro b_len
    refine' with_bl (x := "list") KX G ?z13 ?go13
    (case z13 => k_is)
    intro b_list
    refine' with_bl (x := "range") KX G ?z14 ?go14
    (case z14 => k_is)
    intro b_range
    refine' with_bl (x := "str") KX G ?z15 ?go15
    (case z15 => k_is)
    intro b_str
    refine' with_bl (x := "tuple") KX G ?z16 ?go16
    (case z16 => k_is)
    intro b_tuple
    refine' Gx.with_er (x := "InvalidContent") KX G ?a17 ?l17 ?c17 ?k17 ?t17 ?r17 ?n17 ?go17
    (case a17 => k_is); (case l17 => k_exc); (case c17 => k_is); (case k17 => k_is); (case t17 => k_is); (case r17 => k_is); (case n17 => first | rfl | k_is)
    intro e_InvalidContent
    refine' Gx.with_er (x := "InvalidPots") KX G ?a18 ?l18 ?c18 ?k18 ?t18 ?r18 ?n18 ?go18
    (case a18 => k_is); (case l18 => k_exc); (case c18 => k_is); (case k18 => k_is); (case t18 => k_is); (case r18 => k_is); (case n18 => first | rfl | k_is)
    intro e_InvalidPots
    refine' Gx.with_er (x := "InvalidNumbers") KX G ?a19 ?l19 ?c19 ?k19 ?t19 ?r19 ?n19 ?go19
    (case a19 => k_is); (case l19 => k_exc); (case c19 => k_is); (case k19 => k_is); (case t19 => k_is); (case r19 => k_is); (case n19 => first | rfl | k_is)
    intro e_InvalidNumbers
    refine' Gx.with_er (x := "InvalidKept") KX G ?a20 ?l20 ?c20 ?k20 ?t20 ?r20 ?n20 ?go20
    (case a20 => k_is); (case l20 => k_exc); (case c20 => k_is); (case k20 => k_is); (case t20 => k_is); (case r20 => k_is); (case n20 => first | rfl | k_is)
    intro e_InvalidKept
    refine' Gx.with_er (x := "InvalidRow") KX G ?a21 ?l21 ?c21 ?k21 ?t21 ?r21 ?n21 ?go21
    (case a21 => k_is); (case l21 => k_exc); (case c21 => k_is); (case k21 => k_is); (case t21 => k_is); (case r21 => k_is); (case n21 => first | rfl | k_is)
    intro e_InvalidRow
    refine' Gx.with_er (x := "InvalidStrengths") KX G ?a22 ?l22 ?c22 ?k22 ?t22 ?r22 ?n22 ?go22
    (case a22 => k_is); (case l22 => k_exc); (case c22 => k_is); (case k22 => k_is); (case t22 => k_is); (case r22 => k_is); (case n22 => first | rfl | k_is)
    intro e_InvalidStrengths
    refine' Gx.with_er (x := "InvalidFraction") KX G ?a23 ?l23 ?c23 ?k23 ?t23 ?r23 ?n23 ?go23
    (case a23 => k_is); (case l23 => k_exc); (case c23 => k_is); (case k23 => k_is); (case t23 => k_is); (case r23 => k_is); (case n23 => first | rfl | k_is)
    intro e_InvalidFraction
    refine' Gx.with_er (x := "InvalidCup") KX G ?a24 ?l24 ?c24 ?k24 ?t24 ?r24 ?n24 ?go24
    (case a24 => k_is); (case l24 => k_exc); (case c24 => k_is); (case k24 => k_is); (case t24 => k_is); (case r24 => k_is); (case n24 => first | rfl | k_is)
    intro e_InvalidCup
    refine' Gx.with_er (x := "InvalidDeeds") KX G ?a25 ?l25 ?c25 ?k25 ?t25 ?r25 ?n25 ?go25
    (case a25 => k_is); (case l25 => k_exc); (case c25 => k_is); (case k25 => k_is); (case t25 => k_is); (case r25 => k_is); (case n25 => first | rfl | k_is)
    intro e_InvalidDeeds
    refine' Gx.with_er (x := "InvalidLiquid") KX G ?a26 ?l26 ?c26 ?k26 ?t26 ?r26 ?n26 ?go26
    (case a26 => k_is); (case l26 => k_exc); (case c26 => k_is); (case k26 => k_is); (case t26 => k_is); (case r26 => k_is); (case n26 => first | rfl | k_is)
    intro e_InvalidLiquid
    refine' Gx.with_er (x := "InvalidIndex") KX G ?a27 ?l27 ?c27 ?k27 ?t27 ?r27 ?n27 ?go27
    (case a27 => k_is); (case l27 => k_exc); (case c27 => k_is); (case k27 => k_is); (case t27 => k_is); (case r27 => k_is); (case n27 => first | rfl | k_is)
    intro e_InvalidIndex
    refine' Gx.with_er (x := "InvalidNumber") KX G ?a28 ?l28 ?c28 ?k28 ?t28 ?r28 ?n28 ?go28
    (case a28 => k_is); (case l28 => k_exc); (case c28 => k_is); (case k28 => k_is); (case t28 => k_is); (case r28 => k_is); (case n28 => first | rfl | k_is)
    intro e_InvalidNumber
    refine' Gx.with_er (x := "TooMany") KX G ?a29 ?l29 ?c29 ?k29 ?t29 ?r29 ?n29 ?go29
    (case a29 => k_is); (case l29 => k_exc); (case c29 => k_is); (case k29 => k_is); (case t29 => k_is); (case r29 => k_is); (case n29 => first | rfl | k_is)
    intro e_TooMany
    refine' Gx.with_er (x := "NothingToUndo") KX G ?a30 ?l30 ?c30 ?k30 ?t30 ?r30 ?n30 ?go30
    (case a30 => k_is); (case l30 => k_exc); (case c30 => k_is); (case k30 => k_is); (case t30 => k_is); (case r30 => k_is); (case n30 => first | rfl | k_is)
    intro e_NothingToUndo
    refine' Gx.with_er (x := "PotError") KX G ?a31 ?l31 ?c31 ?k31 ?t31 ?r31 ?n31 ?go31
    (case a31 => k_is); (case l31 => k_exc); (case c31 => k_is); (case k31 => k_is); (case t31 => k_is); (case r31 => k_is); (case n31 => first | rfl | k_is)
    intro e_PotError
    refine' Gx.with_low KX G ?aC ?xL ?sa ?ga ?gg ?nb ?a1 ?t1 ?l1 ?c1 ?kC ?eC ?tC ?hC ?iC ?sC ?hb ?gow
    (case aC => k_is); (case xL => k_is); (case sa => k_is); (case ga => k_is); (case gg => k_is); (case nb => k_is)
    (case a1 => k_is); (case t1 => k_is); (case l1 => k_is); (case c1 => k_is)
    (case kC => k_is); (case eC => k_is); (case tC => k_is); (case hC => k_is); (case iC => k_is); (case sC => first | rfl | k_is); (case hb => first | rfl | decide +kernel)
    intro LW
    refine' K59.with_row 0 (b0 := true) (b1 := false) (b2 := false) (b3 := false) (b4 := false) (b5 := false) (b6 := false) (b7 := false) (b8 := false) (b9 := false) (b10 := false) (b11 := false) (b12 := false) (b13 := false) (b14 := false) (b15 := true) e_InvalidContent e_InvalidPots e_InvalidNumbers e_InvalidKept e_InvalidRow e_InvalidStrengths e_InvalidFraction e_InvalidCup e_InvalidDeeds e_InvalidLiquid e_InvalidIndex e_InvalidNumber e_TooMany e_NothingToUndo LW e_PotError e_InvalidContent.at_ rfl ?s0_0 ?s1_0 ?s2_0 ?s3_0 ?s4_0 ?s5_0 ?s6_0 ?s7_0 ?s8_0 ?s9_0 ?s10_0 ?s11_0 ?s12_0 ?s13_0 ?s14_0 ?s15_0 ?v_0 ?h1_0 ?h2_0 ?h3_0 ?h4_0 ?h5_0 ?h6_0 ?h7_0 ?h8_0 ?go0_
    (case s0_0 => k_is); (case s1_0 => k_is); (case s2_0 => k_is); (case s3_0 => k_is); (case s4_0 => k_is); (case s5_0 => k_is); (case s6_0 => k_is); (case s7_0 => k_is); (case s8_0 => k_is); (case s9_0 => k_is); (case s10_0 => k_is); (case s11_0 => k_is); (case s12_0 => k_is); (case s13_0 => k_is); (case s14_0 => k_is); (case s15_0 => k_is); (case v_0 => k_is); (case h1_0 => k_is); (case h2_0 => k_is); (case h3_0 => k_is); (case h4_0 => k_is); (case h5_0 => k_is); (case h6_0 => k_is); (case h7_0 => k_is); (case h8_0 => k_is)
    intro RW_0
    refine' K59.with_row 1 (b0 := false) (b1 := true) (b2 := false) (b3 := false) (b4 := false) (b5 := false) (b6 := false) (b7 := false) (b8 := false) (b9 := false) (b10 := false) (b11 := false) (b12 := false) (b13 := false) (b14 := false) (b15 := true) e_InvalidContent e_InvalidPots e_InvalidNumbers e_InvalidKept e_InvalidRow e_InvalidStrengths e_InvalidFraction e_InvalidCup e_InvalidDeeds e_InvalidLiquid e_InvalidIndex e_InvalidNumber e_TooMany e_NothingToUndo LW e_PotError e_InvalidPots.at_ rfl ?s0_1 ?s1_1 ?s2_1 ?s3_1 ?s4_1 ?s5_1 ?s6_1 ?s7_1 ?s8_1 ?s9_1 ?s10_1 ?s11_1 ?s12_1 ?s13_1 ?s14_1 ?s15_1 ?v_1 ?h1_1 ?h2_1 ?h3_1 ?h4_1 ?h5_1 ?h6_1 ?h7_1 ?h8_1 ?go1_
    (case s0_1 => k_is); (case s1_1 => k_is); (case s2_1 => k_is); (case s3_1 => k_is); (case s4_1 => k_is); (case s5_1 => k_is); (case s6_1 => k_is); (case s7_1 => k_is); (case s8_1 => k_is); (case s9_1 => k_is); (case s10_1 => k_is); (case s11_1 => k_is); (case s12_1 => k_is); (case s13_1 => k_is); (case s14_1 => k_is); (case s15_1 => k_is); (case v_1 => k_is); (case h1_1 => k_is); (case h2_1 => k_is); (case h3_1 => k_is); (case h4_1 => k_is); (case h5_1 => k_is); (case h6_1 => k_is); (case h7_1 => k_is); (case h8_1 => k_is)
    intro RW_1
    refine' K59.with_row 2 (b0 := false) (b1 := false) (b2 := true) (b3 := false) (b4 := false) (b5 := false) (b6 := false) (b7 := false) (b8 := false) (b9 := false) (b10 := false) (b11 := false) (b12 := false) (b13 := false) (b14 := false) (b15 := true) e_InvalidContent e_InvalidPots e_InvalidNumbers e_InvalidKept e_InvalidRow e_InvalidStrengths e_InvalidFraction e_InvalidCup e_InvalidDeeds e_InvalidLiquid e_InvalidIndex e_InvalidNumber e_TooMany e_NothingToUndo LW e_PotError e_InvalidNumbers.at_ rfl ?s0_2 ?s1_2 ?s2_2 ?s3_2 ?s4_2 ?s5_2 ?s6_2 ?s7_2 ?s8_2 ?s9_2 ?s10_2 ?s11_2 ?s12_2 ?s13_2 ?s14_2 ?s15_2 ?v_2 ?h1_2 ?h2_2 ?h3_2 ?h4_2 ?h5_2 ?h6_2 ?h7_2 ?h8_2 ?go2_
    (case s0_2 => k_is); (case s1_2 => k_is); (case s2_2 => k_is); (case s3_2 => k_is); (case s4_2 => k_is); (case s5_2 => k_is); (case s6_2 => k_is); (case s7_2 => k_is); (case s8_2 => k_is); (case s9_2 => k_is); (case s10_2 => k_is); (case s11_2 => k_is); (case s12_2 => k_is); (case s13_2 => k_is); (case s14_2 => k_is); (case s15_2 => k_is); (case v_2 => k_is); (case h1_2 => k_is); (case h2_2 => k_is); (case h3_2 => k_is); (case h4_2 => k_is); (case h5_2 => k_is); (case h6_2 => k_is); (case h7_2 => k_is); (case h8_2 => k_is)
    intro RW_2
    refine' K59.with_row 3 (b0 := false) (b1 := false) (b2 := false) (b3 := true) (b4 := false) (b5 := false) (b6 := false) (b7 := false) (b8 := false) (b9 := false) (b10 := false) (b11 := false) (b12 := false) (b13 := false) (b14 := false) (b15 := true) e_InvalidContent e_InvalidPots e_InvalidNumbers e_InvalidKept e_InvalidRow e_InvalidStrengths e_InvalidFraction e_InvalidCup e_InvalidDeeds e_InvalidLiquid e_InvalidIndex e_InvalidNumber e_TooMany e_NothingToUndo LW e_PotError e_InvalidKept.at_ rfl ?s0_3 ?s1_3 ?s2_3 ?s3_3 ?s4_3 ?s5_3 ?s6_3 ?s7_3 ?s8_3 ?s9_3 ?s10_3 ?s11_3 ?s12_3 ?s13_3 ?s14_3 ?s15_3 ?v_3 ?h1_3 ?h2_3 ?h3_3 ?h4_3 ?h5_3 ?h6_3 ?h7_3 ?h8_3 ?go3_
    (case s0_3 => k_is); (case s1_3 => k_is); (case s2_3 => k_is); (case s3_3 => k_is); (case s4_3 => k_is); (case s5_3 => k_is); (case s6_3 => k_is); (case s7_3 => k_is); (case s8_3 => k_is); (case s9_3 => k_is); (case s10_3 => k_is); (case s11_3 => k_is); (case s12_3 => k_is); (case s13_3 => k_is); (case s14_3 => k_is); (case s15_3 => k_is); (case v_3 => k_is); (case h1_3 => k_is); (case h2_3 => k_is); (case h3_3 => k_is); (case h4_3 => k_is); (case h5_3 => k_is); (case h6_3 => k_is); (case h7_3 => k_is); (case h8_3 => k_is)
    intro RW_3
    refine' K59.with_row 4 (b0 := false) (b1 := false) (b2 := false) (b3 := false) (b4 := true) (b5 := false) (b6 := false) (b7 := false) (b8 := false) (b9 := false) (b10 := false) (b11 := false) (b12 := false) (b13 := false) (b14 := false) (b15 := true) e_InvalidContent e_InvalidPots e_InvalidNumbers e_InvalidKept e_InvalidRow e_InvalidStrengths e_InvalidFraction e_InvalidCup e_InvalidDeeds e_InvalidLiquid e_InvalidIndex e_InvalidNumber e_TooMany e_NothingToUndo LW e_PotError e_InvalidRow.at_ rfl ?s0_4 ?s1_4 ?s2_4 ?s3_4 ?s4_4 ?s5_4 ?s6_4 ?s7_4 ?s8_4 ?s9_4 ?s10_4 ?s11_4 ?s12_4 ?s13_4 ?s14_4 ?s15_4 ?v_4 ?h1_4 ?h2_4 ?h3_4 ?h4_4 ?h5_4 ?h6_4 ?h7_4 ?h8_4 ?go4_
    (case s0_4 => k_is); (case s1_4 => k_is); (case s2_4 => k_is); (case s3_4 => k_is); (case s4_4 => k_is); (case s5_4 => k_is); (case s6_4 => k_is); (case s7_4 => k_is); (case s8_4 => k_is); (case s9_4 => k_is); (case s10_4 => k_is); (case s11_4 => k_is); (case s12_4 => k_is); (case s13_4 => k_is); (case s14_4 => k_is); (case s15_4 => k_is); (case v_4 => k_is); (case h1_4 => k_is); (case h2_4 => k_is); (case h3_4 => k_is); (case h4_4 => k_is); (case h5_4 => k_is); (case h6_4 => k_is); (case h7_4 => k_is); (case h8_4 => k_is)
    intro RW_4
    refine' K59.with_row 5 (b0 := false) (b1 := false) (b2 := false) (b3 := false) (b4 := false) (b5 := true) (b6 := false) (b7 := false) (b8 := false) (b9 := false) (b10 := false) (b11 := false) (b12 := false) (b13 := false) (b14 := false) (b15 := true) e_InvalidContent e_InvalidPots e_InvalidNumbers e_InvalidKept e_InvalidRow e_InvalidStrengths e_InvalidFraction e_InvalidCup e_InvalidDeeds e_InvalidLiquid e_InvalidIndex e_InvalidNumber e_TooMany e_NothingToUndo LW e_PotError e_InvalidStrengths.at_ rfl ?s0_5 ?s1_5 ?s2_5 ?s3_5 ?s4_5 ?s5_5 ?s6_5 ?s7_5 ?s8_5 ?s9_5 ?s10_5 ?s11_5 ?s12_5 ?s13_5 ?s14_5 ?s15_5 ?v_5 ?h1_5 ?h2_5 ?h3_5 ?h4_5 ?h5_5 ?h6_5 ?h7_5 ?h8_5 ?go5_
    (case s0_5 => k_is); (case s1_5 => k_is); (case s2_5 => k_is); (case s3_5 => k_is); (case s4_5 => k_is); (case s5_5 => k_is); (case s6_5 => k_is); (case s7_5 => k_is); (case s8_5 => k_is); (case s9_5 => k_is); (case s10_5 => k_is); (case s11_5 => k_is); (case s12_5 => k_is); (case s13_5 => k_is); (case s14_5 => k_is); (case s15_5 => k_is); (case v_5 => k_is); (case h1_5 => k_is); (case h2_5 => k_is); (case h3_5 => k_is); (case h4_5 => k_is); (case h5_5 => k_is); (case h6_5 => k_is); (case h7_5 => k_is); (case h8_5 => k_is)
    intro RW_5
    refine' K59.with_row 6 (b0 := false) (b1 := false) (b2 := false) (b3 := false) (b4 := false) (b5 := false) (b6 := true) (b7 := false) (b8 := false) (b9 := false) (b10 := false) (b11 := false) (b12 := false) (b13 := false) (b14 := false) (b15 := true) e_InvalidContent e_InvalidPots e_InvalidNumbers e_InvalidKept e_InvalidRow e_InvalidStrengths e_InvalidFraction e_InvalidCup e_InvalidDeeds e_InvalidLiquid e_InvalidIndex e_InvalidNumber e_TooMany e_NothingToUndo LW e_PotError e_InvalidFraction.at_ rfl ?s0_6 ?s1_6 ?s2_6 ?s3_6 ?s4_6 ?s5_6 ?s6_6 ?s7_6 ?s8_6 ?s9_6 ?s10_6 ?s11_6 ?s12_6 ?s13_6 ?s14_6 ?s15_6 ?v_6 ?h1_6 ?h2_6 ?h3_6 ?h4_6 ?h5_6 ?h6_6 ?h7_6 ?h8_6 ?go6_
    (case s0_6 => k_is); (case s1_6 => k_is); (case s2_6 => k_is); (case s3_6 => k_is); (case s4_6 => k_is); (case s5_6 => k_is); (case s6_6 => k_is); (case s7_6 => k_is); (case s8_6 => k_is); (case s9_6 => k_is); (case s10_6 => k_is); (case s11_6 => k_is); (case s12_6 => k_is); (case s13_6 => k_is); (case s14_6 => k_is); (case s15_6 => k_is); (case v_6 => k_is); (case h1_6 => k_is); (case h2_6 => k_is); (case h3_6 => k_is); (case h4_6 => k_is); (case h5_6 => k_is); (case h6_6 => k_is); (case h7_6 => k_is); (case h8_6 => k_is)
    intro RW_6
    refine' K59.with_row 7 (b0 := false) (b1 := false) (b2 := false) (b3 := false) (b4 := false) (b5 := false) (b6 := false) (b7 := true) (b8 := false) (b9 := false) (b10 := false) (b11 := false) (b12 := false) (b13 := false) (b14 := false) (b15 := true) e_InvalidContent e_InvalidPots e_InvalidNumbers e_InvalidKept e_InvalidRow e_InvalidStrengths e_InvalidFraction e_InvalidCup e_InvalidDeeds e_InvalidLiquid e_InvalidIndex e_InvalidNumber e_TooMany e_NothingToUndo LW e_PotError e_InvalidCup.at_ rfl ?s0_7 ?s1_7 ?s2_7 ?s3_7 ?s4_7 ?s5_7 ?s6_7 ?s7_7 ?s8_7 ?s9_7 ?s10_7 ?s11_7 ?s12_7 ?s13_7 ?s14_7 ?s15_7 ?v_7 ?h1_7 ?h2_7 ?h3_7 ?h4_7 ?h5_7 ?h6_7 ?h7_7 ?h8_7 ?go7_
    (case s0_7 => k_is); (case s1_7 => k_is); (case s2_7 => k_is); (case s3_7 => k_is); (case s4_7 => k_is); (case s5_7 => k_is); (case s6_7 => k_is); (case s7_7 => k_is); (case s8_7 => k_is); (case s9_7 => k_is); (case s10_7 => k_is); (case s11_7 => k_is); (case s12_7 => k_is); (case s13_7 => k_is); (case s14_7 => k_is); (case s15_7 => k_is); (case v_7 => k_is); (case h1_7 => k_is); (case h2_7 => k_is); (case h3_7 => k_is); (case h4_7 => k_is); (case h5_7 => k_is); (case h6_7 => k_is); (case h7_7 => k_is); (case h8_7 => k_is)
    intro RW_7
    refine' K59.with_row 8 (b0 := false) (b1 := false) (b2 := false) (b3 := false) (b4 := false) (b5 := false) (b6 := false) (b7 := false) (b8 := true) (b9 := false) (b10 := false) (b11 := false) (b12 := false) (b13 := false) (b14 := false) (b15 := true) e_InvalidContent e_InvalidPots e_InvalidNumbers e_InvalidKept e_InvalidRow e_InvalidStrengths e_InvalidFraction e_InvalidCup e_InvalidDeeds e_InvalidLiquid e_InvalidIndex e_InvalidNumber e_TooMany e_NothingToUndo LW e_PotError e_InvalidDeeds.at_ rfl ?s0_8 ?s1_8 ?s2_8 ?s3_8 ?s4_8 ?s5_8 ?s6_8 ?s7_8 ?s8_8 ?s9_8 ?s10_8 ?s11_8 ?s12_8 ?s13_8 ?s14_8 ?s15_8 ?v_8 ?h1_8 ?h2_8 ?h3_8 ?h4_8 ?h5_8 ?h6_8 ?h7_8 ?h8_8 ?go8_
    (case s0_8 => k_is); (case s1_8 => k_is); (case s2_8 => k_is); (case s3_8 => k_is); (case s4_8 => k_is); (case s5_8 => k_is); (case s6_8 => k_is); (case s7_8 => k_is); (case s8_8 => k_is); (case s9_8 => k_is); (case s10_8 => k_is); (case s11_8 => k_is); (case s12_8 => k_is); (case s13_8 => k_is); (case s14_8 => k_is); (case s15_8 => k_is); (case v_8 => k_is); (case h1_8 => k_is); (case h2_8 => k_is); (case h3_8 => k_is); (case h4_8 => k_is); (case h5_8 => k_is); (case h6_8 => k_is); (case h7_8 => k_is); (case h8_8 => k_is)
    intro RW_8
    refine' K59.with_row 9 (b0 := false) (b1 := false) (b2 := false) (b3 := false) (b4 := false) (b5 := false) (b6 := false) (b7 := false) (b8 := false) (b9 := true) (b10 := false) (b11 := false) (b12 := false) (b13 := false) (b14 := false) (b15 := true) e_InvalidContent e_InvalidPots e_InvalidNumbers e_InvalidKept e_InvalidRow e_InvalidStrengths e_InvalidFraction e_InvalidCup e_InvalidDeeds e_InvalidLiquid e_InvalidIndex e_InvalidNumber e_TooMany e_NothingToUndo LW e_PotError e_InvalidLiquid.at_ rfl ?s0_9 ?s1_9 ?s2_9 ?s3_9 ?s4_9 ?s5_9 ?s6_9 ?s7_9 ?s8_9 ?s9_9 ?s10_9 ?s11_9 ?s12_9 ?s13_9 ?s14_9 ?s15_9 ?v_9 ?h1_9 ?h2_9 ?h3_9 ?h4_9 ?h5_9 ?h6_9 ?h7_9 ?h8_9 ?go9_
    (case s0_9 => k_is); (case s1_9 => k_is); (case s2_9 => k_is); (case s3_9 => k_is); (case s4_9 => k_is); (case s5_9 => k_is); (case s6_9 => k_is); (case s7_9 => k_is); (case s8_9 => k_is); (case s9_9 => k_is); (case s10_9 => k_is); (case s11_9 => k_is); (case s12_9 => k_is); (case s13_9 => k_is); (case s14_9 => k_is); (case s15_9 => k_is); (case v_9 => k_is); (case h1_9 => k_is); (case h2_9 => k_is); (case h3_9 => k_is); (case h4_9 => k_is); (case h5_9 => k_is); (case h6_9 => k_is); (case h7_9 => k_is); (case h8_9 => k_is)
    intro RW_9
    refine' K59.with_row 10 (b0 := false) (b1 := false) (b2 := false) (b3 := false) (b4 := false) (b5 := false) (b6 := false) (b7 := false) (b8 := false) (b9 := false) (b10 := true) (b11 := false) (b12 := false) (b13 := false) (b14 := false) (b15 := true) e_InvalidContent e_InvalidPots e_InvalidNumbers e_InvalidKept e_InvalidRow e_InvalidStrengths e_InvalidFraction e_InvalidCup e_InvalidDeeds e_InvalidLiquid e_InvalidIndex e_InvalidNumber e_TooMany e_NothingToUndo LW e_PotError e_InvalidIndex.at_ rfl ?s0_10 ?s1_10 ?s2_10 ?s3_10 ?s4_10 ?s5_10 ?s6_10 ?s7_10 ?s8_10 ?s9_10 ?s10_10 ?s11_10 ?s12_10 ?s13_10 ?s14_10 ?s15_10 ?v_10 ?h1_10 ?h2_10 ?h3_10 ?h4_10 ?h5_10 ?h6_10 ?h7_10 ?h8_10 ?go10_
    (case s0_10 => k_is); (case s1_10 => k_is); (case s2_10 => k_is); (case s3_10 => k_is); (case s4_10 => k_is); (case s5_10 => k_is); (case s6_10 => k_is); (case s7_10 => k_is); (case s8_10 => k_is); (case s9_10 => k_is); (case s10_10 => k_is); (case s11_10 => k_is); (case s12_10 => k_is); (case s13_10 => k_is); (case s14_10 => k_is); (case s15_10 => k_is); (case v_10 => k_is); (case h1_10 => k_is); (case h2_10 => k_is); (case h3_10 => k_is); (case h4_10 => k_is); (case h5_10 => k_is); (case h6_10 => k_is); (case h7_10 => k_is); (case h8_10 => k_is)
    intro RW_10
    refine' K59.with_row 11 (b0 := false) (b1 := false) (b2 := false) (b3 := false) (b4 := false) (b5 := false) (b6 := false) (b7 := false) (b8 := false) (b9 := false) (b10 := false) (b11 := true) (b12 := false) (b13 := false) (b14 := false) (b15 := true) e_InvalidContent e_InvalidPots e_InvalidNumbers e_InvalidKept e_InvalidRow e_InvalidStrengths e_InvalidFraction e_InvalidCup e_InvalidDeeds e_InvalidLiquid e_InvalidIndex e_InvalidNumber e_TooMany e_NothingToUndo LW e_PotError e_InvalidNumber.at_ rfl ?s0_11 ?s1_11 ?s2_11 ?s3_11 ?s4_11 ?s5_11 ?s6_11 ?s7_11 ?s8_11 ?s9_11 ?s10_11 ?s11_11 ?s12_11 ?s13_11 ?s14_11 ?s15_11 ?v_11 ?h1_11 ?h2_11 ?h3_11 ?h4_11 ?h5_11 ?h6_11 ?h7_11 ?h8_11 ?go11_
    (case s0_11 => k_is); (case s1_11 => k_is); (case s2_11 => k_is); (case s3_11 => k_is); (case s4_11 => k_is); (case s5_11 => k_is); (case s6_11 => k_is); (case s7_11 => k_is); (case s8_11 => k_is); (case s9_11 => k_is); (case s10_11 => k_is); (case s11_11 => k_is); (case s12_11 => k_is); (case s13_11 => k_is); (case s14_11 => k_is); (case s15_11 => k_is); (case v_11 => k_is); (case h1_11 => k_is); (case h2_11 => k_is); (case h3_11 => k_is); (case h4_11 => k_is); (case h5_11 => k_is); (case h6_11 => k_is); (case h7_11 => k_is); (case h8_11 => k_is)
    intro RW_11
    refine' K59.with_row 12 (b0 := false) (b1 := false) (b2 := false) (b3 := false) (b4 := false) (b5 := false) (b6 := false) (b7 := false) (b8 := false) (b9 := false) (b10 := false) (b11 := false) (b12 := true) (b13 := false) (b14 := false) (b15 := true) e_InvalidContent e_InvalidPots e_InvalidNumbers e_InvalidKept e_InvalidRow e_InvalidStrengths e_InvalidFraction e_InvalidCup e_InvalidDeeds e_InvalidLiquid e_InvalidIndex e_InvalidNumber e_TooMany e_NothingToUndo LW e_PotError e_TooMany.at_ rfl ?s0_12 ?s1_12 ?s2_12 ?s3_12 ?s4_12 ?s5_12 ?s6_12 ?s7_12 ?s8_12 ?s9_12 ?s10_12 ?s11_12 ?s12_12 ?s13_12 ?s14_12 ?s15_12 ?v_12 ?h1_12 ?h2_12 ?h3_12 ?h4_12 ?h5_12 ?h6_12 ?h7_12 ?h8_12 ?go12_
    (case s0_12 => k_is); (case s1_12 => k_is); (case s2_12 => k_is); (case s3_12 => k_is); (case s4_12 => k_is); (case s5_12 => k_is); (case s6_12 => k_is); (case s7_12 => k_is); (case s8_12 => k_is); (case s9_12 => k_is); (case s10_12 => k_is); (case s11_12 => k_is); (case s12_12 => k_is); (case s13_12 => k_is); (case s14_12 => k_is); (case s15_12 => k_is); (case v_12 => k_is); (case h1_12 => k_is); (case h2_12 => k_is); (case h3_12 => k_is); (case h4_12 => k_is); (case h5_12 => k_is); (case h6_12 => k_is); (case h7_12 => k_is); (case h8_12 => k_is)
    intro RW_12
    refine' K59.with_row 13 (b0 := false) (b1 := false) (b2 := false) (b3 := false) (b4 := false) (b5 := false) (b6 := false) (b7 := false) (b8 := false) (b9 := false) (b10 := false) (b11 := false) (b12 := false) (b13 := true) (b14 := false) (b15 := true) e_InvalidContent e_InvalidPots e_InvalidNumbers e_InvalidKept e_InvalidRow e_InvalidStrengths e_InvalidFraction e_InvalidCup e_InvalidDeeds e_InvalidLiquid e_InvalidIndex e_InvalidNumber e_TooMany e_NothingToUndo LW e_PotError e_NothingToUndo.at_ rfl ?s0_13 ?s1_13 ?s2_13 ?s3_13 ?s4_13 ?s5_13 ?s6_13 ?s7_13 ?s8_13 ?s9_13 ?s10_13 ?s11_13 ?s12_13 ?s13_13 ?s14_13 ?s15_13 ?v_13 ?h1_13 ?h2_13 ?h3_13 ?h4_13 ?h5_13 ?h6_13 ?h7_13 ?h8_13 ?go13_
    (case s0_13 => k_is); (case s1_13 => k_is); (case s2_13 => k_is); (case s3_13 => k_is); (case s4_13 => k_is); (case s5_13 => k_is); (case s6_13 => k_is); (case s7_13 => k_is); (case s8_13 => k_is); (case s9_13 => k_is); (case s10_13 => k_is); (case s11_13 => k_is); (case s12_13 => k_is); (case s13_13 => k_is); (case s14_13 => k_is); (case s15_13 => k_is); (case v_13 => k_is); (case h1_13 => k_is); (case h2_13 => k_is); (case h3_13 => k_is); (case h4_13 => k_is); (case h5_13 => k_is); (case h6_13 => k_is); (case h7_13 => k_is); (case h8_13 => k_is)
    intro RW_13
    refine' K59.with_row 14 (b0 := false) (b1 := false) (b2 := false) (b3 := false) (b4 := false) (b5 := false) (b6 := false) (b7 := false) (b8 := false) (b9 := false) (b10 := false) (b11 := false) (b12 := false) (b13 := false) (b14 := true) (b15 := true) e_InvalidContent e_InvalidPots e_InvalidNumbers e_InvalidKept e_InvalidRow e_InvalidStrengths e_InvalidFraction e_InvalidCup e_InvalidDeeds e_InvalidLiquid e_InvalidIndex e_InvalidNumber e_TooMany e_NothingToUndo LW e_PotError LW.gC rfl ?s0_14 ?s1_14 ?s2_14 ?s3_14 ?s4_14 ?s5_14 ?s6_14 ?s7_14 ?s8_14 ?s9_14 ?s10_14 ?s11_14 ?s12_14 ?s13_14 ?s14_14 ?s15_14 ?v_14 ?h1_14 ?h2_14 ?h3_14 ?h4_14 ?h5_14 ?h6_14 ?h7_14 ?h8_14 ?go14_
    (case s0_14 => k_is); (case s1_14 => k_is); (case s2_14 => k_is); (case s3_14 => k_is); (case s4_14 => k_is); (case s5_14 => k_is); (case s6_14 => k_is); (case s7_14 => k_is); (case s8_14 => k_is); (case s9_14 => k_is); (case s10_14 => k_is); (case s11_14 => k_is); (case s12_14 => k_is); (case s13_14 => k_is); (case s14_14 => k_is); (case s15_14 => k_is); (case v_14 => k_is); (case h1_14 => k_is); (case h2_14 => k_is); (case h3_14 => k_is); (case h4_14 => k_is); (case h5_14 => k_is); (case h6_14 => k_is); (case h7_14 => k_is); (case h8_14 => k_is)
    intro RW_14
    refine' K59.with_row 15 (b0 := false) (b1 := false) (b2 := false) (b3 := false) (b4 := false) (b5 := false) (b6 := false) (b7 := false) (b8 := false) (b9 := false) (b10 := false) (b11 := false) (b12 := false) (b13 := false) (b14 := false) (b15 := true) e_InvalidContent e_InvalidPots e_InvalidNumbers e_InvalidKept e_InvalidRow e_InvalidStrengths e_InvalidFraction e_InvalidCup e_InvalidDeeds e_InvalidLiquid e_InvalidIndex e_InvalidNumber e_TooMany e_NothingToUndo LW e_PotError e_PotError.at_ rfl ?s0_15 ?s1_15 ?s2_15 ?s3_15 ?s4_15 ?s5_15 ?s6_15 ?s7_15 ?s8_15 ?s9_15 ?s10_15 ?s11_15 ?s12_15 ?s13_15 ?s14_15 ?s15_15 ?v_15 ?h1_15 ?h2_15 ?h3_15 ?h4_15 ?h5_15 ?h6_15 ?h7_15 ?h8_15 ?go15_
    (case s0_15 => k_is); (case s1_15 => k_is); (case s2_15 => k_is); (case s3_15 => k_is); (case s4_15 => k_is); (case s5_15 => k_is); (case s6_15 => k_is); (case s7_15 => k_is); (case s8_15 => k_is); (case s9_15 => k_is); (case s10_15 => k_is); (case s11_15 => k_is); (case s12_15 => k_is); (case s13_15 => k_is); (case s14_15 => k_is); (case s15_15 => k_is); (case v_15 => k_is); (case h1_15 => k_is); (case h2_15 => k_is); (case h3_15 => k_is); (case h4_15 => k_is); (case h5_15 => k_is); (case h6_15 => k_is); (case h7_15 => k_is); (case h8_15 => k_is)
    intro RW_15
    exact K59.k59_end LW hmg d__law_bag d__law_stirred d__law_draw d__law_alike d__law_of d_law b_ValueError b_abs b_all b_bool b_int b_isinstance b_len b_list b_range b_str b_tuple e_InvalidContent e_InvalidPots e_InvalidNumbers e_InvalidKept e_InvalidRow e_InvalidStrengths e_InvalidFraction e_InvalidCup e_InvalidDeeds e_InvalidLiquid e_InvalidIndex e_InvalidNumber e_TooMany e_NothingToUndo e_PotError RW_0 RW_1 RW_2 RW_3 RW_4 RW_5 RW_6 RW_7 RW_8 RW_9 RW_10 RW_11 RW_12 RW_13 RW_14 RW_15
end
