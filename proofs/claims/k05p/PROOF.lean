import PyProof.Rows.All
import Wide.All
import OpenK.AllK
import Wide.FinOn
import HandS.ForMost
import HandS.ForExc
import HandS.AnyAll
import HandS.GenList
import HandS.IsInst
import HandS.NoneIn
import HandS.StrMore
import HandS.Defaults
import HandS.Head0
import HandS.Head1
import HandS.Head2
import HandS.HeadEnd
import HandS.HeadHook1
import HandS.HeadHook2
import HandS.HeadHook3
import HandS.HeadHook4
import HandS.EndTab
import HandS.HeadWalk
import HandS.Deep
import HandS.Conv
import KE.DataAny
import KE.KStateDown
import PySem.Challenge.RW_patchlay_k05_whole_exchanged
section
set_option Elab.async false
set_option linter.all false
set_option maxRecDepth 100000
set_option maxHeartbeats 4000000
namespace Gx
open PySem PySem.Spec PyProof.Rows L2 GxR GenW

/-- the context of a generator expression's own frame -/
abbrev Cxg (X : Cx) (s : Shared) (H : Hp) (cenv : Env) (fp : List Addr) (A' : Around) (pn : List (Addr × Obj)) : Cx :=
  { X with A := A', s_0 := s, H_0 := H, env := cenv, outer := X.stack, stack := cenv :: X.stack, ex := fp, fn := fun _ => false, pn := pn, xe := fun _ _ => False }
abbrev gEnv (X : Cx) (scope : Scope) (C : Addr) (code : Value) : Env := genEnv scope (cloFrom X.env.cells scope.names []) C code builtinsNs X.env

section
variable {X : Cx} {pins : List (Addr × Obj)} {σ : L2.St} {H : Hp} {s : Shared}
theorem gen_start {scope : Scope} {own : List (Str × Nat)} {fp : List Addr} {code : Value} {A' : Around} {go : Obj} {m0 : Str → Option Value} (I : Inv X pins σ H s) (ok : BlkOk X.N X.env.scope scope own) (hN : X.N.Nodup)
    (hnc : ∀ y ∈ scope.names, y.2 ≠ .cell) (hfp : ∀ b ∈ fp, FpOk X pins H b ∧ b < s.heap.objs.size)
    (hA : A'.frames = some (gEnv X scope s.heap.objs.size code :: X.stack)) (hd : X.calm = true → A'.handled = none)
    {s5 : Shared} (hk : ∀ b o, s.heap.get? b = some o → s5.heap.get? b = some o) (hos : s5.os = s.os) (hb : AllBare s5.gens) (hns : s5.heap.Ns s.heap.objs.size m0)
    (hgo : s5.heap.get? (s.heap.objs.size + 1) = some go) (hgd : ∀ v, go.data ≠ .cell v) :
    Inv (Cxg X s H (gEnv X scope s.heap.objs.size code) fp A' [(s.heap.objs.size + 1, go)]) [] (wipe σ (own.map (·.2))) H s5 := by
  have hfree : ∀ y ∈ scope.names, y.2 = .free → ∃ c, X.env.cells.lookup y.1 = some c := fun y hy e => by
    rcases ok.free y hy e with k | k
    · exact I.ok.has _ (.inl k)
    · exact I.ok.has _ (.inr k)
  generalize hcenv : gEnv X scope s.heap.objs.size code = cenv at hA ⊢
  have hL : cenv.locals = s.heap.objs.size := by rw [← hcenv]; rfl
  have hcl : cenv.cells = cloFrom X.env.cells scope.names [] := by rw [← hcenv]; rfl
  have hsc : cenv.scope = scope := by rw [← hcenv]; rfl
  have cm : ∀ {y c}, cenv.cells.lookup y = some c → X.env.cells.lookup y = some c ∧ c < s.heap.objs.size := fun {y c} e => by
    rw [hcl] at e
    rcases cloFrom_mem (PySem.mem_of_lookup e) with hm | ⟨h1, rfl⟩
    · cases hm
    · obtain ⟨c, hc⟩ := hfree _ h1 rfl
      rw [hc]
      obtain ⟨w, z⟩ := I.cell _ _ hc
      exact ⟨rfl, z.lt⟩
  have look : ∀ {y}, scope.names.lookup y = some .free → ∃ c, cenv.cells.lookup y = some c ∧ X.env.cells.lookup y = some c := fun {y} hl => by
    have hy : (y, NameKind.free) ∈ scope.names := PySem.mem_of_lookup hl
    obtain ⟨c', e'⟩ := mem_lookup (cloFrom_has (cells := X.env.cells) (acc := []) hy)
    rw [← hcl] at e'
    exact ⟨c', e', (cm e').1⟩
  have nocell : ∀ {y}, scope.names.lookup y ≠ some .cell := fun {y} e => hnc _ (PySem.mem_of_lookup e) rfl
  have inStk : ∀ b ∈ frs X.stack, b < s.heap.objs.size := fun b hb => by
    obtain ⟨_, o, ho, _⟩ := I.stack.mem hb
    exact Heap.lt_size ho
  have okB : (Cxg X s H cenv fp A' [(s.heap.objs.size + 1, go)]).Ok := by
    refine ⟨I.ok.mod, by show cenv.scope.kind = _; rw [hsc]; exact ok.kind, by show cenv.globals = _; rw [← hcenv]; exact I.ok.glob, by show cenv.builtins = _; rw [← hcenv]; rfl, by show s.heap.objs.size ≤ cenv.locals; rw [hL]; exact Nat.le_refl _,
      fun y z c e1 e2 => I.ok.inj y z c (cm e1).1 (cm e2).1, fun y hy => ?_, fun y c z e => ?_, hd, hA, .inr ⟨rfl, ?_⟩, fun b hb => ⟨?_, fun y c e z => ?_⟩, I.bs, Nat.le_trans I.ok.bsz I.sz, fun b o e hb => ?_, fun b hb z => ?_, I.stack, I.stkFree⟩
    · show ∃ c, cenv.cells.lookup y = some c
      have hy' : scope.names.lookup y = some .cell ∨ scope.names.lookup y = some .free := by
        have q : cenv.kindOf y = some .cell ∨ cenv.kindOf y = some .free := hy
        unfold Env.kindOf at q
        rw [hsc] at q
        exact q
      rcases hy' with hy' | hy'
      · exact absurd hy' nocell
      · obtain ⟨c, h1, _⟩ := look hy'
        exact ⟨c, h1⟩
    · exact absurd (show false = true from z) (by simp)
    · show cenv.frame = some cenv.locals
      rw [← hcenv]; rfl
    · show b ≠ cenv.locals
      rw [hL]; exact Nat.ne_of_lt (hfp b hb).2
    · exact (hfp b hb).1.2.2.2.2.1 y c (cm e).1 z
    · rcases (hfp b hb).1.2.2.2.1 with z | z
      · exact I.ok.noex b o e z
      · exact absurd (Nat.lt_of_lt_of_le (Heap.lt_size e) (Nat.le_trans I.ok.bsz z)) (Nat.lt_irrefl _)
    · rcases List.mem_cons.mp (I.stkSub b z) with z | z
      · exact (hfp b hb).1.2.1 z
      · exact (hfp b hb).1.2.2.1 z
  refine ⟨okB, hos, hb, Un.kept hk, ⟨m0, by show s5.heap.Ns cenv.locals _; rw [hL]; exact hns, fun i y av e1 e2 e3 => ?_⟩, fun y c e => ?_, ?_, fun y c e => ?_, fun p hp => ?_, I.hok.kept hk, by rw [wipe_length]; exact I.len⟩
  · obtain ⟨e2, hne⟩ := wipe_some e2
    have hfr : scope.names.lookup y = some .free := by
      have e3 : Vis cenv.scope y := e3
      rw [hsc] at e3
      have noo : scope.names.lookup y ≠ some .local := fun e => by
        rcases ok.own _ (PySem.mem_of_lookup e) (.inl rfl) with e' | e'
        · obtain ⟨p, hp, hpy⟩ := List.mem_map.mp e'
          have e3 := ok.ix p hp
          have : p.1 = y := hpy
          rw [this] at e3
          exact hne (List.mem_map.mpr ⟨p, hp, nodup_ix hN e3 e1⟩)
        · exact e' (List.mem_of_getElem? e1)
      rcases e3 with e3 | e3 | e3
      · exact absurd e3 noo
      · exact absurd e3 nocell
      · exact e3
    obtain ⟨m, hn, hl⟩ := I.loc
    have hvis : Vis X.env.scope y := (ok.free _ (PySem.mem_of_lookup hfr) rfl).elim (fun k => .inr (.inl k)) (fun k => .inr (.inr k))
    obtain ⟨w, r, q⟩ := hl i y av e1 e2 hvis
    obtain ⟨c, h1, h2⟩ := look hfr
    refine ⟨w, r, .inr ⟨.inr ?_, c, h1, ?_⟩⟩
    · show cenv.scope.names.lookup y = _
      rw [hsc]; exact hfr
    · rcases q with ⟨k, _⟩ | ⟨_, c', e', z⟩
      · have k : X.env.scope.names.lookup y = some .local := k
        rcases ok.free _ (PySem.mem_of_lookup hfr) rfl with k' | k' <;> rw [show X.env.scope.names.lookup y = _ from k'] at k <;> cases k
      · rw [h2] at e'; cases e'
        exact z.keeps hk
  · obtain ⟨w, z⟩ := I.cell y c (cm e).1
    exact ⟨w, z.keeps hk⟩
  · show H cenv.locals = none
    rw [hL]; exact I.hok.fresh (Nat.le_refl _)
  · exact I.freeC y c (cm e).1
  · have hp' : p = (s.heap.objs.size + 1, go) := by simpa using hp
    subst hp'
    refine ⟨hgo, I.hok.fresh (Nat.le_succ _), ?_, fun z => ?_, hgd⟩
    · show s.heap.objs.size + 1 ≠ cenv.locals
      rw [hL]; exact Nat.succ_ne_self _
    · have := inStk _ z
      exact absurd (Nat.lt_of_succ_lt this) (Nat.lt_irrefl _)
end

/-! ### the turns -/
section
variable {α : Type}
def Rx (X' : Cx) (σw : L2.St) (G : α → List (Addr × Obj) → Prop) (fin : α → Hp → Prop) : GenEnd := fun _ s₀ r s => r = .ok .next ∧ ∃ a ps H, (∀ p ∈ ps, s₀.heap.get? p.1 = some p.2) ∧ G a ps ∧ Inv X' ps σw H s ∧ fin a H
def Yx (X' : Cx) (σw : L2.St) (fp : List Addr) (tn : Nat → Heap → Prop) (G : α → List (Addr × Obj) → Prop) (out : α → V → Hp → (α → Hp → Prop) → Prop) : Protocol := fun _ s₀ v s kap =>
  ∃ a ps y H Nx j, (∀ p ∈ ps, s₀.heap.get? p.1 = some p.2) ∧ G a ps ∧ RelV y v ∧ Inv X' ps σw H s ∧ tn j s.heap ∧ (∀ b ∈ fp, H b = none) ∧ out a y H Nx ∧
    ∀ a' ps' s'', G a' ps' → Inv X' ps' σw H s'' → tn j s''.heap → Nx a' H → kap (.send .none) s''
/-- the word of the turns -/
def TurnsG (J : It) (g : TG) (tt : TT) (te : TE) (σ : L2.St) (vs : List Nat) (out : α → V → Hp → (α → Hp → Prop) → Prop) (fin : α → Hp → Prop) (W : Nat → Nat → α → Hp → Prop) : Prop :=
  ∀ i m a H, W i m a H → (J.stop i H ∧ fin a H) ∨ (J.go i H ∧ ∃ Nx : α → Hp → Prop, (∀ a' H', Nx a' H' → ∃ m', m' < m ∧ W (i + 1) m' a' H') ∧ ∀ x H', J.yld i H x H' → g x (wipe σ vs) H' fun σ2 H2 => wipe σ2 vs = wipe σ vs ∧ tt σ2 H2 fun b H3 =>
    if b = true then te σ2 H3 fun y H4 => out a y H4 Nx else Nx a H3)

theorem seg_loop {X' : Cx} {Aw : Around} {elt tg iter : Expr} {ifs : List Expr} {scope : Scope} {pos : Pos} {it : Addr} {fp : List Addr} {tn : Nat → Heap → Prop} {J : It} {g : TG} {tt : TT} {te : TE} {σ : L2.St} {vs : List Nat}
    {G : α → List (Addr × Obj) → Prop} {out : α → V → Hp → (α → Hp → Prop) → Prop} {fin : α → Hp → Prop} {W : Nat → Nat → α → Hp → Prop}
    (T : Turn X'.prog X'.w X'.K tg J fp it tn) (hA : Aw.over (.compLoop (.GeneratorExp elt [⟨tg, iter, ifs, 0⟩] scope pos) 0 (.ref it) .none X'.env) [] = X'.A)
    (hg : PG X' tg g) (ht : PTs X' ifs tt) (he : PE X' elt te) (hc : X'.calm = true) (hxe : X'.xe = fun _ _ => False) (hex : X'.ex = fp) (hco : X'.env.scope.isCoroutine = false)
    (hpn : ∀ p ∈ X'.pn, ∀ b ∈ fp, p.1 ≠ b) (hG : ∀ a ps, G a ps → ∀ p ∈ ps, ∀ b ∈ fp, p.1 ≠ b) (hW : TurnsG J g tt te σ vs out fin W) :
    ∀ (m n i : Nat) (a : α) (ps : List (Addr × Obj)) (s₀ s : Shared) (H : Hp), m + 1 ≤ n → (∀ p ∈ ps, s₀.heap.get? p.1 = some p.2) → G a ps → W i m a H → Inv X' ps (wipe σ vs) H s → tn i s.heap → (∀ b ∈ fp, H b = none) →
      Seg (model X'.prog X'.w) Aw (Rx X' (wipe σ vs) G fin) (Yx X' (wipe σ vs) fp tn G out) n s₀ (.compLoop (.GeneratorExp elt [⟨tg, iter, ifs, 0⟩] scope pos) 0 (.ref it) .none X'.env)
        ((model X'.prog X'.w).den (.compLoop (.GeneratorExp elt [⟨tg, iter, ifs, 0⟩] scope pos) 0 (.ref it) .none X'.env)) [] s := by
  intro m
  induction m using Nat.strongRecOn with
  | ind m ih =>
    intro n i a ps s₀ s H hmn hz hGa w I st hf
    have stat : ∀ {ps' : List (Addr × Obj)} {a' : α} {σ' : L2.St} {H' : Hp} {s' : Shared}, G a' ps' → Inv X' ps' σ' H' s' → (∀ b ∈ fp, H' b = none) → ∀ b ∈ fp, FpOk X' ps' H' b := fun {ps' a' σ' H' s'} hG' I' hn b hb => by
      have hb' : b ∈ X'.ex := by rw [hex]; exact hb
      refine ⟨hn b hb, (I'.ok.exf b hb').1, I'.ok.exfs b hb', .inl hb', fun x c e => (I'.ok.exf b hb').2 x c e, fun p hp => ?_⟩
      rcases List.mem_append.mp hp with hp | hp
      · exact hpn p hp b hb
      · exact hG _ _ hG' p hp b hb
    show Seg _ Aw _ _ n s₀ _ ((compTurn (.GeneratorExp elt [⟨tg, iter, ifs, 0⟩] scope pos) 0 (.ref it) .none X'.env).onRaise (leaving X'.env)) [] s
    rw [compTurn_gen, Sem.onRaise_eq_wrap]
    refine seg_bind_wrap (wpAny_standAt ?_)
    have up : ∀ {β : Type} {t : Sem β} {Q Q' : β → Shared → Prop} {E' : Value → Shared → Prop} {s : Shared}, wpAny (model X'.prog X'.w) X'.A t Q (fun _ _ => False) s → (∀ x s, Q x s → Q' x s) → wpAny (model X'.prog X'.w) (Aw.over (.compLoop (.GeneratorExp elt [⟨tg, iter, ifs, 0⟩] scope pos) 0 (.ref it) .none X'.env) []) t Q' E' s :=
      fun h hQ => by rw [hA]; exact wpAny_mono h hQ fun _ _ z => False.elim z
    rcases hW i m a H w with ⟨stop, hfin⟩ | ⟨go, Nx, hNx, step⟩
    · refine seg_bind_wrap (up (T.done X' rfl rfl rfl hc i ps s _ H (fun _ _ => False) I (stat hGa I hf) st stop) fun r s1 ⟨hr, I1⟩ => ?_)
      subst hr
      exact seg_end (.ok .next) ⟨rfl, a, ps, H, hz, hGa, I1, hfin⟩
    · refine seg_bind_wrap (up (T.item X' rfl rfl rfl hc i ps s _ H (fun _ _ => False) I (stat hGa I hf) st go) fun r s1 ⟨u, hr, h1⟩ => ?_)
      subst hr
      refine seg_bind_wrap (up h1 fun _ s2 ⟨x, H2, I2, r2, y2, st2, f2⟩ => ?_)
      have I2' := I2.pinned (stat hGa I2 f2) (T.obj _ _ st2)
      have step := step x H2 y2
      have hxe' : ∀ {β : Type} {t : Sem β} {Q : β → Shared → Prop} {s : Shared}, wpAny (model X'.prog X'.w) X'.A t Q X'.xe s → wpAny (model X'.prog X'.w) X'.A t Q (fun _ _ => False) s := fun h => by rw [hxe] at h; exact h
      refine seg_bind_wrap (up (hxe' (hg.run _ s2 _ H2 x u _ I2' r2 step)) fun _ s3 ⟨σ3, H3, I3, hw3, q3⟩ => ?_)
      refine seg_bind_wrap (up (hxe' (ht.run _ s3 σ3 H3 _ I3 q3)) fun b s4 ⟨H4, I4, q4⟩ => ?_)
      have back : ∀ {s' : Shared} {H' : Hp}, Inv X' (ps ++ pinsAt fp s2.heap) σ3 H' s' → Inv X' ps (wipe σ vs) H' s' ∧ tn (i + 1) s'.heap ∧ ∀ b ∈ fp, H' b = none := fun {s' H'} I' => by
        have pin' : ∀ b ∈ fp, ∀ o, s2.heap.get? b = some o → s'.heap.get? b = some o ∧ H' b = none := fun b hb o e =>
          let z := I'.pin (b, o) (List.mem_append_right _ (List.mem_append_right _ (mem_pinsAt hb e)))
          ⟨z.1, z.2.1⟩
        have hl : (wipe σ vs).length = σ3.length := by rw [← hw3, wipe_length]
        refine ⟨I'.unpinned.weak hl (fun j v e => ?_), T.keep _ _ _ st2 fun b hb o e => (pin' b hb o e).1, fun b hb => ?_⟩
        · rw [← hw3] at e
          exact (wipe_some e).1
        · obtain ⟨o, e, _⟩ := T.obj _ _ st2 b hb
          exact (pin' b hb o e).2
      cases b with
      | false =>
        simp only [Bool.false_eq_true, if_false] at q4 ⊢
        obtain ⟨m', hm, w'⟩ := hNx a H4 q4
        obtain ⟨I5, st5, f5⟩ := back I4
        exact seg_again rfl (ih m' hm n (i + 1) a ps s₀ s4 H4 (by omega) hz hGa w' I5 st5 f5)
      | true =>
        simp only [if_true] at q4 ⊢
        have hy : ∀ v, yieldOut X'.env v = yieldValue v := fun v => by simp only [yieldOut, hco, Bool.false_eq_true, if_false]
        simp only [hy]
        rw [Sem.bind_eq_wrap', Sem.bind_eq_wrap', Sem.wrap_wrap, Sem.wrap_wrap]
        refine seg_wrap (up (hxe' (he.run _ s4 σ3 H4 _ I4 q4)) fun yv s5 ⟨y, H5, I5, r5, q5⟩ => ?_)
        obtain ⟨n, rfl⟩ : ∃ n', n = n' + 1 := ⟨n - 1, by omega⟩
        obtain ⟨I6, st6, f6⟩ := back I5
        refine seg_at (seg_yield rfl rfl rfl ⟨a, ps, y, H5, Nx, i + 1, hz, hGa, r5, I6, st6, f6, q5, fun a' ps' s'' hGa' I'' st'' nx => ?_⟩)
        obtain ⟨m', hm, w'⟩ := hNx a' H5 nx
        exact seg_again rfl (ih m' hm n (i + 1) a' ps' s'' s'' H5 (by omega) (fun p hp => (I''.pin p (List.mem_append_right _ hp)).1) hGa' w' I'' st'' f6)
end
end Gx
end
section
set_option Elab.async false
set_option linter.all false
set_option maxRecDepth 100000
set_option maxHeartbeats 4000000
namespace Gx
open PySem PySem.Spec PyProof.Rows L2 GxR GenW

section
variable {α : Type}
abbrev GE (elt tg iter : Expr) (ifs : List Expr) (scope : Scope) (pos : Pos) : Expr := .GeneratorExp elt [⟨tg, iter, ifs, 0⟩] scope pos

theorem inv_gens {X : Cx} {pins : List (Addr × Obj)} {σ : L2.St} {H : Hp} {s : Shared} {g' : Array GenState} {t' : Nat} {d' : Drawn} (I : Inv X pins σ H s) (hb : AllBare g') : Inv X pins σ H { s with gens := g', toks := t', drawn := d' } :=
  ⟨I.ok, I.os, hb, I.base, I.loc, I.cell, I.free, I.freeC, I.pin, I.hok, I.len⟩

theorem seg_begin {X' : Cx} {Aw : Around} {elt tg iter : Expr} {ifs : List Expr} {scope : Scope} {pos : Pos} {it : Addr} {fp : List Addr} {tn : Nat → Heap → Prop} {J : It} {R : GenEnd} {Y : Protocol} {n : Nat} {s₀ s : Shared}
    (T : Turn X'.prog X'.w X'.K tg J fp it tn) (st : tn 0 s.heap)
    (h : Seg (model X'.prog X'.w) Aw R Y n s₀ (.compLoop (GE elt tg iter ifs scope pos) 0 (.ref it) .none X'.env) ((model X'.prog X'.w).den (.compLoop (GE elt tg iter ifs scope pos) 0 (.ref it) .none X'.env)) [] s) :
    Seg (model X'.prog X'.w) Aw R Y n s₀ (.compStart (GE elt tg iter ifs scope pos) 0 (.ref it) .none X'.env) ((model X'.prog X'.w).den (.compStart (GE elt tg iter ifs scope pos) 0 (.ref it) .none X'.env)) [] s := by
  show Seg _ Aw _ _ _ s₀ _ ((compStart (.GeneratorExp elt [⟨tg, iter, ifs, 0⟩] scope pos) 0 (.ref it) .none X'.env).onRaise (leaving X'.env)) [] s
  unfold compStart
  rw [Sem.onRaise_eq_wrap]
  show Seg _ Aw _ _ _ s₀ _ ((ask >>= _).wrap _ _ _ _) [] s
  refine seg_bind_wrap (wpAny_askSetting ?_)
  split
  · exact seg_again rfl h
  · first
      | exact seg_bind_wrap (wpAny_rule (seg_bind_wrap (wpAny_standAt (seg_bind_wrap (T.self _ 0 s _ _ st (seg_again rfl h))))))
      | (refine seg_bind_wrap (wpAny_rule ?_); show Seg _ Aw _ _ _ s₀ _ ((standAt iter.pos >>= _).wrap _ _ _ _) [] s; exact seg_bind_wrap (wpAny_standAt (seg_bind_wrap (T.self _ 0 s _ _ st (seg_again rfl h)))))

/-- the generator's data -/
structure GD (α : Type) where
  X : Cx
  Aw : Around
  σw : L2.St
  fp : List Addr
  tn : Nat → Heap → Prop
  G : α → List (Addr × Obj) → Prop
  out : α → V → Hp → (α → Hp → Prop) → Prop
  fin : α → Hp → Prop
  a : Addr
  g : Nat
/-- it sleeps, ready to be woken; what it asks of the state -/
def GD.Sleeps (D : GD α) (n : Nat) (gs : GenState) (H : Hp) (j : Nat) (N : α → Prop) : Prop :=
  ∀ al ps s'', N al → D.G al ps → Inv D.X ps D.σw H s'' → D.tn j s''.heap → gs.Goes (model D.X.prog D.X.w) D.Aw (Rx D.X D.σw D.G D.fin) (Yx D.X D.σw D.fp D.tn D.G D.out) n (.send .none) s''
/-- the state between two pulls -/
def GD.At (D : GD α) (n : Nat) (al : α) (ps : List (Addr × Obj)) (s : Shared) : Prop :=
  ∃ gs H j, s.gens[D.g]? = some gs ∧ D.G al ps ∧ Inv D.X ps D.σw H s ∧ D.tn j s.heap ∧ D.Sleeps n gs H j (fun b => b = al)
/-- the generator's own object is pinned -/
def GD.Pinned (D : GD α) : Prop := ∀ ps H s, Inv D.X ps D.σw H s → s.heap.IsGen D.a D.g

theorem pull {D : GD α} {A : Around} {E : Value → Shared → Prop} {Q : Option Value → Shared → Prop} {n : Nat} {al : α} {ps : List (Addr × Obj)} {s : Shared} (hAw : D.Aw = A.in1) (hh : A.handled = none) (hroom : A.depth < recursionLimit) (hP : D.Pinned)
    (h : D.At n al ps s)
    (hY : ∀ a1 ps1 y v H1 s1 (Nx : α → Hp → Prop), (∀ p ∈ ps1, s.heap.get? p.1 = some p.2) → D.G a1 ps1 → RelV y v → Inv D.X ps1 D.σw H1 s1 → D.out a1 y H1 Nx → (∀ a2 ps2 s2, Nx a2 H1 → D.G a2 ps2 → Inv D.X ps2 D.σw H1 s2 → s2.gens = s1.gens → (∀ b ∈ D.fp, ∀ o, s1.heap.get? b = some o → s2.heap.get? b = some o) → ∃ n', n' < n ∧ D.At n' a2 ps2 s2) → Q (some v) s1)
    (hR : ∀ a1 ps1 H1 s1, (∀ p ∈ ps1, s.heap.get? p.1 = some p.2) → D.G a1 ps1 → Inv D.X ps1 D.σw H1 s1 → D.fin a1 H1 → Q none s1)
    (hk : ∀ i h h', D.tn i h → (∀ b ∈ D.fp, ∀ o, h.get? b = some o → h'.get? b = some o) → D.tn i h') :
    wpAny (model D.X.prog D.X.w) A (pyNext (.ref D.a)) Q E s := by
  obtain ⟨gs, H, j, hgs, hG, I, st, sl⟩ := h
  have hlt : D.g < s.gens.size := by
    rcases Nat.lt_or_ge D.g s.gens.size with z | z
    · exact z
    · rw [Array.getElem?_eq_none z] at hgs; cases hgs
  have hbare : ∀ {s1 : Shared} {gs' : GenState}, AllBare s1.gens → gs'.bare = true → AllBare (s1.setGen D.g gs').gens := fun h1 h2 => allBare_setGen h1 h2
  refine wpAny_gsz (n := s.gens.size) (Nat.le_refl _) ?_
  refine wpAny_pyNext_genexpQ (P := fun _ s₀ s => ∃ a ps H, (∀ p ∈ ps, s₀.heap.get? p.1 = some p.2) ∧ D.G a ps ∧ Inv D.X ps D.σw H s ∧ D.fin a H) (Y := Yx D.X D.σw D.fp D.tn D.G D.out) (n := n) hh I.nolimit hroom (hP _ _ _ I) hgs ?_ (fun v s1 gs' hb hv => ?_) (fun s1 hp h' hk' => ?_)
  · rw [← hAw]
    exact sl al ps _ rfl hG (inv_gens (t' := s.toks) (d' := s.drawn) I (hbare I.bare rfl)) st
  · obtain ⟨a1, ps1, y, H1, Nx, j1, hz1, hG1, ry, I1, st1, _, ho, kap⟩ := hv
    intro hsz
    have I1' : Inv D.X ps1 D.σw H1 (s1.setGen D.g gs') := inv_gens (t' := s1.toks) (d' := s1.drawn) I1 (hbare I1.bare hb)
    refine hY a1 ps1 y v H1 _ Nx hz1 hG1 ry I1' ho fun a2 ps2 s2 nx hG2 I2 hgens hkeep => ?_
    cases n with
    | zero =>
      exact False.elim (kap a2 ps2 s2 hG2 I2 (hk _ _ _ st1 hkeep) nx)
    | succ m =>
      refine ⟨m, Nat.lt_succ_self m, gs', H1, j1, ?_, hG2, I2, hk _ _ _ st1 hkeep, fun al3 ps3 s3 e3 hG3 I3 st3 => ?_⟩
      · rw [hgens]
        refine setGen_at ?_
        have q : (s1.setGen D.g gs').gens.size = s1.gens.size := setGen_size _ _ _
        have hsz' : s.gens.size ≤ (s1.setGen D.g gs').gens.size := hsz
        omega
      · subst e3
        have := kap al3 ps3 s3 hG3 I3 st3 nx
        rw [hAw]
        exact this
  · intro _
    obtain ⟨a1, ps1, H1, hz1, hG1, I1, hf⟩ := hp
    have I2 : Inv D.X ps1 D.σw H1 { s1 with heap := h' } := I1.kept (t' := s1.toks) hk'
    exact hR a1 ps1 H1 _ hz1 hG1 (inv_gens (t' := s1.toks) (d' := s1.drawn) I2 (hbare I1.bare rfl)) hf
end

/-! ### all, any -/
section
variable {D : GD Unit} {A : Around} {R : Result → Shared → Prop}
theorem all_loop (Qb : Bool → Hp → Prop) (hAw : D.Aw = A.in1.in1) (hh : A.handled = none) (hroom : A.depth < recursionLimit) (hP : D.Pinned)
    (hk : ∀ i h h', D.tn i h → (∀ b ∈ D.fp, ∀ o, h.get? b = some o → h'.get? b = some o) → D.tn i h')
    (ho : ∀ a y H Nx, D.out a y H Nx → ∃ k, y = .bl k ∧ if k = true then Nx () H else Qb false H) (hf : ∀ a H, D.fin a H → Qb true H) (hG : ∀ a ps, D.G a ps ↔ ps = [])
    (hR : ∀ b H s', Inv D.X [] D.σw H s' → Qb b H → R (.ok (.ret (.bool b))) s') :
    ∀ (n : Nat) (s : Shared), D.At n () [] s → codeAny (model D.X.prog D.X.w) A (.builtin "all.loop" ⟨[.ref D.a], []⟩) R s := by
  intro n
  induction n using Nat.strongRecOn with
  | ind n ih =>
    intro s hs
    refine codeAny_builtin F.entry_all_loop ?_
    rw [Around.under_plainId F.plain_all_loop _]
    show wpAny _ A.in1 (pyNext (.ref D.a) >>= _) _ _ s
    refine wpAny_bind (pull hAw hh hroom hP hs (fun a1 ps1 y v H1 s1 Nx hz1 hG1 ry I1 o1 kap => ?_) (fun a1 ps1 H1 s1 hz1 hG1 I1 f1 => ?_) hk)
    · obtain ⟨k, rfl, o2⟩ := ho _ _ _ _ o1
      obtain rfl : v = Value.bool k := ry
      obtain rfl := (hG _ _).mp hG1
      refine wpAny_bind (wpAny_holding (wpAny_truthy_bool ?_))
      refine wpAny_bind (wpAny_letGo ?_)
      cases k with
      | true =>
        simp only [if_true] at o2 ⊢
        obtain ⟨n', hn, hs'⟩ := kap () [] s1 o2 hG1 I1 rfl fun b _ o e => e
        exact wpAny_pure ⟨plainId_quiet F.plain_all_loop _, ih n' hn s1 hs'⟩
      | false =>
        simp only [Bool.false_eq_true, if_false] at o2 ⊢
        exact wpAny_bind (wpAny_rule (wpAny_pure (hR false H1 s1 I1 o2)))
    · obtain rfl := (hG _ _).mp hG1
      exact wpAny_bind (wpAny_rule (wpAny_pure (hR true H1 s1 I1 (hf _ _ f1))))
theorem any_loop (Qb : Bool → Hp → Prop) (hAw : D.Aw = A.in1.in1) (hh : A.handled = none) (hroom : A.depth < recursionLimit) (hP : D.Pinned)
    (hk : ∀ i h h', D.tn i h → (∀ b ∈ D.fp, ∀ o, h.get? b = some o → h'.get? b = some o) → D.tn i h')
    (ho : ∀ a y H Nx, D.out a y H Nx → ∃ k, y = .bl k ∧ if k = true then Qb true H else Nx () H) (hf : ∀ a H, D.fin a H → Qb false H) (hG : ∀ a ps, D.G a ps ↔ ps = [])
    (hR : ∀ b H s', Inv D.X [] D.σw H s' → Qb b H → R (.ok (.ret (.bool b))) s') :
    ∀ (n : Nat) (s : Shared), D.At n () [] s → codeAny (model D.X.prog D.X.w) A (.builtin "any.loop" ⟨[.ref D.a], []⟩) R s := by
  intro n
  induction n using Nat.strongRecOn with
  | ind n ih =>
    intro s hs
    refine codeAny_builtin F.entry_any_loop ?_
    rw [Around.under_plainId F.plain_any_loop _]
    show wpAny _ A.in1 (pyNext (.ref D.a) >>= _) _ _ s
    refine wpAny_bind (pull hAw hh hroom hP hs (fun a1 ps1 y v H1 s1 Nx hz1 hG1 ry I1 o1 kap => ?_) (fun a1 ps1 H1 s1 hz1 hG1 I1 f1 => ?_) hk)
    · obtain ⟨k, rfl, o2⟩ := ho _ _ _ _ o1
      obtain rfl : v = Value.bool k := ry
      obtain rfl := (hG _ _).mp hG1
      refine wpAny_bind (wpAny_holding (wpAny_truthy_bool ?_))
      refine wpAny_bind (wpAny_letGo ?_)
      cases k with
      | false =>
        simp only [Bool.false_eq_true, if_false] at o2 ⊢
        obtain ⟨n', hn, hs'⟩ := kap () [] s1 o2 hG1 I1 rfl fun b _ o e => e
        exact wpAny_pure ⟨plainId_quiet F.plain_any_loop _, ih n' hn s1 hs'⟩
      | true =>
        simp only [if_true] at o2 ⊢
        exact wpAny_bind (wpAny_rule (wpAny_pure (hR true H1 s1 I1 o2)))
    · obtain rfl := (hG _ _).mp hG1
      exact wpAny_bind (wpAny_rule (wpAny_pure (hR false H1 s1 I1 (hf _ _ f1))))
end

/-! ### sum -/
section
variable {D : GD Int} {A : Around} {R : Result → Shared → Prop}
theorem sum_loop (Qb : Int → Hp → Prop) (S : Addr) (hAw : D.Aw = A.in1.in1) (hh : A.handled = none) (hroom : A.depth < recursionLimit) (hP : D.Pinned)
    (hk : ∀ i h h', D.tn i h → (∀ b ∈ D.fp, ∀ o, h.get? b = some o → h'.get? b = some o) → D.tn i h')
    (ho : ∀ a y H Nx, D.out a y H Nx → ∃ k, y = .int k ∧ Nx (a + k) H) (hf : ∀ a H, D.fin a H → Qb a H)
    (hG : ∀ a ps, D.G a ps ↔ ∃ t c, ps = [(S, lstObj #[.int a t] c)])
    (hS1 : D.X.s_0.heap.objs.size ≤ S) (hS2 : S ≠ D.X.env.locals) (hS3 : ∀ x c, D.X.env.cells.lookup x = some c → c ≠ S) (hS4 : ∀ p ∈ D.X.pn, p.1 ≠ S) (hS5 : S ∉ D.fp)
    (hR : ∀ b t ps H s', Inv D.X ps D.σw H s' → Qb b H → R (.ok (.ret (.int b t))) s') :
    ∀ (n : Nat) (s : Shared) (al : Int) (ps : List (Addr × Obj)) (st : Int), (st = 0 ∨ st = 2) → D.At n al ps s → codeAny (model D.X.prog D.X.w) A (.builtin "sum.loop" ⟨[.ref D.a, .ref S, rawInt st, rawInt 0], []⟩) R s := by
  have grow : ∀ {ps : List (Addr × Obj)} {a b : Int} {H : Hp} {s : Shared} {t tk : Nat} {h' : Heap} {c : Nat}, D.G a ps → Inv D.X ps D.σw H s → (∀ b o, b ≠ S → s.heap.get? b = some o → h'.get? b = some o) → h'.get? S = some (lstObj #[.int b t] c) →
      Inv D.X [(S, lstObj #[.int b t] c)] D.σw H { s with heap := h', toks := tk } := fun {ps a b H s t tk h' c} hGa I hkp hnew => by
    obtain ⟨t0, c0, rfl⟩ := (hG _ _).mp hGa
    obtain ⟨eS, hS0, hSL, hSf, _⟩ := I.pin (S, lstObj #[.int a t0] c0) (List.mem_append_right _ List.mem_cons_self)
    have I0 : Inv D.X [] D.σw H s := I.pins_of fun p hp => absurd hp (by simp)
    have nc : ∀ b, b ∉ [S] → b ≠ S := fun b hb e => hb (by rw [e]; exact List.mem_singleton.mpr rfl)
    have nt : ∀ b u, H b = some u → b ≠ S := fun b u q hb => by
      rw [hb] at q
      rw [show H S = none from hS0] at q
      cases q
    have J : Inv D.X [] D.σw H { s with heap := h', gens := s.gens, drawn := s.drawn, toks := tk } := by
      refine I0.step (g' := s.gens) (t' := tk) (d' := s.drawn) (ch := [S]) (fun b hb => ?_)
        (fun b ob _ _ hc q _ => hkp b ob (nc b hc) q) (fun b ob _ _ hc q _ => ⟨ob.slots, hkp b ob (nc b hc) q⟩) (fun _ _ _ _ n => n) (fun b ob hc q => ⟨ob, hkp b ob (nc b hc) q⟩)
        (fun _ _ q => q) (fun _ _ _ q => q) (fun b ps q => ⟨#[], by rw [q]; simp⟩) (fun m hm => ?_) (fun b u q => ?_) I.bare
      · rw [List.mem_singleton.mp hb]
        refine ⟨.inr hS1, hS2, hS3, fun p hp => ?_⟩
        rcases List.mem_append.mp hp with hp | hp
        · exact hS4 p hp
        · exact absurd hp (by simp)
      · obtain ⟨ob, es, ep, ho, r⟩ := hm
        exact ⟨ob, es, ep, hkp _ ob (Ne.symm hSL) ho, r⟩
      · refine (I0.hok b u q).stay (fun c v hc y => hkp c v ?_ y) (fun _ y => y) fun _ _ y => y
        rcases hc with y | y
        · rw [y]; exact nt b u q
        · exact nt c _ y
    refine J.pins_of fun p hp => ?_
    have e : p = (S, lstObj #[.int b t] c) := by simpa using hp
    subst e
    exact ⟨hnew, hS0, hSL, hSf, fun v q => by cases q⟩
  intro n
  induction n using Nat.strongRecOn with
  | ind n ih =>
    intro s al ps st hst hs
    obtain ⟨_, _, _, _, hGa, I, _, _⟩ := id hs
    obtain ⟨t0, c0, e0⟩ := (hG _ _).mp hGa
    have hS : s.heap.get? S = some (lstObj #[.int al t0] c0) := (I.pin (S, lstObj #[.int al t0] c0) (List.mem_append_right _ (by rw [e0]; exact List.mem_cons_self))).1
    refine codeAny_builtin F.entry_sum_loop ?_
    rw [Around.under_plainId F.plain_sum_loop _]
    show wpAny _ A.in1 (seqItems? (.ref S) >>= _) _ _ s
    refine wpAny_bind (wpAny_seqItems hS rfl ?_)
    show wpAny _ A.in1 (tryCatch (pyNext (.ref D.a)) _ >>= _) _ _ s
    refine wpAny_bind (wpAny_tryCatch (pull hAw hh hroom hP hs (fun a1 ps1 y v H1 s1 Nx hz1 hG1 ry I1 o1 kap => ?_) (fun a1 ps1 H1 s1 hz1 hG1 I1 f1 => ?_) hk))
    · obtain ⟨k, rfl, o2⟩ := ho _ _ _ _ o1
      obtain ⟨t, rfl⟩ := ry
      obtain ⟨t1, c1, e1⟩ := (hG _ _).mp hG1
      have q := hz1 (S, lstObj #[.int a1 t1] c1) (by rw [e1]; exact List.mem_cons_self)
      rw [show s.heap.get? S = some (lstObj #[.int al t0] c0) from hS] at q
      have q1 : (#[Value.int al t0] : Array Value) = #[Value.int a1 t1] ∧ c0 = c1 := by
        have := congrArg Obj.data (Option.some.inj q)
        injection this with x1 x2
        exact ⟨x1, x2⟩
      obtain ⟨q1, q2⟩ := q1
      have q3 : Value.int al t0 = Value.int a1 t1 := by
        have := congrArg Array.toList q1
        simpa using this
      injection q3 with q4 q5
      subst q4 q5 q2
      have hS' : s1.heap.get? S = some (lstObj #[.int al t0] c0) := (I1.pin (S, lstObj #[.int al t0] c0) (List.mem_append_right _ (by rw [e1]; exact List.mem_cons_self))).1
      have again : ∀ {h' : Heap} {tk tA c' : Nat} {st' : Int}, (st' = 0 ∨ st' = 2) → (∀ b o, b ≠ S → s1.heap.get? b = some o → h'.get? b = some o) → h'.get? S = some (lstObj #[.int (al + k) tA] c') →
          codeAny (model D.X.prog D.X.w) A (.builtin "sum.loop" ⟨[.ref D.a, .ref S, rawInt st', rawInt 0], []⟩) R { s1 with heap := h', toks := tk } := fun {h' tk tA c' st'} hst' hkp hnew => by
        have hG2 : D.G (al + k) [(S, lstObj #[.int (al + k) tA] c')] := (hG _ _).mpr ⟨_, _, rfl⟩
        obtain ⟨n', hn, hs'⟩ := kap (al + k) _ { s1 with heap := h', toks := tk } o2 hG2 (grow hG1 I1 hkp hnew) rfl fun b hb o e => hkp b o (fun z => hS5 (z ▸ hb)) e
        exact ih n' hn _ _ _ _ hst' hs'
      rcases hst with rfl | rfl
      · show wpAny _ A.in1 (if (_ : Bool) = true then (mkInt (al + k) >>= _) else _) _ _ _
        split
        · refine wpAny_bind (wpAny_mkInt ?_)
          show wpAny _ A.in1 (updateSeq S (fun _ => #[.int (al + k) s1.toks]) >>= _) _ _ _
          refine wpAny_bind ?_
          refine wpAny_updateSeq hS' rfl (wpAny_pure ⟨plainId_quiet F.plain_sum_loop _, again (tA := s1.toks) (.inl rfl) (fun b o hb e => (Heap.get?_update_other _ _ (Ne.symm hb)).trans e) (Heap.get?_update_self _ hS' rfl)⟩)
        · refine wpAny_bind (wpAny_rule ?_)
          refine wpAny_bind (wpAny_attempt (wpAny_holding (wpAny_add_int ?_)))
          show wpAny _ A.in1 (updateSeq S (fun _ => #[.int (al + k) s1.toks]) >>= _) _ _ _
          refine wpAny_bind (wpAny_updateSeq hS' rfl ?_)
          have hS₂ := Heap.get?_update_self (Obj.mapSeq fun _ => #[Value.int (al + k) s1.toks]) hS' rfl
          refine wpAny_bind (wpAny_letGo ?_)
          refine wpAny_bind (wpAny_updateSeq hS₂ rfl (wpAny_pure ⟨plainId_quiet F.plain_sum_loop _, again (tA := s1.toks) (.inr rfl) (fun b o hb e => (Heap.get?_update_other _ _ (Ne.symm hb)).trans ((Heap.get?_update_other _ _ (Ne.symm hb)).trans e)) (Heap.get?_update_self _ hS₂ rfl)⟩))
      · show wpAny _ A.in1 ((holding [Value.int k t] (binaryOp .Add (.int al t0) (.int k t))).attempt >>= _) _ _ _
        refine wpAny_bind (wpAny_attempt (wpAny_holding (wpAny_add_int ?_)))
        show wpAny _ A.in1 (updateSeq S (fun _ => #[.int (al + k) s1.toks]) >>= _) _ _ _
        refine wpAny_bind (wpAny_updateSeq hS' rfl ?_)
        have hS₂ := Heap.get?_update_self (Obj.mapSeq fun _ => #[Value.int (al + k) s1.toks]) hS' rfl
        refine wpAny_bind (wpAny_letGo ?_)
        refine wpAny_bind (wpAny_updateSeq hS₂ rfl (wpAny_pure ⟨plainId_quiet F.plain_sum_loop _, again (tA := s1.toks) (.inr rfl) (fun b o hb e => (Heap.get?_update_other _ _ (Ne.symm hb)).trans ((Heap.get?_update_other _ _ (Ne.symm hb)).trans e)) (Heap.get?_update_self _ hS₂ rfl)⟩))
    · obtain ⟨t1, c1, e1⟩ := (hG _ _).mp hG1
      have q := hz1 (S, lstObj #[.int a1 t1] c1) (by rw [e1]; exact List.mem_cons_self)
      rw [show s.heap.get? S = some (lstObj #[.int al t0] c0) from hS] at q
      have q3 : Value.int al t0 = Value.int a1 t1 := by
        have := congrArg Obj.data (Option.some.inj q)
        injection this with x1 x2
        have := congrArg Array.toList x1
        simpa using this
      injection q3 with q4 q5
      subst q4
      exact wpAny_pure (hR al t0 ps1 H1 s1 I1 (hf _ _ f1))
end
end Gx
end
section
set_option Elab.async false
set_option linter.all false
set_option maxRecDepth 100000
set_option maxHeartbeats 4000000
namespace Gx
open PySem PySem.Spec PyProof.Rows L2 GxR GenW

section
variable {α : Type}
/-- a generator has been made and not begun -/
structure Made (X : Cx) (pins : List (Addr × Obj)) (σ : L2.St) (out : α → V → Hp → (α → Hp → Prop) → Prop) (fin : α → Hp → Prop) (a0 : α) (X' : Cx) (Aw : Around) (σw : L2.St) (fp : List Addr) (tn : Nat → Heap → Prop) (a : Addr) (g n : Nat) (s5 : Shared) : Prop where
  prog : X'.prog = X.prog
  w : X'.w = X.w
  gen : s5.heap.IsGen a g
  pinned : ∀ ps H s, Inv X' ps σw H s → s.heap.IsGen a g
  back : ∀ ps H s, Inv X' ps σw H s → Inv X pins σ H s
  old : X'.s_0.heap.objs.size ≤ s5.heap.objs.size ∧ X'.env.locals < s5.heap.objs.size ∧ (∀ x c, X'.env.cells.lookup x = some c → c < s5.heap.objs.size) ∧ (∀ p ∈ X'.pn, p.1 < s5.heap.objs.size) ∧ (∀ b ∈ fp, b < s5.heap.objs.size)
  keep : ∀ i h h', tn i h → (∀ b ∈ fp, ∀ o, h.get? b = some o → h'.get? b = some o) → tn i h'
  go : ∀ (G : α → List (Addr × Obj) → Prop), (∀ a ps, G a ps → ∀ p ∈ ps, ∀ b ∈ fp, p.1 ≠ b) → ∀ s6 ps, (∀ b o, s5.heap.get? b = some o → s6.heap.get? b = some o) → s6.gens = s5.gens → s6.os = s5.os → G a0 ps →
    (∀ p ∈ ps, s6.heap.get? p.1 = some p.2 ∧ s5.heap.objs.size ≤ p.1 ∧ ∀ v, p.2.data ≠ .cell v) → (GD.mk X' Aw σw fp tn G out fin a g).At n a0 ps s6
variable {X : Cx} {pins : List (Addr × Obj)} {σ : L2.St} {H : Hp} {s : Shared}

theorem gen_made {c P : Addr} {elt tg iter : Expr} {ifs : List Expr} {scope : Scope} {own : List (Str × Nat)} {gpos : Pos} {wi : TI} {g : TG} {tt : TT} {te : TE} {k : Nat} {Q' : Value → Shared → Prop} (a0 : α) (out : α → V → Hp → (α → Hp → Prop) → Prop) (fin : α → Hp → Prop)
    (hr : Room (k + 1) X.A) (hc : X.calm = true) (hN : X.N.Nodup) (TB : TabB X.base X.mg c P) (hcode : X.env.code = .ref c) (ok : BlkOk X.N X.env.scope scope own) (hnc : ∀ y ∈ scope.names, y.2 ≠ .cell) (hdot : scope.names.lookup (".0" : Str) = some NameKind.local) (hco : scope.isCoroutine = false)
    (hi : PI X tg iter wi)
    (hg : ∀ s H C code fp A' pn, Room k A' → PG (Cxg X s H (gEnv X scope C code) fp A' pn) tg g) (ht : ∀ s H C code fp A' pn, Room k A' → PTs (Cxg X s H (gEnv X scope C code) fp A' pn) ifs tt) (he : ∀ s H C code fp A' pn, Room k A' → PE (Cxg X s H (gEnv X scope C code) fp A' pn) elt te)
    (hs : ∀ v, genFold iter X.env v = pure v) (I : Inv X pins σ H s)
    (h : wi σ H fun J H1 => TabG H1 P ∧ ∀ H2, Tabbed P H1 H2 → ∃ W : Nat → Nat → α → Hp → Prop, (∃ m, W 0 m a0 H2) ∧ TurnsG J g tt te σ (own.map (·.2)) out fin W)
    (hQ : ∀ X' σw fp tn a g n s5, Made X pins σ out fin a0 X' X.A.in1.in1 σw fp tn a g n s5 → Q' (.ref a) s5) :
    wpAny (model X.prog X.w) X.A (eval (GE elt tg iter ifs scope gpos) X.env) Q' X.xe s := by
  have hfree : ∀ y ∈ scope.names, y.2 = .free → ∃ c, X.env.cells.lookup y.1 = some c := fun y hy e => by
    rcases ok.free y hy e with k | k
    · exact I.ok.has _ (.inl k)
    · exact I.ok.has _ (.inr k)
  refine wpAny_GeneratorExp_make hco (closure_ok hfree) hnc hdot ok.kind (by have := hr.dp; omega) ?_ hs
  refine thn (hi.run pins s σ H _ I h) fun xv s1 hx => thn hx fun itv s2 h2 => ?_
  obtain ⟨it, fp, tn, J, H2, e, I2, T, st2, f2, ⟨⟨ps, hP, ht3⟩, q⟩⟩ := h2
  subst e
  refine ⟨I2.nolimit, ?_⟩
  have hPs : s2.heap.get? P = some { cls := .none, data := .fields ps } := I2.hok P _ hP
  have cd : PySem.W.CodeHd s2.heap c P := TB.code.keeps fun b u e => I2.bk b u e
  have fpP : ∀ b ∈ fp, b ≠ P := fun b hb z => by
    have := (f2 b hb).1
    rw [z, hP] at this
    cases this
  have sz : ∀ b ∈ fp, b < s2.heap.objs.size := fun b hb => by
    obtain ⟨o, e, _⟩ := T.obj _ _ st2 b hb
    exact Heap.lt_size e
  have cont : ∀ (code : Value) (h3 : Heap) (tk : Nat) (ps' : Array Value), Heap.ExtBut P s2.heap h3 → s2.heap.objs.size ≤ h3.objs.size → h3.get? P = some { cls := .none, data := .fields ps' } → (∃ more, ps' = ps ++ more) → TriplesOk ps'.toList →
      wpAny (model X.prog X.w) X.A (builtinsFor X.env.globals X.env.builtins) (fun bi s₄ =>
        ∀ h', h'.Ns s₄.heap.objs.size (fun y => if y = ".0" then some (Value.ref it) else none) → Heap.SameBut s₄.heap.objs.size (s₄.heap.push { cls := .type "frame", data := .dict #[] }) h' →
          Q' (.ref h'.objs.size) { s₄ with
            gens := s₄.gens.push (.fresh (.compStart (GE elt tg iter ifs scope gpos) 0 (.ref it) .none (genEnv scope (cloFrom X.env.cells scope.names []) s₄.heap.objs.size code bi X.env))),
            toks := s₄.toks + 1 + 1 + 1,
            heap := h'.push { cls := .type "generator", data := .fields #[.int s₄.gens.size 0, .str "<genexpr>" (s₄.toks + 1), .str (X.env.qual ++ "<genexpr>") (s₄.toks + 1 + 1)] } }) X.xe { s2 with heap := h3, toks := tk } := by
    intro code h3 tk ps' hx hsz hP3 hmore htr
    obtain ⟨more, rfl⟩ := hmore
    obtain ⟨bm, ob, e1, e2, e3, e4, e5, e6, e7, e8⟩ := TB.bm
    have keep3 : ∀ b u, b ≠ P → s2.heap.get? b = some u → h3.get? b = some u := fun b u hb e => hx b u hb e
    refine wpAny_builtinsFor (m := X.mg) (by rw [I2.ok.glob]; exact (I2.mod.glob.keeps I2.bk).extBut hx TB.gP) e1 e2 (keep3 _ _ e4 (I2.bk _ _ e5)) e6 e7 e8 ?_
    have I4 := inv_tab (more := more) (h' := h3) (g' := s2.gens) (d' := s2.drawn) (t' := tk) I2 hP keep3 hP3 I2.bare
    have hTab : Tabbed P H2 (upd H2 P (.tbl (ps ++ more))) := ⟨⟨_, upd_same, htr⟩, fun b hb => upd_ne hb⟩
    generalize hH4 : upd H2 P (.tbl (ps ++ more)) = H4 at I4 hTab
    generalize hs4 : ({ s2 with heap := h3, gens := s2.gens, drawn := s2.drawn, toks := tk } : Shared) = s4 at I4
    intro h' hn' hs'
    have hh3 : s4.heap = h3 := by rw [← hs4]
    have hsz' : h'.objs.size = s4.heap.objs.size + 1 := by rw [hs'.1, Heap.size_push]
    have keep' : ∀ b o, s4.heap.get? b = some o → h'.get? b = some o := fun b o e => hs'.extBut b o (Nat.ne_of_lt (Heap.lt_size e)) (Heap.get?_push_of_some _ e)
    have f4 : ∀ b ∈ fp, FpOk X pins H4 b ∧ b < s4.heap.objs.size := fun b hb => by
      refine ⟨⟨?_, (f2 b hb).2⟩, ?_⟩
      · rw [← hH4, upd_ne (fpP b hb)]; exact (f2 b hb).1
      · rw [hh3]; exact Nat.lt_of_lt_of_le (sz b hb) hsz
    have st4 : tn 0 s4.heap := T.keep _ _ _ st2 fun b hb o e => by rw [hh3]; exact keep3 b o (fpP b hb) e
    obtain ⟨W, ⟨m0, w0⟩, tw⟩ := q H4 hTab
    generalize hgo : ({ cls := .type "generator", data := .fields #[.int s4.gens.size 0, .str "<genexpr>" (s4.toks + 1), .str (X.env.qual ++ "<genexpr>") (s4.toks + 1 + 1)] } : Obj) = go
    have hgd : ∀ v, go.data ≠ .cell v := fun v z => by rw [← hgo] at z; cases z
    have hgen : ∀ hh : Heap, hh.get? h'.objs.size = some go → hh.IsGen h'.objs.size s4.gens.size := fun hh e => ⟨go, _, _, e, by rw [← hgo], by rw [← hgo], by rw [← hgo]⟩
    generalize hs5 : ({ s4 with gens := s4.gens.push (.fresh (.compStart (GE elt tg iter ifs scope gpos) 0 (.ref it) .none (genEnv scope (cloFrom X.env.cells scope.names []) s4.heap.objs.size code builtinsNs X.env))), toks := s4.toks + 1 + 1 + 1, heap := h'.push go } : Shared) = s5
    have h5 : s5.heap = h'.push go := by rw [← hs5]
    have g5 : s5.gens = s4.gens.push (.fresh (.compStart (GE elt tg iter ifs scope gpos) 0 (.ref it) .none (gEnv X scope s4.heap.objs.size code))) := by rw [← hs5]
    have k5 : ∀ b o, s4.heap.get? b = some o → s5.heap.get? b = some o := fun b o e => by rw [h5]; exact Heap.get?_push_of_some _ (keep' b o e)
    have b5 : AllBare s5.gens := by rw [g5]; exact AllBare.push I4.bare rfl
    have o5 : s5.os = s4.os := by rw [← hs5]
    have n5 : s5.heap.Ns s4.heap.objs.size (fun y => if y = ".0" then some (Value.ref it) else none) := by rw [h5]; exact hn'.push _
    have go5 : s5.heap.get? (s4.heap.objs.size + 1) = some go := by rw [h5, ← hsz']; exact Heap.get?_push_size _ (by rw [← hgo]; rfl)
    have ge5 : s5.heap.get? h'.objs.size = some go := by rw [hsz']; exact go5
    -- the around of its turns
    generalize hA' : X.A.in1.in1.over (.compLoop (GE elt tg iter ifs scope gpos) 0 (.ref it) .none (gEnv X scope s4.heap.objs.size code)) [] = A'
    have frA : A'.frames = some (gEnv X scope s4.heap.objs.size code :: X.stack) := by
      rw [← hA']
      show pushEnvs [gEnv X scope s4.heap.objs.size code] (pushEnvs [] X.A.frames) = _
      rw [I4.ok.frames]
      rfl
    have hdA : A'.handled = none := by
      rw [← hA']
      exact hr.hd
    have rA : Room k A' := by
      rw [← hA']
      refine ⟨hr.hd, ?_, ?_⟩
      · have := hr.dp
        show X.A.depth + 0 + 1 + 3 * k + 5 < _
        omega
      · have := hr.un
        show X.A.units + 1 + 1 + 0 + 3 + 16 * k + 200 < _
        omega
    have mk : ∀ {s6 : Shared}, (∀ b o, s5.heap.get? b = some o → s6.heap.get? b = some o) → s6.gens = s5.gens → s6.os = s5.os →
        Inv (Cxg X s4 H4 (gEnv X scope s4.heap.objs.size code) fp A' [(s4.heap.objs.size + 1, go)]) [] (wipe σ (own.map (·.2))) H4 s6 := fun {s6} hk6 hg6 ho6 =>
      gen_start I4 ok hN hnc f4 frA (fun _ => hdA) (fun b o e => hk6 b o (k5 b o e)) (ho6.trans o5) (by rw [hg6]; exact b5) (Heap.Ns.keeps n5 hk6) (hk6 _ _ go5) hgd
    have sz5 : s5.heap.objs.size = s4.heap.objs.size + 2 := by rw [h5, Heap.size_push, hsz']
    have cellO : ∀ x c, (gEnv X scope s4.heap.objs.size code).cells.lookup x = some c → c < s4.heap.objs.size := fun x c e => by
      have I5 := mk (s6 := s5) (fun _ _ e => e) rfl rfl
      rcases cloFrom_mem (PySem.mem_of_lookup (show (cloFrom X.env.cells scope.names []).lookup x = some c from e)) with hm | ⟨h1, rfl⟩
      · cases hm
      · obtain ⟨c, hc⟩ := hfree _ h1 rfl
        rw [hc]
        obtain ⟨w, z⟩ := I4.cell _ _ hc
        exact z.lt
    refine hQ (Cxg X s4 H4 (gEnv X scope s4.heap.objs.size code) fp A' [(s4.heap.objs.size + 1, go)]) (wipe σ (own.map (·.2))) fp tn h'.objs.size s4.gens.size (m0 + 1) s5 ⟨rfl, rfl, hgen _ ge5, fun ps H s' I' => ?_, fun ps H s' I' => ?_, ⟨?_, ?_, fun x c e => ?_, fun p hp => ?_, fun b hb => ?_⟩, T.keep, fun G hG s6 ps hk6 hg6 ho6 hG0 hps => ?_⟩
    · have := (I'.pin (s4.heap.objs.size + 1, go) (List.mem_append_left _ (List.mem_singleton.mpr rfl))).1
      refine hgen _ ?_
      rw [hsz']
      exact this
    · exact I4.call' (ch := fp) I'.os I'.base I'.hok I'.bare fun b hb => ⟨(f4 b hb).1.2.2.2.1, (f4 b hb).1.2.1, (f4 b hb).1.2.2.2.2.1, (f4 b hb).1.2.2.2.2.2⟩
    · show s4.heap.objs.size ≤ _
      rw [sz5]; exact Nat.le_add_right _ _
    · show s4.heap.objs.size < _
      rw [sz5]; exact Nat.lt_add_of_pos_right (by decide)
    · rw [sz5]; exact Nat.lt_of_lt_of_le (cellO x c e) (Nat.le_add_right _ _)
    · have e : p = (s4.heap.objs.size + 1, go) := by simpa using hp
      rw [e, sz5]
      exact Nat.lt_succ_self _
    · rw [sz5]; exact Nat.lt_of_lt_of_le (f4 b hb).2 (Nat.le_add_right _ _)
    · have I6 := mk hk6 hg6 ho6
      have st6 : tn 0 s6.heap := T.keep _ _ _ st4 fun b _ o e => hk6 b o (k5 b o e)
      have young : ∀ p ∈ ps, s5.heap.objs.size ≤ p.1 := fun p hp => (hps p hp).2.1
      have I6p : Inv (Cxg X s4 H4 (gEnv X scope s4.heap.objs.size code) fp A' [(s4.heap.objs.size + 1, go)]) ps (wipe σ (own.map (·.2))) H4 s6 := I6.pins_of fun p hp => by
        obtain ⟨q1, q2, q3⟩ := hps p hp
        have q4 : s4.heap.objs.size + 2 ≤ p.1 := by rw [← sz5]; exact q2
        refine ⟨q1, I4.hok.fresh (Nat.le_trans (Nat.le_add_right _ 2) q4), Nat.ne_of_gt (Nat.lt_of_lt_of_le (Nat.lt_add_of_pos_right (by decide)) q4), fun z => ?_, q3⟩
        obtain ⟨_, o, ho, _⟩ := I4.stack.mem z
        exact absurd (Nat.lt_of_lt_of_le (Heap.lt_size ho) (Nat.le_trans (Nat.le_add_right _ 2) q4)) (Nat.lt_irrefl _)
      have fnone : ∀ b ∈ fp, H4 b = none := fun b hb => (f4 b hb).1.1
      refine ⟨_, H4, 0, by rw [hg6, g5]; exact Array.getElem?_push_size .., hG0, I6p, st6, fun al ps' s7 eal hG7 I7 st7 => ?_⟩
      subst eal
      refine ⟨rfl, seg_begin (X' := Cxg X s4 H4 (gEnv X scope s4.heap.objs.size code) fp A' [(s4.heap.objs.size + 1, go)]) T st7 ?_⟩
      refine seg_loop (X' := Cxg X s4 H4 (gEnv X scope s4.heap.objs.size code) fp A' [(s4.heap.objs.size + 1, go)]) T hA' (hg s4 H4 _ code fp A' _ rA) (ht s4 H4 _ code fp A' _ rA) (he s4 H4 _ code fp A' _ rA) hc rfl rfl hco
        (fun p hp b hb => ?_) hG tw m0 (m0 + 1) 0 al ps' s7 s7 H4 (Nat.le_refl _) (fun p hp => (I7.pin p (List.mem_append_right _ hp)).1) hG7 w0 I7 st7 fnone
      have e : p = (s4.heap.objs.size + 1, go) := by simpa using hp
      rw [e]
      exact Nat.ne_of_gt (Nat.lt_succ_of_lt (f4 b hb).2)
  cases hf : codeAmong gpos ps.toList with
  | none =>
    refine wpAny_genexprCodeX hcode (cd.code hPs ht3) (cd.tab hPs) hf fun c' h' tk hx hge hlt hco' _ htab' _ => ?_
    obtain ⟨o1, vs, f1, tf, fl, tg, inF, tx, tt, op, _, _, _, _, _, _, _, _, _, htr, _⟩ := hco'
    exact cont _ h' tk _ hx (Nat.le_trans hge (Nat.le_of_lt hlt)) htab'.2 ⟨_, rfl⟩ htr
  | some cv =>
    refine wpAny_genexprCode_hit hcode (cd.code hPs ht3) hf ?_
    exact cont cv s2.heap s2.toks ps (Heap.ExtBut.refl _ _) (Nat.le_refl _) hPs ⟨#[], by simp⟩ ht3
end
end Gx
end
section
set_option Elab.async false
set_option linter.all false
set_option maxRecDepth 100000
set_option maxHeartbeats 4000000
namespace Gx
open PySem PySem.Spec PyProof.Rows L2 GxR GenW

def tGen {α : Type} (P : Addr) (wi : TI) (g : TG) (tt : TT) (te : TE) (vs : List Nat) (a0 : α) (out : α → V → Hp → (α → Hp → Prop) → Prop) (fin : α → Hp → Prop) : L2.St → Hp → Prop := fun σ H =>
  wi σ H fun J H1 => TabG H1 P ∧ ∀ H2, Tabbed P H1 H2 → ∃ W : Nat → Nat → α → Hp → Prop, (∃ m, W 0 m a0 H2) ∧ TurnsG J g tt te σ vs out fin W
def outAll (Q : VK) : Unit → V → Hp → (Unit → Hp → Prop) → Prop := fun _ y H Nx => ∃ k, y = .bl k ∧ if k = true then Nx () H else Q (.bl false) H
def outAny (Q : VK) : Unit → V → Hp → (Unit → Hp → Prop) → Prop := fun _ y H Nx => ∃ k, y = .bl k ∧ if k = true then Q (.bl true) H else Nx () H
def outSum : Int → V → Hp → (Int → Hp → Prop) → Prop := fun a y H Nx => ∃ k, y = .int k ∧ Nx (a + k) H
def tAllG (P : Addr) (wi : TI) (g : TG) (tt : TT) (te : TE) (vs : List Nat) : TE := fun σ H Q => tGen P wi g tt te vs () (outAll Q) (fun _ H => Q (.bl true) H) σ H
def tAnyG (P : Addr) (wi : TI) (g : TG) (tt : TT) (te : TE) (vs : List Nat) : TE := fun σ H Q => tGen P wi g tt te vs () (outAny Q) (fun _ H => Q (.bl false) H) σ H
def tSumG (P : Addr) (wi : TI) (g : TG) (tt : TT) (te : TE) (vs : List Nat) : TE := fun σ H Q => tGen P wi g tt te vs (0 : Int) outSum (fun a H => Q (.int a) H) σ H

section
variable {X : Cx} {c P : Addr} {elt tg iter : Expr} {ifs : List Expr} {scope : Scope} {own : List (Str × Nat)} {gpos p pos : Pos} {wi : TI} {g : TG} {tt : TT} {te : TE} {k : Nat}
theorem pe_allG (hr : Room (k + 1) X.A) (hc : X.calm = true) (hN : X.N.Nodup) (hgl : Gl X "all") (hm : X.mg "all" = none) (TB : TabB X.base X.mg c P) (hcode : X.env.code = .ref c) (ok : BlkOk X.N X.env.scope scope own) (hnc : ∀ y ∈ scope.names, y.2 ≠ .cell) (hdot : scope.names.lookup (".0" : Str) = some NameKind.local)
    (hco : scope.isCoroutine = false) (hi : PI X tg iter wi)
    (hg : ∀ s H C code fp A' pn, Room k A' → PG (Cxg X s H (gEnv X scope C code) fp A' pn) tg g) (ht : ∀ s H C code fp A' pn, Room k A' → PTs (Cxg X s H (gEnv X scope C code) fp A' pn) ifs tt) (he : ∀ s H C code fp A' pn, Room k A' → PE (Cxg X s H (gEnv X scope C code) fp A' pn) elt te)
    (hs : ∀ v, genFold iter X.env v = pure v := by intro _; rfl) (hst : starEach [GE elt tg iter ifs scope gpos] X.env = (false, eval (GE elt tg iter ifs scope gpos) X.env) :: starEach [] X.env := by rfl) :
    PE X (.Call (.Name "all" p) [GE elt tg iter ifs scope gpos] [] pos) (tAllG P wi g tt te (own.map (·.2))) := by
  refine ⟨fun pins s σ H Q I h => ?_⟩
  refine wpAny_Call_Name_kw (ld_blt I hgl hm (by decide +kernel : bootBuiltins "all" = some (.builtin "all")) ?_)
  refine PyProof.Rows.callWith_builtin1 ?_ hst (by rfl)
  rw [hst]
  show wpAny _ _ (spliced ((false, eval (GE elt tg iter ifs scope gpos) X.env) :: backTo pos (starEach [] X.env))) _ _ s
  refine Calls.spliced_cons (gen_made () _ _ hr hc hN TB hcode ok hnc hdot hco hi hg ht he hs I h fun X' σw fp tn a gg n s5 M => ?_)
  refine Calls.spliced_nil ?_
  refine call_function_tree F.kind_all F.plain_all F.entry_all (F.args_all1 _) ?_
  unfold Builtin.«all»
  refine wpAny_bind (m := oneArg "all" _) (wpAny_pure ?_)
  refine wpAny_bind (wpAny_pyIter_gen M.gen ?_)
  refine wpAny_pure ⟨plainId_quiet F.plain_all_loop _, ?_⟩
  have L := all_loop (D := GD.mk X' X.A.in1.in1 σw fp tn (fun (_ : Unit) ps => ps = []) (outAll Q) (fun _ H => Q (.bl true) H) a gg) (A := X.A) (R := fun r s' => match r with | .ok (.ret v) => EP X pins σ Q v s' | .ok _ => False | .error e => X.xe e s') (fun b H => Q (.bl b) H) rfl hr.hd (by have := hr.dp; omega) M.pinned M.keep (fun _ _ _ _ o => o) (fun _ _ q => q) (fun _ _ => Iff.rfl)
    (fun b H s' I' q => ⟨.bl b, H, M.back _ _ _ I', rfl, q⟩) n s5 (M.go _ (fun a ps e p hp => by rw [e] at hp; cases hp) s5 [] (fun _ _ e => e) rfl rfl rfl (fun p hp => by cases hp))
  have e1 := M.prog
  have e2 := M.w
  rw [e1, e2] at L
  exact L
theorem pe_anyG (hr : Room (k + 1) X.A) (hc : X.calm = true) (hN : X.N.Nodup) (hgl : Gl X "any") (hm : X.mg "any" = none) (TB : TabB X.base X.mg c P) (hcode : X.env.code = .ref c) (ok : BlkOk X.N X.env.scope scope own) (hnc : ∀ y ∈ scope.names, y.2 ≠ .cell) (hdot : scope.names.lookup (".0" : Str) = some NameKind.local)
    (hco : scope.isCoroutine = false) (hi : PI X tg iter wi)
    (hg : ∀ s H C code fp A' pn, Room k A' → PG (Cxg X s H (gEnv X scope C code) fp A' pn) tg g) (ht : ∀ s H C code fp A' pn, Room k A' → PTs (Cxg X s H (gEnv X scope C code) fp A' pn) ifs tt) (he : ∀ s H C code fp A' pn, Room k A' → PE (Cxg X s H (gEnv X scope C code) fp A' pn) elt te)
    (hs : ∀ v, genFold iter X.env v = pure v := by intro _; rfl) (hst : starEach [GE elt tg iter ifs scope gpos] X.env = (false, eval (GE elt tg iter ifs scope gpos) X.env) :: starEach [] X.env := by rfl) :
    PE X (.Call (.Name "any" p) [GE elt tg iter ifs scope gpos] [] pos) (tAnyG P wi g tt te (own.map (·.2))) := by
  refine ⟨fun pins s σ H Q I h => ?_⟩
  refine wpAny_Call_Name_kw (ld_blt I hgl hm boot_any ?_)
  refine PyProof.Rows.callWith_builtin1 ?_ hst (by rfl)
  rw [hst]
  show wpAny _ _ (spliced ((false, eval (GE elt tg iter ifs scope gpos) X.env) :: backTo pos (starEach [] X.env))) _ _ s
  refine Calls.spliced_cons (gen_made () _ _ hr hc hN TB hcode ok hnc hdot hco hi hg ht he hs I h fun X' σw fp tn a gg n s5 M => ?_)
  refine Calls.spliced_nil ?_
  refine call_function_tree F.kind_any F.plain_any F.entry_any (F.args_any1 _) ?_
  unfold Builtin.«any»
  refine wpAny_bind (m := oneArg "any" _) (wpAny_pure ?_)
  refine wpAny_bind (wpAny_pyIter_gen M.gen ?_)
  refine wpAny_pure ⟨plainId_quiet F.plain_any_loop _, ?_⟩
  have L := any_loop (D := GD.mk X' X.A.in1.in1 σw fp tn (fun (_ : Unit) ps => ps = []) (outAny Q) (fun _ H => Q (.bl false) H) a gg) (A := X.A) (R := fun r s' => match r with | .ok (.ret v) => EP X pins σ Q v s' | .ok _ => False | .error e => X.xe e s') (fun b H => Q (.bl b) H) rfl hr.hd (by have := hr.dp; omega) M.pinned M.keep (fun _ _ _ _ o => o) (fun _ _ q => q) (fun _ _ => Iff.rfl)
    (fun b H s' I' q => ⟨.bl b, H, M.back _ _ _ I', rfl, q⟩) n s5 (M.go _ (fun a ps e p hp => by rw [e] at hp; cases hp) s5 [] (fun _ _ e => e) rfl rfl rfl (fun p hp => by cases hp))
  have e1 := M.prog
  have e2 := M.w
  rw [e1, e2] at L
  exact L
theorem pe_sumG (hr : Room (k + 1) X.A) (hc : X.calm = true) (hN : X.N.Nodup) (hgl : Gl X "sum") (hm : X.mg "sum" = none) (TB : TabB X.base X.mg c P) (hcode : X.env.code = .ref c) (ok : BlkOk X.N X.env.scope scope own) (hnc : ∀ y ∈ scope.names, y.2 ≠ .cell) (hdot : scope.names.lookup (".0" : Str) = some NameKind.local)
    (hco : scope.isCoroutine = false) (hi : PI X tg iter wi)
    (hg : ∀ s H C code fp A' pn, Room k A' → PG (Cxg X s H (gEnv X scope C code) fp A' pn) tg g) (ht : ∀ s H C code fp A' pn, Room k A' → PTs (Cxg X s H (gEnv X scope C code) fp A' pn) ifs tt) (he : ∀ s H C code fp A' pn, Room k A' → PE (Cxg X s H (gEnv X scope C code) fp A' pn) elt te)
    (hs : ∀ v, genFold iter X.env v = pure v := by intro _; rfl) (hst : starEach [GE elt tg iter ifs scope gpos] X.env = (false, eval (GE elt tg iter ifs scope gpos) X.env) :: starEach [] X.env := by rfl) :
    PE X (.Call (.Name "sum" p) [GE elt tg iter ifs scope gpos] [] pos) (tSumG P wi g tt te (own.map (·.2))) := by
  refine ⟨fun pins s σ H Q I h => ?_⟩
  refine wpAny_Call_Name_kw (ld_blt I hgl hm (by decide +kernel : bootBuiltins "sum" = some (.builtin "sum")) ?_)
  refine PyProof.Rows.callWith_builtin1 ?_ hst (by rfl)
  rw [hst]
  show wpAny _ _ (spliced ((false, eval (GE elt tg iter ifs scope gpos) X.env) :: backTo pos (starEach [] X.env))) _ _ s
  refine Calls.spliced_cons (gen_made 0 _ _ hr hc hN TB hcode ok hnc hdot hco hi hg ht he hs I h fun X' σw fp tn a gg n s5 M => ?_)
  refine Calls.spliced_nil ?_
  refine call_function_tree F.kind_sum F.plain_sum F.entry_sum (F.args_sum1 _) ?_
  unfold Builtin.«sum»
  simp only [List.length_cons, List.length_nil]
  rw [if_neg (by decide)]
  refine wpAny_bind (wpAny_of_eq (show Builtin.Builtins.bindParams "sum" ["start"] 0 { } = pure [none] from rfl) ?_)
  refine wpAny_bind (wpAny_pyIter_gen M.gen ?_)
  refine wpAny_bind (wpAny_mkInt ?_)
  refine wpAny_bind (wpAny_pure ?_)
  simp only [List.forIn_cons, List.forIn_nil]
  refine wpAny_bind (wpAny_bind (wpAny_bind (wpAny_isInstance (T := "int") (b := false) (PySem.typeIs_int _ _ _) PySem.sub_int_str ?_)))
  simp only [Bool.false_eq_true, if_false]
  refine wpAny_pure (wpAny_bind (wpAny_bind (wpAny_isInstance (T := "int") (b := false) (PySem.typeIs_int _ _ _) PySem.sub_int_bytes ?_)))
  simp only [Bool.false_eq_true, if_false]
  refine wpAny_pure (wpAny_bind (wpAny_bind (wpAny_isInstance (T := "int") (b := false) (PySem.typeIs_int _ _ _) PySem.sub_int_bytearray ?_)))
  simp only [Bool.false_eq_true, if_false]
  refine wpAny_pure (wpAny_pure ?_)
  refine wpAny_bind (wpAny_newObj_type ?_)
  obtain ⟨o1, o2, o3, o4, o5⟩ := M.old
  refine wpAny_pure ⟨plainId_quiet F.plain_sum_loop _, ?_⟩
  have L := sum_loop (D := GD.mk X' X.A.in1.in1 σw fp tn (fun (b : Int) ps => ∃ t c, ps = [(s5.heap.objs.size, lstObj #[.int b t] c)]) outSum (fun a H => Q (.int a) H) a gg) (A := X.A) (R := fun r s' => match r with | .ok (.ret v) => EP X pins σ Q v s' | .ok _ => False | .error e => X.xe e s') (fun b H => Q (.int b) H) s5.heap.objs.size rfl hr.hd (by have := hr.dp; omega) M.pinned M.keep (fun _ _ _ _ o => o) (fun _ _ q => q) (fun _ _ => Iff.rfl)
    o1 (Nat.ne_of_gt o2) (fun x c e => Nat.ne_of_lt (o3 x c e)) (fun p hp => Nat.ne_of_lt (o4 p hp)) (fun hp => Nat.lt_irrefl _ (o5 _ hp))
    (fun b t ps H s' I' q => ⟨.int b, H, M.back _ _ _ I', ⟨t, rfl⟩, q⟩) n { s5 with heap := s5.heap.push { cls := .type "list", data := .seq #[.int 0 s5.toks] }, toks := s5.toks + 1 } 0 [(s5.heap.objs.size, lstObj #[.int 0 s5.toks] 0)] 0 (.inl rfl)
    (M.go _ (fun a ps e p hp b hb => by
      obtain ⟨t, c, e⟩ := e
      rw [e] at hp
      rw [List.mem_singleton.mp hp]
      exact Nat.ne_of_gt (o5 b hb)) _ _ (fun b o e => Heap.get?_push_of_some _ e) rfl rfl ⟨_, _, rfl⟩ (fun p hp => by
        rw [List.mem_singleton.mp hp]
        exact ⟨Heap.get?_push_size _ rfl, Nat.le_refl _, fun v z => by cases z⟩))
  have e1 := M.prog
  have e2 := M.w
  rw [e1, e2] at L
  exact L
end
end Gx
end
section
set_option Elab.async false
set_option linter.all false
set_option maxRecDepth 100000
set_option maxHeartbeats 4000000
namespace Dl
open PySem PySem.Spec PyProof.Rows L2 GxR Gx

/-- data as the program sees them -/
inductive D where
  | non | bl (b : Bool) | int (i : Int) | str (x : Str)
  | lst (ds : List D) | tup (ds : List D)
  | scr (ns : List Int)
  | dic (ks : List Key) (ds : List D)
  | ins (C : Addr) (fs : List Str) (ds : List D)

mutual
def Rp (K : PySem.W.Frag) (H : Hp) : D → V → Prop
  | .non, v => v = .non
  | .bl b, v => v = .bl b
  | .int i, v => v = .int i
  | .str x, v => v = .str x
  | .lst ds, v => ∃ a xs, v = .ref a ∧ H a = some (.lst xs) ∧ RpL K H ds xs
  | .tup ds, v => ∃ a xs, v = .ref a ∧ H a = some (.tup xs) ∧ RpL K H ds xs
  | .scr ns, v => ∃ a, v = .ref a ∧ SqL K H a (ns.map V.int)
  | .dic ks ds, v => ∃ a xs, v = .ref a ∧ H a = some (.dK (ks.zip xs)) ∧ ks.length = xs.length ∧ RpL K H ds xs
  | .ins C fs ds, v => ∃ a dx xs, v = .ref a ∧ H a = some (.ins C dx (fs.zip xs)) ∧ fs.length = xs.length ∧ RpL K H ds xs
def RpL (K : PySem.W.Frag) (H : Hp) : List D → List V → Prop
  | [], xs => xs = []
  | d :: ds, xs => ∃ x r, xs = x :: r ∧ Rp K H d x ∧ RpL K H ds r
end

/-! ### heaps that grow -/
def Sm (F F' : Hp) : Prop := ∀ b o, F b = some o → F' b = some o
/-- what was tracked stays; a table may grow -/
def Ext (H H' : Hp) : Prop := ∀ b o, H b = some o → H' b = some o ∨ ∃ ps ps', o = .tbl ps ∧ H' b = some (.tbl ps') ∧ (TriplesOk ps.toList → TriplesOk ps'.toList)
def NoTbl (F : Hp) : Prop := ∀ b ps, F b ≠ some (.tbl ps)
theorem Sm.refl {F : Hp} : Sm F F := fun _ _ e => e
theorem Sm.trans {F G H : Hp} (a : Sm F G) (b : Sm G H) : Sm F H := fun x o e => b x o (a x o e)
theorem Sm.ext {F G : Hp} (a : Sm F G) : Ext F G := fun b o e => .inl (a b o e)
theorem Ext.refl {F : Hp} : Ext F F := fun _ _ e => .inl e
theorem Ext.trans {F G H : Hp} (a : Ext F G) (b : Ext G H) : Ext F H := fun x o e => by
  rcases a x o e with h | ⟨ps, ps', rfl, h, k⟩
  · exact b x o h
  · rcases b x _ h with h2 | ⟨qs, qs', e2, h2, k2⟩
    · exact .inr ⟨ps, ps', rfl, h2, k⟩
    · cases e2
      exact .inr ⟨ps, qs', rfl, h2, fun z => k2 (k z)⟩
theorem Ext.at {H H' : Hp} (a : Ext H H') {b : Addr} {o : HO} (e : H b = some o) (n : ∀ ps, o ≠ .tbl ps) : H' b = some o := by
  rcases a b o e with h | ⟨ps, _, h, _⟩
  · exact h
  · exact absurd h (n ps)
theorem Ext.none {H H' : Hp} (a : Ext H H') {b : Addr} (e : H' b = Option.none) : H b = Option.none := by
  cases q : H b with
  | none => rfl
  | some o =>
    rcases a b o q with h | ⟨_, _, _, h, _⟩ <;> rw [e] at h <;> cases h
theorem Ext.some {H H' : Hp} (a : Ext H H') {b : Addr} (e : H b ≠ Option.none) : H' b ≠ Option.none := fun z => e (a.none z)
theorem Sm.of_ext {G H H' : Hp} (a : Sm G H) (n : NoTbl G) (x : Ext H H') : Sm G H' := fun b o e => x.at (a b o e) fun ps z => n b ps (z ▸ e)
theorem Sm.none {H H' : Hp} (a : Sm H H') {b : Addr} (e : H' b = Option.none) : H b = Option.none := a.ext.none e
theorem Ext.upd {H : Hp} {p : Addr} {o : HO} (h : H p = Option.none) : Ext H (upd H p o) := fun b x e => .inl (by rw [upd_ne (ne_of_none e h)]; exact e)
theorem Sm.upd {H : Hp} {p : Addr} {o : HO} (h : H p = Option.none) : Sm H (upd H p o) := fun b x e => by rw [upd_ne (ne_of_none e h)]; exact e
theorem Ext.tabbed {H H' : Hp} {P : Addr} (t : Tabbed P H H') (h : TabG H P) : Ext H H' := fun b o e => by
  by_cases hb : b = P
  · obtain ⟨ps, hp, _⟩ := h
    obtain ⟨⟨ps', hp', t'⟩, _⟩ := t
    subst hb
    rw [hp] at e
    cases e
    exact .inr ⟨ps, ps', rfl, hp', fun _ => t'⟩
  · exact .inl (by rw [t.2 b hb]; exact e)

/-- the frozen part F of the heap H grows -/
structure Grow (F H F' H' : Hp) : Prop where
  f : Sm F F'
  h : Ext H H'
  s : Sm F' H'
  n : ∀ b, F' b ≠ none → F b ≠ none ∨ H b = none
  t : NoTbl F'
theorem Grow.trans {F H F' H' F'' H'' : Hp} (a : Grow F H F' H') (b : Grow F' H' F'' H'') : Grow F H F'' H'' :=
  ⟨a.f.trans b.f, a.h.trans b.h, b.s, fun x hx => by
    rcases b.n x hx with q | q
    · exact a.n x q
    · exact .inr (a.h.none q), b.t⟩
theorem Grow.refl {F H : Hp} (s : Sm F H) (t : NoTbl F) : Grow F H F H := ⟨.refl, .refl, s, fun _ h => .inl h, t⟩
/-- a new object, frozen at once -/
theorem Grow.new {F H : Hp} {p : Addr} {o : HO} (s : Sm F H) (t : NoTbl F) (h : H p = none) (ho : ∀ ps, o ≠ .tbl ps) : Grow F H (upd F p o) (upd H p o) :=
  ⟨Sm.upd (s.none h), Ext.upd h, fun b x e => by
    by_cases hb : b = p
    · subst hb; rw [upd_same] at e ⊢; exact e
    · rw [upd_ne hb] at e ⊢; exact s b x e, fun b hb => by
    by_cases hbp : b = p
    · subst hbp; exact .inr h
    · rw [upd_ne hbp] at hb; exact .inl hb, fun b ps e => by
    by_cases hb : b = p
    · subst hb; rw [upd_same] at e; exact ho ps (Option.some.inj e)
    · rw [upd_ne hb] at e; exact t b ps e⟩
/-- only the heap grows -/
theorem Grow.heap {F H H' : Hp} (s : Sm F H) (t : NoTbl F) (x : Ext H H') : Grow F H F H' := ⟨.refl, x, s.of_ext t x, fun _ h => .inl h, t⟩

/-! ### data stay -/
theorem SqL.ext {K : PySem.W.Frag} {H H' : Hp} (x : Ext H H') {a : Addr} {xs : List V} (h : SqL K H a xs) : SqL K H' a xs := by
  rcases h with (h | ⟨o, h⟩) | h
  · exact .inl (.inl (x.at h fun _ z => nomatch z))
  · exact .inl (.inr ⟨o, x.at h fun _ z => nomatch z⟩)
  · exact .inr h
theorem SqT.ext {K : PySem.W.Frag} {H H' : Hp} (x : Ext H H') {a : Addr} {xs : List V} (h : SqT K H a xs) : SqT K H' a xs := by
  rcases h with (h | ⟨o, h⟩) | h
  · exact .inl (.inl (x.at h fun _ z => nomatch z))
  · exact .inl (.inr ⟨o, x.at h fun _ z => nomatch z⟩)
  · exact .inr h
mutual
theorem Rp.ext {K : PySem.W.Frag} {H H' : Hp} (x : Ext H H') : ∀ (d : D) (v : V), Rp K H d v → Rp K H' d v
  | .non, _, h => h
  | .bl _, _, h => h
  | .int _, _, h => h
  | .str _, _, h => h
  | .lst ds, _, ⟨a, xs, e, s, r⟩ => ⟨a, xs, e, x.at s (fun _ z => nomatch z), RpL.ext x ds xs r⟩
  | .tup ds, _, ⟨a, xs, e, s, r⟩ => ⟨a, xs, e, x.at s (fun _ z => nomatch z), RpL.ext x ds xs r⟩
  | .scr _, _, ⟨a, e, s⟩ => ⟨a, e, SqL.ext x s⟩
  | .dic _ ds, _, ⟨a, xs, e, s, l, r⟩ => ⟨a, xs, e, x.at s (fun _ z => nomatch z), l, RpL.ext x ds xs r⟩
  | .ins _ _ ds, _, ⟨a, dx, xs, e, s, l, r⟩ => ⟨a, dx, xs, e, x.at s (fun _ z => nomatch z), l, RpL.ext x ds xs r⟩
theorem RpL.ext {K : PySem.W.Frag} {H H' : Hp} (x : Ext H H') : ∀ (ds : List D) (xs : List V), RpL K H ds xs → RpL K H' ds xs
  | [], _, h => h
  | d :: ds, _, ⟨y, r, e, h, t⟩ => ⟨y, r, e, Rp.ext x d y h, RpL.ext x ds r t⟩
end
theorem RpL.length {K : PySem.W.Frag} {H : Hp} : ∀ {ds : List D} {xs : List V}, RpL K H ds xs → ds.length = xs.length
  | [], _, h => by rw [show _ = [] from h]; rfl
  | d :: ds, _, ⟨y, r, e, h, t⟩ => by rw [e, List.length_cons, List.length_cons, RpL.length t]
theorem RpL.get {K : PySem.W.Frag} {H : Hp} : ∀ {ds : List D} {xs : List V} {i : Nat} {d : D}, RpL K H ds xs → ds[i]? = some d → ∃ x, xs[i]? = some x ∧ Rp K H d x
  | [], _, _, _, _, e => by simp at e
  | d :: ds, _, 0, d', ⟨y, r, e, h, t⟩, g => by
    rw [List.getElem?_cons_zero] at g; cases g
    exact ⟨y, by rw [e]; rfl, h⟩
  | d :: ds, _, i + 1, d', ⟨y, r, e, h, t⟩, g => by
    rw [List.getElem?_cons_succ] at g
    obtain ⟨x, h1, h2⟩ := RpL.get t g
    exact ⟨x, by rw [e, List.getElem?_cons_succ]; exact h1, h2⟩
theorem RpL.app {K : PySem.W.Frag} {H : Hp} : ∀ {ds es : List D} {xs ys : List V}, RpL K H ds xs → RpL K H es ys → RpL K H (ds ++ es) (xs ++ ys)
  | [], es, xs, ys, h, g => by rw [show xs = [] from h]; exact g
  | d :: ds, es, _, ys, ⟨y, r, e, h, t⟩, g => ⟨y, r ++ ys, by rw [e]; rfl, h, RpL.app t g⟩
theorem RpL.one {K : PySem.W.Frag} {H : Hp} {d : D} {x : V} (h : Rp K H d x) : RpL K H [d] [x] := ⟨x, [], rfl, h, rfl⟩
theorem RpL.take {K : PySem.W.Frag} {H : Hp} : ∀ {ds : List D} {xs : List V} (n : Nat), RpL K H ds xs → RpL K H (ds.take n) (xs.take n)
  | _, _, 0, _ => by rw [List.take_zero, List.take_zero]; rfl
  | [], _, n + 1, h => by rw [show _ = [] from h]; exact rfl
  | d :: ds, _, n + 1, ⟨y, r, e, h, t⟩ => by rw [e]; exact ⟨y, r.take n, rfl, h, RpL.take n t⟩
theorem RpL.drop {K : PySem.W.Frag} {H : Hp} : ∀ {ds : List D} {xs : List V} (n : Nat), RpL K H ds xs → RpL K H (ds.drop n) (xs.drop n)
  | _, _, 0, h => h
  | [], _, n + 1, h => by rw [show _ = [] from h]; exact rfl
  | d :: ds, _, n + 1, ⟨y, r, e, h, t⟩ => by rw [e]; exact RpL.drop n t
theorem RpL.set {K : PySem.W.Frag} {H : Hp} {d' : D} {x' : V} (h' : Rp K H d' x') : ∀ {ds : List D} {xs : List V} (n : Nat), RpL K H ds xs → RpL K H (ds.set n d') (xs.set n x')
  | [], _, _, h => by rw [show _ = [] from h]; exact rfl
  | d :: ds, _, 0, ⟨y, r, e, h, t⟩ => by rw [e]; exact ⟨x', r, rfl, h', t⟩
  | d :: ds, _, n + 1, ⟨y, r, e, h, t⟩ => by rw [e]; exact ⟨y, r.set n x', rfl, h, RpL.set h' n t⟩
/-- plain values -/
def scal : D → Bool
  | .non | .bl _ | .int _ | .str _ => true
  | _ => false
theorem Rp.scal {K K' : PySem.W.Frag} {H H' : Hp} {d : D} {v : V} (s : scal d = true) (h : Rp K H d v) : Rp K' H' d v := by
  cases d <;> first | exact h | cases s
def allScal : List D → Bool
  | [] => true
  | d :: ds => Dl.scal d && allScal ds
theorem RpL.scal {K K' : PySem.W.Frag} {H H' : Hp} : ∀ {ds : List D} {xs : List V}, allScal ds = true → RpL K H ds xs → RpL K' H' ds xs
  | [], _, _, h => h
  | d :: ds, _, s, ⟨y, r, e, h, t⟩ => by
    unfold allScal at s
    rw [Bool.and_eq_true] at s
    exact ⟨y, r, e, Rp.scal s.1 h, RpL.scal s.2 t⟩

/-! ### the younger part of the frozen heap -/
def lv (nw : Bool) (R F : Hp) : Hp := fun b => if (nw && (R b).isSome) = true then none else F b
theorem lv_sub {nw : Bool} {R F : Hp} : Sm (lv nw R F) F := fun b o e => by
  unfold lv at e
  split at e
  · cases e
  · exact e
theorem lv_mono {nw : Bool} {R F F' : Hp} (s : Sm F F') : Sm (lv nw R F) (lv nw R F') := fun b o e => by
  unfold lv at e ⊢
  split at e
  · cases e
  · rename_i h
    rw [if_neg h]
    exact s b o e
theorem lv_false {R F : Hp} : lv false R F = F := by
  funext b
  unfold lv
  simp
theorem lv_and {a b : Bool} {R F : Hp} : Sm (lv a R F) (lv (a && b) R F) := fun x o e => by
  unfold lv at e ⊢
  split at e
  · cases e
  · rename_i h
    rw [if_neg (fun z => h ?_)]
    · exact e
    · simp only [Bool.and_eq_true] at z ⊢
      exact ⟨z.1.1, z.2⟩
theorem lv_and' {a b : Bool} {R F : Hp} : Sm (lv b R F) (lv (a && b) R F) := by rw [Bool.and_comm]; exact lv_and
theorem lv_new {nw : Bool} {R F : Hp} {p : Addr} {o : HO} (h : F p = some o) (hR : R p = none) : lv nw R F p = some o := by
  unfold lv
  rw [hR]
  simp [h]

/-! ### the local state -/
inductive C where
  | d (nw : Bool) (d : D)
  | own (nw : Bool) (ds : List D)
  | dp (d : D)
  | dic (nw : Bool) (ks : List Key) (ds : List D)
abbrev DS := List (Option C)
def Cok (K : PySem.W.Frag) (R F G : Hp) : C → V → Prop
  | .d nw d, v => Rp K (lv nw R F) d v
  | .own nw ds, v => ∃ p xs, v = .ref p ∧ G p = some (.lst xs) ∧ RpL K (lv nw R F) ds xs
  | .dp d, v => Rp K G d v
  | .dic nw ks ds, v => ∃ p xs, v = .ref p ∧ G p = some (.dK (ks.zip xs)) ∧ ks.length = xs.length ∧ RpL K (lv nw R F) ds xs
theorem Cok.mono {K : PySem.W.Frag} {R F F' G : Hp} (s : Sm F F') : ∀ {c : C} {v : V}, Cok K R F G c v → Cok K R F' G c v
  | .d _ d, v, h => Rp.ext (lv_mono s).ext d v h
  | .own _ ds, _, ⟨p, xs, e, g, r⟩ => ⟨p, xs, e, g, RpL.ext (lv_mono s).ext ds xs r⟩
  | .dp _, _, h => h
  | .dic _ _ ds, _, ⟨p, xs, e, g, l, r⟩ => ⟨p, xs, e, g, l, RpL.ext (lv_mono s).ext ds xs r⟩
/-- a region: its objects, apart from the frozen ones and from those of the entry -/
structure Reg (H0 F H G : Hp) : Prop where
  s : Sm G H
  n : ∀ b, G b ≠ none → F b = none ∧ H0 b = none
  t : NoTbl G
theorem Reg.grow {H0 F H F' H' G : Hp} (r : Reg H0 F H G) (g : Grow F H F' H') : Reg H0 F' H' G :=
  ⟨r.s.of_ext r.t g.h, fun b hb => ⟨by
    cases q : F' b with
    | none => rfl
    | some o =>
      rcases g.n b (by rw [q]; exact fun z => nomatch z) with z | z
      · exact absurd (r.n b hb).1 z
      · exact absurd (r.s.none z) hb, (r.n b hb).2⟩, r.t⟩
structure RelG (K : PySem.W.Frag) (R H0 : Hp) (G : Nat → Hp) (τ : DS) (σ : L2.St) (F H : Hp) : Prop where
  g : Grow R H0 F H
  reg : ∀ i, Reg H0 F H (G i)
  dis : ∀ i j b, i ≠ j → G i b ≠ none → G j b = none
  len : τ.length = σ.length
  cell : ∀ i c, τ[i]? = some (some c) → ∃ v, σ[i]? = some (some v) ∧ Cok K R F (G i) c v
def Rel (K : PySem.W.Frag) (R H0 : Hp) (τ : DS) (σ : L2.St) (F H : Hp) : Prop := ∃ G, RelG K R H0 G τ σ F H
theorem RelG.grow {K : PySem.W.Frag} {R H0 : Hp} {G : Nat → Hp} {τ : DS} {σ : L2.St} {F H F' H' : Hp} (r : RelG K R H0 G τ σ F H) (g : Grow F H F' H') : RelG K R H0 G τ σ F' H' :=
  ⟨r.g.trans g, fun i => (r.reg i).grow g, r.dis, r.len, fun i c e => let ⟨v, h1, h2⟩ := r.cell i c e; ⟨v, h1, h2.mono g.f⟩⟩
theorem Rel.grow {K : PySem.W.Frag} {R H0 : Hp} {τ : DS} {σ : L2.St} {F H F' H' : Hp} (r : Rel K R H0 τ σ F H) (g : Grow F H F' H') : Rel K R H0 τ σ F' H' := let ⟨G, r⟩ := r; ⟨G, r.grow g⟩
theorem Rel.s {K : PySem.W.Frag} {R H0 : Hp} {τ : DS} {σ : L2.St} {F H : Hp} (r : Rel K R H0 τ σ F H) : Sm F H := let ⟨_, r⟩ := r; r.g.s
theorem Rel.t {K : PySem.W.Frag} {R H0 : Hp} {τ : DS} {σ : L2.St} {F H : Hp} (r : Rel K R H0 τ σ F H) : NoTbl F := let ⟨_, r⟩ := r; r.g.t
theorem Rel.g {K : PySem.W.Frag} {R H0 : Hp} {τ : DS} {σ : L2.St} {F H : Hp} (r : Rel K R H0 τ σ F H) : Grow R H0 F H := let ⟨_, r⟩ := r; r.g
theorem Rel.refl {K : PySem.W.Frag} {R H0 : Hp} {τ : DS} {σ : L2.St} {F H : Hp} (r : Rel K R H0 τ σ F H) : Grow F H F H := .refl r.s r.t
def emp : Hp := fun _ => none
theorem Reg.emp {H0 F H : Hp} : Reg H0 F H emp := ⟨fun _ _ e => (by cases e), fun _ h => absurd rfl h, fun _ _ e => (by cases e)⟩

/-- a value on its way: its own region, young -/
structure Pend (F H F' H' Gp : Hp) : Prop where
  g : Grow F H F' H'
  s : Sm Gp H'
  n : ∀ b, Gp b ≠ none → F' b = none ∧ H b = none
  t : NoTbl Gp

/-- a cell is stored -/
theorem RelG.store {K : PySem.W.Frag} {R H0 : Hp} {G : Nat → Hp} {τ : DS} {σ : L2.St} {F H F' H' Gp : Hp} {c : C} {v : V} {i : Nat} (r : RelG K R H0 G τ σ F H) (p : Pend F H F' H' Gp) (h : Cok K R F' Gp c v) :
    RelG K R H0 (fun j => if j = i then Gp else G j) (τ.set i (some c)) (σ.set i (some v)) F' H' := by
  have r' := r.grow p.g
  have old : ∀ j b, G j b ≠ none → Gp b = none := fun j b hb => by
    cases q : Gp b with
    | none => rfl
    | some o =>
      have := (p.n b (by rw [q]; exact fun z => nomatch z)).2
      exact absurd ((r.reg j).s.none this) hb
  refine ⟨r'.g, fun j => ?_, fun j k b hjk hb => ?_, by rw [List.length_set, List.length_set]; exact r.len, fun j c' e => ?_⟩
  · by_cases hj : j = i
    · simp only [hj, if_true]
      exact ⟨p.s, fun b hb => ⟨(p.n b hb).1, r.g.h.none (p.n b hb).2⟩, p.t⟩
    · simp only [hj, if_false]
      exact r'.reg j
  · by_cases hj : j = i
    · have hk : k ≠ i := fun z => hjk (hj.trans z.symm)
      simp only [hj, if_true] at hb
      simp only [hk, if_false]
      cases q : G k b with
      | none => rfl
      | some o => exact absurd (old k b (by rw [q]; exact fun z => nomatch z)) hb
    · simp only [hj, if_false] at hb
      by_cases hk : k = i
      · simp only [hk, if_true]
        exact old j b hb
      · simp only [hk, if_false]
        exact r.dis j k b hjk hb
  · by_cases hj : j = i
    · subst hj
      have hlt : j < τ.length := by
        rcases Nat.lt_or_ge j τ.length with z | z
        · exact z
        · rw [List.getElem?_eq_none (by rw [List.length_set]; exact z)] at e; cases e
      rw [List.getElem?_set_self hlt] at e
      cases e
      refine ⟨v, List.getElem?_set_self (by rw [← r.len]; exact hlt), ?_⟩
      simp only [if_true]
      exact h
    · rw [List.getElem?_set_ne (Ne.symm hj)] at e
      obtain ⟨u, h1, h2⟩ := r'.cell j c' e
      refine ⟨u, by rw [List.getElem?_set_ne (Ne.symm hj)]; exact h1, ?_⟩
      simp only [hj, if_false]
      exact h2
theorem Rel.store {K : PySem.W.Frag} {R H0 : Hp} {τ : DS} {σ : L2.St} {F H F' H' Gp : Hp} {c : C} {v : V} {i : Nat} (r : Rel K R H0 τ σ F H) (p : Pend F H F' H' Gp) (h : Cok K R F' Gp c v) :
    Rel K R H0 (τ.set i (some c)) (σ.set i (some v)) F' H' := let ⟨_, r⟩ := r; ⟨_, r.store p h⟩
theorem Grow.pend {F H F' H' : Hp} (g : Grow F H F' H') : Pend F H F' H' emp := ⟨g, fun _ _ e => (by cases e), fun _ h => absurd rfl h, fun _ _ e => (by cases e)⟩

/-- joining a region to the frozen part -/
def join (F G : Hp) : Hp := fun b => if (G b).isSome then G b else F b
theorem join_g {F G : Hp} {b : Addr} {o : HO} (h : G b = some o) : join F G b = some o := by unfold join; rw [h]; rfl
theorem join_f {F G : Hp} {b : Addr} (h : G b = none) : join F G b = F b := by unfold join; rw [h]; rfl
theorem Pend.join {F H F' H' Gp : Hp} (p : Pend F H F' H' Gp) : Grow F H (join F' Gp) H' := by
  refine ⟨fun b o e => ?_, p.g.h, fun b o e => ?_, fun b hb => ?_, fun b ps e => ?_⟩
  · have e' := p.g.f b o e
    cases q : Gp b with
    | none => rw [join_f q]; exact e'
    | some u =>
      have := (p.n b (by rw [q]; exact fun z => nomatch z)).1
      rw [e'] at this; cases this
  · cases q : Gp b with
    | none => rw [join_f q] at e; exact p.g.s b o e
    | some u => rw [join_g q] at e; cases e; exact p.s b _ q
  · cases q : Gp b with
    | none => rw [join_f q] at hb; exact p.g.n b hb
    | some u => exact .inr (p.n b (by rw [q]; exact fun z => nomatch z)).2
  · cases q : Gp b with
    | none => rw [join_f q] at e; exact p.g.t b ps e
    | some u => rw [join_g q] at e; cases e; exact p.t b ps q
/-- the data of a cell, its flag -/
def frz : C → Bool × D
  | .d nw d => (nw, d)
  | .own nw ds => (nw, .lst ds)
  | .dp d => (true, d)
  | .dic nw ks ds => (nw, .dic ks ds)
theorem Cok.frz {K : PySem.W.Frag} {R F G : Hp} (hd : ∀ b, G b ≠ none → F b = none ∧ R b = none) : ∀ {c : C} {v : V}, Cok K R F G c v → Rp K (lv (frz c).1 R (join F G)) (frz c).2 v := by
  have sm : Sm F (join F G) := fun b o e => by
    cases q : G b with
    | none => rw [join_f q]; exact e
    | some u =>
      have := (hd b (by rw [q]; exact fun z => nomatch z)).1
      rw [e] at this; cases this
  have top : ∀ {nw : Bool} {p : Addr} {o : HO}, G p = some o → lv nw R (join F G) p = some o := fun {nw p o} e => lv_new (join_g e) (hd p (by rw [e]; exact fun z => nomatch z)).2
  intro c v h
  cases c with
  | d nw d => exact Rp.ext (lv_mono sm).ext d v h
  | own nw ds =>
    obtain ⟨p, xs, rfl, e, r⟩ := h
    exact ⟨p, xs, rfl, top e, RpL.ext (lv_mono sm).ext ds xs r⟩
  | dp d => exact Rp.ext (Sm.ext fun b o e => top e) d v h
  | dic nw ks ds =>
    obtain ⟨p, xs, rfl, e, l, r⟩ := h
    exact ⟨p, xs, rfl, top e, l, RpL.ext (lv_mono sm).ext ds xs r⟩
/-- a slot is frozen -/
def fz (i : Nat) (τ : DS) : DS := match τ[i]? with
  | some (some c) => τ.set i (some (.d (frz c).1 (frz c).2))
  | _ => τ
theorem Rel.fz {K : PySem.W.Frag} {R H0 : Hp} {τ : DS} {σ : L2.St} {F H : Hp} (i : Nat) (r : Rel K R H0 τ σ F H) (hR : Sm R H0) : ∃ F', Sm F F' ∧ Rel K R H0 (fz i τ) σ F' H := by
  obtain ⟨G, r⟩ := r
  unfold Dl.fz
  cases q : τ[i]? with
  | none => exact ⟨F, .refl, G, r⟩
  | some o =>
    cases o with
    | none => exact ⟨F, .refl, G, r⟩
    | some c =>
      obtain ⟨v, h1, h2⟩ := r.cell i c q
      have nn : ∀ {b : Addr} {u : HO}, G i b = some u → G i b ≠ none := fun e z => by rw [z] at e; cases e
      have sm : Sm F (join F (G i)) := fun b o e => by
        cases z : G i b with
        | none => rw [join_f z]; exact e
        | some u =>
          have := ((r.reg i).n b (nn z)).1
          rw [e] at this; cases this
      have hn : ∀ b, G i b ≠ none → F b = none ∧ R b = none := fun b hb => ⟨((r.reg i).n b hb).1, hR.none ((r.reg i).n b hb).2⟩
      have ilt : i < τ.length := by
        rcases Nat.lt_or_ge i τ.length with z | z
        · exact z
        · rw [List.getElem?_eq_none z] at q; cases q
      refine ⟨join F (G i), sm, fun j => if j = i then emp else G j, ⟨r.g.f.trans sm, r.g.h, fun b o e => ?_, fun b hb => ?_, fun b ps e => ?_⟩, fun j => ?_, fun j k b hjk hb => ?_, by rw [List.length_set]; exact r.len, fun j c' e => ?_⟩
      · cases z : G i b with
        | none => rw [join_f z] at e; exact r.g.s b o e
        | some u => rw [join_g z] at e; cases e; exact (r.reg i).s b _ z
      · cases z : G i b with
        | none => rw [join_f z] at hb; exact r.g.n b hb
        | some u => exact .inr ((r.reg i).n b (nn z)).2
      · cases z : G i b with
        | none => rw [join_f z] at e; exact r.g.t b ps e
        | some u => rw [join_g z] at e; cases e; exact (r.reg i).t b ps z
      · by_cases hj : j = i
        · simp only [hj, if_true]; exact Reg.emp
        · simp only [hj, if_false]
          refine ⟨(r.reg j).s, fun b hb => ⟨?_, ((r.reg j).n b hb).2⟩, (r.reg j).t⟩
          rw [join_f (r.dis j i b hj hb)]
          exact ((r.reg j).n b hb).1
      · by_cases hj : j = i
        · simp only [hj, if_true] at hb; exact absurd rfl hb
        · simp only [hj, if_false] at hb
          by_cases hk : k = i
          · simp only [hk, if_true]; rfl
          · simp only [hk, if_false]; exact r.dis j k b hjk hb
      · by_cases hj : j = i
        · subst hj
          rw [List.getElem?_set_self ilt] at e
          cases e
          exact ⟨v, h1, h2.frz hn⟩
        · rw [List.getElem?_set_ne (Ne.symm hj)] at e
          obtain ⟨u, h3, h4⟩ := r.cell j c' e
          refine ⟨u, h3, ?_⟩
          simp only [hj, if_false]
          exact h4.mono sm
/-- a slot is forgotten -/
theorem Rel.drop {K : PySem.W.Frag} {R H0 : Hp} {τ τ' : DS} {σ σ' : L2.St} {F H : Hp} (r : Rel K R H0 τ σ F H) (hl : τ'.length = σ'.length) (h : ∀ (i : Nat) (c : C), τ'[i]? = some (some c) → τ[i]? = some (some c) ∧ σ'[i]? = σ[i]?) : Rel K R H0 τ' σ' F H := by
  obtain ⟨G, r⟩ := r
  exact ⟨G, r.g, r.reg, r.dis, hl, fun i c e => by
    obtain ⟨h1, h2⟩ := h i c e
    obtain ⟨v, h3, h4⟩ := r.cell i c h1
    exact ⟨v, h2.trans h3, h4⟩⟩
end Dl
end
section
set_option Elab.async false
set_option linter.all false
set_option maxRecDepth 100000
set_option maxHeartbeats 4000000
namespace Dl
open PySem PySem.Spec PyProof.Rows L2 GxR Gx

theorem PEmono {X : Cx} {e : Expr} {t t' : TE} (h : PE X e t) (w : ∀ σ H Q, t' σ H Q → t σ H Q) : PE X e t' := ⟨fun pins s σ H Q I q => h.run pins s σ H Q I (w σ H Q q)⟩
theorem PTmono {X : Cx} {e : Expr} {t t' : TT} (h : PT X e t) (w : ∀ σ H Q, t' σ H Q → t σ H Q) : PT X e t' := ⟨fun pins s σ H Q I q => h.run pins s σ H Q I (w σ H Q q)⟩
theorem PWmono {X : Cx} {e : Expr} {t t' : TT} (h : PW X e t) (w : ∀ σ H Q, t' σ H Q → t σ H Q) : PW X e t' := ⟨fun wh pins s σ H Q I q => h.run wh pins s σ H Q I (w σ H Q q)⟩
theorem PAmono {X : Cx} {es : List Expr} {t t' : TA} (h : PA X es t) (w : ∀ σ H Q, t' σ H Q → t σ H Q) : PA X es t' := ⟨fun pos pins s σ H Q I q => h.run pos pins s σ H Q I (w σ H Q q)⟩
theorem PSmono {X : Cx} {st : Stmt} {t t' : TS} (h : PS X st t) (w : ∀ D σ H, t' D σ H → t D σ H) : PS X st t' := ⟨fun pins s σ H D I q => h.run pins s σ H D I (w D σ H q)⟩
theorem PSsmono {X : Cx} {st : List Stmt} {t t' : TS} (h : PSs X st t) (w : ∀ D σ H, t' D σ H → t D σ H) : PSs X st t' := ⟨fun pins s σ H D I q => h.run pins s σ H D I (w D σ H q)⟩

abbrev FE := DS → Option (Bool × D)
abbrev FB := DS → Option D
abbrev FC := DS → Option C
abbrev FT := DS → Option Bool
abbrev FA := DS → Option (Bool × List D)
def tSE (K : PySem.W.Frag) (R H0 : Hp) (f : FE) : TE := fun σ H Q => ∃ F τ nw d, Rel K R H0 τ σ F H ∧ f τ = some (nw, d) ∧ ∀ v F' H', Grow F H F' H' → Rp K (lv nw R F') d v → Q v H'
def tSB (K : PySem.W.Frag) (R H0 : Hp) (f : FB) : TE := fun σ H Q => ∃ F τ d, Rel K R H0 τ σ F H ∧ f τ = some d ∧ ∀ v F' H', Grow F H F' H' → Rp K H' d v → Q v H'
def tSC (K : PySem.W.Frag) (R H0 : Hp) (f : FC) : TE := fun σ H Q => ∃ F τ c, Rel K R H0 τ σ F H ∧ f τ = some c ∧ ∀ v F' H' Gp, Pend F H F' H' Gp → Cok K R F' Gp c v → Q v H'
def tST (K : PySem.W.Frag) (R H0 : Hp) (f : FT) : TT := fun σ H Q => ∃ F τ b, Rel K R H0 τ σ F H ∧ f τ = some b ∧ ∀ F' H', Grow F H F' H' → Q b H'
def tSA (K : PySem.W.Frag) (R H0 : Hp) (f : FA) : TA := fun σ H Q => ∃ F τ nw ds, Rel K R H0 τ σ F H ∧ f τ = some (nw, ds) ∧ ∀ vs F' H', Grow F H F' H' → RpL K (lv nw R F') ds vs → Q vs H'
abbrev SE (R H0 : Hp) (X : Cx) (e : Expr) (f : FE) : Prop := PE X e (tSE X.K R H0 f)
abbrev SB (R H0 : Hp) (X : Cx) (e : Expr) (f : FB) : Prop := PE X e (tSB X.K R H0 f)
abbrev SC (R H0 : Hp) (X : Cx) (e : Expr) (f : FC) : Prop := PE X e (tSC X.K R H0 f)
abbrev ST (R H0 : Hp) (X : Cx) (e : Expr) (f : FT) : Prop := PT X e (tST X.K R H0 f)
abbrev SW (R H0 : Hp) (X : Cx) (e : Expr) (f : FT) : Prop := PW X e (tST X.K R H0 f)
abbrev SA (R H0 : Hp) (X : Cx) (es : List Expr) (f : FA) : Prop := PA X es (tSA X.K R H0 f)

theorem Rp.sm {K : PySem.W.Frag} {H H' : Hp} (s : Sm H H') {d : D} {v : V} (h : Rp K H d v) : Rp K H' d v := Rp.ext s.ext d v h
theorem RpL.sm {K : PySem.W.Frag} {H H' : Hp} (s : Sm H H') {ds : List D} {xs : List V} (h : RpL K H ds xs) : RpL K H' ds xs := RpL.ext s.ext ds xs h

section
variable {R H0 : Hp} {X : Cx} {a b e : Expr} {pos : Pos}
/-! ### coercions -/
def mp {α β : Type} (f : DS → Option α) (g : α → β) : DS → Option β := fun τ => (f τ).map g
theorem mp_some {α β : Type} {f : DS → Option α} {g : α → β} {τ : DS} {z : β} (h : mp f g τ = some z) : ∃ x, f τ = some x ∧ g x = z := by
  unfold mp at h
  cases e1 : f τ with
  | none => rw [e1] at h; cases h
  | some x => rw [e1] at h; exact ⟨x, rfl, Option.some.inj h⟩
def un1 {α β : Type} (f : DS → Option α) (op : α → Option β) : DS → Option β := fun τ => (f τ).bind op
theorem un1_some {α β : Type} {f : DS → Option α} {op : α → Option β} {τ : DS} {z : β} (h : un1 f op τ = some z) : ∃ x, f τ = some x ∧ op x = some z := by
  unfold un1 at h
  cases e1 : f τ with
  | none => rw [e1] at h; cases h
  | some x => rw [e1] at h; exact ⟨x, rfl, h⟩
theorem sb_se {f : FE} (h : SE R H0 X e f) : SB R H0 X e (mp f (·.2)) := PEmono h fun σ H Q ⟨F, τ, d, r, q, k⟩ => by
  obtain ⟨⟨nw, d'⟩, z, rfl⟩ := mp_some q
  exact ⟨F, τ, nw, _, r, z, fun v F' H' g rp => k v F' H' g (Rp.sm (lv_sub.trans g.s) rp)⟩
theorem se_sc {f : FC} (h : SC R H0 X e f) (hR : Sm R H0) : SE R H0 X e (mp f frz) := PEmono h fun σ H Q ⟨F, τ, nw, d, r, q, k⟩ => by
  obtain ⟨c, z, q'⟩ := mp_some q
  refine ⟨F, τ, c, r, z, fun v F' H' Gp p ck => k v _ H' p.join ?_⟩
  have := ck.frz (fun b hb => ⟨(p.n b hb).1, hR.none (r.g.h.none (p.n b hb).2)⟩)
  rw [q'] at this
  exact this
def dC (p : Bool × D) : C := .d p.1 p.2
theorem sc_se {f : FE} (h : SE R H0 X e f) : SC R H0 X e (mp f dC) := PEmono h fun σ H Q ⟨F, τ, c, r, q, k⟩ => by
  obtain ⟨⟨nw, d'⟩, z, rfl⟩ := mp_some q
  exact ⟨F, τ, nw, _, r, z, fun v F' H' g rp => k v F' H' emp g.pend rp⟩
/-- a test from a truth value -/
def boolD : D → Option Bool
  | .bl b => some b
  | _ => none
theorem st_val {f : FB} (h : SB R H0 X e f) (he : ∀ whole, isTrue e X.env whole = (do let v ← whole; standAt e.pos; holding [v] (truthy v)) := by intro _; rfl) : ST R H0 X e (un1 f boolD) := PTmono (pt_val h he) fun σ H Q ⟨F, τ, b, r, q, k⟩ => by
  obtain ⟨d, z, q⟩ := un1_some q
  cases d <;> first | (cases q; done) | skip
  have q' := Option.some.inj q
  subst q'
  exact ⟨F, τ, _, r, z, fun v F' H' g rp => ⟨_, rp, k F' H' g⟩⟩

/-! ### constants, names -/
theorem se_int {i j} : SE R H0 X (.Constant (.int i) j pos) (fun _ => some (true, .int i)) := PEmono pe_int fun σ H Q ⟨F, τ, nw, d, r, q, k⟩ => by
  cases q; exact k _ F H r.refl rfl
theorem se_bl {i j} : SE R H0 X (.Constant (.bool i) j pos) (fun _ => some (true, .bl i)) := PEmono pe_bl fun σ H Q ⟨F, τ, nw, d, r, q, k⟩ => by
  cases q; exact k _ F H r.refl rfl
theorem se_non {j} : SE R H0 X (.Constant .none j pos) (fun _ => some (true, .non)) := PEmono pe_non fun σ H Q ⟨F, τ, nw, d, r, q, k⟩ => by
  cases q; exact k _ F H r.refl rfl
theorem se_str {x j} : SE R H0 X (.Constant (.str x) j pos) (fun _ => some (true, .str x)) := PEmono pe_str fun σ H Q ⟨F, τ, nw, d, r, q, k⟩ => by
  cases q; exact k _ F H r.refl rfl
/-- a module's whole number -/
theorem se_gint {x : Str} {i : Int} {t : Tok} (hg : Gl X x) (hm : X.mg x = some (.int i t)) (hd : (x == ("__debug__" : Str)) = false := by decide) : SE R H0 X (.Name x pos) (fun _ => some (true, .int i)) := PEmono (pe_glob (v := .int i) hg hm ⟨t, rfl⟩ hd) fun σ H Q ⟨F, τ, nw, d, r, q, k⟩ => by
  cases q; exact k _ F H r.refl rfl
def cellD : Option (Option C) → Option (Bool × D)
  | some (some (.d nw d)) => some (nw, d)
  | _ => none
def cellB : Option (Option C) → Option D
  | some (some c) => some (frz c).2
  | _ => none
theorem cellD_some {o : Option (Option C)} {nw : Bool} {d : D} (h : cellD o = some (nw, d)) : o = some (some (.d nw d)) := by
  match o, h with
  | some (some (.d _ _)), h => cases h; rfl
  | some (some (.own _ _)), h => cases h
  | some (some (.dp _)), h => cases h
  | some (some (.dic _ _ _)), h => cases h
  | some none, h => cases h
  | none, h => cases h
theorem cellB_some {o : Option (Option C)} {d : D} (h : cellB o = some d) : ∃ c, o = some (some c) ∧ (frz c).2 = d := by
  match o, h with
  | some (some c), h => exact ⟨c, rfl, Option.some.inj h⟩
  | some none, h => cases h
  | none, h => cases h
def vE (i : Nat) : FE := fun τ => cellD τ[i]?
def vB (i : Nat) : FB := fun τ => cellB τ[i]?
theorem se_var (i : Nat) {x : Str} (hN : X.N[i]? = some x := by rfl) (hv : Vis X.env.scope x := by first | exact Or.inl rfl | exact Or.inr (Or.inl rfl) | exact Or.inr (Or.inr rfl)) (hd : (x == ("__debug__" : Str)) = false := by decide)
    (hcd : (x == ("__classdict__" : Str)) = false := by decide) : SE R H0 X (.Name x pos) (vE i) := PEmono (pe_var hN hv hd hcd) fun σ H Q ⟨F, τ, nw, d, r, q, k⟩ => by
  obtain ⟨G, r⟩ := r
  obtain ⟨v, h1, h2⟩ := r.cell i _ (cellD_some q)
  exact ⟨v, h1, k v F H (.refl r.g.s r.g.t) h2⟩
theorem Cok.borrow {K : PySem.W.Frag} {R F G H : Hp} (sF : Sm F H) (sG : Sm G H) : ∀ {c : C} {v : V}, Cok K R F G c v → Rp K H (Dl.frz c).2 v
  | .d _ d, v, h => Rp.sm (lv_sub.trans sF) h
  | .own _ ds, _, ⟨p, xs, e, g, r⟩ => ⟨p, xs, e, sG p _ g, RpL.sm (lv_sub.trans sF) r⟩
  | .dp _, _, h => Rp.sm sG h
  | .dic _ _ ds, _, ⟨p, xs, e, g, l, r⟩ => ⟨p, xs, e, sG p _ g, l, RpL.sm (lv_sub.trans sF) r⟩
theorem sb_var (i : Nat) {x : Str} (hN : X.N[i]? = some x := by rfl) (hv : Vis X.env.scope x := by first | exact Or.inl rfl | exact Or.inr (Or.inl rfl) | exact Or.inr (Or.inr rfl)) (hd : (x == ("__debug__" : Str)) = false := by decide)
    (hcd : (x == ("__classdict__" : Str)) = false := by decide) : SB R H0 X (.Name x pos) (vB i) := PEmono (pe_var hN hv hd hcd) fun σ H Q ⟨F, τ, d, r, q, k⟩ => by
  obtain ⟨G, r⟩ := r
  obtain ⟨c, e, rfl⟩ := cellB_some q
  obtain ⟨v, h1, h2⟩ := r.cell i _ e
  exact ⟨v, h1, k v F H (.refl r.g.s r.g.t) (h2.borrow r.g.s (r.reg i).s)⟩

/-! ### two operands -/
def bi {α β : Type} (f g : DS → Option α) (op : α → α → Option β) : DS → Option β := fun τ => (f τ).bind fun x => (g τ).bind fun y => op x y
theorem bi_some {α β : Type} {f g : DS → Option α} {op : α → α → Option β} {τ : DS} {z : β} (h : bi f g op τ = some z) : ∃ x y, f τ = some x ∧ g τ = some y ∧ op x y = some z := by
  unfold bi at h
  cases e1 : f τ with
  | none => rw [e1] at h; cases h
  | some x =>
    cases e2 : g τ with
    | none => rw [e1, e2] at h; cases h
    | some y => rw [e1, e2] at h; exact ⟨x, y, rfl, rfl, h⟩
theorem two_se {f g : FE} {ta tb : TE} (ha : ∀ σ H Q, tSE X.K R H0 f σ H Q → ta σ H Q) (hb : ∀ σ H Q, tSE X.K R H0 g σ H Q → tb σ H Q) {σ : L2.St} {H F : Hp} {τ : DS} {x y : Bool × D} {Q : V → V → Hp → Prop} (r : Rel X.K R H0 τ σ F H) (e1 : f τ = some x) (e2 : g τ = some y)
    (k : ∀ v u F' H', Grow F H F' H' → Rp X.K (lv x.1 R F') x.2 v → Rp X.K (lv y.1 R F') y.2 u → Q v u H') : ta σ H fun v H1 => tb σ H1 fun u H2 => Q v u H2 :=
  ha _ _ _ ⟨F, τ, x.1, x.2, r, e1, fun v F1 H1 g1 r1 => hb _ _ _ ⟨F1, τ, y.1, y.2, r.grow g1, e2, fun u F2 H2 g2 r2 => k v u F2 H2 (g1.trans g2) (Rp.sm (lv_mono g2.f) r1) r2⟩⟩
theorem two_sb {f g : FB} {σ : L2.St} {H F : Hp} {τ : DS} {x y : D} {Q : V → V → Hp → Prop} (r : Rel X.K R H0 τ σ F H) (e1 : f τ = some x) (e2 : g τ = some y)
    (k : ∀ v u F' H', Grow F H F' H' → Rp X.K H' x v → Rp X.K H' y u → Q v u H') : tSB X.K R H0 f σ H fun v H1 => tSB X.K R H0 g σ H1 fun u H2 => Q v u H2 :=
  ⟨F, τ, x, r, e1, fun v F1 H1 g1 r1 => ⟨F1, τ, y, r.grow g1, e2, fun u F2 H2 g2 r2 => k v u F2 H2 (g1.trans g2) (Rp.ext g2.h _ _ r1) r2⟩⟩

/-- whole numbers: an operation -/
def oI (C : Int → Int → Bool) (g : Int → Int → D) : D → D → Option (Bool × D)
  | .int i, .int j => if C i j then some (true, g i j) else none
  | _, _ => none
theorem oI_some {C : Int → Int → Bool} {g : Int → Int → D} {x y : D} {nw : Bool} {d : D} (h : oI C g x y = some (nw, d)) : ∃ i j, x = .int i ∧ y = .int j ∧ C i j = true ∧ nw = true ∧ d = g i j := by
  cases x <;> cases y <;> first | (cases h; done) | skip
  rename_i i j
  unfold oI at h
  by_cases c : C i j = true
  · simp only [c, if_true] at h
    cases h
    exact ⟨i, j, rfl, rfl, c, rfl, rfl⟩
  · simp only [c] at h
    cases h
theorem se_opI {f g : FB} {op : Operator} {Cn : Int → Int → Prop} {C : Int → Int → Bool} {gv : Int → Int → V} {gd : Int → Int → D} (ho : OpR X (binaryOp op) (rI Cn gv)) (hC : ∀ i j, C i j = true → Cn i j) (hg : ∀ (H : Hp) i j, Rp X.K H (gd i j) (gv i j)) (ha : SB R H0 X a f) (hb : SB R H0 X b g) :
    SE R H0 X (.BinOp a op b pos) (bi f g (oI C gd)) := PEmono (pe_op ho ha hb) fun σ H Q ⟨F, τ, nw, d, r, q, k⟩ => by
  obtain ⟨x, y, e1, e2, q⟩ := bi_some q
  obtain ⟨i, j, rfl, rfl, c, rfl, rfl⟩ := oI_some q
  exact two_sb r e1 e2 fun v u F' H' g' r1 r2 => ⟨i, j, r1, r2, hC i j c, k _ F' H' g' (hg _ i j)⟩
theorem OpR.rI_of {X : Cx} {f : Value → Value → Sem Value} {g : Int → Int → V} (h : OpR X f (rI0 g)) : OpR X f (rI (fun _ _ => True) g) := fun pins s σ H x y v u Q I rx ry q => by
  obtain ⟨i, j, e1, e2, _, q⟩ := q
  exact h pins s σ H x y v u Q I rx ry ⟨i, j, e1, e2, q⟩
def yes2 : Int → Int → Bool := fun _ _ => true
theorem se_sub {f g : FB} (ha : SB R H0 X a f) (hb : SB R H0 X b g) : SE R H0 X (.BinOp a .Sub b pos) (bi f g (oI yes2 fun i j => .int (i - j))) :=
  se_opI (OpR.rI_of op_sub) (fun _ _ _ => trivial) (fun _ _ _ => rfl) ha hb
def sm64 (i j : Int) : Bool := (decide (-(2 ^ 64) < i) && decide (i < 2 ^ 64)) || (decide (-(2 ^ 64) < j) && decide (j < 2 ^ 64))
theorem sm64_ok {i j : Int} (h : sm64 i j = true) : CMul i j := by
  unfold sm64 at h
  rw [Bool.or_eq_true, Bool.and_eq_true, Bool.and_eq_true, decide_eq_true_eq, decide_eq_true_eq, decide_eq_true_eq, decide_eq_true_eq] at h
  exact h
theorem se_fdiv {f g : FB} (ha : SB R H0 X a f) (hb : SB R H0 X b g) : SE R H0 X (.BinOp a .FloorDiv b pos) (bi f g (oI (fun _ j => decide (0 < j) && decide (j < 1073741824)) fun i j => .int (i / j))) :=
  se_opI op_fdiv (fun i j h => by rw [Bool.and_eq_true, decide_eq_true_eq, decide_eq_true_eq] at h; exact h) (fun _ _ _ => rfl) ha hb
theorem se_mod {f g : FB} (ha : SB R H0 X a f) (hb : SB R H0 X b g) : SE R H0 X (.BinOp a .Mod b pos) (bi f g (oI (fun _ j => decide (0 < j)) fun i j => .int (i % j))) :=
  se_opI op_mod (fun i j h => of_decide_eq_true h) (fun _ _ _ => rfl) ha hb
theorem se_pow {f g : FB} (ha : SB R H0 X a f) (hb : SB R H0 X b g) : SE R H0 X (.BinOp a .Pow b pos) (bi f g (oI (fun i j => decide (0 ≤ j) && decide (j ≤ 1000000) && decide (i.natAbs < 2 ^ 64)) fun i j => .int (i ^ j.toNat))) :=
  se_opI op_pow (fun i j h => by rw [Bool.and_eq_true, Bool.and_eq_true, decide_eq_true_eq, decide_eq_true_eq, decide_eq_true_eq] at h; exact ⟨h.1.1, h.1.2, h.2⟩) (fun _ _ _ => rfl) ha hb
theorem se_shr {f g : FB} (ha : SB R H0 X a f) (hb : SB R H0 X b g) : SE R H0 X (.BinOp a .RShift b pos) (bi f g (oI (fun _ j => decide (0 ≤ j)) fun i j => .int (i / 2 ^ j.toNat))) :=
  se_opI op_shr (fun i j h => of_decide_eq_true h) (fun _ _ _ => rfl) ha hb
theorem se_and {f g : FB} (ha : SB R H0 X a f) (hb : SB R H0 X b g) : SE R H0 X (.BinOp a .BitAnd b pos) (bi f g (oI yes2 fun i j => .int (Builtin.bitAnd i j))) :=
  se_opI (OpR.rI_of op_and) (fun _ _ _ => trivial) (fun _ _ _ => rfl) ha hb
def negD : D → Option (Bool × D)
  | .int i => some (true, .int (-i))
  | _ => none
theorem se_neg {f : FB} (ha : SB R H0 X a f) : SE R H0 X (.UnaryOp .USub a pos) (un1 f negD) := PEmono (pe_un un_neg ha) fun σ H Q ⟨F, τ, nw, d, r, q, k⟩ => by
  obtain ⟨x, e1, q⟩ := un1_some q
  cases x <;> first | (cases q; done) | skip
  cases q
  exact ⟨F, τ, _, r, e1, fun v F' H' g r1 => ⟨_, r1, k _ F' H' g rfl⟩⟩

/-! ### comparisons of whole numbers -/
def cI (p : Int → Int → Bool) : D → D → Option Bool
  | .int i, .int j => some (p i j)
  | _, _ => none
def blE (f : FT) : FE := fun τ => (f τ).map fun b => (true, .bl b)
theorem cmp_of {f g : FB} {op : CmpOp} {rr : R2} {c : D → D → Option Bool} (ho : OpR X (compareOp op) rr) (hm : behindInMarks op b = false)
    (hc : ∀ x y z, c x y = some z → ∀ (F H : Hp) v u Q, Sm F H → Rp X.K H x v → Rp X.K H y u → Q (.bl z) H → rr v u H Q) (ha : SB R H0 X a f) (hb : SB R H0 X b g) :
    ST R H0 X (.Compare a [op] [b] pos) (bi f g c) ∧ SE R H0 X (.Compare a [op] [b] pos) (blE (bi f g c)) := by
  refine ⟨PTmono (pt_cmpR ho ha hb hm) fun σ H Q ⟨F, τ, z, r, q, k⟩ => ?_, PEmono (pe_cmpR ho ha hb hm) fun σ H Q ⟨F, τ, nw, d, r, q, k⟩ => ?_⟩
  · obtain ⟨x, y, e1, e2, q⟩ := bi_some q
    exact two_sb r e1 e2 fun v u F' H' g' r1 r2 => hc x y z q F' H' v u _ g'.s r1 r2 ⟨z, rfl, k F' H' g'⟩
  · unfold blE at q
    cases w : bi f g c τ with
    | none => rw [w] at q; cases q
    | some z =>
      rw [w] at q
      cases q
      obtain ⟨x, y, e1, e2, q⟩ := bi_some w
      exact two_sb r e1 e2 fun v u F' H' g' r1 r2 => hc x y z q F' H' v u _ g'.s r1 r2 (k _ F' H' g' rfl)
theorem cI_ok {p : Int → Int → Bool} {x y : D} {z : Bool} (h : cI p x y = some z) : ∃ i j, x = .int i ∧ y = .int j ∧ z = p i j := by
  cases x <;> cases y <;> first | (cases h; done) | skip
  cases h
  exact ⟨_, _, rfl, rfl, rfl⟩
def lt2 : Int → Int → Bool := fun i j => decide (i < j)
def le2 : Int → Int → Bool := fun i j => decide (i ≤ j)
def gt2 : Int → Int → Bool := fun i j => decide (j < i)
def ge2 : Int → Int → Bool := fun i j => decide (j ≤ i)
theorem c_lt {f g : FB} (ha : SB R H0 X a f) (hb : SB R H0 X b g) : ST R H0 X (.Compare a [.Lt] [b] pos) (bi f g (cI lt2)) ∧ SE R H0 X (.Compare a [.Lt] [b] pos) (blE (bi f g (cI lt2))) :=
  cmp_of op_lt (nomark _) (fun x y z e F H v u Q _ r1 r2 q => by obtain ⟨i, j, rfl, rfl, rfl⟩ := cI_ok e; exact ⟨i, j, r1, r2, q⟩) ha hb
theorem c_le {f g : FB} (ha : SB R H0 X a f) (hb : SB R H0 X b g) : ST R H0 X (.Compare a [.LtE] [b] pos) (bi f g (cI le2)) ∧ SE R H0 X (.Compare a [.LtE] [b] pos) (blE (bi f g (cI le2))) :=
  cmp_of op_le (nomark _) (fun x y z e F H v u Q _ r1 r2 q => by obtain ⟨i, j, rfl, rfl, rfl⟩ := cI_ok e; exact ⟨i, j, r1, r2, q⟩) ha hb
theorem c_gt {f g : FB} (ha : SB R H0 X a f) (hb : SB R H0 X b g) : ST R H0 X (.Compare a [.Gt] [b] pos) (bi f g (cI gt2)) ∧ SE R H0 X (.Compare a [.Gt] [b] pos) (blE (bi f g (cI gt2))) :=
  cmp_of op_gt (nomark _) (fun x y z e F H v u Q _ r1 r2 q => by obtain ⟨i, j, rfl, rfl, rfl⟩ := cI_ok e; exact ⟨i, j, r1, r2, q⟩) ha hb
theorem c_ge {f g : FB} (ha : SB R H0 X a f) (hb : SB R H0 X b g) : ST R H0 X (.Compare a [.GtE] [b] pos) (bi f g (cI ge2)) ∧ SE R H0 X (.Compare a [.GtE] [b] pos) (blE (bi f g (cI ge2))) :=
  cmp_of op_ge (nomark _) (fun x y z e F H v u Q _ r1 r2 q => by obtain ⟨i, j, rfl, rfl, rfl⟩ := cI_ok e; exact ⟨i, j, r1, r2, q⟩) ha hb
/-- is None -/
def isN : D → D → Option Bool
  | .non, .non => some true
  | .bl _, .non | .int _, .non | .str _, .non | .lst _, .non | .tup _, .non | .scr _, .non | .dic _ _, .non | .ins _ _ _, .non => some false
  | _, _ => none
theorem isN_ok {x y : D} {z : Bool} (h : isN x y = some z) {K : PySem.W.Frag} {H : Hp} {v u : V} (r1 : Rp K H x v) (r2 : Rp K H y u) : u = .non ∧ z = decide (v = .non) := by
  cases y <;> first | (cases x <;> cases h; done) | skip
  refine ⟨r2, ?_⟩
  cases x <;> cases h
  · rw [show v = V.non from r1]; rfl
  · rw [show v = _ from r1]; rfl
  · rw [show v = _ from r1]; rfl
  · rw [show v = _ from r1]; rfl
  · obtain ⟨_, _, e, _⟩ := r1; rw [e]; rfl
  · obtain ⟨_, _, e, _⟩ := r1; rw [e]; rfl
  · obtain ⟨_, e, _⟩ := r1; rw [e]; rfl
  · obtain ⟨_, _, e, _⟩ := r1; rw [e]; rfl
  · obtain ⟨_, _, _, e, _⟩ := r1; rw [e]; rfl
theorem c_isN {f g : FB} (ha : SB R H0 X a f) (hb : SB R H0 X b g) : ST R H0 X (.Compare a [.Is] [b] pos) (bi f g isN) ∧ SE R H0 X (.Compare a [.Is] [b] pos) (blE (bi f g isN)) :=
  cmp_of op_isN (nomark _) (fun x y z e F H v u Q _ r1 r2 q => by obtain ⟨h1, h2⟩ := isN_ok e r1 r2; exact ⟨h1, h2 ▸ q⟩) ha hb
def notN (x y : D) : Option Bool := (isN x y).map fun b => !b
theorem c_notN {f g : FB} (ha : SB R H0 X a f) (hb : SB R H0 X b g) : ST R H0 X (.Compare a [.IsNot] [b] pos) (bi f g notN) ∧ SE R H0 X (.Compare a [.IsNot] [b] pos) (blE (bi f g notN)) :=
  cmp_of op_notN (nomark _) (fun x y z e F H v u Q _ r1 r2 q => by
    unfold notN at e
    cases w : isN x y with
    | none => rw [w] at e; cases e
    | some z' =>
      rw [w] at e; cases e
      obtain ⟨h1, h2⟩ := isN_ok w r1 r2
      exact ⟨h1, by rw [← h2]; exact q⟩) ha hb

end
/-! ### == at any depth -/
mutual
def py : D → PyData
  | .non => .none
  | .bl b => .bool b
  | .int i => .int i
  | .str x => .str x
  | .lst ds => .list (pyL ds)
  | .tup ds => .tuple (pyL ds)
  | .scr ns => .list (ns.map .int)
  | .dic _ _ => .dict []
  | .ins _ _ _ => .dict []
def pyL : List D → List PyData
  | [] => []
  | d :: ds => py d :: pyL ds
end
theorem dpInts {K : PySem.W.Frag} {H : Hp} : ∀ ns : List Int, DpAll K H (ns.map V.int) (ns.map PyData.int)
  | [] => .nil
  | n :: ns => .cons (.int n) (dpInts ns)
mutual
/-- data that are compared -/
def plainD : D → Bool
  | .non | .bl _ | .int _ | .str _ | .scr _ => true
  | .lst ds => plainL ds
  | .tup ds => plainL ds
  | .dic _ _ | .ins _ _ _ => false
def plainL : List D → Bool
  | [] => true
  | d :: ds => plainD d && plainL ds
end
mutual
theorem Rp.dp {K : PySem.W.Frag} {H : Hp} : ∀ (d : D) (v : V), plainD d = true → Rp K H d v → Dp K H v (py d)
  | .non, _, _, h => by rw [show _ = V.non from h]; exact .non
  | .bl b, _, _, h => by rw [show _ = V.bl b from h]; exact .bl b
  | .int i, _, _, h => by rw [show _ = V.int i from h]; exact .int i
  | .str x, _, _, h => by rw [show _ = V.str x from h]; exact .str x
  | .lst ds, _, s, ⟨a, xs, e, hq, r⟩ => by rw [e]; exact .lst (.inl (.inl hq)) (RpL.dp ds xs s r)
  | .tup ds, _, s, ⟨a, xs, e, hq, r⟩ => by rw [e]; exact .tup (.inl (.inl hq)) (RpL.dp ds xs s r)
  | .scr ns, _, _, ⟨a, e, hq⟩ => by rw [e]; exact .lst hq (dpInts ns)
  | .dic _ _, _, s, _ => by cases s
  | .ins _ _ _, _, s, _ => by cases s
theorem RpL.dp {K : PySem.W.Frag} {H : Hp} : ∀ (ds : List D) (xs : List V), plainL ds = true → RpL K H ds xs → DpAll K H xs (pyL ds)
  | [], _, _, h => by rw [show _ = [] from h]; exact .nil
  | d :: ds, _, s, ⟨y, r, e, h, t⟩ => by
    have s' : (plainD d && plainL ds) = true := s
    rw [Bool.and_eq_true] at s'
    rw [e]
    exact .cons (Rp.dp d y s'.1 h) (RpL.dp ds r s'.2 t)
end
def okEq (x : D) : Bool := plainD x && SeqAt.shaped (py x)
def eqD (x y : D) : Option Bool := if okEq x && okEq y then some (PyData.eqv (py x) (py y)) else none
def neD (x y : D) : Option Bool := if okEq x && okEq y then some (!PyData.eqv (py x) (py y)) else none
section
variable {R H0 : Hp} {X : Cx} {a b e : Expr} {pos : Pos} {n : Nat}
theorem c_eq {f g : FB} (hr : Room n X.A) (ha : SB R H0 X a f) (hb : SB R H0 X b g) : ST R H0 X (.Compare a [.Eq] [b] pos) (bi f g eqD) ∧ SE R H0 X (.Compare a [.Eq] [b] pos) (blE (bi f g eqD)) :=
  cmp_of (op_eqD hr.units) (nomark _) (fun x y z e F H v u Q _ r1 r2 q => by
    unfold eqD okEq at e
    split at e
    · rename_i h
      simp only [Bool.and_eq_true] at h
      cases e
      exact ⟨_, _, Rp.dp _ _ h.1.1 r1, Rp.dp _ _ h.2.1 r2, h.1.2, h.2.2, q⟩
    · cases e) ha hb
theorem c_ne {f g : FB} (hr : Room n X.A) (ha : SB R H0 X a f) (hb : SB R H0 X b g) : ST R H0 X (.Compare a [.NotEq] [b] pos) (bi f g neD) ∧ SE R H0 X (.Compare a [.NotEq] [b] pos) (blE (bi f g neD)) :=
  cmp_of (op_neD hr.units) (nomark _) (fun x y z e F H v u Q _ r1 r2 q => by
    unfold neD okEq at e
    split at e
    · rename_i h
      simp only [Bool.and_eq_true] at h
      cases e
      exact ⟨_, _, Rp.dp _ _ h.1.1 r1, Rp.dp _ _ h.2.1 r2, h.1.2, h.2.2, q⟩
    · cases e) ha hb
end
end Dl
end
section
set_option Elab.async false
set_option linter.all false
set_option maxRecDepth 100000
set_option maxHeartbeats 4000000
namespace Dl
open PySem PySem.Spec PyProof.Rows L2 GxR Gx
section
variable {R H0 : Hp} {X : Cx} {a b c e : Expr} {rest es : List Expr} {pos : Pos} {n : Nat}

/-! ### and, or, not, if-else -/
def andF (f g : FT) : FT := fun τ => (f τ).bind fun x => if x = true then g τ else some false
def orF (f g : FT) : FT := fun τ => (f τ).bind fun x => if x = true then some true else g τ
theorem bindO {α β : Type} {o : Option α} {g : α → Option β} {z : β} (h : o.bind g = some z) : ∃ x, o = some x ∧ g x = some z := by
  cases o with
  | none => cases h
  | some x => exact ⟨x, rfl, h⟩
theorem sw_and1 {f : FT} (h : ST R H0 X a f) : SW R H0 X (.BoolOp .And [a] pos) f := pw_and1 h
theorem sw_or1 {f : FT} (h : ST R H0 X a f) : SW R H0 X (.BoolOp .Or [a] pos) f := pw_or1 h
theorem sw_and {f g : FT} (h : ST R H0 X a f) (k : SW R H0 X (.BoolOp .And (b :: rest) pos) g) : SW R H0 X (.BoolOp .And (a :: b :: rest) pos) (andF f g) := PWmono (pw_and h k) fun σ H Q ⟨F, τ, z, r, q, k⟩ => by
  obtain ⟨x, e1, q⟩ := bindO q
  refine ⟨F, τ, x, r, e1, fun F1 H1 g1 => ?_⟩
  cases x with
  | true =>
    rw [if_pos rfl] at q
    exact iteT ⟨F1, τ, z, r.grow g1, q, fun F2 H2 g2 => k F2 H2 (g1.trans g2)⟩
  | false =>
    cases q
    exact iteF (k F1 H1 g1)
theorem sw_or {f g : FT} (h : ST R H0 X a f) (k : SW R H0 X (.BoolOp .Or (b :: rest) pos) g) : SW R H0 X (.BoolOp .Or (a :: b :: rest) pos) (orF f g) := PWmono (pw_or h k) fun σ H Q ⟨F, τ, z, r, q, k⟩ => by
  obtain ⟨x, e1, q⟩ := bindO q
  refine ⟨F, τ, x, r, e1, fun F1 H1 g1 => ?_⟩
  cases x with
  | false =>
    rw [if_neg Bool.false_ne_true] at q
    exact iteF ⟨F1, τ, z, r.grow g1, q, fun F2 H2 g2 => k F2 H2 (g1.trans g2)⟩
  | true =>
    cases q
    exact iteT (k F1 H1 g1)
theorem st_w {f : FT} (h : SW R H0 X a f) : ST R H0 X a f := h.pt
theorem st_not {f : FT} (h : ST R H0 X a f) : ST R H0 X (.UnaryOp .Not a pos) (mp f (!·)) := PTmono (pt_not h) fun σ H Q ⟨F, τ, z, r, q, k⟩ => by
  obtain ⟨x, e1, rfl⟩ := mp_some q
  exact ⟨F, τ, x, r, e1, k⟩
def ifF {α : Type} (t : FT) (f g : DS → Option α) : DS → Option α := fun τ => (t τ).bind fun x => if x = true then f τ else g τ
theorem se_if {t : FT} {f g : FE} (h : ST R H0 X c t) (ha : SE R H0 X a f) (hb : SE R H0 X b g) : SE R H0 X (.IfExp c a b pos) (ifF t f g) := PEmono (pe_ifExp h ha hb) fun σ H Q ⟨F, τ, nw, d, r, q, k⟩ => by
  obtain ⟨x, e1, q⟩ := bindO q
  refine ⟨F, τ, x, r, e1, fun F1 H1 g1 => ?_⟩
  cases x with
  | true => exact iteT ⟨F1, τ, nw, d, r.grow g1, q, fun v F2 H2 g2 => k v F2 H2 (g1.trans g2)⟩
  | false => exact iteF ⟨F1, τ, nw, d, r.grow g1, q, fun v F2 H2 g2 => k v F2 H2 (g1.trans g2)⟩
/-- as values -/
theorem se_one {op} {f : FE} (h : SE R H0 X a f) : SE R H0 X (.BoolOp op [a] pos) f := pe_one h
def andE (f g : FE) : FE := fun τ => (f τ).bind fun p => match p.2 with
  | .bl true => g τ
  | .bl false => some (true, .bl false)
  | _ => none
def orE (f g : FE) : FE := fun τ => (f τ).bind fun p => match p.2 with
  | .bl true => some (true, .bl true)
  | .bl false => g τ
  | _ => none
theorem se_andV {f g : FE} (h : SE R H0 X a f) (k : SE R H0 X (.BoolOp .And (b :: rest) pos) g) : SE R H0 X (.BoolOp .And (a :: b :: rest) pos) (andE f g) := PEmono (pe_and h k) fun σ H Q ⟨F, τ, nw, d, r, q, k⟩ => by
  obtain ⟨⟨n1, d1⟩, e1, q⟩ := bindO q
  refine ⟨F, τ, n1, d1, r, e1, fun v F1 H1 g1 rp => ?_⟩
  cases d1 <;> first | (cases q; done) | skip
  rename_i x
  refine ⟨x, rp, ?_⟩
  cases x with
  | true => exact iteT ⟨F1, τ, nw, d, r.grow g1, q, fun v F2 H2 g2 => k v F2 H2 (g1.trans g2)⟩
  | false => cases q; exact iteF (k _ F1 H1 g1 rfl)
theorem se_orV {f g : FE} (h : SE R H0 X a f) (k : SE R H0 X (.BoolOp .Or (b :: rest) pos) g) : SE R H0 X (.BoolOp .Or (a :: b :: rest) pos) (orE f g) := PEmono (pe_or h k) fun σ H Q ⟨F, τ, nw, d, r, q, k⟩ => by
  obtain ⟨⟨n1, d1⟩, e1, q⟩ := bindO q
  refine ⟨F, τ, n1, d1, r, e1, fun v F1 H1 g1 rp => ?_⟩
  cases d1 <;> first | (cases q; done) | skip
  rename_i x
  refine ⟨x, rp, ?_⟩
  cases x with
  | false => exact iteF ⟨F1, τ, nw, d, r.grow g1, q, fun v F2 H2 g2 => k v F2 H2 (g1.trans g2)⟩
  | true => cases q; exact iteT (k _ F1 H1 g1 rfl)
def notD : D → Option (Bool × D)
  | .bl b => some (true, .bl (!b))
  | _ => none
theorem se_not {f : FB} (h : SB R H0 X a f) : SE R H0 X (.UnaryOp .Not a pos) (un1 f notD) := PEmono (pe_not h) fun σ H Q ⟨F, τ, nw, d, r, q, k⟩ => by
  obtain ⟨x, e1, q⟩ := un1_some q
  cases x <;> first | (cases q; done) | skip
  cases q
  exact ⟨F, τ, _, r, e1, fun v F1 H1 g1 rp => ⟨_, rp, k _ F1 H1 g1 rfl⟩⟩

/-! ### argument lists, displays -/
def consA (f : FE) (g : FA) : FA := fun τ => (f τ).bind fun x => (g τ).bind fun y => some (x.1 && y.1, x.2 :: y.2)
def nilA : FA := fun _ => some (true, [])
theorem sa_nil : SA R H0 X [] nilA := PAmono pa_nil fun σ H Q ⟨F, τ, nw, ds, r, q, k⟩ => by
  cases q
  exact k [] F H r.refl rfl
theorem sa_cons {f : FE} {g : FA} (h : SE R H0 X e f) (k : SA R H0 X es g) (hs : starEach (e :: es) X.env = (false, eval e X.env) :: starEach es X.env := by rfl) : SA R H0 X (e :: es) (consA f g) := PAmono (pa_cons h k hs) fun σ H Q ⟨F, τ, nw, ds, r, q, k⟩ => by
  obtain ⟨⟨n1, d1⟩, e1, q⟩ := bindO q
  obtain ⟨⟨n2, d2⟩, e2, q⟩ := bindO q
  cases q
  exact ⟨F, τ, n1, d1, r, e1, fun v F1 H1 g1 r1 => ⟨F1, τ, n2, d2, r.grow g1, e2, fun vs F2 H2 g2 r2 => k (v :: vs) F2 H2 (g1.trans g2) ⟨v, vs, rfl, Rp.sm ((lv_mono g2.f).trans lv_and) r1, RpL.sm lv_and' r2⟩⟩⟩
def lim : Nat := 16777216
theorem lim_eq : lim = sizeLine := rfl
def tupD (p : Bool × List D) : Option (Bool × D) := if p.2.length ≤ lim then some (p.1, .tup p.2) else none
theorem Rel.rn {K : PySem.W.Frag} {τ : DS} {σ : L2.St} {F H : Hp} (r : Rel K R H0 τ σ F H) {p : Addr} (h : H p = none) : R p = none := r.g.f.none (r.s.none h)
theorem se_tup {k} {f : FA} (h : SA R H0 X es f) : SE R H0 X (.Tuple es k pos) (un1 f tupD) := PEmono (pe_tup h) fun σ H Q ⟨F, τ, nw, d, r, q, k⟩ => by
  obtain ⟨⟨n1, ds⟩, e1, q⟩ := un1_some q
  unfold tupD at q
  split at q
  · rename_i hz
    cases q
    refine ⟨F, τ, n1, ds, r, e1, fun vs F1 H1 g1 r1 => ⟨by rw [← r1.length]; exact hz, fun p hp => ?_⟩⟩
    have r2 := r.grow g1
    have g2 : Grow F1 H1 (upd F1 p (.tup vs)) (upd H1 p (.tup vs)) := .new r2.s r2.t hp fun _ z => nomatch z
    exact k _ _ _ (g1.trans g2) ⟨p, vs, rfl, lv_new upd_same (r2.rn hp), RpL.sm (lv_mono g2.f) r1⟩
  · cases q
def sing (p : Addr) (o : HO) : Hp := fun b => if b = p then some o else none
theorem sing_same {p : Addr} {o : HO} : sing p o p = some o := if_pos rfl
/-- a new list (or dict) of one's own -/
theorem pend_new {F H F1 H1 : Hp} (g : Grow F H F1 H1) {p : Addr} {o : HO} (hp : H1 p = none) (ho : ∀ ps, o ≠ .tbl ps) : Pend F H F1 (upd H1 p o) (sing p o) := by
  have at_ : ∀ {b : Addr}, sing p o b ≠ none → b = p := fun {b} hb => by
    unfold sing at hb
    split at hb
    · assumption
    · exact absurd rfl hb
  have eq : ∀ {b : Addr} {x : HO}, sing p o b = some x → b = p ∧ x = o := fun {b x} e => by
    have hb := at_ (b := b) (fun z => by rw [z] at e; cases e)
    subst hb
    rw [sing_same] at e
    exact ⟨rfl, (Option.some.inj e).symm⟩
  refine ⟨g.trans (.heap g.s g.t (Ext.upd hp)), fun b x e => ?_, fun b hb => ?_, fun b ps e => ?_⟩
  · obtain ⟨rfl, rfl⟩ := eq e
    exact upd_same
  · obtain rfl := at_ hb
    exact ⟨g.s.none hp, g.h.none hp⟩
  · obtain ⟨rfl, e2⟩ := eq e
    exact ho ps e2.symm
def ownC (p : Bool × List D) : Option C := if p.2.length ≤ lim then some (.own p.1 p.2) else none
theorem sc_lst {f : FA} (h : SA R H0 X es f) : SC R H0 X (.List es pos) (un1 f ownC) := PEmono (pe_lst h) fun σ H Q ⟨F, τ, c, r, q, k⟩ => by
  obtain ⟨⟨n1, ds⟩, e1, q⟩ := un1_some q
  unfold ownC at q
  split at q
  · rename_i hz
    cases q
    refine ⟨F, τ, n1, ds, r, e1, fun vs F1 H1 g1 r1 => ⟨by rw [← r1.length]; exact hz, fun p hp => ?_⟩⟩
    exact k _ _ _ _ (pend_new g1 hp fun _ z => nomatch z) ⟨p, vs, rfl, sing_same, r1⟩
  · cases q

/-! ### + and * of numbers, texts, lists -/
def addC : (Bool × D) → (Bool × D) → Option C
  | (_, .int i), (_, .int j) => some (.d true (.int (i + j)))
  | (_, .str x), (_, .str y) => if x.length + y.length ≤ lim then some (.d true (.str (x ++ y))) else none
  | (m, .lst xs), (n, .lst ys) => if xs.length + ys.length ≤ lim then some (.own (m && n) (xs ++ ys)) else none
  | _, _ => none
theorem sc_add {f g : FE} (ha : SE R H0 X a f) (hb : SE R H0 X b g) : SC R H0 X (.BinOp a .Add b pos) (bi f g addC) := PEmono (pe_op (op_add.or (op_add_str.or op_cat)) ha hb) fun σ H Q ⟨F, τ, c, r, q, k⟩ => by
  obtain ⟨⟨m, x⟩, ⟨n, y⟩, e1, e2, q⟩ := bi_some q
  refine two_se (fun _ _ _ h => h) (fun _ _ _ h => h) r e1 e2 fun v u F1 H1 g1 r1 r2 => ?_
  unfold addC at q
  split at q
  · rename_i h1 h2
    cases h1; cases h2; cases q
    exact .inl ⟨_, _, r1, r2, k _ F1 H1 emp g1.pend rfl⟩
  · rename_i h1 h2
    cases h1; cases h2
    split at q
    · rename_i hz
      cases q
      exact .inr (.inl ⟨_, _, r1, r2, hz, k _ F1 H1 emp g1.pend rfl⟩)
    · cases q
  · rename_i h1 h2
    cases h1; cases h2
    split at q
    · rename_i hz
      cases q
      obtain ⟨p1, xs, rfl, hx, q1⟩ := r1
      obtain ⟨p2, ys, rfl, hy, q2⟩ := r2
      have s1 := (lv_sub.trans g1.s) p1 _ hx
      have s2 := (lv_sub.trans g1.s) p2 _ hy
      refine .inr (.inr ⟨p1, p2, xs, ys, rfl, rfl, s1, s2, by rw [← q1.length, ← q2.length]; exact hz, fun p hp => k _ _ _ _ (pend_new g1 hp fun _ z => nomatch z) ⟨p, xs ++ ys, rfl, sing_same, RpL.app (RpL.sm lv_and q1) (RpL.sm lv_and' q2)⟩⟩)
    · cases q
  · cases q
def mulC : (Bool × D) → (Bool × D) → Option C
  | (_, .int i), (_, .int j) => if sm64 i j then some (.d true (.int (i * j))) else none
  | (m, .lst xs), (_, .int k) => if (decide (-(2 ^ 63) ≤ k) && decide (k < 2 ^ 63) && decide (xs.length * k.toNat ≤ lim)) then some (.own m (List.replicate k.toNat xs).flatten) else none
  | _, _ => none
theorem RpL.rep {K : PySem.W.Frag} {H : Hp} {ds : List D} {xs : List V} (h : RpL K H ds xs) : ∀ k : Nat, RpL K H (List.replicate k ds).flatten (List.replicate k xs).flatten
  | 0 => rfl
  | k + 1 => by
    rw [List.replicate_succ, List.replicate_succ, List.flatten_cons, List.flatten_cons]
    exact RpL.app h (RpL.rep h k)
theorem sc_mul {f g : FE} (ha : SE R H0 X a f) (hb : SE R H0 X b g) : SC R H0 X (.BinOp a .Mult b pos) (bi f g mulC) := PEmono (pe_op (op_mul.or op_rep) ha hb) fun σ H Q ⟨F, τ, c, r, q, k⟩ => by
  obtain ⟨⟨m, x⟩, ⟨n, y⟩, e1, e2, q⟩ := bi_some q
  refine two_se (fun _ _ _ h => h) (fun _ _ _ h => h) r e1 e2 fun v u F1 H1 g1 r1 r2 => ?_
  unfold mulC at q
  split at q
  · rename_i h1 h2
    cases h1; cases h2
    split at q
    · rename_i hz
      cases q
      exact .inl ⟨_, _, r1, r2, sm64_ok hz, k _ F1 H1 emp g1.pend rfl⟩
    · cases q
  · rename_i h1 h2
    cases h1; cases h2
    split at q
    · rename_i hz
      cases q
      simp only [Bool.and_eq_true, decide_eq_true_eq] at hz
      obtain ⟨p1, xs, rfl, hx, q1⟩ := r1
      have s1 := (lv_sub.trans g1.s) p1 _ hx
      refine .inr ⟨p1, _, xs, rfl, r2, s1, hz.1.1, hz.1.2, by rw [← q1.length]; exact hz.2, fun p hp => k _ _ _ _ (pend_new g1 hp fun _ z => nomatch z) ⟨p, _, rfl, sing_same, RpL.rep q1 _⟩⟩
    · cases q
  · cases q

/-! ### len, isinstance, str -/
def lenD : D → Option (Bool × D)
  | .lst ds => some (true, .int ds.length)
  | .tup ds => some (true, .int ds.length)
  | .scr ns => some (true, .int ns.length)
  | .str x => if x.length ≤ lim then some (true, .int x.length) else none
  | _ => none
theorem se_len {f : FB} {p : Pos} (hg : Gl X "len") (hm : X.mg "len" = none) (h : SB R H0 X a f) (he : starEach [a] X.env = (false, eval a X.env) :: starEach [] X.env := by rfl) : SE R H0 X (.Call (.Name "len" p) [a] [] pos) (un1 f lenD) := PEmono (pe_callB call_len hg hm PySem.boot_len (pa_cons h pa_nil he) (by decide) (by decide) he (by rfl)) fun σ H Q ⟨F, τ, nw, d, r, q, k⟩ => by
  obtain ⟨x, e1, q⟩ := un1_some q
  refine ⟨F, τ, x, r, e1, fun v F1 H1 g1 r1 => ?_⟩
  cases x <;> first | (cases q; done) | skip
  · rename_i z
    have q : (if z.length ≤ lim then some (true, D.int z.length) else none) = some (nw, d) := q
    split at q
    · rename_i hz
      cases q
      obtain rfl : v = V.str z := r1
      exact ⟨_, _, rfl, ⟨hz, rfl⟩, k _ F1 H1 g1 rfl⟩
    · cases q
  · cases q
    obtain ⟨p1, xs, rfl, hx, q1⟩ := r1
    exact ⟨_, xs.length, rfl, .inl ⟨xs, .inl (.inl hx), rfl⟩, by rw [← q1.length]; exact k _ F1 H1 g1 rfl⟩
  · cases q
    obtain ⟨p1, xs, rfl, hx, q1⟩ := r1
    exact ⟨_, xs.length, rfl, .inr ⟨xs, .inl (.inl hx), rfl⟩, by rw [← q1.length]; exact k _ F1 H1 g1 rfl⟩
  · cases q
    rename_i ns
    obtain ⟨p1, rfl, hx⟩ := r1
    exact ⟨_, (ns.map V.int).length, rfl, .inl ⟨_, hx, rfl⟩, by rw [List.length_map]; exact k _ F1 H1 g1 rfl⟩
/-- the types that are asked for -/
inductive Ty where
  | int | bool | str | list | tuple
def Ty.name : Ty → String
  | .int => "int" | .bool => "bool" | .str => "str" | .list => "list" | .tuple => "tuple"
def isi : Ty → D → Option Bool
  | .int, .int _ => some true
  | .int, .bl _ => some true
  | .bool, .bl _ => some true
  | .str, .str _ => some true
  | .list, .lst _ => some true
  | .list, .scr _ => some true
  | .tuple, .tup _ => some true
  | _, .ins _ _ _ => none
  | _, _ => some false
def tyOf : D → String
  | .non => "NoneType" | .bl _ => "bool" | .int _ => "int" | .str _ => "str" | .lst _ => "list" | .scr _ => "list" | .tup _ => "tuple" | .dic _ _ => "dict" | .ins _ _ _ => "object"
theorem isi_ok {T : Ty} {d : D} {z : Bool} (h : isi T d = some z) : kitB (tyOf d) T.name = some z := by
  cases T <;> cases d <;> first | (cases h; done) | (cases h; dsimp only [tyOf, Ty.name]; decide +kernel)
theorem tyx_of {K : PySem.W.Frag} {H : Hp} {d : D} {v : V} (hn : ∀ C fs ds, d ≠ .ins C fs ds) (h : Rp K H d v) : TyX K H v (.type (tyOf d)) := by
  cases d with
  | non => rw [show v = V.non from h]; exact .base .non
  | bl b => rw [show v = V.bl b from h]; exact .base (.bl b)
  | int i => rw [show v = V.int i from h]; exact .base (.int i)
  | str x => rw [show v = V.str x from h]; exact .base (.str x)
  | lst ds => obtain ⟨p, xs, rfl, hx, _⟩ := h; exact .base (.lst hx)
  | tup ds => obtain ⟨p, xs, rfl, hx, _⟩ := h; exact .base (.tup hx)
  | scr ns =>
    obtain ⟨p, rfl, (hx | ⟨o, hx⟩) | ⟨o, its, n, h1, h2, _⟩⟩ := h
    · exact .base (.lst hx)
    · exact .base (.frz hx)
    · exact .kList h1 h2
  | dic ks ds => obtain ⟨p, xs, rfl, hx, _⟩ := h; exact .base (.dK hx)
  | ins C fs ds => exact absurd rfl (hn C fs ds)
def isiE (T : Ty) (d : D) : Option (Bool × D) := (isi T d).map fun b => (true, .bl b)
theorem se_isi (T : Ty) {f : FB} {p p2 : Pos} {x : Str} (hg : Gl X "isinstance") (hm : X.mg "isinstance" = none) (h : SB R H0 X a f) (hg2 : Gl X x) (hm2 : X.mg x = none) (hx : bootBuiltins x = some (.type T.name)) (hn : x ≠ "__name__" := by decide) (hd : (x == ("__debug__" : Str)) = false := by decide)
    (he : starEach [a, .Name x p2] X.env = (false, eval a X.env) :: starEach [.Name x p2] X.env := by rfl) : SE R H0 X (.Call (.Name "isinstance" p) [a, .Name x p2] [] pos) (un1 f (isiE T)) :=
  PEmono (pe_callB call_isi hg hm (by decide +kernel) (pa_cons h (pa_cons (pe_bltn (v := .ty T.name) hg2 hm2 hx rfl hn hd) pa_nil (by rfl)) he) (by decide) (by decide) he (by rfl)) fun σ H Q ⟨F, τ, nw, d, r, q, k⟩ => by
  obtain ⟨x, e1, q⟩ := un1_some q
  refine ⟨F, τ, x, r, e1, fun v F1 H1 g1 r1 => ?_⟩
  unfold isiE at q
  cases w : isi T x with
  | none => rw [w] at q; cases q
  | some z =>
    rw [w] at q; cases q
    refine ⟨v, .ty T.name, .type (tyOf x), .type T.name, z, rfl, .ty _, tyx_of (fun C fs ds e => ?_) r1, kit_ty (isi_ok w), k _ F1 H1 g1 rfl⟩
    subst e
    cases T <;> cases w
def strD : D → Option (Bool × D)
  | .int i => if i.natAbs < 2 ^ 1000 then some (true, .str (toString i)) else none
  | _ => none
theorem se_strI {f : FB} {p : Pos} (hg : Gl X "str") (hm : X.mg "str" = none) (h : SB R H0 X a f) (he : starEach [a] X.env = (false, eval a X.env) :: starEach [] X.env := by rfl) : SE R H0 X (.Call (.Name "str" p) [a] [] pos) (un1 f strD) := PEmono (pe_callTy call_str_int hg hm (by decide +kernel) (pa_cons h pa_nil he) (by decide) (by decide) he (by rfl)) fun σ H Q ⟨F, τ, nw, d, r, q, k⟩ => by
  obtain ⟨x, e1, q⟩ := un1_some q
  refine ⟨F, τ, x, r, e1, fun v F1 H1 g1 r1 => ?_⟩
  cases x <;> first | (cases q; done) | skip
  rename_i i
  have q : (if i.natAbs < 2 ^ 1000 then some (true, D.str (toString i)) else none) = some (nw, d) := q
  split at q
  · rename_i hz
    cases q
    refine ⟨i, by rw [show v = V.int i from r1], ?_, k _ F1 H1 g1 rfl⟩
    by_cases h0 : i.natAbs = 0
    · rw [h0]; decide
    · exact Nat.lt_trans ((Nat.log2_lt h0).mpr hz) (by decide)
  · cases q
end
end Dl
end
section
set_option Elab.async false
set_option linter.all false
set_option maxRecDepth 100000
set_option maxHeartbeats 4000000
namespace Dl
open PySem PySem.Spec PyProof.Rows L2 GxR Gx

theorem lv_imp {a b : Bool} {R F : Hp} (h : b = true → a = true) : Sm (lv a R F) (lv b R F) := by
  cases b with
  | false => rw [lv_false]; exact lv_sub
  | true => rw [h rfl]; exact .refl
theorem lv_scal {K : PySem.W.Frag} {n : Bool} {R F : Hp} {d : D} {v : V} (h : Rp K (lv n R F) d v) : Rp K (lv (n || scal d) R F) d v := by
  cases q : scal d with
  | true => exact Rp.scal q h
  | false => rw [Bool.or_false]; exact h
/-! ### subscripts -/
theorem atI_ix {α : Type} {xs : List α} {i : Int} {x : α} (h : atI xs i = some x) : ∃ j, ixN xs.length i = some j ∧ xs[j]? = some x := by
  unfold atI at h
  cases e : ixN xs.length i with
  | none => rw [e] at h; cases h
  | some j => rw [e] at h; exact ⟨j, rfl, h⟩
theorem RpL.atI {K : PySem.W.Frag} {H : Hp} {ds : List D} {xs : List V} {i : Int} {d : D} (h : RpL K H ds xs) (e : L2.atI ds i = some d) : ∃ x, L2.atI xs i = some x ∧ Rp K H d x := by
  obtain ⟨j, e1, e2⟩ := atI_ix e
  obtain ⟨x, h1, h2⟩ := h.get e2
  refine ⟨x, ?_, h2⟩
  unfold L2.atI
  rw [← h.length, e1]
  exact h1
theorem atI_map {α β : Type} {f : α → β} {xs : List α} {i : Int} {x : α} (h : atI xs i = some x) : atI (xs.map f) i = some (f x) := by
  obtain ⟨j, e1, e2⟩ := atI_ix h
  unfold atI
  rw [List.length_map, e1]
  show (xs.map f)[j]? = _
  rw [List.getElem?_map, e2]
  rfl
def itemE : (Bool × D) → D → Option (Bool × D)
  | (n, .lst ds), .int i => (atI ds i).map fun d => (n || scal d, d)
  | (n, .tup ds), .int i => (atI ds i).map fun d => (n || scal d, d)
  | (_, .scr ns), .int i => (atI ns i).map fun k => (true, .int k)
  | _, _ => none
theorem mapO {α β : Type} {o : Option α} {g : α → β} {z : β} (h : o.map g = some z) : ∃ x, o = some x ∧ g x = z := by
  cases o with
  | none => cases h
  | some x => exact ⟨x, rfl, Option.some.inj h⟩
theorem itemE_some {m nw : Bool} {x y d : D} (h : itemE (m, x) y = some (nw, d)) : ∃ i, y = .int i ∧ ((∃ ds, x = .lst ds ∧ atI ds i = some d ∧ nw = (m || scal d)) ∨ (∃ ds, x = .tup ds ∧ atI ds i = some d ∧ nw = (m || scal d)) ∨ ∃ ns j, x = .scr ns ∧ atI ns i = some j ∧ nw = true ∧ d = .int j) := by
  match x, y, h with
  | .lst ds, .int i, h =>
    obtain ⟨d', e3, e4⟩ := mapO (show (atI ds i).map (fun d => (m || scal d, d)) = some (nw, d) from h)
    cases e4
    exact ⟨i, rfl, .inl ⟨ds, rfl, e3, rfl⟩⟩
  | .tup ds, .int i, h =>
    obtain ⟨d', e3, e4⟩ := mapO (show (atI ds i).map (fun d => (m || scal d, d)) = some (nw, d) from h)
    cases e4
    exact ⟨i, rfl, .inr (.inl ⟨ds, rfl, e3, rfl⟩)⟩
  | .scr ns, .int i, h =>
    obtain ⟨d', e3, e4⟩ := mapO (show (atI ns i).map (fun k => (true, D.int k)) = some (nw, d) from h)
    cases e4
    exact ⟨i, rfl, .inr (.inr ⟨ns, d', rfl, e3, rfl, rfl⟩)⟩
section
variable {R H0 : Hp} {X : Cx} {a b c e : Expr} {rest es : List Expr} {pos p2 : Pos} {n : Nat}
theorem ix_core {K : PySem.W.Frag} {m nw : Bool} {x y d : D} {v u : V} {F1 H1 : Hp} {Q : VK} (q : itemE (m, x) y = some (nw, d)) (s : Sm F1 H1) (r1 : Rp K (lv m R F1) x v) (r2 : ∀ i, y = .int i → u = .int i) (k : ∀ z, Rp K (lv nw R F1) d z → Q z H1) : rIxL K v u H1 Q ∨ rIxT K v u H1 Q := by
  obtain ⟨i, rfl, ⟨ds, rfl, e3, rfl⟩ | ⟨ds, rfl, e3, rfl⟩ | ⟨ns, j, rfl, e3, rfl, rfl⟩⟩ := itemE_some q
  · obtain ⟨p1, xs, rfl, hx, q1⟩ := r1
    obtain ⟨z, h1, h2⟩ := q1.atI e3
    exact .inl ⟨p1, xs, i, z, rfl, r2 i rfl, .inl (.inl ((lv_sub.trans s) _ _ hx)), h1, k _ (lv_scal h2)⟩
  · obtain ⟨p1, xs, rfl, hx, q1⟩ := r1
    obtain ⟨z, h1, h2⟩ := q1.atI e3
    exact .inr ⟨p1, xs, i, z, rfl, r2 i rfl, .inl (.inl ((lv_sub.trans s) _ _ hx)), h1, k _ (lv_scal h2)⟩
  · obtain ⟨p1, rfl, hx⟩ := r1
    exact .inl ⟨p1, _, i, _, rfl, r2 i rfl, SqL.ext (lv_sub.trans s).ext hx, atI_map e3, k _ rfl⟩
theorem se_ix {f : FE} {g : FE} (ha : SE R H0 X a f) (hb : SE R H0 X b g) (hs : PlainIx b := by exact fun _ _ => rfl) : SE R H0 X (.Subscript a b pos) (bi f g fun x y => itemE x y.2) := PEmono (pe_ix (ix_list.or ix_tup) ha hb hs) fun σ H Q ⟨F, τ, nw, d, r, q, k⟩ => by
  obtain ⟨⟨m, x⟩, ⟨m2, y⟩, e1, e2, q⟩ := bi_some q
  exact two_se (fun _ _ _ h => h) (fun _ _ _ h => h) r e1 e2 fun v u F1 H1 g1 r1 r2 => ix_core q g1.s r1 (fun i e => by rw [show y = _ from e] at r2; exact r2) fun z hz => k _ F1 H1 g1 hz
/-- the item of a name, borrowed or not -/
def itemC : Option (Option C) → D → Option (Bool × D)
  | some (some (.d n d)), i => itemE (n, d) i
  | some (some (.own n ds)), .int i => (atI ds i).map fun d => (n || scal d, d)
  | some (some (.dp (.lst ds))), .int i => (atI ds i).bind fun d => if scal d then some (true, d) else none
  | some (some (.dp (.tup ds))), .int i => (atI ds i).bind fun d => if scal d then some (true, d) else none
  | _, _ => none
def itemB : D → D → Option D
  | .lst ds, .int i => atI ds i
  | .tup ds, .int i => atI ds i
  | .scr ns, .int i => (atI ns i).map .int
  | _, _ => none
theorem sb_ix {f : FB} {g : FB} (ha : SB R H0 X a f) (hb : SB R H0 X b g) (hs : PlainIx b := by exact fun _ _ => rfl) : SB R H0 X (.Subscript a b pos) (bi f g itemB) := PEmono (pe_ix (ix_list.or ix_tup) ha hb hs) fun σ H Q ⟨F, τ, d, r, q, k⟩ => by
  obtain ⟨x, y, e1, e2, q⟩ := bi_some q
  refine two_sb r e1 e2 fun v u F1 H1 g1 r1 r2 => ?_
  cases x <;> cases y <;> first | (cases q; done) | skip
  · rename_i ds i
    obtain ⟨p1, xs, rfl, hx, q1⟩ := r1
    obtain ⟨z, h1, h2⟩ := q1.atI (show atI ds i = some d from q)
    exact .inl ⟨p1, xs, i, z, rfl, r2, .inl (.inl hx), h1, k _ F1 H1 g1 h2⟩
  · rename_i ds i
    obtain ⟨p1, xs, rfl, hx, q1⟩ := r1
    obtain ⟨z, h1, h2⟩ := q1.atI (show atI ds i = some d from q)
    exact .inr ⟨p1, xs, i, z, rfl, r2, .inl (.inl hx), h1, k _ F1 H1 g1 h2⟩
  · rename_i ns i
    obtain ⟨d', e3, rfl⟩ := mapO (show (atI ns i).map D.int = _ from q)
    obtain ⟨p1, rfl, hx⟩ := r1
    exact .inl ⟨p1, _, i, _, rfl, r2, hx, atI_map e3, k _ F1 H1 g1 rfl⟩
def xvE (i : Nat) (g : FE) : FE := fun τ => (g τ).bind fun y => itemC τ[i]? y.2
/-- x[b], x a name: the name's own list stays its own -/
theorem se_ixv (i : Nat) {x : Str} {g : FE} (hb : SE R H0 X b g) (hN : X.N[i]? = some x := by rfl) (hv : Vis X.env.scope x := by first | exact Or.inl rfl | exact Or.inr (Or.inl rfl) | exact Or.inr (Or.inr rfl)) (hs : PlainIx b := by exact fun _ _ => rfl)
    (hd : (x == ("__debug__" : Str)) = false := by decide) (hcd : (x == ("__classdict__" : Str)) = false := by decide) : SE R H0 X (.Subscript (.Name x p2) b pos) (xvE i g) :=
  PEmono (pe_ix (ix_list.or ix_tup) (pe_var hN hv hd hcd) hb hs) fun σ H Q ⟨F, τ, nw, d, r, q, k⟩ => by
  obtain ⟨⟨m2, y⟩, e2, q⟩ := bindO q
  obtain ⟨G, rr⟩ := id r
  have q : itemC τ[i]? y = some (nw, d) := q
  cases e : τ[i]? with
  | none => rw [e] at q; cases q
  | some o =>
    cases o with
    | none => rw [e] at q; cases q
    | some cc =>
      rw [e] at q
      obtain ⟨v, h1, h2⟩ := rr.cell i cc e
      refine ⟨v, h1, F, τ, m2, y, r, e2, fun u F1 H1 g1 r2 => ?_⟩
      have lvK : ∀ {n : Bool} {ds : List D} {xs : List V}, RpL X.K (lv n R F) ds xs → RpL X.K (lv n R F1) ds xs := fun h => RpL.sm (lv_mono g1.f) h
      cases cc with
      | d m x => exact ix_core (show itemE (m, x) y = some (nw, d) from q) g1.s (Rp.sm (lv_mono g1.f) h2) (fun i e => by rw [show y = _ from e] at r2; exact r2) fun z hz => k _ F1 H1 g1 hz
      | own m ds =>
        match y, q, r2 with
        | .int i', q, r2 =>
          obtain ⟨d', e3, e4⟩ := mapO (show (atI ds i').map (fun d => (m || scal d, d)) = some (nw, d) from q)
          cases e4
          obtain ⟨p1, xs, rfl, hx, q1⟩ := h2
          obtain ⟨z, h1, h2⟩ := (lvK q1).atI e3
          exact .inl ⟨p1, xs, i', z, rfl, r2, .inl (.inl (g1.h.at ((rr.reg i).s _ _ hx) fun _ z => nomatch z)), h1, k _ F1 H1 g1 (lv_scal h2)⟩
      | dp x =>
        match x, y, q, r2, h2 with
        | .lst ds, .int i', q, r2, h2 =>
          obtain ⟨d', e3, e4⟩ := bindO (show (atI ds i').bind (fun d => if scal d then some (true, d) else none) = some (nw, d) from q)
          split at e4
          · rename_i hs
            cases e4
            obtain ⟨p1, xs, rfl, hx, q1⟩ := h2
            obtain ⟨z, h1, h2⟩ := q1.atI e3
            exact .inl ⟨p1, xs, i', z, rfl, r2, .inl (.inl (g1.h.at ((rr.reg i).s _ _ hx) fun _ z => nomatch z)), h1, k _ F1 H1 g1 (Rp.scal hs h2)⟩
          · cases e4
        | .tup ds, .int i', q, r2, h2 =>
          obtain ⟨d', e3, e4⟩ := bindO (show (atI ds i').bind (fun d => if scal d then some (true, d) else none) = some (nw, d) from q)
          split at e4
          · rename_i hs
            cases e4
            obtain ⟨p1, xs, rfl, hx, q1⟩ := h2
            obtain ⟨z, h1, h2⟩ := q1.atI e3
            exact .inr ⟨p1, xs, i', z, rfl, r2, .inl (.inl (g1.h.at ((rr.reg i).s _ _ hx) fun _ z => nomatch z)), h1, k _ F1 H1 g1 (Rp.scal hs h2)⟩
          · cases e4
      | dic m ks ds => cases y <;> cases q

/-! ### slices -/
abbrev FO := DS → Option (Option Int)
def tSO (K : PySem.W.Frag) (R H0 : Hp) (f : FO) : TO := fun σ H Q => ∃ F τ o, Rel K R H0 τ σ F H ∧ f τ = some o ∧ ∀ F' H', Grow F H F' H' → Q o H'
theorem POmono {X : Cx} {e : Option Expr} {t t' : TO} (h : PO X e t) (w : ∀ σ H Q, t' σ H Q → t σ H Q) : PO X e t' := ⟨fun pins s σ H Q I q => h.run pins s σ H Q I (w σ H Q q)⟩
abbrev SO (R H0 : Hp) (X : Cx) (e : Option Expr) (f : FO) : Prop := PO X e (tSO X.K R H0 f)
def intO : D → Option (Option Int)
  | .int i => some (some i)
  | _ => none
theorem so_none : SO R H0 X none (fun _ => some none) := POmono po_none fun σ H Q ⟨F, τ, o, r, q, k⟩ => by
  cases q; exact k F H r.refl
theorem so_some {f : FB} (h : SB R H0 X e f) : SO R H0 X (some e) (un1 f intO) := POmono (po_some h) fun σ H Q ⟨F, τ, o, r, q, k⟩ => by
  obtain ⟨x, e1, q⟩ := un1_some q
  cases x <;> first | (cases q; done) | skip
  cases q
  exact ⟨F, τ, _, r, e1, fun v F1 H1 g1 r1 => ⟨_, r1, k F1 H1 g1⟩⟩
def cutL {α : Type} (xs : List α) (lo hi : Option Int) : List α := (xs.drop (HT.sIx xs.length 0 lo)).take (HT.sIx xs.length xs.length hi - HT.sIx xs.length 0 lo)
theorem RpL.cut {K : PySem.W.Frag} {H : Hp} {ds : List D} {xs : List V} {lo hi : Option Int} (h : RpL K H ds xs) : RpL K H (cutL ds lo hi) (cutV xs lo hi) := by
  unfold cutL cutV
  rw [← h.length]
  exact (h.drop _).take _
def cutC (p : Bool × D) (lo hi : Option Int) : Option C := match p with
  | (n, .lst ds) => some (.own (n || allScal ds) (cutL ds lo hi))
  | (n, .tup ds) => if HT.sIx ds.length 0 lo = 0 ∧ HT.sIx ds.length ds.length hi = ds.length then none else some (.d (n || allScal ds) (.tup (cutL ds lo hi)))
  | _ => none
def slF {α : Type} (f : DS → Option α) (l u : FO) (g : α → Option Int → Option Int → Option C) : FC := fun τ => (f τ).bind fun x => (l τ).bind fun lo => (u τ).bind fun hi => g x lo hi
theorem lvL_scal {K : PySem.W.Frag} {n : Bool} {R F : Hp} {ds : List D} {xs : List V} (h : RpL K (lv n R F) ds xs) : RpL K (lv (n || allScal ds) R F) ds xs := by
  cases q : allScal ds with
  | true => exact RpL.scal q h
  | false => rw [Bool.or_false]; exact h
theorem sc_slice {f : FE} {l u : FO} {lo hi : Option Expr} (ha : SE R H0 X a f) (hl : SO R H0 X lo l) (hu : SO R H0 X hi u) : SC R H0 X (.Subscript a (.Slice lo hi none p2) pos) (slF f l u cutC) := PEmono (pe_slice (sl_list.or sl_tup) ha hl hu) fun σ H Q ⟨F, τ, c, r, q, k⟩ => by
  obtain ⟨⟨m, x⟩, e1, q⟩ := bindO q
  obtain ⟨lo', e2, q⟩ := bindO q
  obtain ⟨hi', e3, q⟩ := bindO q
  refine ⟨F, τ, m, x, r, e1, fun v F1 H1 g1 r1 => ⟨F1, τ, lo', r.grow g1, e2, fun F2 H2 g2 => ⟨F2, τ, hi', (r.grow g1).grow g2, e3, fun F3 H3 g3 => ?_⟩⟩⟩
  have gg := (g1.trans g2).trans g3
  have r1 : Rp X.K (lv m R F3) x v := Rp.sm (lv_mono (g2.trans g3).f) r1
  match x, q, r1 with
  | .lst ds, q, r1 =>
    have q : some (C.own (m || allScal ds) (cutL ds lo' hi')) = some c := q
    cases q
    obtain ⟨p1, xs, rfl, hx, q1⟩ := r1
    refine .inl ⟨p1, xs, rfl, .inl (.inl ((lv_sub.trans gg.s) _ _ hx)), fun p hp => k _ _ _ _ (pend_new gg hp fun _ z => nomatch z) ⟨p, _, rfl, sing_same, (lvL_scal q1).cut⟩⟩
  | .tup ds, q, r1 =>
    have q : (if HT.sIx ds.length 0 lo' = 0 ∧ HT.sIx ds.length ds.length hi' = ds.length then none else some (C.d (m || allScal ds) (.tup (cutL ds lo' hi')))) = some c := q
    split at q
    · cases q
    · rename_i hw
      cases q
      obtain ⟨p1, xs, rfl, hx, q1⟩ := r1
      have r3 := r.grow gg
      refine .inr ⟨p1, xs, rfl, .inl (.inl ((lv_sub.trans gg.s) _ _ hx)), by rw [← q1.length]; exact hw, fun p hp => ?_⟩
      have g4 : Grow F3 H3 (upd F3 p (.tup (cutV xs lo' hi'))) (upd H3 p (.tup (cutV xs lo' hi'))) := .new r3.s r3.t hp fun _ z => nomatch z
      exact k _ _ _ emp (gg.trans g4).pend ⟨p, _, rfl, lv_new upd_same (r3.rn hp), RpL.sm (lv_mono g4.f) (lvL_scal q1).cut⟩

/-! ### methods of texts -/
def asciiD : D → Option (Bool × D)
  | .str x => some (true, .bl (Txt.isascii x))
  | _ => none
def printD : D → Option (Bool × D)
  | .str x => some (true, .bl (Txt.isprintable x))
  | _ => none
theorem se_isascii {f : FB} {ap : Pos} (h : SB R H0 X a f) (hbase : attributeBase a "isascii" X.env (eval a X.env) = eval a X.env := by rfl) (hline : (ap.endLine == pos.line) = true := by rfl) : SE R H0 X (.Call (.Attribute a "isascii" ap) [] [] pos) (un1 f asciiD) :=
  PEmono (pe_bm0 PySem.F.plainAttrs_str PySem.F.slot_str_isascii PySem.F.type_str_isascii mt_isascii h hbase hline) fun σ H Q ⟨F, τ, nw, d, r, q, k⟩ => by
  obtain ⟨x, e1, q⟩ := un1_some q
  cases x <;> first | (cases q; done) | skip
  cases q
  rename_i z
  refine ⟨F, τ, _, r, e1, fun v F1 H1 g1 r1 => ?_⟩
  obtain rfl : v = V.str z := r1
  exact ⟨by first | exact ⟨_, rfl⟩ | exact rfl, z, rfl, rfl, trivial, k _ F1 H1 g1 rfl⟩
theorem se_isprint {f : FB} {ap : Pos} (h : SB R H0 X a f) (hbase : attributeBase a "isprintable" X.env (eval a X.env) = eval a X.env := by rfl) (hline : (ap.endLine == pos.line) = true := by rfl) : SE R H0 X (.Call (.Attribute a "isprintable" ap) [] [] pos) (un1 f printD) :=
  PEmono (pe_bm0 PySem.F.plainAttrs_str PySem.F.slot_str_isprintable PySem.F.type_str_isprintable mt_isprintable h hbase hline) fun σ H Q ⟨F, τ, nw, d, r, q, k⟩ => by
  obtain ⟨x, e1, q⟩ := un1_some q
  cases x <;> first | (cases q; done) | skip
  cases q
  rename_i z
  refine ⟨F, τ, _, r, e1, fun v F1 H1 g1 r1 => ?_⟩
  obtain rfl : v = V.str z := r1
  exact ⟨by first | exact ⟨_, rfl⟩ | exact rfl, z, rfl, rfl, trivial, k _ F1 H1 g1 rfl⟩
/-- list(x) -/
def listC : (Bool × D) → Option C
  | (n, .lst ds) => some (.own (n || allScal ds) ds)
  | (n, .tup ds) => some (.own (n || allScal ds) ds)
  | _ => none
theorem sc_list {f : FE} {p : Pos} (hg : Gl X "list") (hm : X.mg "list" = none) (h : SE R H0 X a f) (he : starEach [a] X.env = (false, eval a X.env) :: starEach [] X.env := by rfl) : SC R H0 X (.Call (.Name "list" p) [a] [] pos) (un1 f listC) := PEmono (pe_callTy call_list_of hg hm (by decide +kernel) (pa_cons h pa_nil he) (by decide) (by decide) he (by rfl)) fun σ H Q ⟨F, τ, c, r, q, k⟩ => by
  obtain ⟨⟨m, x⟩, e1, q⟩ := un1_some q
  refine ⟨F, τ, m, x, r, e1, fun v F1 H1 g1 r1 => ?_⟩
  cases x <;> first | (cases q; done) | skip
  · cases q
    obtain ⟨p1, xs, rfl, hx, q1⟩ := r1
    exact ⟨p1, xs, rfl, .inl (.inl (.inl ((lv_sub.trans g1.s) _ _ hx))), fun p hp => k _ _ _ _ (pend_new g1 hp fun _ z => nomatch z) ⟨p, xs, rfl, sing_same, lvL_scal q1⟩⟩
  · cases q
    obtain ⟨p1, xs, rfl, hx, q1⟩ := r1
    exact ⟨p1, xs, rfl, .inr (.inl (.inl ((lv_sub.trans g1.s) _ _ hx))), fun p hp => k _ _ _ _ (pend_new g1 hp fun _ z => nomatch z) ⟨p, xs, rfl, sing_same, lvL_scal q1⟩⟩
end

/-! ### calls of own defs -/
inductive Res where
  | ok (nw : Bool) (d : D)
  | er (C : Addr) (fs : List (Str × D))
abbrev Phi := List D → Option Res
def Tabs (cs : List (Addr × Addr)) (H : Hp) : Prop := ∀ p ∈ cs, TabG H p.2
theorem Tabs.ext {cs : List (Addr × Addr)} {H H' : Hp} (x : Ext H H') (h : Tabs cs H) : Tabs cs H' := fun p hp => by
  obtain ⟨ps, e, t⟩ := h p hp
  rcases x _ _ e with q | ⟨qs, qs', e1, e2, t2⟩
  · exact ⟨ps, q, t⟩
  · cases e1; exact ⟨qs', e2, t2 t⟩
/-- a def's promise: its value by φ -/
def ResOk (K : PySem.W.Frag) (R H : Hp) (Q : VK) (E : XK) : Res → Prop
  | .ok nw d => ∀ v F' H', Grow R H F' H' → Rp K (lv nw R F') d v → Q v H'
  | .er C fs => ∀ dx F' H', Grow R H F' H' → (∃ xs, H' dx = some (.xd xs) ∧ ∀ f d, fs.lookup f = some d → ∃ v, xs.lookup f = some v ∧ Rp K F' d v) → E (.ref C) (some dx) H'
def spD (K : PySem.W.Frag) (cs : List (Addr × Addr)) (np : Nat) (φ : Phi) : Sp := fun vs H Q E => vs.length = np ∧ Tabs cs H ∧ ∃ R ds r, Sm R H ∧ NoTbl R ∧ RpL K R ds vs ∧ φ ds = some r ∧ ResOk K R H Q E r
def resC (n : Bool) : Res → Option C
  | .ok true d => some (.dp d)
  | .ok false d => some (.d (n || scal d) d)
  | .er _ _ => none
def callC (φ : Phi) (g : FA) : FC := fun τ => (g τ).bind fun p => (φ p.2).bind (resC p.1)
theorem join_sm {F G H : Hp} (s1 : Sm F H) (s2 : Sm G H) : Sm (join F G) H := fun b o e => by
  cases q : G b with
  | none => rw [join_f q] at e; exact s1 b o e
  | some u => rw [join_g q] at e; cases e; exact s2 b _ q
section
variable {R H0 : Hp} {X : Cx} {a b c e : Expr} {rest es : List Expr} {pos p2 : Pos} {n : Nat} {CX : CXT} {k : Nat} {f : Addr} {fd : FuncData} {ps : List Str} {cs : List (Addr × Addr)} {np : Nat} {φ : Phi} {x : Str} {p : Pos}
theorem call_core {τ : DS} {σ : L2.St} {F H F1 H1 : Hp} {m : Bool} {ds : List D} {vs : List V} {c : C} {Q : VK} {res : Res} (hT : Tabs cs H0) (hl : vs.length = np) (r : Rel X.K R H0 τ σ F H) (g1 : Grow F H F1 H1) (r1 : RpL X.K (lv m R F1) ds vs) (e2 : φ ds = some res) (q : resC m res = some c)
    (kk : ∀ v F' H' Gp, Pend F H F' H' Gp → Cok X.K R F' Gp c v → Q v H') : spD X.K cs np φ vs H1 Q E0 := by
  have r2 := r.grow g1
  have sR : Sm (lv m R F1) H1 := lv_sub.trans g1.s
  have tR : NoTbl (lv m R F1) := fun b ps e => g1.t b ps (lv_sub b _ e)
  refine ⟨hl, Tabs.ext r2.g.h hT, lv m R F1, ds, res, sR, tR, r1, e2, ?_⟩
  cases res with
  | er C fs => cases q
  | ok nw d =>
    intro v F' H' g2 rv
    have hnew : ∀ {b : Addr}, lv true (lv m R F1) F' b ≠ none → H1 b = none := fun {b} hb => by
      have hn : lv m R F1 b = none := by
        cases z : lv m R F1 b with
        | none => rfl
        | some u =>
          refine absurd ?_ hb
          unfold lv
          rw [if_pos (by simp only [Bool.true_and]; unfold lv at z; rw [z]; rfl)]
      rcases g2.n b (fun z => hb (by
        cases w : lv true (lv m R F1) F' b with
        | none => rfl
        | some u => have := lv_sub b _ w; rw [z] at this; cases this)) with q | q
      · exact absurd hn q
      · exact q
    cases nw with
    | true =>
      have q : some (C.dp d) = some c := q
      cases q
      refine kk v F1 H' (lv true (lv m R F1) F') ⟨g1.trans (.heap g1.s g1.t g2.h), lv_sub.trans g2.s, fun b hb => ⟨g1.s.none (hnew hb), g1.h.none (hnew hb)⟩, fun b ps e => g2.t b ps (lv_sub b _ e)⟩ rv
    | false =>
      have q : some (C.d (m || scal d) d) = some c := q
      cases q
      rw [lv_false] at rv
      have sJ : Sm F1 (join F1 F') := fun b o e => by
        cases z : F' b with
        | none => rw [join_f z]; exact e
        | some u =>
          rw [join_g z]
          have h1 := g2.h.at (g1.s b o e) fun ps z => g1.t b ps (z ▸ e)
          have h2 := g2.s b u z
          rw [h1] at h2
          exact h2.symm
      have g3 : Grow F1 H1 (join F1 F') H' := ⟨sJ, g2.h, join_sm (Sm.of_ext g1.s g1.t g2.h) g2.s, fun b hb => by
        cases z : F' b with
        | none => rw [join_f z] at hb; exact .inl hb
        | some u =>
          rcases g2.n b (by rw [z]; exact fun z => nomatch z) with w | w
          · exact .inl fun y => w (by
              cases q3 : lv m R F1 b with
              | none => rfl
              | some u2 => have := lv_sub b _ q3; rw [y] at this; cases this)
          · exact .inr w, fun b ps e => by
        cases z : F' b with
        | none => rw [join_f z] at e; exact g1.t b ps e
        | some u => rw [join_g z] at e; cases e; exact g2.t b ps z⟩
      have lvl : Sm F' (lv m R (join F1 F')) := fun b o e => by
        unfold lv
        rw [join_g e]
        rw [if_neg]
        intro hh
        rw [Bool.and_eq_true] at hh
        obtain ⟨hm, hR⟩ := hh
        -- an address of R is none of the level's
        have hb : H1 b ≠ none := fun z => by
          have := r2.rn z
          rw [this] at hR; cases hR
        rcases g2.n b (by rw [e]; exact fun z => nomatch z) with w | w
        · refine w ?_
          unfold lv
          rw [if_pos (by rw [hm, hR]; rfl)]
        · exact hb w
      exact kk v _ H' emp (g1.trans g3).pend (lv_scal (Rp.sm lvl rv))
theorem sc_call {g : FA} (hT : Tabs cs H0) (F : FnOk X.prog X.w X.K X.mg X.base CX k f fd ps (spD X.K cs np φ)) (hr : Room k X.A) (hg : Gl X x) (hm : X.mg x = some (.ref f)) (hk : PySem.W.keepIn X.K (.ref f) = true) (hb : Binds X.K fd ps []) (hx : Passes CX X E0) (hn : (e :: es).length = np)
    (h : SA R H0 X (e :: es) g) (hlen : ∀ τ p, g τ = some p → p.2.length = np) (hdb : (x == ("__debug__" : Str)) = false := by decide) (he : starEach (e :: es) X.env = (false, eval e X.env) :: starEach es X.env := by rfl) (hpl : (backTo pos (starEach es X.env)).any (·.1) = false := by rfl) :
    SC R H0 X (.Call (.Name x p) (e :: es) [] pos) (callC φ g) := PEmono (pe_call F hr hg hm hk hb .nil hx h hdb he hpl) fun σ H Q ⟨F1, τ, c, r, q, kk⟩ => by
  obtain ⟨⟨m, ds⟩, e1, q⟩ := bindO q
  obtain ⟨res, e2, q⟩ := bindO q
  refine ⟨F1, τ, m, ds, r, e1, fun vs F2 H2 g1 r1 => ?_⟩
  show spD X.K cs np φ (vs ++ []) H2 Q E0
  rw [List.append_nil]
  exact call_core hT (by rw [← r1.length]; exact hlen τ _ e1) r g1 r1 e2 q kk
theorem sc_call0 (hT : Tabs cs H0) (F : FnOk X.prog X.w X.K X.mg X.base CX k f fd ps (spD X.K cs 0 φ)) (hr : Room k X.A) (hg : Gl X x) (hm : X.mg x = some (.ref f)) (hk : PySem.W.keepIn X.K (.ref f) = true) (hb : Binds X.K fd ps []) (hx : Passes CX X E0)
    (hdb : (x == ("__debug__" : Str)) = false := by decide) : SC R H0 X (.Call (.Name x p) [] [] pos) (callC φ nilA) := PEmono (pe_call0 F hr hg hm hk hb .nil hx hdb) fun σ H Q ⟨F1, τ, c, r, q, kk⟩ => by
  obtain ⟨⟨m, ds⟩, e1, q⟩ := bindO q
  obtain ⟨res, e2, q⟩ := bindO q
  cases e1
  exact call_core (vs := []) hT rfl r r.refl (show RpL _ _ [] [] from rfl) e2 q kk
end
theorem len_nilA {τ : DS} {p : Bool × List D} (h : nilA τ = some p) : p.2.length = 0 := by cases h; rfl
theorem len_consA {f : FE} {g : FA} {n : Nat} (hg : ∀ τ p, g τ = some p → p.2.length = n) : ∀ τ p, consA f g τ = some p → p.2.length = n + 1 := fun τ p h => by
  obtain ⟨x, _, h⟩ := bindO h
  obtain ⟨y, e, h⟩ := bindO h
  cases h
  rw [List.length_cons, hg τ y e]
end Dl
end
section
set_option Elab.async false
set_option linter.all false
set_option maxRecDepth 100000
set_option maxHeartbeats 4000000
namespace Dl
open PySem PySem.Spec PyProof.Rows L2 GxR Gx

/-! ### targets -/
abbrev TgD := (Bool × D) → DS → Option DS
abbrev TgsD := List (Bool × D) → DS → Option DS
def TgOk (K : PySem.W.Frag) (R H0 : Hp) (g : TG) (t : TgD) (sl : List Nat) : Prop :=
  ∀ (x : V) (σ : L2.St) (H F : Hp) (τ : DS) (p : Bool × D) (τ' : DS), Rel K R H0 τ σ F H → Rp K (lv p.1 R F) p.2 x → t p τ = some τ' → ∀ k : L2.St → Hp → Prop, (∀ σ', Rel K R H0 τ' σ' F H → (∀ j, j ∉ sl → σ'[j]? = σ[j]?) → σ'.length = σ.length → k σ' H) → g x σ H k
def RpF (K : PySem.W.Frag) (R F : Hp) : List (Bool × D) → List V → Prop
  | [], xs => xs = []
  | p :: ps, xs => ∃ x r, xs = x :: r ∧ Rp K (lv p.1 R F) p.2 x ∧ RpF K R F ps r
def TgsOk (K : PySem.W.Frag) (R H0 : Hp) (g : TGs) (t : TgsD) (sl : List Nat) : Prop :=
  ∀ (xs : List V) (σ : L2.St) (H F : Hp) (τ : DS) (ps : List (Bool × D)) (τ' : DS), Rel K R H0 τ σ F H → RpF K R F ps xs → t ps τ = some τ' → ∀ k : L2.St → Hp → Prop, (∀ σ', Rel K R H0 τ' σ' F H → (∀ j, j ∉ sl → σ'[j]? = σ[j]?) → σ'.length = σ.length → k σ' H) → g xs σ H k
def nameT (i : Nat) : TgD := fun p τ => some (τ.set i (some (.d p.1 p.2)))
def nilT : TgsD := fun ps τ => match ps with
  | [] => some τ
  | _ => none
def consT (t : TgD) (u : TgsD) : TgsD := fun ps τ => match ps with
  | p :: ps => (t p τ).bind (u ps)
  | [] => none
def flag (n : Bool) (ds : List D) : List (Bool × D) := ds.map fun d => (n || scal d, d)
def tupT (u : TgsD) : TgD := fun p τ => match p with
  | (n, .tup ds) => u (flag n ds) τ
  | _ => none
def unlT (u : TgsD) : TgD := fun p τ => match p with
  | (n, .lst ds) => u (flag n ds) τ
  | _ => none
theorem RpL.flag {K : PySem.W.Frag} {R F : Hp} {n : Bool} : ∀ {ds : List D} {xs : List V}, RpL K (lv n R F) ds xs → RpF K R F (flag n ds) xs
  | [], _, h => h
  | d :: ds, _, ⟨y, r, e, h, t⟩ => ⟨y, r, e, lv_scal h, RpL.flag t⟩
section
variable {K : PySem.W.Frag} {R H0 : Hp}
theorem tg_name (i : Nat) : TgOk K R H0 (gName i) (nameT i) [i] := fun x σ H F τ p τ' r rp e k hk => by
  cases e
  refine hk _ (r.store (c := .d p.1 p.2) r.refl.pend rp) (fun j hj => ?_) (List.length_set ..)
  have hj : i ≠ j := fun z => hj (by rw [z]; exact List.mem_singleton.mpr rfl)
  exact List.getElem?_set_ne hj
theorem tgs_nil : TgsOk K R H0 gNil nilT [] := fun xs σ H F τ ps τ' r rp e k hk => by
  cases ps with
  | nil => cases e; exact ⟨rp, hk σ r (fun _ _ => rfl) rfl⟩
  | cons _ _ => cases e
theorem tgs_cons {g : TG} {gs : TGs} {t : TgD} {u : TgsD} {s1 s2 : List Nat} (a : TgOk K R H0 g t s1) (b : TgsOk K R H0 gs u s2) : TgsOk K R H0 (gCons g gs) (consT t u) (s1 ++ s2) := fun xs σ H F τ ps τ' r rp e k hk => by
  cases ps with
  | nil => cases e
  | cons p ps =>
    obtain ⟨τ1, e1, e2⟩ := bindO (show (t p τ).bind (u ps) = some τ' from e)
    obtain ⟨x, xr, rfl, r1, r2⟩ := rp
    refine ⟨x, xr, rfl, a x σ H F τ p τ1 r r1 e1 _ fun σ1 rel1 h1 l1 => b xr σ1 H F τ1 ps τ' rel1 r2 e2 _ fun σ2 rel2 h2 l2 => hk σ2 rel2 (fun j hj => ?_) (l2.trans l1)⟩
    rw [h2 j fun z => hj (List.mem_append_right _ z), h1 j fun z => hj (List.mem_append_left _ z)]
theorem RpF.length {F : Hp} : ∀ {ps : List (Bool × D)} {xs : List V}, RpF K R F ps xs → ps.length = xs.length
  | [], _, h => by rw [show _ = [] from h]; rfl
  | _ :: _, _, ⟨_, _, e, _, t⟩ => by rw [e, List.length_cons, List.length_cons, RpF.length t]
/-- how many names -/
def ArT (n : Nat) (u : TgsD) : Prop := ∀ ps τ τ', u ps τ = some τ' → ps.length = n
theorem ar_nil : ArT 0 nilT := fun ps τ τ' e => by cases ps with
  | nil => rfl
  | cons _ _ => cases e
theorem ar_cons {n : Nat} {t : TgD} {u : TgsD} (h : ArT n u) : ArT (n + 1) (consT t u) := fun ps τ τ' e => by
  cases ps with
  | nil => cases e
  | cons p ps =>
    obtain ⟨τ1, e1, e2⟩ := bindO (show (t p τ).bind (u ps) = some τ' from e)
    rw [List.length_cons, h ps τ1 τ' e2]
theorem tg_tup {gs : TGs} {u : TgsD} {sl : List Nat} {n : Nat} (a : TgsOk K R H0 gs u sl) (ar : ArT n u) : TgOk K R H0 (gTup K n gs) (tupT u) sl := fun x σ H F τ p τ' r rp e k hk => by
  obtain ⟨m, d⟩ := p
  match d, e, rp with
  | .tup ds, e, ⟨p1, xs, e1, hx, q1⟩ =>
    have l := ar _ _ _ (show u (flag m ds) τ = some τ' from e)
    have q2 := RpL.flag (R := R) q1
    exact ⟨p1, xs, e1, .inl (.inl ((lv_sub.trans r.s) _ _ hx)), by rw [← q2.length]; exact l, a xs σ H F τ _ τ' r q2 e k hk⟩
theorem tg_unl {gs : TGs} {u : TgsD} {sl : List Nat} {n : Nat} (a : TgsOk K R H0 gs u sl) (ar : ArT n u) : TgOk K R H0 (gUnl K n gs) (unlT u) sl := fun x σ H F τ p τ' r rp e k hk => by
  obtain ⟨m, d⟩ := p
  match d, e, rp with
  | .lst ds, e, ⟨p1, xs, e1, hx, q1⟩ =>
    have l := ar _ _ _ (show u (flag m ds) τ = some τ' from e)
    have q2 := RpL.flag (R := R) q1
    exact ⟨p1, xs, e1, .inl (.inl ((lv_sub.trans r.s) _ _ hx)), by rw [← q2.length]; exact l, a xs σ H F τ _ τ' r q2 e k hk⟩
end
/-- a tuple or a list -/
def orT (a b : TgD) : TgD := fun p τ => match p.2 with
  | .tup _ => a p τ
  | _ => b p τ
def orG (a b : TG) : TG := fun v σ H Q => a v σ H Q ∨ b v σ H Q
theorem pg_or {X : Cx} {e : Expr} {a b : TG} (h : PG X e a) (k : PG X e b) : PG X e (orG a b) := ⟨fun pins s σ H v u Q I r q => q.elim (fun q => h.run pins s σ H v u Q I r q) fun q => k.run pins s σ H v u Q I r q⟩
theorem tg_or {K : PySem.W.Frag} {R H0 : Hp} {a b : TG} {t u : TgD} {sl : List Nat} (h : TgOk K R H0 a t sl) (k : TgOk K R H0 b u sl) : TgOk K R H0 (orG a b) (orT t u) sl := fun x σ H F τ p τ' r rp e kk hk => by
  obtain ⟨m, d⟩ := p
  cases d <;> first | exact .inl (h x σ H F τ _ τ' r rp e kk hk) | exact .inr (k x σ H F τ _ τ' r rp e kk hk)

/-! ### what is walked -/
abbrev FI := DS → Option (List (Bool × D))
def IterOk (K : PySem.W.Frag) (R : Hp) (J : It) (items : List (Bool × D)) (F : Hp) : Prop :=
  ∀ i F' H', Sm F F' → Sm F' H' → NoTbl F' → Sm R F' → (∀ p, items[i]? = some p → J.go i H' ∧ ∀ x H'', J.yld i H' x H'' → ∃ F'', Grow F' H' F'' H'' ∧ Rp K (lv p.1 R F'') p.2 x) ∧ (items.length ≤ i → J.stop i H')
def IiOk (K : PySem.W.Frag) (R H0 : Hp) (wi : TI) (fi : FI) : Prop :=
  ∀ (σ : L2.St) (H F : Hp) (τ : DS) (items : List (Bool × D)), Rel K R H0 τ σ F H → fi τ = some items → ∀ Rk : It → Hp → Prop, (∀ J F1 H1, Grow F H F1 H1 → IterOk K R J items F1 → Rk J H1) → wi σ H Rk
def itemsE : (Bool × D) → Option (List (Bool × D))
  | (n, .lst ds) => some (flag n ds)
  | _ => none
theorem flag_get {n : Bool} {ds : List D} {i : Nat} {p : Bool × D} (h : (flag n ds)[i]? = some p) : ∃ d, ds[i]? = some d ∧ p = (n || scal d, d) := by
  unfold flag at h
  rw [List.getElem?_map] at h
  obtain ⟨d, e, rfl⟩ := mapO h
  exact ⟨d, e, rfl⟩
theorem sql_inj {K : PySem.W.Frag} {H : Hp} {a : Addr} {xs ys : List V} (h : H a = some (.lst xs)) (hK : K.lookup a = none) (q : SqL K H a ys) : xs = ys := by
  rcases q with (q | ⟨o, q⟩) | ⟨o, _, _, q, _⟩
  · rw [h] at q; cases q; rfl
  · rw [h] at q; cases q
  · rw [hK] at q; cases q
section
variable {K : PySem.W.Frag} {R H0 : Hp}
theorem ii_list {f : FE} : IiOk K R H0 (iList K (tSE K R H0 f)) (un1 f itemsE) := fun σ H F τ items r e Rk hk => by
  obtain ⟨⟨n, x⟩, e1, e2⟩ := un1_some e
  match x, e2 with
  | .lst ds, e2 =>
    have e2 : some (flag n ds) = some items := e2
    cases e2
    refine ⟨F, τ, n, .lst ds, r, e1, fun v F1 H1 g1 r1 => ?_⟩
    obtain ⟨a, xs, rfl, hx, q1⟩ := r1
    have hx1 : F1 a = some (.lst xs) := lv_sub _ _ hx
    refine ⟨a, rfl, ⟨xs, .inl (.inl (g1.s _ _ hx1))⟩, hk _ F1 H1 g1 fun i F' H' s1 s2 t2 sR => ⟨fun p hp => ?_, fun hl => ?_⟩⟩
    · obtain ⟨d, hd, rfl⟩ := flag_get hp
      obtain ⟨y, hy, ry⟩ := q1.get hd
      have hH : SqL K H' a xs := .inl (.inl (s2 _ _ (s1 _ _ hx1)))
      refine ⟨⟨xs, y, hH, hy⟩, fun x H'' yl => ?_⟩
      obtain ⟨rfl, yl⟩ := yl
      have := yl xs hH
      rw [hy] at this
      cases this
      exact ⟨F', .refl s2 t2, lv_scal (Rp.sm (lv_mono s1) ry)⟩
    · refine ⟨xs, .inl (.inl (s2 _ _ (s1 _ _ hx1))), ?_⟩
      unfold flag at hl
      rw [List.length_map] at hl
      rw [← q1.length]; exact hl
end
def rngItems (lo : Int) (n : Nat) : List (Bool × D) := (List.range n).map fun k => (true, .int (lo + (k : Nat)))
theorem rng_get {lo : Int} {n i : Nat} {p : Bool × D} (h : (rngItems lo n)[i]? = some p) : i < n ∧ p = (true, .int (lo + (i : Nat))) := by
  unfold rngItems at h
  rw [List.getElem?_map] at h
  obtain ⟨d, e, rfl⟩ := mapO h
  obtain ⟨h1, h2⟩ := List.getElem?_eq_some_iff.mp e
  rw [List.length_range] at h1
  rw [List.getElem_range] at h2
  exact ⟨h1, by rw [h2]⟩
theorem rng_iter {K : PySem.W.Frag} {R F : Hp} {lo : Int} {n : Nat} : IterOk K R (Itr lo n) (rngItems lo n) F := fun i F' H' s1 s2 t2 sR => ⟨fun p hp => by
  obtain ⟨hi, rfl⟩ := rng_get hp
  refine ⟨hi, fun x H'' yl => ?_⟩
  obtain ⟨rfl, rfl⟩ := yl
  exact ⟨F', .refl s2 t2, rfl⟩, fun hl => by
  unfold rngItems at hl
  rw [List.length_map, List.length_range] at hl
  exact hl⟩
def in62 (i : Int) : Bool := decide (-(2 ^ 62) ≤ i) && decide (i < 2 ^ 62)
def rng1 : (Bool × List D) → Option (List (Bool × D))
  | (_, [.int j]) => if in62 j then some (rngItems 0 j.toNat) else none
  | _ => none
def rng2 : (Bool × List D) → Option (List (Bool × D))
  | (_, [.int i, .int j]) => if in62 i && in62 j then some (rngItems i (j - i).toNat) else none
  | _ => none
theorem RpL.one_inv {K : PySem.W.Frag} {H : Hp} {d : D} {vs : List V} (h : RpL K H [d] vs) : ∃ x, vs = [x] ∧ Rp K H d x := by
  obtain ⟨x, r, rfl, h1, h2⟩ := h
  rw [show r = [] from h2]
  exact ⟨x, rfl, h1⟩
theorem RpL.two_inv {K : PySem.W.Frag} {H : Hp} {d e : D} {vs : List V} (h : RpL K H [d, e] vs) : ∃ x y, vs = [x, y] ∧ Rp K H d x ∧ Rp K H e y := by
  obtain ⟨x, r, rfl, h1, y, r2, rfl, h2, h3⟩ := h
  rw [show r2 = [] from h3]
  exact ⟨x, y, rfl, h1, h2⟩
section
variable {K : PySem.W.Frag} {R H0 : Hp}
theorem ii_rng1 {g : FA} : IiOk K R H0 (iRng1 (tSA K R H0 g)) (un1 g rng1) := fun σ H F τ items r e Rk hk => by
  obtain ⟨⟨n, ds⟩, e1, e2⟩ := un1_some e
  match ds, e2 with
  | [.int j], e2 =>
    have e2 : (if in62 j then some (rngItems 0 j.toNat) else none) = some items := e2
    split at e2
    · rename_i hb
      cases e2
      unfold in62 at hb
      rw [Bool.and_eq_true, decide_eq_true_eq, decide_eq_true_eq] at hb
      refine ⟨F, τ, n, _, r, e1, fun vs F1 H1 g1 r1 => ?_⟩
      obtain ⟨x, rfl, h1⟩ := RpL.one_inv r1
      exact ⟨j, by rw [show x = V.int j from h1], hb.1, hb.2, hk _ F1 H1 g1 rng_iter⟩
    · cases e2
theorem ii_rng2 {g : FA} : IiOk K R H0 (iRng2 (tSA K R H0 g)) (un1 g rng2) := fun σ H F τ items r e Rk hk => by
  obtain ⟨⟨n, ds⟩, e1, e2⟩ := un1_some e
  match ds, e2 with
  | [.int i, .int j], e2 =>
    have e2 : (if in62 i && in62 j then some (rngItems i (j - i).toNat) else none) = some items := e2
    split at e2
    · rename_i hb
      cases e2
      unfold in62 at hb
      simp only [Bool.and_eq_true, decide_eq_true_eq] at hb
      refine ⟨F, τ, n, _, r, e1, fun vs F1 H1 g1 r1 => ?_⟩
      obtain ⟨x, y, rfl, h1, h2⟩ := RpL.two_inv r1
      exact ⟨i, j, by rw [show x = V.int i from h1, show y = V.int j from h2], ⟨hb.1.1, hb.1.2, hb.2.1, hb.2.2⟩, hk _ F1 H1 g1 rng_iter⟩
    · cases e2
end
end Dl
end
section
set_option Elab.async false
set_option linter.all false
set_option maxRecDepth 100000
set_option maxHeartbeats 4000000
namespace Dl
open PySem PySem.Spec PyProof.Rows L2 GxR Gx

/-! ### enumerate, zip -/
def enumI (n : Bool) : Nat → List D → List (Bool × D)
  | _, [] => []
  | k, d :: ds => (n || scal d, .tup [.int (k : Nat), d]) :: enumI n (k + 1) ds
theorem enumI_get {n : Bool} : ∀ {ds : List D} {k i : Nat} {p : Bool × D}, (enumI n k ds)[i]? = some p → ∃ d, ds[i]? = some d ∧ p = (n || scal d, .tup [.int ((k + i : Nat) : Int), d])
  | [], _, _, _, h => by simp [enumI] at h
  | d :: ds, k, 0, p, h => by
    unfold enumI at h
    rw [List.getElem?_cons_zero] at h
    exact ⟨d, rfl, (Option.some.inj h).symm⟩
  | d :: ds, k, i + 1, p, h => by
    unfold enumI at h
    rw [List.getElem?_cons_succ] at h
    obtain ⟨d', h1, h2⟩ := enumI_get h
    refine ⟨d', by rw [List.getElem?_cons_succ]; exact h1, ?_⟩
    rw [h2]
    have : k + 1 + i = k + (i + 1) := by omega
    rw [this]
theorem enumI_len {n : Bool} : ∀ {ds : List D} {k : Nat}, (enumI n k ds).length = ds.length
  | [], _ => rfl
  | d :: ds, k => by unfold enumI; rw [List.length_cons, List.length_cons, enumI_len]
def enumF : (Bool × List D) → Option (List (Bool × D))
  | (n, [.lst ds]) => some (enumI n 0 ds)
  | _ => none
def zipI (n : Bool) : List D → List D → List (Bool × D)
  | d :: ds, e :: es => ((n || scal d) && (n || scal e), .tup [d, e]) :: zipI n ds es
  | _, _ => []
theorem zipI_get {n : Bool} : ∀ {ds es : List D} {i : Nat} {p : Bool × D}, (zipI n ds es)[i]? = some p → ∃ d e, ds[i]? = some d ∧ es[i]? = some e ∧ p = ((n || scal d) && (n || scal e), .tup [d, e])
  | [], _, _, _, h => by simp [zipI] at h
  | _ :: _, [], _, _, h => by simp [zipI] at h
  | d :: ds, e :: es, 0, p, h => by
    unfold zipI at h
    rw [List.getElem?_cons_zero] at h
    exact ⟨d, e, rfl, rfl, (Option.some.inj h).symm⟩
  | d :: ds, e :: es, i + 1, p, h => by
    unfold zipI at h
    rw [List.getElem?_cons_succ] at h
    obtain ⟨d', e', h1, h2, h3⟩ := zipI_get h
    exact ⟨d', e', by rw [List.getElem?_cons_succ]; exact h1, by rw [List.getElem?_cons_succ]; exact h2, h3⟩
theorem zipI_len {n : Bool} : ∀ {ds es : List D}, (zipI n ds es).length = min ds.length es.length
  | [], es => by simp [zipI]
  | _ :: _, [] => by simp [zipI]
  | d :: ds, e :: es => by
    unfold zipI
    rw [List.length_cons, List.length_cons, List.length_cons, zipI_len]
    omega
def zipF : (Bool × List D) → Option (List (Bool × D))
  | (n, [.lst ds, .lst es]) => some (zipI n ds es)
  | _ => none
section
variable {K : PySem.W.Frag} {R H0 : Hp}
theorem sq_lst {H : Hp} {a : Addr} {xs : List V} (h : H a = some (.lst xs)) : SqL K H a xs := .inl (.inl h)
theorem ii_enum {g : FA} : IiOk K R H0 (iEnum K (tSA K R H0 g)) (un1 g enumF) := fun σ H F τ items r e Rk hk => by
  obtain ⟨⟨n, ds⟩, e1, e2⟩ := un1_some e
  match ds, e2 with
  | [.lst ds], e2 =>
    have e2 : some (enumI n 0 ds) = some items := e2
    cases e2
    refine ⟨F, τ, n, _, r, e1, fun vs F1 H1 g1 r1 => ?_⟩
    obtain ⟨x, rfl, a, xs, rfl, hx, q1⟩ := RpL.one_inv r1
    have hx1 : F1 a = some (.lst xs) := lv_sub _ _ hx
    refine ⟨a, xs, rfl, sq_lst (g1.s _ _ hx1), hk _ F1 H1 g1 fun i F' H' s1 s2 t2 sR => ⟨fun p hp => ?_, fun hl => ?_⟩⟩
    · obtain ⟨d, hd, rfl⟩ := enumI_get hp
      obtain ⟨y, hy, ry⟩ := q1.get hd
      have hH : SqL K H' a xs := sq_lst (s2 _ _ (s1 _ _ hx1))
      refine ⟨⟨xs, y, hH, hy⟩, fun x H'' yl => ?_⟩
      obtain ⟨T, z, rfl, hT, rfl, yl⟩ := yl
      have := yl xs hH
      rw [hy] at this
      cases this
      have g3 : Grow F' H' (upd F' T (.tup [.int (i : Nat), y])) (upd H' T (.tup [.int (i : Nat), y])) := .new s2 t2 hT fun _ z => nomatch z
      refine ⟨_, g3, T, _, rfl, lv_new upd_same (sR.none (s2.none hT)), _, _, rfl, ?_, _, _, rfl, Rp.sm (lv_mono g3.f) (lv_scal (Rp.sm (lv_mono s1) ry)), rfl⟩
      show V.int _ = V.int _
      rw [Nat.zero_add]
    · refine ⟨xs, sq_lst (s2 _ _ (s1 _ _ hx1)), ?_⟩
      rw [enumI_len] at hl
      rw [← q1.length]; exact hl
theorem ii_zip {g : FA} : IiOk K R H0 (iZip K (tSA K R H0 g)) (un1 g zipF) := fun σ H F τ items r e Rk hk => by
  obtain ⟨⟨n, ds⟩, e1, e2⟩ := un1_some e
  match ds, e2 with
  | [.lst ds, .lst es], e2 =>
    have e2 : some (zipI n ds es) = some items := e2
    cases e2
    refine ⟨F, τ, n, _, r, e1, fun vs F1 H1 g1 r1 => ?_⟩
    obtain ⟨x, x2, rfl, ⟨a, xs, rfl, hx, q1⟩, b, ys, rfl, hy, q2⟩ := RpL.two_inv r1
    have hx1 : F1 a = some (.lst xs) := lv_sub _ _ hx
    have hy1 : F1 b = some (.lst ys) := lv_sub _ _ hy
    refine ⟨a, b, xs, ys, rfl, sq_lst (g1.s _ _ hx1), sq_lst (g1.s _ _ hy1), hk _ F1 H1 g1 fun i F' H' s1 s2 t2 sR => ⟨fun p hp => ?_, fun hl => ?_⟩⟩
    · obtain ⟨d, d2, hd, hd2, rfl⟩ := zipI_get hp
      obtain ⟨y, hy, ry⟩ := q1.get hd
      obtain ⟨y2, hy2, ry2⟩ := q2.get hd2
      have hH : SqL K H' a xs := sq_lst (s2 _ _ (s1 _ _ hx1))
      have hH2 : SqL K H' b ys := sq_lst (s2 _ _ (s1 _ _ hy1))
      refine ⟨⟨xs, ys, y, y2, hH, hH2, hy, hy2⟩, fun x H'' yl => ?_⟩
      obtain ⟨T, z, z2, rfl, hT, rfl, yl, yl2⟩ := yl
      have e1 := yl xs hH
      have e2 := yl2 ys hH2
      rw [hy] at e1
      rw [hy2] at e2
      cases e1; cases e2
      have g3 : Grow F' H' (upd F' T (.tup [y, y2])) (upd H' T (.tup [y, y2])) := .new s2 t2 hT fun _ z => nomatch z
      refine ⟨_, g3, T, _, rfl, lv_new upd_same (sR.none (s2.none hT)), _, _, rfl, Rp.sm ((lv_mono g3.f).trans lv_and) (lv_scal (Rp.sm (lv_mono s1) ry)), _, _, rfl, Rp.sm ((lv_mono g3.f).trans lv_and') (lv_scal (Rp.sm (lv_mono s1) ry2)), rfl⟩
    · refine ⟨xs, ys, sq_lst (s2 _ _ (s1 _ _ hx1)), sq_lst (s2 _ _ (s1 _ _ hy1)), ?_⟩
      rw [zipI_len] at hl
      rw [← q1.length, ← q2.length]
      omega
end

/-! ### the names of a block -/
def wD (τ : DS) : List Nat → DS
  | [] => τ
  | v :: vs => (wD τ vs).set v none
theorem wD_len (τ : DS) : ∀ vs, (wD τ vs).length = τ.length
  | [] => rfl
  | v :: vs => by unfold wD; rw [List.length_set, wD_len τ vs]
theorem wD_some {τ : DS} {i : Nat} {c : C} : ∀ {vs : List Nat}, (wD τ vs)[i]? = some (some c) → τ[i]? = some (some c) ∧ i ∉ vs
  | [], h => ⟨h, by simp⟩
  | v :: vs, h => by
    unfold wD at h
    by_cases hi : v = i
    · subst hi
      by_cases hv : v < (wD τ vs).length
      · rw [List.getElem?_set_self hv] at h; cases h
      · rw [List.getElem?_eq_none (by simpa using hv)] at h; cases h
    · rw [List.getElem?_set_ne hi] at h
      obtain ⟨h1, h2⟩ := wD_some h
      exact ⟨h1, by simp only [List.mem_cons, not_or]; exact ⟨fun e => hi e.symm, h2⟩⟩
theorem wipe_out {σ : L2.St} {j : Nat} : ∀ {vs : List Nat}, j ∉ vs → (wipe σ vs)[j]? = σ[j]?
  | [], _ => rfl
  | v :: vs, h => by
    unfold wipe
    rw [List.mem_cons, not_or] at h
    rw [List.getElem?_set_ne (fun e => h.1 e.symm)]
    exact wipe_out h.2
theorem wipe_in {σ : L2.St} {j : Nat} (hj : j < σ.length) : ∀ {vs : List Nat}, j ∈ vs → (wipe σ vs)[j]? = some none
  | v :: vs, h => by
    unfold wipe
    by_cases e : v = j
    · subst e
      exact List.getElem?_set_self (by rw [wipe_length]; exact hj)
    · rw [List.getElem?_set_ne e]
      rcases List.mem_cons.mp h with z | z
      · exact absurd z.symm e
      · exact wipe_in hj z
theorem wipe_eq {σ σ' : L2.St} {vs : List Nat} (h : ∀ j, j ∉ vs → σ'[j]? = σ[j]?) (hl : σ'.length = σ.length) : wipe σ' vs = wipe σ vs := by
  refine List.ext_getElem? fun j => ?_
  by_cases hj : j ∈ vs
  · by_cases hlt : j < σ.length
    · rw [wipe_in hlt hj, wipe_in (by rw [hl]; exact hlt) hj]
    · rw [List.getElem?_eq_none (by rw [wipe_length, hl]; omega), List.getElem?_eq_none (by rw [wipe_length]; omega)]
  · rw [wipe_out hj, wipe_out hj, h j hj]
theorem wipe_wipe {σ : L2.St} {vs : List Nat} : wipe (wipe σ vs) vs = wipe σ vs := wipe_eq (fun j hj => wipe_out hj) (wipe_length _ _)
theorem Rel.wipe {K : PySem.W.Frag} {R H0 : Hp} {τ : DS} {σ : L2.St} {F H : Hp} (vs : List Nat) (r : Rel K R H0 τ σ F H) : Rel K R H0 (wD τ vs) (L2.wipe σ vs) F H := by
  have hl : τ.length = σ.length := let ⟨_, r⟩ := r; r.len
  refine r.drop (by rw [wD_len, wipe_length]; exact hl) fun i c e => ?_
  obtain ⟨h1, h2⟩ := wD_some e
  exact ⟨h1, wipe_out h2⟩
def TtOk (K : PySem.W.Frag) (R H0 : Hp) (tt : TT) (c : FT) : Prop :=
  ∀ (σ : L2.St) (H F : Hp) (τ : DS) (b : Bool), Rel K R H0 τ σ F H → c τ = some b → ∀ Q : Bool → Hp → Prop, (∀ F' H', Grow F H F' H' → Q b H') → tt σ H Q
theorem tt_yes {K : PySem.W.Frag} {R H0 : Hp} : TtOk K R H0 tYes (fun _ => some true) := fun σ H F τ b r e Q k => by cases e; exact k F H r.refl
theorem tt_st {K : PySem.W.Frag} {R H0 : Hp} {f : FT} : TtOk K R H0 (tST K R H0 f) f := fun σ H F τ b r e Q k => ⟨F, τ, b, r, e, k⟩

/-! ### comprehensions -/
def lcD (vs : List Nat) (t : TgD) (c : FT) (e : FE) (τ : DS) : List (Bool × D) → Option (Bool × List D)
  | [] => some (true, [])
  | p :: ps => (t p (wD τ vs)).bind fun τ1 => (c τ1).bind fun b => if b = true then (e τ1).bind fun y => (lcD vs t c e τ ps).bind fun z => some (y.1 && z.1, y.2 :: z.2) else lcD vs t c e τ ps
def lcF (fi : FI) (vs : List Nat) (t : TgD) (c : FT) (e : FE) : FC := fun τ => (fi τ).bind fun items => if items.length ≤ lim then (lcD vs t c e τ items).map fun z => .own z.1 z.2 else none
section
variable {K : PySem.W.Frag} {R H0 : Hp}
theorem lc_ok {wi : TI} {fi : FI} {g : TG} {t : TgD} {sl vs : List Nat} {tt : TT} {c : FT} {e : FE} (hi : IiOk K R H0 wi fi) (ht : TgOk K R H0 g t sl) (hsl : ∀ j ∈ sl, j ∈ vs) (hc : TtOk K R H0 tt c)
    {σ : L2.St} {H F : Hp} {τ : DS} {cl : C} {Q : VK} (r : Rel K R H0 τ σ F H) (q : lcF fi vs t c e τ = some cl) (k : ∀ v F' H' Gp, Pend F H F' H' Gp → Cok K R F' Gp cl v → Q v H') : tLc wi g tt (tSE K R H0 e) vs σ H Q := by
  obtain ⟨items, e1, q⟩ := bindO q
  split at q
  · rename_i hlim
    obtain ⟨⟨fl, total⟩, e2, rfl⟩ := mapO q
    refine hi σ H F τ items r e1 _ fun J F1 H1 g1 it D hD => ?_
    refine ⟨fun i m H => m = items.length - i ∧ i ≤ items.length ∧ ∃ F2 acc out nr rest, Grow F1 H1 F2 H ∧ H D = some (.lst acc) ∧ F2 D = none ∧ RpL K (lv fl R F2) out acc ∧ out.length ≤ i ∧ lcD vs t c e τ (items.drop i) = some (nr, rest) ∧ total = out ++ rest ∧ (fl = true → nr = true),
      ⟨items.length, by omega, Nat.zero_le _, F1, [], [], fl, total, .heap g1.s g1.t (Ext.upd hD), upd_same, g1.s.none hD, rfl, Nat.zero_le _, e2, rfl, id⟩, ?_⟩
    rintro i m H2 ⟨rfl, hi2, F2, acc, out, nr, rest, g2, hHD, hFD, ro, ho, el, et, hfl⟩
    have r2 : Rel K R H0 τ σ F2 H2 := (r.grow g1).grow g2
    obtain ⟨ig, is⟩ := it i F2 H2 g2.f g2.s g2.t (g1.f.trans g2.f |> fun s => r.g.f.trans s)
    by_cases hlt : i < items.length
    · obtain ⟨p, hp⟩ : ∃ p, items[i]? = some p := ⟨items[i], List.getElem?_eq_getElem hlt⟩
      obtain ⟨go, yl⟩ := ig p hp
      have ed : items.drop i = p :: items.drop (i + 1) := by
        rw [List.drop_eq_getElem_cons hlt]
        rw [List.getElem?_eq_getElem hlt] at hp
        rw [Option.some.inj hp]
      rw [ed] at el
      obtain ⟨τ1, et1, el⟩ := bindO (show (t p (wD τ vs)).bind _ = _ from el)
      obtain ⟨b, ec, el⟩ := bindO el
      refine .inr ⟨go, fun H' => items.length - (i + 1) < items.length - i ∧ i + 1 ≤ items.length ∧ ∃ F2 acc out nr rest, Grow F1 H1 F2 H' ∧ H' D = some (.lst acc) ∧ F2 D = none ∧ RpL K (lv fl R F2) out acc ∧ out.length ≤ i + 1 ∧ lcD vs t c e τ (items.drop (i + 1)) = some (nr, rest) ∧ total = out ++ rest ∧ (fl = true → nr = true),
        fun H' ⟨h1, h2, h3⟩ => ⟨_, h1, rfl, h2, h3⟩, fun x H3 hy => ?_⟩
      obtain ⟨F3, g3, rx⟩ := yl x H3 hy
      have r3 : Rel K R H0 (wD τ vs) (wipe σ vs) F3 H3 := (r2.grow g3).wipe vs
      refine ht x (wipe σ vs) H3 F3 _ p τ1 r3 rx et1 _ fun σ2 r4 hσ hl => ⟨?_, ?_⟩
      · rw [wipe_eq (fun j hj => hσ j fun z => hj (hsl j z)) hl, wipe_wipe]
      have nD : ∀ {Fa Ha Fb Hb : Hp}, Grow Fa Ha Fb Hb → Fa D = none → Ha D = some (.lst acc) → Fb D = none ∧ Hb D = some (.lst acc) := fun {Fa Ha Fb Hb} g h1 h2 => by
        refine ⟨?_, g.h.at h2 fun _ z => nomatch z⟩
        cases z : Fb D with
        | none => rfl
        | some u =>
          rcases g.n D (by rw [z]; exact fun z => nomatch z) with w | w
          · exact absurd h1 w
          · rw [h2] at w; cases w
      obtain ⟨n3, d3⟩ := nD g3 hFD hHD
      refine hc σ2 H3 F3 τ1 b r4 ec _ fun F4 H4 g4 => ?_
      obtain ⟨n4, d4⟩ := nD g4 n3 d3
      cases b with
      | false =>
        rw [if_neg Bool.false_ne_true] at el
        refine iteF ⟨by omega, hlt, F4, acc, out, nr, rest, (g2.trans g3).trans g4, d4, n4, RpL.sm (lv_mono (g3.trans g4).f) ro, by omega, el, et, hfl⟩
      | true =>
        rw [if_pos rfl] at el
        obtain ⟨⟨ny, y⟩, ey, el⟩ := bindO el
        obtain ⟨⟨nz, z⟩, ez, el⟩ := bindO el
        cases el
        refine iteT ⟨F4, τ1, ny, y, r4.grow g4, ey, fun v F5 H5 g5 rv => ?_⟩
        obtain ⟨n5, d5⟩ := nD g5 n4 d4
        have hac : acc.length < sizeLine := by
          rw [← ro.length]
          have : items.length ≤ sizeLine := hlim
          omega
        have gg := ((g2.trans g3).trans g4).trans g5
        have hb : ny = true ∧ nz = true ∨ fl = false := by
          cases fl with
          | false => exact .inr rfl
          | true =>
            have := hfl rfl
            rw [Bool.and_eq_true] at this
            exact .inl this
        refine ⟨acc, d5, hac, by omega, hlt, F5, acc ++ [v], out ++ [y], nz, z, ⟨gg.f, fun b o eb => ?_, fun b o eb => ?_, gg.n, gg.t⟩, upd_same, n5, RpL.app (RpL.sm (lv_mono ((g3.trans g4).trans g5).f) ro) (RpL.one (Rp.sm (lv_imp fun z => ?_) rv)), by rw [List.length_append, List.length_singleton]; omega, ez, by rw [et, List.append_assoc]; rfl, fun z => ?_⟩
        · have hb : b ≠ D := fun z => by rw [z, hD] at eb; cases eb
          rw [upd_ne hb]
          exact gg.h b o eb
        · have hb : b ≠ D := fun z => by rw [z, n5] at eb; cases eb
          rw [upd_ne hb]
          exact gg.s b o eb
        · rcases hb with hb | hb
          · exact hb.1
          · rw [z] at hb; cases hb
        · rcases hb with hb | hb
          · exact hb.2
          · rw [z] at hb; cases hb
    · have e3 : i = items.length := by omega
      subst e3
      rw [List.drop_length] at el
      cases el
      rw [List.append_nil] at et
      refine .inl ⟨is (Nat.le_refl _), k _ F2 H2 (sing D (.lst acc)) ⟨g1.trans g2, fun b x eb => ?_, fun b hb => ?_, fun b ps eb => ?_⟩ ⟨D, acc, rfl, sing_same, by rw [et]; exact ro⟩⟩
      · unfold sing at eb
        split at eb
        · rename_i hb; rw [hb, hHD]; exact eb
        · cases eb
      · have : b = D := by
          unfold sing at hb
          split at hb
          · assumption
          · exact absurd rfl hb
        subst this
        exact ⟨hFD, g1.h.none hD⟩
      · unfold sing at eb
        split at eb
        · cases eb
        · cases eb
  · cases q
end
section
variable {R H0 : Hp} {X : Cx}
theorem sc_lc {elt tg iter : Expr} {ifs : List Expr} {scope : Scope} {own : List (Str × Nat)} {pos : Pos} {wi : TI} {fi : FI} {g : TG} {t : TgD} {sl : List Nat} {tt : TT} {c : FT} {e : FE} (hc : X.calm = true) (hN : X.N.Nodup) (hi : PI X tg iter wi) (hii : IiOk X.K R H0 wi fi) (ok : BlkOk X.N X.env.scope scope own)
    (hg : ∀ (s : Shared) (H : Hp) (C : Addr) (cl : List (Str × Addr)) (fp : List Addr), PG (X.blk s H scope (compEnvC scope cl C X.env) fp) tg g) (hgt : TgOk X.K R H0 g t sl) (hsl : ∀ j ∈ sl, j ∈ own.map (·.2))
    (ht : ∀ (s : Shared) (H : Hp) (C : Addr) (cl : List (Str × Addr)) (fp : List Addr), PTs (X.blk s H scope (compEnvC scope cl C X.env) fp) ifs tt) (htt : TtOk X.K R H0 tt c)
    (he : ∀ (s : Shared) (H : Hp) (C : Addr) (cl : List (Str × Addr)) (fp : List Addr), SE R H0 (X.blk s H scope (compEnvC scope cl C X.env) fp) elt e) (hs : ∀ x, foldedSetIterable iter X.env x = pure x := by intro _; rfl) :
    SC R H0 X (.ListComp elt [⟨tg, iter, ifs, 0⟩] scope pos) (lcF fi (own.map (·.2)) t c e) := PEmono (pe_lc hc hN hi ok hg ht he hs) fun σ H Q ⟨F, τ, cl, r, q, k⟩ => lc_ok hii hgt hsl htt r q k

/-! ### all, any, sum of generator expressions -/
def allD (vs : List Nat) (t : TgD) (c : FT) (e : FE) (τ : DS) : List (Bool × D) → Option Bool
  | [] => some true
  | p :: ps => (t p (wD τ vs)).bind fun τ1 => (c τ1).bind fun b => if b = true then (e τ1).bind fun y => match y.2 with
    | .bl true => allD vs t c e τ ps
    | .bl false => some false
    | _ => none
    else allD vs t c e τ ps
def anyD (vs : List Nat) (t : TgD) (c : FT) (e : FE) (τ : DS) : List (Bool × D) → Option Bool
  | [] => some false
  | p :: ps => (t p (wD τ vs)).bind fun τ1 => (c τ1).bind fun b => if b = true then (e τ1).bind fun y => match y.2 with
    | .bl true => some true
    | .bl false => anyD vs t c e τ ps
    | _ => none
    else anyD vs t c e τ ps
def sumD (vs : List Nat) (t : TgD) (c : FT) (e : FE) (τ : DS) : Int → List (Bool × D) → Option Int
  | a, [] => some a
  | a, p :: ps => (t p (wD τ vs)).bind fun τ1 => (c τ1).bind fun b => if b = true then (e τ1).bind fun y => match y.2 with
    | .int k => sumD vs t c e τ (a + k) ps
    | _ => none
    else sumD vs t c e τ a ps
def allF (fi : FI) (vs : List Nat) (t : TgD) (c : FT) (e : FE) : FE := fun τ => (fi τ).bind fun items => (allD vs t c e τ items).map fun b => (true, .bl b)
def anyF (fi : FI) (vs : List Nat) (t : TgD) (c : FT) (e : FE) : FE := fun τ => (fi τ).bind fun items => (anyD vs t c e τ items).map fun b => (true, .bl b)
def sumF (fi : FI) (vs : List Nat) (t : TgD) (c : FT) (e : FE) : FE := fun τ => (fi τ).bind fun items => (sumD vs t c e τ 0 items).map fun b => (true, .int b)
end
section
variable {K : PySem.W.Frag} {R H0 : Hp}
/-- the turns of a generator expression; S i a: what is left to be done is worth res -/
theorem gx_ok {α : Type} {P : Addr} {wi : TI} {fi : FI} {g : TG} {t : TgD} {sl vs : List Nat} {tt : TT} {c : FT} {e : FE} {a0 : α} {out : α → V → Hp → (α → Hp → Prop) → Prop} {fin : α → Hp → Prop} (hi : IiOk K R H0 wi fi) (ht : TgOk K R H0 g t sl) (hsl : ∀ j ∈ sl, j ∈ vs) (hc : TtOk K R H0 tt c)
    {σ : L2.St} {H F : Hp} {τ : DS} {items : List (Bool × D)} (r : Rel K R H0 τ σ F H) (hT : ∀ F1 H1, Grow F H F1 H1 → TabG H1 P) (e1 : fi τ = some items) (S : α → List (Bool × D) → Prop) (h0 : S a0 items)
    (hS : ∀ a p ps, S a (p :: ps) → ∃ τ1 b, t p (wD τ vs) = some τ1 ∧ c τ1 = some b ∧ if b = true then ∃ y, e τ1 = some y ∧ ∀ v F' H' Nx, Grow F H F' H' → Rp K (lv y.1 R F') y.2 v → (∀ a', S a' ps → Nx a' H') → out a v H' Nx else S a ps)
    (hF : ∀ a F' H', S a [] → Grow F H F' H' → fin a H') : tGen P wi g tt (tSE K R H0 e) vs a0 out fin σ H := by
  refine hi σ H F τ items r e1 _ fun J F1 H1 g1 it => ⟨hT F1 H1 g1, fun H2 hTb => ?_⟩
  have x2 : Ext H1 H2 := Ext.tabbed hTb (hT F1 H1 g1)
  have g2 : Grow F1 H1 F1 H2 := .heap g1.s g1.t x2
  refine ⟨fun i m a H => m = items.length - i ∧ i ≤ items.length ∧ S a (items.drop i) ∧ ∃ F3, Grow F1 H1 F3 H, ⟨items.length, by omega, Nat.zero_le _, h0, F1, g2⟩, ?_⟩
  rintro i m a H3 ⟨rfl, hi2, hSa, F3, g3⟩
  have r3 : Rel K R H0 τ σ F3 H3 := (r.grow g1).grow g3
  obtain ⟨ig, is⟩ := it i F3 H3 g3.f g3.s g3.t (r.g.f.trans (g1.f.trans g3.f))
  by_cases hlt : i < items.length
  · obtain ⟨p, hp⟩ : ∃ p, items[i]? = some p := ⟨items[i], List.getElem?_eq_getElem hlt⟩
    obtain ⟨go, yl⟩ := ig p hp
    have ed : items.drop i = p :: items.drop (i + 1) := by
      rw [List.drop_eq_getElem_cons hlt]
      rw [List.getElem?_eq_getElem hlt] at hp
      rw [Option.some.inj hp]
    rw [ed] at hSa
    obtain ⟨τ1, b, et1, ec, hb⟩ := hS _ _ _ hSa
    refine .inr ⟨go, fun a' H' => S a' (items.drop (i + 1)) ∧ ∃ F3, Grow F1 H1 F3 H', fun a' H' ⟨h1, h2⟩ => ⟨items.length - (i + 1), by omega, rfl, hlt, h1, h2⟩, fun x H4 hy => ?_⟩
    obtain ⟨F4, g4, rx⟩ := yl x H4 hy
    have r4 : Rel K R H0 (wD τ vs) (wipe σ vs) F4 H4 := (r3.grow g4).wipe vs
    refine ht x (wipe σ vs) H4 F4 _ p τ1 r4 rx et1 _ fun σ2 r5 hσ hl => ⟨?_, ?_⟩
    · rw [wipe_eq (fun j hj => hσ j fun z => hj (hsl j z)) hl, wipe_wipe]
    refine hc σ2 H4 F4 τ1 b r5 ec _ fun F5 H5 g5 => ?_
    cases b with
    | false =>
      rw [if_neg Bool.false_ne_true] at hb
      exact iteF ⟨hb, F5, (g3.trans g4).trans g5⟩
    | true =>
      rw [if_pos rfl] at hb
      obtain ⟨y, ey, hout⟩ := hb
      refine iteT ⟨F5, τ1, y.1, y.2, r5.grow g5, ey, fun v F6 H6 g6 rv => ?_⟩
      have gg := ((g3.trans g4).trans g5).trans g6
      exact hout v F6 H6 _ (g1.trans gg) rv fun a' hS' => ⟨hS', F6, gg⟩
  · have e3 : i = items.length := by omega
    subst e3
    rw [List.drop_length] at hSa
    exact .inl ⟨is (Nat.le_refl _), hF a F3 H3 hSa (g1.trans g3)⟩
end
section
variable {R H0 : Hp} {X : Cx} {c P : Addr} {elt tg iter : Expr} {ifs : List Expr} {scope : Scope} {own : List (Str × Nat)} {gpos p pos : Pos} {wi : TI} {fi : FI} {g : TG} {t : TgD} {sl : List Nat} {tt : TT} {cd : FT} {e : FE} {k : Nat} {cs : List (Addr × Addr)}
theorem se_allG (hT : Tabs cs H0) (hP : (c, P) ∈ cs) (hr : Room (k + 1) X.A) (hc : X.calm = true) (hN : X.N.Nodup) (hgl : Gl X "all") (hm : X.mg "all" = none) (TB : TabB X.base X.mg c P) (hcode : X.env.code = .ref c) (ok : BlkOk X.N X.env.scope scope own) (hnc : ∀ y ∈ scope.names, y.2 ≠ .cell) (hdot : scope.names.lookup (".0" : Str) = some NameKind.local)
    (hco : scope.isCoroutine = false) (hi : PI X tg iter wi) (hii : IiOk X.K R H0 wi fi)
    (hg : ∀ s H C code fp A' pn, Room k A' → PG (Cxg X s H (gEnv X scope C code) fp A' pn) tg g) (hgt : TgOk X.K R H0 g t sl) (hsl : ∀ j ∈ sl, j ∈ own.map (·.2)) (ht : ∀ s H C code fp A' pn, Room k A' → PTs (Cxg X s H (gEnv X scope C code) fp A' pn) ifs tt) (htt : TtOk X.K R H0 tt cd)
    (he : ∀ s H C code fp A' pn, Room k A' → SE R H0 (Cxg X s H (gEnv X scope C code) fp A' pn) elt e)
    (hs : ∀ v, genFold iter X.env v = pure v := by intro _; rfl) (hst : starEach [GE elt tg iter ifs scope gpos] X.env = (false, eval (GE elt tg iter ifs scope gpos) X.env) :: starEach [] X.env := by rfl) :
    SE R H0 X (.Call (.Name "all" p) [GE elt tg iter ifs scope gpos] [] pos) (allF fi (own.map (·.2)) t cd e) := PEmono (pe_allG (te := tSE X.K R H0 e) hr hc hN hgl hm TB hcode ok hnc hdot hco hi hg ht he hs hst) fun σ H Q ⟨F, τ, nw, d, r, q, kk⟩ => by
  obtain ⟨items, e1, q⟩ := bindO q
  obtain ⟨b, e2, q⟩ := mapO q
  cases q
  refine gx_ok (e := e) hii hgt hsl htt r (fun F1 H1 g1 => Tabs.ext (r.grow g1).g.h hT (c, P) hP) e1 (fun (_ : Unit) l => allD (own.map (·.2)) t cd e τ l = some b) e2 (fun a p ps hS => ?_) fun a F' H' hS g' => ?_
  · obtain ⟨τ1, h1, hS⟩ := bindO (show (t p (wD τ (own.map (·.2)))).bind _ = _ from hS)
    obtain ⟨b1, h2, hS⟩ := bindO hS
    refine ⟨τ1, b1, h1, h2, ?_⟩
    cases b1 with
    | false => rw [if_neg Bool.false_ne_true] at hS; exact iteF hS
    | true =>
      rw [if_pos rfl] at hS
      obtain ⟨⟨ny, y⟩, h3, hS⟩ := bindO hS
      refine iteT ⟨(ny, y), h3, fun v F' H' Nx g' rv hn => ?_⟩
      match y, hS, rv with
      | .bl true, hS, rv => exact ⟨true, rv, iteT (hn () hS)⟩
      | .bl false, hS, rv =>
        cases hS
        exact ⟨false, rv, iteF (kk _ F' H' g' rfl)⟩
  · cases hS
    exact kk _ F' H' g' rfl
theorem se_anyG (hT : Tabs cs H0) (hP : (c, P) ∈ cs) (hr : Room (k + 1) X.A) (hc : X.calm = true) (hN : X.N.Nodup) (hgl : Gl X "any") (hm : X.mg "any" = none) (TB : TabB X.base X.mg c P) (hcode : X.env.code = .ref c) (ok : BlkOk X.N X.env.scope scope own) (hnc : ∀ y ∈ scope.names, y.2 ≠ .cell) (hdot : scope.names.lookup (".0" : Str) = some NameKind.local)
    (hco : scope.isCoroutine = false) (hi : PI X tg iter wi) (hii : IiOk X.K R H0 wi fi)
    (hg : ∀ s H C code fp A' pn, Room k A' → PG (Cxg X s H (gEnv X scope C code) fp A' pn) tg g) (hgt : TgOk X.K R H0 g t sl) (hsl : ∀ j ∈ sl, j ∈ own.map (·.2)) (ht : ∀ s H C code fp A' pn, Room k A' → PTs (Cxg X s H (gEnv X scope C code) fp A' pn) ifs tt) (htt : TtOk X.K R H0 tt cd)
    (he : ∀ s H C code fp A' pn, Room k A' → SE R H0 (Cxg X s H (gEnv X scope C code) fp A' pn) elt e)
    (hs : ∀ v, genFold iter X.env v = pure v := by intro _; rfl) (hst : starEach [GE elt tg iter ifs scope gpos] X.env = (false, eval (GE elt tg iter ifs scope gpos) X.env) :: starEach [] X.env := by rfl) :
    SE R H0 X (.Call (.Name "any" p) [GE elt tg iter ifs scope gpos] [] pos) (anyF fi (own.map (·.2)) t cd e) := PEmono (pe_anyG (te := tSE X.K R H0 e) hr hc hN hgl hm TB hcode ok hnc hdot hco hi hg ht he hs hst) fun σ H Q ⟨F, τ, nw, d, r, q, kk⟩ => by
  obtain ⟨items, e1, q⟩ := bindO q
  obtain ⟨b, e2, q⟩ := mapO q
  cases q
  refine gx_ok (e := e) hii hgt hsl htt r (fun F1 H1 g1 => Tabs.ext (r.grow g1).g.h hT (c, P) hP) e1 (fun (_ : Unit) l => anyD (own.map (·.2)) t cd e τ l = some b) e2 (fun a p ps hS => ?_) fun a F' H' hS g' => ?_
  · obtain ⟨τ1, h1, hS⟩ := bindO (show (t p (wD τ (own.map (·.2)))).bind _ = _ from hS)
    obtain ⟨b1, h2, hS⟩ := bindO hS
    refine ⟨τ1, b1, h1, h2, ?_⟩
    cases b1 with
    | false => rw [if_neg Bool.false_ne_true] at hS; exact iteF hS
    | true =>
      rw [if_pos rfl] at hS
      obtain ⟨⟨ny, y⟩, h3, hS⟩ := bindO hS
      refine iteT ⟨(ny, y), h3, fun v F' H' Nx g' rv hn => ?_⟩
      match y, hS, rv with
      | .bl false, hS, rv => exact ⟨false, rv, iteF (hn () hS)⟩
      | .bl true, hS, rv =>
        cases hS
        exact ⟨true, rv, iteT (kk _ F' H' g' rfl)⟩
  · cases hS
    exact kk _ F' H' g' rfl
theorem se_sumG (hT : Tabs cs H0) (hP : (c, P) ∈ cs) (hr : Room (k + 1) X.A) (hc : X.calm = true) (hN : X.N.Nodup) (hgl : Gl X "sum") (hm : X.mg "sum" = none) (TB : TabB X.base X.mg c P) (hcode : X.env.code = .ref c) (ok : BlkOk X.N X.env.scope scope own) (hnc : ∀ y ∈ scope.names, y.2 ≠ .cell) (hdot : scope.names.lookup (".0" : Str) = some NameKind.local)
    (hco : scope.isCoroutine = false) (hi : PI X tg iter wi) (hii : IiOk X.K R H0 wi fi)
    (hg : ∀ s H C code fp A' pn, Room k A' → PG (Cxg X s H (gEnv X scope C code) fp A' pn) tg g) (hgt : TgOk X.K R H0 g t sl) (hsl : ∀ j ∈ sl, j ∈ own.map (·.2)) (ht : ∀ s H C code fp A' pn, Room k A' → PTs (Cxg X s H (gEnv X scope C code) fp A' pn) ifs tt) (htt : TtOk X.K R H0 tt cd)
    (he : ∀ s H C code fp A' pn, Room k A' → SE R H0 (Cxg X s H (gEnv X scope C code) fp A' pn) elt e)
    (hs : ∀ v, genFold iter X.env v = pure v := by intro _; rfl) (hst : starEach [GE elt tg iter ifs scope gpos] X.env = (false, eval (GE elt tg iter ifs scope gpos) X.env) :: starEach [] X.env := by rfl) :
    SE R H0 X (.Call (.Name "sum" p) [GE elt tg iter ifs scope gpos] [] pos) (sumF fi (own.map (·.2)) t cd e) := PEmono (pe_sumG (te := tSE X.K R H0 e) hr hc hN hgl hm TB hcode ok hnc hdot hco hi hg ht he hs hst) fun σ H Q ⟨F, τ, nw, d, r, q, kk⟩ => by
  obtain ⟨items, e1, q⟩ := bindO q
  obtain ⟨b, e2, q⟩ := mapO q
  cases q
  refine gx_ok (e := e) hii hgt hsl htt r (fun F1 H1 g1 => Tabs.ext (r.grow g1).g.h hT (c, P) hP) e1 (fun (a : Int) l => sumD (own.map (·.2)) t cd e τ a l = some b) e2 (fun a p ps hS => ?_) fun a F' H' hS g' => ?_
  · obtain ⟨τ1, h1, hS⟩ := bindO (show (t p (wD τ (own.map (·.2)))).bind _ = _ from hS)
    obtain ⟨b1, h2, hS⟩ := bindO hS
    refine ⟨τ1, b1, h1, h2, ?_⟩
    cases b1 with
    | false => rw [if_neg Bool.false_ne_true] at hS; exact iteF hS
    | true =>
      rw [if_pos rfl] at hS
      obtain ⟨⟨ny, y⟩, h3, hS⟩ := bindO hS
      refine iteT ⟨(ny, y), h3, fun v F' H' Nx g' rv hn => ?_⟩
      match y, hS, rv with
      | .int j, hS, rv => exact ⟨j, rv, hn _ hS⟩
  · cases hS
    exact kk _ F' H' g' rfl
end
end Dl
end
section
set_option Elab.async false
set_option linter.all false
set_option maxRecDepth 100000
set_option maxHeartbeats 4000000
namespace Dl
open PySem PySem.Spec PyProof.Rows L2 GxR Gx

/-! ### statements -/
inductive Out where
  | nx (τ : DS)
  | rt (nw : Bool) (d : D)
  | bk (τ : DS)
  | ct (τ : DS)
abbrev FS := DS → Option Out
def OutK (K : PySem.W.Frag) (R H0 : Hp) (D : Ends) (F : Hp) : Out → Prop
  | .nx τ => ∀ σ' F' H', Sm F F' → Rel K R H0 τ σ' F' H' → D.nx σ' H'
  | .bk τ => ∀ σ' F' H', Sm F F' → Rel K R H0 τ σ' F' H' → D.bk σ' H'
  | .ct τ => ∀ σ' F' H', Sm F F' → Rel K R H0 τ σ' F' H' → D.ct σ' H'
  | .rt nw d => ∀ v F' H', Grow R H0 F' H' → Rp K (lv nw R F') d v → D.rt v H'
theorem OutK.mono {K : PySem.W.Frag} {R H0 : Hp} {D : Ends} {F F1 : Hp} (s : Sm F F1) : ∀ {o : Out}, OutK K R H0 D F o → OutK K R H0 D F1 o
  | .nx _, h => fun σ' F' H' s2 r => h σ' F' H' (s.trans s2) r
  | .bk _, h => fun σ' F' H' s2 r => h σ' F' H' (s.trans s2) r
  | .ct _, h => fun σ' F' H' s2 r => h σ' F' H' (s.trans s2) r
  | .rt _ _, h => h
def tSS (K : PySem.W.Frag) (R H0 : Hp) (g : FS) : TS := fun D σ H => ∃ F τ o, Rel K R H0 τ σ F H ∧ g τ = some o ∧ OutK K R H0 D F o
abbrev SS (R H0 : Hp) (X : Cx) (st : Stmt) (g : FS) : Prop := PS X st (tSS X.K R H0 g)
abbrev SSs (R H0 : Hp) (X : Cx) (st : List Stmt) (g : FS) : Prop := PSs X st (tSS X.K R H0 g)
def nxF : FS := fun τ => some (.nx τ)
def noF : FS := fun _ => none
def seqF (f g : FS) : FS := fun τ => (f τ).bind fun o => match o with
  | .nx τ' => g τ'
  | o => some o
section
variable {R H0 : Hp} {X : Cx} {st : Stmt} {rest : List Stmt} {e a b c : Expr} {es : List Expr} {pos : Pos}
theorem ss_never : SS R H0 X st noF := PSmono ps_never fun D σ H ⟨F, τ, o, r, q, k⟩ => nomatch q
theorem sss_nil : SSs R H0 X [] nxF := PSsmono pss_nil fun D σ H ⟨F, τ, o, r, q, k⟩ => by
  cases q; exact k σ F H .refl r
theorem sss_one {f : FS} (h : SS R H0 X st f) : SSs R H0 X [st] f := pss_one h
theorem sss_cons {f g : FS} (h : SS R H0 X st f) (k : SSs R H0 X rest g) : SSs R H0 X (st :: rest) (seqF f g) := PSsmono (pss_cons h k) fun D σ H ⟨F, τ, o, r, q, k⟩ => by
  obtain ⟨o1, e1, e2⟩ := bindO q
  refine ⟨F, τ, o1, r, e1, ?_⟩
  cases o1 with
  | nx τ1 => exact fun σ' F' H' s r' => ⟨F', τ1, o, r', e2, k.mono s⟩
  | rt nw d => cases e2; exact k
  | bk τ1 => cases e2; exact k
  | ct τ1 => cases e2; exact k
/-- slots are frozen ahead of a statement -/
def fzs : List Nat → DS → DS
  | [], τ => τ
  | i :: is, τ => fzs is (fz i τ)
theorem Rel.fzs {K : PySem.W.Frag} (hR : Sm R H0) : ∀ (is : List Nat) {τ : DS} {σ : L2.St} {F H : Hp}, Rel K R H0 τ σ F H → ∃ F', Sm F F' ∧ Rel K R H0 (fzs is τ) σ F' H
  | [], τ, σ, F, H, r => ⟨F, .refl, r⟩
  | i :: is, τ, σ, F, H, r => by
    obtain ⟨F1, s1, r1⟩ := Rel.fz i r hR
    obtain ⟨F2, s2, r2⟩ := Rel.fzs hR is r1
    exact ⟨F2, s1.trans s2, r2⟩
def fzF (is : List Nat) (g : FS) : FS := fun τ => g (fzs is τ)
theorem ss_fz (is : List Nat) {g : FS} (hR : Sm R H0) (h : SS R H0 X st g) : SS R H0 X st (fzF is g) := PSmono h fun D σ H ⟨F, τ, o, r, q, k⟩ => by
  obtain ⟨F1, s1, r1⟩ := Rel.fzs hR is r
  exact ⟨F1, _, o, r1, q, k.mono s1⟩
theorem ss_pass : SS R H0 X (.Pass pos) nxF := PSmono ps_pass fun D σ H ⟨F, τ, o, r, q, k⟩ => by
  cases q; exact k σ F H .refl r
def bkF : FS := fun τ => some (.bk τ)
def ctF : FS := fun τ => some (.ct τ)
theorem ss_break : SS R H0 X (.Break pos) bkF := PSmono ps_break fun D σ H ⟨F, τ, o, r, q, k⟩ => by
  cases q; exact k σ F H .refl r
theorem ss_continue : SS R H0 X (.Continue pos) ctF := PSmono ps_continue fun D σ H ⟨F, τ, o, r, q, k⟩ => by
  cases q; exact k σ F H .refl r
theorem ss_doc {x j pos'} : SS R H0 X (.Expr (.Constant (.str x) j pos) pos') nxF := PSmono ps_doc fun D σ H ⟨F, τ, o, r, q, k⟩ => by
  cases q; exact k σ F H .refl r
def setF (i : Nat) (f : FC) : FS := fun τ => (f τ).map fun c => .nx (τ.set i (some c))
theorem ss_set (i : Nat) {x : Str} {f : FC} {pos' : Pos} (hN : X.N.Nodup) (he : SC R H0 X e f) (hi : X.N[i]? = some x := by rfl) (hx : Loc X.env.scope x := by first | exact Or.inl rfl | exact Or.inr rfl) (hs : swapsWith e (some (.Name x pos')) pos.line X.env = pure false := by rfl) (hf : X.fn x = true ∨ X.env.scope.names.lookup x = some .local := by first | exact .inl rfl | exact .inr rfl | assumption) :
    SS R H0 X (.Assign [.Name x pos'] e pos) (setF i f) := PSmono (ps_set hN hi hx he hs hf) fun D σ H ⟨F, τ, o, r, q, k⟩ => by
  obtain ⟨cl, e1, rfl⟩ := mapO q
  exact ⟨F, τ, cl, r, e1, fun v F' H' Gp p ck => k _ F' H' p.g.f (r.store p ck)⟩
theorem ss_setLc (i : Nat) {y : Str} {py : Pos} {elt tg iter : Expr} {ifs : List Expr} {scope : Scope} {own : List (Str × Nat)} {pos spos : Pos} {wi : TI} {fi : FI} {g : TG} {t : TgD} {sl : List Nat} {tt : TT} {c : FT} {e : FE} (hc : X.calm = true) (hN : X.N.Nodup)
    (hsw : swapsWith (.ListComp elt [⟨tg, iter, ifs, 0⟩] scope pos) (some (.Name y py)) spos.line X.env = pure true) (hi : PI X tg iter wi) (hii : IiOk X.K R H0 wi fi) (ok : BlkOk X.N X.env.scope scope own)
    (hg : ∀ (s : Shared) (H : Hp) (C : Addr) (cl : List (Str × Addr)) (fp : List Addr), PG (X.blk s H scope (compEnvC scope cl C X.env) fp) tg g) (hgt : TgOk X.K R H0 g t sl) (hsl : ∀ j ∈ sl, j ∈ own.map (·.2))
    (ht : ∀ (s : Shared) (H : Hp) (C : Addr) (cl : List (Str × Addr)) (fp : List Addr), PTs (X.blk s H scope (compEnvC scope cl C X.env) fp) ifs tt) (htt : TtOk X.K R H0 tt c)
    (he : ∀ (s : Shared) (H : Hp) (C : Addr) (cl : List (Str × Addr)) (fp : List Addr), SE R H0 (X.blk s H scope (compEnvC scope cl C X.env) fp) elt e) (hy : X.N[i]? = some y := by rfl) (hyl : X.env.scope.names.lookup y = some .local := by rfl) (hs : ∀ x, foldedSetIterable iter X.env x = pure x := by intro _; rfl) :
    SS R H0 X (.Assign [.Name y py] (.ListComp elt [⟨tg, iter, ifs, 0⟩] scope pos) spos) (setF i (lcF fi (own.map (·.2)) t c e)) :=
  PSmono (ps_setLc hc hN hy hyl hsw hi ok hg ht he hs) fun D σ H ⟨F, τ, o, r, q, k⟩ => by
    obtain ⟨cl, e1, rfl⟩ := mapO q
    exact lc_ok hii hgt hsl htt r e1 fun v F' H' Gp p ck => k _ F' H' p.g.f (r.store p ck)
def unpF (f : FE) (t : TgD) : FS := fun τ => (f τ).bind fun p => (t p τ).map .nx
theorem ss_unpack {tg : Expr} {f : FE} {g : TG} {t : TgD} {sl : List Nat} (he : SE R H0 X e f) (hg : PG X tg g) (hgt : TgOk X.K R H0 g t sl) (hs : swapsWithSole [tg] e pos.line X.env = pure false := by rfl) (hw : swappedStores [tg] e X.env = pure none := by rfl)
    (h1 : (assignEach [tg] X.env).map (·.2) = [assign tg X.env] := by rfl) : SS R H0 X (.Assign [tg] e pos) (unpF f t) := PSmono (ps_asg he hg hs hw h1) fun D σ H ⟨F, τ, o, r, q, k⟩ => by
  obtain ⟨p, e1, q⟩ := bindO q
  obtain ⟨τ', e2, rfl⟩ := mapO q
  exact ⟨F, τ, p.1, p.2, r, e1, fun v F' H' g1 rp => hgt v σ H' F' τ p τ' (r.grow g1) rp e2 _ fun σ' r' _ _ => k σ' F' H' g1.f r'⟩
def augF (i : Nat) (f : FB) : FS := fun τ => match cellD τ[i]?, f τ with
  | some (_, .int x), some (.int y) => some (.nx (τ.set i (some (.d true (.int (x + y))))))
  | _, _ => none
theorem ss_aug (i : Nat) {x : Str} {f : FB} {pos' : Pos} (hN : X.N.Nodup) (he : SB R H0 X e f) (hi : X.N[i]? = some x := by rfl) (hx : Loc X.env.scope x := by first | exact Or.inl rfl | exact Or.inr rfl) (hf : X.fn x = true ∨ X.env.scope.names.lookup x = some .local := by first | exact .inl rfl | exact .inr rfl | assumption) :
    SS R H0 X (.AugAssign (.Name x pos') .Add e pos) (augF i f) := PSmono (ps_aug hN hi hx he ip_add hf) fun D σ H ⟨F, τ, o, r, q, k⟩ => by
  unfold augF at q
  split at q
  · rename_i nw x y h1 h2
    cases q
    obtain ⟨G, rg⟩ := r
    obtain ⟨v, hv, cv⟩ := rg.cell i _ (cellD_some h1)
    refine ⟨v, hv, F, τ, _, ⟨G, rg⟩, h2, fun u F' H' g1 ru => ⟨x, y, cv, ru, k _ F' H' g1.f ?_⟩⟩
    exact Rel.store (c := .d true (.int (x + y))) ⟨G, rg⟩ g1.pend rfl
  · cases q
def dropF {α : Type} (f : DS → Option α) : FS := fun τ => (f τ).map fun _ => .nx τ
theorem ss_expr {f : FE} (he : SE R H0 X e f) (hs : swapsWith e none pos.line X.env = pure false := by rfl) : SS R H0 X (.Expr e pos) (dropF f) := PSmono (ps_expr he hs) fun D σ H ⟨F, τ, o, r, q, k⟩ => by
  obtain ⟨⟨nw, d⟩, e1, rfl⟩ := mapO q
  exact ⟨F, τ, nw, d, r, e1, fun v F' H' g1 _ => k σ F' H' g1.f (r.grow g1)⟩
theorem ss_exprC {f : FC} (he : SC R H0 X e f) (hs : swapsWith e none pos.line X.env = pure false := by rfl) : SS R H0 X (.Expr e pos) (dropF f) := PSmono (ps_expr he hs) fun D σ H ⟨F, τ, o, r, q, k⟩ => by
  obtain ⟨cl, e1, rfl⟩ := mapO q
  exact ⟨F, τ, cl, r, e1, fun v F' H' Gp p _ => k σ F' H' p.g.f (r.grow p.g)⟩
def retF (f : FE) : FS := fun τ => (f τ).map fun p => .rt p.1 p.2
theorem ss_ret {f : FE} (he : SE R H0 X e f) : SS R H0 X (.Return (some e) pos) (retF f) := PSmono (ps_ret he) fun D σ H ⟨F, τ, o, r, q, k⟩ => by
  obtain ⟨⟨nw, d⟩, e1, rfl⟩ := mapO q
  exact ⟨F, τ, nw, d, r, e1, fun v F' H' g1 rp => k v F' H' (r.g.trans g1) rp⟩
def retNF : FS := fun _ => some (.rt true .non)
theorem ss_retN : SS R H0 X (.Return none pos) retNF := PSmono ps_retN fun D σ H ⟨F, τ, o, r, q, k⟩ => by
  cases q
  exact k _ F H r.g rfl
theorem ss_if {t : FT} {p q : List Stmt} {f g : FS} (h : ST R H0 X c t) (hp : SSs R H0 X p f) (hq : SSs R H0 X q g) : SS R H0 X (.If c p q pos) (ifF t f g) := PSmono (ps_if h hp hq) fun D σ H ⟨F, τ, o, r, q, k⟩ => by
  obtain ⟨x, e1, q⟩ := bindO q
  refine ⟨F, τ, x, r, e1, fun F1 H1 g1 => ?_⟩
  cases x with
  | true => exact iteT ⟨F1, τ, o, r.grow g1, q, k.mono g1.f⟩
  | false => exact iteF ⟨F1, τ, o, r.grow g1, q, k.mono g1.f⟩
/-- for -/
def forD (t : TgD) (gb : FS) : List (Bool × D) → DS → Option Out
  | [], τ => some (.nx τ)
  | p :: ps, τ => (t p τ).bind fun τ1 => (gb τ1).bind fun o => match o with
    | .nx τ2 => forD t gb ps τ2
    | .ct τ2 => forD t gb ps τ2
    | .bk τ2 => some (.nx τ2)
    | .rt nw d => some (.rt nw d)
def forF (fi : FI) (t : TgD) (gb : FS) : FS := fun τ => (fi τ).bind fun items => forD t gb items τ
theorem ss_for {tg iter : Expr} {body : List Stmt} {wi : TI} {fi : FI} {g : TG} {t : TgD} {sl : List Nat} {gb : FS} (hp : PassesOwn (model X.prog X.w) X.A X.env X.xe) (hc : X.calm = true) (hi : PI X tg iter wi) (hii : IiOk X.K R H0 wi fi) (hg : PG X tg g) (hgt : TgOk X.K R H0 g t sl) (hb : SSs R H0 X body gb)
    (hs : ∀ x, foldedSetIterable iter X.env x = pure x := by intro _; rfl) : SS R H0 X (.For tg iter body [] pos) (forF fi t gb) := PSmono (ps_for hp hc hi hg hb hs) fun D σ H ⟨F, τ, o, r, q, k⟩ => by
  obtain ⟨items, e1, q⟩ := bindO q
  refine hii σ H F τ items r e1 _ fun J F1 H1 g1 it => ?_
  refine ⟨fun i m σ H => m = items.length - i ∧ i ≤ items.length ∧ ∃ F2 τ2, Sm F1 F2 ∧ Rel X.K R H0 τ2 σ F2 H ∧ forD t gb (items.drop i) τ2 = some o, ⟨items.length, by omega, Nat.zero_le _, F1, τ, .refl, r.grow g1, q⟩, ?_⟩
  rintro i m σ2 H2 ⟨rfl, hi2, F2, τ2, s2, r2, e2⟩
  have k2 : OutK X.K R H0 D F2 o := k.mono (g1.f.trans s2)
  obtain ⟨ig, is⟩ := it i F2 H2 s2 r2.s r2.t r2.g.f
  by_cases hlt : i < items.length
  · obtain ⟨p, hp⟩ : ∃ p, items[i]? = some p := ⟨items[i], List.getElem?_eq_getElem hlt⟩
    obtain ⟨go, yl⟩ := ig p hp
    have ed : items.drop i = p :: items.drop (i + 1) := by
      rw [List.drop_eq_getElem_cons hlt]
      rw [List.getElem?_eq_getElem hlt] at hp
      rw [Option.some.inj hp]
    rw [ed] at e2
    obtain ⟨τ3, e3, e2⟩ := bindO (show (t p τ2).bind _ = _ from e2)
    obtain ⟨ob, e4, e2⟩ := bindO e2
    refine .inr ⟨go, fun σ' H' => ∃ F' τ', Sm F1 F' ∧ Rel X.K R H0 τ' σ' F' H' ∧ forD t gb (items.drop (i + 1)) τ' = some o, fun σ' H' ⟨F', τ', h1, h2, h3⟩ => ⟨items.length - (i + 1), by omega, rfl, hlt, F', τ', h1, h2, h3⟩, fun x H3 hy => ?_⟩
    obtain ⟨F3, g3, rx⟩ := yl x H3 hy
    refine hgt x σ2 H3 F3 τ2 p τ3 (r2.grow g3) rx e3 _ fun σ3 r3 _ _ => ⟨F3, τ3, ob, r3, e4, ?_⟩
    have s3 := s2.trans g3.f
    have k3 := k2.mono g3.f
    cases ob with
    | nx τ4 => exact fun σ' F' H' s r' => ⟨F', τ4, s3.trans s, r', e2⟩
    | ct τ4 => exact fun σ' F' H' s r' => ⟨F', τ4, s3.trans s, r', e2⟩
    | bk τ4 => cases e2; exact k3
    | rt nw d => cases e2; exact k3
  · have e3 : i = items.length := by omega
    subst e3
    rw [List.drop_length] at e2
    cases e2
    exact .inl ⟨is (Nat.le_refl _), k2 σ2 F2 H2 .refl r2⟩

/-! ### lists of one's own -/
theorem RelG.own {K : PySem.W.Frag} {G : Nat → Hp} {τ : DS} {σ : L2.St} {F H : Hp} {i : Nat} {p : Addr} {xs ys : List V} {nw : Bool} {ds : List D} (r : RelG K R H0 G τ σ F H) (hv : σ[i]? = some (some (.ref p))) (hG : G i p = some (.lst xs)) (hi : i < τ.length) (h : RpL K (lv nw R F) ds ys) :
    RelG K R H0 (fun j => if j = i then upd (G i) p (.lst ys) else G j) (τ.set i (some (.own nw ds))) σ F (upd H p (.lst ys)) := by
  have hp : G i p ≠ none := by rw [hG]; exact fun z => nomatch z
  have hF := ((r.reg i).n p hp).1
  have hH0 := ((r.reg i).n p hp).2
  have same : ∀ {b : Addr}, upd (G i) p (.lst ys) b ≠ none → G i b ≠ none := fun {b} hb => by
    by_cases e : b = p
    · rw [e]; exact hp
    · rw [upd_ne e] at hb; exact hb
  refine ⟨⟨r.g.f, fun b o e => ?_, fun b o e => ?_, r.g.n, r.g.t⟩, fun j => ?_, fun j k b hjk hb => ?_, by rw [List.length_set]; exact r.len, fun j c' e => ?_⟩
  · have hb : b ≠ p := fun z => by rw [z, hH0] at e; cases e
    rw [upd_ne hb]; exact r.g.h b o e
  · have hb : b ≠ p := fun z => by rw [z, hF] at e; cases e
    rw [upd_ne hb]; exact r.g.s b o e
  · by_cases hj : j = i
    · subst hj
      simp only [if_true]
      refine ⟨fun b o e => ?_, fun b hb => (r.reg j).n b (same hb), fun b ps e => ?_⟩
      · by_cases hb : b = p
        · subst hb; rw [upd_same] at e ⊢; exact e
        · rw [upd_ne hb] at e ⊢; exact (r.reg j).s b o e
      · by_cases hb : b = p
        · subst hb; rw [upd_same] at e; cases e
        · rw [upd_ne hb] at e; exact (r.reg j).t b ps e
    · simp only [hj, if_false]
      refine ⟨fun b o e => ?_, (r.reg j).n, (r.reg j).t⟩
      have hb : b ≠ p := fun z => by
        have := r.dis i j p (Ne.symm hj) hp
        rw [z, this] at e; cases e
      rw [upd_ne hb]; exact (r.reg j).s b o e
  · by_cases hj : j = i
    · have hk : k ≠ i := fun z => hjk (hj.trans z.symm)
      simp only [hj, if_true] at hb
      simp only [hk, if_false]
      exact r.dis i k b (fun z => hk z.symm) (same hb)
    · simp only [hj, if_false] at hb
      by_cases hk : k = i
      · simp only [hk, if_true]
        have z := r.dis j i b hj hb
        have hbp : b ≠ p := fun w => by rw [w, hG] at z; cases z
        rw [upd_ne hbp]; exact z
      · simp only [hk, if_false]; exact r.dis j k b hjk hb
  · by_cases hj : j = i
    · subst hj
      rw [List.getElem?_set_self hi] at e
      cases e
      refine ⟨.ref p, hv, p, ys, rfl, ?_, h⟩
      simp only [if_true]
      exact upd_same
    · rw [List.getElem?_set_ne (Ne.symm hj)] at e
      obtain ⟨u, h1, h2⟩ := r.cell j c' e
      refine ⟨u, h1, ?_⟩
      simp only [hj, if_false]
      exact h2
/-- what a list of one's own becomes -/
def ownF {α : Type} (i : Nat) (f : DS → Option α) (op : Bool → List D → α → Option (Bool × List D)) : FS := fun τ => match τ[i]? with
  | some (some (.own nw ds)) => (f τ).bind fun x => (op nw ds x).map fun p => .nx (τ.set i (some (.own p.1 p.2)))
  | _ => none
theorem ownF_some {α : Type} {i : Nat} {f : DS → Option α} {op : Bool → List D → α → Option (Bool × List D)} {τ : DS} {o : Out} (h : ownF i f op τ = some o) : ∃ nw ds x p, τ[i]? = some (some (.own nw ds)) ∧ f τ = some x ∧ op nw ds x = some p ∧ o = .nx (τ.set i (some (.own p.1 p.2))) := by
  unfold ownF at h
  split at h
  · rename_i nw ds e
    obtain ⟨x, e1, h⟩ := bindO h
    obtain ⟨p, e2, rfl⟩ := mapO h
    exact ⟨nw, ds, x, p, e, e1, e2, rfl⟩
  · cases h
theorem lt_of_some {α : Type} {l : List α} {i : Nat} {x : α} (h : l[i]? = some x) : i < l.length := (List.getElem?_eq_some_iff.mp h).1
def appOp (nw : Bool) (ds : List D) (p : Bool × List D) : Option (Bool × List D) := match p.2 with
  | [d] => if ds.length < lim then some (nw && p.1, ds ++ [d]) else none
  | _ => none
def extOp (nw : Bool) (ds : List D) (p : Bool × List D) : Option (Bool × List D) := match p.2 with
  | [.lst es] => if ds.length + es.length ≤ lim then some (nw && p.1, ds ++ es) else none
  | _ => none
/-- x.append(e) -/
theorem ss_append (i : Nat) {x : Str} {f : FA} {vp ap cp : Pos} (ha : SA R H0 X [e] f) (hN : X.N[i]? = some x := by rfl) (hv : Vis X.env.scope x := by first | exact Or.inl rfl | exact Or.inr (Or.inl rfl) | exact Or.inr (Or.inr rfl)) (hd : (x == ("__debug__" : Str)) = false := by decide)
    (hcd : (x == ("__classdict__" : Str)) = false := by decide) (hs : swapsWith (.Call (.Attribute (.Name x vp) "append" ap) [e] [] cp) none pos.line X.env = pure false := by rfl)
    (hbase : attributeBase (.Name x vp) "append" X.env (eval (.Name x vp) X.env) = eval (.Name x vp) X.env := by rfl)
    (hfew : ((backTo cp (starEach [e] X.env)).all (fun x => !x.1) && (backToKw cp (keywordEach [] X.env)).all (fun x => x.1.isSome)
      && decide ([e].length + ([] : List Keyword).length + (if ([] : List Keyword).isEmpty then 0 else 1) < 30)) = true := by rfl)
    (hline : (ap.endLine == cp.line) = true := by rfl) (he : starEach [e] X.env = (false, eval e X.env) :: starEach [] X.env := by rfl) :
    SS R H0 X (.Expr (.Call (.Attribute (.Name x vp) "append" ap) [e] [] cp) pos) (ownF i f appOp) :=
  PSmono (ps_expr (pe_bm PySem.F.plainAttrs_list PySem.F.slot_list_append PySem.F.type_list_append mt_append (pe_var hN hv hd hcd) ha hbase hfew hline he (by rfl)) hs) fun D σ H ⟨F, τ, o, r, q, k⟩ => by
    obtain ⟨nw, ds, ⟨m, as⟩, p, e1, e2, e3, rfl⟩ := ownF_some q
    unfold appOp at e3
    split at e3
    · rename_i d h
      have h : as = [d] := h
      subst h
      split at e3
      · rename_i hz
        cases e3
        obtain ⟨G, rg⟩ := r
        obtain ⟨v, hv, pa, xs, rfl, hG, rx⟩ := rg.cell i _ e1
        refine ⟨.ref pa, hv, .inl ⟨rfl, xs, .inl (.inl ((rg.reg i).s _ _ hG))⟩, F, τ, m, _, ⟨G, rg⟩, e2, fun vs F' H' g1 r1 => ?_⟩
        obtain ⟨y, rfl, ry⟩ := RpL.one_inv r1
        have rg' := rg.grow g1
        refine ⟨pa, xs, y, rfl, rfl, (rg'.reg i).s _ _ hG, by rw [← rx.length]; exact hz, k σ F' _ g1.f ⟨_, rg'.own hv hG (lt_of_some e1) ?_⟩⟩
        exact RpL.app (RpL.sm ((lv_mono g1.f).trans lv_and) rx) (RpL.sm lv_and' (RpL.one ry))
      · cases e3
    · cases e3
/-- x.extend(e), e a list -/
theorem ss_extend (i : Nat) {x : Str} {f : FA} {vp ap cp : Pos} (ha : SA R H0 X [e] f) (hN : X.N[i]? = some x := by rfl) (hv : Vis X.env.scope x := by first | exact Or.inl rfl | exact Or.inr (Or.inl rfl) | exact Or.inr (Or.inr rfl)) (hd : (x == ("__debug__" : Str)) = false := by decide)
    (hcd : (x == ("__classdict__" : Str)) = false := by decide) (hs : swapsWith (.Call (.Attribute (.Name x vp) "extend" ap) [e] [] cp) none pos.line X.env = pure false := by rfl)
    (hbase : attributeBase (.Name x vp) "extend" X.env (eval (.Name x vp) X.env) = eval (.Name x vp) X.env := by rfl)
    (hfew : ((backTo cp (starEach [e] X.env)).all (fun x => !x.1) && (backToKw cp (keywordEach [] X.env)).all (fun x => x.1.isSome)
      && decide ([e].length + ([] : List Keyword).length + (if ([] : List Keyword).isEmpty then 0 else 1) < 30)) = true := by rfl)
    (hline : (ap.endLine == cp.line) = true := by rfl) (he : starEach [e] X.env = (false, eval e X.env) :: starEach [] X.env := by rfl) :
    SS R H0 X (.Expr (.Call (.Attribute (.Name x vp) "extend" ap) [e] [] cp) pos) (ownF i f extOp) :=
  PSmono (ps_expr (pe_bm PySem.F.plainAttrs_list PySem.F.slot_list_extend PySem.F.type_list_extend mt_extend (pe_var hN hv hd hcd) ha hbase hfew hline he (by rfl)) hs) fun D σ H ⟨F, τ, o, r, q, k⟩ => by
    obtain ⟨nw, ds, ⟨m, as⟩, p, e1, e2, e3, rfl⟩ := ownF_some q
    unfold extOp at e3
    split at e3
    · rename_i es h
      have h : as = [.lst es] := h
      subst h
      split at e3
      · rename_i hz
        cases e3
        obtain ⟨G, rg⟩ := r
        obtain ⟨v, hv, pa, xs, rfl, hG, rx⟩ := rg.cell i _ e1
        refine ⟨.ref pa, hv, .inl ⟨rfl, xs, .inl (.inl ((rg.reg i).s _ _ hG))⟩, F, τ, m, _, ⟨G, rg⟩, e2, fun vs F' H' g1 r1 => ?_⟩
        obtain ⟨y, rfl, pb, zs, rfl, hB, rz⟩ := RpL.one_inv r1
        have rg' := rg.grow g1
        refine ⟨pa, pb, xs, zs, rfl, rfl, (rg'.reg i).s _ _ hG, g1.s _ _ (lv_sub _ _ hB), by rw [← rx.length, ← rz.length]; exact hz, k σ F' _ g1.f ⟨_, rg'.own hv hG (lt_of_some e1) ?_⟩⟩
        exact RpL.app (RpL.sm ((lv_mono g1.f).trans lv_and) rx) (RpL.sm lv_and' rz)
      · cases e3
    · cases e3
end
end Dl
end
section
set_option Elab.async false
set_option linter.all false
set_option maxRecDepth 100000
set_option maxHeartbeats 4000000
namespace Dl
open PySem PySem.Spec PyProof.Rows L2 GxR Gx

/-! ### the theorem of a def -/
abbrev NoE (CX : CXT) : Prop := ∀ outer H s e s', ¬ CX outer H s E0 e s'
theorem pass_of {CX : CXT} {X : Cx} (h : NoE CX) : Passes CX X E0 := fun _ _ _ _ _ _ _ z => (h _ _ _ _ _ z).elim
def startD (n : Nat) (ds : List D) : DS := ds.map (fun d => some (.d (scal d) d)) ++ List.replicate (n - ds.length) none
def phi (n : Nat) (g : FS) : Phi := fun ds => match g (startD n ds) with
  | some (.rt nw d) => some (.ok nw d)
  | some (.nx _) => some (.ok true .non)
  | _ => none
theorem RpL.at {K : PySem.W.Frag} {H : Hp} {ds : List D} {xs : List V} {i : Nat} {d : D} (h : RpL K H ds xs) (e : ds[i]? = some d) : ∃ x, xs[i]? = some x ∧ Rp K H d x := h.get e
theorem start_rel {K : PySem.W.Frag} {R H : Hp} {N : List Str} {ds : List D} {vs : List V} (sR : Sm R H) (tR : NoTbl R) (r : RpL K R ds vs) : Rel K R H (startD N.length ds) (L2.start N vs) R H := by
  refine ⟨fun _ => emp, .refl sR tR, fun i => .emp, fun i j b _ _ => rfl, ?_, fun i c e => ?_⟩
  · unfold startD L2.start
    rw [List.length_append, List.length_append, List.length_map, List.length_map, List.length_replicate, List.length_replicate, r.length]
  · unfold startD at e
    have hi : i < ds.length := by
      rcases Nat.lt_or_ge i ds.length with h | h
      · exact h
      · rw [List.getElem?_append_right (by rw [List.length_map]; exact h), List.getElem?_replicate] at e
        split at e <;> cases e
    rw [List.getElem?_append_left (by rw [List.length_map]; exact hi), List.getElem?_map] at e
    obtain ⟨d, hd, hc⟩ := mapO e
    cases hc
    obtain ⟨x, hx, rx⟩ := r.get hd
    refine ⟨x, ?_, ?_⟩
    · unfold L2.start
      rw [List.getElem?_append_left (by rw [List.length_map, ← r.length]; exact hi), List.getElem?_map, hx]
      rfl
    · show Rp K (lv (scal d) R R) d x
      have := lv_scal (n := false) (R := R) (F := R) (d := d) (v := x) (K := K) (by rw [lv_false]; exact rx)
      rw [Bool.false_or] at this
      exact this
/-- a def of the text, with its code object -/
structure Def (K : PySem.W.Frag) (mg : Str → Option Value) (c : Addr) (x : Str) (st : Stmt) (ps : List Str) : Prop where
  ex : ∃ (f : Addr) (oc : Value) (od : Option Addr) (kV doc pm : Value) (an : Option Addr) (ct : Value) (osl : Array (Option Value)),
    K.lookup f = some ⟨oc, od, .func (PySem.W.fnOf x x (L2.defArgs st) (L2.defBody st) (L2.defScope st) .none kV doc pm an (.ref c) ct), osl⟩ ∧ PySem.W.codeIn K (.ref c) x = true ∧ mg x = some (.ref f) ∧ PySem.W.keepIn K (.ref f) = true
  bd : ∀ (kV doc pm : Value) (an : Option Addr) (cdv ct : Value) (us : List Value), us.length = ps.length → bindArgs (PySem.W.fnOf x x (L2.defArgs st) (L2.defBody st) (L2.defScope st) .none kV doc pm an cdv ct) ⟨us, []⟩ = pure (ps.zip us)
/-- a def that keeps its promise -/
def Okd (P : Program) (w : World) (K : PySem.W.Frag) (mg : Str → Option Value) (base : Heap) (CX : CXT) (cs : List (Addr × Addr)) (k : Nat) (x : Str) (np : Nat) (φ : Phi) : Prop :=
  ∃ (f : Addr) (fd : FuncData) (ps : List Str), mg x = some (.ref f) ∧ PySem.W.keepIn K (.ref f) = true ∧ Binds K fd ps [] ∧ FnOk P w K mg base CX k f fd ps (spD K cs np φ)
section
variable {P : Program} {w : World} {K : PySem.W.Frag} {mg : Str → Option Value} {base : Heap} {CX : CXT} {cs : List (Addr × Addr)} {k : Nat} {c : Addr} {x : Str} {st : Stmt} {N ps : List Str} {g : FS}
theorem fnD (Df : Def K mg c x st ps) (S : FnScope N ps (L2.defScope st))
    (hbody : ∀ (f : Addr) (A : Around) (outer : List Env) (s : Shared) (H : Hp) (E : XK) (R : Hp), Room k (A.deeper (envOfC x (L2.defScope st) s.heap.objs.size f (.ref c))) → Sm R H → Tabs cs H →
      SSs R H (cxOf CX P w K mg base N x (L2.defScope st) f (.ref c) A outer s H E).nox (L2.defBody st) g) : Okd P w K mg base CX cs (k + 1) x ps.length (phi N.length g) := by
  obtain ⟨f, oc, od, kV, doc, pm, an, ct, osl, lk, hcd, hm, hk⟩ := Df.ex
  refine ⟨f, _, ps, hm, hk, .all (Df.bd kV doc pm an (.ref c) ct), fn_of lk hcd S (fun vs H Q E h => h.1) fun A outer s H vs Q E hr ⟨hl, hT, R, ds, r, sR, tR, rr, e, ok⟩ => ?_⟩
  refine ⟨_, (hbody f A outer s H E R hr sR hT).nox, R, startD N.length ds, ?_⟩
  unfold phi at e
  cases q : g (startD N.length ds) with
  | none => rw [q] at e; cases e
  | some o =>
    rw [q] at e
    refine ⟨o, start_rel sR tR rr, rfl, ?_⟩
    cases o with
    | rt nw d => cases e; exact ok
    | nx τ => cases e; exact fun σ' F' H' s r' => ok .non F' H' r'.g rfl
    | bk τ => cases e
    | ct τ => cases e
end
section
variable {R H0 : Hp} {X : Cx} {e : Expr} {es : List Expr} {pos : Pos} {CX : CXT} {k n : Nat} {cs : List (Addr × Addr)} {np : Nat} {φ : Phi} {x : Str} {p : Pos}
theorem sc_fn {g : FA} (O : Okd X.prog X.w X.K X.mg X.base CX cs k x np φ) (hT : Tabs cs H0) (hx : NoE CX) (hr : Room n X.A) (hkn : k ≤ n) (h : SA R H0 X (e :: es) g) (hlen : ∀ τ p, g τ = some p → p.2.length = np) (hg : Gl X x := by rfl) (hn : (e :: es).length = np := by rfl)
    (hdb : (x == ("__debug__" : Str)) = false := by decide) (he : starEach (e :: es) X.env = (false, eval e X.env) :: starEach es X.env := by rfl) (hpl : (backTo pos (starEach es X.env)).any (·.1) = false := by rfl) :
    SC R H0 X (.Call (.Name x p) (e :: es) [] pos) (callC φ g) := by
  obtain ⟨f, fd, ps, hm, hk, hb, F⟩ := O
  exact sc_call hT F (hr.mono hkn) hg hm hk hb (pass_of hx) hn h hlen hdb he hpl
theorem sc_fn0 (O : Okd X.prog X.w X.K X.mg X.base CX cs k x 0 φ) (hT : Tabs cs H0) (hx : NoE CX) (hr : Room n X.A) (hkn : k ≤ n) (hg : Gl X x := by rfl) (hdb : (x == ("__debug__" : Str)) = false := by decide) : SC R H0 X (.Call (.Name x p) [] [] pos) (callC φ nilA) := by
  obtain ⟨f, fd, ps, hm, hk, hb, F⟩ := O
  exact sc_call0 hT F (hr.mono hkn) hg hm hk hb (pass_of hx) hdb
end
end Dl
end
section
set_option Elab.async false
set_option linter.all false
set_option maxRecDepth 100000
set_option maxHeartbeats 4000000
namespace Dl
open PySem PySem.Spec PyProof.Rows L2 GxR Gx

/-! ### dicts of one's own -/
theorem RelG.write {K : PySem.W.Frag} {R H0 : Hp} {G : Nat → Hp} {τ : DS} {σ : L2.St} {F H : Hp} {i : Nat} {p : Addr} {o o' : HO} {c : C} (r : RelG K R H0 G τ σ F H) (hv : σ[i]? = some (some (.ref p))) (hG : G i p = some o) (ht : ∀ ps, o' ≠ .tbl ps) (hi : i < τ.length) (h : Cok K R F (upd (G i) p o') c (.ref p)) :
    RelG K R H0 (fun j => if j = i then upd (G i) p o' else G j) (τ.set i (some c)) σ F (upd H p o') := by
  have hp : G i p ≠ none := by rw [hG]; exact fun z => nomatch z
  have hF := ((r.reg i).n p hp).1
  have hH0 := ((r.reg i).n p hp).2
  have same : ∀ {b : Addr}, upd (G i) p o' b ≠ none → G i b ≠ none := fun {b} hb => by
    by_cases e : b = p
    · rw [e]; exact hp
    · rw [upd_ne e] at hb; exact hb
  refine ⟨⟨r.g.f, fun b o e => ?_, fun b o e => ?_, r.g.n, r.g.t⟩, fun j => ?_, fun j k b hjk hb => ?_, by rw [List.length_set]; exact r.len, fun j c' e => ?_⟩
  · have hb : b ≠ p := fun z => by rw [z, hH0] at e; cases e
    rw [upd_ne hb]; exact r.g.h b o e
  · have hb : b ≠ p := fun z => by rw [z, hF] at e; cases e
    rw [upd_ne hb]; exact r.g.s b o e
  · by_cases hj : j = i
    · subst hj
      simp only [if_true]
      refine ⟨fun b o e => ?_, fun b hb => (r.reg j).n b (same hb), fun b ps e => ?_⟩
      · by_cases hb : b = p
        · subst hb; rw [upd_same] at e ⊢; exact e
        · rw [upd_ne hb] at e ⊢; exact (r.reg j).s b o e
      · by_cases hb : b = p
        · subst hb; rw [upd_same] at e; exact ht ps (Option.some.inj e)
        · rw [upd_ne hb] at e; exact (r.reg j).t b ps e
    · simp only [hj, if_false]
      refine ⟨fun b o e => ?_, (r.reg j).n, (r.reg j).t⟩
      have hb : b ≠ p := fun z => by
        have := r.dis i j p (Ne.symm hj) hp
        rw [z, this] at e; cases e
      rw [upd_ne hb]; exact (r.reg j).s b o e
  · by_cases hj : j = i
    · have hk : k ≠ i := fun z => hjk (hj.trans z.symm)
      simp only [hj, if_true] at hb
      simp only [hk, if_false]
      exact r.dis i k b (fun z => hk z.symm) (same hb)
    · simp only [hj, if_false] at hb
      by_cases hk : k = i
      · simp only [hk, if_true]
        have z := r.dis j i b hj hb
        have hbp : b ≠ p := fun w => by rw [w, hG] at z; cases z
        rw [upd_ne hbp]; exact z
      · simp only [hk, if_false]; exact r.dis j k b hjk hb
  · by_cases hj : j = i
    · subst hj
      rw [List.getElem?_set_self hi] at e
      cases e
      refine ⟨.ref p, hv, ?_⟩
      simp only [if_true]
      exact h
    · rw [List.getElem?_set_ne (Ne.symm hj)] at e
      obtain ⟨u, h1, h2⟩ := r.cell j c' e
      refine ⟨u, h1, ?_⟩
      simp only [hj, if_false]
      exact h2
def keyD : D → Option Key
  | .int i => some (.inl i)
  | .str x => some (.inr x)
  | _ => none
theorem keyD_some {K : PySem.W.Frag} {H : Hp} {d : D} {k : Key} {v : V} (h : keyD d = some k) (r : Rp K H d v) : v = kV k := by
  cases d <;> first | (cases h; done) | skip
  · cases h; exact r
  · cases h; exact r
def updL {α : Type} : List Key → List α → Key → α → List α
  | k' :: ks, x :: xs, k, v => (if k' = k then v else x) :: updL ks xs k v
  | _, xs, _, _ => xs
theorem updL_cons {α : Type} {k' : Key} {ks : List Key} {x : α} {xs : List α} {k : Key} {v : α} : updL (k' :: ks) (x :: xs) k v = (if k' = k then v else x) :: updL ks xs k v := rfl
def hasK (ks : List Key) (k : Key) : Bool := ks.any fun j => decide (j = k)
theorem updL_zip {k : Key} {v : V} : ∀ {ks : List Key} {xs : List V}, (ks.zip xs).map (fun kv => if kv.1 = k then (kv.1, v) else kv) = ks.zip (updL ks xs k v)
  | [], xs => by simp
  | _ :: _, [] => by simp [updL]
  | k' :: ks, x :: xs => by
    rw [List.zip_cons_cons, List.map_cons, updL_zip, updL_cons, List.zip_cons_cons]
    congr 1
    dsimp only
    split <;> rfl
theorem updL_len {α : Type} {k : Key} {v : α} : ∀ {ks : List Key} {xs : List α}, (updL ks xs k v).length = xs.length
  | [], _ => rfl
  | _ :: _, [] => rfl
  | k' :: ks, x :: xs => by unfold updL; rw [List.length_cons, List.length_cons, updL_len]
theorem RpL.updL {K : PySem.W.Frag} {H : Hp} {k : Key} {d : D} {v : V} (h : Rp K H d v) : ∀ {ks : List Key} {ds : List D} {xs : List V}, RpL K H ds xs → RpL K H (updL ks ds k d) (Dl.updL ks xs k v)
  | [], _, _, r => r
  | _ :: _, [], _, r => by rw [show _ = [] from r]; exact rfl
  | k' :: ks, e :: ds, _, ⟨y, r, e1, r1, r2⟩ => by
    rw [e1]
    unfold Dl.updL
    refine ⟨_, _, rfl, ?_, RpL.updL h r2⟩
    split
    · exact h
    · exact r1
theorem zip_app {ks : List Key} {xs : List V} {k : Key} {v : V} (h : ks.length = xs.length) : ks.zip xs ++ [(k, v)] = (ks ++ [k]).zip (xs ++ [v]) := by
  rw [List.zip_append h]; rfl
theorem any_zip {k : Key} : ∀ {ks : List Key} {xs : List V}, ks.length = xs.length → ((ks.zip xs).any fun kv => decide (kv.1 = k)) = hasK ks k
  | [], [], _ => rfl
  | k' :: ks, x :: xs, h => by
    rw [List.zip_cons_cons, List.any_cons, any_zip (Nat.succ.inj h)]
    rfl
theorem isSome_zip {ks : List Key} {xs : List V} {k : Key} (h : ks.length = xs.length) : (valV (ks.zip xs) k).isSome = hasK ks k := by
  rw [← valV_any, any_zip h]
theorem putK_zip {ks : List Key} {xs : List V} {k : Key} {v : V} (h : ks.length = xs.length) : putK (ks.zip xs) k v = if hasK ks k = true then ks.zip (updL ks xs k v) else (ks ++ [k]).zip (xs ++ [v]) := by
  unfold putK
  rw [any_zip h]
  by_cases e : hasK ks k = true
  · rw [if_pos e, if_pos e, updL_zip]
  · rw [if_neg e, if_neg e, zip_app h]
section
variable {R H0 : Hp} {X : Cx} {a b e value ke : Expr} {pos p2 pos' : Pos} {n : Nat}
def dnewF : FC := fun _ => some (.dic true [] [])
theorem sc_dnew : SC R H0 X (.Dict [] [] pos) dnewF := PEmono pe_dnewK fun σ H Q ⟨F, τ, c, r, q, k⟩ => by
  cases q
  exact fun p hp => k _ _ _ _ (pend_new r.refl hp fun _ z => nomatch z) ⟨p, [], rfl, sing_same, rfl, rfl⟩
def dputF (i : Nat) (fk fv : FE) : FS := fun τ => match τ[i]? with
  | some (some (.dic nw ks ds)) => (fv τ).bind fun v => (fk τ).bind fun kk => (keyD kk.2).bind fun k => if ks.length < lim then
      some (.nx (τ.set i (some (if hasK ks k = true then .dic (nw && v.1) ks (updL ks ds k v.2) else .dic (nw && v.1) (ks ++ [k]) (ds ++ [v.2]))))) else none
  | _ => none
theorem ss_dput (i : Nat) {x : Str} {fk fv : FE} (hr : Room n X.A) (hk : SE R H0 X ke fk) (hv : SE R H0 X value fv) (hN : X.N[i]? = some x := by rfl) (hvs : Vis X.env.scope x := by first | exact Or.inl rfl | exact Or.inr (Or.inl rfl) | exact Or.inr (Or.inr rfl)) (hd : (x == ("__debug__" : Str)) = false := by decide)
    (hcd : (x == ("__classdict__" : Str)) = false := by decide) (hs : swapsWith value (some (.Subscript (.Name x p2) ke pos')) pos.line X.env = pure false := by rfl) : SS R H0 X (.Assign [.Subscript (.Name x p2) ke pos'] value pos) (dputF i fk fv) :=
  PSmono (ps_dput (by have := hr.units; omega) (pe_var hN hvs hd hcd) hk hv hs) fun D σ H ⟨F, τ, o, r, q, k⟩ => by
    unfold dputF at q
    split at q
    · rename_i nw ks ds e1
      obtain ⟨⟨m, d⟩, e2, q⟩ := bindO q
      obtain ⟨⟨mk, kd⟩, e3, q⟩ := bindO q
      obtain ⟨kk, e4, q⟩ := bindO q
      split at q
      · rename_i hz
        cases q
        refine ⟨F, τ, m, d, r, e2, fun v F1 H1 g1 rv => ?_⟩
        obtain ⟨G, rg⟩ := id r
        obtain ⟨u, hu, p, xs, rfl, hG, hl, rx⟩ := rg.cell i _ e1
        refine ⟨.ref p, hu, F1, τ, mk, kd, r.grow g1, e3, fun y F2 H2 g2 ry => ?_⟩
        have gg := g1.trans g2
        have rg2 := rg.grow gg
        refine ⟨p, upd H2 p (.dK (putK (ks.zip xs) kk v)), rfl, ?_, ?_⟩
        · rw [keyD_some e4 ry]
          exact .k ((rg2.reg i).s _ _ hG) (by rw [List.length_zip]; have := Nat.min_le_left ks.length xs.length; exact Nat.lt_of_le_of_lt this hz)
        · refine k σ F2 _ gg.f ⟨_, rg2.write hu hG (fun _ z => nomatch z) (lt_of_some e1) ?_⟩
          have rv2 : Rp X.K (lv (nw && m) R F2) d v := Rp.sm ((lv_mono g2.f).trans lv_and') rv
          have rx2 : RpL X.K (lv (nw && m) R F2) ds xs := RpL.sm ((lv_mono gg.f).trans lv_and) rx
          by_cases hk : hasK ks kk = true
          · rw [if_pos hk, putK_zip hl, if_pos hk]
            exact ⟨p, _, rfl, upd_same, by rw [updL_len]; exact hl, RpL.updL rv2 rx2⟩
          · rw [if_neg hk, putK_zip hl, if_neg hk]
            exact ⟨p, _, rfl, upd_same, by rw [List.length_append, List.length_append, hl]; rfl, RpL.app rx2 (RpL.one rv2)⟩
      · cases q
    · cases q
def dinF (i : Nat) (fk : FE) : FT := fun τ => match τ[i]? with
  | some (some (.dic _ ks _)) => (fk τ).bind fun kk => (keyD kk.2).map fun k => hasK ks k
  | _ => none
theorem c_din (i : Nat) {x : Str} {fk : FE} (hr : Room n X.A) (hk : SE R H0 X ke fk) (hN : X.N[i]? = some x := by rfl) (hvs : Vis X.env.scope x := by first | exact Or.inl rfl | exact Or.inr (Or.inl rfl) | exact Or.inr (Or.inr rfl)) (hd : (x == ("__debug__" : Str)) = false := by decide)
    (hcd : (x == ("__classdict__" : Str)) = false := by decide) : ST R H0 X (.Compare ke [.In] [.Name x p2] pos) (dinF i fk) := PTmono (pt_cmp (pc_din (by have := hr.units; omega) hk (pe_var hN hvs hd hcd))) fun σ H Q ⟨F, τ, z, r, q, k⟩ => by
  unfold dinF at q
  split at q
  · rename_i nw ks ds e1
    obtain ⟨⟨mk, kd⟩, e3, q⟩ := bindO q
    obtain ⟨kk, e4, rfl⟩ := mapO q
    refine ⟨F, τ, mk, kd, r, e3, fun y F2 H2 g2 ry => ?_⟩
    obtain ⟨G, rg⟩ := id r
    obtain ⟨u, hu, p, xs, rfl, hG, hl, rx⟩ := rg.cell i _ e1
    have hH := ((rg.grow g2).reg i).s _ _ hG
    refine ⟨.ref p, hu, p, _, rfl, (by rw [keyD_some e4 ry]; exact .k hH), ?_⟩
    rw [isSome_zip hl]
    exact ⟨_, rfl, k F2 H2 g2⟩
  · cases q
end
end Dl
end
section
set_option Elab.async false
set_option linter.all false
set_option maxRecDepth 100000
set_option maxHeartbeats 4000000
namespace Dl
open PySem PySem.Spec PyProof.Rows L2 GxR Gx
/-! ### names for the operations -/
def subF (f g : FB) : FE := bi f g (oI yes2 fun i j => .int (i - j))
def fdivF (f g : FB) : FE := bi f g (oI (fun _ j => decide (0 < j) && decide (j < 1073741824)) fun i j => .int (i / j))
def modF (f g : FB) : FE := bi f g (oI (fun _ j => decide (0 < j)) fun i j => .int (i % j))
def powF (f g : FB) : FE := bi f g (oI (fun i j => decide (0 ≤ j) && decide (j ≤ 1000000) && decide (i.natAbs < 2 ^ 64)) fun i j => .int (i ^ j.toNat))
def bandF (f g : FB) : FE := bi f g (oI yes2 fun i j => .int (Builtin.bitAnd i j))
def shrF (f g : FB) : FE := bi f g (oI (fun _ j => decide (0 ≤ j)) fun i j => .int (i / 2 ^ j.toNat))
end Dl
end
section
set_option Elab.async false
set_option linter.all false
set_option maxRecDepth 100000
set_option maxHeartbeats 4000000
namespace Dl
open PySem PySem.Spec PyProof.Rows L2 GxR Gx

/-! ### what is told is written over, then forgotten -/
/-- nothing but the region Gp has changed -/
def Off (Gp H H' : Hp) : Prop := ∀ b, Gp b = none → H' b = H b
theorem RelG.off {K : PySem.W.Frag} {R H0 : Hp} {G : Nat → Hp} {τ : DS} {σ : L2.St} {F H H1 H2 F1 Gp : Hp} (r : RelG K R H0 G τ σ F H) (p : Pend F H F1 H1 Gp) (o : Off Gp H1 H2) : RelG K R H0 G τ σ F1 H2 := by
  have r1 := r.grow p.g
  have nH : ∀ {b : Addr}, H b ≠ none → Gp b = none := fun {b} hb => by
    cases q : Gp b with
    | none => rfl
    | some u => exact absurd (p.n b (by rw [q]; exact fun z => nomatch z)).2 hb
  have nF : ∀ {b : Addr}, F1 b ≠ none → Gp b = none := fun {b} hb => by
    cases q : Gp b with
    | none => rfl
    | some u => exact absurd (p.n b (by rw [q]; exact fun z => nomatch z)).1 hb
  refine ⟨⟨r1.g.f, fun b x e => ?_, fun b x e => ?_, r1.g.n, r1.g.t⟩, fun i => ⟨fun b x e => ?_, (r1.reg i).n, (r1.reg i).t⟩, r1.dis, r1.len, r1.cell⟩
  · rw [o b (nH (r.g.h.some (by rw [e]; exact fun z => nomatch z)))]
    exact r1.g.h b x e
  · rw [o b (nF (by rw [e]; exact fun z => nomatch z))]
    exact r1.g.s b x e
  · have hb : H b ≠ none := by rw [(r.reg i).s b x e]; exact fun z => nomatch z
    rw [o b (nH hb)]
    exact (r1.reg i).s b x e
def strL (zs : List V) : Prop := ∀ z ∈ zs, ∃ x, z = V.str x
def isStr : D → Bool
  | .str _ => true
  | _ => false
theorem RpL.strs {K : PySem.W.Frag} {H : Hp} : ∀ {ds : List D} {zs : List V}, ds.all isStr = true → RpL K H ds zs → strL zs
  | [], zs, _, h => by rw [show zs = [] from h]; exact fun z hz => nomatch hz
  | d :: ds, _, s, ⟨y, r, e, h, t⟩ => by
    rw [List.all_cons, Bool.and_eq_true] at s
    rw [e]
    intro z hz
    rcases List.mem_cons.mp hz with q | q
    · cases d <;> first | (cases s.1; done) | skip
      rename_i x
      exact ⟨x, q.trans h⟩
    · exact RpL.strs s.2 t z q
/-- lists of texts may have grown by n -/
def Sc (Gp H : Hp) (n : Nat) : Prop := ∀ b o, Gp b = some o → H b = some o ∨ ∃ zs ys, o = .lst zs ∧ strL zs ∧ H b = some (.lst ys) ∧ ys.length ≤ zs.length + n
theorem Sc.lst {Gp H : Hp} {n : Nat} {b : Addr} {zs : List V} (s : Sc Gp H n) (h : Gp b = some (.lst zs)) : ∃ ys, H b = some (.lst ys) ∧ ys.length ≤ zs.length + n := by
  rcases s b _ h with q | ⟨ws, ys, e, _, q, l⟩
  · exact ⟨zs, q, by omega⟩
  · cases e; exact ⟨ys, q, l⟩
theorem Sc.put {Gp H : Hp} {n m : Nat} {b : Addr} {zs ys : List V} (s : Sc Gp H n) (h : Gp b = some (.lst zs)) (hs : strL zs) (hl : ys.length ≤ zs.length + m) (hm : n ≤ m) : Sc Gp (upd H b (.lst ys)) m := fun x o e => by
  by_cases hx : x = b
  · subst hx
    rw [h] at e; cases e
    exact .inr ⟨zs, ys, rfl, hs, upd_same, hl⟩
  · rw [upd_ne hx]
    rcases s x o e with q | ⟨ws, us, e1, e2, q, l⟩
    · exact .inl q
    · exact .inr ⟨ws, us, e1, e2, q, by omega⟩
theorem Off.put {Gp H H' : Hp} {b : Addr} {o o' : HO} (f : Off Gp H H') (h : Gp b = some o) : Off Gp H (upd H' b o') := fun x e => by
  have hx : x ≠ b := fun z => by rw [z, h] at e; cases e
  rw [upd_ne hx]; exact f x e
/-- the pieces of what is told: a place and two lists of texts -/
def pcOk (n : Nat) : D → Bool
  | .tup [_, .lst a, .lst b] => a.all isStr && b.all isStr && decide (a.length + n < lim) && decide (b.length + n < lim)
  | _ => false
def scribF (j : Nat) (f : FC) : FS := fun τ => match f τ with
  | some (.dp (.lst ds)) => if (ds.all (pcOk ds.length) && decide (j < τ.length)) = true then some (.nx (τ.set j none)) else none
  | _ => none
theorem pcOk_some {n : Nat} {d : D} (h : pcOk n d = true) : ∃ x a b, d = .tup [x, .lst a, .lst b] ∧ a.all isStr = true ∧ b.all isStr = true ∧ a.length + n < lim ∧ b.length + n < lim := by
  unfold pcOk at h
  split at h
  · rename_i x a b
    simp only [Bool.and_eq_true, decide_eq_true_eq] at h
    exact ⟨x, a, b, rfl, h.1.1.1, h.1.1.2, h.1.2, h.2⟩
  · cases h
section
variable {R H0 : Hp} {X : Cx} {iter : Expr} {pos : Pos}
theorem scrib_core {tb : TS} {f : FC} {j : Nat} {te : TE} (hte : ∀ σ H Q, tSC X.K R H0 f σ H Q → te σ H Q)
    (step : ∀ (D : Ends) (σ : L2.St) (H Gp : Hp) (n : Nat) (t p q : Addr) (x : V) (us vs : List V), σ[j]? = some (some (.ref t)) → Gp t = some (.tup [x, .ref p, .ref q]) → Gp p = some (.lst us) → Gp q = some (.lst vs) → strL us → strL vs → us.length + n < lim → vs.length + n < lim → Sc Gp H n →
      (∀ H', Off Gp H H' → Sc Gp H' (n + 1) → D.nx σ H') → tb D σ H)
    {D : Ends} {σ : L2.St} {H : Hp} (h : tSS X.K R H0 (scribF j f) D σ H) : tFor (iList X.K te) (gName j) tb D σ H := by
  obtain ⟨F, τ, o, r, q, k⟩ := h
  unfold scribF at q
  split at q
  · rename_i ds e1
    split at q
    · rename_i hok
      cases q
      rw [Bool.and_eq_true, decide_eq_true_eq] at hok
      obtain ⟨hok, hjt⟩ := hok
      refine hte _ _ _ ⟨F, τ, _, r, e1, fun v F1 H1 Gp pd cv => ?_⟩
      obtain ⟨a, xs, rfl, hG, rx⟩ := cv
      obtain ⟨G, rg⟩ := r
      have hH1 := pd.s a _ hG
      refine ⟨a, rfl, ⟨xs, .inl (.inl hH1)⟩, ?_⟩
      have keepA : ∀ {H' : Hp} {n : Nat}, n ≤ xs.length → Sc Gp H' n → H' a = some (.lst xs) := fun {H' n} hn s => by
        rcases s a _ hG with w | ⟨zs, ys, e, st, w, l⟩
        · exact w
        · cases e
          cases xs with
          | nil =>
            have : ys = [] := List.eq_nil_of_length_eq_zero (by have : n = 0 := Nat.le_zero.mp hn; simp only [List.length_nil] at l; omega)
            rw [w, this]
          | cons x0 xr =>
            exfalso
            obtain ⟨d0, hd0⟩ : ∃ d0, ds[0]? = some d0 := by
              cases ds with
              | nil => exact nomatch (show (x0 :: xr : List V) = [] from rx)
              | cons d0 _ => exact ⟨d0, rfl⟩
            obtain ⟨y, hy, ry⟩ := rx.get hd0
            have hm : d0 ∈ ds := List.mem_of_getElem? hd0
            obtain ⟨x, u, v, rfl, _⟩ := pcOk_some (List.all_eq_true.mp hok d0 hm)
            obtain ⟨t, ts, rfl, _⟩ := ry
            obtain ⟨s, hs⟩ := st _ (List.mem_of_getElem? hy)
            cases hs
      refine for_list (K := X.K) (xs := xs) (fun n σ' H' => σ'.length = σ.length ∧ (∀ i, i ≠ j → σ'[i]? = σ[i]?) ∧ Off Gp H1 H' ∧ Sc Gp H' n) ⟨rfl, fun _ _ => rfl, fun _ _ => rfl, fun b o e => .inl (pd.s b o e)⟩ (fun n σ' H' hn ⟨_, _, _, s⟩ => .inl (.inl (keepA hn s))) (fun n x σ' H' hx ⟨hl, hσ, ho, s⟩ => ?_) fun σ' H' ⟨hl, hσ, ho, s⟩ => ?_
      · obtain ⟨d, hd⟩ : ∃ d, ds[n]? = some d := by
          have hn : n < ds.length := by rw [rx.length]; exact lt_of_some hx
          exact ⟨ds[n], List.getElem?_eq_getElem hn⟩
        obtain ⟨y, hy, ry⟩ := rx.get hd
        rw [hx] at hy; cases hy
        obtain ⟨x0, u, v, rfl, hu, hv, lu, lv⟩ := pcOk_some (List.all_eq_true.mp hok d (List.mem_of_getElem? hd))
        obtain ⟨t, ts, rfl, hGt, y1, r1, rfl, _, y2, r2, rfl, ⟨p, us, rfl, hp, ru⟩, y3, r3, rfl, ⟨q, vs, rfl, hq, rv⟩, e0⟩ := ry
        rw [show r3 = [] from e0] at hGt
        have hn : n < ds.length := lt_of_some hd
        show tb _ (σ'.set j (some (.ref t))) H'
        have hj : j < σ'.length := by rw [hl, ← rg.len]; exact hjt
        refine step _ _ H' Gp n t p q y1 us vs (List.getElem?_set_self hj) hGt hp hq (RpL.strs hu ru) (RpL.strs hv rv) (by rw [← ru.length]; omega) (by rw [← rv.length]; omega) s fun H2 o2 s2 => ⟨by rw [List.length_set]; exact hl, fun i hi => ?_, fun b hb => (o2 b hb).trans (ho b hb), s2⟩
        rw [List.getElem?_set_ne (Ne.symm hi)]; exact hσ i hi
      · refine k σ' F1 H' pd.g.f ?_
        have r2 : Rel X.K R H0 τ σ F1 H' := ⟨G, rg.off pd ho⟩
        refine r2.drop (by rw [List.length_set, hl]; exact rg.len) fun i c e => ?_
        by_cases hi : i = j
        · subst hi
          exfalso
          rcases Nat.lt_or_ge i τ.length with w | w
          · rw [List.getElem?_set_self w] at e; cases e
          · rw [List.getElem?_eq_none (by rw [List.length_set]; exact w)] at e; cases e
        · rw [List.getElem?_set_ne (Ne.symm hi)] at e
          exact ⟨e, hσ i hi⟩
    · cases q
  · cases q
variable {x : Str} {st : Str} {j0 : Nat} {p1 p2 p3 p4 p5 p6 p7 p8 q1 q2 q3 q4 q5 q6 q7 : Pos} {n1 n2 : Nat}
/-- for x in e: x[1].append('z'); x[2].clear() -/
theorem ss_scribAC (j : Nat) {f : FC} (hc : X.calm = true) (hN : X.N.Nodup) (hE : PassesOwn (model X.prog X.w) X.A X.env X.xe) (he : SC R H0 X iter f) (hi : X.N[j]? = some x := by rfl) (hx : Loc X.env.scope x := by first | exact Or.inl rfl | exact Or.inr rfl) (hv : Vis X.env.scope x := by first | exact Or.inl rfl | exact Or.inr (Or.inl rfl) | exact Or.inr (Or.inr rfl)) (hf : X.fn x = true ∨ X.env.scope.names.lookup x = some .local := by exact Or.inl rfl) (hd : (x == ("__debug__" : Str)) = false := by decide) (hcd : (x == ("__classdict__" : Str)) = false := by decide)
    (hb1 : attributeBase (.Subscript (.Name x p1) (.Constant (.int 1) n1 p2) p3) "append" X.env (eval (.Subscript (.Name x p1) (.Constant (.int 1) n1 p2) p3) X.env) = eval (.Subscript (.Name x p1) (.Constant (.int 1) n1 p2) p3) X.env := by rfl)
    (hb2 : attributeBase (.Subscript (.Name x q1) (.Constant (.int 2) n2 q2) q3) "clear" X.env (eval (.Subscript (.Name x q1) (.Constant (.int 2) n2 q2) q3) X.env) = eval (.Subscript (.Name x q1) (.Constant (.int 2) n2 q2) q3) X.env := by rfl)
    (hl1 : (p4.endLine == p6.line) = true := by rfl) (hl2 : (q4.endLine == q6.line) = true := by rfl)
    (hw1 : swapsWith (.Call (.Attribute (.Subscript (.Name x p1) (.Constant (.int 1) n1 p2) p3) "append" p4) [.Constant (.str st) j0 p5] [] p6) none p7.line X.env = pure false := by rfl)
    (hw2 : swapsWith (.Call (.Attribute (.Subscript (.Name x q1) (.Constant (.int 2) n2 q2) q3) "clear" q4) [] [] q6) none q7.line X.env = pure false := by rfl)
    (hs : ∀ v, foldedSetIterable iter X.env v = pure v := by intro _; rfl) :
    SS R H0 X (.For (.Name x p8) iter [.Expr (.Call (.Attribute (.Subscript (.Name x p1) (.Constant (.int 1) n1 p2) p3) "append" p4) [.Constant (.str st) j0 p5] [] p6) p7, .Expr (.Call (.Attribute (.Subscript (.Name x q1) (.Constant (.int 2) n2 q2) q3) "clear" q4) [] [] q6) q7] [] pos) (scribF j f) :=
  PSmono (ps_for hE hc (pi_list he) (pg_name (i := j) hN hi hx hf)
    (pss_cons (ps_expr (pe_bm PySem.F.plainAttrs_list PySem.F.slot_list_append PySem.F.type_list_append mt_append (pe_ix ix_tup (pe_var hi hv hd hcd) pe_int (by exact fun _ _ => rfl)) (pa_cons pe_str pa_nil (by rfl)) hb1 (by rfl) hl1 (by rfl) (by rfl)) hw1)
      (pss_one (ps_expr (pe_bm0 PySem.F.plainAttrs_list PySem.F.slot_list_clear PySem.F.type_list_clear mt_clear (pe_ix ix_tup (pe_var hi hv hd hcd) pe_int (by exact fun _ _ => rfl)) hb2 hl2) hw2))) hs) fun D σ H h =>
  scrib_core (fun _ _ _ h => h) (fun D σ H Gp n t p q y us vs hσ hGt hp hq hu hv lu lv s k => by
    have tupAt : ∀ {H' : Hp} {m : Nat}, Sc Gp H' m → H' t = some (.tup [y, .ref p, .ref q]) := fun {H' m} s => by
      rcases s t _ hGt with w | ⟨_, _, e, _⟩
      · exact w
      · cases e
    obtain ⟨ys, hys, lys⟩ := s.lst hp
    have s1 : Sc Gp (upd H p (.lst (ys ++ [.str st]))) (n + 1) := s.put hp hu (by rw [List.length_append, List.length_singleton]; omega) (by omega)
    obtain ⟨zs, hzs, lzs⟩ := s1.lst hq
    have o1 : Off Gp H (upd H p (.lst (ys ++ [.str st]))) := Off.put (fun _ _ => rfl) hp
    refine ⟨.ref t, hσ, t, [y, .ref p, .ref q], 1, .ref p, rfl, rfl, .inl (.inl (tupAt s)), rfl, .inl ⟨rfl, ys, .inl (.inl hys)⟩, p, ys, .str st, rfl, rfl, hys, ?_, ?_⟩
    · show ys.length < lim
      omega
    refine ⟨.ref t, hσ, t, [y, .ref p, .ref q], 2, .ref q, rfl, rfl, .inl (.inl (tupAt s1)), rfl, .inl ⟨rfl, zs, .inl (.inl hzs)⟩, q, zs, rfl, rfl, hzs, ?_⟩
    exact k _ (Off.put o1 hq) (s1.put hq hv (by rw [List.length_nil]; omega) (Nat.le_refl _))) h
end
end Dl
end
section
set_option Elab.async false
set_option linter.all false
set_option maxRecDepth 100000
set_option maxHeartbeats 4000000
namespace Dl
open PySem PySem.Spec PyProof.Rows L2 GxR Gx
/-! ### the law's def, the end -/
structure DefL (K : PySem.W.Frag) (c : Addr) (x : Str) (st : Stmt) (f : Addr) (fd : FuncData) : Prop where
  ex : ∃ (oc : Value) (od : Option Addr) (dV kV doc pm : Value) (an : Option Addr) (ct : Value) (osl : Array (Option Value)),
    fd = PySem.W.fnOf x x (L2.defArgs st) (L2.defBody st) (L2.defScope st) dV kV doc pm an (.ref c) ct ∧ K.lookup f = some ⟨oc, od, .func fd, osl⟩ ∧ PySem.W.codeIn K (.ref c) x = true
section
variable {P : Program} {w : World} {K : PySem.W.Frag} {mg : Str → Option Value} {base : Heap} {CX : CXT} {cs : List (Addr × Addr)} {k : Nat} {c : Addr} {x : Str} {st : Stmt} {N ps : List Str} {g : FS} {f : Addr} {fd : FuncData}
theorem fnL (Df : DefL K c x st f fd) (S : FnScope N ps (L2.defScope st))
    (hbody : ∀ (f : Addr) (A : Around) (outer : List Env) (s : Shared) (H : Hp) (E : XK) (R : Hp), Room k (A.deeper (envOfC x (L2.defScope st) s.heap.objs.size f (.ref c))) → Sm R H → Tabs cs H →
      SSs R H (cxOf CX P w K mg base N x (L2.defScope st) f (.ref c) A outer s H E).nox (L2.defBody st) g) : FnOk P w K mg base CX (k + 1) f fd ps (spD K cs ps.length (phi N.length g)) := by
  obtain ⟨oc, od, dV, kV, doc, pm, an, ct, osl, rfl, lk, hcd⟩ := Df.ex
  refine fn_of lk hcd S (fun vs H Q E h => h.1) fun A outer s H vs Q E hr ⟨hl, hT, R, ds, r, sR, tR, rr, e, ok⟩ => ?_
  refine ⟨_, (hbody f A outer s H E R hr sR hT).nox, R, startD N.length ds, ?_⟩
  unfold phi at e
  cases q : g (startD N.length ds) with
  | none => rw [q] at e; cases e
  | some o =>
    rw [q] at e
    refine ⟨o, start_rel sR tR rr, rfl, ?_⟩
    cases o with
    | rt nw d => cases e; exact ok
    | nx τ => cases e; exact fun σ' F' H' s r' => ok .non F' H' r'.g rfl
    | bk τ => cases e
    | ct τ => cases e
theorem def_of {fd : FuncData} (F : FunD K x x (L2.defArgs st) (L2.defBody st) (L2.defScope st) [] [] (He.fAd K (x, none)) fd) (hm : mg x = some (.ref (He.ga K x)))
    (h : ∀ (kV doc pm : Value) (an : Option Addr) (cdv ct : Value) (us : List Value), us.length = ps.length → bindArgs (PySem.W.fnOf x x (L2.defArgs st) (L2.defBody st) (L2.defScope st) .none kV doc pm an cdv ct) ⟨us, []⟩ = pure (ps.zip us)) : Def K mg (He.codeOf K (x, none)) x st ps := by
  obtain ⟨oc, od, dV, kV, doc, pm, an, cdv, ct, osl, rfl, lk, hcd, hD, hK⟩ := F.ex
  obtain ⟨c, rfl⟩ := He.codeIn_ref hcd
  have e : He.codeOf K (x, none) = c := He.codeOf_eq lk rfl
  rw [e]
  rcases hD with ⟨_, rfl⟩ | ⟨z, _⟩
  · exact ⟨⟨_, oc, od, kV, doc, pm, an, ct, osl, lk, hcd, hm, F.kp⟩, h⟩
  · exact absurd rfl z
theorem defL_of {fd : FuncData} (F : FunD K x x (L2.defArgs st) (L2.defBody st) (L2.defScope st) [] [] (He.fAd K (x, none)) fd) : DefL K (He.codeOf K (x, none)) x st (He.fAd K (x, none)) fd := by
  obtain ⟨oc, od, dV, kV, doc, pm, an, cdv, ct, osl, rfl, lk, hcd, hD, hK⟩ := F.ex
  obtain ⟨c, rfl⟩ := He.codeIn_ref hcd
  have e : He.codeOf K (x, none) = c := He.codeOf_eq lk rfl
  rw [e]
  exact ⟨oc, od, dV, kV, doc, pm, an, ct, osl, rfl, lk, hcd⟩
/-- at the script -/
theorem spD_scr {φ : Phi} {H : Hp} {a : Addr} {ns : List Int} {m : Bool} (hφ : φ [.scr ns] = some (.ok m (.bl true))) (hT : ∀ p ∈ cs, H p.2 = some (.tbl #[])) (hS : SqL K H a (ns.map V.int)) (E : XK) : spD K cs 1 φ [.ref a] H (fun v _ => v = .bl true) E := by
  refine ⟨rfl, fun p hp => ⟨#[], hT p hp, by trivial⟩, ?_⟩
  have fin : ∀ R, Sm R H → NoTbl R → SqL K R a (ns.map V.int) → ∃ R ds r, Sm R H ∧ NoTbl R ∧ RpL K R ds [.ref a] ∧ φ ds = some r ∧ ResOk K R H (fun v _ => v = .bl true) E r := fun R h1 h2 h3 =>
    ⟨R, [.scr ns], _, h1, h2, RpL.one ⟨a, rfl, h3⟩, hφ, fun v F' H' _ rv => rv⟩
  have sm : ∀ {o : HO}, H a = some o → Sm (sing a o) H := fun {o} h b x e => by
    unfold sing at e
    split at e
    · rename_i hb
      cases e
      rw [hb]; exact h
    · cases e
  have nt : ∀ {o : HO}, (∀ ps, o ≠ .tbl ps) → NoTbl (sing a o) := fun {o} h b ps e => by
    unfold sing at e
    split at e
    · cases e; exact h ps rfl
    · cases e
  rcases hS with (h | ⟨o, h⟩) | h
  · exact fin _ (sm h) (nt fun _ z => nomatch z) (.inl (.inl sing_same))
  · exact fin _ (sm h) (nt fun _ z => nomatch z) (.inl (.inr ⟨o, sing_same⟩))
  · exact fin emp (fun _ _ e => nomatch e) (fun _ _ e => nomatch e) (.inr h)
/-- the law, at its end -/
theorem law_at {l : PySem.W.OpenLaw} {h : Heap} {fa : List He.Fa} {fn : List He.DefD} {tf : List He.Defn} {ex : PySem.W.Frag → Bool} {φ : Phi} {y : Str} {fd : FuncData} {f : Addr} (X : K.In h) (c : He.SaysX fa fn [] tf ex w h K)
    (hφ : ∀ ns, ∃ m, φ [.scr ns] = some (.ok m (.bl true))) (hb : ∀ (s : Shared) (u : Value), BindsTo s fd ⟨[u], []⟩ [(y, u)])
    (hF : ∀ base : Heap, K.In base → base.Ns mainGlobals mg → (∀ p ∈ tf.map (He.cT K), GxR.TabB base mg p.1 p.2) → FnOk l.prog w K mg base CX k f fd [y] (spD K (tf.map (He.cT K)) 1 φ)) : LamX.LawAtS l w K CX k 63 y mg f h := by
  have at_ : ∀ {Q : Addr × Addr → Prop}, (∀ p ∈ tf, Q (He.cT K p)) → ∀ p ∈ tf.map (He.cT K), Q p := fun {Q} h p hp => by
    obtain ⟨q, hq, rfl⟩ := List.mem_map.mp hp
    exact h q hq
  refine ⟨fd, tf.map (He.cT K), spD K (tf.map (He.cT K)) 1 φ, at_ c.empty, at_ c.out, at_ fun p hp => PySem.W.codeHd_of_K X (c.hd p hp), hb, fun H a ns _ _ hT hS => ?_, fun base KB NB TB => hF base KB NB fun p hp => ⟨(TB p hp).code, (TB p hp).bm, (TB p hp).gP⟩⟩
  obtain ⟨m, e⟩ := hφ ns
  exact spD_scr e hT hS _
end
end Dl
end
section
set_option Elab.async false
set_option linter.all false
set_option maxRecDepth 100000
set_option maxHeartbeats 4000000
namespace Dl
open PySem PySem.Spec PyProof.Rows L2 GxR Gx
section
variable {R H0 : Hp} {X : Cx} {a b c e : Expr} {pos : Pos} {n : Nat}
/-! ### a chain of two comparisons of whole numbers -/
def chI (p q : Int → Int → Bool) (f g h : FB) : FT := fun τ => (f τ).bind fun x => (g τ).bind fun y => match x, y with
  | .int i, .int j => if p i j = true then (h τ).bind fun z => (match z with
      | .int k => some (q j k)
      | _ => none) else some false
  | _, _ => none
theorem chI_some {p q : Int → Int → Bool} {f g h : FB} {τ : DS} {z : Bool} (e : chI p q f g h τ = some z) : ∃ i j, f τ = some (.int i) ∧ g τ = some (.int j) ∧ if p i j = true then ∃ k, h τ = some (.int k) ∧ z = q j k else z = false := by
  obtain ⟨x, e1, e⟩ := bindO e
  obtain ⟨y, e2, e⟩ := bindO e
  match x, y, e1, e2, e with
  | .int i, .int j, e1, e2, e =>
    refine ⟨i, j, e1, e2, ?_⟩
    have e : (if p i j = true then (h τ).bind fun z => (match z with
        | .int k => some (q j k)
        | _ => none) else some false) = some z := e
    split at e
    · rename_i hp
      rw [if_pos hp]
      obtain ⟨w, e3, e⟩ := bindO e
      match w, e3, e with
      | .int k, e3, e =>
        cases e
        exact ⟨k, e3, rfl⟩
    · rename_i hp
      rw [if_neg hp]
      cases e; rfl
theorem c_chain {op op' : CmpOp} {p q : Int → Int → Bool} {f g h : FB} (ho : OpR X (compareOp op) (rI0 fun i j => .bl (p i j))) (ho' : OpR X (compareOp op') (rI0 fun i j => .bl (q i j))) (ha : SB R H0 X a f) (hb : SB R H0 X b g) (hc : SB R H0 X c h)
    (hm : lastMarks [op, op'] [b, c] = false := by with_unfolding_all rfl) : ST R H0 X (.Compare a [op, op'] [b, c] pos) (chI p q f g h) ∧ SE R H0 X (.Compare a [op, op'] [b, c] pos) (blE (chI p q f g h)) := by
  have core : ∀ {σ : L2.St} {H F : Hp} {τ : DS} {z : Bool} {Q : VK}, Rel X.K R H0 τ σ F H → chI p q f g h τ = some z → (∀ F' H', Grow F H F' H' → Q (.bl z) H') → tChain (rI0 fun i j => .bl (p i j)) (rI0 fun i j => .bl (q i j)) (tSB X.K R H0 f) (tSB X.K R H0 g) (tSB X.K R H0 h) σ H Q := fun {σ H F τ z Q} r e k => by
    obtain ⟨i, j, e1, e2, e⟩ := chI_some e
    refine two_sb r e1 e2 fun v u F' H' g' r1 r2 => ⟨i, j, r1, r2, p i j, rfl, ?_⟩
    split at e
    · rename_i hp
      obtain ⟨m, e3, rfl⟩ := e
      rw [if_pos hp]
      exact ⟨F', τ, _, r.grow g', e3, fun w F'' H'' g'' r3 => ⟨j, m, r2, r3, k F'' H'' (g'.trans g'')⟩⟩
    · rename_i hp
      subst e
      rw [if_neg hp]
      exact k F' H' g'
  refine ⟨PTmono (pt_chain ho ho' ha hb hc hm) fun σ H Q ⟨F, τ, z, r, e, k⟩ => core r e fun F' H' g' => ⟨z, rfl, k F' H' g'⟩, PEmono (pe_chain ho ho' ha hb hc hm) fun σ H Q ⟨F, τ, nw, d, r, e, k⟩ => ?_⟩
  unfold blE at e
  obtain ⟨z, w, e⟩ := mapO e
  cases e
  exact core r w fun F' H' g' => k _ F' H' g' rfl
theorem ch_lt : OpR X (compareOp .Lt) (rI0 fun i j => .bl (lt2 i j)) := op_lt
theorem ch_le : OpR X (compareOp .LtE) (rI0 fun i j => .bl (le2 i j)) := op_le

/-! ### the truth of a list -/
def truD : D → Option Bool
  | .bl b => some b
  | .lst ds => some (!ds.isEmpty)
  | .tup ds => some (!ds.isEmpty)
  | .scr ns => some (!ns.isEmpty)
  | .non => some false
  | .int i => some (i != 0)
  | _ => none
theorem isE {α β : Type} {xs : List α} {ys : List β} (h : xs.length = ys.length) : xs.isEmpty = ys.isEmpty := by
  cases xs <;> cases ys <;> first | rfl | cases h
theorem st_tru {f : FB} (ha : SB R H0 X e f) (he : ∀ whole, isTrue e X.env whole = (do let v ← whole; standAt e.pos; holding [v] (truthy v)) := by intro _; rfl) : ST R H0 X e (un1 f truD) := PTmono (pt_truth ha he) fun σ H Q ⟨F, τ, z, r, q, k⟩ => by
  obtain ⟨x, e1, q⟩ := un1_some q
  refine ⟨F, τ, x, r, e1, fun v F' H' g' rv => ⟨z, ?_, k F' H' g'⟩⟩
  cases x <;> first | (cases q; done) | skip
  · cases q; obtain rfl : v = V.non := rv; exact rfl
  · cases q; obtain rfl : v = V.bl _ := rv; exact rfl
  · cases q; obtain rfl : v = V.int _ := rv; exact rfl
  · cases q
    obtain ⟨p, xs, rfl, hx, rx⟩ := rv
    exact .inl ⟨xs, .inl (.inl hx), by rw [isE rx.length]⟩
  · cases q
    obtain ⟨p, xs, rfl, hx, rx⟩ := rv
    exact .inr (.inl ⟨xs, .inl (.inl hx), by rw [isE rx.length]⟩)
  · cases q
    obtain ⟨p, rfl, hx⟩ := rv
    exact .inl ⟨_, hx, by rw [isE (List.length_map _)]⟩

/-! ### in a list -/
def inD (neg : Bool) (x y : D) : Option Bool := match y with
  | .lst ds => if okEq x && okEq (.lst ds) then some (neg != (pyL ds).any fun z => PyData.eqv z (py x)) else none
  | _ => none
theorem c_in {f g : FB} (hr : Room n X.A) (ha : SB R H0 X a f) (hb : SB R H0 X b g) (hm : behindInMarks .In b = false := by with_unfolding_all rfl) : ST R H0 X (.Compare a [.In] [b] pos) (bi f g (inD false)) ∧ SE R H0 X (.Compare a [.In] [b] pos) (blE (bi f g (inD false))) :=
  cmp_of (op_inD (by have := hr.un; omega)) hm (fun x y z e F H v u Q _ r1 r2 q => by
    unfold inD okEq at e
    split at e
    · rename_i ds
      split at e
      · rename_i h
        simp only [Bool.and_eq_true] at h
        cases e
        rw [Bool.false_bne] at q
        exact ⟨py x, pyL ds, Rp.dp _ _ h.1.1 r1, Rp.dp (.lst ds) _ h.2.1 r2, h.1.2, h.2.2, q⟩
      · cases e
    · cases e) ha hb
theorem c_notin {f g : FB} (hr : Room n X.A) (ha : SB R H0 X a f) (hb : SB R H0 X b g) (hm : behindInMarks .NotIn b = false := by with_unfolding_all rfl) : ST R H0 X (.Compare a [.NotIn] [b] pos) (bi f g (inD true)) ∧ SE R H0 X (.Compare a [.NotIn] [b] pos) (blE (bi f g (inD true))) :=
  cmp_of (op_notInD (by have := hr.un; omega)) hm (fun x y z e F H v u Q _ r1 r2 q => by
    unfold inD okEq at e
    split at e
    · rename_i ds
      split at e
      · rename_i h
        simp only [Bool.and_eq_true] at h
        cases e
        rw [Bool.true_bne] at q
        exact ⟨py x, pyL ds, Rp.dp _ _ h.1.1 r1, Rp.dp (.lst ds) _ h.2.1 r2, h.1.2, h.2.2, q⟩
      · cases e
    · cases e) ha hb
/-! ### a, b = x, y -/
def parF (i j : Nat) (f : FA) : FS := fun τ => (f τ).bind fun p => match p.2 with
  | [d, e] => some (.nx ((τ.set i (some (.d (p.1 || scal d) d))).set j (some (.d (p.1 || scal e) e))))
  | _ => none
theorem ss_par (i j : Nat) {x y : Str} {px py pt : Pos} {kt k2 pt2} {f : FA} (hc : X.calm = true) (hN : X.N.Nodup) (hij : i ≠ j) (ha : SA R H0 X [a, b] f) (hw : swappedStores [.Tuple [.Name x px, .Name y py] kt pt] (.Tuple [a, b] k2 pt2) X.env = pure (some [x, y]))
    (hi : X.N[i]? = some x := by rfl) (hj : X.N[j]? = some y := by rfl) (hx : X.env.scope.names.lookup x = some .local := by rfl) (hy : X.env.scope.names.lookup y = some .local := by rfl)
    (hs : swapsWithSole [.Tuple [.Name x px, .Name y py] kt pt] (.Tuple [a, b] k2 pt2) pos.line X.env = pure false := by rfl) :
    SS R H0 X (.Assign [.Tuple [.Name x px, .Name y py] kt pt] (.Tuple [a, b] k2 pt2) pos) (parF i j f) := PSmono (ps_par hc hN hi hj hij hx hy ha hw hs) fun D σ H ⟨F, τ, o, r, q, k⟩ => by
  obtain ⟨⟨m, ds⟩, e1, q⟩ := bindO q
  match ds, e1, q with
  | [d, e], e1, q =>
    cases q
    refine ⟨F, τ, m, _, r, e1, fun vs F' H' g' rv => ?_⟩
    obtain ⟨v, w, rfl, r1, r2⟩ := RpL.two_inv rv
    have s1 := (r.grow g').store (c := .d (m || scal d) d) (i := i) (r.grow g').refl.pend (lv_scal r1)
    have s2 := s1.store (c := .d (m || scal e) e) (i := j) s1.refl.pend (lv_scal r2)
    exact ⟨v, w, rfl, k _ F' H' g'.f s2⟩
end
end Dl
end
section
set_option Elab.async false
set_option linter.all false
set_option maxRecDepth 100000
set_option maxHeartbeats 4000000
namespace Dl
open PySem PySem.Spec PyProof.Rows L2 GxR Gx
section
variable {R H0 : Hp} {X : Cx} {a b c e : Expr} {pos : Pos} {n : Nat}
/-! ### list(range(n)) -/
def rgL (j : Int) : List D := (List.range j.toNat).map fun i => .int (i : Nat)
theorem RpL.rg {K : PySem.W.Frag} {H : Hp} : ∀ (l : List Nat), RpL K H (l.map fun (i : Nat) => D.int ((i : Nat) : Int)) (l.map fun (i : Nat) => V.int (0 + ((i : Nat) : Int)))
  | [] => rfl
  | i :: l => ⟨_, _, rfl, (show V.int (0 + (i : Int)) = V.int (i : Int) by rw [Int.zero_add]), RpL.rg l⟩
def lrgD : D → Option C
  | .int j => if j ≤ (lim : Int) ∧ -(lim : Int) ≤ j then some (.own true (rgL j)) else none
  | _ => none
theorem sc_listRg {f : FB} {p p2 pos2 : Pos} (hc : X.calm = true) (hg : Gl X "list") (hm : X.mg "list" = none) (hg2 : Gl X "range") (hm2 : X.mg "range" = none) (ha : SB R H0 X a f) (na2 : starEach [a] X.env = (false, eval a X.env) :: starEach [] X.env := by rfl)
    (na : starEach [.Call (.Name "range" p2) [a] [] pos2] X.env = (false, eval (.Call (.Name "range" p2) [a] [] pos2) X.env) :: starEach [] X.env := by rfl) :
    SC R H0 X (.Call (.Name "list" p) [.Call (.Name "range" p2) [a] [] pos2] [] pos) (un1 f lrgD) := PEmono (pe_listRg hc hg hm (prg_1 hg2 hm2 ha na2) na) fun σ H Q ⟨F, τ, cl, r, q, k⟩ => by
  obtain ⟨x, e1, q⟩ := un1_some q
  match x, e1, q with
  | .int j, e1, q =>
    have q : (if j ≤ (lim : Int) ∧ -(lim : Int) ≤ j then some (C.own true (rgL j)) else none) = some cl := q
    split at q
    · rename_i hj
      cases q
      have hl : (lim : Int) = 16777216 := rfl
      refine ⟨F, τ, _, r, e1, fun v F' H' g' rv => ⟨j, rv, ⟨by decide, by decide, by omega, by omega, by omega⟩, fun p hp => k _ _ _ _ (pend_new g' hp fun _ z => nomatch z) ⟨p, _, rfl, sing_same, ?_⟩⟩⟩
      have := RpL.rg (K := X.K) (H := lv true R F') (List.range (j - 0).toNat)
      unfold rgL
      rw [Int.sub_zero] at this
      show RpL X.K (lv true R F') _ (rgV 0 j)
      unfold rgV
      rw [Int.sub_zero]
      exact this
    · cases q
/-! ### max, min of two -/
def maxD : (Bool × List D) → Option (Bool × D)
  | (_, [.int i, .int j]) => some (true, .int (if j > i then j else i))
  | _ => none
def minD : (Bool × List D) → Option (Bool × D)
  | (_, [.int i, .int j]) => some (true, .int (if j < i then j else i))
  | _ => none
theorem se_max2 {f : FA} {p : Pos} (hc : X.calm = true) (hg : Gl X "max") (hm : X.mg "max" = none) (ha : SA R H0 X [a, b] f) (he : starEach [a, b] X.env = (false, eval a X.env) :: starEach [b] X.env := by rfl) (hp : (backTo pos (starEach [b] X.env)).any (·.1) = false := by rfl) :
    SE R H0 X (.Call (.Name "max" p) [a, b] [] pos) (un1 f maxD) := PEmono (pe_callB (call_max2 hc) hg hm (by decide +kernel) ha (by decide) (by decide) he hp) fun σ H Q ⟨F, τ, nw, d, r, q, k⟩ => by
  obtain ⟨⟨m, ds⟩, e1, q⟩ := un1_some q
  match ds, e1, q with
  | [.int i, .int j], e1, q =>
    cases q
    refine ⟨F, τ, m, _, r, e1, fun vs F' H' g' rv => ?_⟩
    obtain ⟨x, y, rfl, r1, r2⟩ := RpL.two_inv rv
    exact ⟨i, j, by rw [show x = V.int i from r1, show y = V.int j from r2], k _ F' H' g' rfl⟩
theorem se_min2 {f : FA} {p : Pos} (hc : X.calm = true) (hg : Gl X "min") (hm : X.mg "min" = none) (ha : SA R H0 X [a, b] f) (he : starEach [a, b] X.env = (false, eval a X.env) :: starEach [b] X.env := by rfl) (hp : (backTo pos (starEach [b] X.env)).any (·.1) = false := by rfl) :
    SE R H0 X (.Call (.Name "min" p) [a, b] [] pos) (un1 f minD) := PEmono (pe_callB (call_min2 hc) hg hm (by decide +kernel) ha (by decide) (by decide) he hp) fun σ H Q ⟨F, τ, nw, d, r, q, k⟩ => by
  obtain ⟨⟨m, ds⟩, e1, q⟩ := un1_some q
  match ds, e1, q with
  | [.int i, .int j], e1, q =>
    cases q
    refine ⟨F, τ, m, _, r, e1, fun vs F' H' g' rv => ?_⟩
    obtain ⟨x, y, rfl, r1, r2⟩ := RpL.two_inv rv
    exact ⟨i, j, by rw [show x = V.int i from r1, show y = V.int j from r2], k _ F' H' g' rfl⟩
end
end Dl
end
section
set_option Elab.async false
set_option linter.all false
set_option maxRecDepth 100000
set_option maxHeartbeats 4000000
namespace Dl
open PySem PySem.Spec PyProof.Rows L2 GxR Gx
section
variable {R H0 : Hp} {X : Cx} {a b c e ke : Expr} {pos : Pos} {n : Nat}
/-! ### x.get(k), x[k] of a dict of one's own -/
def lookL {α : Type} : List Key → List α → Key → Option α
  | k' :: ks, x :: xs, k => if k' = k then some x else lookL ks xs k
  | _, _, _ => none
theorem valV_zip {k : Key} : ∀ {ks : List Key} {xs : List V}, valV (ks.zip xs) k = lookL ks xs k
  | [], xs => by cases xs <;> rfl
  | _ :: _, [] => rfl
  | k' :: ks, x :: xs => by
    rw [List.zip_cons_cons]
    by_cases e : k' = k
    · rw [valV_pos (p := (k', x)) e]
      show _ = (if k' = k then some x else lookL ks xs k)
      rw [if_pos e]
    · rw [valV_neg (p := (k', x)) e, valV_zip]
      show _ = (if k' = k then some x else lookL ks xs k)
      rw [if_neg e]
theorem RpL.look {K : PySem.W.Frag} {H : Hp} {k : Key} : ∀ {ks : List Key} {ds : List D} {xs : List V}, RpL K H ds xs → (∀ d, lookL ks ds k = some d → ∃ v, lookL ks xs k = some v ∧ Rp K H d v) ∧ (lookL ks ds k = none → lookL ks xs k = none)
  | [], _, _, _ => ⟨(fun _ h => nomatch h), fun _ => rfl⟩
  | _ :: _, [], _, r => by rw [show _ = [] from r]; exact ⟨(fun _ h => nomatch h), fun _ => rfl⟩
  | k' :: ks, d :: ds, _, ⟨y, t, rfl, r1, r2⟩ => by
    obtain ⟨h1, h2⟩ := RpL.look (k := k) (ks := ks) r2
    by_cases e : k' = k
    · refine ⟨fun d' h => ?_, fun h => ?_⟩
      · have h : (if k' = k then some d else lookL ks ds k) = some d' := h
        rw [if_pos e] at h
        cases h
        exact ⟨y, if_pos e, r1⟩
      · have h : (if k' = k then some d else lookL ks ds k) = none := h
        rw [if_pos e] at h
        cases h
    · refine ⟨fun d' h => ?_, fun h => ?_⟩
      · have h : (if k' = k then some d else lookL ks ds k) = some d' := h
        rw [if_neg e] at h
        obtain ⟨v, h3, h4⟩ := h1 d' h
        exact ⟨v, (if_neg e).trans h3, h4⟩
      · have h : (if k' = k then some d else lookL ks ds k) = none := h
        rw [if_neg e] at h
        exact (if_neg e).trans (h2 h)
/-- a dict: one's own, a frozen one, one told of plain values -/
def dicAt : Option (Option C) → Option (Bool × List Key × List D)
  | some (some (.dic nw ks ds)) => some (nw, ks, ds)
  | some (some (.d nw (.dic ks ds))) => some (nw, ks, ds)
  | some (some (.dp (.dic ks ds))) => if allScal ds = true then some (true, ks, ds) else none
  | _ => none
theorem dic_at {K : PySem.W.Frag} {τ : DS} {σ : L2.St} {F H : Hp} {i : Nat} {nw : Bool} {ks : List Key} {ds : List D} (r : Rel K R H0 τ σ F H) (h : dicAt τ[i]? = some (nw, ks, ds)) :
    ∃ p xs, σ[i]? = some (some (.ref p)) ∧ ks.length = xs.length ∧ (∀ F' H', Grow F H F' H' → H' p = some (.dK (ks.zip xs)) ∧ RpL K (lv nw R F') ds xs) := by
  obtain ⟨G, rg⟩ := r
  match w : τ[i]?, h with
  | some (some (.dic m ks' ds')), h =>
    cases h
    obtain ⟨u, hu, p, xs, rfl, hG, hl, rx⟩ := rg.cell i _ w
    exact ⟨p, xs, hu, hl, fun F' H' g => ⟨((rg.grow g).reg i).s _ _ hG, RpL.sm (lv_mono g.f) rx⟩⟩
  | some (some (.d m (.dic ks' ds'))), h =>
    cases h
    obtain ⟨u, hu, p, xs, rfl, hG, hl, rx⟩ := rg.cell i _ w
    exact ⟨p, xs, hu, hl, fun F' H' g => ⟨g.s _ _ (g.f _ _ (lv_sub _ _ hG)), RpL.sm (lv_mono g.f) rx⟩⟩
  | some (some (.dp (.dic ks' ds'))), h =>
    have h : (if allScal ds' = true then some (true, ks', ds') else none) = some (nw, ks, ds) := h
    split at h
    · rename_i hs
      cases h
      obtain ⟨u, hu, p, xs, rfl, hG, hl, rx⟩ := rg.cell i _ w
      exact ⟨p, xs, hu, hl, fun F' H' g => ⟨((rg.grow g).reg i).s _ _ hG, RpL.scal hs rx⟩⟩
    · cases h
def dgetF (i : Nat) (fk : FE) : FE := fun τ => (dicAt τ[i]?).bind fun t => (fk τ).bind fun kk => (keyD kk.2).map fun k => (match lookL t.2.1 t.2.2 k with
      | some d => (t.1 || scal d, d)
      | none => (true, .non))
theorem se_dget (i : Nat) {x : Str} {fk : FE} {vp ap : Pos} (hr : Room n X.A) (hk : SE R H0 X ke fk) (m : M1 X (.Name x vp) "get" ap ke pos := by exact ⟨rfl, rfl, rfl, rfl⟩) (hN : X.N[i]? = some x := by rfl) (hv : Vis X.env.scope x := by first | exact Or.inl rfl | exact Or.inr (Or.inl rfl) | exact Or.inr (Or.inr rfl)) (hd : (x == ("__debug__" : Str)) = false := by decide)
    (hcd : (x == ("__classdict__" : Str)) = false := by decide) : SE R H0 X (.Call (.Attribute (.Name x vp) "get" ap) [ke] [] pos) (dgetF i fk) := PEmono (pe_dget1 (by have := hr.units; omega) (pe_var hN hv hd hcd) hk m) fun σ H Q ⟨F, τ, nw, d, r, q, k⟩ => by
  obtain ⟨⟨m0, ks, ds⟩, e1, q⟩ := bindO q
  obtain ⟨⟨mk, kd⟩, e3, q⟩ := bindO q
  obtain ⟨kk, e4, q⟩ := mapO q
  obtain ⟨p, xs, hu, hl, at_⟩ := dic_at r e1
  refine ⟨.ref p, hu, p, rfl, .inl ⟨_, .inl (at_ F H r.refl).1⟩, F, τ, mk, kd, r, e3, fun y F2 H2 g2 ry => ?_⟩
  obtain ⟨hH, rx2⟩ := at_ F2 H2 g2
  refine ⟨_, by rw [keyD_some e4 ry]; exact .k hH, ?_⟩
  rw [valV_zip]
  obtain ⟨h1, h2⟩ := RpL.look (k := kk) (ks := ks) rx2
  cases w : lookL ks ds kk with
  | none =>
    rw [w] at q
    cases q
    rw [h2 w]
    exact k _ F2 H2 g2 rfl
  | some d' =>
    rw [w] at q
    cases q
    obtain ⟨v, h3, h4⟩ := h1 _ w
    rw [h3]
    exact k _ F2 H2 g2 (lv_scal h4)
def dsubF (i : Nat) (fk : FE) : FE := fun τ => (dicAt τ[i]?).bind fun t => (fk τ).bind fun kk => (keyD kk.2).bind fun k => (lookL t.2.1 t.2.2 k).map fun d => (t.1 || scal d, d)
theorem se_dsub (i : Nat) {x : Str} {fk : FE} {vp : Pos} (hr : Room n X.A) (hk : SE R H0 X ke fk) (hs : NoSl ke := by exact fun _ _ => rfl) (hN : X.N[i]? = some x := by rfl) (hv : Vis X.env.scope x := by first | exact Or.inl rfl | exact Or.inr (Or.inl rfl) | exact Or.inr (Or.inr rfl)) (hd : (x == ("__debug__" : Str)) = false := by decide)
    (hcd : (x == ("__classdict__" : Str)) = false := by decide) : SE R H0 X (.Subscript (.Name x vp) ke pos) (dsubF i fk) := PEmono (pe_dget (by have := hr.units; omega) (pe_var hN hv hd hcd) hk hs) fun σ H Q ⟨F, τ, nw, d, r, q, k⟩ => by
  obtain ⟨⟨m0, ks, ds⟩, e1, q⟩ := bindO q
  obtain ⟨⟨mk, kd⟩, e3, q⟩ := bindO q
  obtain ⟨kk, e4, q⟩ := bindO q
  obtain ⟨d', w, q⟩ := mapO q
  cases q
  obtain ⟨p, xs, hu, hl, at_⟩ := dic_at r e1
  refine ⟨.ref p, hu, F, τ, mk, kd, r, e3, fun y F2 H2 g2 ry => ?_⟩
  obtain ⟨hH, rx2⟩ := at_ F2 H2 g2
  obtain ⟨v, h3, h4⟩ := (RpL.look (k := kk) (ks := ks) rx2).1 _ w
  refine ⟨p, v, rfl, ?_, k _ F2 H2 g2 (lv_scal h4)⟩
  rw [keyD_some e4 ry, ← h3, ← valV_zip]
  exact .k hH
def dinP (i : Nat) (fk : FE) : FT := fun τ => (dicAt τ[i]?).bind fun t => (fk τ).bind fun kk => (keyD kk.2).map fun k => hasK t.2.1 k
theorem c_dinP (i : Nat) {x : Str} {fk : FE} {p2 : Pos} (hr : Room n X.A) (hk : SE R H0 X ke fk) (hN : X.N[i]? = some x := by rfl) (hvs : Vis X.env.scope x := by first | exact Or.inl rfl | exact Or.inr (Or.inl rfl) | exact Or.inr (Or.inr rfl)) (hd : (x == ("__debug__" : Str)) = false := by decide)
    (hcd : (x == ("__classdict__" : Str)) = false := by decide) : ST R H0 X (.Compare ke [.In] [.Name x p2] pos) (dinP i fk) := PTmono (pt_cmp (pc_din (by have := hr.units; omega) hk (pe_var hN hvs hd hcd))) fun σ H Q ⟨F, τ, z, r, q, k⟩ => by
  obtain ⟨⟨m0, ks, ds⟩, e1, q⟩ := bindO q
  obtain ⟨⟨mk, kd⟩, e3, q⟩ := bindO q
  obtain ⟨kk, e4, rfl⟩ := mapO q
  obtain ⟨p, xs, hu, hl, at_⟩ := dic_at r e1
  refine ⟨F, τ, mk, kd, r, e3, fun y F2 H2 g2 ry => ?_⟩
  obtain ⟨hH, rx2⟩ := at_ F2 H2 g2
  refine ⟨.ref p, hu, p, _, rfl, (by rw [keyD_some e4 ry]; exact .k hH), ?_⟩
  rw [isSome_zip hl]
  exact ⟨_, rfl, k F2 H2 g2⟩
/-- x.get(k, d) -/
def dgetF2 (i : Nat) (fk fd : FE) : FE := fun τ => (dicAt τ[i]?).bind fun t => (fk τ).bind fun kk => (fd τ).bind fun dd => (keyD kk.2).map fun k => (match lookL t.2.1 t.2.2 k with
      | some d => (t.1 || scal d, d)
      | none => dd)
theorem se_dget2 (i : Nat) {x : Str} {fk fd : FE} {vp ap : Pos} {de : Expr} (hr : Room n X.A) (hk : SE R H0 X ke fk) (hde : SE R H0 X de fd) (m : M2 X (.Name x vp) "get" ap ke de pos := by exact ⟨rfl, rfl, rfl, rfl⟩) (hN : X.N[i]? = some x := by rfl) (hv : Vis X.env.scope x := by first | exact Or.inl rfl | exact Or.inr (Or.inl rfl) | exact Or.inr (Or.inr rfl)) (hd : (x == ("__debug__" : Str)) = false := by decide)
    (hcd : (x == ("__classdict__" : Str)) = false := by decide) : SE R H0 X (.Call (.Attribute (.Name x vp) "get" ap) [ke, de] [] pos) (dgetF2 i fk fd) := PEmono (pe_dget2 (by have := hr.units; omega) (pe_var hN hv hd hcd) hk hde m) fun σ H Q ⟨F, τ, nw, d, r, q, k⟩ => by
  obtain ⟨⟨m0, ks, ds⟩, e1, q⟩ := bindO q
  obtain ⟨⟨mk, kd⟩, e3, q⟩ := bindO q
  obtain ⟨⟨md, dd⟩, e5, q⟩ := bindO q
  obtain ⟨kk, e4, q⟩ := mapO q
  obtain ⟨p, xs, hu, hl, at_⟩ := dic_at r e1
  refine ⟨.ref p, hu, p, rfl, .inl ⟨_, .inl (at_ F H r.refl).1⟩, F, τ, mk, kd, r, e3, fun y F2 H2 g2 ry => ⟨F2, τ, md, dd, r.grow g2, e5, fun z F3 H3 g3 rz => ?_⟩⟩
  obtain ⟨hH, rx2⟩ := at_ F3 H3 (g2.trans g3)
  refine ⟨_, by rw [keyD_some e4 ry]; exact .k hH, ?_⟩
  rw [valV_zip]
  obtain ⟨h1, h2⟩ := RpL.look (k := kk) (ks := ks) rx2
  cases w : lookL ks ds kk with
  | none =>
    rw [w] at q
    cases q
    rw [h2 w]
    exact k _ F3 H3 (g2.trans g3) rz
  | some d' =>
    rw [w] at q
    cases q
    obtain ⟨v, h3, h4⟩ := h1 _ w
    rw [h3]
    exact k _ F3 H3 (g2.trans g3) (lv_scal h4)
end
end Dl
end
section
set_option Elab.async false
set_option linter.all false
set_option maxRecDepth 100000
set_option maxHeartbeats 4000000
namespace Dl
open PySem PySem.Spec PyProof.Rows L2 GxR Gx
/-! ### all, any of a list of truths -/
def rAllB (K : PySem.W.Frag) (f : List Bool → Bool) : List V → Hp → VK → Prop := fun xs H Q => ∃ p bs, xs = [.ref p] ∧ SqL K H p (bs.map V.bl) ∧ Q (.bl (f bs)) H
theorem dpBools {K : PySem.W.Frag} {H : Hp} : ∀ bs : List Bool, DpAll K H (bs.map V.bl) (bs.map PyData.bool)
  | [] => .nil
  | b :: bs => .cons (.bl b) (dpBools bs)
theorem plainBools : ∀ bs : List Bool, PyData.plainAll (bs.map PyData.bool) = true
  | [] => rfl
  | b :: bs => by
    show PyData.plainAll (PyData.bool b :: bs.map PyData.bool) = true
    simp [PyData.plainAll, PyData.plain, plainBools bs]
theorem allBools : ∀ bs : List Bool, (bs.map PyData.bool).all PyData.truthy = bs.all id
  | [] => rfl
  | b :: bs => by
    rw [List.map_cons, List.all_cons, List.all_cons, allBools bs]
    rfl
theorem anyBools : ∀ bs : List Bool, (bs.map PyData.bool).any PyData.truthy = bs.any id
  | [] => rfl
  | b :: bs => by
    rw [List.map_cons, List.any_cons, List.any_cons, anyBools bs]
    rfl
section
variable {X : Cx}
theorem call_allB (hc : X.calm = true) : CallR X (.builtin "all") (rAllB X.K fun bs => bs.all id) := by
  intro pins s σ H xs us Q I r h
  obtain ⟨p, bs, rfl, hS, q⟩ := h
  obtain ⟨u, rfl, ru⟩ := r.one
  cases ru
  obtain ⟨its, rv, pl, hz⟩ := I.list hS
  obtain ⟨as, hr⟩ := Dp.readsAll I (bs.map PyData.bool) _ its (dpBools bs) rv
  refine PySem.W.all_list_data (I.ok.hd hc) pl.isList (by rw [List.toList_toArray]; exact hr) (plainBools bs) (fun x hx => ?_) fun h' tk k => ⟨.bl (bs.all id), H, I.kept k, ?_, q⟩
  · obtain ⟨b, _, rfl⟩ := List.mem_map.mp hx
    trivial
  · rw [allBools]
    exact rfl
theorem call_anyB (hc : X.calm = true) : CallR X (.builtin "any") (rAllB X.K fun bs => bs.any id) := by
  intro pins s σ H xs us Q I r h
  obtain ⟨p, bs, rfl, hS, q⟩ := h
  obtain ⟨u, rfl, ru⟩ := r.one
  cases ru
  obtain ⟨its, rv, pl, hz⟩ := I.list hS
  obtain ⟨as, hr⟩ := Dp.readsAll I (bs.map PyData.bool) _ its (dpBools bs) rv
  refine PySem.W.any_list_data (I.ok.hd hc) pl.isList (by rw [List.toList_toArray]; exact hr) (plainBools bs) (fun x hx => ?_) fun h' tk k => ⟨.bl (bs.any id), H, I.kept k, ?_, q⟩
  · obtain ⟨b, _, rfl⟩ := List.mem_map.mp hx
    trivial
  · rw [anyBools]
    exact rfl
end
def unbl : List D → Option (List Bool)
  | [] => some []
  | .bl b :: ds => (unbl ds).map (b :: ·)
  | _ => none
theorem unbl_some {K : PySem.W.Frag} {H : Hp} : ∀ {ds : List D} {bs : List Bool} {xs : List V}, unbl ds = some bs → RpL K H ds xs → xs = bs.map V.bl
  | [], _, _, e, r => by cases e; exact r
  | .bl b :: ds, _, _, e, ⟨y, t, rfl, r1, r2⟩ => by
    obtain ⟨bs, e1, rfl⟩ := mapO (show (unbl ds).map (b :: ·) = some _ from e)
    rw [unbl_some e1 r2, show y = V.bl b from r1]
    rfl
def allB (f : List Bool → Bool) : D → Option (Bool × D)
  | .lst ds => (unbl ds).map fun bs => (true, .bl (f bs))
  | _ => none
section
variable {R H0 : Hp} {X : Cx} {a : Expr} {pos p : Pos}
theorem se_allB {f : FB} (hc : X.calm = true) (hg : Gl X "all") (hm : X.mg "all" = none) (h : SB R H0 X a f) (he : starEach [a] X.env = (false, eval a X.env) :: starEach [] X.env := by rfl) : SE R H0 X (.Call (.Name "all" p) [a] [] pos) (un1 f (allB fun bs => bs.all id)) :=
  PEmono (pe_callB (call_allB hc) hg hm (by decide +kernel) (pa_cons h pa_nil he) (by decide) (by decide) he (by rfl)) fun σ H Q ⟨F, τ, nw, d, r, q, k⟩ => by
  obtain ⟨x, e1, q⟩ := un1_some q
  match x, e1, q with
  | .lst ds, e1, q =>
    obtain ⟨bs, e2, q⟩ := mapO (show (unbl ds).map (fun bs => (true, D.bl (bs.all id))) = some (nw, d) from q)
    cases q
    refine ⟨F, τ, _, r, e1, fun v F' H' g' rv => ?_⟩
    obtain ⟨pa, xs, rfl, hx, rx⟩ := rv
    exact ⟨pa, bs, rfl, .inl (.inl (by rw [← unbl_some e2 rx]; exact hx)), k _ F' H' g' rfl⟩
theorem se_anyB {f : FB} (hc : X.calm = true) (hg : Gl X "any") (hm : X.mg "any" = none) (h : SB R H0 X a f) (he : starEach [a] X.env = (false, eval a X.env) :: starEach [] X.env := by rfl) : SE R H0 X (.Call (.Name "any" p) [a] [] pos) (un1 f (allB fun bs => bs.any id)) :=
  PEmono (pe_callB (call_anyB hc) hg hm (by decide +kernel) (pa_cons h pa_nil he) (by decide) (by decide) he (by rfl)) fun σ H Q ⟨F, τ, nw, d, r, q, k⟩ => by
  obtain ⟨x, e1, q⟩ := un1_some q
  match x, e1, q with
  | .lst ds, e1, q =>
    obtain ⟨bs, e2, q⟩ := mapO (show (unbl ds).map (fun bs => (true, D.bl (bs.any id))) = some (nw, d) from q)
    cases q
    refine ⟨F, τ, _, r, e1, fun v F' H' g' rv => ?_⟩
    obtain ⟨pa, xs, rfl, hx, rx⟩ := rv
    exact ⟨pa, bs, rfl, .inl (.inl (by rw [← unbl_some e2 rx]; exact hx)), k _ F' H' g' rfl⟩
end
end Dl
end
section
set_option Elab.async false
set_option linter.all false
set_option maxRecDepth 100000
set_option maxHeartbeats 4000000
namespace Gx
open PySem PySem.Spec PyProof.Rows L2 GxR GenW
/-! ### two for in a generator expression -/
abbrev GE2 (elt t0 i0 : Expr) (if0 : List Expr) (t1 i1 : Expr) (if1 : List Expr) (scope : Scope) (pos : Pos) : Expr := .GeneratorExp elt [⟨t0, i0, if0, 0⟩, ⟨t1, i1, if1, 0⟩] scope pos
theorem compTurnG_out (elt t0 i0 t1 i1 : Expr) (ifs0 ifs1 : List Expr) (scope : Scope) (pos : Pos) (it acc : Value) (env : Env) :
    compTurn (GE2 elt t0 i0 ifs0 t1 i1 ifs1 scope pos) 0 it acc env = (standAt i0.pos >>= fun _ => pyNext it >>= fun r => match r with
      | none => pure (.done .next)
      | some v => letOwnedTupleGo t0 it v >>= fun _ => assign t0 env v >>= fun _ => (do { let mut ok := true; for c in ifs0 do { if ok then { ok ← isTrue c env (eval c env) } }; if ok then { let x ← eval i1 env; standAt i1.pos; let x ← foldedSetIterable i1 env x; let _ ← runOwn (.compStart (GE2 elt t0 i0 ifs0 t1 i1 ifs1 scope pos) 1 (← holding [x] (pyIter x)) acc env) env }; again (.compLoop (GE2 elt t0 i0 ifs0 t1 i1 ifs1 scope pos) 0 it acc env) })) := by rfl
theorem compTurnG_in (elt t0 i0 t1 i1 : Expr) (ifs0 ifs1 : List Expr) (scope : Scope) (pos : Pos) (it acc : Value) (env : Env) :
    compTurn (GE2 elt t0 i0 ifs0 t1 i1 ifs1 scope pos) 1 it acc env = (standAt i1.pos >>= fun _ => pyNext it >>= fun r => match r with
      | none => pure (.done .next)
      | some v => letOwnedTupleGo t1 it v >>= fun _ => assign t1 env v >>= fun _ => (do { let mut ok := true; for c in ifs1 do { if ok then { ok ← isTrue c env (eval c env) } }; if ok then { (do { let v ← eval elt env; standAt elt.pos; let _ ← yieldOut env v }) }; again (.compLoop (GE2 elt t0 i0 ifs0 t1 i1 ifs1 scope pos) 1 it acc env) })) := by rfl

def Ry (X' : Cx) (fin : Hp → Prop) : GenEnd := fun _ _ r s => r = .ok .next ∧ ∃ ps σ H, Inv X' ps σ H s ∧ fin H
def Yy (X' : Cx) (out : V → Hp → (Hp → Prop) → Prop) : Protocol := fun _ _ v s kap =>
  ∃ ps y H σ, ∃ Nx : Hp → Prop, RelV y v ∧ Inv X' ps σ H s ∧ out y H Nx ∧ ∀ s'', Nx H → s''.heap = s.heap → Inv X' ps σ H s'' → kap (.send .none) s''
/-- the word of the turns -/
def TurnsY (J : It) (g : TG) (tt : TT) (wi1 : TI) (g1 : TG) (tt1 : TT) (te : TE) (σ : L2.St) (vs vs1 : List Nat) (out : V → Hp → (Hp → Prop) → Prop) (fin : Hp → Prop) (W : Nat → Nat → Hp → Prop) : Prop :=
  ∀ i m H, W i m H → (J.stop i H ∧ fin H) ∨ (J.go i H ∧ ∃ Nx : Hp → Prop, (∀ H', Nx H' → ∃ m', m' < m ∧ W (i + 1) m' H') ∧ ∀ x H', J.yld i H x H' → g x (wipe σ vs) H' fun σ2 H2 => wipe σ2 vs = wipe σ vs ∧ tt σ2 H2 fun b H3 =>
    if b = true then wi1 σ2 H3 fun J1 H4 => ∃ W1 : Nat → Nat → Hp → Prop, (∃ k, k < m ∧ W1 0 k H4) ∧ ∀ j k H, W1 j k H →
      (J1.stop j H ∧ ∃ m', m' < k ∧ W (i + 1) m' H) ∨ (J1.go j H ∧ ∃ Nx1 : Hp → Prop, (∀ H', Nx1 H' → ∃ k', k' < k ∧ W1 (j + 1) k' H') ∧ ∀ x H', J1.yld j H x H' → g1 x (wipe σ2 vs1) H' fun σ3 H5 => wipe σ3 vs1 = wipe σ2 vs1 ∧ tt1 σ3 H5 fun b H6 =>
        if b = true then te σ3 H6 fun y H7 => out y H7 Nx1 else Nx1 H6)
    else Nx H3)

theorem seg_loop2 {X' : Cx} {Aw : Around} {elt tg iter tg1 iter1 : Expr} {ifs ifs1 : List Expr} {scope : Scope} {pos : Pos} {it : Addr} {fp : List Addr} {tn : Nat → Heap → Prop} {J : It} {g g1 : TG} {tt tt1 : TT} {wi1 : TI} {te : TE} {σ : L2.St} {vs vs1 : List Nat}
    {out : V → Hp → (Hp → Prop) → Prop} {fin : Hp → Prop} {W : Nat → Nat → Hp → Prop}
    (T : Turn X'.prog X'.w X'.K tg J fp it tn) (hA : Aw.over (.compLoop (GE2 elt tg iter ifs tg1 iter1 ifs1 scope pos) 0 (.ref it) .none X'.env) [] = X'.A)
    (hg : PG X' tg g) (ht : PTs X' ifs tt) (hi1 : PI X' tg1 iter1 wi1) (hg1 : PG X' tg1 g1) (ht1 : PTs X' ifs1 tt1) (he : PE X' elt te) (hs1 : ∀ env x, foldedSetIterable iter1 env x = pure x)
    (hv : ∀ i ∈ vs1, i ∈ vs) (hc : X'.calm = true) (hxe : X'.xe = fun _ _ => False) (hex : X'.ex = fp) (hco : X'.env.scope.isCoroutine = false)
    (hpn : ∀ p ∈ X'.pn, ∀ b ∈ fp, p.1 ≠ b) (hW : TurnsY J g tt wi1 g1 tt1 te σ vs vs1 out fin W) :
    ∀ (m n i : Nat) (s₀ s : Shared) (H : Hp), m + 1 ≤ n → W i m H → Inv X' [] (wipe σ vs) H s → tn i s.heap → (∀ b ∈ fp, H b = none) →
      Seg (model X'.prog X'.w) Aw (Ry X' fin) (Yy X' out) n s₀ (.compLoop (GE2 elt tg iter ifs tg1 iter1 ifs1 scope pos) 0 (.ref it) .none X'.env)
        ((model X'.prog X'.w).den (.compLoop (GE2 elt tg iter ifs tg1 iter1 ifs1 scope pos) 0 (.ref it) .none X'.env)) [] s := by
  intro m
  induction m using Nat.strongRecOn with
  | ind m ih =>
    intro n i s₀ s H hmn w I st hf
    have stat : ∀ {σ' : L2.St} {H' : Hp} {s' : Shared}, Inv X' [] σ' H' s' → (∀ b ∈ fp, H' b = none) → ∀ b ∈ fp, FpOk X' [] H' b := fun {σ' H' s'} I' hn b hb => by
      have hb' : b ∈ X'.ex := by rw [hex]; exact hb
      refine ⟨hn b hb, (I'.ok.exf b hb').1, I'.ok.exfs b hb', .inl hb', fun x c e => (I'.ok.exf b hb').2 x c e, fun p hp => ?_⟩
      rcases List.mem_append.mp hp with hp | hp
      · exact hpn p hp b hb
      · exact absurd hp (by simp)
    show Seg _ Aw _ _ n s₀ _ ((compTurn (GE2 elt tg iter ifs tg1 iter1 ifs1 scope pos) 0 (.ref it) .none X'.env).onRaise (leaving X'.env)) [] s
    rw [compTurnG_out, Sem.onRaise_eq_wrap]
    refine seg_bind_wrap (wpAny_standAt ?_)
    have up : ∀ {β : Type} {t : Sem β} {Q Q' : β → Shared → Prop} {E' : Value → Shared → Prop} {s : Shared}, wpAny (model X'.prog X'.w) X'.A t Q (fun _ _ => False) s → (∀ x s, Q x s → Q' x s) → wpAny (model X'.prog X'.w) (Aw.over (.compLoop (GE2 elt tg iter ifs tg1 iter1 ifs1 scope pos) 0 (.ref it) .none X'.env) []) t Q' E' s :=
      fun h hQ => by rw [hA]; exact wpAny_mono h hQ fun _ _ z => False.elim z
    rcases hW i m H w with ⟨stop, hfin⟩ | ⟨go, Nx, hNx, step⟩
    · refine seg_bind_wrap (up (T.done X' rfl rfl rfl hc i [] s _ H (fun _ _ => False) I (stat I hf) st stop) fun r s1 ⟨hr, I1⟩ => ?_)
      subst hr
      exact seg_end (.ok .next) ⟨rfl, _, _, H, I1, hfin⟩
    · refine seg_bind_wrap (up (T.item X' rfl rfl rfl hc i [] s _ H (fun _ _ => False) I (stat I hf) st go) fun r s1 ⟨u, hr, h1⟩ => ?_)
      subst hr
      refine seg_bind_wrap (up h1 fun _ s2 ⟨x, H2, I2, r2, y2, st2, f2⟩ => ?_)
      have I2' := I2.pinned (stat I2 f2) (T.obj _ _ st2)
      have step := step x H2 y2
      have hxe' : ∀ {β : Type} {t : Sem β} {Q : β → Shared → Prop} {s : Shared}, wpAny (model X'.prog X'.w) X'.A t Q X'.xe s → wpAny (model X'.prog X'.w) X'.A t Q (fun _ _ => False) s := fun h => by rw [hxe] at h; exact h
      refine seg_bind_wrap (up (hxe' (hg.run _ s2 _ H2 x u _ I2' r2 step)) fun _ s3 ⟨σ3, H3, I3, hw3, q3⟩ => ?_)
      refine seg_bind_wrap (up (hxe' (ht.run _ s3 σ3 H3 _ I3 q3)) fun b s4 ⟨H4, I4, q4⟩ => ?_)
      have hl3 : (wipe σ vs).length = σ3.length := by rw [← hw3, wipe_length]
      have back : ∀ {s' : Shared} {H' : Hp} {σ' : L2.St}, Inv X' ([] ++ pinsAt fp s2.heap) σ' H' s' → σ'.length = σ3.length → (∀ j v, (wipe σ vs)[j]? = some (some v) → σ'[j]? = some (some v)) → Inv X' [] (wipe σ vs) H' s' ∧ tn (i + 1) s'.heap ∧ ∀ b ∈ fp, H' b = none := fun {s' H' σ'} I' hl' hk' => by
        have pin' : ∀ b ∈ fp, ∀ o, s2.heap.get? b = some o → s'.heap.get? b = some o ∧ H' b = none := fun b hb o e =>
          let z := I'.pin (b, o) (List.mem_append_right _ (List.mem_append_right _ (mem_pinsAt hb e)))
          ⟨z.1, z.2.1⟩
        refine ⟨(I'.unpinned (pins := [])).weak (hl3.trans hl'.symm) hk', T.keep _ _ _ st2 fun b hb o e => (pin' b hb o e).1, fun b hb => ?_⟩
        obtain ⟨o, e, _⟩ := T.obj _ _ st2 b hb
        exact (pin' b hb o e).2
      have hk3 : ∀ (j : Nat) v, (wipe σ vs)[j]? = some (some v) → σ3[j]? = some (some v) := fun j v e => by
        rw [← hw3] at e
        exact (wipe_some e).1
      cases b with
      | false =>
        simp only [Bool.false_eq_true, if_false] at q4 ⊢
        obtain ⟨m', hm, w'⟩ := hNx H4 q4
        obtain ⟨I5, st5, f5⟩ := back I4 rfl hk3
        exact seg_again rfl (ih m' hm n (i + 1) s₀ s4 H4 (by omega) w' I5 st5 f5)
      | true =>
        simp only [if_true] at q4 ⊢
        refine seg_bind_wrap (up (hxe' (hi1.run _ s4 σ3 H4 _ I4 q4)) fun xv s5 h5 => ?_)
        refine seg_bind_wrap (wpAny_standAt ?_)
        refine seg_bind_wrap (wpAny_of_eq (hs1 _ _) ?_)
        refine seg_bind_wrap (wpAny_holding (up (hxe' h5) fun itv s6 h6 => ?_))
        obtain ⟨it1, fp1, tn1, J1, H6, e1, I6, T1, st6, f6, W1, ⟨k1, hk1, w1⟩, turn1⟩ := h6
        subst e1
        have back1 : ∀ {s' : Shared} {H' : Hp}, Inv X' ([] ++ pinsAt fp s2.heap) (wipe σ3 vs1) H' s' → Inv X' [] (wipe σ vs) H' s' ∧ tn (i + 1) s'.heap ∧ ∀ b ∈ fp, H' b = none := fun {s' H'} I' =>
          back I' (wipe_length _ _) fun j v e => by
            rw [← hw3] at e
            obtain ⟨e1, e2⟩ := wipe_some e
            rw [wipe_out fun z => e2 (hv j z)]
            exact e1
        have stat1 : ∀ {H' : Hp}, (∀ b ∈ fp1, H' b = none) → ∀ b ∈ fp1, FpOk X' ([] ++ pinsAt fp s2.heap) H' b := fun hn b hb => ⟨hn b hb, (f6 b hb).2⟩
        refine seg_call (fun p => ?_)
        generalize hF : (Frame.ret _ _ _ _ _ p []) = F
        have hA1 : Aw.over (.compLoop (GE2 elt tg iter ifs tg1 iter1 ifs1 scope pos) 1 (.ref it1) .none X'.env) [F] = X'.A := by
          rw [← hA, ← hF]
          rfl
        have up1 : ∀ {β : Type} {t : Sem β} {Q Q' : β → Shared → Prop} {E' : Value → Shared → Prop} {s : Shared}, wpAny (model X'.prog X'.w) X'.A t Q (fun _ _ => False) s → (∀ x s, Q x s → Q' x s) → wpAny (model X'.prog X'.w) (Aw.over (.compLoop (GE2 elt tg iter ifs tg1 iter1 ifs1 scope pos) 1 (.ref it1) .none X'.env) [F]) t Q' E' s :=
          fun h hQ => by rw [hA1]; exact wpAny_mono h hQ fun _ _ z => False.elim z
        have inner : ∀ (k n' j : Nat) (s₀ s : Shared) (H : Hp), k < m → k + 1 ≤ n' → W1 j k H → Inv X' ([] ++ pinsAt fp s2.heap) (wipe σ3 vs1) H s → tn1 j s.heap → (∀ b ∈ fp1, H b = none) →
            Seg (model X'.prog X'.w) Aw (Ry X' fin) (Yy X' out) n' s₀ (.compLoop (GE2 elt tg iter ifs tg1 iter1 ifs1 scope pos) 1 (.ref it1) .none X'.env)
              ((model X'.prog X'.w).den (.compLoop (GE2 elt tg iter ifs tg1 iter1 ifs1 scope pos) 1 (.ref it1) .none X'.env)) [F] s := by
          intro k
          induction k using Nat.strongRecOn with
          | ind k ih1 =>
            intro n' j s₀ s H hkm hkn w I st hf
            show Seg _ Aw _ _ n' s₀ _ ((compTurn (GE2 elt tg iter ifs tg1 iter1 ifs1 scope pos) 1 (.ref it1) .none X'.env).onRaise _) [F] s
            rw [compTurnG_in, Sem.onRaise_eq_wrap]
            refine seg_bind_wrap (wpAny_standAt ?_)
            rcases turn1 j k H w with ⟨stop, m', hm', w'⟩ | ⟨go, Nx1, hNx1, step1⟩
            · refine seg_bind_wrap (up1 (T1.done X' rfl rfl rfl hc j _ s _ H (fun _ _ => False) I (stat1 hf) st stop) fun r s7 ⟨hr, I7⟩ => ?_)
              subst hr
              obtain ⟨I8, st8, f8⟩ := back1 I7
              subst hF
              refine seg_leaf (.ok .next) ?_
              exact seg_again rfl (ih m' (by omega) n' (i + 1) s₀ s7 H (by omega) w' I8 st8 f8)
            · refine seg_bind_wrap (up1 (T1.item X' rfl rfl rfl hc j _ s _ H (fun _ _ => False) I (stat1 hf) st go) fun r s7 ⟨u1, hr, h7⟩ => ?_)
              subst hr
              refine seg_bind_wrap (up1 h7 fun _ s8 ⟨x1, H8, I8, r8, y8, st8, f8⟩ => ?_)
              have I8' := I8.pinned (stat1 f8) (T1.obj _ _ st8)
              refine seg_bind_wrap (up1 (hxe' (hg1.run _ s8 _ H8 x1 u1 _ I8' r8 (step1 x1 H8 y8))) fun _ s9 ⟨σ9, H9, I9, hw9, q9⟩ => ?_)
              refine seg_bind_wrap (up1 (hxe' (ht1.run _ s9 σ9 H9 _ I9 q9)) fun b s10 ⟨H10, I10, q10⟩ => ?_)
              have out1 : ∀ {s' : Shared} {H' : Hp}, Inv X' (([] ++ pinsAt fp s2.heap) ++ pinsAt fp1 s8.heap) σ9 H' s' → Inv X' ([] ++ pinsAt fp s2.heap) (wipe σ3 vs1) H' s' ∧ tn1 (j + 1) s'.heap ∧ ∀ b ∈ fp1, H' b = none := fun {s' H'} I' => by
                have pin' : ∀ b ∈ fp1, ∀ o, s8.heap.get? b = some o → s'.heap.get? b = some o ∧ H' b = none := fun b hb o e =>
                  let z := I'.pin (b, o) (List.mem_append_right _ (List.mem_append_right _ (mem_pinsAt hb e)))
                  ⟨z.1, z.2.1⟩
                refine ⟨I'.unpinned.weak (by rw [← hw9, wipe_length]) (fun j v e => by rw [← hw9] at e; exact (wipe_some e).1), T1.keep _ _ _ st8 fun b hb o e => (pin' b hb o e).1, fun b hb => ?_⟩
                obtain ⟨o, e, _⟩ := T1.obj _ _ st8 b hb
                exact (pin' b hb o e).2
              cases b with
              | false =>
                simp only [Bool.false_eq_true, if_false] at q10 ⊢
                obtain ⟨k', hk', w'⟩ := hNx1 H10 q10
                obtain ⟨I11, st11, f11⟩ := out1 I10
                exact seg_again rfl (ih1 k' hk' n' (j + 1) s₀ s10 H10 (by omega) (by omega) w' I11 st11 f11)
              | true =>
                simp only [if_true] at q10 ⊢
                have hy : ∀ v, yieldOut X'.env v = yieldValue v := fun v => by simp only [yieldOut, hco, Bool.false_eq_true, if_false]
                simp only [hy]
                rw [Sem.bind_eq_wrap', Sem.bind_eq_wrap', Sem.wrap_wrap, Sem.wrap_wrap]
                refine seg_wrap (up1 (hxe' (he.run _ s10 σ9 H10 _ I10 q10)) fun yv s11 ⟨y, H11, I11, r11, q11⟩ => ?_)
                obtain ⟨n', rfl⟩ : ∃ n'', n' = n'' + 1 := ⟨n' - 1, by omega⟩
                refine seg_at (seg_yield (by rw [← hF]; rfl) rfl (by rw [← hF]; rfl) ⟨_, y, H11, _, Nx1, r11, I11, q11, fun s'' nx hh I'' => ?_⟩)
                obtain ⟨k', hk', w'⟩ := hNx1 H11 nx
                obtain ⟨I12, st12, f12⟩ := out1 I''
                exact seg_again rfl (ih1 k' hk' n' (j + 1) s'' s'' H11 (by omega) (by omega) w' I12 st12 f12)
        have beg := inner k1 n 0 s₀ s6 H6 hk1 (by omega) w1 (I6.weak (wipe_length _ _) (fun j v e => (wipe_some e).1)) st6 (fun b hb => (f6 b hb).1)
        show Seg _ Aw _ _ _ s₀ _ ((compStart (GE2 elt tg iter ifs tg1 iter1 ifs1 scope pos) 1 (.ref it1) .none X'.env).onRaise _) [F] s6
        unfold compStart
        rw [Sem.onRaise_eq_wrap]
        show Seg _ Aw _ _ _ s₀ _ ((ask >>= _).wrap _ _ _ _) [F] s6
        refine seg_bind_wrap (wpAny_askSetting ?_)
        split
        · exact seg_again rfl beg
        · first
            | exact seg_bind_wrap (wpAny_rule (seg_bind_wrap (wpAny_standAt (seg_bind_wrap (T1.self _ 0 s6 _ _ st6 (seg_again rfl beg))))))
            | (refine seg_bind_wrap (wpAny_rule ?_); show Seg _ Aw _ _ _ s₀ _ ((standAt iter1.pos >>= _).wrap _ _ _ _) [F] s6; exact seg_bind_wrap (wpAny_standAt (seg_bind_wrap (T1.self _ 0 s6 _ _ st6 (seg_again rfl beg)))))
end Gx
end
section
set_option Elab.async false
set_option linter.all false
set_option maxRecDepth 100000
set_option maxHeartbeats 4000000
namespace Gx
open PySem PySem.Spec PyProof.Rows L2 GxR GenW

theorem seg_begin2 {X' : Cx} {Aw : Around} {elt tg iter tg1 iter1 : Expr} {ifs ifs1 : List Expr} {scope : Scope} {pos : Pos} {it : Addr} {fp : List Addr} {tn : Nat → Heap → Prop} {J : It} {R : GenEnd} {Y : Protocol} {n : Nat} {s₀ s : Shared}
    (T : Turn X'.prog X'.w X'.K tg J fp it tn) (st : tn 0 s.heap)
    (h : Seg (model X'.prog X'.w) Aw R Y n s₀ (.compLoop (GE2 elt tg iter ifs tg1 iter1 ifs1 scope pos) 0 (.ref it) .none X'.env) ((model X'.prog X'.w).den (.compLoop (GE2 elt tg iter ifs tg1 iter1 ifs1 scope pos) 0 (.ref it) .none X'.env)) [] s) :
    Seg (model X'.prog X'.w) Aw R Y n s₀ (.compStart (GE2 elt tg iter ifs tg1 iter1 ifs1 scope pos) 0 (.ref it) .none X'.env) ((model X'.prog X'.w).den (.compStart (GE2 elt tg iter ifs tg1 iter1 ifs1 scope pos) 0 (.ref it) .none X'.env)) [] s := by
  show Seg _ Aw _ _ _ s₀ _ ((compStart (GE2 elt tg iter ifs tg1 iter1 ifs1 scope pos) 0 (.ref it) .none X'.env).onRaise (leaving X'.env)) [] s
  unfold compStart
  rw [Sem.onRaise_eq_wrap]
  show Seg _ Aw _ _ _ s₀ _ ((ask >>= _).wrap _ _ _ _) [] s
  refine seg_bind_wrap (wpAny_askSetting ?_)
  split
  · exact seg_again rfl h
  · first
      | exact seg_bind_wrap (wpAny_rule (seg_bind_wrap (wpAny_standAt (seg_bind_wrap (T.self _ 0 s _ _ st (seg_again rfl h))))))
      | (refine seg_bind_wrap (wpAny_rule ?_); show Seg _ Aw _ _ _ s₀ _ ((standAt iter.pos >>= _).wrap _ _ _ _) [] s; exact seg_bind_wrap (wpAny_standAt (seg_bind_wrap (T.self _ 0 s _ _ st (seg_again rfl h)))))

theorem eval_GE2 (elt t0 i0 t1 i1 : Expr) (if0 if1 : List Expr) (scope : Scope) (pos : Pos) (env : Env) (hco : scope.isCoroutine = false) :
    eval (GE2 elt t0 i0 if0 t1 i1 if1 scope pos) env = (eval i0 env >>= fun x => standAt i0.pos >>= fun _ => genFold i0 env x >>= fun x => holding [x] (pyIter x) >>= fun it => enterFrame >>= fun _ => closureFor scope env >>= fun cl => genexprCode env pos (env.qual ++ "<genexpr>") scope >>= fun code =>
      builtinsFor env.globals env.builtins >>= fun bi => newFunctionEnv scope env.globals cl [(".0", it)] (env.qual ++ "<genexpr>.") none code none bi >>= fun cenv => newGenerator (.compStart (GE2 elt t0 i0 if0 t1 i1 if1 scope pos) 0 it .none cenv) "<genexpr>" (env.qual ++ "<genexpr>")) := by
  rw [arm_eval_GeneratorExp]
  simp only [hco, Bool.false_eq_true, if_false]
  cases i0 <;> rfl
theorem make_GE2 {M : Model} {A : Around} {E : Value → Shared → Prop} {s : Shared} {env : Env} {elt t0 i0 t1 i1 : Expr} {if0 if1 : List Expr} {scope : Scope} {cl : List (Str × Addr)} {pos : Pos} {Q : Value → Shared → Prop}
    (hco : scope.isCoroutine = false) (hclos : closureFor scope env = pure cl) (hcell : ∀ y ∈ scope.names, y.2 ≠ .cell) (h0 : scope.names.lookup (".0" : Str) = some NameKind.local) (hkind : scope.kind = .function) (hroom : A.depth < recursionLimit)
    (h : wpAny M A (eval i0 env) (fun xv s₁ => wpAny M A (pyIter xv) (fun it s₂ => s₂.heap.NoLimit ∧ wpAny M A (genexprCode env pos (env.qual ++ "<genexpr>") scope) (fun code s₃ => wpAny M A (builtinsFor env.globals env.builtins) (fun bi s₄ =>
      ∀ h', h'.Ns s₄.heap.objs.size (fun y => if y = ".0" then some it else none) → Heap.SameBut s₄.heap.objs.size (s₄.heap.push { cls := .type "frame", data := .dict #[] }) h' → Q (.ref h'.objs.size) { s₄ with gens := s₄.gens.push (.fresh (.compStart (GE2 elt t0 i0 if0 t1 i1 if1 scope pos) 0 it .none (genEnv scope cl s₄.heap.objs.size code bi env))), toks := s₄.toks + 1 + 1 + 1, heap := h'.push { cls := .type "generator", data := .fields #[.int s₄.gens.size 0, .str "<genexpr>" (s₄.toks + 1), .str (env.qual ++ "<genexpr>") (s₄.toks + 1 + 1)] } }) E s₃) E s₂) E s₁) E s)
    (hs : ∀ x, genFold i0 env x = pure x) : wpAny M A (eval (GE2 elt t0 i0 if0 t1 i1 if1 scope pos) env) Q E s := by
  rw [eval_GE2 _ _ _ _ _ _ _ _ _ _ hco, hclos]
  refine wpAny_bind (wpAny_mono h (fun xv a h1 => wpAny_bind (wpAny_standAt (wpAny_bind (wpAny_of_eq (hs xv) (wpAny_bind (wpAny_holding (wpAny_mono h1 (fun it b h2 => wpAny_bind (wpAny_enterFrame h2.1 hroom (wpAny_bind (wpAny_pure (wpAny_bind (wpAny_mono h2.2 (fun code d h3 => wpAny_bind (wpAny_mono h3 (fun bi e h4 => ?_) fun _ _ z => z)) fun _ _ z => z)))))) fun _ _ z => z))))))) fun _ _ z => z)
  have hb : ∀ y ∈ ([((".0" : Str), it)] : List (Str × Value)), scope.names.lookup y.1 = some NameKind.local := fun y hy => by
    have : y = ((".0" : Str), it) := by simpa using hy
    rw [this]; exact h0
  refine wpAny_bind (wpAny_newFunctionEnv hcell hb (fun h' hn hs' => ?_) hkind)
  have q : (fun y : Str => ([((".0" : Str), it)] : List (Str × Value)).reverse.lookup y) = fun y : Str => if y = (".0" : Str) then some it else none := by
    funext y
    by_cases hy : y = (".0" : Str)
    · rw [hy]; simp
    · have : (y == (".0" : Str)) = false := by simpa using hy
      simp [List.lookup, this, hy]
  rw [q] at hn
  simp only [newGenerator, newFields]
  exact wpAny_bind (wpAny_newGen (wpAny_bind (wpAny_mkText (wpAny_bind (wpAny_mkText (wpAny_newObj_type (h4 h' hn hs') (by size_fits)))))))
structure GD2 where
  X : Cx
  Aw : Around
  out : V → Hp → (Hp → Prop) → Prop
  fin : Hp → Prop
  a : Addr
  g : Nat
def GD2.At (D : GD2) (n : Nat) (s : Shared) : Prop :=
  ∃ gs ps σ H, s.gens[D.g]? = some gs ∧ Inv D.X ps σ H s ∧ ∀ s'', s''.heap = s.heap → Inv D.X ps σ H s'' → gs.Goes (model D.X.prog D.X.w) D.Aw (Ry D.X D.fin) (Yy D.X D.out) n (.send .none) s''
def GD2.Pinned (D : GD2) : Prop := ∀ ps σ H s, Inv D.X ps σ H s → s.heap.IsGen D.a D.g
theorem pull2 {D : GD2} {A : Around} {E : Value → Shared → Prop} {Q : Option Value → Shared → Prop} {n : Nat} {s : Shared} (hAw : D.Aw = A.in1) (hh : A.handled = none) (hroom : A.depth < recursionLimit) (hP : D.Pinned)
    (h : D.At n s)
    (hY : ∀ ps σ y v H1 s1 (Nx : Hp → Prop), RelV y v → Inv D.X ps σ H1 s1 → D.out y H1 Nx → (Nx H1 → ∃ n', n' < n ∧ D.At n' s1) → Q (some v) s1)
    (hR : ∀ ps σ H1 s1, Inv D.X ps σ H1 s1 → D.fin H1 → Q none s1) :
    wpAny (model D.X.prog D.X.w) A (pyNext (.ref D.a)) Q E s := by
  obtain ⟨gs, ps, σ, H, hgs, I, sl⟩ := h
  have hlt : D.g < s.gens.size := by
    rcases Nat.lt_or_ge D.g s.gens.size with z | z
    · exact z
    · rw [Array.getElem?_eq_none z] at hgs; cases hgs
  have hbare : ∀ {s1 : Shared} {gs' : GenState}, AllBare s1.gens → gs'.bare = true → AllBare (s1.setGen D.g gs').gens := fun h1 h2 => allBare_setGen h1 h2
  refine wpAny_gsz (n := s.gens.size) (Nat.le_refl _) ?_
  refine wpAny_pyNext_genexpQ (P := fun _ s₀ s => ∃ ps σ H, Inv D.X ps σ H s ∧ D.fin H) (Y := Yy D.X D.out) (n := n) hh I.nolimit hroom (hP _ _ _ _ I) hgs ?_ (fun v s1 gs' hb hv => ?_) (fun s1 hp h' hk' => ?_)
  · rw [← hAw]
    exact sl _ rfl (inv_gens (t' := s.toks) (d' := s.drawn) I (hbare I.bare rfl))
  · obtain ⟨ps1, y, H1, σ1, Nx, ry, I1, ho, kap⟩ := hv
    intro hsz
    have I1' : Inv D.X ps1 σ1 H1 (s1.setGen D.g gs') := inv_gens (t' := s1.toks) (d' := s1.drawn) I1 (hbare I1.bare hb)
    refine hY ps1 σ1 y v H1 _ Nx ry I1' ho fun nx => ?_
    cases n with
    | zero =>
      exact False.elim (kap (s1.setGen D.g gs') nx rfl I1')
    | succ m =>
      refine ⟨m, Nat.lt_succ_self m, gs', ps1, σ1, H1, ?_, I1', fun s3 e3 I3 => ?_⟩
      · refine setGen_at ?_
        have q : (s1.setGen D.g gs').gens.size = s1.gens.size := setGen_size _ _ _
        have hsz' : s.gens.size ≤ (s1.setGen D.g gs').gens.size := hsz
        omega
      · have := kap s3 nx e3 I3
        rw [hAw]
        exact this
  · intro _
    obtain ⟨ps1, σ1, H1, I1, hf⟩ := hp
    have I2 : Inv D.X ps1 σ1 H1 { s1 with heap := h' } := I1.kept (t' := s1.toks) hk'
    exact hR ps1 σ1 H1 _ (inv_gens (t' := s1.toks) (d' := s1.drawn) I2 (hbare I1.bare rfl)) hf
section
variable {D : GD2} {A : Around} {R : Result → Shared → Prop}
theorem all_loop2 (Qb : Bool → Hp → Prop) (hAw : D.Aw = A.in1.in1) (hh : A.handled = none) (hroom : A.depth < recursionLimit) (hP : D.Pinned)
    (ho : ∀ y H Nx, D.out y H Nx → ∃ k, y = .bl k ∧ if k = true then Nx H else Qb false H) (hf : ∀ H, D.fin H → Qb true H)
    (hR : ∀ b ps σ H s', Inv D.X ps σ H s' → Qb b H → R (.ok (.ret (.bool b))) s') :
    ∀ (n : Nat) (s : Shared), D.At n s → codeAny (model D.X.prog D.X.w) A (.builtin "all.loop" ⟨[.ref D.a], []⟩) R s := by
  intro n
  induction n using Nat.strongRecOn with
  | ind n ih =>
    intro s hs
    refine codeAny_builtin F.entry_all_loop ?_
    rw [Around.under_plainId F.plain_all_loop _]
    show wpAny _ A.in1 (pyNext (.ref D.a) >>= _) _ _ s
    refine wpAny_bind (pull2 hAw hh hroom hP hs (fun ps σ y v H1 s1 Nx ry I1 o1 kap => ?_) (fun ps σ H1 s1 I1 f1 => ?_))
    · obtain ⟨k, rfl, o2⟩ := ho _ _ _ o1
      obtain rfl : v = Value.bool k := ry
      refine wpAny_bind (wpAny_holding (wpAny_truthy_bool ?_))
      refine wpAny_bind (wpAny_letGo ?_)
      cases k with
      | true =>
        simp only [Bool.false_eq_true, if_true, if_false, reduceCtorEq] at o2 ⊢
        obtain ⟨n', hn, hs'⟩ := kap o2
        exact wpAny_pure ⟨plainId_quiet F.plain_all_loop _, ih n' hn s1 hs'⟩
      | false =>
        simp only [Bool.false_eq_true, if_true, if_false, reduceCtorEq] at o2 ⊢
        exact wpAny_bind (wpAny_rule (wpAny_pure (hR false ps σ H1 s1 I1 o2)))
    · exact wpAny_bind (wpAny_rule (wpAny_pure (hR true ps σ H1 s1 I1 (hf _ f1))))
theorem any_loop2 (Qb : Bool → Hp → Prop) (hAw : D.Aw = A.in1.in1) (hh : A.handled = none) (hroom : A.depth < recursionLimit) (hP : D.Pinned)
    (ho : ∀ y H Nx, D.out y H Nx → ∃ k, y = .bl k ∧ if k = true then Qb true H else Nx H) (hf : ∀ H, D.fin H → Qb false H)
    (hR : ∀ b ps σ H s', Inv D.X ps σ H s' → Qb b H → R (.ok (.ret (.bool b))) s') :
    ∀ (n : Nat) (s : Shared), D.At n s → codeAny (model D.X.prog D.X.w) A (.builtin "any.loop" ⟨[.ref D.a], []⟩) R s := by
  intro n
  induction n using Nat.strongRecOn with
  | ind n ih =>
    intro s hs
    refine codeAny_builtin F.entry_any_loop ?_
    rw [Around.under_plainId F.plain_any_loop _]
    show wpAny _ A.in1 (pyNext (.ref D.a) >>= _) _ _ s
    refine wpAny_bind (pull2 hAw hh hroom hP hs (fun ps σ y v H1 s1 Nx ry I1 o1 kap => ?_) (fun ps σ H1 s1 I1 f1 => ?_))
    · obtain ⟨k, rfl, o2⟩ := ho _ _ _ o1
      obtain rfl : v = Value.bool k := ry
      refine wpAny_bind (wpAny_holding (wpAny_truthy_bool ?_))
      refine wpAny_bind (wpAny_letGo ?_)
      cases k with
      | false =>
        simp only [Bool.false_eq_true, if_true, if_false, reduceCtorEq] at o2 ⊢
        obtain ⟨n', hn, hs'⟩ := kap o2
        exact wpAny_pure ⟨plainId_quiet F.plain_any_loop _, ih n' hn s1 hs'⟩
      | true =>
        simp only [Bool.false_eq_true, if_true, if_false, reduceCtorEq] at o2 ⊢
        exact wpAny_bind (wpAny_rule (wpAny_pure (hR true ps σ H1 s1 I1 o2)))
    · exact wpAny_bind (wpAny_rule (wpAny_pure (hR false ps σ H1 s1 I1 (hf _ f1))))
end
structure Made2 (X : Cx) (pins : List (Addr × Obj)) (σ : L2.St) (out : V → Hp → (Hp → Prop) → Prop) (fin : Hp → Prop) (X' : Cx) (Aw : Around) (a : Addr) (g n : Nat) (s5 : Shared) : Prop where
  prog : X'.prog = X.prog
  w : X'.w = X.w
  gen : s5.heap.IsGen a g
  pinned : ∀ ps σ H s, Inv X' ps σ H s → s.heap.IsGen a g
  back : ∀ ps σ' H s, Inv X' ps σ' H s → Inv X pins σ H s
  go : (GD2.mk X' Aw out fin a g).At n s5
section
variable {X : Cx} {pins : List (Addr × Obj)} {σ : L2.St} {H : Hp} {s : Shared}
theorem gen_made2 {c P : Addr} {elt tg iter tg1 iter1 : Expr} {ifs ifs1 : List Expr} {scope : Scope} {own : List (Str × Nat)} {gpos : Pos} {wi wi1 : TI} {g g1 : TG} {tt tt1 : TT} {te : TE} {vs1 : List Nat} {k : Nat} {Q' : Value → Shared → Prop} (out : V → Hp → (Hp → Prop) → Prop) (fin : Hp → Prop)
    (hr : Room (k + 1) X.A) (hc : X.calm = true) (hN : X.N.Nodup) (TB : TabB X.base X.mg c P) (hcode : X.env.code = .ref c) (ok : BlkOk X.N X.env.scope scope own) (hnc : ∀ y ∈ scope.names, y.2 ≠ .cell) (hdot : scope.names.lookup (".0" : Str) = some NameKind.local) (hco : scope.isCoroutine = false)
    (hi : PI X tg iter wi)
    (hg : ∀ s H C code fp A' pn, Room k A' → PG (Cxg X s H (gEnv X scope C code) fp A' pn) tg g) (ht : ∀ s H C code fp A' pn, Room k A' → PTs (Cxg X s H (gEnv X scope C code) fp A' pn) ifs tt) (he : ∀ s H C code fp A' pn, Room k A' → PE (Cxg X s H (gEnv X scope C code) fp A' pn) elt te)
    (hi1 : ∀ s H C code fp A' pn, Room k A' → PI (Cxg X s H (gEnv X scope C code) fp A' pn) tg1 iter1 wi1) (hg1 : ∀ s H C code fp A' pn, Room k A' → PG (Cxg X s H (gEnv X scope C code) fp A' pn) tg1 g1) (ht1 : ∀ s H C code fp A' pn, Room k A' → PTs (Cxg X s H (gEnv X scope C code) fp A' pn) ifs1 tt1) (hs1 : ∀ env x, foldedSetIterable iter1 env x = pure x) (hv : ∀ i ∈ vs1, i ∈ own.map (·.2))
    (hs : ∀ v, genFold iter X.env v = pure v) (I : Inv X pins σ H s)
    (h : wi σ H fun J H1 => TabG H1 P ∧ ∀ H2, Tabbed P H1 H2 → ∃ W : Nat → Nat → Hp → Prop, (∃ m, W 0 m H2) ∧ TurnsY J g tt wi1 g1 tt1 te σ (own.map (·.2)) vs1 out fin W)
    (hQ : ∀ X' a g n s5, Made2 X pins σ out fin X' X.A.in1.in1 a g n s5 → Q' (.ref a) s5) :
    wpAny (model X.prog X.w) X.A (eval (GE2 elt tg iter ifs tg1 iter1 ifs1 scope gpos) X.env) Q' X.xe s := by
  have hfree : ∀ y ∈ scope.names, y.2 = .free → ∃ c, X.env.cells.lookup y.1 = some c := fun y hy e => by
    rcases ok.free y hy e with k | k
    · exact I.ok.has _ (.inl k)
    · exact I.ok.has _ (.inr k)
  refine make_GE2 hco (closure_ok hfree) hnc hdot ok.kind (by have := hr.dp; omega) ?_ hs
  refine thn (hi.run pins s σ H _ I h) fun xv s1 hx => thn hx fun itv s2 h2 => ?_
  obtain ⟨it, fp, tn, J, H2, e, I2, T, st2, f2, ⟨⟨ps, hP, ht3⟩, q⟩⟩ := h2
  subst e
  refine ⟨I2.nolimit, ?_⟩
  have hPs : s2.heap.get? P = some { cls := .none, data := .fields ps } := I2.hok P _ hP
  have cd : PySem.W.CodeHd s2.heap c P := TB.code.keeps fun b u e => I2.bk b u e
  have fpP : ∀ b ∈ fp, b ≠ P := fun b hb z => by
    have := (f2 b hb).1
    rw [z, hP] at this
    cases this
  have sz : ∀ b ∈ fp, b < s2.heap.objs.size := fun b hb => by
    obtain ⟨o, e, _⟩ := T.obj _ _ st2 b hb
    exact Heap.lt_size e
  have cont : ∀ (code : Value) (h3 : Heap) (tk : Nat) (ps' : Array Value), Heap.ExtBut P s2.heap h3 → s2.heap.objs.size ≤ h3.objs.size → h3.get? P = some { cls := .none, data := .fields ps' } → (∃ more, ps' = ps ++ more) → TriplesOk ps'.toList →
      wpAny (model X.prog X.w) X.A (builtinsFor X.env.globals X.env.builtins) (fun bi s₄ =>
        ∀ h', h'.Ns s₄.heap.objs.size (fun y => if y = ".0" then some (Value.ref it) else none) → Heap.SameBut s₄.heap.objs.size (s₄.heap.push { cls := .type "frame", data := .dict #[] }) h' →
          Q' (.ref h'.objs.size) { s₄ with
            gens := s₄.gens.push (.fresh (.compStart (GE2 elt tg iter ifs tg1 iter1 ifs1 scope gpos) 0 (.ref it) .none (genEnv scope (cloFrom X.env.cells scope.names []) s₄.heap.objs.size code bi X.env))),
            toks := s₄.toks + 1 + 1 + 1,
            heap := h'.push { cls := .type "generator", data := .fields #[.int s₄.gens.size 0, .str "<genexpr>" (s₄.toks + 1), .str (X.env.qual ++ "<genexpr>") (s₄.toks + 1 + 1)] } }) X.xe { s2 with heap := h3, toks := tk } := by
    intro code h3 tk ps' hx hsz hP3 hmore htr
    obtain ⟨more, rfl⟩ := hmore
    obtain ⟨bm, ob, e1, e2, e3, e4, e5, e6, e7, e8⟩ := TB.bm
    have keep3 : ∀ b u, b ≠ P → s2.heap.get? b = some u → h3.get? b = some u := fun b u hb e => hx b u hb e
    refine wpAny_builtinsFor (m := X.mg) (by rw [I2.ok.glob]; exact (I2.mod.glob.keeps I2.bk).extBut hx TB.gP) e1 e2 (keep3 _ _ e4 (I2.bk _ _ e5)) e6 e7 e8 ?_
    have I4 := inv_tab (more := more) (h' := h3) (g' := s2.gens) (d' := s2.drawn) (t' := tk) I2 hP keep3 hP3 I2.bare
    have hTab : Tabbed P H2 (upd H2 P (.tbl (ps ++ more))) := ⟨⟨_, upd_same, htr⟩, fun b hb => upd_ne hb⟩
    generalize hH4 : upd H2 P (.tbl (ps ++ more)) = H4 at I4 hTab
    generalize hs4 : ({ s2 with heap := h3, gens := s2.gens, drawn := s2.drawn, toks := tk } : Shared) = s4 at I4
    intro h' hn' hs'
    have hh3 : s4.heap = h3 := by rw [← hs4]
    have hsz' : h'.objs.size = s4.heap.objs.size + 1 := by rw [hs'.1, Heap.size_push]
    have keep' : ∀ b o, s4.heap.get? b = some o → h'.get? b = some o := fun b o e => hs'.extBut b o (Nat.ne_of_lt (Heap.lt_size e)) (Heap.get?_push_of_some _ e)
    have f4 : ∀ b ∈ fp, FpOk X pins H4 b ∧ b < s4.heap.objs.size := fun b hb => by
      refine ⟨⟨?_, (f2 b hb).2⟩, ?_⟩
      · rw [← hH4, upd_ne (fpP b hb)]; exact (f2 b hb).1
      · rw [hh3]; exact Nat.lt_of_lt_of_le (sz b hb) hsz
    have st4 : tn 0 s4.heap := T.keep _ _ _ st2 fun b hb o e => by rw [hh3]; exact keep3 b o (fpP b hb) e
    obtain ⟨W, ⟨m0, w0⟩, tw⟩ := q H4 hTab
    generalize hgo : ({ cls := .type "generator", data := .fields #[.int s4.gens.size 0, .str "<genexpr>" (s4.toks + 1), .str (X.env.qual ++ "<genexpr>") (s4.toks + 1 + 1)] } : Obj) = go
    have hgd : ∀ v, go.data ≠ .cell v := fun v z => by rw [← hgo] at z; cases z
    have hgen : ∀ hh : Heap, hh.get? h'.objs.size = some go → hh.IsGen h'.objs.size s4.gens.size := fun hh e => ⟨go, _, _, e, by rw [← hgo], by rw [← hgo], by rw [← hgo]⟩
    generalize hs5 : ({ s4 with gens := s4.gens.push (.fresh (.compStart (GE2 elt tg iter ifs tg1 iter1 ifs1 scope gpos) 0 (.ref it) .none (genEnv scope (cloFrom X.env.cells scope.names []) s4.heap.objs.size code builtinsNs X.env))), toks := s4.toks + 1 + 1 + 1, heap := h'.push go } : Shared) = s5
    have h5 : s5.heap = h'.push go := by rw [← hs5]
    have g5 : s5.gens = s4.gens.push (.fresh (.compStart (GE2 elt tg iter ifs tg1 iter1 ifs1 scope gpos) 0 (.ref it) .none (gEnv X scope s4.heap.objs.size code))) := by rw [← hs5]
    have k5 : ∀ b o, s4.heap.get? b = some o → s5.heap.get? b = some o := fun b o e => by rw [h5]; exact Heap.get?_push_of_some _ (keep' b o e)
    have b5 : AllBare s5.gens := by rw [g5]; exact AllBare.push I4.bare rfl
    have o5 : s5.os = s4.os := by rw [← hs5]
    have n5 : s5.heap.Ns s4.heap.objs.size (fun y => if y = ".0" then some (Value.ref it) else none) := by rw [h5]; exact hn'.push _
    have go5 : s5.heap.get? (s4.heap.objs.size + 1) = some go := by rw [h5, ← hsz']; exact Heap.get?_push_size _ (by rw [← hgo]; rfl)
    have ge5 : s5.heap.get? h'.objs.size = some go := by rw [hsz']; exact go5
    -- the around of its turns
    generalize hA' : X.A.in1.in1.over (.compLoop (GE2 elt tg iter ifs tg1 iter1 ifs1 scope gpos) 0 (.ref it) .none (gEnv X scope s4.heap.objs.size code)) [] = A'
    have frA : A'.frames = some (gEnv X scope s4.heap.objs.size code :: X.stack) := by
      rw [← hA']
      show pushEnvs [gEnv X scope s4.heap.objs.size code] (pushEnvs [] X.A.frames) = _
      rw [I4.ok.frames]
      rfl
    have hdA : A'.handled = none := by
      rw [← hA']
      exact hr.hd
    have rA : Room k A' := by
      rw [← hA']
      refine ⟨hr.hd, ?_, ?_⟩
      · have := hr.dp
        show X.A.depth + 0 + 1 + 3 * k + 5 < _
        omega
      · have := hr.un
        show X.A.units + 1 + 1 + 0 + 3 + 16 * k + 200 < _
        omega
    have mk : ∀ {s6 : Shared}, (∀ b o, s5.heap.get? b = some o → s6.heap.get? b = some o) → s6.gens = s5.gens → s6.os = s5.os →
        Inv (Cxg X s4 H4 (gEnv X scope s4.heap.objs.size code) fp A' [(s4.heap.objs.size + 1, go)]) [] (wipe σ (own.map (·.2))) H4 s6 := fun {s6} hk6 hg6 ho6 =>
      gen_start I4 ok hN hnc f4 frA (fun _ => hdA) (fun b o e => hk6 b o (k5 b o e)) (ho6.trans o5) (by rw [hg6]; exact b5) (Heap.Ns.keeps n5 hk6) (hk6 _ _ go5) hgd
    have sz5 : s5.heap.objs.size = s4.heap.objs.size + 2 := by rw [h5, Heap.size_push, hsz']
    have cellO : ∀ x c, (gEnv X scope s4.heap.objs.size code).cells.lookup x = some c → c < s4.heap.objs.size := fun x c e => by
      have I5 := mk (s6 := s5) (fun _ _ e => e) rfl rfl
      rcases cloFrom_mem (PySem.mem_of_lookup (show (cloFrom X.env.cells scope.names []).lookup x = some c from e)) with hm | ⟨h1, rfl⟩
      · cases hm
      · obtain ⟨c, hc⟩ := hfree _ h1 rfl
        rw [hc]
        obtain ⟨w, z⟩ := I4.cell _ _ hc
        exact z.lt
    refine hQ (Cxg X s4 H4 (gEnv X scope s4.heap.objs.size code) fp A' [(s4.heap.objs.size + 1, go)]) h'.objs.size s4.gens.size (m0 + 1) s5 ⟨rfl, rfl, hgen _ ge5, fun ps σ' H s' I' => ?_, fun ps σ' H s' I' => ?_, ?_⟩
    · have := (I'.pin (s4.heap.objs.size + 1, go) (List.mem_append_left _ (List.mem_singleton.mpr rfl))).1
      refine hgen _ ?_
      rw [hsz']
      exact this
    · exact I4.call' (ch := fp) I'.os I'.base I'.hok I'.bare fun b hb => ⟨(f4 b hb).1.2.2.2.1, (f4 b hb).1.2.1, (f4 b hb).1.2.2.2.2.1, (f4 b hb).1.2.2.2.2.2⟩
    · have I6 := mk (s6 := s5) (fun _ _ e => e) rfl rfl
      have st6 : tn 0 s5.heap := T.keep _ _ _ st4 fun b _ o e => k5 b o e
      have fnone : ∀ b ∈ fp, H4 b = none := fun b hb => (f4 b hb).1.1
      refine ⟨_, [], _, H4, by rw [g5]; exact Array.getElem?_push_size .., I6, fun s7 e7 I7 => ?_⟩
      have st7 : tn 0 s7.heap := by rw [e7]; exact st6
      refine ⟨rfl, seg_begin2 (X' := Cxg X s4 H4 (gEnv X scope s4.heap.objs.size code) fp A' [(s4.heap.objs.size + 1, go)]) T st7 ?_⟩
      refine seg_loop2 (X' := Cxg X s4 H4 (gEnv X scope s4.heap.objs.size code) fp A' [(s4.heap.objs.size + 1, go)]) T hA' (hg s4 H4 _ code fp A' _ rA) (ht s4 H4 _ code fp A' _ rA) (hi1 s4 H4 _ code fp A' _ rA) (hg1 s4 H4 _ code fp A' _ rA) (ht1 s4 H4 _ code fp A' _ rA) (he s4 H4 _ code fp A' _ rA) hs1 hv hc rfl rfl hco
        (fun p hp b hb => ?_) tw m0 (m0 + 1) 0 s7 s7 H4 (Nat.le_refl _) w0 I7 st7 fnone
      have e : p = (s4.heap.objs.size + 1, go) := by simpa using hp
      rw [e]
      exact Nat.ne_of_gt (Nat.lt_succ_of_lt (f4 b hb).2)
  cases hf : codeAmong gpos ps.toList with
  | none =>
    refine wpAny_genexprCodeX hcode (cd.code hPs ht3) (cd.tab hPs) hf fun c' h' tk hx hge hlt hco' _ htab' _ => ?_
    obtain ⟨o1, vs, f1, tf, fl, tg, inF, tx, tt, op, _, _, _, _, _, _, _, _, _, htr, _⟩ := hco'
    exact cont _ h' tk _ hx (Nat.le_trans hge (Nat.le_of_lt hlt)) htab'.2 ⟨_, rfl⟩ htr
  | some cv =>
    refine wpAny_genexprCode_hit hcode (cd.code hPs ht3) hf ?_
    exact cont cv s2.heap s2.toks ps (Heap.ExtBut.refl _ _) (Nat.le_refl _) hPs ⟨#[], by simp⟩ ht3
end

def tGen2 (P : Addr) (wi : TI) (g : TG) (tt : TT) (wi1 : TI) (g1 : TG) (tt1 : TT) (te : TE) (vs vs1 : List Nat) (out : V → Hp → (Hp → Prop) → Prop) (fin : Hp → Prop) : L2.St → Hp → Prop := fun σ H =>
  wi σ H fun J H1 => TabG H1 P ∧ ∀ H2, Tabbed P H1 H2 → ∃ W : Nat → Nat → Hp → Prop, (∃ m, W 0 m H2) ∧ TurnsY J g tt wi1 g1 tt1 te σ vs vs1 out fin W
def outAll2 (Q : VK) : V → Hp → (Hp → Prop) → Prop := fun y H Nx => ∃ k, y = .bl k ∧ if k = true then Nx H else Q (.bl false) H
def outAny2 (Q : VK) : V → Hp → (Hp → Prop) → Prop := fun y H Nx => ∃ k, y = .bl k ∧ if k = true then Q (.bl true) H else Nx H
def tAllG2 (P : Addr) (wi : TI) (g : TG) (tt : TT) (wi1 : TI) (g1 : TG) (tt1 : TT) (te : TE) (vs vs1 : List Nat) : TE := fun σ H Q => tGen2 P wi g tt wi1 g1 tt1 te vs vs1 (outAll2 Q) (fun H => Q (.bl true) H) σ H
def tAnyG2 (P : Addr) (wi : TI) (g : TG) (tt : TT) (wi1 : TI) (g1 : TG) (tt1 : TT) (te : TE) (vs vs1 : List Nat) : TE := fun σ H Q => tGen2 P wi g tt wi1 g1 tt1 te vs vs1 (outAny2 Q) (fun H => Q (.bl false) H) σ H
section
variable {X : Cx} {c P : Addr} {elt tg iter tg1 iter1 : Expr} {ifs ifs1 : List Expr} {scope : Scope} {own : List (Str × Nat)} {gpos p pos : Pos} {wi wi1 : TI} {g g1 : TG} {tt tt1 : TT} {te : TE} {k : Nat} {vs1 : List Nat}
theorem pe_allG2 (hr : Room (k + 1) X.A) (hc : X.calm = true) (hN : X.N.Nodup) (hgl : Gl X "all") (hm : X.mg "all" = none) (TB : TabB X.base X.mg c P) (hcode : X.env.code = .ref c) (ok : BlkOk X.N X.env.scope scope own) (hnc : ∀ y ∈ scope.names, y.2 ≠ .cell) (hdot : scope.names.lookup (".0" : Str) = some NameKind.local)
    (hco : scope.isCoroutine = false) (hi : PI X tg iter wi)
    (hg : ∀ s H C code fp A' pn, Room k A' → PG (Cxg X s H (gEnv X scope C code) fp A' pn) tg g) (ht : ∀ s H C code fp A' pn, Room k A' → PTs (Cxg X s H (gEnv X scope C code) fp A' pn) ifs tt)
    (hi1 : ∀ s H C code fp A' pn, Room k A' → PI (Cxg X s H (gEnv X scope C code) fp A' pn) tg1 iter1 wi1) (hg1 : ∀ s H C code fp A' pn, Room k A' → PG (Cxg X s H (gEnv X scope C code) fp A' pn) tg1 g1) (ht1 : ∀ s H C code fp A' pn, Room k A' → PTs (Cxg X s H (gEnv X scope C code) fp A' pn) ifs1 tt1)
    (he : ∀ s H C code fp A' pn, Room k A' → PE (Cxg X s H (gEnv X scope C code) fp A' pn) elt te) (hv : ∀ i ∈ vs1, i ∈ own.map (·.2)) (hs1 : ∀ env x, foldedSetIterable iter1 env x = pure x := by intro _ _; rfl)
    (hs : ∀ v, genFold iter X.env v = pure v := by intro _; rfl) (hst : starEach [GE2 elt tg iter ifs tg1 iter1 ifs1 scope gpos] X.env = (false, eval (GE2 elt tg iter ifs tg1 iter1 ifs1 scope gpos) X.env) :: starEach [] X.env := by rfl) :
    PE X (.Call (.Name "all" p) [GE2 elt tg iter ifs tg1 iter1 ifs1 scope gpos] [] pos) (tAllG2 P wi g tt wi1 g1 tt1 te (own.map (·.2)) vs1) := by
  refine ⟨fun pins s σ H Q I h => ?_⟩
  refine wpAny_Call_Name_kw (ld_blt I hgl hm (by decide +kernel : bootBuiltins "all" = some (.builtin "all")) ?_)
  refine PyProof.Rows.callWith_builtin1 ?_ hst (by rfl)
  rw [hst]
  show wpAny _ _ (spliced ((false, eval (GE2 elt tg iter ifs tg1 iter1 ifs1 scope gpos) X.env) :: backTo pos (starEach [] X.env))) _ _ s
  refine Calls.spliced_cons (gen_made2 _ _ hr hc hN TB hcode ok hnc hdot hco hi hg ht he hi1 hg1 ht1 hs1 hv hs I h fun X' a gg n s5 M => ?_)
  refine Calls.spliced_nil ?_
  refine call_function_tree F.kind_all F.plain_all F.entry_all (F.args_all1 _) ?_
  unfold Builtin.«all»
  refine wpAny_bind (m := oneArg "all" _) (wpAny_pure ?_)
  refine wpAny_bind (wpAny_pyIter_gen M.gen ?_)
  refine wpAny_pure ⟨plainId_quiet F.plain_all_loop _, ?_⟩
  have L := all_loop2 (D := GD2.mk X' X.A.in1.in1 (outAll2 Q) (fun H => Q (.bl true) H) a gg) (A := X.A) (R := fun r s' => match r with | .ok (.ret v) => EP X pins σ Q v s' | .ok _ => False | .error e => X.xe e s') (fun b H => Q (.bl b) H) rfl hr.hd (by have := hr.dp; omega) M.pinned (fun _ _ _ o => o) (fun _ q => q)
    (fun b ps σ' H s' I' q => ⟨.bl b, H, M.back _ _ _ _ I', rfl, q⟩) n s5 M.go
  have e1 := M.prog
  have e2 := M.w
  rw [e1, e2] at L
  exact L
theorem pe_anyG2 (hr : Room (k + 1) X.A) (hc : X.calm = true) (hN : X.N.Nodup) (hgl : Gl X "any") (hm : X.mg "any" = none) (TB : TabB X.base X.mg c P) (hcode : X.env.code = .ref c) (ok : BlkOk X.N X.env.scope scope own) (hnc : ∀ y ∈ scope.names, y.2 ≠ .cell) (hdot : scope.names.lookup (".0" : Str) = some NameKind.local)
    (hco : scope.isCoroutine = false) (hi : PI X tg iter wi)
    (hg : ∀ s H C code fp A' pn, Room k A' → PG (Cxg X s H (gEnv X scope C code) fp A' pn) tg g) (ht : ∀ s H C code fp A' pn, Room k A' → PTs (Cxg X s H (gEnv X scope C code) fp A' pn) ifs tt)
    (hi1 : ∀ s H C code fp A' pn, Room k A' → PI (Cxg X s H (gEnv X scope C code) fp A' pn) tg1 iter1 wi1) (hg1 : ∀ s H C code fp A' pn, Room k A' → PG (Cxg X s H (gEnv X scope C code) fp A' pn) tg1 g1) (ht1 : ∀ s H C code fp A' pn, Room k A' → PTs (Cxg X s H (gEnv X scope C code) fp A' pn) ifs1 tt1)
    (he : ∀ s H C code fp A' pn, Room k A' → PE (Cxg X s H (gEnv X scope C code) fp A' pn) elt te) (hv : ∀ i ∈ vs1, i ∈ own.map (·.2)) (hs1 : ∀ env x, foldedSetIterable iter1 env x = pure x := by intro _ _; rfl)
    (hs : ∀ v, genFold iter X.env v = pure v := by intro _; rfl) (hst : starEach [GE2 elt tg iter ifs tg1 iter1 ifs1 scope gpos] X.env = (false, eval (GE2 elt tg iter ifs tg1 iter1 ifs1 scope gpos) X.env) :: starEach [] X.env := by rfl) :
    PE X (.Call (.Name "any" p) [GE2 elt tg iter ifs tg1 iter1 ifs1 scope gpos] [] pos) (tAnyG2 P wi g tt wi1 g1 tt1 te (own.map (·.2)) vs1) := by
  refine ⟨fun pins s σ H Q I h => ?_⟩
  refine wpAny_Call_Name_kw (ld_blt I hgl hm boot_any ?_)
  refine PyProof.Rows.callWith_builtin1 ?_ hst (by rfl)
  rw [hst]
  show wpAny _ _ (spliced ((false, eval (GE2 elt tg iter ifs tg1 iter1 ifs1 scope gpos) X.env) :: backTo pos (starEach [] X.env))) _ _ s
  refine Calls.spliced_cons (gen_made2 _ _ hr hc hN TB hcode ok hnc hdot hco hi hg ht he hi1 hg1 ht1 hs1 hv hs I h fun X' a gg n s5 M => ?_)
  refine Calls.spliced_nil ?_
  refine call_function_tree F.kind_any F.plain_any F.entry_any (F.args_any1 _) ?_
  unfold Builtin.«any»
  refine wpAny_bind (m := oneArg "any" _) (wpAny_pure ?_)
  refine wpAny_bind (wpAny_pyIter_gen M.gen ?_)
  refine wpAny_pure ⟨plainId_quiet F.plain_any_loop _, ?_⟩
  have L := any_loop2 (D := GD2.mk X' X.A.in1.in1 (outAny2 Q) (fun H => Q (.bl false) H) a gg) (A := X.A) (R := fun r s' => match r with | .ok (.ret v) => EP X pins σ Q v s' | .ok _ => False | .error e => X.xe e s') (fun b H => Q (.bl b) H) rfl hr.hd (by have := hr.dp; omega) M.pinned (fun _ _ _ o => o) (fun _ q => q)
    (fun b ps σ' H s' I' q => ⟨.bl b, H, M.back _ _ _ _ I', rfl, q⟩) n s5 M.go
  have e1 := M.prog
  have e2 := M.w
  rw [e1, e2] at L
  exact L
end
end Gx
end
section
set_option Elab.async false
set_option linter.all false
set_option maxRecDepth 100000
set_option maxHeartbeats 4000000
namespace Dl
open PySem PySem.Spec PyProof.Rows L2 GxR Gx
/-! ### two for in one generator expression -/
section
variable (vs : List Nat) (t : TgD) (c : FT) (fi1 : FI) (vs1 : List Nat) (t1 : TgD) (c1 : FT) (e : FE) (τ : DS)
def allD2 : List (Bool × D) → Option Bool
  | [] => some true
  | p :: ps => (t p (wD τ vs)).bind fun τ1 => (c τ1).bind fun b => if b = true then (fi1 τ1).bind fun qs => (allD vs1 t1 c1 e τ1 qs).bind fun r => if r = true then allD2 ps else some false else allD2 ps
def anyD2 : List (Bool × D) → Option Bool
  | [] => some false
  | p :: ps => (t p (wD τ vs)).bind fun τ1 => (c τ1).bind fun b => if b = true then (fi1 τ1).bind fun qs => (anyD vs1 t1 c1 e τ1 qs).bind fun r => if r = true then some true else anyD2 ps else anyD2 ps
end
def allF2 (fi : FI) (vs : List Nat) (t : TgD) (c : FT) (fi1 : FI) (vs1 : List Nat) (t1 : TgD) (c1 : FT) (e : FE) : FE := fun τ => (fi τ).bind fun items => (allD2 vs t c fi1 vs1 t1 c1 e τ items).map fun b => (true, .bl b)
def anyF2 (fi : FI) (vs : List Nat) (t : TgD) (c : FT) (fi1 : FI) (vs1 : List Nat) (t1 : TgD) (c1 : FT) (e : FE) : FE := fun τ => (fi τ).bind fun items => (anyD2 vs t c fi1 vs1 t1 c1 e τ items).map fun b => (true, .bl b)
def mOut (t : TgD) (fi1 : FI) (τ0 : DS) : List (Bool × D) → Nat
  | [] => 0
  | p :: ps => 2 + (((t p τ0).bind fi1).elim 0 List.length) + mOut t fi1 τ0 ps
theorem mOut_cons {t : TgD} {fi1 : FI} {τ0 : DS} {p : Bool × D} {ps : List (Bool × D)} : mOut t fi1 τ0 (p :: ps) = 2 + (((t p τ0).bind fi1).elim 0 List.length) + mOut t fi1 τ0 ps := rfl
section
variable {K : PySem.W.Frag} {R H0 : Hp}
theorem gx_ok2 {P : Addr} {wi wi1 : TI} {fi fi1 : FI} {g g1 : TG} {t t1 : TgD} {sl sl1 vs vs1 : List Nat} {tt tt1 : TT} {c c1 : FT} {e : FE} {out : V → Hp → (Hp → Prop) → Prop} {fin : Hp → Prop} (hi : IiOk K R H0 wi fi) (ht : TgOk K R H0 g t sl) (hsl : ∀ j ∈ sl, j ∈ vs) (hc : TtOk K R H0 tt c)
    (hi1 : IiOk K R H0 wi1 fi1) (ht1 : TgOk K R H0 g1 t1 sl1) (hsl1 : ∀ j ∈ sl1, j ∈ vs1) (hc1 : TtOk K R H0 tt1 c1)
    {σ : L2.St} {H F : Hp} {τ : DS} {items : List (Bool × D)} (r : Rel K R H0 τ σ F H) (hT : ∀ F1 H1, Grow F H F1 H1 → TabG H1 P) (e1 : fi τ = some items) (S : List (Bool × D) → Prop) (S1 : DS → List (Bool × D) → List (Bool × D) → Prop) (h0 : S items)
    (hS : ∀ p ps, S (p :: ps) → ∃ τ1 b, t p (wD τ vs) = some τ1 ∧ c τ1 = some b ∧ if b = true then ∃ qs, fi1 τ1 = some qs ∧ S1 τ1 qs ps else S ps)
    (hS1 : ∀ τ1 q qs ps, S1 τ1 (q :: qs) ps → ∃ τ2 b, t1 q (wD τ1 vs1) = some τ2 ∧ c1 τ2 = some b ∧ if b = true then ∃ y, e τ2 = some y ∧ ∀ v F' H' Nx, Grow F H F' H' → Rp K (lv y.1 R F') y.2 v → (S1 τ1 qs ps → Nx H') → out v H' Nx else S1 τ1 qs ps)
    (hE : ∀ τ1 ps, S1 τ1 [] ps → S ps)
    (hF : ∀ F' H', S [] → Grow F H F' H' → fin H') : tGen2 P wi g tt wi1 g1 tt1 (tSE K R H0 e) vs vs1 out fin σ H := by
  refine hi σ H F τ items r e1 _ fun J F1 H1 g1 it => ⟨hT F1 H1 g1, fun H2 hTb => ?_⟩
  have x2 : Ext H1 H2 := Ext.tabbed hTb (hT F1 H1 g1)
  have g2 : Grow F1 H1 F1 H2 := .heap g1.s g1.t x2
  refine ⟨fun i m H => m = mOut t fi1 (wD τ vs) (items.drop i) ∧ i ≤ items.length ∧ S (items.drop i) ∧ ∃ F3, Grow F1 H1 F3 H, ⟨_, rfl, Nat.zero_le _, h0, F1, g2⟩, ?_⟩
  rintro i m H3 ⟨rfl, hi2, hSa, F3, g3⟩
  have r3 : Rel K R H0 τ σ F3 H3 := (r.grow g1).grow g3
  obtain ⟨ig, is⟩ := it i F3 H3 g3.f g3.s g3.t (r.g.f.trans (g1.f.trans g3.f))
  by_cases hlt : i < items.length
  · obtain ⟨p, hp⟩ : ∃ p, items[i]? = some p := ⟨items[i], List.getElem?_eq_getElem hlt⟩
    obtain ⟨go, yl⟩ := ig p hp
    have ed : items.drop i = p :: items.drop (i + 1) := by
      rw [List.drop_eq_getElem_cons hlt]
      rw [List.getElem?_eq_getElem hlt] at hp
      rw [Option.some.inj hp]
    rw [ed] at hSa
    obtain ⟨τ1, b, et1, ec, hb⟩ := hS _ _ hSa
    refine .inr ⟨go, fun H' => S (items.drop (i + 1)) ∧ ∃ F3, Grow F1 H1 F3 H', fun H' ⟨h1, h2⟩ => ⟨_, by rw [ed, mOut_cons]; omega, rfl, hlt, h1, h2⟩, fun x H4 hy => ?_⟩
    obtain ⟨F4, g4, rx⟩ := yl x H4 hy
    have r4 : Rel K R H0 (wD τ vs) (wipe σ vs) F4 H4 := (r3.grow g4).wipe vs
    refine ht x (wipe σ vs) H4 F4 _ p τ1 r4 rx et1 _ fun σ2 r5 hσ hl => ⟨?_, ?_⟩
    · rw [wipe_eq (fun j hj => hσ j fun z => hj (hsl j z)) hl, wipe_wipe]
    refine hc σ2 H4 F4 τ1 b r5 ec _ fun F5 H5 g5 => ?_
    cases b with
    | false =>
      rw [if_neg Bool.false_ne_true] at hb
      exact iteF ⟨hb, F5, (g3.trans g4).trans g5⟩
    | true =>
      rw [if_pos rfl] at hb
      obtain ⟨qs, eq, hq⟩ := hb
      have r6 := r5.grow g5
      refine iteT (hi1 σ2 H5 F5 τ1 qs r6 eq _ fun J1 F6 H6 g6 it1 => ?_)
      have gg6 := ((g3.trans g4).trans g5).trans g6
      have em : mOut t fi1 (wD τ vs) (p :: items.drop (i + 1)) = 2 + qs.length + mOut t fi1 (wD τ vs) (items.drop (i + 1)) := by
        show 2 + (((t p (wD τ vs)).bind fi1).elim 0 List.length) + _ = _
        rw [et1, Option.bind_some, eq]; rfl
      refine ⟨fun j k H => k = 1 + (qs.length - j) + mOut t fi1 (wD τ vs) (items.drop (i + 1)) ∧ j ≤ qs.length ∧ S1 τ1 (qs.drop j) (items.drop (i + 1)) ∧ ∃ F7, Grow F6 H6 F7 H, ⟨_, ?_, rfl, Nat.zero_le _, hq, F6, Grow.heap g6.s g6.t Ext.refl⟩, ?_⟩
      · rw [ed, em]; omega
      rintro j k H7 ⟨rfl, hj2, hSj, F7, g7⟩
      obtain ⟨ig1, is1⟩ := it1 j F7 H7 g7.f g7.s g7.t (r6.g.f.trans (g6.f.trans g7.f))
      by_cases hlj : j < qs.length
      · obtain ⟨q, hq1⟩ : ∃ q, qs[j]? = some q := ⟨qs[j], List.getElem?_eq_getElem hlj⟩
        obtain ⟨go1, yl1⟩ := ig1 q hq1
        have ed1 : qs.drop j = q :: qs.drop (j + 1) := by
          rw [List.drop_eq_getElem_cons hlj]
          rw [List.getElem?_eq_getElem hlj] at hq1
          rw [Option.some.inj hq1]
        rw [ed1] at hSj
        obtain ⟨τ2, b1, et2, ec2, hb1⟩ := hS1 _ _ _ _ hSj
        refine .inr ⟨go1, fun H' => S1 τ1 (qs.drop (j + 1)) (items.drop (i + 1)) ∧ ∃ F7, Grow F6 H6 F7 H', fun H' ⟨h1, h2⟩ => ⟨_, by omega, rfl, hlj, h1, h2⟩, fun x1 H8 hy1 => ?_⟩
        obtain ⟨F8, g8, rx1⟩ := yl1 x1 H8 hy1
        have r8 : Rel K R H0 (wD τ1 vs1) (wipe σ2 vs1) F8 H8 := (((r6.grow g6).grow g7).grow g8).wipe vs1
        refine ht1 x1 (wipe σ2 vs1) H8 F8 _ q τ2 r8 rx1 et2 _ fun σ3 r9 hσ1 hl1 => ⟨?_, ?_⟩
        · rw [wipe_eq (fun j hj => hσ1 j fun z => hj (hsl1 j z)) hl1, wipe_wipe]
        refine hc1 σ3 H8 F8 τ2 b1 r9 ec2 _ fun F9 H9 g9 => ?_
        cases b1 with
        | false =>
          rw [if_neg Bool.false_ne_true] at hb1
          exact iteF ⟨hb1, F9, (g7.trans g8).trans g9⟩
        | true =>
          rw [if_pos rfl] at hb1
          obtain ⟨y, ey, hout⟩ := hb1
          refine iteT ⟨F9, τ2, y.1, y.2, r9.grow g9, ey, fun v F10 H10 g10 rv => ?_⟩
          have gg := ((g7.trans g8).trans g9).trans g10
          exact hout v F10 H10 _ (g1.trans (gg6.trans gg)) rv fun hS' => ⟨hS', F10, gg⟩
      · have e3 : j = qs.length := by omega
        subst e3
        rw [List.drop_length] at hSj
        exact .inl ⟨is1 (Nat.le_refl _), _, by omega, rfl, hlt, hE _ _ hSj, F7, gg6.trans g7⟩
  · have e3 : i = items.length := by omega
    subst e3
    rw [List.drop_length] at hSa
    exact .inl ⟨is (Nat.le_refl _), hF F3 H3 hSa (g1.trans g3)⟩
end
section
variable {R H0 : Hp} {X : Cx} {c P : Addr} {elt tg iter tg1 iter1 : Expr} {ifs ifs1 : List Expr} {scope : Scope} {own own1 : List (Str × Nat)} {gpos p pos : Pos} {wi wi1 : TI} {fi fi1 : FI} {g g1 : TG} {t t1 : TgD} {sl sl1 : List Nat} {tt tt1 : TT} {cd cd1 : FT} {e : FE} {k : Nat} {cs : List (Addr × Addr)}
theorem se_anyG2 (hT : Tabs cs H0) (hP : (c, P) ∈ cs) (hr : Room (k + 1) X.A) (hc : X.calm = true) (hN : X.N.Nodup) (hgl : Gl X "any") (hm : X.mg "any" = none) (TB : TabB X.base X.mg c P) (hcode : X.env.code = .ref c) (ok : BlkOk X.N X.env.scope scope own) (hnc : ∀ y ∈ scope.names, y.2 ≠ .cell) (hdot : scope.names.lookup (".0" : Str) = some NameKind.local)
    (hco : scope.isCoroutine = false) (hi : PI X tg iter wi) (hii : IiOk X.K R H0 wi fi)
    (hg : ∀ s H C code fp A' pn, Room k A' → PG (Cxg X s H (gEnv X scope C code) fp A' pn) tg g) (hgt : TgOk X.K R H0 g t sl) (hsl : ∀ j ∈ sl, j ∈ own.map (·.2)) (ht : ∀ s H C code fp A' pn, Room k A' → PTs (Cxg X s H (gEnv X scope C code) fp A' pn) ifs tt) (htt : TtOk X.K R H0 tt cd)
    (hi1 : ∀ s H C code fp A' pn, Room k A' → PI (Cxg X s H (gEnv X scope C code) fp A' pn) tg1 iter1 wi1) (hii1 : IiOk X.K R H0 wi1 fi1)
    (hg1 : ∀ s H C code fp A' pn, Room k A' → PG (Cxg X s H (gEnv X scope C code) fp A' pn) tg1 g1) (hgt1 : TgOk X.K R H0 g1 t1 sl1) (hsl1 : ∀ j ∈ sl1, j ∈ own1.map (·.2)) (ht1 : ∀ s H C code fp A' pn, Room k A' → PTs (Cxg X s H (gEnv X scope C code) fp A' pn) ifs1 tt1) (htt1 : TtOk X.K R H0 tt1 cd1)
    (he : ∀ s H C code fp A' pn, Room k A' → SE R H0 (Cxg X s H (gEnv X scope C code) fp A' pn) elt e) (hv : ∀ i ∈ own1.map (·.2), i ∈ own.map (·.2)) (hs1 : ∀ env x, foldedSetIterable iter1 env x = pure x := by intro _ _; rfl)
    (hs : ∀ v, genFold iter X.env v = pure v := by intro _; rfl) (hst : starEach [GE2 elt tg iter ifs tg1 iter1 ifs1 scope gpos] X.env = (false, eval (GE2 elt tg iter ifs tg1 iter1 ifs1 scope gpos) X.env) :: starEach [] X.env := by rfl) :
    SE R H0 X (.Call (.Name "any" p) [GE2 elt tg iter ifs tg1 iter1 ifs1 scope gpos] [] pos) (anyF2 fi (own.map (·.2)) t cd fi1 (own1.map (·.2)) t1 cd1 e) := PEmono (pe_anyG2 (te := tSE X.K R H0 e) hr hc hN hgl hm TB hcode ok hnc hdot hco hi hg ht hi1 hg1 ht1 he hv hs1 hs hst) fun σ H Q ⟨F, τ, nw, d, r, q, kk⟩ => by
  obtain ⟨items, e1, q⟩ := bindO q
  obtain ⟨b, e2, q⟩ := mapO q
  cases q
  refine gx_ok2 (e := e) hii hgt hsl htt hii1 hgt1 hsl1 htt1 r (fun F1 H1 g1 => Tabs.ext (r.grow g1).g.h hT (c, P) hP) e1 (fun l => anyD2 (own.map (·.2)) t cd fi1 (own1.map (·.2)) t1 cd1 e τ l = some b) (fun τ1 qs ps => ((anyD (own1.map (·.2)) t1 cd1 e τ1 qs).bind fun r => if r = true then some true else anyD2 (own.map (·.2)) t cd fi1 (own1.map (·.2)) t1 cd1 e τ ps) = some b) e2 (fun p ps hS => ?_) (fun τ1 q qs ps hS => ?_) (fun τ1 ps hS => hS) fun F' H' hS g' => ?_
  · obtain ⟨τ1, h1, hS⟩ := bindO (show (t p (wD τ (own.map (·.2)))).bind _ = _ from hS)
    obtain ⟨b1, h2, hS⟩ := bindO hS
    refine ⟨τ1, b1, h1, h2, ?_⟩
    cases b1 with
    | false => rw [if_neg Bool.false_ne_true] at hS; exact iteF hS
    | true =>
      rw [if_pos rfl] at hS
      obtain ⟨qs, h3, hS⟩ := bindO hS
      exact iteT ⟨qs, h3, hS⟩
  · obtain ⟨rr, hS, hK⟩ := bindO hS
    obtain ⟨τ2, h1, hS⟩ := bindO (show (t1 q (wD τ1 (own1.map (·.2)))).bind _ = _ from hS)
    obtain ⟨b1, h2, hS⟩ := bindO hS
    refine ⟨τ2, b1, h1, h2, ?_⟩
    cases b1 with
    | false =>
      rw [if_neg Bool.false_ne_true] at hS
      refine iteF ?_
      show Option.bind _ _ = _
      rw [hS]; exact hK
    | true =>
      rw [if_pos rfl] at hS
      obtain ⟨⟨ny, y⟩, h3, hS⟩ := bindO hS
      refine iteT ⟨(ny, y), h3, fun v F' H' Nx g' rv hn => ?_⟩
      match y, hS, rv with
      | .bl false, hS, rv => exact ⟨false, rv, iteF (hn (by show Option.bind _ _ = _; rw [show anyD (own1.map (·.2)) t1 cd1 e τ1 qs = some rr from hS]; exact hK))⟩
      | .bl true, hS, rv =>
        cases hS
        rw [if_pos rfl] at hK
        cases hK
        exact ⟨true, rv, iteT (kk _ F' H' g' rfl)⟩
  · cases hS
    exact kk _ F' H' g' rfl
theorem se_allG2 (hT : Tabs cs H0) (hP : (c, P) ∈ cs) (hr : Room (k + 1) X.A) (hc : X.calm = true) (hN : X.N.Nodup) (hgl : Gl X "all") (hm : X.mg "all" = none) (TB : TabB X.base X.mg c P) (hcode : X.env.code = .ref c) (ok : BlkOk X.N X.env.scope scope own) (hnc : ∀ y ∈ scope.names, y.2 ≠ .cell) (hdot : scope.names.lookup (".0" : Str) = some NameKind.local)
    (hco : scope.isCoroutine = false) (hi : PI X tg iter wi) (hii : IiOk X.K R H0 wi fi)
    (hg : ∀ s H C code fp A' pn, Room k A' → PG (Cxg X s H (gEnv X scope C code) fp A' pn) tg g) (hgt : TgOk X.K R H0 g t sl) (hsl : ∀ j ∈ sl, j ∈ own.map (·.2)) (ht : ∀ s H C code fp A' pn, Room k A' → PTs (Cxg X s H (gEnv X scope C code) fp A' pn) ifs tt) (htt : TtOk X.K R H0 tt cd)
    (hi1 : ∀ s H C code fp A' pn, Room k A' → PI (Cxg X s H (gEnv X scope C code) fp A' pn) tg1 iter1 wi1) (hii1 : IiOk X.K R H0 wi1 fi1)
    (hg1 : ∀ s H C code fp A' pn, Room k A' → PG (Cxg X s H (gEnv X scope C code) fp A' pn) tg1 g1) (hgt1 : TgOk X.K R H0 g1 t1 sl1) (hsl1 : ∀ j ∈ sl1, j ∈ own1.map (·.2)) (ht1 : ∀ s H C code fp A' pn, Room k A' → PTs (Cxg X s H (gEnv X scope C code) fp A' pn) ifs1 tt1) (htt1 : TtOk X.K R H0 tt1 cd1)
    (he : ∀ s H C code fp A' pn, Room k A' → SE R H0 (Cxg X s H (gEnv X scope C code) fp A' pn) elt e) (hv : ∀ i ∈ own1.map (·.2), i ∈ own.map (·.2)) (hs1 : ∀ env x, foldedSetIterable iter1 env x = pure x := by intro _ _; rfl)
    (hs : ∀ v, genFold iter X.env v = pure v := by intro _; rfl) (hst : starEach [GE2 elt tg iter ifs tg1 iter1 ifs1 scope gpos] X.env = (false, eval (GE2 elt tg iter ifs tg1 iter1 ifs1 scope gpos) X.env) :: starEach [] X.env := by rfl) :
    SE R H0 X (.Call (.Name "all" p) [GE2 elt tg iter ifs tg1 iter1 ifs1 scope gpos] [] pos) (allF2 fi (own.map (·.2)) t cd fi1 (own1.map (·.2)) t1 cd1 e) := PEmono (pe_allG2 (te := tSE X.K R H0 e) hr hc hN hgl hm TB hcode ok hnc hdot hco hi hg ht hi1 hg1 ht1 he hv hs1 hs hst) fun σ H Q ⟨F, τ, nw, d, r, q, kk⟩ => by
  obtain ⟨items, e1, q⟩ := bindO q
  obtain ⟨b, e2, q⟩ := mapO q
  cases q
  refine gx_ok2 (e := e) hii hgt hsl htt hii1 hgt1 hsl1 htt1 r (fun F1 H1 g1 => Tabs.ext (r.grow g1).g.h hT (c, P) hP) e1 (fun l => allD2 (own.map (·.2)) t cd fi1 (own1.map (·.2)) t1 cd1 e τ l = some b) (fun τ1 qs ps => ((allD (own1.map (·.2)) t1 cd1 e τ1 qs).bind fun r => if r = true then allD2 (own.map (·.2)) t cd fi1 (own1.map (·.2)) t1 cd1 e τ ps else some false) = some b) e2 (fun p ps hS => ?_) (fun τ1 q qs ps hS => ?_) (fun τ1 ps hS => hS) fun F' H' hS g' => ?_
  · obtain ⟨τ1, h1, hS⟩ := bindO (show (t p (wD τ (own.map (·.2)))).bind _ = _ from hS)
    obtain ⟨b1, h2, hS⟩ := bindO hS
    refine ⟨τ1, b1, h1, h2, ?_⟩
    cases b1 with
    | false => rw [if_neg Bool.false_ne_true] at hS; exact iteF hS
    | true =>
      rw [if_pos rfl] at hS
      obtain ⟨qs, h3, hS⟩ := bindO hS
      exact iteT ⟨qs, h3, hS⟩
  · obtain ⟨rr, hS, hK⟩ := bindO hS
    obtain ⟨τ2, h1, hS⟩ := bindO (show (t1 q (wD τ1 (own1.map (·.2)))).bind _ = _ from hS)
    obtain ⟨b1, h2, hS⟩ := bindO hS
    refine ⟨τ2, b1, h1, h2, ?_⟩
    cases b1 with
    | false =>
      rw [if_neg Bool.false_ne_true] at hS
      refine iteF ?_
      show Option.bind _ _ = _
      rw [hS]; exact hK
    | true =>
      rw [if_pos rfl] at hS
      obtain ⟨⟨ny, y⟩, h3, hS⟩ := bindO hS
      refine iteT ⟨(ny, y), h3, fun v F' H' Nx g' rv hn => ?_⟩
      match y, hS, rv with
      | .bl true, hS, rv => exact ⟨true, rv, iteT (hn (by show Option.bind _ _ = _; rw [show allD (own1.map (·.2)) t1 cd1 e τ1 qs = some rr from hS]; exact hK))⟩
      | .bl false, hS, rv =>
        cases hS
        rw [if_neg Bool.false_ne_true] at hK
        cases hK
        exact ⟨false, rv, iteF (kk _ F' H' g' rfl)⟩
  · cases hS
    exact kk _ F' H' g' rfl
end
end Dl
end
section
set_option Elab.async false
set_option linter.all false
set_option maxRecDepth 100000
set_option maxHeartbeats 4000000

namespace K05
open PySem PySem.Spec PyProof.Rows L2 GxR Gx Dl

def topS (i : Nat) : Stmt := PySem.Challenge.pw_patchlay_k05_whole_exchanged.main.body.getD i (.Pass ⟨0, 0, 0, 0⟩)
section
variable {P : Program} {w : World} {K : PySem.W.Frag} {mg : Str → Option Value} {base : Heap} {CX : CXT} {cs : List (Addr × Addr)} {c Pt : Addr}
abbrev s_end_of : Stmt := topS 7
theorem sc_end_of : FnScope ["piece"] ["piece"] (L2.defScope s_end_of) := ⟨rfl, rfl, rfl, by decide +kernel, rfl, by decide +kernel, by decide +kernel⟩
def g_end_of : FS :=
  (retF (mp (bi (xvE 0 (fun _ => some (true, D.int 0))) (un1 (bi (vB 0) (mp (fun _ => some (true, D.int 1)) (·.2)) itemB) lenD) addC) frz))
def φ_end_of : Phi := phi 1 g_end_of
theorem ok_end_of (hx : NoE CX) (Df : Def K mg c "end_of" s_end_of ["piece"]) (m_len : mg "len" = none) : Okd P w K mg base CX cs 2 "end_of" 1 φ_end_of :=
  have sc := sc_end_of
  fnD (k := 1) Df sc fun f A outer s H E R hr sR hT => (sss_one (ss_ret (se_sc (sc_add (se_ixv 0 se_int) (se_len (by rfl) m_len (sb_ix (sb_var 0) (sb_se se_int)))) sR)))
abbrev s_growth_of : Stmt := topS 8
theorem sc_growth_of : FnScope ["piece"] ["piece"] (L2.defScope s_growth_of) := ⟨rfl, rfl, rfl, by decide +kernel, rfl, by decide +kernel, by decide +kernel⟩
def g_growth_of : FS :=
  (retF (subF (mp (un1 (bi (vB 0) (mp (fun _ => some (true, D.int 2)) (·.2)) itemB) lenD) (·.2)) (mp (un1 (bi (vB 0) (mp (fun _ => some (true, D.int 1)) (·.2)) itemB) lenD) (·.2))))
def φ_growth_of : Phi := phi 1 g_growth_of
theorem ok_growth_of (hx : NoE CX) (Df : Def K mg c "growth_of" s_growth_of ["piece"]) (m_len : mg "len" = none) : Okd P w K mg base CX cs 2 "growth_of" 1 φ_growth_of :=
  have sc := sc_growth_of
  fnD (k := 1) Df sc fun f A outer s H E R hr sR hT => (sss_one (ss_ret (se_sub (sb_se (se_len (by rfl) m_len (sb_ix (sb_var 0) (sb_se se_int)))) (sb_se (se_len (by rfl) m_len (sb_ix (sb_var 0) (sb_se se_int)))))))
abbrev s_growth_ahead : Stmt := topS 9
theorem sc_growth_ahead : FnScope ["change", "number", "piece"] ["change", "number"] (L2.defScope s_growth_ahead) := ⟨rfl, rfl, rfl, by decide +kernel, rfl, by decide +kernel, by decide +kernel⟩
def tg_growth_ahead_1 : TgD :=
  (nameT 2)
def el_growth_ahead_1 : FE :=
  (mp (callC φ_growth_of (consA (vE 2) nilA)) frz)
def if_growth_ahead_1 : FT :=
  (bi (mp (mp (callC φ_end_of (consA (vE 2) nilA)) frz) (·.2)) (vB 1) (cI le2))
def g_growth_ahead : FS :=
  (retF (sumF (un1 (vE 0) itemsE) ([("piece", 2)].map (·.2)) tg_growth_ahead_1 if_growth_ahead_1 el_growth_ahead_1))
def φ_growth_ahead : Phi := phi 3 g_growth_ahead
theorem ok_growth_ahead (hx : NoE CX) (Df : Def K mg c "growth_ahead" s_growth_ahead ["change", "number"]) (O_end_of : Okd P w K mg base CX cs 2 "end_of" 1 φ_end_of) (O_growth_of : Okd P w K mg base CX cs 2 "growth_of" 1 φ_growth_of) (m_sum : mg "sum" = none) (hP : (c, Pt) ∈ cs) (TB : TabB base mg c Pt) : Okd P w K mg base CX cs 4 "growth_ahead" 2 φ_growth_ahead :=
  have sc := sc_growth_ahead
  fnD (k := 3) Df sc fun f A outer s H E R hr sR hT => (sss_one (ss_ret (se_sumG (own := [("piece", 2)]) (k := 2) hT hP hr rfl sc.nd (by rfl) m_sum TB (by rfl) (blkOk_by (by rfl)) (by decide +kernel) (by decide +kernel) rfl (pi_list (se_var 0)) ii_list (fun _ _ _ _ _ _ _ hr1 => (pg_name (i := 2) sc.nd rfl (by first | exact Or.inl rfl | exact Or.inr rfl))) (tg_name 2) (by decide) (fun _ _ _ _ _ _ _ hr1 => (pts_one (c_le (sb_se (se_sc (sc_fn O_end_of hT hx hr1 (by decide) (sa_cons (se_var 2) sa_nil) (len_consA (fun _ _ h => len_nilA h))) sR)) (sb_var 1)).1)) tt_st (fun _ _ _ _ _ _ _ hr1 => (se_sc (sc_fn O_growth_of hT hx hr1 (by decide) (sa_cons (se_var 2) sa_nil) (len_consA (fun _ _ h => len_nilA h))) sR)))))
abbrev s_moved : Stmt := topS 10
theorem sc_moved : FnScope ["piece", "by", "place", "takes", "puts"] ["piece", "by"] (L2.defScope s_moved) := ⟨rfl, rfl, rfl, by decide +kernel, rfl, by decide +kernel, by decide +kernel⟩
def g_moved : FS :=
  (seqF (unpF (vE 0) (orT (tupT (consT (nameT 2) (consT (nameT 3) (consT (nameT 4) nilT)))) (unlT (consT (nameT 2) (consT (nameT 3) (consT (nameT 4) nilT))))))
  (retF (un1 (consA (mp (bi (vE 2) (vE 1) addC) frz) (consA (mp (un1 (vE 3) listC) frz) (consA (mp (un1 (vE 4) listC) frz) nilA))) tupD)))
def φ_moved : Phi := phi 5 g_moved
theorem ok_moved (hx : NoE CX) (Df : Def K mg c "moved" s_moved ["piece", "by"]) (m_list : mg "list" = none) : Okd P w K mg base CX cs 2 "moved" 2 φ_moved :=
  have sc := sc_moved
  fnD (k := 1) Df sc fun f A outer s H E R hr sR hT => (sss_cons (ss_unpack (se_var 0) (pg_or (pg_tup (n := 3) rfl (pgs_cons (pg_name (i := 2) sc.nd rfl (by first | exact Or.inl rfl | exact Or.inr rfl)) (pgs_cons (pg_name (i := 3) sc.nd rfl (by first | exact Or.inl rfl | exact Or.inr rfl)) (pgs_cons (pg_name (i := 4) sc.nd rfl (by first | exact Or.inl rfl | exact Or.inr rfl)) pgs_nil)))) (pg_unl (n := 3) rfl (pgs_cons (pg_name (i := 2) sc.nd rfl (by first | exact Or.inl rfl | exact Or.inr rfl)) (pgs_cons (pg_name (i := 3) sc.nd rfl (by first | exact Or.inl rfl | exact Or.inr rfl)) (pgs_cons (pg_name (i := 4) sc.nd rfl (by first | exact Or.inl rfl | exact Or.inr rfl)) pgs_nil))))) (tg_or (tg_tup (tgs_cons (tg_name 2) (tgs_cons (tg_name 3) (tgs_cons (tg_name 4) tgs_nil))) (ar_cons (ar_cons (ar_cons ar_nil)))) (tg_unl (tgs_cons (tg_name 2) (tgs_cons (tg_name 3) (tgs_cons (tg_name 4) tgs_nil))) (ar_cons (ar_cons (ar_cons ar_nil))))))
  (sss_one (ss_ret (se_tup (sa_cons (se_sc (sc_add (se_var 2) (se_var 1)) sR) (sa_cons (se_sc (sc_list (by rfl) m_list (se_var 3)) sR) (sa_cons (se_sc (sc_list (by rfl) m_list (se_var 4)) sR) sa_nil)))))))
abbrev s_turned_about : Stmt := topS 11
theorem sc_turned_about : FnScope ["change", "told", "shift", "place", "takes", "puts"] ["change"] (L2.defScope s_turned_about) := ⟨rfl, rfl, rfl, by decide +kernel, rfl, by decide +kernel, by decide +kernel⟩
def tg_turned_about_1 : TgD :=
  (tupT (consT (nameT 3) (consT (nameT 4) (consT (nameT 5) nilT))))
def lb_turned_about_1 : FS :=
  (seqF (ownF 1 (consA (un1 (consA (mp (bi (vE 3) (vE 2) addC) frz) (consA (mp (un1 (vE 5) listC) frz) (consA (mp (un1 (vE 4) listC) frz) nilA))) tupD) nilA) appOp)
  (augF 2 (mp (subF (mp (un1 (vB 5) lenD) (·.2)) (mp (un1 (vB 4) lenD) (·.2))) (·.2))))
def g_turned_about : FS :=
  (seqF (setF 1 (un1 nilA ownC))
  (seqF (setF 2 (mp (fun _ => some (true, D.int 0)) dC))
  (seqF (forF (un1 (vE 0) itemsE) tg_turned_about_1 lb_turned_about_1)
  (fzF [1] (retF (vE 1))))))
def φ_turned_about : Phi := phi 6 g_turned_about
theorem ok_turned_about (hx : NoE CX) (Df : Def K mg c "turned_about" s_turned_about ["change"]) (m_len : mg "len" = none) (m_list : mg "list" = none) : Okd P w K mg base CX cs 2 "turned_about" 1 φ_turned_about :=
  have sc := sc_turned_about
  fnD (k := 1) Df sc fun f A outer s H E R hr sR hT => (sss_cons (ss_set 1 sc.nd (sc_lst sa_nil))
  (sss_cons (ss_set 2 sc.nd (sc_se se_int))
  (sss_cons (ss_for PassesOwn.never rfl (pi_list (se_var 0)) ii_list (pg_tup (n := 3) rfl (pgs_cons (pg_name (i := 3) sc.nd rfl (by first | exact Or.inl rfl | exact Or.inr rfl)) (pgs_cons (pg_name (i := 4) sc.nd rfl (by first | exact Or.inl rfl | exact Or.inr rfl)) (pgs_cons (pg_name (i := 5) sc.nd rfl (by first | exact Or.inl rfl | exact Or.inr rfl)) pgs_nil)))) (tg_tup (tgs_cons (tg_name 3) (tgs_cons (tg_name 4) (tgs_cons (tg_name 5) tgs_nil))) (ar_cons (ar_cons (ar_cons ar_nil))))
  (sss_cons (ss_append 1 (sa_cons (se_tup (sa_cons (se_sc (sc_add (se_var 3) (se_var 2)) sR) (sa_cons (se_sc (sc_list (by rfl) m_list (se_var 5)) sR) (sa_cons (se_sc (sc_list (by rfl) m_list (se_var 4)) sR) sa_nil)))) sa_nil))
  (sss_one (ss_aug 2 sc.nd (sb_se (se_sub (sb_se (se_len (by rfl) m_len (sb_var 5))) (sb_se (se_len (by rfl) m_len (sb_var 4)))))))))
  (sss_one (ss_fz [1] sR (ss_ret (se_var 1)))))))
abbrev s_first_missing : Stmt := topS 12
theorem sc_first_missing : FnScope ["page", "piece", "place", "takes", "_", "at", "line"] ["page", "piece"] (L2.defScope s_first_missing) := ⟨rfl, rfl, rfl, by decide +kernel, rfl, by decide +kernel, by decide +kernel⟩
def tg_first_missing_1 : TgD :=
  (tupT (consT (nameT 5) (consT (nameT 6) nilT)))
def lb_first_missing_1 : FS :=
  (ifF (orF (bi (mp (mp (bi (vE 2) (vE 5) addC) frz) (·.2)) (mp (un1 (vB 0) lenD) (·.2)) (cI ge2)) (bi (bi (vB 0) (mp (mp (bi (vE 2) (vE 5) addC) frz) (·.2)) itemB) (vB 6) neD)) (retF (vE 5)) nxF)
def g_first_missing : FS :=
  (seqF (unpF (vE 1) (orT (tupT (consT (nameT 2) (consT (nameT 3) (consT (nameT 4) nilT)))) (unlT (consT (nameT 2) (consT (nameT 3) (consT (nameT 4) nilT))))))
  (seqF (ifF (bi (vB 2) (mp (un1 (vB 0) lenD) (·.2)) (cI gt2)) (retF (fun _ => some (true, D.int 0))) nxF)
  (seqF (forF (un1 (consA (vE 3) nilA) enumF) tg_first_missing_1 lb_first_missing_1)
  (retF (fun _ => some (true, D.non))))))
def φ_first_missing : Phi := phi 7 g_first_missing
theorem ok_first_missing (hx : NoE CX) (Df : Def K mg c "first_missing" s_first_missing ["page", "piece"]) (m_enumerate : mg "enumerate" = none) (m_len : mg "len" = none) : Okd P w K mg base CX cs 2 "first_missing" 2 φ_first_missing :=
  have sc := sc_first_missing
  fnD (k := 1) Df sc fun f A outer s H E R hr sR hT => (sss_cons (ss_unpack (se_var 1) (pg_or (pg_tup (n := 3) rfl (pgs_cons (pg_name (i := 2) sc.nd rfl (by first | exact Or.inl rfl | exact Or.inr rfl)) (pgs_cons (pg_name (i := 3) sc.nd rfl (by first | exact Or.inl rfl | exact Or.inr rfl)) (pgs_cons (pg_name (i := 4) sc.nd rfl (by first | exact Or.inl rfl | exact Or.inr rfl)) pgs_nil)))) (pg_unl (n := 3) rfl (pgs_cons (pg_name (i := 2) sc.nd rfl (by first | exact Or.inl rfl | exact Or.inr rfl)) (pgs_cons (pg_name (i := 3) sc.nd rfl (by first | exact Or.inl rfl | exact Or.inr rfl)) (pgs_cons (pg_name (i := 4) sc.nd rfl (by first | exact Or.inl rfl | exact Or.inr rfl)) pgs_nil))))) (tg_or (tg_tup (tgs_cons (tg_name 2) (tgs_cons (tg_name 3) (tgs_cons (tg_name 4) tgs_nil))) (ar_cons (ar_cons (ar_cons ar_nil)))) (tg_unl (tgs_cons (tg_name 2) (tgs_cons (tg_name 3) (tgs_cons (tg_name 4) tgs_nil))) (ar_cons (ar_cons (ar_cons ar_nil))))))
  (sss_cons (ss_if (c_gt (sb_var 2) (sb_se (se_len (by rfl) m_len (sb_var 0)))).1
  (sss_one (ss_ret se_int))
  sss_nil)
  (sss_cons (ss_for PassesOwn.never rfl (pi_enum (by rfl) m_enumerate (sa_cons (se_var 3) sa_nil)) ii_enum (pg_tup (n := 2) rfl (pgs_cons (pg_name (i := 5) sc.nd rfl (by first | exact Or.inl rfl | exact Or.inr rfl)) (pgs_cons (pg_name (i := 6) sc.nd rfl (by first | exact Or.inl rfl | exact Or.inr rfl)) pgs_nil))) (tg_tup (tgs_cons (tg_name 5) (tgs_cons (tg_name 6) tgs_nil)) (ar_cons (ar_cons ar_nil)))
  (sss_one (ss_if (st_w (sw_or (c_ge (sb_se (se_sc (sc_add (se_var 2) (se_var 5)) sR)) (sb_se (se_len (by rfl) m_len (sb_var 0)))).1 (sw_or1 (c_ne hr (sb_ix (sb_var 0) (sb_se (se_sc (sc_add (se_var 2) (se_var 5)) sR))) (sb_var 6)).1)))
  (sss_one (ss_ret (se_var 5)))
  sss_nil)))
  (sss_one (ss_ret se_non)))))
abbrev s_first_unfit : Stmt := topS 13
theorem sc_first_unfit : FnScope ["page", "change", "at", "piece", "line"] ["page", "change"] (L2.defScope s_first_unfit) := ⟨rfl, rfl, rfl, by decide +kernel, rfl, by decide +kernel, by decide +kernel⟩
def tg_first_unfit_1 : TgD :=
  (tupT (consT (nameT 2) (consT (nameT 3) nilT)))
def lb_first_unfit_1 : FS :=
  (seqF (setF 4 (callC φ_first_missing (consA (vE 0) (consA (vE 3) nilA))))
  (ifF (bi (vB 4) (mp (fun _ => some (true, D.non)) (·.2)) notN) (fzF [4] (retF (un1 (consA (vE 2) (consA (vE 4) nilA)) tupD))) nxF))
def g_first_unfit : FS :=
  (seqF (forF (un1 (consA (vE 1) nilA) enumF) tg_first_unfit_1 lb_first_unfit_1)
  (retF (fun _ => some (true, D.non))))
def φ_first_unfit : Phi := phi 5 g_first_unfit
theorem ok_first_unfit (hx : NoE CX) (Df : Def K mg c "first_unfit" s_first_unfit ["page", "change"]) (O_first_missing : Okd P w K mg base CX cs 2 "first_missing" 2 φ_first_missing) (m_enumerate : mg "enumerate" = none) : Okd P w K mg base CX cs 3 "first_unfit" 2 φ_first_unfit :=
  have sc := sc_first_unfit
  fnD (k := 2) Df sc fun f A outer s H E R hr sR hT => (sss_cons (ss_for PassesOwn.never rfl (pi_enum (by rfl) m_enumerate (sa_cons (se_var 1) sa_nil)) ii_enum (pg_tup (n := 2) rfl (pgs_cons (pg_name (i := 2) sc.nd rfl (by first | exact Or.inl rfl | exact Or.inr rfl)) (pgs_cons (pg_name (i := 3) sc.nd rfl (by first | exact Or.inl rfl | exact Or.inr rfl)) pgs_nil))) (tg_tup (tgs_cons (tg_name 2) (tgs_cons (tg_name 3) tgs_nil)) (ar_cons (ar_cons ar_nil)))
  (sss_cons (ss_set 4 sc.nd (sc_fn O_first_missing hT hx hr (by decide) (sa_cons (se_var 0) (sa_cons (se_var 3) sa_nil)) (len_consA (len_consA (fun _ _ h => len_nilA h)))))
  (sss_one (ss_if (c_notN (sb_var 4) (sb_se se_non)).1
  (sss_one (ss_fz [4] sR (ss_ret (se_tup (sa_cons (se_var 2) (sa_cons (se_var 4) sa_nil))))))
  sss_nil))))
  (sss_one (ss_ret se_non)))
abbrev s_replaced : Stmt := topS 14
theorem sc_replaced : FnScope ["page", "change", "told", "at", "place", "takes", "puts"] ["page", "change"] (L2.defScope s_replaced) := ⟨rfl, rfl, rfl, by decide +kernel, rfl, by decide +kernel, by decide +kernel⟩
def tg_replaced_1 : TgD :=
  (tupT (consT (nameT 4) (consT (nameT 5) (consT (nameT 6) nilT))))
def lb_replaced_1 : FS :=
  (seqF (ownF 2 (consA (mp (slF (vE 0) (un1 (vB 3) intO) (un1 (vB 4) intO) cutC) frz) nilA) extOp)
  (seqF (ownF 2 (consA (vE 6) nilA) extOp)
  (setF 3 (bi (vE 4) (un1 (vB 5) lenD) addC))))
def g_replaced : FS :=
  (seqF (setF 2 (un1 nilA ownC))
  (seqF (setF 3 (mp (fun _ => some (true, D.int 0)) dC))
  (seqF (forF (un1 (vE 1) itemsE) tg_replaced_1 lb_replaced_1)
  (seqF (ownF 2 (consA (mp (slF (vE 0) (un1 (vB 3) intO) (fun _ => some none) cutC) frz) nilA) extOp)
  (fzF [2] (retF (vE 2)))))))
def φ_replaced : Phi := phi 7 g_replaced
theorem ok_replaced (hx : NoE CX) (Df : Def K mg c "replaced" s_replaced ["page", "change"]) (m_len : mg "len" = none) : Okd P w K mg base CX cs 2 "replaced" 2 φ_replaced :=
  have sc := sc_replaced
  fnD (k := 1) Df sc fun f A outer s H E R hr sR hT => (sss_cons (ss_set 2 sc.nd (sc_lst sa_nil))
  (sss_cons (ss_set 3 sc.nd (sc_se se_int))
  (sss_cons (ss_for PassesOwn.never rfl (pi_list (se_var 1)) ii_list (pg_tup (n := 3) rfl (pgs_cons (pg_name (i := 4) sc.nd rfl (by first | exact Or.inl rfl | exact Or.inr rfl)) (pgs_cons (pg_name (i := 5) sc.nd rfl (by first | exact Or.inl rfl | exact Or.inr rfl)) (pgs_cons (pg_name (i := 6) sc.nd rfl (by first | exact Or.inl rfl | exact Or.inr rfl)) pgs_nil)))) (tg_tup (tgs_cons (tg_name 4) (tgs_cons (tg_name 5) (tgs_cons (tg_name 6) tgs_nil))) (ar_cons (ar_cons (ar_cons ar_nil))))
  (sss_cons (ss_extend 2 (sa_cons (se_sc (sc_slice (se_var 0) (so_some (sb_var 3)) (so_some (sb_var 4))) sR) sa_nil))
  (sss_cons (ss_extend 2 (sa_cons (se_var 6) sa_nil))
  (sss_one (ss_set 3 sc.nd (sc_add (se_var 4) (se_len (by rfl) m_len (sb_var 5))))))))
  (sss_cons (ss_extend 2 (sa_cons (se_sc (sc_slice (se_var 0) (so_some (sb_var 3)) so_none) sR) sa_nil))
  (sss_one (ss_fz [2] sR (ss_ret (se_var 2))))))))
abbrev s_is_number : Stmt := topS 20
theorem sc_is_number : FnScope ["value"] ["value"] (L2.defScope s_is_number) := ⟨rfl, rfl, rfl, by decide +kernel, rfl, by decide +kernel, by decide +kernel⟩
def g_is_number : FS :=
  (retF (andE (un1 (vB 0) (isiE .int)) (un1 (mp (un1 (vB 0) (isiE .bool)) (·.2)) notD)))
def φ_is_number : Phi := phi 1 g_is_number
theorem ok_is_number (hx : NoE CX) (Df : Def K mg c "is_number" s_is_number ["value"]) (m_bool : mg "bool" = none) (m_int : mg "int" = none) (m_isinstance : mg "isinstance" = none) : Okd P w K mg base CX cs 2 "is_number" 1 φ_is_number :=
  have sc := sc_is_number
  fnD (k := 1) Df sc fun f A outer s H E R hr sR hT => (sss_one (ss_ret (se_andV (se_isi .int (by rfl) m_isinstance (sb_var 0) (by rfl) m_int (by decide +kernel)) (se_one (se_not (sb_se (se_isi .bool (by rfl) m_isinstance (sb_var 0) (by rfl) m_bool (by decide +kernel))))))))
abbrev s_is_line : Stmt := topS 21
theorem sc_is_line : FnScope ["value"] ["value"] (L2.defScope s_is_line) := ⟨rfl, rfl, rfl, by decide +kernel, rfl, by decide +kernel, by decide +kernel⟩
def g_is_line : FS :=
  (retF (andE (un1 (vB 0) (isiE .str)) (andE (un1 (vB 0) asciiD) (un1 (vB 0) printD))))
def φ_is_line : Phi := phi 1 g_is_line
theorem ok_is_line (hx : NoE CX) (Df : Def K mg c "is_line" s_is_line ["value"]) (m_isinstance : mg "isinstance" = none) (m_str : mg "str" = none) : Okd P w K mg base CX cs 2 "is_line" 1 φ_is_line :=
  have sc := sc_is_line
  fnD (k := 1) Df sc fun f A outer s H E R hr sR hT => (sss_one (ss_ret (se_andV (se_isi .str (by rfl) m_isinstance (sb_var 0) (by rfl) m_str (by decide +kernel)) (se_andV (se_isascii (sb_var 0)) (se_one (se_isprint (sb_var 0)))))))
abbrev s_are_lines : Stmt := topS 22
theorem sc_are_lines : FnScope ["value", "line"] ["value"] (L2.defScope s_are_lines) := ⟨rfl, rfl, rfl, by decide +kernel, rfl, by decide +kernel, by decide +kernel⟩
def tg_are_lines_1 : TgD :=
  (nameT 1)
def el_are_lines_1 : FE :=
  (mp (callC φ_is_line (consA (vE 1) nilA)) frz)
def g_are_lines : FS :=
  (retF (andE (un1 (vB 0) (isiE .list)) (allF (un1 (vE 0) itemsE) ([("line", 1)].map (·.2)) tg_are_lines_1 (fun _ => some true) el_are_lines_1)))
def φ_are_lines : Phi := phi 2 g_are_lines
theorem ok_are_lines (hx : NoE CX) (Df : Def K mg c "are_lines" s_are_lines ["value"]) (O_is_line : Okd P w K mg base CX cs 2 "is_line" 1 φ_is_line) (m_all : mg "all" = none) (m_isinstance : mg "isinstance" = none) (m_list : mg "list" = none) (hP : (c, Pt) ∈ cs) (TB : TabB base mg c Pt) : Okd P w K mg base CX cs 4 "are_lines" 1 φ_are_lines :=
  have sc := sc_are_lines
  fnD (k := 3) Df sc fun f A outer s H E R hr sR hT => (sss_one (ss_ret (se_andV (se_isi .list (by rfl) m_isinstance (sb_var 0) (by rfl) m_list (by decide +kernel)) (se_one (se_allG (own := [("line", 1)]) (k := 2) hT hP hr rfl sc.nd (by rfl) m_all TB (by rfl) (blkOk_by (by rfl)) (by decide +kernel) (by decide +kernel) rfl (pi_list (se_var 0)) ii_list (fun _ _ _ _ _ _ _ hr1 => (pg_name (i := 1) sc.nd rfl (by first | exact Or.inl rfl | exact Or.inr rfl))) (tg_name 1) (by decide) (fun _ _ _ _ _ _ _ hr1 => pts_nil) tt_yes (fun _ _ _ _ _ _ _ hr1 => (se_sc (sc_fn O_is_line hT hx hr1 (by decide) (sa_cons (se_var 1) sa_nil) (len_consA (fun _ _ h => len_nilA h))) sR)))))))
abbrev s_is_page : Stmt := topS 23
theorem sc_is_page : FnScope ["value"] ["value"] (L2.defScope s_is_page) := ⟨rfl, rfl, rfl, by decide +kernel, rfl, by decide +kernel, by decide +kernel⟩
def g_is_page : FS :=
  (retF (andE (mp (callC φ_are_lines (consA (vE 0) nilA)) frz) (blE (bi (mp (un1 (vB 0) lenD) (·.2)) (mp (fun _ => some (true, D.int 2000)) (·.2)) (cI le2)))))
def φ_is_page : Phi := phi 1 g_is_page
theorem ok_is_page (hx : NoE CX) (Df : Def K mg c "is_page" s_is_page ["value"]) (O_are_lines : Okd P w K mg base CX cs 4 "are_lines" 1 φ_are_lines) (m_len : mg "len" = none) {t_MOST_PAGE_LINES : Tok} (g_MOST_PAGE_LINES : mg "MOST_PAGE_LINES" = some (.int 2000 t_MOST_PAGE_LINES)) : Okd P w K mg base CX cs 5 "is_page" 1 φ_is_page :=
  have sc := sc_is_page
  fnD (k := 4) Df sc fun f A outer s H E R hr sR hT => (sss_one (ss_ret (se_andV (se_sc (sc_fn O_are_lines hT hx hr (by decide) (sa_cons (se_var 0) sa_nil) (len_consA (fun _ _ h => len_nilA h))) sR) (se_one (c_le (sb_se (se_len (by rfl) m_len (sb_var 0))) (sb_se (se_gint (i := 2000) (by rfl) g_MOST_PAGE_LINES))).2))))
abbrev s_is_piece : Stmt := topS 24
theorem sc_is_piece : FnScope ["value", "place", "takes", "puts"] ["value"] (L2.defScope s_is_piece) := ⟨rfl, rfl, rfl, by decide +kernel, rfl, by decide +kernel, by decide +kernel⟩
def g_is_piece : FS :=
  (seqF (ifF (orF (mp (un1 (mp (un1 (vB 0) (isiE .tuple)) (·.2)) boolD) (!·)) (bi (mp (un1 (vB 0) lenD) (·.2)) (mp (fun _ => some (true, D.int 3)) (·.2)) neD)) (retF (fun _ => some (true, D.bl false))) nxF)
  (seqF (unpF (vE 0) (orT (tupT (consT (nameT 1) (consT (nameT 2) (consT (nameT 3) nilT)))) (unlT (consT (nameT 1) (consT (nameT 2) (consT (nameT 3) nilT))))))
  (seqF (ifF (orF (mp (un1 (mp (mp (callC φ_is_number (consA (vE 1) nilA)) frz) (·.2)) boolD) (!·)) (bi (vB 1) (mp (fun _ => some (true, D.int 0)) (·.2)) (cI lt2))) (retF (fun _ => some (true, D.bl false))) nxF)
  (retF (andE (mp (callC φ_are_lines (consA (vE 2) nilA)) frz) (andE (mp (callC φ_are_lines (consA (vE 3) nilA)) frz) (blE (bi (mp (mp (bi (un1 (vB 2) lenD) (un1 (vB 3) lenD) addC) frz) (·.2)) (mp (fun _ => some (true, D.int 0)) (·.2)) (cI gt2)))))))))
def φ_is_piece : Phi := phi 4 g_is_piece
theorem ok_is_piece (hx : NoE CX) (Df : Def K mg c "is_piece" s_is_piece ["value"]) (O_is_number : Okd P w K mg base CX cs 2 "is_number" 1 φ_is_number) (O_are_lines : Okd P w K mg base CX cs 4 "are_lines" 1 φ_are_lines) (m_isinstance : mg "isinstance" = none) (m_len : mg "len" = none) (m_tuple : mg "tuple" = none) : Okd P w K mg base CX cs 5 "is_piece" 1 φ_is_piece :=
  have sc := sc_is_piece
  fnD (k := 4) Df sc fun f A outer s H E R hr sR hT => (sss_cons (ss_if (st_w (sw_or (st_not (st_val (sb_se (se_isi .tuple (by rfl) m_isinstance (sb_var 0) (by rfl) m_tuple (by decide +kernel))))) (sw_or1 (c_ne hr (sb_se (se_len (by rfl) m_len (sb_var 0))) (sb_se se_int)).1)))
  (sss_one (ss_ret se_bl))
  sss_nil)
  (sss_cons (ss_unpack (se_var 0) (pg_or (pg_tup (n := 3) rfl (pgs_cons (pg_name (i := 1) sc.nd rfl (by first | exact Or.inl rfl | exact Or.inr rfl)) (pgs_cons (pg_name (i := 2) sc.nd rfl (by first | exact Or.inl rfl | exact Or.inr rfl)) (pgs_cons (pg_name (i := 3) sc.nd rfl (by first | exact Or.inl rfl | exact Or.inr rfl)) pgs_nil)))) (pg_unl (n := 3) rfl (pgs_cons (pg_name (i := 1) sc.nd rfl (by first | exact Or.inl rfl | exact Or.inr rfl)) (pgs_cons (pg_name (i := 2) sc.nd rfl (by first | exact Or.inl rfl | exact Or.inr rfl)) (pgs_cons (pg_name (i := 3) sc.nd rfl (by first | exact Or.inl rfl | exact Or.inr rfl)) pgs_nil))))) (tg_or (tg_tup (tgs_cons (tg_name 1) (tgs_cons (tg_name 2) (tgs_cons (tg_name 3) tgs_nil))) (ar_cons (ar_cons (ar_cons ar_nil)))) (tg_unl (tgs_cons (tg_name 1) (tgs_cons (tg_name 2) (tgs_cons (tg_name 3) tgs_nil))) (ar_cons (ar_cons (ar_cons ar_nil))))))
  (sss_cons (ss_if (st_w (sw_or (st_not (st_val (sb_se (se_sc (sc_fn O_is_number hT hx hr (by decide) (sa_cons (se_var 1) sa_nil) (len_consA (fun _ _ h => len_nilA h))) sR)))) (sw_or1 (c_lt (sb_var 1) (sb_se se_int)).1)))
  (sss_one (ss_ret se_bl))
  sss_nil)
  (sss_one (ss_ret (se_andV (se_sc (sc_fn O_are_lines hT hx hr (by decide) (sa_cons (se_var 2) sa_nil) (len_consA (fun _ _ h => len_nilA h))) sR) (se_andV (se_sc (sc_fn O_are_lines hT hx hr (by decide) (sa_cons (se_var 3) sa_nil) (len_consA (fun _ _ h => len_nilA h))) sR) (se_one (c_gt (sb_se (se_sc (sc_add (se_len (by rfl) m_len (sb_var 2)) (se_len (by rfl) m_len (sb_var 3))) sR)) (sb_se se_int)).2))))))))
abbrev s_are_apart : Stmt := topS 25
theorem sc_are_apart : FnScope ["pieces", "ahead", "piece"] ["pieces"] (L2.defScope s_are_apart) := ⟨rfl, rfl, rfl, by decide +kernel, rfl, by decide +kernel, by decide +kernel⟩
def tg_are_apart_1 : TgD :=
  (tupT (consT (nameT 1) (consT (nameT 2) nilT)))
def lb_are_apart_1 : FS :=
  (ifF (bi (bi (vB 2) (mp (fun _ => some (true, D.int 0)) (·.2)) itemB) (mp (mp (callC φ_end_of (consA (vE 1) nilA)) frz) (·.2)) (cI le2)) (retF (fun _ => some (true, D.bl false))) nxF)
def g_are_apart : FS :=
  (seqF (forF (un1 (consA (vE 0) (consA (mp (slF (vE 0) (un1 (mp (fun _ => some (true, D.int 1)) (·.2)) intO) (fun _ => some none) cutC) frz) nilA)) zipF) tg_are_apart_1 lb_are_apart_1)
  (retF (fun _ => some (true, D.bl true))))
def φ_are_apart : Phi := phi 3 g_are_apart
theorem ok_are_apart (hx : NoE CX) (Df : Def K mg c "are_apart" s_are_apart ["pieces"]) (O_end_of : Okd P w K mg base CX cs 2 "end_of" 1 φ_end_of) (m_zip : mg "zip" = none) : Okd P w K mg base CX cs 3 "are_apart" 1 φ_are_apart :=
  have sc := sc_are_apart
  fnD (k := 2) Df sc fun f A outer s H E R hr sR hT => (sss_cons (ss_for PassesOwn.never rfl (pi_zip (by rfl) m_zip (sa_cons (se_var 0) (sa_cons (se_sc (sc_slice (se_var 0) (so_some (sb_se se_int)) so_none) sR) sa_nil))) ii_zip (pg_tup (n := 2) rfl (pgs_cons (pg_name (i := 1) sc.nd rfl (by first | exact Or.inl rfl | exact Or.inr rfl)) (pgs_cons (pg_name (i := 2) sc.nd rfl (by first | exact Or.inl rfl | exact Or.inr rfl)) pgs_nil))) (tg_tup (tgs_cons (tg_name 1) (tgs_cons (tg_name 2) tgs_nil)) (ar_cons (ar_cons ar_nil)))
  (sss_one (ss_if (c_le (sb_ix (sb_var 2) (sb_se se_int)) (sb_se (se_sc (sc_fn O_end_of hT hx hr (by decide) (sa_cons (se_var 1) sa_nil) (len_consA (fun _ _ h => len_nilA h))) sR))).1
  (sss_one (ss_ret se_bl))
  sss_nil)))
  (sss_one (ss_ret se_bl)))
abbrev s_is_told_change : Stmt := topS 26
theorem sc_is_told_change : FnScope ["value", "piece"] ["value"] (L2.defScope s_is_told_change) := ⟨rfl, rfl, rfl, by decide +kernel, rfl, by decide +kernel, by decide +kernel⟩
def tg_is_told_change_1 : TgD :=
  (nameT 1)
def el_is_told_change_1 : FE :=
  (mp (callC φ_is_piece (consA (vE 1) nilA)) frz)
def g_is_told_change : FS :=
  (retF (andE (un1 (vB 0) (isiE .list)) (andE (allF (un1 (vE 0) itemsE) ([("piece", 1)].map (·.2)) tg_is_told_change_1 (fun _ => some true) el_is_told_change_1) (mp (callC φ_are_apart (consA (vE 0) nilA)) frz))))
def φ_is_told_change : Phi := phi 2 g_is_told_change
theorem ok_is_told_change (hx : NoE CX) (Df : Def K mg c "is_told_change" s_is_told_change ["value"]) (O_is_piece : Okd P w K mg base CX cs 5 "is_piece" 1 φ_is_piece) (O_are_apart : Okd P w K mg base CX cs 3 "are_apart" 1 φ_are_apart) (m_all : mg "all" = none) (m_isinstance : mg "isinstance" = none) (m_list : mg "list" = none) (hP : (c, Pt) ∈ cs) (TB : TabB base mg c Pt) : Okd P w K mg base CX cs 7 "is_told_change" 1 φ_is_told_change :=
  have sc := sc_is_told_change
  fnD (k := 6) Df sc fun f A outer s H E R hr sR hT => (sss_one (ss_ret (se_andV (se_isi .list (by rfl) m_isinstance (sb_var 0) (by rfl) m_list (by decide +kernel)) (se_andV (se_allG (own := [("piece", 1)]) (k := 5) hT hP hr rfl sc.nd (by rfl) m_all TB (by rfl) (blkOk_by (by rfl)) (by decide +kernel) (by decide +kernel) rfl (pi_list (se_var 0)) ii_list (fun _ _ _ _ _ _ _ hr1 => (pg_name (i := 1) sc.nd rfl (by first | exact Or.inl rfl | exact Or.inr rfl))) (tg_name 1) (by decide) (fun _ _ _ _ _ _ _ hr1 => pts_nil) tt_yes (fun _ _ _ _ _ _ _ hr1 => (se_sc (sc_fn O_is_piece hT hx hr1 (by decide) (sa_cons (se_var 1) sa_nil) (len_consA (fun _ _ h => len_nilA h))) sR))) (se_one (se_sc (sc_fn O_are_apart hT hx hr (by decide) (sa_cons (se_var 0) sa_nil) (len_consA (fun _ _ h => len_nilA h))) sR))))))
abbrev s_is_within_bounds : Stmt := topS 27
theorem sc_is_within_bounds : FnScope ["piece", "place", "takes", "puts"] ["piece"] (L2.defScope s_is_within_bounds) := ⟨rfl, rfl, rfl, by decide +kernel, rfl, by decide +kernel, by decide +kernel⟩
def g_is_within_bounds : FS :=
  (seqF (unpF (vE 0) (orT (tupT (consT (nameT 1) (consT (nameT 2) (consT (nameT 3) nilT)))) (unlT (consT (nameT 1) (consT (nameT 2) (consT (nameT 3) nilT))))))
  (retF (andE (blE (bi (vB 1) (mp (fun _ => some (true, D.int 2000)) (·.2)) (cI le2))) (andE (blE (bi (mp (un1 (vB 2) lenD) (·.2)) (mp (fun _ => some (true, D.int 500)) (·.2)) (cI le2))) (blE (bi (mp (un1 (vB 3) lenD) (·.2)) (mp (fun _ => some (true, D.int 500)) (·.2)) (cI le2)))))))
def φ_is_within_bounds : Phi := phi 4 g_is_within_bounds
theorem ok_is_within_bounds (hx : NoE CX) (Df : Def K mg c "is_within_bounds" s_is_within_bounds ["piece"]) (m_len : mg "len" = none) {t_MOST_PIECE_LINES : Tok} (g_MOST_PIECE_LINES : mg "MOST_PIECE_LINES" = some (.int 500 t_MOST_PIECE_LINES)) {t_MOST_PLACE : Tok} (g_MOST_PLACE : mg "MOST_PLACE" = some (.int 2000 t_MOST_PLACE)) : Okd P w K mg base CX cs 2 "is_within_bounds" 1 φ_is_within_bounds :=
  have sc := sc_is_within_bounds
  fnD (k := 1) Df sc fun f A outer s H E R hr sR hT => (sss_cons (ss_unpack (se_var 0) (pg_or (pg_tup (n := 3) rfl (pgs_cons (pg_name (i := 1) sc.nd rfl (by first | exact Or.inl rfl | exact Or.inr rfl)) (pgs_cons (pg_name (i := 2) sc.nd rfl (by first | exact Or.inl rfl | exact Or.inr rfl)) (pgs_cons (pg_name (i := 3) sc.nd rfl (by first | exact Or.inl rfl | exact Or.inr rfl)) pgs_nil)))) (pg_unl (n := 3) rfl (pgs_cons (pg_name (i := 1) sc.nd rfl (by first | exact Or.inl rfl | exact Or.inr rfl)) (pgs_cons (pg_name (i := 2) sc.nd rfl (by first | exact Or.inl rfl | exact Or.inr rfl)) (pgs_cons (pg_name (i := 3) sc.nd rfl (by first | exact Or.inl rfl | exact Or.inr rfl)) pgs_nil))))) (tg_or (tg_tup (tgs_cons (tg_name 1) (tgs_cons (tg_name 2) (tgs_cons (tg_name 3) tgs_nil))) (ar_cons (ar_cons (ar_cons ar_nil)))) (tg_unl (tgs_cons (tg_name 1) (tgs_cons (tg_name 2) (tgs_cons (tg_name 3) tgs_nil))) (ar_cons (ar_cons (ar_cons ar_nil))))))
  (sss_one (ss_ret (se_andV (c_le (sb_var 1) (sb_se (se_gint (i := 2000) (by rfl) g_MOST_PLACE))).2 (se_andV (c_le (sb_se (se_len (by rfl) m_len (sb_var 2))) (sb_se (se_gint (i := 500) (by rfl) g_MOST_PIECE_LINES))).2 (se_one (c_le (sb_se (se_len (by rfl) m_len (sb_var 3))) (sb_se (se_gint (i := 500) (by rfl) g_MOST_PIECE_LINES))).2))))))
abbrev s_is_change : Stmt := topS 28
theorem sc_is_change : FnScope ["value", "piece"] ["value"] (L2.defScope s_is_change) := ⟨rfl, rfl, rfl, by decide +kernel, rfl, by decide +kernel, by decide +kernel⟩
def tg_is_change_1 : TgD :=
  (nameT 1)
def el_is_change_1 : FE :=
  (mp (callC φ_is_within_bounds (consA (vE 1) nilA)) frz)
def g_is_change : FS :=
  (seqF (ifF (orF (mp (un1 (mp (mp (callC φ_is_told_change (consA (vE 0) nilA)) frz) (·.2)) boolD) (!·)) (bi (mp (un1 (vB 0) lenD) (·.2)) (mp (fun _ => some (true, D.int 500)) (·.2)) (cI gt2))) (retF (fun _ => some (true, D.bl false))) nxF)
  (retF (allF (un1 (vE 0) itemsE) ([("piece", 1)].map (·.2)) tg_is_change_1 (fun _ => some true) el_is_change_1)))
def φ_is_change : Phi := phi 2 g_is_change
theorem ok_is_change (hx : NoE CX) (Df : Def K mg c "is_change" s_is_change ["value"]) (O_is_told_change : Okd P w K mg base CX cs 7 "is_told_change" 1 φ_is_told_change) (O_is_within_bounds : Okd P w K mg base CX cs 2 "is_within_bounds" 1 φ_is_within_bounds) (m_all : mg "all" = none) (m_len : mg "len" = none) {t_MOST_PIECES : Tok} (g_MOST_PIECES : mg "MOST_PIECES" = some (.int 500 t_MOST_PIECES)) (hP : (c, Pt) ∈ cs) (TB : TabB base mg c Pt) : Okd P w K mg base CX cs 8 "is_change" 1 φ_is_change :=
  have sc := sc_is_change
  fnD (k := 7) Df sc fun f A outer s H E R hr sR hT => (sss_cons (ss_if (st_w (sw_or (st_not (st_val (sb_se (se_sc (sc_fn O_is_told_change hT hx hr (by decide) (sa_cons (se_var 0) sa_nil) (len_consA (fun _ _ h => len_nilA h))) sR)))) (sw_or1 (c_gt (sb_se (se_len (by rfl) m_len (sb_var 0))) (sb_se (se_gint (i := 500) (by rfl) g_MOST_PIECES))).1)))
  (sss_one (ss_ret se_bl))
  sss_nil)
  (sss_one (ss_ret (se_allG (own := [("piece", 1)]) (k := 6) hT hP hr rfl sc.nd (by rfl) m_all TB (by rfl) (blkOk_by (by rfl)) (by decide +kernel) (by decide +kernel) rfl (pi_list (se_var 0)) ii_list (fun _ _ _ _ _ _ _ hr1 => (pg_name (i := 1) sc.nd rfl (by first | exact Or.inl rfl | exact Or.inr rfl))) (tg_name 1) (by decide) (fun _ _ _ _ _ _ _ hr1 => pts_nil) tt_yes (fun _ _ _ _ _ _ _ hr1 => (se_sc (sc_fn O_is_within_bounds hT hx hr1 (by decide) (sa_cons (se_var 1) sa_nil) (len_consA (fun _ _ h => len_nilA h))) sR))))))
abbrev s_check_page : Stmt := topS 29
theorem sc_check_page : FnScope ["value"] ["value"] (L2.defScope s_check_page) := ⟨rfl, rfl, rfl, by decide +kernel, rfl, by decide +kernel, by decide +kernel⟩
def g_check_page : FS :=
  (ifF (mp (un1 (mp (mp (callC φ_is_page (consA (vE 0) nilA)) frz) (·.2)) boolD) (!·)) noF nxF)
def φ_check_page : Phi := phi 1 g_check_page
theorem ok_check_page (hx : NoE CX) (Df : Def K mg c "check_page" s_check_page ["value"]) (O_is_page : Okd P w K mg base CX cs 5 "is_page" 1 φ_is_page) : Okd P w K mg base CX cs 6 "check_page" 1 φ_check_page :=
  have sc := sc_check_page
  fnD (k := 5) Df sc fun f A outer s H E R hr sR hT => (sss_one (ss_if (st_not (st_val (sb_se (se_sc (sc_fn O_is_page hT hx hr (by decide) (sa_cons (se_var 0) sa_nil) (len_consA (fun _ _ h => len_nilA h))) sR))))
  (sss_one ss_never)
  sss_nil))
abbrev s_check_change : Stmt := topS 30
theorem sc_check_change : FnScope ["value"] ["value"] (L2.defScope s_check_change) := ⟨rfl, rfl, rfl, by decide +kernel, rfl, by decide +kernel, by decide +kernel⟩
def g_check_change : FS :=
  (ifF (mp (un1 (mp (mp (callC φ_is_change (consA (vE 0) nilA)) frz) (·.2)) boolD) (!·)) noF nxF)
def φ_check_change : Phi := phi 1 g_check_change
theorem ok_check_change (hx : NoE CX) (Df : Def K mg c "check_change" s_check_change ["value"]) (O_is_change : Okd P w K mg base CX cs 8 "is_change" 1 φ_is_change) : Okd P w K mg base CX cs 9 "check_change" 1 φ_check_change :=
  have sc := sc_check_change
  fnD (k := 8) Df sc fun f A outer s H E R hr sR hT => (sss_one (ss_if (st_not (st_val (sb_se (se_sc (sc_fn O_is_change hT hx hr (by decide) (sa_cons (se_var 0) sa_nil) (len_consA (fun _ _ h => len_nilA h))) sR))))
  (sss_one ss_never)
  sss_nil))
abbrev s_check_fits : Stmt := topS 31
theorem sc_check_fits : FnScope ["page", "change", "unfit", "piece", "line"] ["page", "change"] (L2.defScope s_check_fits) := ⟨rfl, rfl, rfl, by decide +kernel, rfl, by decide +kernel, by decide +kernel⟩
def g_check_fits : FS :=
  (seqF (setF 2 (callC φ_first_unfit (consA (vE 0) (consA (vE 1) nilA))))
  (ifF (bi (vB 2) (mp (fun _ => some (true, D.non)) (·.2)) notN) (seqF (fzF [2] (unpF (vE 2) (orT (tupT (consT (nameT 3) (consT (nameT 4) nilT))) (unlT (consT (nameT 3) (consT (nameT 4) nilT))))))
  noF) nxF))
def φ_check_fits : Phi := phi 5 g_check_fits
theorem ok_check_fits (hx : NoE CX) (Df : Def K mg c "check_fits" s_check_fits ["page", "change"]) (O_first_unfit : Okd P w K mg base CX cs 3 "first_unfit" 2 φ_first_unfit) : Okd P w K mg base CX cs 4 "check_fits" 2 φ_check_fits :=
  have sc := sc_check_fits
  fnD (k := 3) Df sc fun f A outer s H E R hr sR hT => (sss_cons (ss_set 2 sc.nd (sc_fn O_first_unfit hT hx hr (by decide) (sa_cons (se_var 0) (sa_cons (se_var 1) sa_nil)) (len_consA (len_consA (fun _ _ h => len_nilA h)))))
  (sss_one (ss_if (c_notN (sb_var 2) (sb_se se_non)).1
  (sss_cons (ss_fz [2] sR (ss_unpack (se_var 2) (pg_or (pg_tup (n := 2) rfl (pgs_cons (pg_name (i := 3) sc.nd rfl (by first | exact Or.inl rfl | exact Or.inr rfl)) (pgs_cons (pg_name (i := 4) sc.nd rfl (by first | exact Or.inl rfl | exact Or.inr rfl)) pgs_nil))) (pg_unl (n := 2) rfl (pgs_cons (pg_name (i := 3) sc.nd rfl (by first | exact Or.inl rfl | exact Or.inr rfl)) (pgs_cons (pg_name (i := 4) sc.nd rfl (by first | exact Or.inl rfl | exact Or.inr rfl)) pgs_nil)))) (tg_or (tg_tup (tgs_cons (tg_name 3) (tgs_cons (tg_name 4) tgs_nil)) (ar_cons (ar_cons ar_nil))) (tg_unl (tgs_cons (tg_name 3) (tgs_cons (tg_name 4) tgs_nil)) (ar_cons (ar_cons ar_nil))))))
  (sss_one ss_never))
  sss_nil)))
abbrev s__last_end : Stmt := topS 35
theorem sc__last_end : FnScope ["change"] ["change"] (L2.defScope s__last_end) := ⟨rfl, rfl, rfl, by decide +kernel, rfl, by decide +kernel, by decide +kernel⟩
def g__last_end : FS :=
  (seqF (ifF (mp (un1 (vB 0) truD) (!·)) (retF (fun _ => some (true, D.int 0))) nxF)
  (retF (mp (callC φ_end_of (consA (xvE 0 (un1 (mp (fun _ => some (true, D.int 1)) (·.2)) negD)) nilA)) frz)))
def φ__last_end : Phi := phi 1 g__last_end
theorem ok__last_end (hx : NoE CX) (Df : Def K mg c "_last_end" s__last_end ["change"]) (O_end_of : Okd P w K mg base CX cs 2 "end_of" 1 φ_end_of) : Okd P w K mg base CX cs 3 "_last_end" 1 φ__last_end :=
  have sc := sc__last_end
  fnD (k := 2) Df sc fun f A outer s H E R hr sR hT => (sss_cons (ss_if (st_not (st_tru (sb_var 0)))
  (sss_one (ss_ret se_int))
  sss_nil)
  (sss_one (ss_ret (se_sc (sc_fn O_end_of hT hx hr (by decide) (sa_cons (se_ixv 0 (se_neg (sb_se se_int))) sa_nil) (len_consA (fun _ _ h => len_nilA h))) sR))))
abbrev s__first_clash : Stmt := topS 36
theorem sc__first_clash : FnScope ["between", "other", "at", "place", "takes", "_", "by", "line", "row"] ["between", "other"] (L2.defScope s__first_clash) := ⟨rfl, rfl, rfl, by decide +kernel, rfl, by decide +kernel, by decide +kernel⟩
def tg__first_clash_1 : TgD :=
  (tupT (consT (nameT 6) (consT (nameT 7) nilT)))
def lb__first_clash_1 : FS :=
  (seqF (setF 8 (mp (xvE 0 (mp (bi (vE 3) (vE 6) addC) frz)) dC))
  (ifF (andF (un1 (mp (un1 (vB 8) (isiE .str)) (·.2)) boolD) (bi (vB 8) (vB 7) neD)) (retF (un1 (consA (vE 2) (consA (vE 6) nilA)) tupD)) nxF))
def tg__first_clash_2 : TgD :=
  (tupT (consT (nameT 2) (consT (tupT (consT (nameT 3) (consT (nameT 4) (consT (nameT 5) nilT)))) nilT)))
def lb__first_clash_2 : FS :=
  (forF (un1 (consA (vE 4) nilA) enumF) tg__first_clash_1 lb__first_clash_1)
def g__first_clash : FS :=
  (seqF (forF (un1 (consA (vE 1) nilA) enumF) tg__first_clash_2 lb__first_clash_2)
  (retF (fun _ => some (true, D.non))))
def φ__first_clash : Phi := phi 9 g__first_clash
theorem ok__first_clash (hx : NoE CX) (Df : Def K mg c "_first_clash" s__first_clash ["between", "other"]) (m_enumerate : mg "enumerate" = none) (m_isinstance : mg "isinstance" = none) (m_str : mg "str" = none) : Okd P w K mg base CX cs 2 "_first_clash" 2 φ__first_clash :=
  have sc := sc__first_clash
  fnD (k := 1) Df sc fun f A outer s H E R hr sR hT => (sss_cons (ss_for PassesOwn.never rfl (pi_enum (by rfl) m_enumerate (sa_cons (se_var 1) sa_nil)) ii_enum (pg_tup (n := 2) rfl (pgs_cons (pg_name (i := 2) sc.nd rfl (by first | exact Or.inl rfl | exact Or.inr rfl)) (pgs_cons (pg_tup (n := 3) rfl (pgs_cons (pg_name (i := 3) sc.nd rfl (by first | exact Or.inl rfl | exact Or.inr rfl)) (pgs_cons (pg_name (i := 4) sc.nd rfl (by first | exact Or.inl rfl | exact Or.inr rfl)) (pgs_cons (pg_name (i := 5) sc.nd rfl (by first | exact Or.inl rfl | exact Or.inr rfl)) pgs_nil)))) pgs_nil))) (tg_tup (tgs_cons (tg_name 2) (tgs_cons (tg_tup (tgs_cons (tg_name 3) (tgs_cons (tg_name 4) (tgs_cons (tg_name 5) tgs_nil))) (ar_cons (ar_cons (ar_cons ar_nil)))) tgs_nil)) (ar_cons (ar_cons ar_nil)))
  (sss_one (ss_for PassesOwn.never rfl (pi_enum (by rfl) m_enumerate (sa_cons (se_var 4) sa_nil)) ii_enum (pg_tup (n := 2) rfl (pgs_cons (pg_name (i := 6) sc.nd rfl (by first | exact Or.inl rfl | exact Or.inr rfl)) (pgs_cons (pg_name (i := 7) sc.nd rfl (by first | exact Or.inl rfl | exact Or.inr rfl)) pgs_nil))) (tg_tup (tgs_cons (tg_name 6) (tgs_cons (tg_name 7) tgs_nil)) (ar_cons (ar_cons ar_nil)))
  (sss_cons (ss_set 8 sc.nd (sc_se (se_ixv 0 (se_sc (sc_add (se_var 3) (se_var 6)) sR))))
  (sss_one (ss_if (st_w (sw_and (st_val (sb_se (se_isi .str (by rfl) m_isinstance (sb_var 8) (by rfl) m_str (by decide +kernel)))) (sw_and1 (c_ne hr (sb_var 8) (sb_var 7)).1)))
  (sss_one (ss_ret (se_tup (sa_cons (se_var 2) (sa_cons (se_var 6) sa_nil)))))
  sss_nil))))))
  (sss_one (ss_ret se_non)))
abbrev s__lines_taken : Stmt := topS 37
theorem sc__lines_taken : FnScope ["one", "other", "between", "taken", "place", "takes", "_", "by", "line", "row"] ["one", "other", "between"] (L2.defScope s__lines_taken) := ⟨rfl, rfl, rfl, by decide +kernel, rfl, by decide +kernel, by decide +kernel⟩
def tg__lines_taken_1 : TgD :=
  (tupT (consT (nameT 7) (consT (nameT 8) nilT)))
def lb__lines_taken_1 : FS :=
  (dputF 3 (mp (bi (vE 4) (vE 7) addC) frz) (vE 8))
def tg__lines_taken_2 : TgD :=
  (tupT (consT (nameT 4) (consT (nameT 5) (consT (nameT 6) nilT))))
def lb__lines_taken_2 : FS :=
  (forF (un1 (consA (vE 5) nilA) enumF) tg__lines_taken_1 lb__lines_taken_1)
def tg__lines_taken_3 : TgD :=
  (tupT (consT (nameT 7) (consT (nameT 8) nilT)))
def lb__lines_taken_3 : FS :=
  (seqF (setF 9 (mp (xvE 2 (mp (bi (vE 4) (vE 7) addC) frz)) dC))
  (ifF (mp (un1 (mp (un1 (vB 9) (isiE .str)) (·.2)) boolD) (!·)) (dputF 3 (vE 9) (vE 8)) nxF))
def tg__lines_taken_4 : TgD :=
  (tupT (consT (nameT 4) (consT (nameT 5) (consT (nameT 6) nilT))))
def lb__lines_taken_4 : FS :=
  (forF (un1 (consA (vE 5) nilA) enumF) tg__lines_taken_3 lb__lines_taken_3)
def g__lines_taken : FS :=
  (seqF (setF 3 dnewF)
  (seqF (forF (un1 (vE 0) itemsE) tg__lines_taken_2 lb__lines_taken_2)
  (seqF (forF (un1 (vE 1) itemsE) tg__lines_taken_4 lb__lines_taken_4)
  (fzF [3] (retF (vE 3))))))
def φ__lines_taken : Phi := phi 10 g__lines_taken
theorem ok__lines_taken (hx : NoE CX) (Df : Def K mg c "_lines_taken" s__lines_taken ["one", "other", "between"]) (m_enumerate : mg "enumerate" = none) (m_isinstance : mg "isinstance" = none) (m_str : mg "str" = none) : Okd P w K mg base CX cs 2 "_lines_taken" 3 φ__lines_taken :=
  have sc := sc__lines_taken
  fnD (k := 1) Df sc fun f A outer s H E R hr sR hT => (sss_cons (ss_set 3 sc.nd sc_dnew)
  (sss_cons (ss_for PassesOwn.never rfl (pi_list (se_var 0)) ii_list (pg_tup (n := 3) rfl (pgs_cons (pg_name (i := 4) sc.nd rfl (by first | exact Or.inl rfl | exact Or.inr rfl)) (pgs_cons (pg_name (i := 5) sc.nd rfl (by first | exact Or.inl rfl | exact Or.inr rfl)) (pgs_cons (pg_name (i := 6) sc.nd rfl (by first | exact Or.inl rfl | exact Or.inr rfl)) pgs_nil)))) (tg_tup (tgs_cons (tg_name 4) (tgs_cons (tg_name 5) (tgs_cons (tg_name 6) tgs_nil))) (ar_cons (ar_cons (ar_cons ar_nil))))
  (sss_one (ss_for PassesOwn.never rfl (pi_enum (by rfl) m_enumerate (sa_cons (se_var 5) sa_nil)) ii_enum (pg_tup (n := 2) rfl (pgs_cons (pg_name (i := 7) sc.nd rfl (by first | exact Or.inl rfl | exact Or.inr rfl)) (pgs_cons (pg_name (i := 8) sc.nd rfl (by first | exact Or.inl rfl | exact Or.inr rfl)) pgs_nil))) (tg_tup (tgs_cons (tg_name 7) (tgs_cons (tg_name 8) tgs_nil)) (ar_cons (ar_cons ar_nil)))
  (sss_one (ss_dput 3 hr (se_sc (sc_add (se_var 4) (se_var 7)) sR) (se_var 8))))))
  (sss_cons (ss_for PassesOwn.never rfl (pi_list (se_var 1)) ii_list (pg_tup (n := 3) rfl (pgs_cons (pg_name (i := 4) sc.nd rfl (by first | exact Or.inl rfl | exact Or.inr rfl)) (pgs_cons (pg_name (i := 5) sc.nd rfl (by first | exact Or.inl rfl | exact Or.inr rfl)) (pgs_cons (pg_name (i := 6) sc.nd rfl (by first | exact Or.inl rfl | exact Or.inr rfl)) pgs_nil)))) (tg_tup (tgs_cons (tg_name 4) (tgs_cons (tg_name 5) (tgs_cons (tg_name 6) tgs_nil))) (ar_cons (ar_cons (ar_cons ar_nil))))
  (sss_one (ss_for PassesOwn.never rfl (pi_enum (by rfl) m_enumerate (sa_cons (se_var 5) sa_nil)) ii_enum (pg_tup (n := 2) rfl (pgs_cons (pg_name (i := 7) sc.nd rfl (by first | exact Or.inl rfl | exact Or.inr rfl)) (pgs_cons (pg_name (i := 8) sc.nd rfl (by first | exact Or.inl rfl | exact Or.inr rfl)) pgs_nil))) (tg_tup (tgs_cons (tg_name 7) (tgs_cons (tg_name 8) tgs_nil)) (ar_cons (ar_cons ar_nil)))
  (sss_cons (ss_set 9 sc.nd (sc_se (se_ixv 2 (se_sc (sc_add (se_var 4) (se_var 7)) sR))))
  (sss_one (ss_if (st_not (st_val (sb_se (se_isi .str (by rfl) m_isinstance (sb_var 9) (by rfl) m_str (by decide +kernel)))))
  (sss_one (ss_dput 3 hr (se_var 9) (se_var 8)))
  sss_nil))))))
  (sss_one (ss_fz [3] sR (ss_ret (se_var 3)))))))
abbrev s__change_to : Stmt := topS 38
theorem sc__change_to : FnScope ["rows", "taken", "change", "place", "puts", "row", "takes", "number"] ["rows", "taken"] (L2.defScope s__change_to) := ⟨rfl, rfl, rfl, by decide +kernel, rfl, by decide +kernel, by decide +kernel⟩
def tg__change_to_1 : TgD :=
  (nameT 7)
def el__change_to_1 : FE :=
  (dsubF 1 (vE 7))
def tg__change_to_2 : TgD :=
  (nameT 5)
def lb__change_to_1 : FS :=
  (ifF (un1 (mp (un1 (vB 5) (isiE .str)) (·.2)) boolD) (ownF 4 (consA (vE 5) nilA) appOp) (seqF (fzF [3] (setF 6 (lcF (un1 (consA (vE 3) (consA (vE 5) nilA)) rng2) ([("number", 7)].map (·.2)) tg__change_to_1 (fun _ => some true) el__change_to_1)))
  (seqF (ifF (orF (un1 (vB 6) truD) (un1 (vB 4) truD)) (fzF [3, 6, 4] (ownF 2 (consA (un1 (consA (vE 3) (consA (vE 6) (consA (vE 4) nilA))) tupD) nilA) appOp)) nxF)
  (seqF (setF 3 (bi (vE 5) (fun _ => some (true, D.int 1)) addC))
  (setF 4 (un1 nilA ownC))))))
def g__change_to : FS :=
  (seqF (setF 2 (un1 nilA ownC))
  (seqF (setF 3 (mp (fun _ => some (true, D.int 0)) dC))
  (seqF (setF 4 (un1 nilA ownC))
  (seqF (forF (un1 (vE 0) itemsE) tg__change_to_2 lb__change_to_1)
  (fzF [2] (retF (vE 2)))))))
def φ__change_to : Phi := phi 8 g__change_to
theorem ok__change_to (hx : NoE CX) (Df : Def K mg c "_change_to" s__change_to ["rows", "taken"]) (m_isinstance : mg "isinstance" = none) (m_range : mg "range" = none) (m_str : mg "str" = none) : Okd P w K mg base CX cs 2 "_change_to" 2 φ__change_to :=
  have sc := sc__change_to
  fnD (k := 1) Df sc fun f A outer s H E R hr sR hT => (sss_cons (ss_set 2 sc.nd (sc_lst sa_nil))
  (sss_cons (ss_set 3 sc.nd (sc_se se_int))
  (sss_cons (ss_set 4 sc.nd (sc_lst sa_nil))
  (sss_cons (ss_for PassesOwn.never rfl (pi_list (se_var 0)) ii_list (pg_name (i := 5) sc.nd rfl (by first | exact Or.inl rfl | exact Or.inr rfl)) (tg_name 5)
  (sss_one (ss_if (st_val (sb_se (se_isi .str (by rfl) m_isinstance (sb_var 5) (by rfl) m_str (by decide +kernel))))
  (sss_one (ss_append 4 (sa_cons (se_var 5) sa_nil)))
  (sss_cons (ss_fz [3] sR (ss_setLc 6 (own := [("number", 7)]) rfl sc.nd (sw_true (by rfl) (by rfl) (by rfl) (by rfl)) (pi_range2 (by rfl) m_range (sa_cons (se_var 3) (sa_cons (se_var 5) sa_nil))) ii_rng2 (blkOk_by (by rfl)) (fun _ _ _ _ _ => (pg_name (i := 7) sc.nd rfl (by first | exact Or.inl rfl | exact Or.inr rfl))) (tg_name 7) (by decide) (fun _ _ _ _ _ => pts_nil) tt_yes (fun _ _ _ _ _ => (se_dsub 1 hr (se_var 7)))))
  (sss_cons (ss_if (st_w (sw_or (st_tru (sb_var 6)) (sw_or1 (st_tru (sb_var 4)))))
  (sss_one (ss_fz [3, 6, 4] sR (ss_append 2 (sa_cons (se_tup (sa_cons (se_var 3) (sa_cons (se_var 6) (sa_cons (se_var 4) sa_nil)))) sa_nil))))
  sss_nil)
  (sss_cons (ss_set 3 sc.nd (sc_add (se_var 5) se_int))
  (sss_one (ss_set 4 sc.nd (sc_lst sa_nil)))))))))
  (sss_one (ss_fz [2] sR (ss_ret (se_var 2))))))))
abbrev s_behind : Stmt := topS 33
theorem sc_behind : FnScope ["one", "other", "many", "between", "clash", "piece", "line"] ["one", "other"] (L2.defScope s_behind) := ⟨rfl, rfl, rfl, by decide +kernel, rfl, by decide +kernel, by decide +kernel⟩
def g_behind : FS :=
  (seqF (dropF (callC φ_check_change (consA (vE 0) nilA)))
  (seqF (dropF (callC φ_check_change (consA (vE 1) nilA)))
  (seqF (setF 2 (bi (mp (bi (mp (callC φ__last_end (consA (vE 0) nilA)) frz) (mp (callC φ__last_end (consA (vE 1) nilA)) frz) addC) frz) (fun _ => some (true, D.int 1)) addC))
  (seqF (setF 3 (callC φ_replaced (consA (mp (un1 (vB 2) lrgD) frz) (consA (vE 0) nilA))))
  (seqF (fzF [3] (setF 4 (callC φ__first_clash (consA (vE 3) (consA (vE 1) nilA)))))
  (seqF (ifF (bi (vB 4) (mp (fun _ => some (true, D.non)) (·.2)) notN) (seqF (fzF [4] (unpF (vE 4) (orT (tupT (consT (nameT 5) (consT (nameT 6) nilT))) (unlT (consT (nameT 5) (consT (nameT 6) nilT))))))
  noF) nxF)
  (fzF [3] (retF (mp (callC φ__change_to (consA (mp (callC φ_replaced (consA (vE 3) (consA (vE 1) nilA))) frz) (consA (mp (callC φ__lines_taken (consA (vE 0) (consA (vE 1) (consA (vE 3) nilA)))) frz) nilA))) frz)))))))))
def φ_behind : Phi := phi 7 g_behind
theorem ok_behind (hx : NoE CX) (Df : Def K mg c "behind" s_behind ["one", "other"]) (O_check_change : Okd P w K mg base CX cs 9 "check_change" 1 φ_check_change) (O__last_end : Okd P w K mg base CX cs 3 "_last_end" 1 φ__last_end) (O_replaced : Okd P w K mg base CX cs 2 "replaced" 2 φ_replaced) (O__first_clash : Okd P w K mg base CX cs 2 "_first_clash" 2 φ__first_clash) (O__change_to : Okd P w K mg base CX cs 2 "_change_to" 2 φ__change_to) (O__lines_taken : Okd P w K mg base CX cs 2 "_lines_taken" 3 φ__lines_taken) (m_list : mg "list" = none) (m_range : mg "range" = none) : Okd P w K mg base CX cs 10 "behind" 2 φ_behind :=
  have sc := sc_behind
  fnD (k := 9) Df sc fun f A outer s H E R hr sR hT => (sss_cons (ss_exprC (sc_fn O_check_change hT hx hr (by decide) (sa_cons (se_var 0) sa_nil) (len_consA (fun _ _ h => len_nilA h))))
  (sss_cons (ss_exprC (sc_fn O_check_change hT hx hr (by decide) (sa_cons (se_var 1) sa_nil) (len_consA (fun _ _ h => len_nilA h))))
  (sss_cons (ss_set 2 sc.nd (sc_add (se_sc (sc_add (se_sc (sc_fn O__last_end hT hx hr (by decide) (sa_cons (se_var 0) sa_nil) (len_consA (fun _ _ h => len_nilA h))) sR) (se_sc (sc_fn O__last_end hT hx hr (by decide) (sa_cons (se_var 1) sa_nil) (len_consA (fun _ _ h => len_nilA h))) sR)) sR) se_int))
  (sss_cons (ss_set 3 sc.nd (sc_fn O_replaced hT hx hr (by decide) (sa_cons (se_sc (sc_listRg rfl (by rfl) m_list (by rfl) m_range (sb_var 2)) sR) (sa_cons (se_var 0) sa_nil)) (len_consA (len_consA (fun _ _ h => len_nilA h)))))
  (sss_cons (ss_fz [3] sR (ss_set 4 sc.nd (sc_fn O__first_clash hT hx hr (by decide) (sa_cons (se_var 3) (sa_cons (se_var 1) sa_nil)) (len_consA (len_consA (fun _ _ h => len_nilA h))))))
  (sss_cons (ss_if (c_notN (sb_var 4) (sb_se se_non)).1
  (sss_cons (ss_fz [4] sR (ss_unpack (se_var 4) (pg_or (pg_tup (n := 2) rfl (pgs_cons (pg_name (i := 5) sc.nd rfl (by first | exact Or.inl rfl | exact Or.inr rfl)) (pgs_cons (pg_name (i := 6) sc.nd rfl (by first | exact Or.inl rfl | exact Or.inr rfl)) pgs_nil))) (pg_unl (n := 2) rfl (pgs_cons (pg_name (i := 5) sc.nd rfl (by first | exact Or.inl rfl | exact Or.inr rfl)) (pgs_cons (pg_name (i := 6) sc.nd rfl (by first | exact Or.inl rfl | exact Or.inr rfl)) pgs_nil)))) (tg_or (tg_tup (tgs_cons (tg_name 5) (tgs_cons (tg_name 6) tgs_nil)) (ar_cons (ar_cons ar_nil))) (tg_unl (tgs_cons (tg_name 5) (tgs_cons (tg_name 6) tgs_nil)) (ar_cons (ar_cons ar_nil))))))
  (sss_one ss_never))
  sss_nil)
  (sss_one (ss_fz [3] sR (ss_ret (se_sc (sc_fn O__change_to hT hx hr (by decide) (sa_cons (se_sc (sc_fn O_replaced hT hx hr (by decide) (sa_cons (se_var 3) (sa_cons (se_var 1) sa_nil)) (len_consA (len_consA (fun _ _ h => len_nilA h)))) sR) (sa_cons (se_sc (sc_fn O__lines_taken hT hx hr (by decide) (sa_cons (se_var 0) (sa_cons (se_var 1) (sa_cons (se_var 3) sa_nil))) (len_consA (len_consA (len_consA (fun _ _ h => len_nilA h))))) sR) sa_nil)) (len_consA (len_consA (fun _ _ h => len_nilA h)))) sR))))))))))
abbrev s__meet : Stmt := topS 39
theorem sc__meet : FnScope ["piece", "against"] ["piece", "against"] (L2.defScope s__meet) := ⟨rfl, rfl, rfl, by decide +kernel, rfl, by decide +kernel, by decide +kernel⟩
def g__meet : FS :=
  (retF (andE (blE (bi (bi (vB 0) (mp (fun _ => some (true, D.int 0)) (·.2)) itemB) (mp (mp (callC φ_end_of (consA (vE 1) nilA)) frz) (·.2)) (cI le2))) (blE (bi (bi (vB 1) (mp (fun _ => some (true, D.int 0)) (·.2)) itemB) (mp (mp (callC φ_end_of (consA (vE 0) nilA)) frz) (·.2)) (cI le2)))))
def φ__meet : Phi := phi 2 g__meet
theorem ok__meet (hx : NoE CX) (Df : Def K mg c "_meet" s__meet ["piece", "against"]) (O_end_of : Okd P w K mg base CX cs 2 "end_of" 1 φ_end_of) : Okd P w K mg base CX cs 3 "_meet" 2 φ__meet :=
  have sc := sc__meet
  fnD (k := 2) Df sc fun f A outer s H E R hr sR hT => (sss_one (ss_ret (se_andV (c_le (sb_ix (sb_var 0) (sb_se se_int)) (sb_se (se_sc (sc_fn O_end_of hT hx hr (by decide) (sa_cons (se_var 1) sa_nil) (len_consA (fun _ _ h => len_nilA h))) sR))).2 (se_one (c_le (sb_ix (sb_var 1) (sb_se se_int)) (sb_se (se_sc (sc_fn O_end_of hT hx hr (by decide) (sa_cons (se_var 0) sa_nil) (len_consA (fun _ _ h => len_nilA h))) sR))).2))))
abbrev s_exchanged : Stmt := topS 34
theorem sc_exchanged : FnScope ["one", "other", "back", "ahead", "piece", "put"] ["one", "other"] (L2.defScope s_exchanged) := ⟨rfl, rfl, rfl, by decide +kernel, rfl, by decide +kernel, by decide +kernel⟩
def tg_exchanged_1 : TgD :=
  (nameT 4)
def tg_exchanged_2 : TgD :=
  (nameT 5)
def el_exchanged_1 : FE :=
  (mp (callC φ__meet (consA (vE 4) (consA (vE 5) nilA))) frz)
def tg_exchanged_3 : TgD :=
  (nameT 4)
def el_exchanged_2 : FE :=
  (mp (callC φ_moved (consA (vE 4) (consA (mp (callC φ_growth_ahead (consA (vE 2) (consA (xvE 4 (fun _ => some (true, D.int 0))) nilA))) frz) nilA))) frz)
def tg_exchanged_4 : TgD :=
  (nameT 4)
def el_exchanged_3 : FE :=
  (mp (callC φ_moved (consA (vE 4) (consA (mp (callC φ_growth_ahead (consA (vE 3) (consA (xvE 4 (fun _ => some (true, D.int 0))) nilA))) frz) nilA))) frz)
def g_exchanged : FS :=
  (seqF (dropF (callC φ_check_change (consA (vE 0) nilA)))
  (seqF (dropF (callC φ_check_change (consA (vE 1) nilA)))
  (seqF (setF 2 (callC φ_turned_about (consA (vE 0) nilA)))
  (seqF (fzF [2] (ifF (un1 (mp (anyF2 (un1 (vE 1) itemsE) ([("piece", 4), ("put", 5)].map (·.2)) tg_exchanged_1 (fun _ => some true) (un1 (vE 2) itemsE) ([("put", 5)].map (·.2)) tg_exchanged_2 (fun _ => some true) el_exchanged_1) (·.2)) boolD) (retF (fun _ => some (true, D.non))) nxF))
  (seqF (fzF [2] (setF 3 (lcF (un1 (vE 1) itemsE) ([("piece", 4)].map (·.2)) tg_exchanged_3 (fun _ => some true) el_exchanged_2)))
  (fzF [3] (retF (un1 (consA (vE 3) (consA (mp (lcF (un1 (vE 0) itemsE) ([("piece", 4)].map (·.2)) tg_exchanged_4 (fun _ => some true) el_exchanged_3) frz) nilA)) tupD))))))))
def φ_exchanged : Phi := phi 6 g_exchanged
theorem ok_exchanged (hx : NoE CX) (Df : Def K mg c "exchanged" s_exchanged ["one", "other"]) (O_check_change : Okd P w K mg base CX cs 9 "check_change" 1 φ_check_change) (O_turned_about : Okd P w K mg base CX cs 2 "turned_about" 1 φ_turned_about) (O__meet : Okd P w K mg base CX cs 3 "_meet" 2 φ__meet) (O_moved : Okd P w K mg base CX cs 2 "moved" 2 φ_moved) (O_growth_ahead : Okd P w K mg base CX cs 4 "growth_ahead" 2 φ_growth_ahead) (m_any : mg "any" = none) (hP : (c, Pt) ∈ cs) (TB : TabB base mg c Pt) : Okd P w K mg base CX cs 10 "exchanged" 2 φ_exchanged :=
  have sc := sc_exchanged
  fnD (k := 9) Df sc fun f A outer s H E R hr sR hT => (sss_cons (ss_exprC (sc_fn O_check_change hT hx hr (by decide) (sa_cons (se_var 0) sa_nil) (len_consA (fun _ _ h => len_nilA h))))
  (sss_cons (ss_exprC (sc_fn O_check_change hT hx hr (by decide) (sa_cons (se_var 1) sa_nil) (len_consA (fun _ _ h => len_nilA h))))
  (sss_cons (ss_set 2 sc.nd (sc_fn O_turned_about hT hx hr (by decide) (sa_cons (se_var 0) sa_nil) (len_consA (fun _ _ h => len_nilA h))))
  (sss_cons (ss_fz [2] sR (ss_if (st_val (sb_se (se_anyG2 (own := [("piece", 4), ("put", 5)]) (own1 := [("put", 5)]) (k := 8) hT hP hr rfl sc.nd (by rfl) m_any TB (by rfl) (blkOk_by (by rfl)) (by decide +kernel) (by decide +kernel) rfl (pi_list (se_var 1)) ii_list (fun _ _ _ _ _ _ _ hr1 => (pg_name (i := 4) sc.nd rfl (by first | exact Or.inl rfl | exact Or.inr rfl))) (tg_name 4) (by decide) (fun _ _ _ _ _ _ _ hr1 => pts_nil) tt_yes (fun _ _ _ _ _ _ _ hr1 => (pi_list (se_var 2))) ii_list (fun _ _ _ _ _ _ _ hr1 => (pg_name (i := 5) sc.nd rfl (by first | exact Or.inl rfl | exact Or.inr rfl))) (tg_name 5) (by decide) (fun _ _ _ _ _ _ _ hr1 => pts_nil) tt_yes (fun _ _ _ _ _ _ _ hr1 => (se_sc (sc_fn O__meet hT hx hr1 (by decide) (sa_cons (se_var 4) (sa_cons (se_var 5) sa_nil)) (len_consA (len_consA (fun _ _ h => len_nilA h)))) sR)) (by decide))))
  (sss_one (ss_ret se_non))
  sss_nil))
  (sss_cons (ss_fz [2] sR (ss_set 3 sc.nd (sc_lc (own := [("piece", 4)]) rfl sc.nd (pi_list (se_var 1)) ii_list (blkOk_by (by rfl)) (fun _ _ _ _ _ => (pg_name (i := 4) sc.nd rfl (by first | exact Or.inl rfl | exact Or.inr rfl))) (tg_name 4) (by decide) (fun _ _ _ _ _ => pts_nil) tt_yes (fun _ _ _ _ _ => (se_sc (sc_fn O_moved hT hx hr (by decide) (sa_cons (se_var 4) (sa_cons (se_sc (sc_fn O_growth_ahead hT hx hr (by decide) (sa_cons (se_var 2) (sa_cons (se_ixv 4 se_int) sa_nil)) (len_consA (len_consA (fun _ _ h => len_nilA h)))) sR) sa_nil)) (len_consA (len_consA (fun _ _ h => len_nilA h)))) sR)))))
  (sss_one (ss_fz [3] sR (ss_ret (se_tup (sa_cons (se_var 3) (sa_cons (se_sc (sc_lc (own := [("piece", 4)]) rfl sc.nd (pi_list (se_var 0)) ii_list (blkOk_by (by rfl)) (fun _ _ _ _ _ => (pg_name (i := 4) sc.nd rfl (by first | exact Or.inl rfl | exact Or.inr rfl))) (tg_name 4) (by decide) (fun _ _ _ _ _ => pts_nil) tt_yes (fun _ _ _ _ _ => (se_sc (sc_fn O_moved hT hx hr (by decide) (sa_cons (se_var 4) (sa_cons (se_sc (sc_fn O_growth_ahead hT hx hr (by decide) (sa_cons (se_var 3) (sa_cons (se_ixv 4 se_int) sa_nil)) (len_consA (len_consA (fun _ _ h => len_nilA h)))) sR) sa_nil)) (len_consA (len_consA (fun _ _ h => len_nilA h)))) sR))) sR) sa_nil)))))))))))
abbrev s_done : Stmt := topS 41
theorem sc_done : FnScope ["page", "change"] ["page", "change"] (L2.defScope s_done) := ⟨rfl, rfl, rfl, by decide +kernel, rfl, by decide +kernel, by decide +kernel⟩
def g_done : FS :=
  (seqF (dropF (callC φ_check_page (consA (vE 0) nilA)))
  (seqF (dropF (callC φ_check_change (consA (vE 1) nilA)))
  (seqF (dropF (callC φ_check_fits (consA (vE 0) (consA (vE 1) nilA))))
  (retF (mp (callC φ_replaced (consA (vE 0) (consA (vE 1) nilA))) frz)))))
def φ_done : Phi := phi 2 g_done
theorem ok_done (hx : NoE CX) (Df : Def K mg c "done" s_done ["page", "change"]) (O_check_page : Okd P w K mg base CX cs 6 "check_page" 1 φ_check_page) (O_check_change : Okd P w K mg base CX cs 9 "check_change" 1 φ_check_change) (O_check_fits : Okd P w K mg base CX cs 4 "check_fits" 2 φ_check_fits) (O_replaced : Okd P w K mg base CX cs 2 "replaced" 2 φ_replaced) : Okd P w K mg base CX cs 10 "done" 2 φ_done :=
  have sc := sc_done
  fnD (k := 9) Df sc fun f A outer s H E R hr sR hT => (sss_cons (ss_exprC (sc_fn O_check_page hT hx hr (by decide) (sa_cons (se_var 0) sa_nil) (len_consA (fun _ _ h => len_nilA h))))
  (sss_cons (ss_exprC (sc_fn O_check_change hT hx hr (by decide) (sa_cons (se_var 1) sa_nil) (len_consA (fun _ _ h => len_nilA h))))
  (sss_cons (ss_exprC (sc_fn O_check_fits hT hx hr (by decide) (sa_cons (se_var 0) (sa_cons (se_var 1) sa_nil)) (len_consA (len_consA (fun _ _ h => len_nilA h)))))
  (sss_one (ss_ret (se_sc (sc_fn O_replaced hT hx hr (by decide) (sa_cons (se_var 0) (sa_cons (se_var 1) sa_nil)) (len_consA (len_consA (fun _ _ h => len_nilA h)))) sR))))))
abbrev s_fits : Stmt := topS 42
theorem sc_fits : FnScope ["page", "change"] ["page", "change"] (L2.defScope s_fits) := ⟨rfl, rfl, rfl, by decide +kernel, rfl, by decide +kernel, by decide +kernel⟩
def g_fits : FS :=
  (seqF (dropF (callC φ_check_page (consA (vE 0) nilA)))
  (seqF (dropF (callC φ_check_change (consA (vE 1) nilA)))
  (retF (blE (bi (mp (mp (callC φ_first_unfit (consA (vE 0) (consA (vE 1) nilA))) frz) (·.2)) (mp (fun _ => some (true, D.non)) (·.2)) isN)))))
def φ_fits : Phi := phi 2 g_fits
theorem ok_fits (hx : NoE CX) (Df : Def K mg c "fits" s_fits ["page", "change"]) (O_check_page : Okd P w K mg base CX cs 6 "check_page" 1 φ_check_page) (O_check_change : Okd P w K mg base CX cs 9 "check_change" 1 φ_check_change) (O_first_unfit : Okd P w K mg base CX cs 3 "first_unfit" 2 φ_first_unfit) : Okd P w K mg base CX cs 10 "fits" 2 φ_fits :=
  have sc := sc_fits
  fnD (k := 9) Df sc fun f A outer s H E R hr sR hT => (sss_cons (ss_exprC (sc_fn O_check_page hT hx hr (by decide) (sa_cons (se_var 0) sa_nil) (len_consA (fun _ _ h => len_nilA h))))
  (sss_cons (ss_exprC (sc_fn O_check_change hT hx hr (by decide) (sa_cons (se_var 1) sa_nil) (len_consA (fun _ _ h => len_nilA h))))
  (sss_one (ss_ret (c_isN (sb_se (se_sc (sc_fn O_first_unfit hT hx hr (by decide) (sa_cons (se_var 0) (sa_cons (se_var 1) sa_nil)) (len_consA (len_consA (fun _ _ h => len_nilA h)))) sR)) (sb_se se_non)).2))))
abbrev s__law_cell_at : Stmt := topS 44
theorem sc__law_cell_at : FnScope ["_law_script", "_law_k"] ["_law_script", "_law_k"] (L2.defScope s__law_cell_at) := ⟨rfl, rfl, rfl, by decide +kernel, rfl, by decide +kernel, by decide +kernel⟩
def g__law_cell_at : FS :=
  (seqF (ifF (bi (vB 1) (mp (un1 (vB 0) lenD) (·.2)) (cI lt2)) (retF (xvE 0 (vE 1))) nxF)
  (seqF (ifF (bi (vB 0) (mp (mp (un1 nilA ownC) frz) (·.2)) eqD) (retF (mp (bi (vE 1) (fun _ => some (true, D.int 48271)) mulC) frz)) nxF)
  (retF (modF (mp (mp (bi (mp (bi (xvE 0 (modF (vB 1) (mp (un1 (vB 0) lenD) (·.2)))) (vE 1) addC) frz) (fun _ => some (true, D.int 48271)) mulC) frz) (·.2)) (mp (fun _ => some (true, D.int 2147483647)) (·.2))))))
def φ__law_cell_at : Phi := phi 2 g__law_cell_at
theorem ok__law_cell_at (hx : NoE CX) (Df : Def K mg c "_law_cell_at" s__law_cell_at ["_law_script", "_law_k"]) (m_len : mg "len" = none) : Okd P w K mg base CX cs 2 "_law_cell_at" 2 φ__law_cell_at :=
  have sc := sc__law_cell_at
  fnD (k := 1) Df sc fun f A outer s H E R hr sR hT => (sss_cons (ss_if (c_lt (sb_var 1) (sb_se (se_len (by rfl) m_len (sb_var 0)))).1
  (sss_one (ss_ret (se_ixv 0 (se_var 1))))
  sss_nil)
  (sss_cons (ss_if (c_eq hr (sb_var 0) (sb_se (se_sc (sc_lst sa_nil) sR))).1
  (sss_one (ss_ret (se_sc (sc_mul (se_var 1) se_int) sR)))
  sss_nil)
  (sss_one (ss_ret (se_mod (sb_se (se_sc (sc_mul (se_sc (sc_add (se_ixv 0 (se_mod (sb_var 1) (sb_se (se_len (by rfl) m_len (sb_var 0))))) (se_var 1)) sR) se_int) sR)) (sb_se se_int))))))
abbrev s__law_numbers : Stmt := topS 45
theorem sc__law_numbers : FnScope ["_law_cell", "_law_bounds", "_law_left", "_law_found", "_law_bound"] ["_law_cell", "_law_bounds"] (L2.defScope s__law_numbers) := ⟨rfl, rfl, rfl, by decide +kernel, rfl, by decide +kernel, by decide +kernel⟩
def tg__law_numbers_1 : TgD :=
  (nameT 4)
def lb__law_numbers_1 : FS :=
  (seqF (ownF 3 (consA (modF (vB 2) (vB 4)) nilA) appOp)
  (setF 2 (mp (fdivF (vB 2) (vB 4)) dC)))
def g__law_numbers : FS :=
  (seqF (setF 2 (mp (vE 0) dC))
  (seqF (ifF (bi (vB 0) (mp (powF (mp (fun _ => some (true, D.int 10)) (·.2)) (mp (fun _ => some (true, D.int 18)) (·.2))) (·.2)) (cI lt2)) (setF 2 (mp (fdivF (mp (powF (mp (mp (bi (mp (bi (modF (vB 0) (mp (fun _ => some (true, D.int 2147483647)) (·.2))) (fun _ => some (true, D.int 48271)) mulC) frz) (fun _ => some (true, D.int 12345)) addC) frz) (·.2)) (mp (fun _ => some (true, D.int 5)) (·.2))) (·.2)) (mp (fun _ => some (true, D.int 1013)) (·.2))) dC)) nxF)
  (seqF (setF 3 (un1 nilA ownC))
  (seqF (forF (un1 (vE 1) itemsE) tg__law_numbers_1 lb__law_numbers_1)
  (fzF [3] (retF (vE 3)))))))
def φ__law_numbers : Phi := phi 5 g__law_numbers
theorem ok__law_numbers (hx : NoE CX) (Df : Def K mg c "_law_numbers" s__law_numbers ["_law_cell", "_law_bounds"]) : Okd P w K mg base CX cs 2 "_law_numbers" 2 φ__law_numbers :=
  have sc := sc__law_numbers
  fnD (k := 1) Df sc fun f A outer s H E R hr sR hT => (sss_cons (ss_set 2 sc.nd (sc_se (se_var 0)))
  (sss_cons (ss_if (c_lt (sb_var 0) (sb_se (se_pow (sb_se se_int) (sb_se se_int)))).1
  (sss_one (ss_set 2 sc.nd (sc_se (se_fdiv (sb_se (se_pow (sb_se (se_sc (sc_add (se_sc (sc_mul (se_mod (sb_var 0) (sb_se se_int)) se_int) sR) se_int) sR)) (sb_se se_int))) (sb_se se_int)))))
  sss_nil)
  (sss_cons (ss_set 3 sc.nd (sc_lst sa_nil))
  (sss_cons (ss_for PassesOwn.never rfl (pi_list (se_var 1)) ii_list (pg_name (i := 4) sc.nd rfl (by first | exact Or.inl rfl | exact Or.inr rfl)) (tg_name 4)
  (sss_cons (ss_append 3 (sa_cons (se_mod (sb_var 2) (sb_var 4)) sa_nil))
  (sss_one (ss_set 2 sc.nd (sc_se (se_fdiv (sb_var 2) (sb_var 4)))))))
  (sss_one (ss_fz [3] sR (ss_ret (se_var 3))))))))
abbrev s__law_lines : Stmt := topS 46
theorem sc__law_lines : FnScope [] [] (L2.defScope s__law_lines) := ⟨rfl, rfl, rfl, by decide +kernel, rfl, by decide +kernel, by decide +kernel⟩
def g__law_lines : FS :=
  (retF (mp (un1 (consA (fun _ => some (true, D.str "a")) (consA (fun _ => some (true, D.str "b")) (consA (fun _ => some (true, D.str "")) (consA (fun _ => some (true, D.str "@ 3")) (consA (fun _ => some (true, D.str "-a")) (consA (fun _ => some (true, D.str "c")) (consA (fun _ => some (true, D.str "+")) (consA (fun _ => some (true, D.str "=b")) (consA (fun _ => some (true, D.str " ")) (consA (fun _ => some (true, D.str "@")) (consA (fun _ => some (true, D.str "a b")) (consA (fun _ => some (true, D.str "~")) nilA)))))))))))) ownC) frz))
def φ__law_lines : Phi := phi 0 g__law_lines
theorem ok__law_lines (hx : NoE CX) (Df : Def K mg c "_law_lines" s__law_lines []) : Okd P w K mg base CX cs 2 "_law_lines" 0 φ__law_lines :=
  have sc := sc__law_lines
  fnD (k := 1) Df sc fun f A outer s H E R hr sR hT => (sss_one (ss_ret (se_sc (sc_lst (sa_cons se_str (sa_cons se_str (sa_cons se_str (sa_cons se_str (sa_cons se_str (sa_cons se_str (sa_cons se_str (sa_cons se_str (sa_cons se_str (sa_cons se_str (sa_cons se_str (sa_cons se_str sa_nil))))))))))))) sR)))
abbrev s__law_page : Stmt := topS 47
theorem sc__law_page : FnScope ["_law_cell", "_law_limit", "_law_digits", "_law_lines_here", "_law_some", "_law_one"] ["_law_cell", "_law_limit"] (L2.defScope s__law_page) := ⟨rfl, rfl, rfl, by decide +kernel, rfl, by decide +kernel, by decide +kernel⟩
def tg__law_page_1 : TgD :=
  (nameT 5)
def el__law_page_1 : FE :=
  (xvE 3 (modF (mp (mp (bi (xvE 2 (fun _ => some (true, D.int 1))) (vE 5) addC) frz) (·.2)) (mp (fun _ => some (true, D.int 12)) (·.2))))
def g__law_page : FS :=
  (seqF (setF 2 (callC φ__law_numbers (consA (vE 0) (consA (mp (un1 (consA (mp (bi (vE 1) (fun _ => some (true, D.int 1)) addC) frz) (consA (fun _ => some (true, D.int 12)) (consA (fun _ => some (true, D.int 4)) nilA))) ownC) frz) nilA))))
  (seqF (setF 3 (callC φ__law_lines nilA))
  (seqF (setF 4 (callC φ__law_numbers (consA (mp (bi (fdivF (vB 0) (mp (fun _ => some (true, D.int 3)) (·.2))) (fun _ => some (true, D.int 5)) addC) frz) (consA (mp (bi (mp (un1 (consA (bi (mp (un1 (consA (fun _ => some (true, D.int 2)) (consA (fun _ => some (true, D.int 3)) (consA (fun _ => some (true, D.int 5)) (consA (fun _ => some (true, D.int 12)) nilA)))) ownC) frz) (xvE 2 (fun _ => some (true, D.int 2))) fun x y => itemE x y.2) nilA) ownC) frz) (xvE 2 (fun _ => some (true, D.int 0))) mulC) frz) nilA))))
  (fzF [4] (retF (mp (lcF (un1 (vE 4) itemsE) ([("_law_one", 5)].map (·.2)) tg__law_page_1 (fun _ => some true) el__law_page_1) frz))))))
def φ__law_page : Phi := phi 6 g__law_page
theorem ok__law_page (hx : NoE CX) (Df : Def K mg c "_law_page" s__law_page ["_law_cell", "_law_limit"]) (O__law_numbers : Okd P w K mg base CX cs 2 "_law_numbers" 2 φ__law_numbers) (O__law_lines : Okd P w K mg base CX cs 2 "_law_lines" 0 φ__law_lines) : Okd P w K mg base CX cs 3 "_law_page" 2 φ__law_page :=
  have sc := sc__law_page
  fnD (k := 2) Df sc fun f A outer s H E R hr sR hT => (sss_cons (ss_set 2 sc.nd (sc_fn O__law_numbers hT hx hr (by decide) (sa_cons (se_var 0) (sa_cons (se_sc (sc_lst (sa_cons (se_sc (sc_add (se_var 1) se_int) sR) (sa_cons se_int (sa_cons se_int sa_nil)))) sR) sa_nil)) (len_consA (len_consA (fun _ _ h => len_nilA h)))))
  (sss_cons (ss_set 3 sc.nd (sc_fn0 O__law_lines hT hx hr (by decide)))
  (sss_cons (ss_set 4 sc.nd (sc_fn O__law_numbers hT hx hr (by decide) (sa_cons (se_sc (sc_add (se_fdiv (sb_var 0) (sb_se se_int)) se_int) sR) (sa_cons (se_sc (sc_mul (se_sc (sc_lst (sa_cons (se_ix (se_sc (sc_lst (sa_cons se_int (sa_cons se_int (sa_cons se_int (sa_cons se_int sa_nil))))) sR) (se_ixv 2 se_int)) sa_nil)) sR) (se_ixv 2 se_int)) sR) sa_nil)) (len_consA (len_consA (fun _ _ h => len_nilA h)))))
  (sss_one (ss_fz [4] sR (ss_ret (se_sc (sc_lc (own := [("_law_one", 5)]) rfl sc.nd (pi_list (se_var 4)) ii_list (blkOk_by (by rfl)) (fun _ _ _ _ _ => (pg_name (i := 5) sc.nd rfl (by first | exact Or.inl rfl | exact Or.inr rfl))) (tg_name 5) (by decide) (fun _ _ _ _ _ => pts_nil) tt_yes (fun _ _ _ _ _ => (se_ixv 3 (se_mod (sb_se (se_sc (sc_add (se_ixv 2 se_int) (se_var 5)) sR)) (sb_se se_int))))) sR)))))))
abbrev s__law_change : Stmt := topS 48
theorem sc__law_change : FnScope ["_law_cell", "_law_page_here", "_law_limit", "_law_digits", "_law_lines_here", "_law_found", "_law_at", "_law_k", "_law_gap", "_law_takes", "_law_puts", "_law_first", "_law_second", "_law_place"] ["_law_cell", "_law_page_here", "_law_limit"] (L2.defScope s__law_change) := ⟨rfl, rfl, rfl, by decide +kernel, rfl, by decide +kernel, by decide +kernel⟩
def tg__law_change_1 : TgD :=
  (nameT 7)
def lb__law_change_1 : FS :=
  (seqF (fzF [3] (unpF (mp (slF (vE 3) (un1 (mp (mp (bi (fun _ => some (true, D.int 1)) (mp (bi (fun _ => some (true, D.int 5)) (vE 7) mulC) frz) addC) frz) (·.2)) intO) (un1 (mp (mp (bi (fun _ => some (true, D.int 6)) (mp (bi (fun _ => some (true, D.int 5)) (vE 7) mulC) frz) addC) frz) (·.2)) intO) cutC) frz) (orT (tupT (consT (nameT 8) (consT (nameT 9) (consT (nameT 10) (consT (nameT 11) (consT (nameT 12) nilT)))))) (unlT (consT (nameT 8) (consT (nameT 9) (consT (nameT 10) (consT (nameT 11) (consT (nameT 12) nilT)))))))))
  (seqF (fzF [6] (setF 13 (bi (vE 6) (vE 8) addC)))
  (fzF [13] (ifF (andF (bi (mp (mp (bi (vE 13) (vE 9) addC) frz) (·.2)) (mp (un1 (vB 1) lenD) (·.2)) (cI le2)) (bi (mp (mp (bi (vE 9) (vE 10) addC) frz) (·.2)) (mp (fun _ => some (true, D.int 0)) (·.2)) (cI gt2))) (seqF (fzF [13] (ownF 5 (consA (un1 (consA (vE 13) (consA (mp (slF (vE 1) (un1 (vB 13) intO) (un1 (mp (mp (bi (vE 13) (vE 9) addC) frz) (·.2)) intO) cutC) frz) (consA (mp (slF (mp (un1 (consA (xvE 4 (vE 11)) (consA (xvE 4 (vE 12)) nilA)) ownC) frz) (fun _ => some none) (un1 (vB 10) intO) cutC) frz) nilA))) tupD) nilA) appOp))
  (fzF [13] (setF 6 (bi (mp (bi (vE 13) (vE 9) addC) frz) (fun _ => some (true, D.int 1)) addC)))) nxF))))
def g__law_change : FS :=
  (seqF (setF 3 (callC φ__law_numbers (consA (vE 0) (consA (mp (bi (mp (un1 (consA (mp (bi (vE 2) (fun _ => some (true, D.int 1)) addC) frz) nilA) ownC) frz) (mp (bi (mp (un1 (consA (fun _ => some (true, D.int 4)) (consA (fun _ => some (true, D.int 3)) (consA (fun _ => some (true, D.int 3)) (consA (fun _ => some (true, D.int 12)) (consA (fun _ => some (true, D.int 12)) nilA))))) ownC) frz) (vE 2) mulC) frz) addC) frz) nilA))))
  (seqF (setF 4 (callC φ__law_lines nilA))
  (seqF (setF 5 (un1 nilA ownC))
  (seqF (setF 6 (mp (fun _ => some (true, D.int 0)) dC))
  (seqF (forF (un1 (consA (xvE 3 (fun _ => some (true, D.int 0))) nilA) rng1) tg__law_change_1 lb__law_change_1)
  (fzF [5] (retF (vE 5))))))))
def φ__law_change : Phi := phi 14 g__law_change
theorem ok__law_change (hx : NoE CX) (Df : Def K mg c "_law_change" s__law_change ["_law_cell", "_law_page_here", "_law_limit"]) (O__law_numbers : Okd P w K mg base CX cs 2 "_law_numbers" 2 φ__law_numbers) (O__law_lines : Okd P w K mg base CX cs 2 "_law_lines" 0 φ__law_lines) (m_len : mg "len" = none) (m_range : mg "range" = none) : Okd P w K mg base CX cs 3 "_law_change" 3 φ__law_change :=
  have sc := sc__law_change
  fnD (k := 2) Df sc fun f A outer s H E R hr sR hT => (sss_cons (ss_set 3 sc.nd (sc_fn O__law_numbers hT hx hr (by decide) (sa_cons (se_var 0) (sa_cons (se_sc (sc_add (se_sc (sc_lst (sa_cons (se_sc (sc_add (se_var 2) se_int) sR) sa_nil)) sR) (se_sc (sc_mul (se_sc (sc_lst (sa_cons se_int (sa_cons se_int (sa_cons se_int (sa_cons se_int (sa_cons se_int sa_nil)))))) sR) (se_var 2)) sR)) sR) sa_nil)) (len_consA (len_consA (fun _ _ h => len_nilA h)))))
  (sss_cons (ss_set 4 sc.nd (sc_fn0 O__law_lines hT hx hr (by decide)))
  (sss_cons (ss_set 5 sc.nd (sc_lst sa_nil))
  (sss_cons (ss_set 6 sc.nd (sc_se se_int))
  (sss_cons (ss_for PassesOwn.never rfl (pi_range1 (by rfl) m_range (sa_cons (se_ixv 3 se_int) sa_nil)) ii_rng1 (pg_name (i := 7) sc.nd rfl (by first | exact Or.inl rfl | exact Or.inr rfl)) (tg_name 7)
  (sss_cons (ss_fz [3] sR (ss_unpack (se_sc (sc_slice (se_var 3) (so_some (sb_se (se_sc (sc_add se_int (se_sc (sc_mul se_int (se_var 7)) sR)) sR))) (so_some (sb_se (se_sc (sc_add se_int (se_sc (sc_mul se_int (se_var 7)) sR)) sR)))) sR) (pg_or (pg_tup (n := 5) rfl (pgs_cons (pg_name (i := 8) sc.nd rfl (by first | exact Or.inl rfl | exact Or.inr rfl)) (pgs_cons (pg_name (i := 9) sc.nd rfl (by first | exact Or.inl rfl | exact Or.inr rfl)) (pgs_cons (pg_name (i := 10) sc.nd rfl (by first | exact Or.inl rfl | exact Or.inr rfl)) (pgs_cons (pg_name (i := 11) sc.nd rfl (by first | exact Or.inl rfl | exact Or.inr rfl)) (pgs_cons (pg_name (i := 12) sc.nd rfl (by first | exact Or.inl rfl | exact Or.inr rfl)) pgs_nil)))))) (pg_unl (n := 5) rfl (pgs_cons (pg_name (i := 8) sc.nd rfl (by first | exact Or.inl rfl | exact Or.inr rfl)) (pgs_cons (pg_name (i := 9) sc.nd rfl (by first | exact Or.inl rfl | exact Or.inr rfl)) (pgs_cons (pg_name (i := 10) sc.nd rfl (by first | exact Or.inl rfl | exact Or.inr rfl)) (pgs_cons (pg_name (i := 11) sc.nd rfl (by first | exact Or.inl rfl | exact Or.inr rfl)) (pgs_cons (pg_name (i := 12) sc.nd rfl (by first | exact Or.inl rfl | exact Or.inr rfl)) pgs_nil))))))) (tg_or (tg_tup (tgs_cons (tg_name 8) (tgs_cons (tg_name 9) (tgs_cons (tg_name 10) (tgs_cons (tg_name 11) (tgs_cons (tg_name 12) tgs_nil))))) (ar_cons (ar_cons (ar_cons (ar_cons (ar_cons ar_nil)))))) (tg_unl (tgs_cons (tg_name 8) (tgs_cons (tg_name 9) (tgs_cons (tg_name 10) (tgs_cons (tg_name 11) (tgs_cons (tg_name 12) tgs_nil))))) (ar_cons (ar_cons (ar_cons (ar_cons (ar_cons ar_nil)))))))))
  (sss_cons (ss_fz [6] sR (ss_set 13 sc.nd (sc_add (se_var 6) (se_var 8))))
  (sss_one (ss_fz [13] sR (ss_if (st_w (sw_and (c_le (sb_se (se_sc (sc_add (se_var 13) (se_var 9)) sR)) (sb_se (se_len (by rfl) m_len (sb_var 1)))).1 (sw_and1 (c_gt (sb_se (se_sc (sc_add (se_var 9) (se_var 10)) sR)) (sb_se se_int)).1)))
  (sss_cons (ss_fz [13] sR (ss_append 5 (sa_cons (se_tup (sa_cons (se_var 13) (sa_cons (se_sc (sc_slice (se_var 1) (so_some (sb_var 13)) (so_some (sb_se (se_sc (sc_add (se_var 13) (se_var 9)) sR)))) sR) (sa_cons (se_sc (sc_slice (se_sc (sc_lst (sa_cons (se_ixv 4 (se_var 11)) (sa_cons (se_ixv 4 (se_var 12)) sa_nil))) sR) so_none (so_some (sb_var 10))) sR) sa_nil)))) sa_nil)))
  (sss_one (ss_fz [13] sR (ss_set 6 sc.nd (sc_add (se_sc (sc_add (se_var 13) (se_var 9)) sR) se_int)))))
  sss_nil))))))
  (sss_one (ss_fz [5] sR (ss_ret (se_var 5)))))))))
abbrev s__law_done : Stmt := topS 49
theorem sc__law_done : FnScope ["_law_page_here", "_law_change_here", "_law_found", "_law_at", "_law_place", "_law_taken", "_law_put"] ["_law_page_here", "_law_change_here"] (L2.defScope s__law_done) := ⟨rfl, rfl, rfl, by decide +kernel, rfl, by decide +kernel, by decide +kernel⟩
def tg__law_done_1 : TgD :=
  (tupT (consT (nameT 4) (consT (nameT 5) (consT (nameT 6) nilT))))
def lb__law_done_1 : FS :=
  (seqF (fzF [2] (setF 2 (bi (mp (bi (vE 2) (mp (slF (vE 0) (un1 (vB 3) intO) (un1 (vB 4) intO) cutC) frz) addC) frz) (vE 6) addC)))
  (setF 3 (bi (vE 4) (un1 (vB 5) lenD) addC)))
def g__law_done : FS :=
  (seqF (setF 2 (un1 nilA ownC))
  (seqF (setF 3 (mp (fun _ => some (true, D.int 0)) dC))
  (seqF (forF (un1 (vE 1) itemsE) tg__law_done_1 lb__law_done_1)
  (fzF [2] (retF (mp (bi (vE 2) (mp (slF (vE 0) (un1 (vB 3) intO) (fun _ => some none) cutC) frz) addC) frz))))))
def φ__law_done : Phi := phi 7 g__law_done
theorem ok__law_done (hx : NoE CX) (Df : Def K mg c "_law_done" s__law_done ["_law_page_here", "_law_change_here"]) (m_len : mg "len" = none) : Okd P w K mg base CX cs 2 "_law_done" 2 φ__law_done :=
  have sc := sc__law_done
  fnD (k := 1) Df sc fun f A outer s H E R hr sR hT => (sss_cons (ss_set 2 sc.nd (sc_lst sa_nil))
  (sss_cons (ss_set 3 sc.nd (sc_se se_int))
  (sss_cons (ss_for PassesOwn.never rfl (pi_list (se_var 1)) ii_list (pg_tup (n := 3) rfl (pgs_cons (pg_name (i := 4) sc.nd rfl (by first | exact Or.inl rfl | exact Or.inr rfl)) (pgs_cons (pg_name (i := 5) sc.nd rfl (by first | exact Or.inl rfl | exact Or.inr rfl)) (pgs_cons (pg_name (i := 6) sc.nd rfl (by first | exact Or.inl rfl | exact Or.inr rfl)) pgs_nil)))) (tg_tup (tgs_cons (tg_name 4) (tgs_cons (tg_name 5) (tgs_cons (tg_name 6) tgs_nil))) (ar_cons (ar_cons (ar_cons ar_nil))))
  (sss_cons (ss_fz [2] sR (ss_set 2 sc.nd (sc_add (se_sc (sc_add (se_var 2) (se_sc (sc_slice (se_var 0) (so_some (sb_var 3)) (so_some (sb_var 4))) sR)) sR) (se_var 6))))
  (sss_one (ss_set 3 sc.nd (sc_add (se_var 4) (se_len (by rfl) m_len (sb_var 5)))))))
  (sss_one (ss_fz [2] sR (ss_ret (se_sc (sc_add (se_var 2) (se_sc (sc_slice (se_var 0) (so_some (sb_var 3)) so_none) sR)) sR)))))))
abbrev s__law_copied : Stmt := topS 50
theorem sc__law_copied : FnScope ["_law_change_here", "_law_place", "_law_taken", "_law_put"] ["_law_change_here"] (L2.defScope s__law_copied) := ⟨rfl, rfl, rfl, by decide +kernel, rfl, by decide +kernel, by decide +kernel⟩
def tg__law_copied_1 : TgD :=
  (tupT (consT (nameT 1) (consT (nameT 2) (consT (nameT 3) nilT))))
def el__law_copied_1 : FE :=
  (un1 (consA (vE 1) (consA (mp (un1 (vE 2) listC) frz) (consA (mp (un1 (vE 3) listC) frz) nilA))) tupD)
def g__law_copied : FS :=
  (retF (mp (lcF (un1 (vE 0) itemsE) ([("_law_place", 1), ("_law_taken", 2), ("_law_put", 3)].map (·.2)) tg__law_copied_1 (fun _ => some true) el__law_copied_1) frz))
def φ__law_copied : Phi := phi 4 g__law_copied
theorem ok__law_copied (hx : NoE CX) (Df : Def K mg c "_law_copied" s__law_copied ["_law_change_here"]) (m_list : mg "list" = none) : Okd P w K mg base CX cs 2 "_law_copied" 1 φ__law_copied :=
  have sc := sc__law_copied
  fnD (k := 1) Df sc fun f A outer s H E R hr sR hT => (sss_one (ss_ret (se_sc (sc_lc (own := [("_law_place", 1), ("_law_taken", 2), ("_law_put", 3)]) rfl sc.nd (pi_list (se_var 0)) ii_list (blkOk_by (by rfl)) (fun _ _ _ _ _ => (pg_tup (n := 3) rfl (pgs_cons (pg_name (i := 1) sc.nd rfl (by first | exact Or.inl rfl | exact Or.inr rfl)) (pgs_cons (pg_name (i := 2) sc.nd rfl (by first | exact Or.inl rfl | exact Or.inr rfl)) (pgs_cons (pg_name (i := 3) sc.nd rfl (by first | exact Or.inl rfl | exact Or.inr rfl)) pgs_nil))))) (tg_tup (tgs_cons (tg_name 1) (tgs_cons (tg_name 2) (tgs_cons (tg_name 3) tgs_nil))) (ar_cons (ar_cons (ar_cons ar_nil)))) (by decide) (fun _ _ _ _ _ => pts_nil) tt_yes (fun _ _ _ _ _ => (se_tup (sa_cons (se_var 1) (sa_cons (se_sc (sc_list (by rfl) m_list (se_var 2)) sR) (sa_cons (se_sc (sc_list (by rfl) m_list (se_var 3)) sR) sa_nil)))))) sR)))
abbrev s__law_is_change : Stmt := topS 51
theorem sc__law_is_change : FnScope ["_law_change_here", "_law_last", "_law_piece"] ["_law_change_here"] (L2.defScope s__law_is_change) := ⟨rfl, rfl, rfl, by decide +kernel, rfl, by decide +kernel, by decide +kernel⟩
def tg__law_is_change_1 : TgD :=
  (nameT 2)
def lb__law_is_change_1 : FS :=
  (seqF (ifF (orF (mp (un1 (mp (un1 (vB 2) (isiE .tuple)) (·.2)) boolD) (!·)) (orF (bi (mp (un1 (vB 2) lenD) (·.2)) (mp (fun _ => some (true, D.int 3)) (·.2)) neD) (orF (un1 (mp (un1 (bi (vB 2) (mp (fun _ => some (true, D.int 0)) (·.2)) itemB) (isiE .bool)) (·.2)) boolD) (bi (bi (vB 2) (mp (fun _ => some (true, D.int 0)) (·.2)) itemB) (vB 1) (cI le2))))) (retF (fun _ => some (true, D.bl false))) nxF)
  (seqF (ifF (orF (mp (un1 (mp (un1 (bi (vB 2) (mp (fun _ => some (true, D.int 1)) (·.2)) itemB) (isiE .list)) (·.2)) boolD) (!·)) (orF (mp (un1 (mp (un1 (bi (vB 2) (mp (fun _ => some (true, D.int 2)) (·.2)) itemB) (isiE .list)) (·.2)) boolD) (!·)) (bi (mp (mp (bi (xvE 2 (fun _ => some (true, D.int 1))) (xvE 2 (fun _ => some (true, D.int 2))) addC) frz) (·.2)) (mp (mp (un1 nilA ownC) frz) (·.2)) eqD))) (retF (fun _ => some (true, D.bl false))) nxF)
  (setF 1 (bi (xvE 2 (fun _ => some (true, D.int 0))) (un1 (bi (vB 2) (mp (fun _ => some (true, D.int 1)) (·.2)) itemB) lenD) addC))))
def g__law_is_change : FS :=
  (seqF (ifF (mp (un1 (mp (un1 (vB 0) (isiE .list)) (·.2)) boolD) (!·)) (retF (fun _ => some (true, D.bl false))) nxF)
  (seqF (setF 1 (mp (un1 (mp (fun _ => some (true, D.int 1)) (·.2)) negD) dC))
  (seqF (forF (un1 (vE 0) itemsE) tg__law_is_change_1 lb__law_is_change_1)
  (retF (fun _ => some (true, D.bl true))))))
def φ__law_is_change : Phi := phi 3 g__law_is_change
theorem ok__law_is_change (hx : NoE CX) (Df : Def K mg c "_law_is_change" s__law_is_change ["_law_change_here"]) (m_bool : mg "bool" = none) (m_isinstance : mg "isinstance" = none) (m_len : mg "len" = none) (m_list : mg "list" = none) (m_tuple : mg "tuple" = none) : Okd P w K mg base CX cs 2 "_law_is_change" 1 φ__law_is_change :=
  have sc := sc__law_is_change
  fnD (k := 1) Df sc fun f A outer s H E R hr sR hT => (sss_cons (ss_if (st_not (st_val (sb_se (se_isi .list (by rfl) m_isinstance (sb_var 0) (by rfl) m_list (by decide +kernel)))))
  (sss_one (ss_ret se_bl))
  sss_nil)
  (sss_cons (ss_set 1 sc.nd (sc_se (se_neg (sb_se se_int))))
  (sss_cons (ss_for PassesOwn.never rfl (pi_list (se_var 0)) ii_list (pg_name (i := 2) sc.nd rfl (by first | exact Or.inl rfl | exact Or.inr rfl)) (tg_name 2)
  (sss_cons (ss_if (st_w (sw_or (st_not (st_val (sb_se (se_isi .tuple (by rfl) m_isinstance (sb_var 2) (by rfl) m_tuple (by decide +kernel))))) (sw_or (c_ne hr (sb_se (se_len (by rfl) m_len (sb_var 2))) (sb_se se_int)).1 (sw_or (st_val (sb_se (se_isi .bool (by rfl) m_isinstance (sb_ix (sb_var 2) (sb_se se_int)) (by rfl) m_bool (by decide +kernel)))) (sw_or1 (c_le (sb_ix (sb_var 2) (sb_se se_int)) (sb_var 1)).1)))))
  (sss_one (ss_ret se_bl))
  sss_nil)
  (sss_cons (ss_if (st_w (sw_or (st_not (st_val (sb_se (se_isi .list (by rfl) m_isinstance (sb_ix (sb_var 2) (sb_se se_int)) (by rfl) m_list (by decide +kernel))))) (sw_or (st_not (st_val (sb_se (se_isi .list (by rfl) m_isinstance (sb_ix (sb_var 2) (sb_se se_int)) (by rfl) m_list (by decide +kernel))))) (sw_or1 (c_eq hr (sb_se (se_sc (sc_add (se_ixv 2 se_int) (se_ixv 2 se_int)) sR)) (sb_se (se_sc (sc_lst sa_nil) sR))).1))))
  (sss_one (ss_ret se_bl))
  sss_nil)
  (sss_one (ss_set 1 sc.nd (sc_add (se_ixv 2 se_int) (se_len (by rfl) m_len (sb_ix (sb_var 2) (sb_se se_int)))))))))
  (sss_one (ss_ret se_bl)))))
abbrev s__law_other_page : Stmt := topS 52
theorem sc__law_other_page : FnScope ["_law_page_here", "_law_change_here", "_law_cell", "_law_lines_here", "_law_taken", "_law_place", "_law_some", "_law_put", "_law_at", "_law_found", "_law_other"] ["_law_page_here", "_law_change_here", "_law_cell"] (L2.defScope s__law_other_page) := ⟨rfl, rfl, rfl, by decide +kernel, rfl, by decide +kernel, by decide +kernel⟩
def tg__law_other_page_1 : TgD :=
  (nameT 8)
def lb__law_other_page_1 : FS :=
  (dputF 4 (mp (bi (vE 5) (vE 8) addC) frz) (fun _ => some (true, D.bl true)))
def tg__law_other_page_2 : TgD :=
  (tupT (consT (nameT 5) (consT (nameT 6) (consT (nameT 7) nilT))))
def lb__law_other_page_2 : FS :=
  (forF (un1 (consA (un1 (vB 6) lenD) nilA) rng1) tg__law_other_page_1 lb__law_other_page_1)
def tg__law_other_page_3 : TgD :=
  (nameT 8)
def lb__law_other_page_3 : FS :=
  (seqF (setF 10 (mp (xvE 3 (modF (mp (modF (mp (mp (bi (mp (bi (vE 2) (mp (bi (fun _ => some (true, D.int 31)) (vE 8) mulC) frz) addC) frz) (fun _ => some (true, D.int 48271)) mulC) frz) (·.2)) (mp (fun _ => some (true, D.int 1009)) (·.2))) (·.2)) (mp (fun _ => some (true, D.int 12)) (·.2)))) dC))
  (ownF 9 (consA (ifF (dinF 4 (vE 8)) (xvE 0 (vE 8)) (vE 10)) nilA) appOp))
def g__law_other_page : FS :=
  (seqF (setF 3 (callC φ__law_lines nilA))
  (seqF (setF 4 dnewF)
  (seqF (forF (un1 (vE 1) itemsE) tg__law_other_page_2 lb__law_other_page_2)
  (seqF (setF 9 (un1 nilA ownC))
  (seqF (forF (un1 (consA (un1 (vB 0) lenD) nilA) rng1) tg__law_other_page_3 lb__law_other_page_3)
  (fzF [9] (retF (mp (bi (vE 9) (mp (bi (mp (un1 (consA (xvE 3 (modF (mp (fdivF (vB 2) (mp (fun _ => some (true, D.int 7)) (·.2))) (·.2)) (mp (fun _ => some (true, D.int 12)) (·.2)))) nilA) ownC) frz) (modF (vB 2) (mp (fun _ => some (true, D.int 3)) (·.2))) mulC) frz) addC) frz))))))))
def φ__law_other_page : Phi := phi 11 g__law_other_page
theorem ok__law_other_page (hx : NoE CX) (Df : Def K mg c "_law_other_page" s__law_other_page ["_law_page_here", "_law_change_here", "_law_cell"]) (O__law_lines : Okd P w K mg base CX cs 2 "_law_lines" 0 φ__law_lines) (m_len : mg "len" = none) (m_range : mg "range" = none) : Okd P w K mg base CX cs 3 "_law_other_page" 3 φ__law_other_page :=
  have sc := sc__law_other_page
  fnD (k := 2) Df sc fun f A outer s H E R hr sR hT => (sss_cons (ss_set 3 sc.nd (sc_fn0 O__law_lines hT hx hr (by decide)))
  (sss_cons (ss_set 4 sc.nd sc_dnew)
  (sss_cons (ss_for PassesOwn.never rfl (pi_list (se_var 1)) ii_list (pg_tup (n := 3) rfl (pgs_cons (pg_name (i := 5) sc.nd rfl (by first | exact Or.inl rfl | exact Or.inr rfl)) (pgs_cons (pg_name (i := 6) sc.nd rfl (by first | exact Or.inl rfl | exact Or.inr rfl)) (pgs_cons (pg_name (i := 7) sc.nd rfl (by first | exact Or.inl rfl | exact Or.inr rfl)) pgs_nil)))) (tg_tup (tgs_cons (tg_name 5) (tgs_cons (tg_name 6) (tgs_cons (tg_name 7) tgs_nil))) (ar_cons (ar_cons (ar_cons ar_nil))))
  (sss_one (ss_for PassesOwn.never rfl (pi_range1 (by rfl) m_range (sa_cons (se_len (by rfl) m_len (sb_var 6)) sa_nil)) ii_rng1 (pg_name (i := 8) sc.nd rfl (by first | exact Or.inl rfl | exact Or.inr rfl)) (tg_name 8)
  (sss_one (ss_dput 4 hr (se_sc (sc_add (se_var 5) (se_var 8)) sR) se_bl)))))
  (sss_cons (ss_set 9 sc.nd (sc_lst sa_nil))
  (sss_cons (ss_for PassesOwn.never rfl (pi_range1 (by rfl) m_range (sa_cons (se_len (by rfl) m_len (sb_var 0)) sa_nil)) ii_rng1 (pg_name (i := 8) sc.nd rfl (by first | exact Or.inl rfl | exact Or.inr rfl)) (tg_name 8)
  (sss_cons (ss_set 10 sc.nd (sc_se (se_ixv 3 (se_mod (sb_se (se_mod (sb_se (se_sc (sc_mul (se_sc (sc_add (se_var 2) (se_sc (sc_mul se_int (se_var 8)) sR)) sR) se_int) sR)) (sb_se se_int))) (sb_se se_int)))))
  (sss_one (ss_append 9 (sa_cons (se_if (c_din 4 hr (se_var 8)) (se_ixv 0 (se_var 8)) (se_var 10)) sa_nil)))))
  (sss_one (ss_fz [9] sR (ss_ret (se_sc (sc_add (se_var 9) (se_sc (sc_mul (se_sc (sc_lst (sa_cons (se_ixv 3 (se_mod (sb_se (se_fdiv (sb_var 2) (sb_se se_int))) (sb_se se_int))) sa_nil)) sR) (se_mod (sb_var 2) (sb_se se_int))) sR)) sR)))))))))
abbrev s__law_meet : Stmt := topS 53
theorem sc__law_meet : FnScope ["_law_one", "_law_other", "_law_drift", "_law_place", "_law_taken", "_law_put", "_law_begin", "_law_piece"] ["_law_one", "_law_other"] (L2.defScope s__law_meet) := ⟨rfl, rfl, rfl, by decide +kernel, rfl, by decide +kernel, by decide +kernel⟩
def tg__law_meet_1 : TgD :=
  (nameT 7)
def lb__law_meet_1 : FS :=
  (fzF [6] (ifF (andF (bi (bi (vB 7) (mp (fun _ => some (true, D.int 0)) (·.2)) itemB) (mp (mp (bi (vE 6) (un1 (vB 5) lenD) addC) frz) (·.2)) (cI le2)) (bi (vB 6) (mp (mp (bi (xvE 7 (fun _ => some (true, D.int 0))) (un1 (bi (vB 7) (mp (fun _ => some (true, D.int 1)) (·.2)) itemB) lenD) addC) frz) (·.2)) (cI le2))) (retF (fun _ => some (true, D.bl true))) nxF))
def tg__law_meet_2 : TgD :=
  (tupT (consT (nameT 3) (consT (nameT 4) (consT (nameT 5) nilT))))
def lb__law_meet_2 : FS :=
  (seqF (setF 6 (bi (vE 3) (vE 2) addC))
  (seqF (forF (un1 (vE 1) itemsE) tg__law_meet_1 lb__law_meet_1)
  (setF 2 (mp (subF (mp (mp (bi (vE 2) (un1 (vB 5) lenD) addC) frz) (·.2)) (mp (un1 (vB 4) lenD) (·.2))) dC))))
def g__law_meet : FS :=
  (seqF (setF 2 (mp (fun _ => some (true, D.int 0)) dC))
  (seqF (forF (un1 (vE 0) itemsE) tg__law_meet_2 lb__law_meet_2)
  (retF (fun _ => some (true, D.bl false)))))
def φ__law_meet : Phi := phi 8 g__law_meet
theorem ok__law_meet (hx : NoE CX) (Df : Def K mg c "_law_meet" s__law_meet ["_law_one", "_law_other"]) (m_len : mg "len" = none) : Okd P w K mg base CX cs 2 "_law_meet" 2 φ__law_meet :=
  have sc := sc__law_meet
  fnD (k := 1) Df sc fun f A outer s H E R hr sR hT => (sss_cons (ss_set 2 sc.nd (sc_se se_int))
  (sss_cons (ss_for PassesOwn.never rfl (pi_list (se_var 0)) ii_list (pg_tup (n := 3) rfl (pgs_cons (pg_name (i := 3) sc.nd rfl (by first | exact Or.inl rfl | exact Or.inr rfl)) (pgs_cons (pg_name (i := 4) sc.nd rfl (by first | exact Or.inl rfl | exact Or.inr rfl)) (pgs_cons (pg_name (i := 5) sc.nd rfl (by first | exact Or.inl rfl | exact Or.inr rfl)) pgs_nil)))) (tg_tup (tgs_cons (tg_name 3) (tgs_cons (tg_name 4) (tgs_cons (tg_name 5) tgs_nil))) (ar_cons (ar_cons (ar_cons ar_nil))))
  (sss_cons (ss_set 6 sc.nd (sc_add (se_var 3) (se_var 2)))
  (sss_cons (ss_for PassesOwn.never rfl (pi_list (se_var 1)) ii_list (pg_name (i := 7) sc.nd rfl (by first | exact Or.inl rfl | exact Or.inr rfl)) (tg_name 7)
  (sss_one (ss_fz [6] sR (ss_if (st_w (sw_and (c_le (sb_ix (sb_var 7) (sb_se se_int)) (sb_se (se_sc (sc_add (se_var 6) (se_len (by rfl) m_len (sb_var 5))) sR))).1 (sw_and1 (c_le (sb_var 6) (sb_se (se_sc (sc_add (se_ixv 7 se_int) (se_len (by rfl) m_len (sb_ix (sb_var 7) (sb_se se_int)))) sR))).1)))
  (sss_one (ss_ret se_bl))
  sss_nil))))
  (sss_one (ss_set 2 sc.nd (sc_se (se_sub (sb_se (se_sc (sc_add (se_var 2) (se_len (by rfl) m_len (sb_var 5))) sR)) (sb_se (se_len (by rfl) m_len (sb_var 4))))))))))
  (sss_one (ss_ret se_bl))))
abbrev s__law_same : Stmt := topS 54
theorem sc__law_same : FnScope ["_law_page_here", "_law_one", "_law_other", "_law_first", "_law_second"] ["_law_page_here", "_law_one", "_law_other", "_law_first", "_law_second"] (L2.defScope s__law_same) := ⟨rfl, rfl, rfl, by decide +kernel, rfl, by decide +kernel, by decide +kernel⟩
def g__law_same : FS :=
  (seqF (ifF (orF (mp (un1 (mp (mp (callC φ_fits (consA (vE 0) (consA (vE 1) nilA))) frz) (·.2)) boolD) (!·)) (mp (un1 (mp (mp (callC φ_fits (consA (mp (callC φ_done (consA (vE 0) (consA (vE 1) nilA))) frz) (consA (vE 2) nilA))) frz) (·.2)) boolD) (!·))) (retF (fun _ => some (true, D.bl true))) nxF)
  (seqF (ifF (orF (mp (un1 (mp (mp (callC φ_fits (consA (vE 0) (consA (vE 3) nilA))) frz) (·.2)) boolD) (!·)) (mp (un1 (mp (mp (callC φ_fits (consA (mp (callC φ_done (consA (vE 0) (consA (vE 3) nilA))) frz) (consA (vE 4) nilA))) frz) (·.2)) boolD) (!·))) (retF (fun _ => some (true, D.bl false))) nxF)
  (retF (blE (bi (mp (mp (callC φ_done (consA (mp (callC φ_done (consA (vE 0) (consA (vE 3) nilA))) frz) (consA (vE 4) nilA))) frz) (·.2)) (mp (mp (callC φ_done (consA (mp (callC φ_done (consA (vE 0) (consA (vE 1) nilA))) frz) (consA (vE 2) nilA))) frz) (·.2)) eqD)))))
def φ__law_same : Phi := phi 5 g__law_same
theorem ok__law_same (hx : NoE CX) (Df : Def K mg c "_law_same" s__law_same ["_law_page_here", "_law_one", "_law_other", "_law_first", "_law_second"]) (O_fits : Okd P w K mg base CX cs 10 "fits" 2 φ_fits) (O_done : Okd P w K mg base CX cs 10 "done" 2 φ_done) : Okd P w K mg base CX cs 11 "_law_same" 5 φ__law_same :=
  have sc := sc__law_same
  fnD (k := 10) Df sc fun f A outer s H E R hr sR hT => (sss_cons (ss_if (st_w (sw_or (st_not (st_val (sb_se (se_sc (sc_fn O_fits hT hx hr (by decide) (sa_cons (se_var 0) (sa_cons (se_var 1) sa_nil)) (len_consA (len_consA (fun _ _ h => len_nilA h)))) sR)))) (sw_or1 (st_not (st_val (sb_se (se_sc (sc_fn O_fits hT hx hr (by decide) (sa_cons (se_sc (sc_fn O_done hT hx hr (by decide) (sa_cons (se_var 0) (sa_cons (se_var 1) sa_nil)) (len_consA (len_consA (fun _ _ h => len_nilA h)))) sR) (sa_cons (se_var 2) sa_nil)) (len_consA (len_consA (fun _ _ h => len_nilA h)))) sR)))))))
  (sss_one (ss_ret se_bl))
  sss_nil)
  (sss_cons (ss_if (st_w (sw_or (st_not (st_val (sb_se (se_sc (sc_fn O_fits hT hx hr (by decide) (sa_cons (se_var 0) (sa_cons (se_var 3) sa_nil)) (len_consA (len_consA (fun _ _ h => len_nilA h)))) sR)))) (sw_or1 (st_not (st_val (sb_se (se_sc (sc_fn O_fits hT hx hr (by decide) (sa_cons (se_sc (sc_fn O_done hT hx hr (by decide) (sa_cons (se_var 0) (sa_cons (se_var 3) sa_nil)) (len_consA (len_consA (fun _ _ h => len_nilA h)))) sR) (sa_cons (se_var 4) sa_nil)) (len_consA (len_consA (fun _ _ h => len_nilA h)))) sR)))))))
  (sss_one (ss_ret se_bl))
  sss_nil)
  (sss_one (ss_ret (c_eq hr (sb_se (se_sc (sc_fn O_done hT hx hr (by decide) (sa_cons (se_sc (sc_fn O_done hT hx hr (by decide) (sa_cons (se_var 0) (sa_cons (se_var 3) sa_nil)) (len_consA (len_consA (fun _ _ h => len_nilA h)))) sR) (sa_cons (se_var 4) sa_nil)) (len_consA (len_consA (fun _ _ h => len_nilA h)))) sR)) (sb_se (se_sc (sc_fn O_done hT hx hr (by decide) (sa_cons (se_sc (sc_fn O_done hT hx hr (by decide) (sa_cons (se_var 0) (sa_cons (se_var 1) sa_nil)) (len_consA (len_consA (fun _ _ h => len_nilA h)))) sR) (sa_cons (se_var 2) sa_nil)) (len_consA (len_consA (fun _ _ h => len_nilA h)))) sR))).2))))
abbrev s_law : Stmt := topS 55
theorem sc_law : FnScope ["_law_script", "_law_page_here", "_law_one", "_law_other", "_law_handed", "_law_told", "_law_first", "_law_second", "_law_k", "_law_third", "_law_then", "_law_piece"] ["_law_script"] (L2.defScope s_law) := ⟨rfl, rfl, rfl, by decide +kernel, rfl, by decide +kernel, by decide +kernel⟩
def tg_law_1 : TgD :=
  (nameT 11)
def el_law_1 : FE :=
  (mp (slF (vE 11) (un1 (mp (fun _ => some (true, D.int 1)) (·.2)) intO) (fun _ => some none) cutC) frz)
def tg_law_2 : TgD :=
  (nameT 11)
def el_law_2 : FE :=
  (mp (slF (vE 11) (un1 (mp (fun _ => some (true, D.int 1)) (·.2)) intO) (fun _ => some none) cutC) frz)
def tg_law_3 : TgD :=
  (nameT 11)
def el_law_3 : FE :=
  (mp (slF (vE 11) (un1 (mp (fun _ => some (true, D.int 1)) (·.2)) intO) (fun _ => some none) cutC) frz)
def tg_law_4 : TgD :=
  (nameT 11)
def el_law_4 : FE :=
  (mp (slF (vE 11) (un1 (mp (fun _ => some (true, D.int 1)) (·.2)) intO) (fun _ => some none) cutC) frz)
def tg_law_5 : TgD :=
  (nameT 8)
def lb_law_1 : FS :=
  (seqF (fzF [1, 2] (setF 9 (callC φ__law_other_page (consA (vE 1) (consA (vE 2) (consA (mp (callC φ__law_cell_at (consA (vE 0) (consA (mp (bi (fun _ => some (true, D.int 3)) (vE 8) addC) frz) nilA))) frz) nilA))))))
  (fzF [1, 9, 2, 3] (ifF (mp (un1 (mp (mp (callC φ__law_same (consA (bi (mp (un1 (consA (vE 1) (consA (vE 9) nilA)) ownC) frz) (vE 8) fun x y => itemE x y.2) (consA (vE 2) (consA (vE 3) (consA (vE 6) (consA (vE 7) nilA)))))) frz) (·.2)) boolD) (!·)) (retF (fun _ => some (true, D.bl false))) nxF)))
def g_law : FS :=
  (seqF (setF 1 (callC φ__law_page (consA (mp (callC φ__law_cell_at (consA (vE 0) (consA (fun _ => some (true, D.int 0)) nilA))) frz) (consA (fun _ => some (true, D.int 12)) nilA))))
  (seqF (fzF [1] (setF 2 (callC φ__law_change (consA (mp (callC φ__law_cell_at (consA (vE 0) (consA (fun _ => some (true, D.int 1)) nilA))) frz) (consA (vE 1) (consA (fun _ => some (true, D.int 4)) nilA))))))
  (seqF (fzF [1, 2] (setF 3 (callC φ__law_change (consA (mp (callC φ__law_cell_at (consA (vE 0) (consA (fun _ => some (true, D.int 2)) nilA))) frz) (consA (mp (callC φ__law_done (consA (vE 1) (consA (vE 2) nilA))) frz) (consA (fun _ => some (true, D.int 3)) nilA))))))
  (seqF (fzF [2, 3] (setF 4 (un1 (consA (mp (callC φ__law_copied (consA (vE 2) nilA)) frz) (consA (mp (callC φ__law_copied (consA (vE 3) nilA)) frz) nilA)) ownC)))
  (seqF (setF 5 (callC φ_exchanged (consA (xvE 4 (fun _ => some (true, D.int 0))) (consA (xvE 4 (fun _ => some (true, D.int 1))) nilA))))
  (seqF (fzF [2, 3] (ifF (bi (vB 4) (mp (mp (un1 (consA (vE 2) (consA (vE 3) nilA)) ownC) frz) (·.2)) neD) (retF (fun _ => some (true, D.bl false))) nxF))
  (seqF (fzF [2, 3] (ifF (un1 (mp (mp (callC φ__law_meet (consA (vE 2) (consA (vE 3) nilA))) frz) (·.2)) boolD) (retF (blE (bi (vB 5) (mp (fun _ => some (true, D.non)) (·.2)) isN))) nxF))
  (seqF (ifF (orF (mp (un1 (mp (un1 (vB 5) (isiE .tuple)) (·.2)) boolD) (!·)) (bi (mp (un1 (vB 5) lenD) (·.2)) (mp (fun _ => some (true, D.int 2)) (·.2)) neD)) (retF (fun _ => some (true, D.bl false))) nxF)
  (seqF (fzF [5] (unpF (vE 5) (orT (tupT (consT (nameT 6) (consT (nameT 7) nilT))) (unlT (consT (nameT 6) (consT (nameT 7) nilT))))))
  (seqF (ifF (orF (mp (un1 (mp (mp (callC φ__law_is_change (consA (vE 6) nilA)) frz) (·.2)) boolD) (!·)) (mp (un1 (mp (mp (callC φ__law_is_change (consA (vE 7) nilA)) frz) (·.2)) boolD) (!·))) (retF (fun _ => some (true, D.bl false))) nxF)
  (seqF (fzF [3] (ifF (bi (mp (mp (lcF (un1 (vE 6) itemsE) ([("_law_piece", 11)].map (·.2)) tg_law_1 (fun _ => some true) el_law_1) frz) (·.2)) (mp (mp (lcF (un1 (vE 3) itemsE) ([("_law_piece", 11)].map (·.2)) tg_law_2 (fun _ => some true) el_law_2) frz) (·.2)) neD) (retF (fun _ => some (true, D.bl false))) nxF))
  (seqF (fzF [2] (ifF (bi (mp (mp (lcF (un1 (vE 7) itemsE) ([("_law_piece", 11)].map (·.2)) tg_law_3 (fun _ => some true) el_law_3) frz) (·.2)) (mp (mp (lcF (un1 (vE 2) itemsE) ([("_law_piece", 11)].map (·.2)) tg_law_4 (fun _ => some true) el_law_4) frz) (·.2)) neD) (retF (fun _ => some (true, D.bl false))) nxF))
  (seqF (fzF [2, 3] (ifF (bi (mp (mp (callC φ_exchanged (consA (mp (callC φ__law_copied (consA (vE 6) nilA)) frz) (consA (mp (callC φ__law_copied (consA (vE 7) nilA)) frz) nilA))) frz) (·.2)) (mp (un1 (consA (vE 2) (consA (vE 3) nilA)) tupD) (·.2)) neD) (retF (fun _ => some (true, D.bl false))) nxF))
  (seqF (forF (un1 (consA (fun _ => some (true, D.int 2)) nilA) rng1) tg_law_5 lb_law_1)
  (seqF (fzF [1] (setF 10 (callC φ_done (consA (vE 1) (consA (mp (callC φ_behind (consA (vE 6) (consA (vE 7) nilA))) frz) nilA)))))
  (fzF [1, 2, 3] (retF (blE (bi (vB 10) (mp (mp (callC φ_done (consA (vE 1) (consA (mp (callC φ_behind (consA (vE 2) (consA (vE 3) nilA))) frz) nilA))) frz) (·.2)) eqD)))))))))))))))))))
def φ_law : Phi := phi 12 g_law
theorem ok_law (hx : NoE CX) {f : Addr} {fd : FuncData} (Df : DefL K c "law" s_law f fd) (O__law_page : Okd P w K mg base CX cs 3 "_law_page" 2 φ__law_page) (O__law_cell_at : Okd P w K mg base CX cs 2 "_law_cell_at" 2 φ__law_cell_at) (O__law_change : Okd P w K mg base CX cs 3 "_law_change" 3 φ__law_change) (O__law_done : Okd P w K mg base CX cs 2 "_law_done" 2 φ__law_done) (O__law_copied : Okd P w K mg base CX cs 2 "_law_copied" 1 φ__law_copied) (O_exchanged : Okd P w K mg base CX cs 10 "exchanged" 2 φ_exchanged) (O__law_meet : Okd P w K mg base CX cs 2 "_law_meet" 2 φ__law_meet) (O__law_is_change : Okd P w K mg base CX cs 2 "_law_is_change" 1 φ__law_is_change) (O__law_other_page : Okd P w K mg base CX cs 3 "_law_other_page" 3 φ__law_other_page) (O__law_same : Okd P w K mg base CX cs 11 "_law_same" 5 φ__law_same) (O_done : Okd P w K mg base CX cs 10 "done" 2 φ_done) (O_behind : Okd P w K mg base CX cs 10 "behind" 2 φ_behind) (m_isinstance : mg "isinstance" = none) (m_len : mg "len" = none) (m_range : mg "range" = none) (m_tuple : mg "tuple" = none) : FnOk P w K mg base CX 12 f fd ["_law_script"] (spD K cs 1 φ_law) :=
  have sc := sc_law
  fnL (k := 11) Df sc fun f A outer s H E R hr sR hT => (sss_cons (ss_set 1 sc.nd (sc_fn O__law_page hT hx hr (by decide) (sa_cons (se_sc (sc_fn O__law_cell_at hT hx hr (by decide) (sa_cons (se_var 0) (sa_cons se_int sa_nil)) (len_consA (len_consA (fun _ _ h => len_nilA h)))) sR) (sa_cons se_int sa_nil)) (len_consA (len_consA (fun _ _ h => len_nilA h)))))
  (sss_cons (ss_fz [1] sR (ss_set 2 sc.nd (sc_fn O__law_change hT hx hr (by decide) (sa_cons (se_sc (sc_fn O__law_cell_at hT hx hr (by decide) (sa_cons (se_var 0) (sa_cons se_int sa_nil)) (len_consA (len_consA (fun _ _ h => len_nilA h)))) sR) (sa_cons (se_var 1) (sa_cons se_int sa_nil))) (len_consA (len_consA (len_consA (fun _ _ h => len_nilA h)))))))
  (sss_cons (ss_fz [1, 2] sR (ss_set 3 sc.nd (sc_fn O__law_change hT hx hr (by decide) (sa_cons (se_sc (sc_fn O__law_cell_at hT hx hr (by decide) (sa_cons (se_var 0) (sa_cons se_int sa_nil)) (len_consA (len_consA (fun _ _ h => len_nilA h)))) sR) (sa_cons (se_sc (sc_fn O__law_done hT hx hr (by decide) (sa_cons (se_var 1) (sa_cons (se_var 2) sa_nil)) (len_consA (len_consA (fun _ _ h => len_nilA h)))) sR) (sa_cons se_int sa_nil))) (len_consA (len_consA (len_consA (fun _ _ h => len_nilA h)))))))
  (sss_cons (ss_fz [2, 3] sR (ss_set 4 sc.nd (sc_lst (sa_cons (se_sc (sc_fn O__law_copied hT hx hr (by decide) (sa_cons (se_var 2) sa_nil) (len_consA (fun _ _ h => len_nilA h))) sR) (sa_cons (se_sc (sc_fn O__law_copied hT hx hr (by decide) (sa_cons (se_var 3) sa_nil) (len_consA (fun _ _ h => len_nilA h))) sR) sa_nil)))))
  (sss_cons (ss_set 5 sc.nd (sc_fn O_exchanged hT hx hr (by decide) (sa_cons (se_ixv 4 se_int) (sa_cons (se_ixv 4 se_int) sa_nil)) (len_consA (len_consA (fun _ _ h => len_nilA h)))))
  (sss_cons (ss_fz [2, 3] sR (ss_if (c_ne hr (sb_var 4) (sb_se (se_sc (sc_lst (sa_cons (se_var 2) (sa_cons (se_var 3) sa_nil))) sR))).1
  (sss_one (ss_ret se_bl))
  sss_nil))
  (sss_cons (ss_fz [2, 3] sR (ss_if (st_val (sb_se (se_sc (sc_fn O__law_meet hT hx hr (by decide) (sa_cons (se_var 2) (sa_cons (se_var 3) sa_nil)) (len_consA (len_consA (fun _ _ h => len_nilA h)))) sR)))
  (sss_one (ss_ret (c_isN (sb_var 5) (sb_se se_non)).2))
  sss_nil))
  (sss_cons (ss_if (st_w (sw_or (st_not (st_val (sb_se (se_isi .tuple (by rfl) m_isinstance (sb_var 5) (by rfl) m_tuple (by decide +kernel))))) (sw_or1 (c_ne hr (sb_se (se_len (by rfl) m_len (sb_var 5))) (sb_se se_int)).1)))
  (sss_one (ss_ret se_bl))
  sss_nil)
  (sss_cons (ss_fz [5] sR (ss_unpack (se_var 5) (pg_or (pg_tup (n := 2) rfl (pgs_cons (pg_name (i := 6) sc.nd rfl (by first | exact Or.inl rfl | exact Or.inr rfl)) (pgs_cons (pg_name (i := 7) sc.nd rfl (by first | exact Or.inl rfl | exact Or.inr rfl)) pgs_nil))) (pg_unl (n := 2) rfl (pgs_cons (pg_name (i := 6) sc.nd rfl (by first | exact Or.inl rfl | exact Or.inr rfl)) (pgs_cons (pg_name (i := 7) sc.nd rfl (by first | exact Or.inl rfl | exact Or.inr rfl)) pgs_nil)))) (tg_or (tg_tup (tgs_cons (tg_name 6) (tgs_cons (tg_name 7) tgs_nil)) (ar_cons (ar_cons ar_nil))) (tg_unl (tgs_cons (tg_name 6) (tgs_cons (tg_name 7) tgs_nil)) (ar_cons (ar_cons ar_nil))))))
  (sss_cons (ss_if (st_w (sw_or (st_not (st_val (sb_se (se_sc (sc_fn O__law_is_change hT hx hr (by decide) (sa_cons (se_var 6) sa_nil) (len_consA (fun _ _ h => len_nilA h))) sR)))) (sw_or1 (st_not (st_val (sb_se (se_sc (sc_fn O__law_is_change hT hx hr (by decide) (sa_cons (se_var 7) sa_nil) (len_consA (fun _ _ h => len_nilA h))) sR)))))))
  (sss_one (ss_ret se_bl))
  sss_nil)
  (sss_cons (ss_fz [3] sR (ss_if (c_ne hr (sb_se (se_sc (sc_lc (own := [("_law_piece", 11)]) rfl sc.nd (pi_list (se_var 6)) ii_list (blkOk_by (by rfl)) (fun _ _ _ _ _ => (pg_name (i := 11) sc.nd rfl (by first | exact Or.inl rfl | exact Or.inr rfl))) (tg_name 11) (by decide) (fun _ _ _ _ _ => pts_nil) tt_yes (fun _ _ _ _ _ => (se_sc (sc_slice (se_var 11) (so_some (sb_se se_int)) so_none) sR))) sR)) (sb_se (se_sc (sc_lc (own := [("_law_piece", 11)]) rfl sc.nd (pi_list (se_var 3)) ii_list (blkOk_by (by rfl)) (fun _ _ _ _ _ => (pg_name (i := 11) sc.nd rfl (by first | exact Or.inl rfl | exact Or.inr rfl))) (tg_name 11) (by decide) (fun _ _ _ _ _ => pts_nil) tt_yes (fun _ _ _ _ _ => (se_sc (sc_slice (se_var 11) (so_some (sb_se se_int)) so_none) sR))) sR))).1
  (sss_one (ss_ret se_bl))
  sss_nil))
  (sss_cons (ss_fz [2] sR (ss_if (c_ne hr (sb_se (se_sc (sc_lc (own := [("_law_piece", 11)]) rfl sc.nd (pi_list (se_var 7)) ii_list (blkOk_by (by rfl)) (fun _ _ _ _ _ => (pg_name (i := 11) sc.nd rfl (by first | exact Or.inl rfl | exact Or.inr rfl))) (tg_name 11) (by decide) (fun _ _ _ _ _ => pts_nil) tt_yes (fun _ _ _ _ _ => (se_sc (sc_slice (se_var 11) (so_some (sb_se se_int)) so_none) sR))) sR)) (sb_se (se_sc (sc_lc (own := [("_law_piece", 11)]) rfl sc.nd (pi_list (se_var 2)) ii_list (blkOk_by (by rfl)) (fun _ _ _ _ _ => (pg_name (i := 11) sc.nd rfl (by first | exact Or.inl rfl | exact Or.inr rfl))) (tg_name 11) (by decide) (fun _ _ _ _ _ => pts_nil) tt_yes (fun _ _ _ _ _ => (se_sc (sc_slice (se_var 11) (so_some (sb_se se_int)) so_none) sR))) sR))).1
  (sss_one (ss_ret se_bl))
  sss_nil))
  (sss_cons (ss_fz [2, 3] sR (ss_if (c_ne hr (sb_se (se_sc (sc_fn O_exchanged hT hx hr (by decide) (sa_cons (se_sc (sc_fn O__law_copied hT hx hr (by decide) (sa_cons (se_var 6) sa_nil) (len_consA (fun _ _ h => len_nilA h))) sR) (sa_cons (se_sc (sc_fn O__law_copied hT hx hr (by decide) (sa_cons (se_var 7) sa_nil) (len_consA (fun _ _ h => len_nilA h))) sR) sa_nil)) (len_consA (len_consA (fun _ _ h => len_nilA h)))) sR)) (sb_se (se_tup (sa_cons (se_var 2) (sa_cons (se_var 3) sa_nil))))).1
  (sss_one (ss_ret se_bl))
  sss_nil))
  (sss_cons (ss_for PassesOwn.never rfl (pi_range1 (by rfl) m_range (sa_cons se_int sa_nil)) ii_rng1 (pg_name (i := 8) sc.nd rfl (by first | exact Or.inl rfl | exact Or.inr rfl)) (tg_name 8)
  (sss_cons (ss_fz [1, 2] sR (ss_set 9 sc.nd (sc_fn O__law_other_page hT hx hr (by decide) (sa_cons (se_var 1) (sa_cons (se_var 2) (sa_cons (se_sc (sc_fn O__law_cell_at hT hx hr (by decide) (sa_cons (se_var 0) (sa_cons (se_sc (sc_add se_int (se_var 8)) sR) sa_nil)) (len_consA (len_consA (fun _ _ h => len_nilA h)))) sR) sa_nil))) (len_consA (len_consA (len_consA (fun _ _ h => len_nilA h)))))))
  (sss_one (ss_fz [1, 9, 2, 3] sR (ss_if (st_not (st_val (sb_se (se_sc (sc_fn O__law_same hT hx hr (by decide) (sa_cons (se_ix (se_sc (sc_lst (sa_cons (se_var 1) (sa_cons (se_var 9) sa_nil))) sR) (se_var 8)) (sa_cons (se_var 2) (sa_cons (se_var 3) (sa_cons (se_var 6) (sa_cons (se_var 7) sa_nil))))) (len_consA (len_consA (len_consA (len_consA (len_consA (fun _ _ h => len_nilA h))))))) sR))))
  (sss_one (ss_ret se_bl))
  sss_nil)))))
  (sss_cons (ss_fz [1] sR (ss_set 10 sc.nd (sc_fn O_done hT hx hr (by decide) (sa_cons (se_var 1) (sa_cons (se_sc (sc_fn O_behind hT hx hr (by decide) (sa_cons (se_var 6) (sa_cons (se_var 7) sa_nil)) (len_consA (len_consA (fun _ _ h => len_nilA h)))) sR) sa_nil)) (len_consA (len_consA (fun _ _ h => len_nilA h))))))
  (sss_one (ss_fz [1, 2, 3] sR (ss_ret (c_eq hr (sb_var 10) (sb_se (se_sc (sc_fn O_done hT hx hr (by decide) (sa_cons (se_var 1) (sa_cons (se_sc (sc_fn O_behind hT hx hr (by decide) (sa_cons (se_var 2) (sa_cons (se_var 3) sa_nil)) (len_consA (len_consA (fun _ _ h => len_nilA h)))) sR) sa_nil)) (len_consA (len_consA (fun _ _ h => len_nilA h)))) sR))).2))))))))))))))))))
end
end K05
end
section
set_option Elab.async false
set_option linter.all false
set_option maxRecDepth 100000
set_option maxHeartbeats 4000000
namespace K05
open PySem Dl
abbrev Pc := Int × List Str × List Str
def L (ls : List Str) : D := .lst (ls.map .str)
def Pi (p : Pc) : D := .tup [.int p.1, L p.2.1, L p.2.2]
def Ch (c : List Pc) : D := .lst (c.map Pi)
theorem scal_int {i : Int} : scal (.int i) = true := rfl
theorem scal_str {i : Str} : scal (.str i) = true := rfl
theorem scal_bl {i : Bool} : scal (.bl i) = true := rfl
theorem scal_non : scal .non = true := rfl
theorem scal_L {i : List Str} : scal (L i) = false := rfl
theorem scal_Pi {i : Pc} : scal (Pi i) = false := rfl
theorem scal_Ch {i : List Pc} : scal (Ch i) = false := rfl
theorem scal_lst {i : List D} : scal (.lst i) = false := rfl
theorem scal_tup {i : List D} : scal (.tup i) = false := rfl
theorem itemsE_L {m : Bool} {i : List Str} : itemsE (m, L i) = some (flag m (i.map .str)) := rfl
theorem itemsE_Ch {m : Bool} {i : List Pc} : itemsE (m, Ch i) = some (flag m (i.map Pi)) := rfl
theorem itemsE_lst {m : Bool} {i : List D} : itemsE (m, .lst i) = some (flag m i) := rfl
theorem andE_t {f g : FE} {τ : DS} {m : Bool} (h : f τ = some (m, .bl true)) : andE f g τ = g τ := by unfold andE; rw [h]; rfl
theorem andE_f {f g : FE} {τ : DS} {m : Bool} (h : f τ = some (m, .bl false)) : andE f g τ = some (true, .bl false) := by unfold andE; rw [h]; rfl
theorem lenD_L {i : List Str} : lenD (L i) = some (true, .int i.length) := by unfold L lenD; simp
theorem lenD_Ch {i : List Pc} : lenD (Ch i) = some (true, .int i.length) := by unfold Ch lenD; simp
theorem lenD_lst {i : List D} : lenD (.lst i) = some (true, .int i.length) := rfl
theorem lenD_tup {i : List D} : lenD (.tup i) = some (true, .int i.length) := rfl
theorem lenD_Pi {p : Pc} : lenD (Pi p) = some (true, .int 3) := rfl
theorem isi_tup {p : Pc} : isi .tuple (Pi p) = some true := rfl
theorem isi_listCh {c : List Pc} : isi .list (Ch c) = some true := rfl
theorem isi_listL {c : List Str} : isi .list (L c) = some true := rfl
theorem isi_int {i : Int} : isi .int (.int i) = some true := rfl
theorem isi_boolI {i : Int} : isi .bool (.int i) = some false := rfl
theorem isi_strS {i : Str} : isi .str (.str i) = some true := rfl
theorem flag_nil {m : Bool} : flag m [] = [] := rfl
theorem flag_cons {m : Bool} {d : D} {ds : List D} : flag m (d :: ds) = (m || scal d, d) :: flag m ds := rfl
theorem scalStr (ls : List Str) : allScal (ls.map D.str) = true := by
  induction ls with
  | nil => rfl
  | cons x r ih => exact ih
theorem forD_nil {t : TgD} {gb : FS} {τ : DS} : forD t gb [] τ = some (.nx τ) := rfl
theorem forD_nx {t : TgD} {gb : FS} {p : Bool × D} {ps : List (Bool × D)} {τ τ1 τ2 : DS} (h : t p τ = some τ1) (k : gb τ1 = some (.nx τ2)) : forD t gb (p :: ps) τ = forD t gb ps τ2 := by
  rw [forD, h]
  show (gb τ1).bind _ = _
  rw [k]
  rfl
/-! ### turned_about -/
def turn : Int → List Pc → List Pc
  | _, [] => []
  | s, p :: c => (p.1 + s, p.2.2, p.2.1) :: turn (s + ((p.2.2.length : Int) - (p.2.1.length : Int))) c
theorem lb_ta {x : Option C} {acc : List D} {sh pl : Int} {a b : List Str} {m n o : Bool} (h : acc.length < lim) :
    lb_turned_about_1 [x, some (.own true acc), some (.d true (.int sh)), some (.d m (.int pl)), some (.d n (L a)), some (.d o (L b))] =
      some (.nx [x, some (.own true (acc ++ [Pi (pl + sh, b, a)])), some (.d true (.int (sh + ((b.length : Int) - (a.length : Int))))), some (.d m (.int pl)), some (.d n (L a)), some (.d o (L b))]) := by
  have h : acc.length < 16777216 := h
  simp [lb_turned_about_1, seqF, ownF, consA, un1, mp, bi, vE, vB, cellD, cellB, addC, frz, listC, L, tupD, nilA, appOp, augF, subF, lenD, oI, yes2, scalStr, h, Pi, lim]
theorem fr_ta {m : Bool} : ∀ (c : List Pc) (acc : List D) (sh : Int) (x : Option C) (y z u : Option C), acc.length + c.length ≤ lim →
    ∃ sh' y' z' u', forD tg_turned_about_1 lb_turned_about_1 (flag m (c.map Pi)) [x, some (.own true acc), some (.d true (.int sh)), y, z, u] = some (.nx [x, some (.own true (acc ++ (turn sh c).map Pi)), some (.d true (.int sh')), y', z', u'])
  | [], acc, sh, x, y, z, u, h => ⟨sh, y, z, u, by simp [flag, forD, turn]⟩
  | p :: c, acc, sh, x, y, z, u, h => by
    obtain ⟨pl, a, b⟩ := p
    rw [List.length_cons] at h
    obtain ⟨sh', y', z', u', ih⟩ := fr_ta (m := m) c (acc ++ [Pi (pl + sh, b, a)]) (sh + ((b.length : Int) - (a.length : Int))) x (some (.d true (.int pl))) (some (.d m (L a))) (some (.d m (L b))) (by rw [List.length_append, List.length_singleton]; omega)
    refine ⟨sh', y', z', u', ?_⟩
    rw [List.map_cons, flag_cons, forD_nx (τ1 := [x, some (.own true acc), some (.d true (.int sh)), some (.d true (.int pl)), some (.d m (L a)), some (.d m (L b))]) ?_ (lb_ta (by omega)), ih]
    · simp [turn]
    · simp [tg_turned_about_1, tupT, consT, nameT, nilT, Pi, flag_cons, flag_nil, scal_int, scal_L, scal_tup]
theorem φ_ta (c : List Pc) (h : c.length ≤ lim) : φ_turned_about [Ch c] = some (.ok true (Ch (turn 0 c))) := by
  obtain ⟨sh', y', z', u', e⟩ := fr_ta (m := false) c [] 0 (some (.d false (Ch c))) none none none (by simpa using h)
  unfold φ_turned_about phi
  simp [g_turned_about, forF, seqF, ownF, consA, un1, mp, bi, vE, vB, cellD, cellB, addC, frz, dC, tupD, nilA, augF, subF, modF, fdivF, powF, oI, yes2, ownC, setF, ifF, andF, orF, blE, retF, retNF, nxF, noF, dropF, fzF, fzs, fz, unpF, xvE, itemC, cI, lt2, le2, gt2, ge2, boolD, notD, negD, callC, resC, isiE, isi_tup, isi_listCh, isi_listL, isi_int, isi_boolI, isi_strS, lenD_Pi, isN, notN, intO, slF, startD, List.replicate, scal_int, scal_str, scal_bl, scal_non, scal_L, scal_Pi, scal_Ch, scal_lst, scal_tup, itemsE_L, itemsE_Ch, itemsE_lst, andE_t, andE_f, lenD_L, lenD_Ch, lenD_lst, lenD_tup, e]
  rfl
/-! ### small ones -/
theorem φ_end (p : Pc) : φ_end_of [Pi p] = some (.ok true (.int (p.1 + p.2.1.length))) := by
  unfold φ_end_of phi
  simp [g_end_of, seqF, ownF, consA, un1, mp, bi, vE, vB, cellD, cellB, addC, frz, dC, tupD, nilA, augF, subF, modF, fdivF, powF, oI, yes2, ownC, setF, ifF, andF, orF, blE, retF, retNF, nxF, noF, dropF, fzF, fzs, fz, unpF, xvE, itemC, cI, lt2, le2, gt2, ge2, boolD, notD, negD, callC, resC, isiE, isi_tup, isi_listCh, isi_listL, isi_int, isi_boolI, isi_strS, lenD_Pi, isN, notN, intO, slF, startD, List.replicate, scal_int, scal_str, scal_bl, scal_non, scal_L, scal_Pi, scal_Ch, scal_lst, scal_tup, itemsE_L, itemsE_Ch, itemsE_lst, andE_t, andE_f, lenD_L, lenD_Ch, lenD_lst, lenD_tup, Pi, itemE, itemB, L2.atI, L2.ixN, HT.sIx]

/-! ### first_missing -/
theorem atI_nat {α : Type} {xs : List α} {n : Nat} (h : n < xs.length) : L2.atI xs (n : Int) = xs[n]? := by
  unfold L2.atI L2.ixN
  rw [if_pos (Int.natCast_nonneg n), if_pos (by omega)]
  rfl
theorem itemE_L {m : Bool} {ls : List Str} {n : Nat} {x : Str} (h : ls[n]? = some x) : itemE (m, L ls) (.int n) = some (true, .str x) := by
  have hn := lt_of_some h
  show (L2.atI (ls.map D.str) (n : Int)).map _ = _
  rw [atI_nat (by rw [List.length_map]; exact hn), List.getElem?_map, h]
  cases m <;> rfl
theorem itemB_L {ls : List Str} {n : Nat} {x : Str} (h : ls[n]? = some x) : itemB (L ls) (.int n) = some (.str x) := by
  have hn := lt_of_some h
  show L2.atI (ls.map D.str) (n : Int) = _
  rw [atI_nat (by rw [List.length_map]; exact hn), List.getElem?_map, h]
  rfl
/-! ### lines, texts that are compared -/
def LL : List Str := ["a", "b", "", "@ 3", "-a", "c", "+", "=b", " ", "@", "a b", "~"]
def Ln (ls : List Str) : Prop := ∀ x ∈ ls, x ∈ LL
theorem LL_ok : ∀ x ∈ LL, PyData.strOk x = true ∧ Txt.isascii x = true ∧ Txt.isprintable x = true := by decide +kernel
theorem lay_strs : ∀ ls : List Str, Ln ls → plainL (ls.map D.str) = true ∧ PyData.canLayAll0 (pyL (ls.map D.str)) = true ∧ PyData.depthAll (pyL (ls.map D.str)) = 0
  | [], _ => ⟨rfl, rfl, rfl⟩
  | x :: ls, h => by
    obtain ⟨h1, h2, h3⟩ := lay_strs ls fun y hy => h y (List.mem_cons_of_mem _ hy)
    have hx := (LL_ok x (h x (List.mem_cons_self ..))).1
    refine ⟨?_, ?_, ?_⟩
    · simp [plainL, plainD, h1]
    · simp [pyL, py, PyData.canLayAll0, PyData.canLay0, hx, h2]
    · simp [pyL, py, PyData.depthAll, PyData.depth, h3]
theorem okEq_str {x : Str} (h : x ∈ LL) : okEq (.str x) = true := by
  simp [okEq, plainD, py, SeqAt.shaped, PyData.canLay0, PyData.depth, (LL_ok x h).1]
theorem okEq_L {ls : List Str} (h : Ln ls) : okEq (L ls) = true := by
  obtain ⟨h1, h2, h3⟩ := lay_strs ls h
  simp [okEq, L, plainD, py, SeqAt.shaped, PyData.canLay0, PyData.depth, h1, h2, h3]
def LnC (c : List Pc) : Prop := ∀ p ∈ c, Ln p.2.1 ∧ Ln p.2.2
theorem lay_pcs : ∀ c : List Pc, LnC c → plainL (c.map Pi) = true ∧ PyData.canLayAll0 (pyL (c.map Pi)) = true ∧ PyData.depthAll (pyL (c.map Pi)) ≤ 2
  | [], _ => ⟨rfl, rfl, by decide⟩
  | p :: c, h => by
    obtain ⟨h1, h2, h3⟩ := lay_pcs c fun y hy => h y (List.mem_cons_of_mem _ hy)
    obtain ⟨a1, a2, a3⟩ := lay_strs p.2.1 (h p (List.mem_cons_self ..)).1
    obtain ⟨b1, b2, b3⟩ := lay_strs p.2.2 (h p (List.mem_cons_self ..)).2
    refine ⟨?_, ?_, ?_⟩
    · simp [plainL, plainD, Pi, L, h1, a1, b1]
    · simp [pyL, py, Pi, L, PyData.canLayAll0, PyData.canLay0, h2, a2, b2]
    · simp [pyL, py, Pi, L, PyData.depthAll, PyData.depth, a3, b3]
      omega
theorem okEq_Ch {c : List Pc} (h : LnC c) : okEq (Ch c) = true := by
  obtain ⟨h1, h2, h3⟩ := lay_pcs c h
  simp [okEq, Ch, plainD, py, SeqAt.shaped, PyData.canLay0, PyData.depth, h1, h2]
  omega
theorem eqv_self {d : D} (h : okEq d = true) : PyData.eqv (py d) (py d) = true := by
  unfold okEq at h
  rw [Bool.and_eq_true] at h
  exact SeqAt.eqv_refl _ (SeqAt.canLay_of_shaped h.2)
theorem eqD_self {d : D} (h : okEq d = true) : eqD d d = some true := by
  unfold eqD
  rw [h, Bool.and_self, if_pos rfl, eqv_self h]
theorem neD_self {d : D} (h : okEq d = true) : neD d d = some false := by
  unfold neD
  rw [h, Bool.and_self, if_pos rfl, eqv_self h]
  rfl
theorem neD_int {x y : Int} : neD (.int x) (.int y) = some (!decide (x = y)) := by
  unfold neD
  simp [okEq, plainD, py, SeqAt.shaped, PyData.eqv, PyData.canLay0, PyData.depth, Bool.beq_eq_decide_eq]
/-! ### first_missing, where the piece fits -/
theorem enumI_cons {m : Bool} {k : Nat} {d : D} {ds : List D} : enumI m k (d :: ds) = (m || scal d, .tup [.int (k : Nat), d]) :: enumI m (k + 1) ds := rfl
theorem lb_fm {pg : List Str} {g k : Nat} {x : Str} {s1 s3 s4 : Option C} {m0 m1 m2 m3 : Bool} (h : pg[g + k]? = some x) (hx : x ∈ LL) :
    lb_first_missing_1 [some (.d m0 (L pg)), s1, some (.d m1 (.int g)), s3, s4, some (.d m2 (.int k)), some (.d m3 (.str x))] = some (.nx [some (.d m0 (L pg)), s1, some (.d m1 (.int g)), s3, s4, some (.d m2 (.int k)), some (.d m3 (.str x))]) := by
  have hl := lt_of_some h
  have e1 : itemB (L pg) (.int ((g : Int) + (k : Int))) = some (.str x) := by rw [← Int.natCast_add]; exact itemB_L h
  have e2 : ¬ (pg.length : Int) ≤ (g : Int) + (k : Int) := by omega
  simp [lb_first_missing_1, seqF, ownF, consA, un1, mp, bi, vE, vB, cellD, cellB, addC, frz, dC, tupD, nilA, augF, subF, modF, fdivF, powF, oI, yes2, ownC, setF, ifF, andF, orF, blE, retF, retNF, nxF, noF, dropF, fzF, fzs, fz, unpF, xvE, itemC, cI, lt2, le2, gt2, ge2, boolD, notD, negD, callC, resC, isiE, isi_tup, isi_listCh, isi_listL, isi_int, isi_boolI, isi_strS, lenD_Pi, isN, notN, intO, slF, startD, List.replicate, scal_int, scal_str, scal_bl, scal_non, scal_L, scal_Pi, scal_Ch, scal_lst, scal_tup, itemsE_L, itemsE_Ch, itemsE_lst, andE_t, andE_f, lenD_L, lenD_Ch, lenD_lst, lenD_tup, e1, e2, neD_self (okEq_str hx)]
theorem fr_fm {pg : List Str} {m : Bool} {g : Nat} {s1 s3 s4 : Option C} {m0 m1 : Bool} : ∀ (ta : List Str) (k : Nat) (x y : Option C), (∀ i, i < ta.length → pg[g + (k + i)]? = ta[i]?) → Ln ta →
    ∃ x' y', forD tg_first_missing_1 lb_first_missing_1 (enumI m k (ta.map D.str)) [some (.d m0 (L pg)), s1, some (.d m1 (.int g)), s3, s4, x, y] = some (.nx [some (.d m0 (L pg)), s1, some (.d m1 (.int g)), s3, s4, x', y'])
  | [], k, x, y, _, _ => ⟨x, y, rfl⟩
  | a :: ta, k, x, y, h, hL => by
    have h0 : pg[g + k]? = some a := by
      have := h 0 (by rw [List.length_cons]; omega)
      rw [Nat.add_zero] at this
      exact this
    obtain ⟨x', y', ih⟩ := fr_fm (pg := pg) (m := m) (g := g) (s1 := s1) (s3 := s3) (s4 := s4) (m0 := m0) (m1 := m1) ta (k + 1) (some (.d true (.int k))) (some (.d true (.str a))) (fun i hi => by
      have := h (i + 1) (by rw [List.length_cons]; omega)
      rw [List.getElem?_cons_succ] at this
      rw [← this]
      congr 1
      omega) fun z hz => hL z (List.mem_cons_of_mem _ hz)
    refine ⟨x', y', ?_⟩
    rw [List.map_cons, enumI_cons, forD_nx (τ1 := [some (.d m0 (L pg)), s1, some (.d m1 (.int g)), s3, s4, some (.d true (.int k)), some (.d true (.str a))]) ?_ (lb_fm h0 (hL a (List.mem_cons_self ..))), ih]
    simp [tg_first_missing_1, tupT, consT, nameT, nilT, flag_cons, flag_nil, scal_int, scal_str]
theorem unp3 {m : Bool} {p : Pc} {τ : DS} {i j k : Nat} : orT (tupT (consT (nameT i) (consT (nameT j) (consT (nameT k) nilT)))) (unlT (consT (nameT i) (consT (nameT j) (consT (nameT k) nilT)))) (m, Pi p) τ =
    some (((τ.set i (some (.d true (.int p.1)))).set j (some (.d m (L p.2.1)))).set k (some (.d m (L p.2.2)))) := by
  simp [orT, Pi, tupT, consT, nameT, nilT, flag_cons, flag_nil, scal_int, scal_L]
def FitAt (pg : List Str) (p : Pc) : Prop := ∃ g r : List Str, pg = g ++ (p.2.1 ++ r) ∧ p.1 = g.length
theorem φ_fm {pg : List Str} {p : Pc} (h : FitAt pg p) (hL : Ln p.2.1) : φ_first_missing [L pg, Pi p] = some (.ok true .non) := by
  obtain ⟨pl, ta, pu⟩ := p
  obtain ⟨g, r, e1, e2⟩ := h
  dsimp only at e1 e2 hL
  obtain ⟨x', y', e⟩ := fr_fm (pg := pg) (m := false) (g := g.length) (s1 := some (.d false (Pi (pl, ta, pu)))) (s3 := some (.d false (L ta))) (s4 := some (.d false (L pu))) (m0 := false) (m1 := true) ta 0 none none (fun i hi => by
    rw [e1, List.getElem?_append_right (by omega), List.getElem?_append_left (by omega)]
    congr 1
    omega) hL
  have c : ¬ (pg.length : Int) < (g.length : Int) := by
    rw [e1, List.length_append]
    omega
  have en : enumF (false, [L ta]) = some (enumI false 0 (ta.map D.str)) := rfl
  unfold φ_first_missing phi
  simp [g_first_missing, forF, seqF, ownF, consA, un1, mp, bi, vE, vB, cellD, cellB, addC, frz, dC, tupD, nilA, augF, subF, modF, fdivF, powF, oI, yes2, ownC, setF, ifF, andF, orF, blE, retF, retNF, nxF, noF, dropF, fzF, fzs, fz, unpF, xvE, itemC, cI, lt2, le2, gt2, ge2, boolD, notD, negD, callC, resC, isiE, isi_tup, isi_listCh, isi_listL, isi_int, isi_boolI, isi_strS, lenD_Pi, isN, notN, intO, slF, startD, List.replicate, scal_int, scal_str, scal_bl, scal_non, scal_L, scal_Pi, scal_Ch, scal_lst, scal_tup, itemsE_L, itemsE_Ch, itemsE_lst, andE_t, andE_f, lenD_L, lenD_Ch, lenD_lst, lenD_tup, unp3, e2, c, en]
  simp only [e2] at e
  simp [e]
/-! ### first_unfit -/
theorem fr_fu {pg : List Str} {m : Bool} : ∀ (c : List Pc) (k : Nat) (s1 x y z : Option C), (∀ p ∈ c, FitAt pg p ∧ Ln p.2.1) →
    ∃ x' y' z', forD tg_first_unfit_1 lb_first_unfit_1 (enumI m k (c.map Pi)) [some (.d false (L pg)), s1, x, y, z] = some (.nx [some (.d false (L pg)), s1, x', y', z'])
  | [], k, s1, x, y, z, _ => ⟨x, y, z, rfl⟩
  | p :: c, k, s1, x, y, z, h => by
    obtain ⟨x', y', z', ih⟩ := fr_fu (pg := pg) (m := m) c (k + 1) s1 (some (.d true (.int k))) (some (.d m (Pi p))) (some (.dp .non)) fun q hq => h q (List.mem_cons_of_mem _ hq)
    obtain ⟨h1, h2⟩ := h p (List.mem_cons_self ..)
    refine ⟨x', y', z', ?_⟩
    rw [List.map_cons, enumI_cons, forD_nx (τ1 := [some (.d false (L pg)), s1, some (.d true (.int k)), some (.d m (Pi p)), z]) (τ2 := [some (.d false (L pg)), s1, some (.d true (.int k)), some (.d m (Pi p)), some (.dp .non)]) ?_ ?_, ih]
    · simp [tg_first_unfit_1, tupT, consT, nameT, nilT, flag_cons, flag_nil, scal_int, scal_Pi]
    · simp [lb_first_unfit_1, seqF, ownF, consA, un1, mp, bi, vE, vB, cellD, cellB, addC, frz, dC, tupD, nilA, augF, subF, modF, fdivF, powF, oI, yes2, ownC, setF, ifF, andF, orF, blE, retF, retNF, nxF, noF, dropF, fzF, fzs, fz, unpF, xvE, itemC, cI, lt2, le2, gt2, ge2, boolD, notD, negD, callC, resC, isiE, isi_tup, isi_listCh, isi_listL, isi_int, isi_boolI, isi_strS, lenD_Pi, isN, notN, intO, slF, startD, List.replicate, scal_int, scal_str, scal_bl, scal_non, scal_L, scal_Pi, scal_Ch, scal_lst, scal_tup, itemsE_L, itemsE_Ch, itemsE_lst, andE_t, andE_f, lenD_L, lenD_Ch, lenD_lst, lenD_tup, φ_fm h1 h2]
theorem φ_fu {pg : List Str} {c : List Pc} (h : ∀ p ∈ c, FitAt pg p ∧ Ln p.2.1) : φ_first_unfit [L pg, Ch c] = some (.ok true .non) := by
  obtain ⟨x', y', z', e⟩ := fr_fu (pg := pg) (m := false) c 0 (some (.d false (Ch c))) none none none h
  have en : enumF (false, [Ch c]) = some (enumI false 0 (c.map Pi)) := rfl
  unfold φ_first_unfit phi
  simp [g_first_unfit, forF, seqF, ownF, consA, un1, mp, bi, vE, vB, cellD, cellB, addC, frz, dC, tupD, nilA, augF, subF, modF, fdivF, powF, oI, yes2, ownC, setF, ifF, andF, orF, blE, retF, retNF, nxF, noF, dropF, fzF, fzs, fz, unpF, xvE, itemC, cI, lt2, le2, gt2, ge2, boolD, notD, negD, callC, resC, isiE, isi_tup, isi_listCh, isi_listL, isi_int, isi_boolI, isi_strS, lenD_Pi, isN, notN, intO, slF, startD, List.replicate, scal_int, scal_str, scal_bl, scal_non, scal_L, scal_Pi, scal_Ch, scal_lst, scal_tup, itemsE_L, itemsE_Ch, itemsE_lst, andE_t, andE_f, lenD_L, lenD_Ch, lenD_lst, lenD_tup, en, e]
/-! ### replaced -/
def repl : Int → List Str → List Pc → List Str
  | _, pg, [] => pg
  | s, pg, p :: c => pg.take (p.1 - s).toNat ++ (p.2.2 ++ repl (p.1 + p.2.1.length) (pg.drop ((p.1 - s).toNat + p.2.1.length)) c)
def FitD : Int → List Str → List Pc → Prop
  | _, _, [] => True
  | s, pg, p :: c => ∃ g r : List Str, pg = g ++ (p.2.1 ++ r) ∧ p.1 = s + g.length ∧ FitD (p.1 + p.2.1.length) r c
theorem repl_cons {s : Int} {g r : List Str} {p : Pc} {c : List Pc} (h : p.1 = s + g.length) : repl s (g ++ (p.2.1 ++ r)) (p :: c) = g ++ (p.2.2 ++ repl (p.1 + p.2.1.length) r c) := by
  have e : (p.1 - s).toNat = g.length := by omega
  rw [repl, e, List.take_left']
  · congr 2
    rw [← List.append_assoc, List.drop_left' (by rw [List.length_append])]
  · rfl
theorem repl_cons' {s pl : Int} {g r ta pu : List Str} {c : List Pc} (h : pl = s + g.length) : repl s (g ++ (ta ++ r)) ((pl, ta, pu) :: c) = g ++ (pu ++ repl (pl + ta.length) r c) := repl_cons (p := (pl, ta, pu)) h
theorem sIx_n {n d : Nat} {k : Nat} (h : k ≤ n) : HT.sIx n d (some (k : Int)) = k := by rw [HT.sIx_nat]; omega
theorem cut_mid {α : Type} {a b c : List α} : cutL (a ++ (b ++ c)) (some (a.length : Int)) (some ((a.length : Int) + (b.length : Int))) = b := by
  unfold cutL
  rw [← Int.natCast_add, sIx_n (by simp), sIx_n (by simp), List.drop_left' rfl, List.take_left' (by omega)]
theorem cut_end {α : Type} {a b : List α} : cutL (a ++ b) (some (a.length : Int)) none = b := by
  unfold cutL
  rw [sIx_n (by simp), HT.sIx_none, List.drop_left' rfl, List.take_of_length_le (by simp)]
theorem cutC_L {m : Bool} {ls : List Str} {lo hi : Option Int} : cutC (m, L ls) lo hi = some (.own true ((cutL ls lo hi).map .str)) := by
  show some (C.own (m || allScal (ls.map D.str)) (cutL (ls.map D.str) lo hi)) = _
  rw [scalStr, Bool.or_true]
  unfold cutL
  rw [List.length_map, List.map_take, List.map_drop]
theorem extOp_lst {x m : Bool} {y z : List D} : extOp x y (m, [.lst z]) = if y.length + z.length ≤ lim then some (x && m, y ++ z) else none := rfl
theorem extOp_L {x m : Bool} {y : List D} {z : List Str} : extOp x y (m, [L z]) = if y.length + z.length ≤ lim then some (x && m, y ++ z.map .str) else none := by
  show (if y.length + (z.map D.str).length ≤ lim then _ else _) = _
  rw [List.length_map]
theorem lb_re {pre g ta r pu : List Str} {acc : List Str} {n m0 m1 m2 m3 m4 : Bool} {s1 : Option C} (h : acc.length + (g.length + pu.length) ≤ lim) :
    lb_replaced_1 [some (.d m0 (L (pre ++ (g ++ (ta ++ r))))), s1, some (.own n (acc.map .str)), some (.d m1 (.int pre.length)), some (.d m2 (.int ((pre.length : Int) + (g.length : Int)))), some (.d m3 (L ta)), some (.d m4 (L pu))] =
      some (.nx [some (.d m0 (L (pre ++ (g ++ (ta ++ r))))), s1, some (.own (n && m4) ((acc ++ (g ++ pu)).map .str)), some (.d true (.int ((pre.length : Int) + (g.length : Int) + (ta.length : Int)))), some (.d m2 (.int ((pre.length : Int) + (g.length : Int)))), some (.d m3 (L ta)), some (.d m4 (L pu))]) := by
  have h1 : acc.length + g.length ≤ lim := by omega
  have h2 : acc.length + (g.length + pu.length) ≤ lim := h
  simp [lb_replaced_1, seqF, ownF, consA, un1, mp, bi, vE, vB, cellD, cellB, addC, frz, dC, tupD, nilA, augF, subF, modF, fdivF, powF, oI, yes2, ownC, setF, ifF, andF, orF, blE, retF, retNF, nxF, noF, dropF, fzF, fzs, fz, unpF, xvE, itemC, cI, lt2, le2, gt2, ge2, boolD, notD, negD, callC, resC, isiE, isi_tup, isi_listCh, isi_listL, isi_int, isi_boolI, isi_strS, lenD_Pi, isN, notN, intO, slF, startD, List.replicate, scal_int, scal_str, scal_bl, scal_non, scal_L, scal_Pi, scal_Ch, scal_lst, scal_tup, itemsE_L, itemsE_Ch, itemsE_lst, andE_t, andE_f, lenD_L, lenD_Ch, lenD_lst, lenD_tup, cutC_L, cut_mid, extOp_lst, extOp_L, h1, h2, Nat.add_assoc]
theorem fr_re {pgA : List Str} {m m0 : Bool} {s1 : Option C} : ∀ (c : List Pc) (pre cur acc : List Str) (n m1 : Bool) (x y z : Option C), pgA = pre ++ cur → FitD pre.length cur c → acc.length + (repl pre.length cur c).length ≤ lim →
    ∃ pre' cur' acc' n' m1' x' y' z', forD tg_replaced_1 lb_replaced_1 (flag m (c.map Pi)) [some (.d m0 (L pgA)), s1, some (.own n (acc.map .str)), some (.d m1 (.int pre.length)), x, y, z] =
      some (.nx [some (.d m0 (L pgA)), s1, some (.own n' (acc'.map .str)), some (.d m1' (.int (List.length pre'))), x', y', z']) ∧ pgA = pre' ++ cur' ∧ acc' ++ cur' = acc ++ repl pre.length cur c
  | [], pre, cur, acc, n, m1, x, y, z, e, _, _ => ⟨pre, cur, acc, n, m1, x, y, z, rfl, e, rfl⟩
  | (pl, ta, pu) :: c, pre, cur, acc, n, m1, x, y, z, e, h, hl => by
    obtain ⟨g, r, e1, e2, h⟩ := h
    dsimp only at e1 e2 h
    subst e1
    have ep : (pl + (ta.length : Int)) = ((pre ++ (g ++ ta)).length : Int) := by rw [e2]; simp; omega
    rw [repl_cons' e2] at hl
    rw [ep] at h hl
    rw [List.length_append, List.length_append] at hl
    obtain ⟨pre', cur', acc', n', m1', x', y', z', ih, f1, f2⟩ := fr_re (pgA := pgA) (m := m) (m0 := m0) (s1 := s1) c (pre ++ (g ++ ta)) r (acc ++ (g ++ pu)) (n && m) true (some (.d true (.int pl))) (some (.d m (L ta))) (some (.d m (L pu))) (by rw [e]; simp) h (by rw [List.length_append, List.length_append]; omega)
    refine ⟨pre', cur', acc', n', m1', x', y', z', ?_, f1, by rw [f2, repl_cons' e2, ep]; simp⟩
    rw [List.map_cons, flag_cons, forD_nx (τ1 := [some (.d m0 (L pgA)), s1, some (.own n (acc.map .str)), some (.d m1 (.int pre.length)), some (.d true (.int pl)), some (.d m (L ta)), some (.d m (L pu))])
      (τ2 := [some (.d m0 (L pgA)), s1, some (.own (n && m) ((acc ++ (g ++ pu)).map .str)), some (.d true (.int (List.length (pre ++ (g ++ ta))))), some (.d true (.int pl)), some (.d m (L ta)), some (.d m (L pu))]) ?_ ?_, ih]
    · simp [tg_replaced_1, tupT, consT, nameT, nilT, flag_cons, flag_nil, scal_int, scal_L, Pi, scal_tup]
    · have := lb_re (pre := pre) (g := g) (ta := ta) (r := r) (pu := pu) (acc := acc) (n := n) (m0 := m0) (m1 := m1) (m2 := true) (m3 := m) (m4 := m) (s1 := s1) (by omega)
      rw [← e] at this
      rw [e2, this]
      congr 6
      simp
      omega
theorem φ_re {pg : List Str} {c : List Pc} (h : FitD 0 pg c) (hl : (repl 0 pg c).length ≤ lim) : ∃ m, φ_replaced [L pg, Ch c] = some (.ok m (L (repl 0 pg c))) := by
  obtain ⟨pre', cur', acc', n', m1', x', y', z', e, f1, f2⟩ := fr_re (pgA := pg) (m := false) (m0 := false) (s1 := some (.d false (Ch c))) c [] pg [] true true none none none rfl h (by simpa using hl)
  have hz : acc'.length + cur'.length ≤ lim := by
    have := congrArg List.length f2
    simp at this
    omega
  have ee : forD tg_replaced_1 lb_replaced_1 (flag false (List.map Pi c)) [some (C.d false (L pg)), some (C.d false (Ch c)), some (C.own true []), some (C.d true (D.int 0)), none, none, none] = _ := e
  have f3 : cutL pg (some (pre'.length : Int)) none = cur' := by rw [f1, cut_end]
  refine ⟨n' && true, ?_⟩
  unfold φ_replaced phi
  simp [g_replaced, forF, seqF, ownF, consA, un1, mp, bi, vE, vB, cellD, cellB, addC, frz, dC, tupD, nilA, augF, subF, modF, fdivF, powF, oI, yes2, ownC, setF, ifF, andF, orF, blE, retF, retNF, nxF, noF, dropF, fzF, fzs, fz, unpF, xvE, itemC, cI, lt2, le2, gt2, ge2, boolD, notD, negD, callC, resC, isiE, isi_tup, isi_listCh, isi_listL, isi_int, isi_boolI, isi_strS, lenD_Pi, isN, notN, intO, slF, startD, List.replicate, scal_int, scal_str, scal_bl, scal_non, scal_L, scal_Pi, scal_Ch, scal_lst, scal_tup, itemsE_L, itemsE_Ch, itemsE_lst, andE_t, andE_f, lenD_L, lenD_Ch, lenD_lst, lenD_tup, ee, cutC_L, f3, extOp_lst, hz]
  simp at f2
  rw [← f2]
  simp [L]
/-! ### lines and pages -/
theorem φ_line {x : Str} (h : x ∈ LL) : φ_is_line [.str x] = some (.ok true (.bl true)) := by
  obtain ⟨_, h1, h2⟩ := LL_ok x h
  unfold φ_is_line phi
  simp [g_is_line, seqF, ownF, consA, un1, mp, bi, vE, vB, cellD, cellB, addC, frz, dC, tupD, nilA, augF, subF, modF, fdivF, powF, oI, yes2, ownC, setF, ifF, andF, orF, blE, retF, retNF, nxF, noF, dropF, fzF, fzs, fz, unpF, xvE, itemC, cI, lt2, le2, gt2, ge2, boolD, notD, negD, callC, resC, isiE, isi_tup, isi_listCh, isi_listL, isi_int, isi_boolI, isi_strS, lenD_Pi, isN, notN, intO, slF, startD, List.replicate, scal_int, scal_str, scal_bl, scal_non, scal_L, scal_Pi, scal_Ch, scal_lst, scal_tup, itemsE_L, itemsE_Ch, itemsE_lst, andE_t, andE_f, lenD_L, lenD_Ch, lenD_lst, lenD_tup, andE, asciiD, printD, h1, h2]
theorem allD_ok {vs : List Nat} {t : TgD} {c : FT} {e : FE} {τ : DS} : ∀ (items : List (Bool × D)), (∀ p ∈ items, ∃ τ1 nw, t p (wD τ vs) = some τ1 ∧ c τ1 = some true ∧ e τ1 = some (nw, .bl true)) → allD vs t c e τ items = some true
  | [], _ => rfl
  | p :: ps, h => by
    obtain ⟨τ1, nw, h1, h2, h3⟩ := h p (List.mem_cons_self ..)
    rw [allD, h1, Option.bind_some, h2, Option.bind_some, if_pos rfl, h3]
    exact allD_ok ps fun q hq => h q (List.mem_cons_of_mem _ hq)
theorem flag_mem {m : Bool} {ds : List D} {p : Bool × D} (h : p ∈ flag m ds) : ∃ d ∈ ds, p = (m || scal d, d) := by
  unfold flag at h
  obtain ⟨d, hd, e⟩ := List.mem_map.mp h
  exact ⟨d, hd, e.symm⟩
theorem φ_lines {ls : List Str} (h : Ln ls) : φ_are_lines [L ls] = some (.ok true (.bl true)) := by
  have e : allD [1] tg_are_lines_1 (fun _ => some true) el_are_lines_1 [some (.d false (L ls)), none] (flag false (ls.map D.str)) = some true := allD_ok _ fun p hp => by
    obtain ⟨d, hd, rfl⟩ := flag_mem hp
    obtain ⟨x, hx, rfl⟩ := List.mem_map.mp hd
    refine ⟨[some (.d false (L ls)), some (.d true (.str x))], true, rfl, rfl, ?_⟩
    simp [el_are_lines_1, seqF, ownF, consA, un1, mp, bi, vE, vB, cellD, cellB, addC, frz, dC, tupD, nilA, augF, subF, modF, fdivF, powF, oI, yes2, ownC, setF, ifF, andF, orF, blE, retF, retNF, nxF, noF, dropF, fzF, fzs, fz, unpF, xvE, itemC, cI, lt2, le2, gt2, ge2, boolD, notD, negD, callC, resC, isiE, isi_tup, isi_listCh, isi_listL, isi_int, isi_boolI, isi_strS, lenD_Pi, isN, notN, intO, slF, startD, List.replicate, scal_int, scal_str, scal_bl, scal_non, scal_L, scal_Pi, scal_Ch, scal_lst, scal_tup, itemsE_L, itemsE_Ch, itemsE_lst, andE_t, andE_f, lenD_L, lenD_Ch, lenD_lst, lenD_tup, φ_line (h x hx)]
  have e2 : isi .list (L ls) = some true := rfl
  unfold φ_are_lines phi
  simp [g_are_lines, seqF, ownF, consA, un1, mp, bi, vE, vB, cellD, cellB, addC, frz, dC, tupD, nilA, augF, subF, modF, fdivF, powF, oI, yes2, ownC, setF, ifF, andF, orF, blE, retF, retNF, nxF, noF, dropF, fzF, fzs, fz, unpF, xvE, itemC, cI, lt2, le2, gt2, ge2, boolD, notD, negD, callC, resC, isiE, isi_tup, isi_listCh, isi_listL, isi_int, isi_boolI, isi_strS, lenD_Pi, isN, notN, intO, slF, startD, List.replicate, scal_int, scal_str, scal_bl, scal_non, scal_L, scal_Pi, scal_Ch, scal_lst, scal_tup, itemsE_L, itemsE_Ch, itemsE_lst, andE_t, andE_f, lenD_L, lenD_Ch, lenD_lst, lenD_tup, andE, allF, e]
theorem φ_page {ls : List Str} (h : Ln ls) (hl : ls.length ≤ 2000) : φ_is_page [L ls] = some (.ok true (.bl true)) := by
  have e : (ls.length : Int) ≤ 2000 := by omega
  unfold φ_is_page phi
  simp [g_is_page, seqF, ownF, consA, un1, mp, bi, vE, vB, cellD, cellB, addC, frz, dC, tupD, nilA, augF, subF, modF, fdivF, powF, oI, yes2, ownC, setF, ifF, andF, orF, blE, retF, retNF, nxF, noF, dropF, fzF, fzs, fz, unpF, xvE, itemC, cI, lt2, le2, gt2, ge2, boolD, notD, negD, callC, resC, isiE, isi_tup, isi_listCh, isi_listL, isi_int, isi_boolI, isi_strS, lenD_Pi, isN, notN, intO, slF, startD, List.replicate, scal_int, scal_str, scal_bl, scal_non, scal_L, scal_Pi, scal_Ch, scal_lst, scal_tup, itemsE_L, itemsE_Ch, itemsE_lst, andE_t, andE_f, lenD_L, lenD_Ch, lenD_lst, lenD_tup, andE, φ_lines h, e]
theorem φ_num {i : Int} : φ_is_number [.int i] = some (.ok true (.bl true)) := by
  unfold φ_is_number phi
  simp [g_is_number, seqF, ownF, consA, un1, mp, bi, vE, vB, cellD, cellB, addC, frz, dC, tupD, nilA, augF, subF, modF, fdivF, powF, oI, yes2, ownC, setF, ifF, andF, orF, blE, retF, retNF, nxF, noF, dropF, fzF, fzs, fz, unpF, xvE, itemC, cI, lt2, le2, gt2, ge2, boolD, notD, negD, callC, resC, isiE, isi_tup, isi_listCh, isi_listL, isi_int, isi_boolI, isi_strS, lenD_Pi, isN, notN, intO, slF, startD, List.replicate, scal_int, scal_str, scal_bl, scal_non, scal_L, scal_Pi, scal_Ch, scal_lst, scal_tup, itemsE_L, itemsE_Ch, itemsE_lst, andE_t, andE_f, lenD_L, lenD_Ch, lenD_lst, lenD_tup, andE]
theorem φ_piece {p : Pc} (h0 : 0 ≤ p.1) (h1 : Ln p.2.1) (h2 : Ln p.2.2) (h3 : 0 < p.2.1.length + p.2.2.length) : φ_is_piece [Pi p] = some (.ok true (.bl true)) := by
  have e : ¬ p.1 < 0 := by omega
  have e3 : (0 : Int) < (p.2.1.length : Int) + (p.2.2.length : Int) := by omega
  have i1 : isi .tuple (Pi p) = some true := rfl
  unfold φ_is_piece phi
  simp [g_is_piece, isiE, seqF, ownF, consA, un1, mp, bi, vE, vB, cellD, cellB, addC, frz, dC, tupD, nilA, augF, subF, modF, fdivF, powF, oI, yes2, ownC, setF, ifF, andF, orF, blE, retF, retNF, nxF, noF, dropF, fzF, fzs, fz, unpF, xvE, itemC, cI, lt2, le2, gt2, ge2, boolD, notD, negD, callC, resC, isiE, isi_tup, isi_listCh, isi_listL, isi_int, isi_boolI, isi_strS, lenD_Pi, isN, notN, intO, slF, startD, List.replicate, scal_int, scal_str, scal_bl, scal_non, scal_L, scal_Pi, scal_Ch, scal_lst, scal_tup, itemsE_L, itemsE_Ch, itemsE_lst, andE_t, andE_f, lenD_L, lenD_Ch, lenD_lst, lenD_tup, andE, unp3, φ_num, φ_lines h1, φ_lines h2, lenD_Pi, neD_int, e, e3, i1]
def Ap : Int → List Pc → Prop
  | _, [] => True
  | l, p :: c => l < p.1 ∧ Ap (p.1 + p.2.1.length) c
theorem itemB_Pi0 {p : Pc} : itemB (Pi p) (.int 0) = some (.int p.1) := rfl
theorem lb_ap {p q : Pc} {s0 : Option C} {m n : Bool} (h : p.1 + (p.2.1.length : Int) < q.1) : lb_are_apart_1 [s0, some (.d m (Pi p)), some (.d n (Pi q))] = some (.nx [s0, some (.d m (Pi p)), some (.d n (Pi q))]) := by
  have e : ¬ q.1 ≤ p.1 + (p.2.1.length : Int) := by omega
  simp [lb_are_apart_1, seqF, ownF, consA, un1, mp, bi, vE, vB, cellD, cellB, addC, frz, dC, tupD, nilA, augF, subF, modF, fdivF, powF, oI, yes2, ownC, setF, ifF, andF, orF, blE, retF, retNF, nxF, noF, dropF, fzF, fzs, fz, unpF, xvE, itemC, cI, lt2, le2, gt2, ge2, boolD, notD, negD, callC, resC, isiE, isi_tup, isi_listCh, isi_listL, isi_int, isi_boolI, isi_strS, lenD_Pi, isN, notN, intO, slF, startD, List.replicate, scal_int, scal_str, scal_bl, scal_non, scal_L, scal_Pi, scal_Ch, scal_lst, scal_tup, itemsE_L, itemsE_Ch, itemsE_lst, andE_t, andE_f, lenD_L, lenD_Ch, lenD_lst, lenD_tup, itemB_Pi0, φ_end, e]
theorem zipI_cons {m : Bool} {d e : D} {ds es : List D} : zipI m (d :: ds) (e :: es) = ((m || scal d) && (m || scal e), .tup [d, e]) :: zipI m ds es := rfl
theorem fr_ap {m : Bool} {s0 : Option C} : ∀ (c : List Pc) (p : Pc) (l : Int) (x y : Option C), Ap l (p :: c) → ∃ x' y', forD tg_are_apart_1 lb_are_apart_1 (zipI m ((p :: c).map Pi) (c.map Pi)) [s0, x, y] = some (.nx [s0, x', y'])
  | [], p, l, x, y, _ => ⟨x, y, rfl⟩
  | q :: c, p, l, x, y, h => by
    obtain ⟨x', y', ih⟩ := fr_ap (m := m) (s0 := s0) c q _ (some (.d m (Pi p))) (some (.d m (Pi q))) h.2
    refine ⟨x', y', ?_⟩
    have hq : p.1 + (p.2.1.length : Int) < q.1 := h.2.1
    rw [List.map_cons, List.map_cons, zipI_cons, forD_nx (τ1 := [s0, some (.d m (Pi p)), some (.d m (Pi q))]) ?_ (lb_ap hq), ← List.map_cons, ih]
    simp [tg_are_apart_1, tupT, consT, nameT, nilT, flag_cons, flag_nil, scal_Pi]
theorem cut_one {α : Type} {x : α} {xs : List α} : cutL (x :: xs) (some 1) none = xs := by
  unfold cutL
  rw [show HT.sIx (x :: xs).length 0 (some 1) = 1 from sIx_n (k := 1) (by simp), HT.sIx_none]
  simp
theorem φ_apart {l : Int} {c : List Pc} (h : Ap l c) : φ_are_apart [Ch c] = some (.ok true (.bl true)) := by
  cases c with
  | nil => rfl
  | cons p c =>
    obtain ⟨x', y', e⟩ := fr_ap (m := false) (s0 := some (.d false (Ch (p :: c)))) c p l none none h
    have e2 : cutC (false, Ch (p :: c)) (some 1) none = some (.own false (c.map Pi)) := by
      show some (C.own (false || allScal (Pi p :: c.map Pi)) (cutL (Pi p :: c.map Pi) (some 1) none)) = _
      rw [cut_one]
      rfl
    have e3 : zipF (false, [Ch (p :: c), .lst (c.map Pi)]) = some (zipI false ((p :: c).map Pi) (c.map Pi)) := rfl
    unfold φ_are_apart phi
    simp [g_are_apart, forF, seqF, ownF, consA, un1, mp, bi, vE, vB, cellD, cellB, addC, frz, dC, tupD, nilA, augF, subF, modF, fdivF, powF, oI, yes2, ownC, setF, ifF, andF, orF, blE, retF, retNF, nxF, noF, dropF, fzF, fzs, fz, unpF, xvE, itemC, cI, lt2, le2, gt2, ge2, boolD, notD, negD, callC, resC, isiE, isi_tup, isi_listCh, isi_listL, isi_int, isi_boolI, isi_strS, lenD_Pi, isN, notN, intO, slF, startD, List.replicate, scal_int, scal_str, scal_bl, scal_non, scal_L, scal_Pi, scal_Ch, scal_lst, scal_tup, itemsE_L, itemsE_Ch, itemsE_lst, andE_t, andE_f, lenD_L, lenD_Ch, lenD_lst, lenD_tup, e2, e3]
    simp only [List.map_cons] at e
    simp [e]
structure Vc (c : List Pc) : Prop where
  ap : Ap (-1) c
  ln : LnC c
  ne : ∀ p ∈ c, 0 < p.2.1.length + p.2.2.length
  bd : ∀ p ∈ c, 0 ≤ p.1 ∧ p.1 ≤ 2000 ∧ p.2.1.length ≤ 500 ∧ p.2.2.length ≤ 500
  ct : c.length ≤ 500
theorem φ_told {c : List Pc} (h : Vc c) : φ_is_told_change [Ch c] = some (.ok true (.bl true)) := by
  have e : allD [1] tg_is_told_change_1 (fun _ => some true) el_is_told_change_1 [some (.d false (Ch c)), none] (flag false (c.map Pi)) = some true := allD_ok _ fun p hp => by
    obtain ⟨d, hd, rfl⟩ := flag_mem hp
    obtain ⟨x, hx, rfl⟩ := List.mem_map.mp hd
    refine ⟨[some (.d false (Ch c)), some (.d false (Pi x))], true, rfl, rfl, ?_⟩
    simp [el_is_told_change_1, seqF, ownF, consA, un1, mp, bi, vE, vB, cellD, cellB, addC, frz, dC, tupD, nilA, augF, subF, modF, fdivF, powF, oI, yes2, ownC, setF, ifF, andF, orF, blE, retF, retNF, nxF, noF, dropF, fzF, fzs, fz, unpF, xvE, itemC, cI, lt2, le2, gt2, ge2, boolD, notD, negD, callC, resC, isiE, isi_tup, isi_listCh, isi_listL, isi_int, isi_boolI, isi_strS, lenD_Pi, isN, notN, intO, slF, startD, List.replicate, scal_int, scal_str, scal_bl, scal_non, scal_L, scal_Pi, scal_Ch, scal_lst, scal_tup, itemsE_L, itemsE_Ch, itemsE_lst, andE_t, andE_f, lenD_L, lenD_Ch, lenD_lst, lenD_tup, φ_piece (h.bd x hx).1 (h.ln x hx).1 (h.ln x hx).2 (h.ne x hx)]
  unfold φ_is_told_change phi
  simp [g_is_told_change, isiE, isi_listCh, seqF, ownF, consA, un1, mp, bi, vE, vB, cellD, cellB, addC, frz, dC, tupD, nilA, augF, subF, modF, fdivF, powF, oI, yes2, ownC, setF, ifF, andF, orF, blE, retF, retNF, nxF, noF, dropF, fzF, fzs, fz, unpF, xvE, itemC, cI, lt2, le2, gt2, ge2, boolD, notD, negD, callC, resC, isiE, isi_tup, isi_listCh, isi_listL, isi_int, isi_boolI, isi_strS, lenD_Pi, isN, notN, intO, slF, startD, List.replicate, scal_int, scal_str, scal_bl, scal_non, scal_L, scal_Pi, scal_Ch, scal_lst, scal_tup, itemsE_L, itemsE_Ch, itemsE_lst, andE_t, andE_f, lenD_L, lenD_Ch, lenD_lst, lenD_tup, andE, allF, e, φ_apart h.ap]
theorem φ_within {p : Pc} (h : p.1 ≤ 2000 ∧ p.2.1.length ≤ 500 ∧ p.2.2.length ≤ 500) : φ_is_within_bounds [Pi p] = some (.ok true (.bl true)) := by
  have e1 : (p.2.1.length : Int) ≤ 500 := by omega
  have e2 : (p.2.2.length : Int) ≤ 500 := by omega
  unfold φ_is_within_bounds phi
  simp [g_is_within_bounds, seqF, ownF, consA, un1, mp, bi, vE, vB, cellD, cellB, addC, frz, dC, tupD, nilA, augF, subF, modF, fdivF, powF, oI, yes2, ownC, setF, ifF, andF, orF, blE, retF, retNF, nxF, noF, dropF, fzF, fzs, fz, unpF, xvE, itemC, cI, lt2, le2, gt2, ge2, boolD, notD, negD, callC, resC, isiE, isi_tup, isi_listCh, isi_listL, isi_int, isi_boolI, isi_strS, lenD_Pi, isN, notN, intO, slF, startD, List.replicate, scal_int, scal_str, scal_bl, scal_non, scal_L, scal_Pi, scal_Ch, scal_lst, scal_tup, itemsE_L, itemsE_Ch, itemsE_lst, andE_t, andE_f, lenD_L, lenD_Ch, lenD_lst, lenD_tup, andE, unp3, e1, e2, h.1]
theorem φ_change {c : List Pc} (h : Vc c) : φ_is_change [Ch c] = some (.ok true (.bl true)) := by
  have e : allD [1] tg_is_change_1 (fun _ => some true) el_is_change_1 [some (.d false (Ch c)), none] (flag false (c.map Pi)) = some true := allD_ok _ fun p hp => by
    obtain ⟨d, hd, rfl⟩ := flag_mem hp
    obtain ⟨x, hx, rfl⟩ := List.mem_map.mp hd
    refine ⟨[some (.d false (Ch c)), some (.d false (Pi x))], true, rfl, rfl, ?_⟩
    simp [el_is_change_1, seqF, ownF, consA, un1, mp, bi, vE, vB, cellD, cellB, addC, frz, dC, tupD, nilA, augF, subF, modF, fdivF, powF, oI, yes2, ownC, setF, ifF, andF, orF, blE, retF, retNF, nxF, noF, dropF, fzF, fzs, fz, unpF, xvE, itemC, cI, lt2, le2, gt2, ge2, boolD, notD, negD, callC, resC, isiE, isi_tup, isi_listCh, isi_listL, isi_int, isi_boolI, isi_strS, lenD_Pi, isN, notN, intO, slF, startD, List.replicate, scal_int, scal_str, scal_bl, scal_non, scal_L, scal_Pi, scal_Ch, scal_lst, scal_tup, itemsE_L, itemsE_Ch, itemsE_lst, andE_t, andE_f, lenD_L, lenD_Ch, lenD_lst, lenD_tup, φ_within (h.bd x hx).2]
  have e1 : ¬ (500 : Int) < (c.length : Int) := by have := h.ct; omega
  unfold φ_is_change phi
  simp [g_is_change, seqF, ownF, consA, un1, mp, bi, vE, vB, cellD, cellB, addC, frz, dC, tupD, nilA, augF, subF, modF, fdivF, powF, oI, yes2, ownC, setF, ifF, andF, orF, blE, retF, retNF, nxF, noF, dropF, fzF, fzs, fz, unpF, xvE, itemC, cI, lt2, le2, gt2, ge2, boolD, notD, negD, callC, resC, isiE, isi_tup, isi_listCh, isi_listL, isi_int, isi_boolI, isi_strS, lenD_Pi, isN, notN, intO, slF, startD, List.replicate, scal_int, scal_str, scal_bl, scal_non, scal_L, scal_Pi, scal_Ch, scal_lst, scal_tup, itemsE_L, itemsE_Ch, itemsE_lst, andE_t, andE_f, lenD_L, lenD_Ch, lenD_lst, lenD_tup, allF, e, φ_told h, e1]
theorem φ_ckp {ls : List Str} (h : Ln ls) (hl : ls.length ≤ 2000) : φ_check_page [L ls] = some (.ok true .non) := by
  unfold φ_check_page phi
  simp [g_check_page, seqF, ownF, consA, un1, mp, bi, vE, vB, cellD, cellB, addC, frz, dC, tupD, nilA, augF, subF, modF, fdivF, powF, oI, yes2, ownC, setF, ifF, andF, orF, blE, retF, retNF, nxF, noF, dropF, fzF, fzs, fz, unpF, xvE, itemC, cI, lt2, le2, gt2, ge2, boolD, notD, negD, callC, resC, isiE, isi_tup, isi_listCh, isi_listL, isi_int, isi_boolI, isi_strS, lenD_Pi, isN, notN, intO, slF, startD, List.replicate, scal_int, scal_str, scal_bl, scal_non, scal_L, scal_Pi, scal_Ch, scal_lst, scal_tup, itemsE_L, itemsE_Ch, itemsE_lst, andE_t, andE_f, lenD_L, lenD_Ch, lenD_lst, lenD_tup, φ_page h hl]
theorem φ_ckc {c : List Pc} (h : Vc c) : φ_check_change [Ch c] = some (.ok true .non) := by
  unfold φ_check_change phi
  simp [g_check_change, seqF, ownF, consA, un1, mp, bi, vE, vB, cellD, cellB, addC, frz, dC, tupD, nilA, augF, subF, modF, fdivF, powF, oI, yes2, ownC, setF, ifF, andF, orF, blE, retF, retNF, nxF, noF, dropF, fzF, fzs, fz, unpF, xvE, itemC, cI, lt2, le2, gt2, ge2, boolD, notD, negD, callC, resC, isiE, isi_tup, isi_listCh, isi_listL, isi_int, isi_boolI, isi_strS, lenD_Pi, isN, notN, intO, slF, startD, List.replicate, scal_int, scal_str, scal_bl, scal_non, scal_L, scal_Pi, scal_Ch, scal_lst, scal_tup, itemsE_L, itemsE_Ch, itemsE_lst, andE_t, andE_f, lenD_L, lenD_Ch, lenD_lst, lenD_tup, φ_change h]
theorem FitD.all {pg : List Str} : ∀ {c : List Pc} {pre cur : List Str}, pg = pre ++ cur → FitD pre.length cur c → ∀ p ∈ c, FitAt pg p
  | [], _, _, _, _, _, h => nomatch h
  | p :: c, pre, cur, e, ⟨g, r, e1, e2, h⟩, q, hq => by
    rcases List.mem_cons.mp hq with z | z
    · rw [z]
      exact ⟨pre ++ g, r, by rw [e, e1]; simp, by rw [e2]; simp⟩
    · refine FitD.all (pre := pre ++ (g ++ p.2.1)) (cur := r) (by rw [e, e1]; simp) ?_ q z
      rw [e2] at h
      have : ((List.length (pre ++ (g ++ p.2.1)) : Nat) : Int) = (pre.length : Int) + (g.length : Int) + (p.2.1.length : Int) := by simp; omega
      rw [this]
      exact h
theorem φ_ckf {pg : List Str} {c : List Pc} (hc : Vc c) (hf : FitD 0 pg c) : φ_check_fits [L pg, Ch c] = some (.ok true .non) := by
  have e2 := φ_fu (pg := pg) (c := c) fun p hpc => ⟨FitD.all (pre := []) rfl hf p hpc, (hc.ln p hpc).1⟩
  unfold φ_check_fits phi
  simp [g_check_fits, seqF, ownF, consA, un1, mp, bi, vE, vB, cellD, cellB, addC, frz, dC, tupD, nilA, augF, subF, modF, fdivF, powF, oI, yes2, ownC, setF, ifF, andF, orF, blE, retF, retNF, nxF, noF, dropF, fzF, fzs, fz, unpF, xvE, itemC, cI, lt2, le2, gt2, ge2, boolD, notD, negD, callC, resC, isiE, isi_tup, isi_listCh, isi_listL, isi_int, isi_boolI, isi_strS, lenD_Pi, isN, notN, intO, slF, startD, List.replicate, scal_int, scal_str, scal_bl, scal_non, scal_L, scal_Pi, scal_Ch, scal_lst, scal_tup, itemsE_L, itemsE_Ch, itemsE_lst, andE_t, andE_f, lenD_L, lenD_Ch, lenD_lst, lenD_tup, e2]
theorem φ_do {pg : List Str} {c : List Pc} (hp : Ln pg) (hl : pg.length ≤ 2000) (hc : Vc c) (hf : FitD 0 pg c) (hr : (repl 0 pg c).length ≤ lim) : ∃ m, φ_done [L pg, Ch c] = some (.ok m (L (repl 0 pg c))) := by
  obtain ⟨m, e⟩ := φ_re hf hr
  refine ⟨m, ?_⟩
  unfold φ_done phi
  cases m <;> simp [g_done, seqF, ownF, consA, un1, mp, bi, vE, vB, cellD, cellB, addC, frz, dC, tupD, nilA, augF, subF, modF, fdivF, powF, oI, yes2, ownC, setF, ifF, andF, orF, blE, retF, retNF, nxF, noF, dropF, fzF, fzs, fz, unpF, xvE, itemC, cI, lt2, le2, gt2, ge2, boolD, notD, negD, callC, resC, isiE, isi_tup, isi_listCh, isi_listL, isi_int, isi_boolI, isi_strS, lenD_Pi, isN, notN, intO, slF, startD, List.replicate, scal_int, scal_str, scal_bl, scal_non, scal_L, scal_Pi, scal_Ch, scal_lst, scal_tup, itemsE_L, itemsE_Ch, itemsE_lst, andE_t, andE_f, lenD_L, lenD_Ch, lenD_lst, lenD_tup, φ_ckp hp hl, φ_ckc hc, φ_ckf hc hf, e]
theorem φ_fi {pg : List Str} {c : List Pc} (hp : Ln pg) (hl : pg.length ≤ 2000) (hc : Vc c) (hf : FitD 0 pg c) : φ_fits [L pg, Ch c] = some (.ok true (.bl true)) := by
  have e2 := φ_fu (pg := pg) (c := c) fun p hpc => ⟨FitD.all (pre := []) rfl hf p hpc, (hc.ln p hpc).1⟩
  unfold φ_fits phi
  simp [g_fits, seqF, ownF, consA, un1, mp, bi, vE, vB, cellD, cellB, addC, frz, dC, tupD, nilA, augF, subF, modF, fdivF, powF, oI, yes2, ownC, setF, ifF, andF, orF, blE, retF, retNF, nxF, noF, dropF, fzF, fzs, fz, unpF, xvE, itemC, cI, lt2, le2, gt2, ge2, boolD, notD, negD, callC, resC, isiE, isi_tup, isi_listCh, isi_listL, isi_int, isi_boolI, isi_strS, lenD_Pi, isN, notN, intO, slF, startD, List.replicate, scal_int, scal_str, scal_bl, scal_non, scal_L, scal_Pi, scal_Ch, scal_lst, scal_tup, itemsE_L, itemsE_Ch, itemsE_lst, andE_t, andE_f, lenD_L, lenD_Ch, lenD_lst, lenD_tup, φ_ckp hp hl, φ_ckc hc, e2]
end K05
end
section
set_option Elab.async false
set_option linter.all false
set_option maxRecDepth 100000
set_option maxHeartbeats 4000000
namespace K05
open PySem Dl
/-! ### the law's own numbers -/
theorem sm64_r {i j : Int} (h1 : -(2 ^ 64) < j) (h2 : j < 2 ^ 64) : sm64 i j = true := by
  unfold sm64
  rw [Bool.or_eq_true, Bool.and_eq_true, Bool.and_eq_true, decide_eq_true_eq, decide_eq_true_eq, decide_eq_true_eq, decide_eq_true_eq]
  exact .inr ⟨h1, h2⟩
theorem itemE_scr {m : Bool} {ns : List Int} {k : Nat} (h : k < ns.length) : itemE (m, .scr ns) (.int k) = some (true, .int (ns[k])) := by
  show (L2.atI ns (k : Int)).map _ = _
  rw [atI_nat h, List.getElem?_eq_getElem h]
  rfl
theorem lay_ints : ∀ ns : List Int, PyData.canLayAll0 (ns.map PyData.int) = true ∧ PyData.depthAll (ns.map PyData.int) = 0
  | [] => ⟨rfl, rfl⟩
  | n :: ns => by
    obtain ⟨h1, h2⟩ := lay_ints ns
    exact ⟨by simp [PyData.canLayAll0, PyData.canLay0, h1], by simp [PyData.depthAll, PyData.depth, h2]⟩
theorem eqD_scr {n : Int} {ns : List Int} : eqD (.scr (n :: ns)) (.lst []) = some false := by
  obtain ⟨h1, h2⟩ := lay_ints (n :: ns)
  have e1 : okEq (.scr (n :: ns)) = true := by simp only [okEq, plainD, py, SeqAt.shaped, PyData.canLay0, PyData.depth, h1, h2]; rfl
  have e2 : okEq (.lst []) = true := rfl
  unfold eqD
  rw [e1, e2, Bool.and_self, if_pos rfl]
  rfl
theorem seqF_nx {f g : FS} {τ τ' : DS} (h : f τ = some (.nx τ')) : seqF f g τ = g τ' := by unfold seqF; rw [h]; rfl
theorem seqF_rt {f g : FS} {τ : DS} {n : Bool} {d : D} (h : f τ = some (.rt n d)) : seqF f g τ = some (.rt n d) := by unfold seqF; rw [h]; rfl
theorem phi_rt {n : Nat} {g : FS} {ds : List D} {m : Bool} {d : D} (h : g (startD n ds) = some (.rt m d)) : phi n g ds = some (.ok m d) := by unfold phi; rw [h]
theorem cell_nil {d : D} {k l z : Int} (e5 : eqD d (.lst []) = some true) (hl : lenD d = some (true, .int l)) (hs : scal d = false) (e : ¬ k < l) (hz : k * 48271 = z) : φ__law_cell_at [d, .int k] = some (.ok true (.int z)) := by
  have h : g__law_cell_at [some (.d false d), some (.d true (.int k))] = some (.rt true (.int z)) := by
    unfold g__law_cell_at
    refine (seqF_nx (τ' := [some (.d false d), some (.d true (.int k))]) ?_).trans ((seqF_rt (n := true) (d := .int z) ?_))
    · simp [seqF, ownF, consA, un1, mp, bi, vE, vB, cellD, cellB, addC, frz, dC, tupD, nilA, augF, subF, modF, fdivF, powF, oI, yes2, ownC, setF, ifF, andF, orF, blE, retF, retNF, nxF, noF, dropF, fzF, fzs, fz, unpF, xvE, itemC, cI, lt2, le2, gt2, ge2, boolD, notD, negD, callC, resC, isiE, isi_tup, isi_listCh, isi_listL, isi_int, isi_boolI, isi_strS, lenD_Pi, isN, notN, intO, slF, startD, List.replicate, scal_int, scal_str, scal_bl, scal_non, scal_L, scal_Pi, scal_Ch, scal_lst, scal_tup, itemsE_L, itemsE_Ch, itemsE_lst, andE_t, andE_f, lenD_L, lenD_Ch, lenD_lst, lenD_tup, hl, e]
    · simp [seqF, ownF, consA, un1, mp, bi, vE, vB, cellD, cellB, addC, frz, dC, tupD, nilA, augF, subF, modF, fdivF, powF, oI, yes2, ownC, setF, ifF, andF, orF, blE, retF, retNF, nxF, noF, dropF, fzF, fzs, fz, unpF, xvE, itemC, cI, lt2, le2, gt2, ge2, boolD, notD, negD, callC, resC, isiE, isi_tup, isi_listCh, isi_listL, isi_int, isi_boolI, isi_strS, lenD_Pi, isN, notN, intO, slF, startD, List.replicate, scal_int, scal_str, scal_bl, scal_non, scal_L, scal_Pi, scal_Ch, scal_lst, scal_tup, itemsE_L, itemsE_Ch, itemsE_lst, andE_t, andE_f, lenD_L, lenD_Ch, lenD_lst, lenD_tup, e5, mulC, sm64_r, hz]
  refine phi_rt (n := 2) (g := g__law_cell_at) ?_
  have e2 : startD 2 [d, .int k] = [some (.d false d), some (.d true (.int k))] := by simp [seqF, ownF, consA, un1, mp, bi, vE, vB, cellD, cellB, addC, frz, dC, tupD, nilA, augF, subF, modF, fdivF, powF, oI, yes2, ownC, setF, ifF, andF, orF, blE, retF, retNF, nxF, noF, dropF, fzF, fzs, fz, unpF, xvE, itemC, cI, lt2, le2, gt2, ge2, boolD, notD, negD, callC, resC, isiE, isi_tup, isi_listCh, isi_listL, isi_int, isi_boolI, isi_strS, lenD_Pi, isN, notN, intO, slF, startD, List.replicate, scal_int, scal_str, scal_bl, scal_non, scal_L, scal_Pi, scal_Ch, scal_lst, scal_tup, itemsE_L, itemsE_Ch, itemsE_lst, andE_t, andE_f, lenD_L, lenD_Ch, lenD_lst, lenD_tup, hs]
  rw [e2]
  exact h
theorem eqD_scr0 : eqD (.scr []) (.lst []) = some true := by
  have e1 : okEq (.scr []) = true := rfl
  have e2 : okEq (.lst []) = true := rfl
  unfold eqD
  rw [e1, e2]
  rfl
theorem start2 {d e : D} (h : scal d = false) (h2 : scal e = true) : startD 2 [d, e] = [some (.d false d), some (.d true e)] := by simp [seqF, ownF, consA, un1, mp, bi, vE, vB, cellD, cellB, addC, frz, dC, tupD, nilA, augF, subF, modF, fdivF, powF, oI, yes2, ownC, setF, ifF, andF, orF, blE, retF, retNF, nxF, noF, dropF, fzF, fzs, fz, unpF, xvE, itemC, cI, lt2, le2, gt2, ge2, boolD, notD, negD, callC, resC, isiE, isi_tup, isi_listCh, isi_listL, isi_int, isi_boolI, isi_strS, lenD_Pi, isN, notN, intO, slF, startD, List.replicate, scal_int, scal_str, scal_bl, scal_non, scal_L, scal_Pi, scal_Ch, scal_lst, scal_tup, itemsE_L, itemsE_Ch, itemsE_lst, andE_t, andE_f, lenD_L, lenD_Ch, lenD_lst, lenD_tup, h, h2]
theorem cell_lt {d : D} {k l z : Int} (hl : lenD d = some (true, .int l)) (hs : scal d = false) (e : k < l) (e6 : itemE (false, d) (.int k) = some (true, .int z)) : φ__law_cell_at [d, .int k] = some (.ok true (.int z)) := by
  refine phi_rt (n := 2) (g := g__law_cell_at) ?_
  rw [start2 hs rfl]
  unfold g__law_cell_at
  refine (seqF_rt (n := true) (d := .int z) ?_)
  simp [seqF, ownF, consA, un1, mp, bi, vE, vB, cellD, cellB, addC, frz, dC, tupD, nilA, augF, subF, modF, fdivF, powF, oI, yes2, ownC, setF, ifF, andF, orF, blE, retF, retNF, nxF, noF, dropF, fzF, fzs, fz, unpF, xvE, itemC, cI, lt2, le2, gt2, ge2, boolD, notD, negD, callC, resC, isiE, isi_tup, isi_listCh, isi_listL, isi_int, isi_boolI, isi_strS, lenD_Pi, isN, notN, intO, slF, startD, List.replicate, scal_int, scal_str, scal_bl, scal_non, scal_L, scal_Pi, scal_Ch, scal_lst, scal_tup, itemsE_L, itemsE_Ch, itemsE_lst, andE_t, andE_f, lenD_L, lenD_Ch, lenD_lst, lenD_tup, hl, e, e6]
theorem cell_cons {d : D} {k l i z : Int} (e5 : eqD d (.lst []) = some false) (hl : lenD d = some (true, .int l)) (hs : scal d = false) (e : ¬ k < l) (h0 : 0 < l) (e6 : itemE (false, d) (.int (k % l)) = some (true, .int i)) (hz : (i + k) * 48271 % 2147483647 = z) :
    φ__law_cell_at [d, .int k] = some (.ok true (.int z)) := by
  refine phi_rt (n := 2) (g := g__law_cell_at) ?_
  rw [start2 hs rfl]
  unfold g__law_cell_at
  refine (seqF_nx (τ' := [some (.d false d), some (.d true (.int k))]) ?_).trans ((seqF_nx (τ' := [some (.d false d), some (.d true (.int k))]) ?_).trans ?_)
  · simp [seqF, ownF, consA, un1, mp, bi, vE, vB, cellD, cellB, addC, frz, dC, tupD, nilA, augF, subF, modF, fdivF, powF, oI, yes2, ownC, setF, ifF, andF, orF, blE, retF, retNF, nxF, noF, dropF, fzF, fzs, fz, unpF, xvE, itemC, cI, lt2, le2, gt2, ge2, boolD, notD, negD, callC, resC, isiE, isi_tup, isi_listCh, isi_listL, isi_int, isi_boolI, isi_strS, lenD_Pi, isN, notN, intO, slF, startD, List.replicate, scal_int, scal_str, scal_bl, scal_non, scal_L, scal_Pi, scal_Ch, scal_lst, scal_tup, itemsE_L, itemsE_Ch, itemsE_lst, andE_t, andE_f, lenD_L, lenD_Ch, lenD_lst, lenD_tup, hl, e]
  · simp [seqF, ownF, consA, un1, mp, bi, vE, vB, cellD, cellB, addC, frz, dC, tupD, nilA, augF, subF, modF, fdivF, powF, oI, yes2, ownC, setF, ifF, andF, orF, blE, retF, retNF, nxF, noF, dropF, fzF, fzs, fz, unpF, xvE, itemC, cI, lt2, le2, gt2, ge2, boolD, notD, negD, callC, resC, isiE, isi_tup, isi_listCh, isi_listL, isi_int, isi_boolI, isi_strS, lenD_Pi, isN, notN, intO, slF, startD, List.replicate, scal_int, scal_str, scal_bl, scal_non, scal_L, scal_Pi, scal_Ch, scal_lst, scal_tup, itemsE_L, itemsE_Ch, itemsE_lst, andE_t, andE_f, lenD_L, lenD_Ch, lenD_lst, lenD_tup, e5]
  · simp [seqF, ownF, consA, un1, mp, bi, vE, vB, cellD, cellB, addC, frz, dC, tupD, nilA, augF, subF, modF, fdivF, powF, oI, yes2, ownC, setF, ifF, andF, orF, blE, retF, retNF, nxF, noF, dropF, fzF, fzs, fz, unpF, xvE, itemC, cI, lt2, le2, gt2, ge2, boolD, notD, negD, callC, resC, isiE, isi_tup, isi_listCh, isi_listL, isi_int, isi_boolI, isi_strS, lenD_Pi, isN, notN, intO, slF, startD, List.replicate, scal_int, scal_str, scal_bl, scal_non, scal_L, scal_Pi, scal_Ch, scal_lst, scal_tup, itemsE_L, itemsE_Ch, itemsE_lst, andE_t, andE_f, lenD_L, lenD_Ch, lenD_lst, lenD_tup, hl, h0, e6, mulC, sm64_r, hz]
theorem φ_cell (ns : List Int) (k : Nat) : ∃ z, φ__law_cell_at [.scr ns, .int k] = some (.ok true (.int z)) := by
  have hl : lenD (.scr ns) = some (true, .int (ns.length : Int)) := rfl
  by_cases h : k < ns.length
  · have hm := cell_lt hl rfl (show (k : Int) < (ns.length : Int) by omega) (itemE_scr h)
    exact ⟨_, hm⟩
  · have e : ¬ (k : Int) < (ns.length : Int) := by omega
    by_cases hn : ns = []
    · subst hn
      have hm := cell_nil eqD_scr0 hl rfl e rfl
      exact ⟨_, hm⟩
    · obtain ⟨n, r, rfl⟩ := List.exists_cons_of_ne_nil hn
      have hl0 : 0 < (n :: r).length := by simp
      have hm := cell_cons (eqD_scr (n := n) (ns := r)) hl rfl e (by omega) (show itemE (false, .scr (n :: r)) (.int ((k : Int) % ((n :: r).length : Int))) = _ by rw [← Int.natCast_emod]; exact itemE_scr (Nat.mod_lt _ hl0)) rfl
      exact ⟨_, hm⟩
inductive Dg : List Int → List Int → Prop
  | nil : Dg [] []
  | cons {d b : Int} {ds bs : List Int} (h : 0 ≤ d ∧ d < b) (t : Dg ds bs) : Dg (d :: ds) (b :: bs)
def iL (ds : List Int) : D := .lst (ds.map .int)
theorem lb_nu {s0 s1 : Option C} {m2 m4 n : Bool} {z b : Int} {acc : List D} (h1 : 0 < b) (h2 : b < 1073741824) (h3 : acc.length < lim) :
    lb__law_numbers_1 [s0, s1, some (.d m2 (.int z)), some (.own n acc), some (.d m4 (.int b))] = some (.nx [s0, s1, some (.d true (.int (z / b))), some (.own n (acc ++ [.int (z % b)])), some (.d m4 (.int b))]) := by
  have h3 : acc.length < 16777216 := h3
  simp [lb__law_numbers_1, seqF, ownF, consA, un1, mp, bi, vE, vB, cellD, cellB, addC, frz, dC, tupD, nilA, augF, subF, modF, fdivF, powF, oI, yes2, ownC, setF, ifF, andF, orF, blE, retF, retNF, nxF, noF, dropF, fzF, fzs, fz, unpF, xvE, itemC, cI, lt2, le2, gt2, ge2, boolD, notD, negD, callC, resC, isiE, isi_tup, isi_listCh, isi_listL, isi_int, isi_boolI, isi_strS, lenD_Pi, isN, notN, intO, slF, startD, List.replicate, scal_int, scal_str, scal_bl, scal_non, scal_L, scal_Pi, scal_Ch, scal_lst, scal_tup, itemsE_L, itemsE_Ch, itemsE_lst, andE_t, andE_f, lenD_L, lenD_Ch, lenD_lst, lenD_tup, appOp, h1, h2, h3, lim]
theorem fr_nu {s0 s1 : Option C} {m : Bool} : ∀ (bs : List Int) (z : Int) (acc : List D) (m2 : Bool) (x : Option C), (∀ b ∈ bs, 0 < b ∧ b < 1073741824) → acc.length + bs.length ≤ lim →
    ∃ z' m2' x' ds, forD tg__law_numbers_1 lb__law_numbers_1 (flag m (bs.map .int)) [s0, s1, some (.d m2 (.int z)), some (.own true acc), x] = some (.nx [s0, s1, some (.d m2' (.int z')), some (.own true (acc ++ ds.map .int)), x']) ∧ Dg ds bs
  | [], z, acc, m2, x, _, _ => ⟨z, m2, x, [], by simp [flag_nil, forD_nil], .nil⟩
  | b :: bs, z, acc, m2, x, h, hl => by
    obtain ⟨h1, h2⟩ := h b (List.mem_cons_self ..)
    rw [List.length_cons] at hl
    obtain ⟨z', m2', x', ds, ih, f⟩ := fr_nu (s0 := s0) (s1 := s1) (m := m) bs (z / b) (acc ++ [.int (z % b)]) true (some (.d true (.int b))) (fun c hc => h c (List.mem_cons_of_mem _ hc)) (by rw [List.length_append, List.length_singleton]; omega)
    refine ⟨z', m2', x', z % b :: ds, ?_, .cons ⟨Int.emod_nonneg _ (by omega), Int.emod_lt_of_pos _ h1⟩ f⟩
    rw [List.map_cons, flag_cons, forD_nx (τ1 := [s0, s1, some (.d m2 (.int z)), some (.own true acc), some (.d true (.int b))]) ?_ (lb_nu h1 h2 (by omega)), ih]
    · simp
    · simp [tg__law_numbers_1, nameT, scal_int]
theorem pow_ok (z : Int) : (z % 2147483647 * 48271 + 12345).natAbs < 2 ^ 64 := by
  have h1 := Int.emod_nonneg z (b := 2147483647) (by decide)
  have h2 := Int.emod_lt_of_pos z (b := 2147483647) (by decide)
  omega
theorem φ_nu (z : Int) (bs : List Int) (h : ∀ b ∈ bs, 0 < b ∧ b < 1073741824) (hl : bs.length ≤ lim) : ∃ ds, φ__law_numbers [.int z, iL bs] = some (.ok true (iL ds)) ∧ Dg ds bs := by
  have it : itemsE (false, iL bs) = some (flag false (bs.map .int)) := rfl
  have sc : scal (iL bs) = false := rfl
  have pk := pow_ok z
  by_cases hz : z < 1000000000000000000
  · obtain ⟨z', m2', x', ds, e, f⟩ := fr_nu (s0 := some (.d true (.int z))) (s1 := some (.d false (iL bs))) (m := false) bs ((z % 2147483647 * 48271 + 12345) ^ 5 / 1013) [] true none h (by simpa using hl)
    refine ⟨ds, ?_, f⟩
    unfold φ__law_numbers phi
    simp [g__law_numbers, seqF, ownF, consA, un1, mp, bi, vE, vB, cellD, cellB, addC, frz, dC, tupD, nilA, augF, subF, modF, fdivF, powF, oI, yes2, ownC, setF, ifF, andF, orF, blE, retF, retNF, nxF, noF, dropF, fzF, fzs, fz, unpF, xvE, itemC, cI, lt2, le2, gt2, ge2, boolD, notD, negD, callC, resC, isiE, isi_tup, isi_listCh, isi_listL, isi_int, isi_boolI, isi_strS, lenD_Pi, isN, notN, intO, slF, startD, List.replicate, scal_int, scal_str, scal_bl, scal_non, scal_L, scal_Pi, scal_Ch, scal_lst, scal_tup, itemsE_L, itemsE_Ch, itemsE_lst, andE_t, andE_f, lenD_L, lenD_Ch, lenD_lst, lenD_tup, forF, sc, hz, mulC, sm64_r, pk, it, e]
    rfl
  · obtain ⟨z', m2', x', ds, e, f⟩ := fr_nu (s0 := some (.d true (.int z))) (s1 := some (.d false (iL bs))) (m := false) bs z [] true none h (by simpa using hl)
    refine ⟨ds, ?_, f⟩
    unfold φ__law_numbers phi
    simp [g__law_numbers, seqF, ownF, consA, un1, mp, bi, vE, vB, cellD, cellB, addC, frz, dC, tupD, nilA, augF, subF, modF, fdivF, powF, oI, yes2, ownC, setF, ifF, andF, orF, blE, retF, retNF, nxF, noF, dropF, fzF, fzs, fz, unpF, xvE, itemC, cI, lt2, le2, gt2, ge2, boolD, notD, negD, callC, resC, isiE, isi_tup, isi_listCh, isi_listL, isi_int, isi_boolI, isi_strS, lenD_Pi, isN, notN, intO, slF, startD, List.replicate, scal_int, scal_str, scal_bl, scal_non, scal_L, scal_Pi, scal_Ch, scal_lst, scal_tup, itemsE_L, itemsE_Ch, itemsE_lst, andE_t, andE_f, lenD_L, lenD_Ch, lenD_lst, lenD_tup, forF, sc, hz, mulC, sm64_r, it, e]
    rfl
theorem φ_li : φ__law_lines [] = some (.ok true (L LL)) := rfl
end K05
end
section
set_option Elab.async false
set_option linter.all false
set_option maxRecDepth 100000
set_option maxHeartbeats 4000000
namespace K05
open PySem Dl
/-! ### the mathematics -/
theorem Ap.le {l l' : Int} (h : l' ≤ l) : ∀ {c : List Pc}, Ap l c → Ap l' c
  | [], _ => trivial
  | p :: c, ⟨h1, h2⟩ => ⟨by omega, h2⟩
theorem Ap.gt {l : Int} : ∀ {c : List Pc}, Ap l c → ∀ p ∈ c, l < p.1
  | p :: c, ⟨h1, h2⟩, q, hq => by
    rcases List.mem_cons.mp hq with z | z
    · rw [z]; exact h1
    · have := Ap.gt h2 q z
      omega
theorem Ap.snoc {p : Pc} : ∀ {acc : List Pc} {l : Int}, Ap l acc → l < p.1 → (∀ q ∈ acc, q.1 + (q.2.1.length : Int) < p.1) → Ap l (acc ++ [p])
  | [], l, _, h, _ => ⟨h, trivial⟩
  | q :: acc, l, ⟨h1, h2⟩, h, k => ⟨h1, Ap.snoc h2 (k q (List.mem_cons_self ..)) fun r hr => k r (List.mem_cons_of_mem _ hr)⟩
theorem Ap.turn : ∀ {c : List Pc} {l s : Int}, Ap l c → Ap (l + s) (turn s c)
  | [], _, _, _ => trivial
  | p :: c, l, s, ⟨h1, h2⟩ => by
    refine ⟨?_, ?_⟩
    · show l + s < p.1 + s
      omega
    · have := Ap.turn (s := s + ((p.2.2.length : Int) - (p.2.1.length : Int))) h2
      have e : p.1 + (p.2.1.length : Int) + (s + ((p.2.2.length : Int) - (p.2.1.length : Int))) = p.1 + s + (p.2.2.length : Int) := by omega
      rw [e] at this
      exact this
theorem turn_turn : ∀ (c : List Pc) (s : Int), turn (-s) (turn s c) = c
  | [], _ => rfl
  | (pl, ta, pu) :: c, s => by
    have h := turn_turn c (s + ((pu.length : Int) - (ta.length : Int)))
    show (pl + s + -s, ta, pu) :: turn (-s + ((ta.length : Int) - (pu.length : Int))) (turn (s + ((pu.length : Int) - (ta.length : Int))) c) = _
    have e1 : pl + s + -s = pl := by omega
    have e2 : -s + ((ta.length : Int) - (pu.length : Int)) = -(s + ((pu.length : Int) - (ta.length : Int))) := by omega
    rw [e1, e2, h]
theorem turn_len : ∀ (c : List Pc) (s : Int), (turn s c).length = c.length
  | [], _ => rfl
  | p :: c, s => by
    show (turn _ c).length + 1 = c.length + 1
    rw [turn_len]
theorem turn_mem : ∀ {c : List Pc} {s : Int} {q : Pc}, q ∈ turn s c → ∃ p ∈ c, q.2.1 = p.2.2 ∧ q.2.2 = p.2.1
  | p :: c, s, q, h => by
    rcases List.mem_cons.mp h with z | z
    · exact ⟨p, List.mem_cons_self .., by rw [z], by rw [z]⟩
    · obtain ⟨r, hr, h1, h2⟩ := turn_mem z
      exact ⟨r, List.mem_cons_of_mem _ hr, h1, h2⟩
theorem FitD.turn : ∀ {c : List Pc} {s h : Int} {pg : List Str}, FitD s pg c → FitD (s + h) (repl s pg c) (turn h c)
  | [], _, _, _, _ => trivial
  | (pl, ta, pu) :: c, s, h, pg, ⟨g, r, e1, e2, f⟩ => by
    dsimp only at e1 e2 f
    subst e1
    refine ⟨g, repl (pl + ta.length) r c, repl_cons' e2, ?_, ?_⟩
    · show pl + h = s + h + g.length
      omega
    · have := FitD.turn (h := h + ((pu.length : Int) - (ta.length : Int))) f
      have e : pl + (ta.length : Int) + (h + ((pu.length : Int) - (ta.length : Int))) = pl + h + (pu.length : Int) := by omega
      rw [e] at this
      exact this
theorem repl_turn : ∀ {c : List Pc} {s h : Int} {pg : List Str}, FitD s pg c → repl (s + h) (repl s pg c) (turn h c) = pg
  | [], _, _, _, _ => rfl
  | (pl, ta, pu) :: c, s, h, pg, ⟨g, r, e1, e2, f⟩ => by
    dsimp only at e1 e2 f
    subst e1
    have ih := repl_turn (h := h + ((pu.length : Int) - (ta.length : Int))) f
    have e : pl + (ta.length : Int) + (h + ((pu.length : Int) - (ta.length : Int))) = pl + h + (pu.length : Int) := by omega
    rw [e] at ih
    rw [repl_cons' e2]
    show repl (s + h) (g ++ (pu ++ repl (pl + ta.length) r c)) ((pl + h, pu, ta) :: turn (h + ((pu.length : Int) - (ta.length : Int))) c) = _
    rw [repl_cons' (by omega), ih]
theorem repl_len : ∀ {c : List Pc} {s : Int} {pg : List Str}, FitD s pg c → (∀ p ∈ c, p.2.2.length ≤ 2) → (repl s pg c).length ≤ pg.length + 2 * c.length
  | [], _, _, _, _ => by unfold repl; omega
  | (pl, ta, pu) :: c, s, pg, ⟨g, r, e1, e2, f⟩, h => by
    dsimp only at e1 e2 f
    subst e1
    have ih := repl_len f fun p hp => h p (List.mem_cons_of_mem _ hp)
    have h1 := h _ (List.mem_cons_self ..)
    dsimp only at h1
    rw [repl_cons' e2]
    simp only [List.length_append, List.length_cons]
    omega
theorem repl_Ln : ∀ {c : List Pc} {s : Int} {pg : List Str}, FitD s pg c → Ln pg → LnC c → Ln (repl s pg c)
  | [], _, _, _, h, _ => h
  | (pl, ta, pu) :: c, s, pg, ⟨g, r, e1, e2, f⟩, h, hc => by
    dsimp only at e1 e2 f
    subst e1
    rw [repl_cons' e2]
    have ih := repl_Ln f (fun x hx => h x (by simp [hx])) fun p hp => hc p (List.mem_cons_of_mem _ hp)
    have h2 := (hc _ (List.mem_cons_self ..)).2
    intro x hx
    rcases List.mem_append.mp hx with z | z
    · exact h x (by simp [z])
    · rcases List.mem_append.mp z with z | z
      · exact h2 x z
      · exact ih x z
/-- by the page's places -/
theorem fitD_of : ∀ {c : List Pc} {pg pre cur : List Str}, pg = pre ++ cur → Ap ((pre.length : Int) - 1) c → (∀ p ∈ c, FitAt pg p) → FitD pre.length cur c
  | [], _, _, _, _, _, _ => trivial
  | (pl, ta, pu) :: c, pg, pre, cur, e, ⟨h1, h2⟩, h => by
    obtain ⟨g, r, e1, e2⟩ := h _ (List.mem_cons_self ..)
    dsimp only at e1 e2 h1 h2
    have hl : pre.length ≤ g.length := by omega
    rw [e] at e1
    obtain ⟨k, hk⟩ : ∃ k, g = pre ++ k := by
      rcases List.append_eq_append_iff.mp e1 with ⟨k, h1, h2⟩ | ⟨k, h1, h2⟩
      · exact ⟨k, h1⟩
      · have : k = [] := by
          have := congrArg List.length h1
          rw [List.length_append] at this
          exact List.eq_nil_of_length_eq_zero (by omega)
        rw [this, List.append_nil] at h1
        exact ⟨[], by rw [h1, List.append_nil]⟩
    subst hk
    have e3 : cur = k ++ (ta ++ r) := by
      rw [List.append_assoc] at e1
      exact List.append_cancel_left e1
    refine ⟨k, r, e3, ?_, ?_⟩
    · show pl = (pre.length : Int) + k.length
      rw [e2, List.length_append]
      omega
    · have e4 : pl + (ta.length : Int) = ((pre ++ (k ++ ta)).length : Int) := by rw [e2]; simp; omega
      show FitD (pl + ta.length) r c
      rw [e4]
      refine fitD_of (pg := pg) (by rw [e, e3]; simp) (h2.le (by omega)) fun p hp => h p (List.mem_cons_of_mem _ hp)
/-- a change of the law's: small -/
structure Sm5 (pg : List Str) (c : List Pc) : Prop where
  ap : Ap (-1) c
  fit : ∀ p ∈ c, FitAt pg p
  ln : LnC c
  ne : ∀ p ∈ c, 0 < p.2.1.length + p.2.2.length
  bd : ∀ p ∈ c, p.2.1.length ≤ 2 ∧ p.2.2.length ≤ 2
  ct : c.length ≤ 5
theorem FitAt.le {pg : List Str} {p : Pc} (h : FitAt pg p) : 0 ≤ p.1 ∧ p.1 ≤ pg.length := by
  obtain ⟨g, r, e1, e2⟩ := h
  have := congrArg List.length e1
  rw [List.length_append] at this
  omega
theorem Sm5.fd {pg : List Str} {c : List Pc} (h : Sm5 pg c) : FitD 0 pg c := fitD_of (pre := []) rfl h.ap h.fit
theorem Sm5.vc {pg : List Str} {c : List Pc} (h : Sm5 pg c) (hl : pg.length ≤ 100) : Vc c := ⟨h.ap, h.ln, h.ne, fun p hp => by
  have h1 := (h.fit p hp).le
  have h2 := h.bd p hp
  omega, by have := h.ct; omega⟩
theorem Sm5.tu {pg : List Str} {c : List Pc} (h : Sm5 pg c) : Sm5 (repl 0 pg c) (turn 0 c) := ⟨(by have := h.ap.turn (s := 0); rw [Int.add_zero] at this; exact this), fun p hp => FitD.all (pre := []) rfl (FitD.turn (h := 0) h.fd) p hp, fun p hp => by
  obtain ⟨q, hq, e1, e2⟩ := turn_mem hp
  rw [e1, e2]
  exact ⟨(h.ln q hq).2, (h.ln q hq).1⟩, fun p hp => by
  obtain ⟨q, hq, e1, e2⟩ := turn_mem hp
  rw [e1, e2]
  have := h.ne q hq
  omega, fun p hp => by
  obtain ⟨q, hq, e1, e2⟩ := turn_mem hp
  rw [e1, e2]
  have := h.bd q hq
  omega, by rw [turn_len]; exact h.ct⟩
end K05
end
section
set_option Elab.async false
set_option linter.all false
set_option maxRecDepth 100000
set_option maxHeartbeats 4000000
namespace K05
open PySem Dl
theorem listC_L {m : Bool} {a : List Str} : listC (m, L a) = some (.own true (a.map .str)) := by
  show some (C.own (m || allScal (a.map D.str)) (a.map D.str)) = _
  rw [scalStr, Bool.or_true]
theorem lcD_map {vs : List Nat} {t : TgD} {c : FT} {e : FE} {τ : DS} {m : Bool} {f : D → D} : ∀ (ds : List D), (∀ d ∈ ds, ∃ τ1, t (m || scal d, d) (wD τ vs) = some τ1 ∧ c τ1 = some true ∧ e τ1 = some (true, f d)) → lcD vs t c e τ (flag m ds) = some (true, ds.map f)
  | [], _ => rfl
  | d :: ds, h => by
    obtain ⟨τ1, h1, h2, h3⟩ := h d (List.mem_cons_self ..)
    rw [flag_cons, lcD, h1, Option.bind_some, h2, Option.bind_some, if_pos rfl, h3, Option.bind_some, lcD_map ds fun q hq => h q (List.mem_cons_of_mem _ hq)]
    rfl
theorem φ_cp {c : List Pc} (h : c.length ≤ lim) : φ__law_copied [Ch c] = some (.ok true (Ch c)) := by
  have e : lcD [1, 2, 3] tg__law_copied_1 (fun _ => some true) el__law_copied_1 [some (.d false (Ch c)), none, none, none] (flag false (c.map Pi)) = some (true, (c.map Pi).map id) := lcD_map _ fun d hd => by
    obtain ⟨p, hp, rfl⟩ := List.mem_map.mp hd
    refine ⟨[some (.d false (Ch c)), some (.d true (.int p.1)), some (.d false (L p.2.1)), some (.d false (L p.2.2))], ?_, rfl, ?_⟩
    · simp [tg__law_copied_1, tupT, consT, nameT, nilT, Pi, flag_cons, flag_nil, scal_int, scal_L, scal_tup, wD]
    · simp [el__law_copied_1, seqF, ownF, consA, un1, mp, bi, vE, vB, cellD, cellB, addC, frz, dC, tupD, nilA, augF, subF, modF, fdivF, powF, oI, yes2, ownC, setF, ifF, andF, orF, blE, retF, retNF, nxF, noF, dropF, fzF, fzs, fz, unpF, xvE, itemC, cI, lt2, le2, gt2, ge2, boolD, notD, negD, callC, resC, isiE, isi_tup, isi_listCh, isi_listL, isi_int, isi_boolI, isi_strS, lenD_Pi, isN, notN, intO, slF, startD, List.replicate, scal_int, scal_str, scal_bl, scal_non, scal_L, scal_Pi, scal_Ch, scal_lst, scal_tup, itemsE_L, itemsE_Ch, itemsE_lst, andE_t, andE_f, lenD_L, lenD_Ch, lenD_lst, lenD_tup, listC_L, lim, Pi]
      exact ⟨rfl, rfl⟩
  have e2 : (flag false (c.map Pi)).length ≤ lim := by unfold flag; rw [List.length_map, List.length_map]; exact h
  rw [List.map_id] at e
  refine phi_rt (n := 4) (g := g__law_copied) ?_
  simp [g__law_copied, seqF, ownF, consA, un1, mp, bi, vE, vB, cellD, cellB, addC, frz, dC, tupD, nilA, augF, subF, modF, fdivF, powF, oI, yes2, ownC, setF, ifF, andF, orF, blE, retF, retNF, nxF, noF, dropF, fzF, fzs, fz, unpF, xvE, itemC, cI, lt2, le2, gt2, ge2, boolD, notD, negD, callC, resC, isiE, isi_tup, isi_listCh, isi_listL, isi_int, isi_boolI, isi_strS, lenD_Pi, isN, notN, intO, slF, startD, List.replicate, scal_int, scal_str, scal_bl, scal_non, scal_L, scal_Pi, scal_Ch, scal_lst, scal_tup, itemsE_L, itemsE_Ch, itemsE_lst, andE_t, andE_f, lenD_L, lenD_Ch, lenD_lst, lenD_tup, lcF, e, e2]
  rfl
/-! ### the law's own look at a change -/
theorem itemC_Pi1 {m : Bool} {p : Pc} : itemC (some (some (.d m (Pi p)))) (.int 1) = some (m || false, L p.2.1) := rfl
theorem itemC_Pi2 {m : Bool} {p : Pc} : itemC (some (some (.d m (Pi p)))) (.int 2) = some (m || false, L p.2.2) := rfl
theorem itemC_Pi0 {m : Bool} {p : Pc} : itemC (some (some (.d m (Pi p)))) (.int 0) = some (m || true, .int p.1) := rfl
theorem itemB_Pi1 {p : Pc} : itemB (Pi p) (.int 1) = some (L p.2.1) := rfl
theorem itemB_Pi2 {p : Pc} : itemB (Pi p) (.int 2) = some (L p.2.2) := rfl
theorem addC_L {m n : Bool} {a b : List Str} (h : a.length + b.length ≤ lim) : addC (m, L a) (n, L b) = some (.own (m && n) ((a ++ b).map .str)) := by
  show (if (a.map D.str).length + (b.map D.str).length ≤ lim then some (C.own (m && n) (a.map D.str ++ b.map D.str)) else none) = _
  rw [List.length_map, List.length_map, if_pos h, List.map_append]
theorem eqD_ne {ls : List Str} (h : Ln ls) (hn : 0 < ls.length) : eqD (.lst (ls.map .str)) (.lst []) = some false := by
  have e2 : okEq (.lst []) = true := rfl
  unfold eqD
  rw [show D.lst (ls.map .str) = L ls from rfl, okEq_L h, e2, Bool.and_self, if_pos rfl]
  cases ls with
  | nil => cases hn
  | cons x r => rfl
theorem lb_ic {c0 : Option C} {last : Int} {p : Pc} {m n : Bool} (h : last < p.1) (ha : Ln p.2.1) (hb : Ln p.2.2) (hn : 0 < p.2.1.length + p.2.2.length) (hl : p.2.1.length + p.2.2.length ≤ lim) :
    lb__law_is_change_1 [c0, some (.d m (.int last)), some (.d n (Pi p))] = some (.nx [c0, some (.d true (.int (p.1 + p.2.1.length))), some (.d n (Pi p))]) := by
  have e : ¬ p.1 ≤ last := by omega
  have e2 := eqD_ne (ls := p.2.1 ++ p.2.2) (fun x hx => (List.mem_append.mp hx).elim (ha x) (hb x)) (by rw [List.length_append]; exact hn)
  rw [List.map_append] at e2
  simp only [lb__law_is_change_1]
  rw [seqF_nx (τ' := [c0, some (.d m (.int last)), some (.d n (Pi p))]), seqF_nx (τ' := [c0, some (.d m (.int last)), some (.d n (Pi p))])]
  · simp [setF, bi, xvE, un1, mp, vB, cellB, itemC_Pi0, itemB_Pi1, lenD_L, addC, frz]
  · simp [ifF, orF, mp, un1, bi, vB, cellB, frz, itemB_Pi1, itemB_Pi2, isiE, isi_listL, boolD, xvE, itemC_Pi1, itemC_Pi2, addC_L hl, e2, nxF, nilA, ownC]
  · simp [ifF, orF, mp, un1, bi, vB, cellB, frz, itemB_Pi0, isiE, isi_tup, isi_boolI, boolD, lenD_Pi, neD_int, cI, le2, e, nxF]
theorem fr_ic {c0 : Option C} {n : Bool} : ∀ (c : List Pc) (last : Int) (m : Bool) (x : Option C), Ap last c → LnC c → (∀ p ∈ c, 0 < p.2.1.length + p.2.2.length ∧ p.2.1.length + p.2.2.length ≤ lim) →
    ∃ y x', forD tg__law_is_change_1 lb__law_is_change_1 (flag n (c.map Pi)) [c0, some (.d m (.int last)), x] = some (.nx [c0, y, x'])
  | [], last, m, x, _, _, _ => ⟨_, x, rfl⟩
  | p :: c, last, m, x, ⟨h1, h2⟩, hL, hb => by
    obtain ⟨y, x', ih⟩ := fr_ic (c0 := c0) (n := n) c _ true (some (.d n (Pi p))) h2 (fun q hq => hL q (List.mem_cons_of_mem _ hq)) fun q hq => hb q (List.mem_cons_of_mem _ hq)
    have hp := List.mem_cons_self (a := p) (l := c)
    refine ⟨y, x', ?_⟩
    rw [List.map_cons, flag_cons, forD_nx (τ1 := [c0, some (.d m (.int last)), some (.d n (Pi p))]) ?_ (lb_ic h1 (hL p hp).1 (hL p hp).2 (hb p hp).1 (hb p hp).2), ih]
    simp [tg__law_is_change_1, nameT, scal_Pi]
theorem φ_ic {c : List Pc} (ha : Ap (-1) c) (hL : LnC c) (hb : ∀ p ∈ c, 0 < p.2.1.length + p.2.2.length ∧ p.2.1.length + p.2.2.length ≤ lim) : φ__law_is_change [Ch c] = some (.ok true (.bl true)) := by
  obtain ⟨y, x', e⟩ := fr_ic (c0 := some (.d false (Ch c))) (n := false) c (-1) true none ha hL hb
  refine phi_rt (n := 3) (g := g__law_is_change) ?_
  simp [g__law_is_change, seqF, ownF, consA, un1, mp, bi, vE, vB, cellD, cellB, addC, frz, dC, tupD, nilA, augF, subF, modF, fdivF, powF, oI, yes2, ownC, setF, ifF, andF, orF, blE, retF, retNF, nxF, noF, dropF, fzF, fzs, fz, unpF, xvE, itemC, cI, lt2, le2, gt2, ge2, boolD, notD, negD, callC, resC, isiE, isi_tup, isi_listCh, isi_listL, isi_int, isi_boolI, isi_strS, lenD_Pi, isN, notN, intO, slF, startD, List.replicate, scal_int, scal_str, scal_bl, scal_non, scal_L, scal_Pi, scal_Ch, scal_lst, scal_tup, itemsE_L, itemsE_Ch, itemsE_lst, andE_t, andE_f, lenD_L, lenD_Ch, lenD_lst, lenD_tup, forF, e]
end K05
end
section
set_option Elab.async false
set_option linter.all false
set_option maxRecDepth 100000
set_option maxHeartbeats 4000000
namespace K05
open PySem Dl
/-! ### the law's page -/
theorem itemC_iLp {ds : List Int} {k : Nat} {d : Int} (h : ds[k]? = some d) : itemC (some (some (.dp (iL ds)))) (.int k) = some (true, .int d) := by
  have hn := lt_of_some h
  show (L2.atI (ds.map D.int) (k : Int)).bind (fun d => if scal d then some (true, d) else none) = _
  rw [atI_nat (by rw [List.length_map]; exact hn), List.getElem?_map, h]
  rfl
theorem itemC_iLd {ds : List Int} {k : Nat} {d : Int} {m : Bool} (h : ds[k]? = some d) : itemC (some (some (.d m (iL ds)))) (.int k) = some (true, .int d) := by
  have hn := lt_of_some h
  show (L2.atI (ds.map D.int) (k : Int)).map (fun d => (m || scal d, d)) = _
  rw [atI_nat (by rw [List.length_map]; exact hn), List.getElem?_map, h]
  cases m <;> rfl
def lnAt (r : Int) : Str := LL.getD r.toNat ""
theorem lnAt_in {r : Int} (h0 : 0 ≤ r) (h : r < 12) : lnAt r ∈ LL := by
  have : r.toNat < LL.length := by show r.toNat < 12; omega
  unfold lnAt
  rw [List.getD_eq_getElem?_getD, List.getElem?_eq_getElem this]
  exact List.getElem_mem this
theorem itemC_LL {r : Int} (h0 : 0 ≤ r) (h : r < 12) : itemC (some (some (.dp (L LL)))) (.int r) = some (true, .str (lnAt r)) := by
  have hr : r.toNat < LL.length := by show r.toNat < 12; omega
  have e : ((r.toNat : Nat) : Int) = r := by omega
  have e2 : LL[r.toNat]? = some (lnAt r) := by
    unfold lnAt
    rw [List.getD_eq_getElem?_getD, List.getElem?_eq_getElem hr]
    rfl
  have key : (L2.atI (LL.map D.str) ((r.toNat : Nat) : Int)).bind (fun d => if scal d then some (true, d) else none) = some (true, D.str (lnAt r)) := by
    rw [atI_nat (by rw [List.length_map]; exact hr), List.getElem?_map, e2]
    rfl
  rw [e] at key
  exact key
theorem itemC_LLd {r : Int} {m : Bool} (h0 : 0 ≤ r) (h : r < 12) : itemC (some (some (.d m (L LL)))) (.int r) = some (true, .str (lnAt r)) := by
  have hr : r.toNat < LL.length := by show r.toNat < 12; omega
  have e : ((r.toNat : Nat) : Int) = r := by omega
  have e2 : LL[r.toNat]? = some (lnAt r) := by
    unfold lnAt
    rw [List.getD_eq_getElem?_getD, List.getElem?_eq_getElem hr]
    rfl
  have := itemE_L (m := m) e2
  rw [e] at this
  exact this
theorem φ_pg (z : Int) : ∃ pg, φ__law_page [.int z, .int 12] = some (.ok true (L pg)) ∧ Ln pg ∧ pg.length ≤ 12 := by
  obtain ⟨ds, e1, f1⟩ := φ_nu z [13, 12, 4] (by decide) (by decide)
  cases f1 with | cons h0 f1 => cases f1 with | cons h1 f1 => cases f1 with | cons h2 f1 => cases f1 with | nil =>
  rename_i d0 d1 d2
  obtain ⟨v, hv, ev⟩ : ∃ v, (0 < v ∧ v < 1073741824) ∧ itemE (true, .lst [.int 2, .int 3, .int 5, .int 12]) (.int d2) = some (true, .int v) := by
    have : d2 = 0 ∨ d2 = 1 ∨ d2 = 2 ∨ d2 = 3 := by omega
    rcases this with h | h | h | h <;> subst h
    · exact ⟨2, by decide, rfl⟩
    · exact ⟨3, by decide, rfl⟩
    · exact ⟨5, by decide, rfl⟩
    · exact ⟨12, by decide, rfl⟩
  have n0 : d0.toNat ≤ 12 := by omega
  obtain ⟨os, e2, f2⟩ := φ_nu (z / 3 + 5) (List.replicate d0.toNat v) (fun b hb => by rw [(List.mem_replicate.mp hb).2]; exact hv) (by rw [List.length_replicate]; show _ ≤ 16777216; omega)
  have ol : os.length = d0.toNat := by
    have : ∀ {a b : List Int}, Dg a b → a.length = b.length := fun {a b} h => by
      induction h with
      | nil => rfl
      | cons _ _ ih => rw [List.length_cons, List.length_cons, ih]
    rw [this f2, List.length_replicate]
  have mul : mulC (true, .lst [.int v]) (true, .int d0) = some (.own true (List.replicate d0.toNat (.int v))) := by
    show (if _ then some (C.own true (List.replicate d0.toNat [D.int v]).flatten) else none) = _
    rw [if_pos ?_, List.flatten_replicate_singleton]
    simp only [Bool.and_eq_true, decide_eq_true_eq]
    refine ⟨⟨by omega, by omega⟩, ?_⟩
    show 1 * d0.toNat ≤ 16777216
    omega
  have e1' : φ__law_numbers [.int z, .lst [.int 13, .int 12, .int 4]] = some (.ok true (iL [d0, d1, d2])) := e1
  have e2' : φ__law_numbers [.int (z / 3 + 5), .lst (List.replicate d0.toNat (.int v))] = some (.ok true (iL os)) := by
    rw [← List.map_replicate]; exact e2
  refine ⟨os.map fun o => lnAt ((d1 + o) % 12), ?_, fun x hx => ?_, by rw [List.length_map, ol]; exact n0⟩
  · refine phi_rt (n := 6) (g := g__law_page) ?_
    have st : startD 6 [.int z, .int 12] = [some (.d true (.int z)), some (.d true (.int 12)), none, none, none, none] := rfl
    rw [st]
    unfold g__law_page
    have i2 : itemC (some (some (.dp (iL [d0, d1, d2])))) (.int 2) = some (true, .int d2) := itemC_iLp (k := 2) rfl
    have i0 : itemC (some (some (.dp (iL [d0, d1, d2])))) (.int 0) = some (true, .int d0) := itemC_iLp (k := 0) rfl
    have i1 : itemC (some (some (.dp (iL [d0, d1, d2])))) (.int 1) = some (true, .int d1) := itemC_iLp (k := 1) rfl
    refine (seqF_nx (τ' := [some (.d true (.int z)), some (.d true (.int 12)), some (.dp (iL [d0, d1, d2])), none, none, none]) ?_).trans
      ((seqF_nx (τ' := [some (.d true (.int z)), some (.d true (.int 12)), some (.dp (iL [d0, d1, d2])), some (.dp (L LL)), none, none]) ?_).trans
      ((seqF_nx (τ' := [some (.d true (.int z)), some (.d true (.int 12)), some (.dp (iL [d0, d1, d2])), some (.dp (L LL)), some (.dp (iL os)), none]) ?_).trans ?_))
    · simp [setF, callC, consA, vE, cellD, bi, mp, addC, frz, un1, ownC, nilA, lim, e1', resC]
    · simp [setF, callC, nilA, φ_li, resC]
    · simp only [setF, callC, consA, fdivF, oI, vB, cellB, bi, mp, addC, frz, un1, ownC, nilA, resC]
      simp [fdivF, bi, vB, cellB, oI, frz, lim, ownC, xvE, i2, i0, ev, mul, e2', resC]
    · have el : lcD [5] tg__law_page_1 (fun _ => some true) el__law_page_1 [some (.d true (.int z)), some (.d true (.int 12)), some (.dp (iL [d0, d1, d2])), some (.dp (L LL)), some (.d true (iL os)), none] (flag true (os.map .int)) = some (true, (os.map D.int).map fun d => match d with
          | D.int o => D.str (lnAt ((d1 + o) % 12))
          | _ => D.non) := lcD_map _ fun d hd => by
        obtain ⟨o, ho, rfl⟩ := List.mem_map.mp hd
        refine ⟨[some (.d true (.int z)), some (.d true (.int 12)), some (.dp (iL [d0, d1, d2])), some (.dp (L LL)), some (.d true (iL os)), some (.d true (.int o))], rfl, rfl, ?_⟩
        have r0 := Int.emod_nonneg (d1 + o) (b := 12) (by decide)
        have r1 := Int.emod_lt_of_pos (d1 + o) (b := 12) (by decide)
        simp [el__law_page_1, xvE, modF, bi, mp, vE, cellD, addC, frz, oI, i1, itemC_LL r0 r1]
      have il : itemsE (true, iL os) = some (flag true (os.map .int)) := rfl
      have fl : (flag true (os.map D.int)).length ≤ lim := by unfold flag; rw [List.length_map, List.length_map, ol]; show _ ≤ 16777216; omega
      simp [fzF, fzs, fz, frz, retF, mp, lcF, un1, vE, cellD, il, fl, el]
      simp [L, Function.comp_def]
  · obtain ⟨o, _, rfl⟩ := List.mem_map.mp hx
    exact lnAt_in (Int.emod_nonneg _ (by decide)) (Int.emod_lt_of_pos _ (by decide))
end K05
end
section
set_option Elab.async false
set_option linter.all false
set_option maxRecDepth 100000
set_option maxHeartbeats 4000000
namespace K05
open PySem Dl
/-! ### the law's change -/
theorem Dg.drop : ∀ {ds bs : List Int} (n : Nat), Dg ds bs → Dg (ds.drop n) (bs.drop n)
  | _, _, 0, h => h
  | _, _, n + 1, .nil => .nil
  | _, _, n + 1, .cons _ t => Dg.drop n t
def BN (N : Nat) : List Int := ((N : Int) + 1) :: (List.replicate N [4, 3, 3, 12, 12]).flatten
theorem BN_at : ∀ N : Nat, N ≤ 5 → ∀ k : Nat, k < N → (BN N).drop (1 + 5 * k) = 4 :: 3 :: 3 :: 12 :: 12 :: (BN N).drop (6 + 5 * k) := by decide
theorem BN_len : ∀ N : Nat, N ≤ 5 → (BN N).length = 1 + 5 * N := by decide
theorem BN_bd : ∀ N : Nat, N ≤ 5 → ∀ b ∈ BN N, 0 < b ∧ b < 1073741824 := by decide
theorem Dg.len {ds bs : List Int} (h : Dg ds bs) : ds.length = bs.length := by
  induction h with
  | nil => rfl
  | cons _ _ ih => rw [List.length_cons, List.length_cons, ih]
theorem dig5 {ds : List Int} {N : Nat} (hN : N ≤ 5) (h : Dg ds (BN N)) (k : Nat) (hk : k < N) : ∃ g t p a b : Nat, cutL ds (some (1 + 5 * (k : Int))) (some (6 + 5 * (k : Int))) = [(g : Int), t, p, a, b] ∧ g < 4 ∧ t < 3 ∧ p < 3 ∧ a < 12 ∧ b < 12 := by
  have er := BN_at N hN k hk
  have q := h.drop (1 + 5 * k)
  rw [er] at q
  have hl : ds.length = 1 + 5 * N := h.len.trans (BN_len N hN)
  generalize hd : ds.drop (1 + 5 * k) = w at q
  cases q with | cons h1 q => cases q with | cons h2 q => cases q with | cons h3 q => cases q with | cons h4 q => cases q with | cons h5 q =>
  obtain ⟨g, rfl⟩ := Int.eq_ofNat_of_zero_le h1.1
  obtain ⟨t, rfl⟩ := Int.eq_ofNat_of_zero_le h2.1
  obtain ⟨p, rfl⟩ := Int.eq_ofNat_of_zero_le h3.1
  obtain ⟨a, rfl⟩ := Int.eq_ofNat_of_zero_le h4.1
  obtain ⟨b, rfl⟩ := Int.eq_ofNat_of_zero_le h5.1
  refine ⟨g, t, p, a, b, ?_, by omega, by omega, by omega, by omega, by omega⟩
  unfold cutL
  have e1 : (1 + 5 * (k : Int)) = ((1 + 5 * k : Nat) : Int) := by omega
  have e2 : (6 + 5 * (k : Int)) = ((6 + 5 * k : Nat) : Int) := by omega
  rw [e1, e2, sIx_n (by omega), sIx_n (by omega), hd, show 6 + 5 * k - (1 + 5 * k) = 5 by omega]
  rfl
theorem cutC_iL {ds : List Int} {lo hi : Option Int} : cutC (true, iL ds) lo hi = some (.own true ((cutL ds lo hi).map .int)) := by
  show some (C.own (true || _) (cutL (ds.map D.int) lo hi)) = _
  unfold cutL
  rw [List.length_map, List.map_take, List.map_drop]
  rfl
theorem cut_page {pg : List Str} {n t : Nat} (h : n + t ≤ pg.length) : ∃ pre sl r, pg = pre ++ (sl ++ r) ∧ pre.length = n ∧ sl.length = t ∧ cutL pg (some (n : Int)) (some ((n : Int) + (t : Int))) = sl := by
  refine ⟨pg.take n, (pg.drop n).take t, (pg.drop n).drop t, by rw [List.take_append_drop, List.take_append_drop], by rw [List.length_take]; omega, by rw [List.length_take, List.length_drop]; omega, ?_⟩
  unfold cutL
  rw [← Int.natCast_add, sIx_n (by omega), sIx_n (by omega), show n + t - n = t by omega]
theorem cut_puts {x y : Str} {p : Nat} (h : p < 3) : cutC (true, .lst [.str x, .str y]) none (some (p : Int)) = some (.own true (([x, y].take p).map .str)) := by
  show some (C.own (true || _) (cutL [D.str x, D.str y] none (some (p : Int)))) = _
  show some (C.own true (List.take (HT.sIx 2 2 (some (p : Int)) - 0) (List.drop 0 [D.str x, D.str y]))) = _
  rw [sIx_n (show p ≤ 2 by omega)]
  show some (C.own true ([D.str x, D.str y].take (p - 0))) = _
  rw [Nat.sub_zero]
  rw [List.map_take]
  rfl
section
variable {pg : List Str} {s0 s2 : Option C} {acc : List Pc} {at_ g t p a b : Nat} {ds : List Int} {k : Int}
abbrev stA (s0 : Option C) (pg : List Str) (s2 : Option C) (ds : List Int) (acc : List Pc) (at_ : Int) (k : Int) (g t p a b : Nat) (x13 : Option C) : DS :=
  [s0, some (.d false (L pg)), s2, some (.d true (iL ds)), some (.dp (L LL)), some (.own true (acc.map Pi)), some (.d true (.int at_)), some (.d true (.int k)), some (.d true (.int g)), some (.d true (.int t)), some (.d true (.int p)), some (.d true (.int a)), some (.d true (.int b)), x13]
theorem lb_ch {c3 : C} (h3 : c3 = .dp (iL ds) ∨ c3 = .d true (iL ds)) (hk : k = (k.toNat : Int)) (hd : cutL ds (some (1 + 5 * k)) (some (6 + 5 * k)) = [(g : Int), t, p, a, b]) (ha : a < 12) (hb : b < 12) (hp : p < 3) (hl : acc.length < lim) {x8 x9 x10 x11 x12 x13 : Option C} :
    lb__law_change_1 [s0, some (.d false (L pg)), s2, some c3, some (.dp (L LL)), some (.own true (acc.map Pi)), some (.d true (.int at_)), some (.d true (.int k)), x8, x9, x10, x11, x12, x13] =
      if at_ + g + t ≤ pg.length ∧ 0 < t + p then some (.nx (stA s0 pg s2 ds (acc ++ [((((at_ + g : Nat) : Int), cutL pg (some ((at_ + g : Nat) : Int)) (some (((at_ + g : Nat) : Int) + (t : Int))), [lnAt a, lnAt b].take p) : Pc)]) ((at_ + g : Nat) + (t : Int) + 1) k g t p a b (some (.d true (.int (at_ + g : Nat))))))
      else some (.nx (stA s0 pg s2 ds acc at_ k g t p a b (some (.d true (.int (at_ + g : Nat)))))) := by
  have l3 : lim = 16777216 := rfl
  unfold lb__law_change_1
  refine (seqF_nx (τ' := stA s0 pg s2 ds acc at_ k g t p a b x13) ?_).trans ((seqF_nx (τ' := stA s0 pg s2 ds acc at_ k g t p a b (some (.d true (.int (at_ + g : Nat))))) ?_).trans ?_)
  · have cc : cutC (true, iL ds) (some (1 + 5 * k)) (some (6 + 5 * k)) = some (.own true [.int g, .int t, .int p, .int a, .int b]) := by rw [cutC_iL, hd]; rfl
    have m5 : ∀ m : Bool, mulC (m, .int 5) (true, .int k) = some (.d true (.int (5 * k))) := fun m => by
      have h5 : sm64 5 k = true := by unfold sm64; rw [Bool.or_eq_true]; exact .inl (by decide)
      simp only [mulC]
      rw [if_pos h5]
    rcases h3 with rfl | rfl
    · simp [fzF, fzs, fz, frz, unpF, mp, slF, un1, bi, vE, vB, cellD, cellB, m5, addC, intO, cc, orT, unlT, flag_cons, flag_nil, scal_int, consT, nameT, nilT, stA]
    · simp [fzF, fzs, fz, frz, unpF, mp, slF, un1, bi, vE, vB, cellD, cellB, m5, addC, intO, cc, orT, unlT, flag_cons, flag_nil, scal_int, consT, nameT, nilT, stA]
  · simp [fzF, fzs, fz, frz, setF, bi, vE, cellD, addC, stA]
  · by_cases hc : at_ + g + t ≤ pg.length ∧ 0 < t + p
    · rw [if_pos hc]
      have c1 : (at_ : Int) + (g : Int) + (t : Int) ≤ (pg.length : Int) := by omega
      have c2 : (0 : Int) < (t : Int) + (p : Int) := by omega
      have y1 : itemC (some (some (.dp (L LL)))) (.int (a : Int)) = some (true, .str (lnAt a)) := itemC_LL (by omega) (by omega)
      have y2 : itemC (some (some (.dp (L LL)))) (.int (b : Int)) = some (true, .str (lnAt b)) := itemC_LL (by omega) (by omega)
      have hl2 : acc.length < 16777216 := hl
      have cp := cut_puts (x := lnAt a) (y := lnAt b) hp
      simp [fzF, fzs, fz, frz, ifF, andF, bi, mp, un1, vE, vB, cellD, cellB, addC, lenD_L, cI, le2, gt2, stA, c1, c2, seqF, ownF, consA, nilA, slF, intO, cutC_L, xvE, y1, y2, ownC, l3, cp, tupD, appOp, hl2, setF, Pi]
      exact ⟨rfl, by unfold L; rw [List.map_take]; rfl⟩
    · rw [if_neg hc]
      have c3 : ¬ ((at_ : Int) + (g : Int) + (t : Int) ≤ (pg.length : Int) ∧ (0 : Int) < (t : Int) + (p : Int)) := by omega
      by_cases c1 : (at_ : Int) + (g : Int) + (t : Int) ≤ (pg.length : Int)
      · have c2 : ¬ (0 : Int) < (t : Int) + (p : Int) := fun z => c3 ⟨c1, z⟩
        simp [fzF, fzs, fz, frz, ifF, andF, bi, mp, un1, vE, vB, cellD, cellB, addC, lenD_L, cI, le2, gt2, stA, c1, c2, nxF]
      · simp [fzF, fzs, fz, frz, ifF, andF, bi, mp, un1, vE, vB, cellD, cellB, addC, lenD_L, cI, le2, gt2, stA, c1, nxF]
end
structure InvC (pg : List Str) (acc : List Pc) (at_ : Nat) : Prop where
  ap : Ap (-1) acc
  fit : ∀ p ∈ acc, FitAt pg p
  ln : LnC acc
  ne : ∀ p ∈ acc, 0 < p.2.1.length + p.2.2.length
  bd : ∀ p ∈ acc, p.2.1.length ≤ 2 ∧ p.2.2.length ≤ 2
  lt : ∀ p ∈ acc, p.1 + (p.2.1.length : Int) < at_
theorem InvC.snoc {pg : List Str} {acc : List Pc} {at_ g t p a b : Nat} (h : InvC pg acc at_) (hp : Ln pg) (hl : at_ + g + t ≤ pg.length) (hn : 0 < t + p) (ht : t < 3) (hpp : p < 3) (ha : a < 12) (hb : b < 12) :
    InvC pg (acc ++ [((((at_ + g : Nat) : Int), cutL pg (some ((at_ + g : Nat) : Int)) (some (((at_ + g : Nat) : Int) + (t : Int))), [lnAt a, lnAt b].take p) : Pc)]) (at_ + g + t + 1) := by
  obtain ⟨pre, sl, r, e1, e2, e3, e4⟩ := cut_page (pg := pg) (n := at_ + g) (t := t) (by omega)
  rw [e4]
  have hm : ∀ {P : Pc → Prop}, (∀ q ∈ acc, P q) → P (((at_ + g : Nat) : Int), sl, [lnAt a, lnAt b].take p) → ∀ q ∈ acc ++ [((((at_ + g : Nat) : Int), sl, [lnAt a, lnAt b].take p) : Pc)], P q := fun {P} h1 h2 q hq => by
    rcases List.mem_append.mp hq with z | z
    · exact h1 q z
    · rw [List.mem_singleton.mp z]; exact h2
  have lp : ([lnAt a, lnAt b].take p).length = p := by rw [List.length_take]; show min p 2 = p; omega
  refine ⟨h.ap.snoc (by show (-1 : Int) < ((at_ + g : Nat) : Int); omega) fun q hq => ?_, hm h.fit ⟨pre, r, e1, by show ((at_ + g : Nat) : Int) = _; rw [e2]⟩, hm h.ln ⟨fun x hx => hp x (by rw [e1]; exact List.mem_append_right _ (List.mem_append_left _ hx)), fun x hx => ?_⟩, hm h.ne ?_, hm h.bd ?_, hm (fun q hq => ?_) ?_⟩
  · have := h.lt q hq
    show _ < ((at_ + g : Nat) : Int)
    omega
  · have := List.mem_of_mem_take hx
    rcases List.mem_cons.mp this with z | z
    · rw [z]; exact lnAt_in (by omega) (by omega)
    · rw [List.mem_singleton.mp z]; exact lnAt_in (by omega) (by omega)
  · show 0 < sl.length + ([lnAt a, lnAt b].take p).length
    omega
  · show sl.length ≤ 2 ∧ ([lnAt a, lnAt b].take p).length ≤ 2
    omega
  · have := h.lt q hq
    omega
  · show ((at_ + g : Nat) : Int) + (sl.length : Int) < ((at_ + g + t + 1 : Nat) : Int)
    omega
def rI (j : Nat) : Bool × D := (true, .int (0 + (j : Int)))
theorem fr_ch {pg : List Str} {ds : List Int} {s0 s2 : Option C} (hp : Ln pg) {N : Nat} (hN : N ≤ 5) (hd : Dg ds (BN N)) : ∀ (m k : Nat) (acc : List Pc) (at_ : Nat) (c3 : C) (x7 x8 x9 x10 x11 x12 x13 : Option C), k + m ≤ N → (c3 = .dp (iL ds) ∨ c3 = .d true (iL ds)) → InvC pg acc at_ → acc.length + m ≤ N →
    ∃ (acc' : List Pc) (at' : Nat) (y3 y6 y7 y8 y9 y10 y11 y12 y13 : Option C), forD tg__law_change_1 lb__law_change_1 ((List.range' k m).map rI) [s0, some (.d false (L pg)), s2, some c3, some (.dp (L LL)), some (.own true (acc.map Pi)), some (.d true (.int at_)), x7, x8, x9, x10, x11, x12, x13] =
      some (.nx [s0, some (.d false (L pg)), s2, y3, some (.dp (L LL)), some (.own true (acc'.map Pi)), y6, y7, y8, y9, y10, y11, y12, y13]) ∧ InvC pg acc' at' ∧ acc'.length ≤ N
  | 0, k, acc, at_, c3, x7, x8, x9, x10, x11, x12, x13, _, _, hi, hl => ⟨acc, at_, _, _, _, _, _, _, _, _, _, rfl, hi, by omega⟩
  | m + 1, k, acc, at_, c3, x7, x8, x9, x10, x11, x12, x13, hk, h3, hi, hl => by
    obtain ⟨g, t, p, a, b, e1, hg, ht, hpp, ha, hb⟩ := dig5 hN hd k (by omega)
    have lb := lb_ch (pg := pg) (s0 := s0) (s2 := s2) (acc := acc) (at_ := at_) (g := g) (t := t) (p := p) (a := a) (b := b) (ds := ds) (k := (k : Int)) h3 (by omega) e1 ha hb hpp (by show _ < 16777216; omega) (x8 := x8) (x9 := x9) (x10 := x10) (x11 := x11) (x12 := x12) (x13 := x13)
    have tg : tg__law_change_1 (rI k) [s0, some (.d false (L pg)), s2, some c3, some (.dp (L LL)), some (.own true (acc.map Pi)), some (.d true (.int at_)), x7, x8, x9, x10, x11, x12, x13] =
        some [s0, some (.d false (L pg)), s2, some c3, some (.dp (L LL)), some (.own true (acc.map Pi)), some (.d true (.int at_)), some (.d true (.int k)), x8, x9, x10, x11, x12, x13] := by
      simp [tg__law_change_1, nameT, rI]
    rw [List.range'_succ, List.map_cons]
    by_cases hc : at_ + g + t ≤ pg.length ∧ 0 < t + p
    · rw [if_pos hc] at lb
      have hi2 := hi.snoc hp hc.1 hc.2 ht hpp ha hb
      obtain ⟨acc', at', y3, y6, y7, y8, y9, y10, y11, y12, y13, ih, q1, q2⟩ := fr_ch hp hN hd (s0 := s0) (s2 := s2) m (k + 1) _ (at_ + g + t + 1) (.d true (iL ds)) (some (.d true (.int k))) (some (.d true (.int g))) (some (.d true (.int t))) (some (.d true (.int p))) (some (.d true (.int a))) (some (.d true (.int b))) (some (.d true (.int (at_ + g : Nat)))) (by omega) (.inr rfl) hi2 (by rw [List.length_append, List.length_singleton]; omega)
      refine ⟨acc', at', y3, y6, y7, y8, y9, y10, y11, y12, y13, ?_, q1, q2⟩
      rw [forD_nx tg lb, ← ih]
      congr 8
    · rw [if_neg hc] at lb
      obtain ⟨acc', at', y3, y6, y7, y8, y9, y10, y11, y12, y13, ih, q1, q2⟩ := fr_ch hp hN hd (s0 := s0) (s2 := s2) m (k + 1) acc at_ (.d true (iL ds)) (some (.d true (.int k))) (some (.d true (.int g))) (some (.d true (.int t))) (some (.d true (.int p))) (some (.d true (.int a))) (some (.d true (.int b))) (some (.d true (.int (at_ + g : Nat)))) (by omega) (.inr rfl) hi (by omega)
      refine ⟨acc', at', y3, y6, y7, y8, y9, y10, y11, y12, y13, ?_, q1, q2⟩
      rw [forD_nx tg lb, ← ih]
theorem own_1 {m : Bool} {d : D} : ownC (m, [d]) = some (.own m [d]) := by
  show (if [d].length ≤ lim then some (C.own m [d]) else none) = _
  rw [if_pos (by show 1 ≤ 16777216; omega)]
theorem own_5 {m : Bool} {a b c d e : D} : ownC (m, [a, b, c, d, e]) = some (.own m [a, b, c, d, e]) := by
  show (if [a, b, c, d, e].length ≤ lim then some (C.own m [a, b, c, d, e]) else none) = _
  rw [if_pos (by show 5 ≤ 16777216; omega)]
theorem mul_3 : mulC (true, .lst [.int 4, .int 3, .int 3, .int 12, .int 12]) (true, .int 3) = some (.own true (((BN 3).drop 1).map .int)) := by
  simp only [mulC]
  rw [if_pos (by decide)]
  rfl
theorem add_3 : addC (true, .lst [.int 4]) (true, .lst (((BN 3).drop 1).map .int)) = some (.own true ((BN 3).map .int)) := by
  simp only [addC]
  rw [if_pos (by decide)]
  rfl
theorem mul_4 : mulC (true, .lst [.int 4, .int 3, .int 3, .int 12, .int 12]) (true, .int 4) = some (.own true (((BN 4).drop 1).map .int)) := by
  simp only [mulC]
  rw [if_pos (by decide)]
  rfl
theorem add_4 : addC (true, .lst [.int 5]) (true, .lst (((BN 4).drop 1).map .int)) = some (.own true ((BN 4).map .int)) := by
  simp only [addC]
  rw [if_pos (by decide)]
  rfl
theorem mul_5 : mulC (true, .lst [.int 4, .int 3, .int 3, .int 12, .int 12]) (true, .int 5) = some (.own true (((BN 5).drop 1).map .int)) := by
  simp only [mulC]
  rw [if_pos (by decide)]
  rfl
theorem add_5 : addC (true, .lst [.int 6]) (true, .lst (((BN 5).drop 1).map .int)) = some (.own true ((BN 5).map .int)) := by
  simp only [addC]
  rw [if_pos (by decide)]
  rfl
theorem ch_s1 {z n : Int} {pg : List Str} {Y Z : List D} {ds : List Int} (mul5 : mulC (true, .lst [.int 4, .int 3, .int 3, .int 12, .int 12]) (true, .int n) = some (.own true Y)) (add6 : addC (true, .lst [.int (n + 1)]) (true, .lst Y) = some (.own true Z)) (e1' : φ__law_numbers [.int z, .lst Z] = some (.ok true (iL ds))) :
    setF 3 (callC φ__law_numbers (consA (vE 0) (consA (mp (bi (mp (un1 (consA (mp (bi (vE 2) (fun _ => some (true, D.int 1)) addC) frz) nilA) ownC) frz) (mp (bi (mp (un1 (consA (fun _ => some (true, D.int 4)) (consA (fun _ => some (true, D.int 3)) (consA (fun _ => some (true, D.int 3)) (consA (fun _ => some (true, D.int 12)) (consA (fun _ => some (true, D.int 12)) nilA))))) ownC) frz) (vE 2) mulC) frz) addC) frz) nilA)))
      [some (.d true (.int z)), some (.d false (L pg)), some (.d true (.int n)), none, none, none, none, none, none, none, none, none, none, none] = some (.nx [some (.d true (.int z)), some (.d false (L pg)), some (.d true (.int n)), some (.dp (iL ds)), none, none, none, none, none, none, none, none, none, none]) := by
  have add1 : addC (true, .int n) (true, .int 1) = some (.d true (.int (n + 1))) := rfl
  simp [setF, callC, consA, vE, cellD, bi, mp, frz, un1, own_1, own_5, nilA, add1, mul5, add6, e1', resC]
theorem Dg.head {ds bs : List Int} {b : Int} (h : Dg ds (b :: bs)) : ∃ d, ds[0]? = some d ∧ 0 ≤ d ∧ d < b := by
  cases h with | cons h t => exact ⟨_, rfl, h.1, h.2⟩
theorem φ_ch {pg : List Str} {N : Nat} (h5 : N = 3 ∨ N = 4 ∨ N = 5) (z : Int) (hp : Ln pg) : ∃ c, φ__law_change [.int z, L pg, .int (N : Int)] = some (.ok true (Ch c)) ∧ Sm5 pg c ∧ c.length ≤ N := by
  have hN : N ≤ 5 := by omega
  obtain ⟨ds, e1, hd⟩ := φ_nu z (BN N) (BN_bd N hN) (by have := BN_len N hN; have l3 : lim = 16777216 := rfl; omega)
  obtain ⟨d0, g0, h0, h1⟩ := Dg.head hd
  have i0 : itemC (some (some (.dp (iL ds)))) (.int 0) = some (true, .int d0) := itemC_iLp (k := 0) g0
  obtain ⟨c, at', y3, y6, y7, y8, y9, y10, y11, y12, y13, e, q1, q2⟩ := fr_ch hp hN hd (s0 := some (.d true (.int z))) (s2 := some (.d true (.int N))) d0.toNat 0 [] 0 (.dp (iL ds)) none none none none none none none (by omega) (.inl rfl) ⟨trivial, (by simp), (fun _ h => nomatch h), (by simp), (by simp), (by simp)⟩ (by simp; omega)
  refine ⟨c, phi_rt (n := 14) (g := g__law_change) ?_, ⟨q1.ap, q1.fit, q1.ln, q1.ne, q1.bd, by omega⟩, q2⟩
  have st : startD 14 [.int z, L pg, .int N] = [some (.d true (.int z)), some (.d false (L pg)), some (.d true (.int N)), none, none, none, none, none, none, none, none, none, none, none] := rfl
  have e1' : φ__law_numbers [.int z, .lst ((BN N).map .int)] = some (.ok true (iL ds)) := e1
  have mul5 : mulC (true, .lst [.int 4, .int 3, .int 3, .int 12, .int 12]) (true, .int N) = some (.own true (((BN N).drop 1).map .int)) := by
    rcases h5 with rfl | rfl | rfl
    · exact mul_3
    · exact mul_4
    · exact mul_5
  have add6 : addC (true, .lst [.int ((N : Int) + 1)]) (true, .lst (((BN N).drop 1).map .int)) = some (.own true ((BN N).map .int)) := by
    rcases h5 with rfl | rfl | rfl
    · exact add_3
    · exact add_4
    · exact add_5
  generalize ((BN N).drop 1).map D.int = Y at mul5 add6
  generalize (BN N).map D.int = Z at e1' add6
  have add1 : addC (true, .int N) (true, .int 1) = some (.d true (.int ((N : Int) + 1))) := rfl
  clear hd
  rw [st]
  unfold g__law_change
  have rg : rng1 (true, [.int d0]) = some ((List.range' 0 d0.toNat).map rI) := by
    show (if in62 d0 = true then some (rngItems 0 d0.toNat) else none) = _
    rw [if_pos (by unfold in62; rw [Bool.and_eq_true, decide_eq_true_eq, decide_eq_true_eq]; omega)]
    unfold rngItems
    rw [List.range_eq_range']
    rfl
  have ru : un1 (consA (xvE 3 fun _ => some (true, D.int 0)) nilA) rng1 [some (.d true (.int z)), some (.d false (L pg)), some (.d true (.int N)), some (.dp (iL ds)), some (.dp (L LL)), some (.own true []), some (.d true (.int 0)), none, none, none, none, none, none, none] = some ((List.range' 0 d0.toNat).map rI) := by
    simp [un1, consA, xvE, i0, nilA, rg]
  refine (seqF_nx (τ' := [some (.d true (.int z)), some (.d false (L pg)), some (.d true (.int N)), some (.dp (iL ds)), none, none, none, none, none, none, none, none, none, none]) ?_).trans
    ((seqF_nx (τ' := [some (.d true (.int z)), some (.d false (L pg)), some (.d true (.int N)), some (.dp (iL ds)), some (.dp (L LL)), none, none, none, none, none, none, none, none, none]) ?_).trans
    ((seqF_nx (τ' := [some (.d true (.int z)), some (.d false (L pg)), some (.d true (.int N)), some (.dp (iL ds)), some (.dp (L LL)), some (.own true []), none, none, none, none, none, none, none, none]) ?_).trans
    ((seqF_nx (τ' := [some (.d true (.int z)), some (.d false (L pg)), some (.d true (.int N)), some (.dp (iL ds)), some (.dp (L LL)), some (.own true []), some (.d true (.int 0)), none, none, none, none, none, none, none]) ?_).trans
    ((seqF_nx (τ' := _) (by unfold forF; rw [ru]; exact e)).trans ?_))))
  · exact ch_s1 mul5 add6 e1'
  · simp [setF, callC, nilA, φ_li, resC]
  · simp [setF, un1, nilA, ownC]
  · simp [setF, mp, dC]
  · simp [fzF, fzs, fz, frz, retF, vE, cellD]
    rfl
end K05
end
section
set_option Elab.async false
set_option linter.all false
set_option maxRecDepth 100000
set_option maxHeartbeats 4000000
namespace K05
open PySem Dl
/-! ### the law's other page -/
theorem hasK_app {ks : List L2.Key} {k j : L2.Key} : hasK (ks ++ [k]) j = (hasK ks j || decide (k = j)) := by
  unfold hasK
  rw [List.any_append]
  simp
theorem hasK_of {ks : List L2.Key} {k j : L2.Key} (h : hasK ks k = true) (e : k = j) : hasK ks j = true := e ▸ h
def inR (lo n j : Int) : Bool := decide (lo ≤ j) && decide (j < lo + n)
theorem lb_o1 {s0 s1 s2 s3 s6 s7 s9 s10 : Option C} {ks : List L2.Key} {ds : List D} {f : Bool} {pl k : Int} (hl : ks.length < lim) :
    ∃ ks' ds', lb__law_other_page_1 [s0, s1, s2, s3, some (.dic true ks ds), some (.d f (.int pl)), s6, s7, some (.d true (.int k)), s9, s10] = some (.nx [s0, s1, s2, s3, some (.dic true ks' ds'), some (.d f (.int pl)), s6, s7, some (.d true (.int k)), s9, s10]) ∧
      (∀ j : Int, hasK ks' (.inl j) = (hasK ks (.inl j) || decide (pl + k = j))) ∧ ks'.length ≤ ks.length + 1 := by
  by_cases h : hasK ks (.inl (pl + k)) = true
  · refine ⟨ks, updL ks ds (.inl (pl + k)) (.bl true), ?_, fun j => ?_, by omega⟩
    · simp [lb__law_other_page_1, dputF, mp, bi, vE, cellD, addC, frz, keyD, hl, h]
    · by_cases e : pl + k = j
      · rw [← e, h]; rfl
      · rw [decide_eq_false e, Bool.or_false]
  · refine ⟨ks ++ [.inl (pl + k)], ds ++ [.bl true], ?_, fun j => ?_, by rw [List.length_append]; exact Nat.le_refl _⟩
    · simp [lb__law_other_page_1, dputF, mp, bi, vE, cellD, addC, frz, keyD, hl, h]
    · rw [hasK_app]
      congr 1
      by_cases e : pl + k = j
      · rw [e]; simp
      · rw [decide_eq_false e, decide_eq_false]
        exact fun z => e (Sum.inl.inj z)
theorem fr_o1 {s0 s1 s2 s3 s6 s7 s9 s10 : Option C} {f : Bool} {pl : Int} : ∀ (m k : Nat) (ks : List L2.Key) (ds : List D) (x8 : Option C), ks.length + m ≤ 1000 →
    ∃ ks' ds' y8, forD tg__law_other_page_1 lb__law_other_page_1 ((List.range' k m).map rI) [s0, s1, s2, s3, some (.dic true ks ds), some (.d f (.int pl)), s6, s7, x8, s9, s10] = some (.nx [s0, s1, s2, s3, some (.dic true ks' ds'), some (.d f (.int pl)), s6, s7, y8, s9, s10]) ∧
      (∀ j : Int, hasK ks' (.inl j) = (hasK ks (.inl j) || inR (pl + k) m j)) ∧ ks'.length ≤ ks.length + m
  | 0, k, ks, ds, x8, _ => ⟨ks, ds, x8, rfl, fun j => by
      have : inR (pl + (k : Int)) ((0 : Nat) : Int) j = false := by
        unfold inR
        by_cases h : pl + (k : Int) ≤ j
        · rw [decide_eq_false (p := j < _) (by omega), Bool.and_false]
        · rw [decide_eq_false h]; rfl
      rw [this, Bool.or_false], by omega⟩
  | m + 1, k, ks, ds, x8, hl => by
    obtain ⟨ks1, ds1, e1, e2, e3⟩ := lb_o1 (s0 := s0) (s1 := s1) (s2 := s2) (s3 := s3) (s6 := s6) (s7 := s7) (s9 := s9) (s10 := s10) (ks := ks) (ds := ds) (f := f) (pl := pl) (k := 0 + (k : Int)) (by show _ < 16777216; omega)
    obtain ⟨ks', ds', y8, i1, i2, i3⟩ := fr_o1 (s0 := s0) (s1 := s1) (s2 := s2) (s3 := s3) (s6 := s6) (s7 := s7) (s9 := s9) (s10 := s10) (f := f) (pl := pl) m (k + 1) ks1 ds1 (some (.d true (.int (0 + (k : Int))))) (by omega)
    refine ⟨ks', ds', y8, ?_, fun j => ?_, by omega⟩
    · rw [List.range'_succ, List.map_cons, forD_nx (τ1 := [s0, s1, s2, s3, some (.dic true ks ds), some (.d f (.int pl)), s6, s7, some (.d true (.int (0 + (k : Int)))), s9, s10]) rfl e1, i1]
    · rw [i2, e2, Bool.or_assoc]
      congr 1
      unfold inR
      by_cases h : pl + (k : Int) = j
      · rw [decide_eq_true (p := pl + (0 + (k : Int)) = j) (by omega), decide_eq_true (p := pl + (k : Int) ≤ j) (by omega), decide_eq_true (p := j < pl + (k : Int) + ((m + 1 : Nat) : Int)) (by omega)]
        rfl
      · rw [decide_eq_false (p := pl + (0 + (k : Int)) = j) (by omega), Bool.false_or]
        congr 1
        · exact decide_eq_decide.mpr (by omega)
        · exact decide_eq_decide.mpr (by omega)
theorem tgPi {m : Bool} {p : Pc} {τ : DS} {i j k : Nat} : tupT (consT (nameT i) (consT (nameT j) (consT (nameT k) nilT))) (m, Pi p) τ =
    some (((τ.set i (some (.d true (.int p.1)))).set j (some (.d m (L p.2.1)))).set k (some (.d m (L p.2.2)))) := by
  simp [Pi, tupT, consT, nameT, nilT, flag_cons, flag_nil, scal_int, scal_L]
theorem rng_L {m : Bool} {n : Nat} (h : n ≤ 1000) : rng1 (m, [.int (n : Int)]) = some ((List.range' 0 n).map rI) := by
  show (if in62 (n : Int) = true then some (rngItems 0 (n : Int).toNat) else none) = _
  rw [if_pos (by unfold in62; rw [Bool.and_eq_true, decide_eq_true_eq, decide_eq_true_eq]; omega)]
  unfold rngItems
  rw [List.range_eq_range']
  rfl
def inC (c : List Pc) (j : Int) : Bool := c.any fun p => inR p.1 p.2.1.length j
theorem un1_of {α β : Type} {f : DS → Option α} {op : α → Option β} {τ : DS} {x : α} {z : Option β} (h : f τ = some x) (k : op x = z) : un1 f op τ = z := by unfold un1; rw [h]; exact k
theorem ru_o2 {s0 s1 s2 s3 s4 s5 s7 s8 s9 s10 : Option C} {m : Bool} {ls : List Str} (h : ls.length ≤ 1000) : un1 (consA (un1 (vB 6) lenD) nilA) rng1 [s0, s1, s2, s3, s4, s5, some (.d m (L ls)), s7, s8, s9, s10] = some ((List.range' 0 ls.length).map rI) := by
  have e : un1 (vB 6) lenD [s0, s1, s2, s3, s4, s5, some (.d m (L ls)), s7, s8, s9, s10] = some (true, .int (ls.length : Int)) := by
    unfold un1 vB
    rw [show ([s0, s1, s2, s3, s4, s5, some (.d m (L ls)), s7, s8, s9, s10] : DS)[6]? = some (some (.d m (L ls))) from rfl]
    exact lenD_L
  have e2 : consA (un1 (vB 6) lenD) nilA [s0, s1, s2, s3, s4, s5, some (.d m (L ls)), s7, s8, s9, s10] = some (true, [.int (ls.length : Int)]) := by
    unfold consA
    rw [e]
    rfl
  exact un1_of e2 (rng_L h)
theorem fr_o2 {s0 s1 s2 s3 s9 s10 : Option C} {m : Bool} : ∀ (c : List Pc) (ks : List L2.Key) (ds : List D) (x5 x6 x7 x8 : Option C), (∀ p ∈ c, p.2.1.length ≤ 2) → ks.length + 2 * c.length ≤ 100 →
    ∃ ks' ds' y5 y6 y7 y8, forD tg__law_other_page_2 lb__law_other_page_2 (flag m (c.map Pi)) [s0, s1, s2, s3, some (.dic true ks ds), x5, x6, x7, x8, s9, s10] = some (.nx [s0, s1, s2, s3, some (.dic true ks' ds'), y5, y6, y7, y8, s9, s10]) ∧
      (∀ j : Int, hasK ks' (.inl j) = (hasK ks (.inl j) || inC c j))
  | [], ks, ds, x5, x6, x7, x8, _, _ => ⟨ks, ds, x5, x6, x7, x8, rfl, fun j => by show _ = (hasK ks (.inl j) || false); rw [Bool.or_false]⟩
  | p :: c, ks, ds, x5, x6, x7, x8, hb, hl => by
    rw [List.length_cons] at hl
    have hp := hb p (List.mem_cons_self ..)
    obtain ⟨ks1, ds1, y8, e1, e2, e3⟩ := fr_o1 (s0 := s0) (s1 := s1) (s2 := s2) (s3 := s3) (s6 := some (.d m (L p.2.1))) (s7 := some (.d m (L p.2.2))) (s9 := s9) (s10 := s10) (f := true) (pl := p.1) p.2.1.length 0 ks ds x8 (by omega)
    obtain ⟨ks', ds', y5, y6, y7, y8', i1, i2⟩ := fr_o2 (s0 := s0) (s1 := s1) (s2 := s2) (s3 := s3) (s9 := s9) (s10 := s10) (m := m) c ks1 ds1 (some (.d true (.int p.1))) (some (.d m (L p.2.1))) (some (.d m (L p.2.2))) y8 (fun q hq => hb q (List.mem_cons_of_mem _ hq)) (by omega)
    refine ⟨ks', ds', y5, y6, y7, y8', ?_, fun j => ?_⟩
    · rw [List.map_cons, flag_cons, scal_Pi, Bool.or_false, forD_nx (τ1 := [s0, s1, s2, s3, some (.dic true ks ds), some (.d true (.int p.1)), some (.d m (L p.2.1)), some (.d m (L p.2.2)), x8, s9, s10]) ?_ ?_, i1]
      · unfold tg__law_other_page_2
        rw [tgPi]
        rfl
      · unfold lb__law_other_page_2 forF
        rw [ru_o2 (by omega)]
        exact e1
    · rw [i2, e2, Bool.or_assoc]
      congr 1
      show _ = (inR p.1 p.2.1.length j || inC c j)
      rw [show p.1 + ((0 : Nat) : Int) = p.1 by omega]
def othAt (z : Int) (i : Nat) : Str := lnAt ((z + 31 * (i : Int)) * 48271 % 1009 % 12)
def fndAt (pg : List Str) (c : List Pc) (z : Int) (i : Nat) : Str := if inC c (i : Int) = true then pg.getD i "" else othAt z i
theorem lb_o3 {pg : List Str} {c : List Pc} {z : Int} {i : Nat} {ks : List L2.Key} {ds : List D} {s1 s5 s6 s7 x10 : Option C} {acc : List Str} (hk : ∀ j : Int, hasK ks (.inl j) = inC c j) (hi : i < pg.length) (hl : acc.length < lim) :
    lb__law_other_page_3 [some (.d false (L pg)), s1, some (.d true (.int z)), some (.dp (L LL)), some (.dic true ks ds), s5, s6, s7, some (.d true (.int (0 + (i : Int)))), some (.own true (acc.map .str)), x10] =
      some (.nx [some (.d false (L pg)), s1, some (.d true (.int z)), some (.dp (L LL)), some (.dic true ks ds), s5, s6, s7, some (.d true (.int (0 + (i : Int)))), some (.own true ((acc ++ [fndAt pg c z i]).map .str)), some (.d true (.str (othAt z i)))]) := by
  have r0 := Int.emod_nonneg ((z + 31 * (i : Int)) * 48271 % 1009) (b := 12) (by decide)
  have r1 := Int.emod_lt_of_pos ((z + 31 * (i : Int)) * 48271 % 1009) (b := 12) (by decide)
  have hl2 : acc.length < 16777216 := hl
  have y := itemC_LL r0 r1
  have m31 : ∀ m : Bool, mulC (m, .int 31) (true, .int (i : Int)) = some (.d true (.int (31 * (i : Int)))) := fun m => by
    have h5 : sm64 31 (i : Int) = true := by unfold sm64; rw [Bool.or_eq_true]; exact .inl (by decide)
    simp only [mulC]
    rw [if_pos h5]
  have m48 : ∀ (a : Int), mulC (true, .int a) (true, .int 48271) = some (.d true (.int (a * 48271))) := fun a => by
    simp only [mulC]
    rw [if_pos (sm64_r (by decide) (by decide))]
  have hx : itemC (some (some (.d false (L pg)))) (.int (i : Int)) = some (true, .str (pg.getD i "")) := by
    have e : pg[i]? = some (pg.getD i "") := by rw [List.getD_eq_getElem?_getD, List.getElem?_eq_getElem hi]; rfl
    exact itemE_L e
  rw [Int.zero_add]
  unfold lb__law_other_page_3
  refine (seqF_nx (τ' := [some (.d false (L pg)), s1, some (.d true (.int z)), some (.dp (L LL)), some (.dic true ks ds), s5, s6, s7, some (.d true (.int (i : Int))), some (.own true (acc.map .str)), some (.d true (.str (othAt z i)))]) ?_).trans ?_
  · simp [setF, mp, xvE, modF, bi, vE, cellD, addC, frz, m31, m48, oI, y, dC, othAt]
  · by_cases h : inC c (i : Int) = true
    · simp [ownF, consA, ifF, dinF, vE, cellD, keyD, hk, h, xvE, hx, nilA, appOp, hl2, lim, fndAt]
    · rw [Bool.not_eq_true] at h
      simp [ownF, consA, ifF, dinF, vE, cellD, keyD, hk, h, xvE, hx, nilA, appOp, hl2, lim, fndAt]
theorem fr_o3 {pg : List Str} {c : List Pc} {z : Int} {ks : List L2.Key} {ds : List D} {s1 s5 s6 s7 : Option C} (hk : ∀ j : Int, hasK ks (.inl j) = inC c j) : ∀ (m k : Nat) (acc : List Str) (x8 x10 : Option C), k + m ≤ pg.length → acc.length + m ≤ 1000 →
    ∃ y8 y10, forD tg__law_other_page_3 lb__law_other_page_3 ((List.range' k m).map rI) [some (.d false (L pg)), s1, some (.d true (.int z)), some (.dp (L LL)), some (.dic true ks ds), s5, s6, s7, x8, some (.own true (acc.map .str)), x10] =
      some (.nx [some (.d false (L pg)), s1, some (.d true (.int z)), some (.dp (L LL)), some (.dic true ks ds), s5, s6, s7, y8, some (.own true ((acc ++ (List.range' k m).map (fndAt pg c z)).map .str)), y10])
  | 0, k, acc, x8, x10, _, _ => ⟨x8, x10, by simp [forD_nil]⟩
  | m + 1, k, acc, x8, x10, h1, h2 => by
    obtain ⟨y8, y10, ih⟩ := fr_o3 (pg := pg) (c := c) (z := z) (ks := ks) (ds := ds) (s1 := s1) (s5 := s5) (s6 := s6) (s7 := s7) hk m (k + 1) (acc ++ [fndAt pg c z k]) (some (.d true (.int (0 + (k : Int))))) (some (.d true (.str (othAt z k)))) (by omega) (by rw [List.length_append, List.length_singleton]; omega)
    refine ⟨y8, y10, ?_⟩
    rw [List.range'_succ, List.map_cons, forD_nx (τ1 := [some (.d false (L pg)), s1, some (.d true (.int z)), some (.dp (L LL)), some (.dic true ks ds), s5, s6, s7, some (.d true (.int (0 + (k : Int)))), some (.own true (acc.map .str)), x10]) rfl (lb_o3 hk (by omega) (by show _ < 16777216; omega)), ih]
    simp
theorem fitAt_of {pg : List Str} {n : Nat} {ta pu : List Str} (hl : n + ta.length ≤ pg.length) (h : ∀ i, i < ta.length → pg[n + i]? = ta[i]?) : FitAt pg ((n : Int), ta, pu) := by
  refine ⟨pg.take n, (pg.drop n).drop ta.length, ?_, by show (n : Int) = _; rw [List.length_take]; omega⟩
  have e : (pg.drop n).take ta.length = ta := List.ext_getElem? fun i => by
    by_cases hi : i < ta.length
    · rw [List.getElem?_take_of_lt hi, List.getElem?_drop]; exact h i hi
    · rw [List.getElem?_eq_none (by rw [List.length_take]; omega), List.getElem?_eq_none (by omega)]
  show pg = pg.take n ++ (ta ++ (pg.drop n).drop ta.length)
  rw [show ta ++ (pg.drop n).drop ta.length = pg.drop n by
    have := List.take_append_drop ta.length (pg.drop n)
    rw [e] at this
    exact this, List.take_append_drop]
theorem φ_op {pg : List Str} {c : List Pc} (z : Int) (hp : Ln pg) (hl : pg.length ≤ 12) (hc : Sm5 pg c) : ∃ pg2, φ__law_other_page [L pg, Ch c, .int z] = some (.ok true (L pg2)) ∧ Ln pg2 ∧ pg2.length ≤ 14 ∧ ∀ p ∈ c, FitAt pg2 p := by
  have ct := hc.ct
  obtain ⟨ks, ds, y5, y6, y7, y8, e1, e2⟩ := fr_o2 (s0 := some (.d false (L pg))) (s1 := some (.d false (Ch c))) (s2 := some (.d true (.int z))) (s3 := some (.dp (L LL))) (s9 := none) (s10 := none) (m := false) c [] [] none none none none (fun p hp => (hc.bd p hp).1) (by simp; omega)
  have hk : ∀ j : Int, hasK ks (.inl j) = inC c j := fun j => by rw [e2]; rfl
  obtain ⟨w8, w10, e3⟩ := fr_o3 (pg := pg) (c := c) (z := z) (ks := ks) (ds := ds) (s1 := some (.d false (Ch c))) (s5 := y5) (s6 := y6) (s7 := y7) hk pg.length 0 [] y8 none (by omega) (by simp; omega)
  have r0 := Int.emod_nonneg z (b := 3) (by decide)
  have r1 := Int.emod_lt_of_pos z (b := 3) (by decide)
  have q0 := Int.emod_nonneg (z / 7) (b := 12) (by decide)
  have q1 := Int.emod_lt_of_pos (z / 7) (b := 12) (by decide)
  have fl : ((List.range' 0 pg.length).map (fndAt pg c z)).length = pg.length := by rw [List.length_map, List.length_range']
  generalize hf : (List.range' 0 pg.length).map (fndAt pg c z) = fd at e3 fl
  have fget : ∀ i, i < pg.length → fd[i]? = some (fndAt pg c z i) := fun i hi => by
    rw [← hf, List.getElem?_map, List.getElem?_range' hi]
    simp
  have mul : mulC (true, .lst [.str (lnAt (z / 7 % 12))]) (true, .int (z % 3)) = some (.own true (List.replicate (z % 3).toNat (.str (lnAt (z / 7 % 12))))) := by
    simp only [mulC]
    rw [if_pos ?_, List.flatten_replicate_singleton]
    simp only [Bool.and_eq_true, decide_eq_true_eq]
    refine ⟨⟨by omega, by omega⟩, ?_⟩
    show 1 * (z % 3).toNat ≤ 16777216
    omega
  have add : addC (true, .lst (fd.map .str)) (true, .lst (List.replicate (z % 3).toNat (.str (lnAt (z / 7 % 12))))) = some (.own true ((fd ++ List.replicate (z % 3).toNat (lnAt (z / 7 % 12))).map .str)) := by
    simp only [addC]
    rw [if_pos (by rw [List.length_map, List.length_replicate]; show _ ≤ 16777216; omega), List.map_append, List.map_replicate]
    rfl
  refine ⟨fd ++ List.replicate (z % 3).toNat (lnAt (z / 7 % 12)), phi_rt (n := 11) (g := g__law_other_page) ?_, fun x hx => ?_, by rw [List.length_append, List.length_replicate]; omega, fun p hpc => ?_⟩
  · have st : startD 11 [L pg, Ch c, .int z] = [some (.d false (L pg)), some (.d false (Ch c)), some (.d true (.int z)), none, none, none, none, none, none, none, none] := rfl
    rw [st]
    unfold g__law_other_page
    have ru : un1 (consA (un1 (vB 0) lenD) nilA) rng1 [some (.d false (L pg)), some (.d false (Ch c)), some (.d true (.int z)), some (.dp (L LL)), some (.dic true ks ds), y5, y6, y7, y8, some (.own true []), none] = some ((List.range' 0 pg.length).map rI) := by
      have e : un1 (vB 0) lenD [some (.d false (L pg)), some (.d false (Ch c)), some (.d true (.int z)), some (.dp (L LL)), some (.dic true ks ds), y5, y6, y7, y8, some (.own true []), none] = some (true, .int (pg.length : Int)) := un1_of (x := L pg) rfl lenD_L
      have e2 : consA (un1 (vB 0) lenD) nilA [some (.d false (L pg)), some (.d false (Ch c)), some (.d true (.int z)), some (.dp (L LL)), some (.dic true ks ds), y5, y6, y7, y8, some (.own true []), none] = some (true, [.int (pg.length : Int)]) := by
        unfold consA
        rw [e]
        rfl
      exact un1_of e2 (rng_L (by omega))
    have rc : un1 (vE 1) itemsE [some (.d false (L pg)), some (.d false (Ch c)), some (.d true (.int z)), some (.dp (L LL)), some (.dic true [] []), none, none, none, none, none, none] = some (flag false (c.map Pi)) := un1_of (x := (false, Ch c)) rfl itemsE_Ch
    have yl := itemC_LL q0 q1
    refine (seqF_nx (τ' := [some (.d false (L pg)), some (.d false (Ch c)), some (.d true (.int z)), some (.dp (L LL)), none, none, none, none, none, none, none]) ?_).trans
      ((seqF_nx (τ' := [some (.d false (L pg)), some (.d false (Ch c)), some (.d true (.int z)), some (.dp (L LL)), some (.dic true [] []), none, none, none, none, none, none]) ?_).trans
      ((seqF_nx (τ' := _) (by unfold forF; rw [rc]; exact e1)).trans
      ((seqF_nx (τ' := [some (.d false (L pg)), some (.d false (Ch c)), some (.d true (.int z)), some (.dp (L LL)), some (.dic true ks ds), y5, y6, y7, y8, some (.own true []), none]) ?_).trans
      ((seqF_nx (τ' := _) (by unfold forF; rw [ru]; exact e3)).trans ?_))))
    · simp [setF, callC, nilA, φ_li, resC]
    · simp [setF, dnewF]
    · simp [setF, un1, nilA, ownC]
    · simp [fzF, fzs, fz, frz, retF, mp, bi, vE, cellD, un1, consA, xvE, modF, fdivF, oI, vB, cellB, yl, nilA, ownC, lim, mul, add]
      simp [L]
  · rcases List.mem_append.mp hx with w | w
    · rw [← hf] at w
      obtain ⟨i, hi, rfl⟩ := List.mem_map.mp w
      unfold fndAt
      split
      · have : i < pg.length := by
          rw [List.mem_range'_1] at hi
          omega
        rw [List.getD_eq_getElem?_getD, List.getElem?_eq_getElem this]
        exact hp _ (List.getElem_mem this)
      · exact lnAt_in (Int.emod_nonneg _ (by decide)) (Int.emod_lt_of_pos _ (by decide))
    · rw [(List.mem_replicate.mp w).2]
      exact lnAt_in q0 q1
  · obtain ⟨pl, ta, pu⟩ := p
    obtain ⟨g, r, f1, f2⟩ := hc.fit _ hpc
    dsimp only at f1 f2
    rw [f2]
    have gl : g.length + ta.length ≤ pg.length := by rw [f1, List.length_append, List.length_append]; omega
    refine fitAt_of (by rw [List.length_append]; omega) fun i hi => ?_
    rw [List.getElem?_append_left (by omega), fget _ (by omega)]
    have ic : inC c ((g.length + i : Nat) : Int) = true := by
      unfold inC
      rw [List.any_eq_true]
      refine ⟨_, hpc, ?_⟩
      unfold inR
      rw [Bool.and_eq_true, decide_eq_true_eq, decide_eq_true_eq]
      dsimp only
      omega
    unfold fndAt
    rw [if_pos ic, List.getD_eq_getElem?_getD]
    have : pg[g.length + i]? = ta[i]? := by
      rw [f1, List.getElem?_append_right (by omega), List.getElem?_append_left (by omega)]
      congr 1
      try omega
    rw [this, List.getElem?_eq_getElem hi]
    rfl
end K05
end
section
set_option Elab.async false
set_option linter.all false
set_option maxRecDepth 100000
set_option maxHeartbeats 4000000
namespace K05
open PySem Dl
/-! ### meet, growth, moved -/
theorem forD_rt {t : TgD} {gb : FS} {p : Bool × D} {ps : List (Bool × D)} {τ τ1 : DS} {n : Bool} {d : D} (h : t p τ = some τ1) (k : gb τ1 = some (.rt n d)) : forD t gb (p :: ps) τ = some (.rt n d) := by
  rw [forD, h]
  show (gb τ1).bind _ = _
  rw [k]
  rfl
def meetB (p q : Pc) : Bool := decide (p.1 ≤ q.1 + q.2.1.length) && decide (q.1 ≤ p.1 + p.2.1.length)
theorem φ_mt (p q : Pc) : φ__meet [Pi p, Pi q] = some (.ok true (.bl (meetB p q))) := by
  refine phi_rt (n := 2) (g := g__meet) ?_
  have st : startD 2 [Pi p, Pi q] = [some (.d false (Pi p)), some (.d false (Pi q))] := rfl
  rw [st]
  by_cases h : p.1 ≤ q.1 + (q.2.1.length : Int)
  · simp [g__meet, retF, andE, blE, bi, mp, vB, cellB, itemB_Pi0, callC, consA, vE, cellD, nilA, φ_end, resC, frz, cI, le2, meetB, h]
  · simp [g__meet, retF, andE, blE, bi, mp, vB, cellB, itemB_Pi0, callC, consA, vE, cellD, nilA, φ_end, resC, frz, cI, le2, meetB, h]
theorem φ_gr (p : Pc) : φ_growth_of [Pi p] = some (.ok true (.int ((p.2.2.length : Int) - (p.2.1.length : Int)))) := by
  refine phi_rt (n := 1) (g := g_growth_of) ?_
  have st : startD 1 [Pi p] = [some (.d false (Pi p))] := rfl
  rw [st]
  simp [g_growth_of, retF, subF, oI, yes2, bi, mp, vB, cellB, frz, itemB_Pi1, itemB_Pi2, un1, lenD_L]
def ga (n : Int) : List Pc → Int
  | [] => 0
  | p :: c => (if p.1 + (p.2.1.length : Int) ≤ n then (p.2.2.length : Int) - (p.2.1.length : Int) else 0) + ga n c
theorem el_ga {x : Option C} {m m2 : Bool} {n : Int} {p : Pc} : if_growth_ahead_1 [x, some (.d m (.int n)), some (.d m2 (Pi p))] = some (decide (p.1 + (p.2.1.length : Int) ≤ n)) ∧
    el_growth_ahead_1 [x, some (.d m (.int n)), some (.d m2 (Pi p))] = some (true, .int ((p.2.2.length : Int) - (p.2.1.length : Int))) := by
  constructor
  · simp [if_growth_ahead_1, bi, mp, callC, consA, vE, cellD, nilA, φ_end, resC, frz, vB, cellB, cI, le2]
  · simp [el_growth_ahead_1, mp, callC, consA, vE, cellD, nilA, φ_gr, resC, frz]
theorem sm_ga {x y : Option C} {m m2 : Bool} {n : Int} : ∀ (c : List Pc) (a : Int), sumD [2] tg_growth_ahead_1 if_growth_ahead_1 el_growth_ahead_1 [x, some (.d m (.int n)), y] a (flag m2 (c.map Pi)) = some (a + ga n c)
  | [], a => by show some a = some (a + 0); rw [Int.add_zero]
  | p :: c, a => by
    obtain ⟨e1, e2⟩ := el_ga (x := x) (m := m) (m2 := m2) (n := n) (p := p)
    have t1 : tg_growth_ahead_1 (m2, Pi p) (wD [x, some (.d m (.int n)), y] [2]) = some [x, some (.d m (.int n)), some (.d m2 (Pi p))] := rfl
    rw [List.map_cons, flag_cons, scal_Pi, Bool.or_false, sumD, t1, Option.bind_some, e1, Option.bind_some]
    by_cases h : p.1 + (p.2.1.length : Int) ≤ n
    · rw [decide_eq_true h, if_pos rfl, e2]
      show sumD _ _ _ _ _ (a + _) _ = _
      rw [sm_ga c, ga, if_pos h, Int.add_assoc]
    · rw [decide_eq_false h, if_neg Bool.false_ne_true, sm_ga c, ga, if_neg h, Int.zero_add]
theorem φ_ga (c : List Pc) (n : Int) : φ_growth_ahead [Ch c, .int n] = some (.ok true (.int (ga n c))) := by
  refine phi_rt (n := 3) (g := g_growth_ahead) ?_
  have st : startD 3 [Ch c, .int n] = [some (.d false (Ch c)), some (.d true (.int n)), none] := rfl
  have e := sm_ga (x := some (.d false (Ch c))) (y := none) (m := true) (m2 := false) (n := n) c 0
  rw [Int.zero_add] at e
  rw [st]
  simp [g_growth_ahead, retF, sumF, un1, vE, cellD, itemsE_Ch, e]
def mv (b : Int) (p : Pc) : Pc := (p.1 + b, p.2)
theorem φ_mv (p : Pc) (b : Int) : φ_moved [Pi p, .int b] = some (.ok true (Pi (mv b p))) := by
  refine phi_rt (n := 5) (g := g_moved) ?_
  have st : startD 5 [Pi p, .int b] = [some (.d false (Pi p)), some (.d true (.int b)), none, none, none] := rfl
  rw [st]
  simp [g_moved, seqF, unpF, unp3, vE, cellD, retF, un1, consA, mp, bi, addC, frz, listC_L, nilA, tupD, lim]
  rfl
/-! ### exchanged -/
theorem any_in {τ : DS} (hl : ∃ a b c d e f, τ = [a, b, c, d, e, f]) {m2 m : Bool} {p : Pc} (h4 : τ[4]? = some (some (.d m (Pi p)))) : ∀ (c : List Pc), anyD [5] tg_exchanged_2 (fun _ => some true) el_exchanged_1 τ (flag m2 (c.map Pi)) = some (c.any fun q => meetB p q)
  | [] => rfl
  | q :: c => by
    have ih := any_in hl h4 (m2 := m2) c
    obtain ⟨a, b, c', d, e, f, rfl⟩ := hl
    have h4 : e = some (.d m (Pi p)) := Option.some.inj h4
    subst h4
    have t1 : tg_exchanged_2 (m2, Pi q) (wD [a, b, c', d, some (.d m (Pi p)), f] [5]) = some [a, b, c', d, some (.d m (Pi p)), some (.d m2 (Pi q))] := rfl
    have e1 : el_exchanged_1 [a, b, c', d, some (.d m (Pi p)), some (.d m2 (Pi q))] = some (true, .bl (meetB p q)) := by
      simp [el_exchanged_1, mp, callC, consA, vE, cellD, nilA, φ_mt, resC, frz]
    rw [List.map_cons, flag_cons, scal_Pi, Bool.or_false, anyD, t1, Option.bind_some, Option.bind_some, if_pos rfl, e1, Option.bind_some]
    cases hm : meetB p q with
    | true => simp [hm]
    | false =>
      show anyD _ _ _ _ _ _ = _
      rw [ih]
      simp [hm]
theorem any_out {a b d e f : Option C} {m m2 : Bool} {back : List Pc} : ∀ (c : List Pc), anyD2 [4, 5] tg_exchanged_1 (fun _ => some true) (un1 (vE 2) itemsE) [5] tg_exchanged_2 (fun _ => some true) el_exchanged_1 [a, b, some (.d m (Ch back)), d, e, f] (flag m2 (c.map Pi)) = some (c.any fun p => back.any fun q => meetB p q)
  | [] => rfl
  | p :: c => by
    have ih := any_out (a := a) (b := b) (d := d) (e := e) (f := f) (m := m) (m2 := m2) (back := back) c
    have t1 : tg_exchanged_1 (m2, Pi p) (wD [a, b, some (.d m (Ch back)), d, e, f] [4, 5]) = some [a, b, some (.d m (Ch back)), d, some (.d m2 (Pi p)), none] := rfl
    have e1 : un1 (vE 2) itemsE [a, b, some (.d m (Ch back)), d, some (.d m2 (Pi p)), none] = some (flag m (back.map Pi)) := un1_of (x := (m, Ch back)) rfl itemsE_Ch
    have e2 := any_in (τ := [a, b, some (.d m (Ch back)), d, some (.d m2 (Pi p)), none]) ⟨_, _, _, _, _, _, rfl⟩ (m2 := m) (m := m2) (p := p) rfl back
    rw [List.map_cons, flag_cons, scal_Pi, Bool.or_false, anyD2, t1, Option.bind_some, Option.bind_some, if_pos rfl, e1, Option.bind_some, e2, Option.bind_some]
    cases hm : (back.any fun q => meetB p q) with
    | true => rw [if_pos rfl]; simp [hm]
    | false =>
      rw [if_neg Bool.false_ne_true, ih]
      simp [hm]
def anyMeet (other back : List Pc) : Bool := other.any fun p => back.any fun q => meetB p q
def mvs (ref : List Pc) (c : List Pc) : List Pc := c.map fun p => mv (ga p.1 ref) p
theorem lc_ah {a b d e f : Option C} {m : Bool} {back : List Pc} (c : List Pc) : lcD [4] tg_exchanged_3 (fun _ => some true) el_exchanged_2 [a, b, some (.d true (Ch back)), d, e, f] (flag m (c.map Pi)) = some (true, (mvs back c).map Pi) := by
  induction c with
  | nil => rfl
  | cons p c ih =>
    have t1 : tg_exchanged_3 (m, Pi p) (wD [a, b, some (.d true (Ch back)), d, e, f] [4]) = some [a, b, some (.d true (Ch back)), d, some (.d m (Pi p)), f] := rfl
    have x0 : xvE 4 (fun _ => some (true, D.int 0)) [a, b, some (.d true (Ch back)), d, some (.d m (Pi p)), f] = some (true, .int p.1) := by
      simp [xvE, itemC_Pi0]
    have e1 : el_exchanged_2 [a, b, some (.d true (Ch back)), d, some (.d m (Pi p)), f] = some (true, Pi (mv (ga p.1 back) p)) := by
      simp [el_exchanged_2, mp, callC, consA, vE, cellD, nilA, x0, φ_ga, φ_mv, resC, frz]
    rw [List.map_cons, flag_cons, scal_Pi, Bool.or_false, lcD, t1, Option.bind_some, Option.bind_some, if_pos rfl, e1, Option.bind_some, ih]
    rfl
theorem lc_be {a b d e f : Option C} {m : Bool} {ahead : List Pc} (c : List Pc) : lcD [4] tg_exchanged_4 (fun _ => some true) el_exchanged_3 [a, b, d, some (.d true (Ch ahead)), e, f] (flag m (c.map Pi)) = some (true, (mvs ahead c).map Pi) := by
  induction c with
  | nil => rfl
  | cons p c ih =>
    have t1 : tg_exchanged_4 (m, Pi p) (wD [a, b, d, some (.d true (Ch ahead)), e, f] [4]) = some [a, b, d, some (.d true (Ch ahead)), some (.d m (Pi p)), f] := rfl
    have x0 : xvE 4 (fun _ => some (true, D.int 0)) [a, b, d, some (.d true (Ch ahead)), some (.d m (Pi p)), f] = some (true, .int p.1) := by
      simp [xvE, itemC_Pi0]
    have e1 : el_exchanged_3 [a, b, d, some (.d true (Ch ahead)), some (.d m (Pi p)), f] = some (true, Pi (mv (ga p.1 ahead) p)) := by
      simp [el_exchanged_3, mp, callC, consA, vE, cellD, nilA, x0, φ_ga, φ_mv, resC, frz]
    rw [List.map_cons, flag_cons, scal_Pi, Bool.or_false, lcD, t1, Option.bind_some, Option.bind_some, if_pos rfl, e1, Option.bind_some, ih]
    rfl
theorem flag_len {m : Bool} {ds : List D} : (flag m ds).length = ds.length := by unfold flag; rw [List.length_map]
def exch (one other : List Pc) : List Pc × List Pc := (mvs (turn 0 one) other, mvs (mvs (turn 0 one) other) one)
def exD (one other : List Pc) : D := if anyMeet other (turn 0 one) = true then .non else .tup [Ch (exch one other).1, Ch (exch one other).2]
theorem φ_ex {one other : List Pc} (h1 : Vc one) (h2 : Vc other) : φ_exchanged [Ch one, Ch other] = some (.ok true (exD one other)) := by
  have l1 := h1.ct
  have l2 := h2.ct
  have l3 : lim = 16777216 := rfl
  refine phi_rt (n := 6) (g := g_exchanged) ?_
  have st : startD 6 [Ch one, Ch other] = [some (.d false (Ch one)), some (.d false (Ch other)), none, none, none, none] := rfl
  have ta := φ_ta one (by omega)
  rw [st]
  unfold g_exchanged
  generalize hb : turn 0 one = back at ta
  have an := any_out (a := some (.d false (Ch one))) (b := some (.d false (Ch other))) (d := none) (e := none) (f := none) (m := true) (m2 := false) (back := back) other
  have i1 : un1 (vE 1) itemsE [some (.d false (Ch one)), some (.d false (Ch other)), some (.d true (Ch back)), none, none, none] = some (flag false (other.map Pi)) := un1_of (x := (false, Ch other)) rfl itemsE_Ch
  have a1 : anyF2 (un1 (vE 1) itemsE) ([("piece", 4), ("put", 5)].map (·.2)) tg_exchanged_1 (fun _ => some true) (un1 (vE 2) itemsE) ([("put", 5)].map (·.2)) tg_exchanged_2 (fun _ => some true) el_exchanged_1 [some (.d false (Ch one)), some (.d false (Ch other)), some (.d true (Ch back)), none, none, none] = some (true, .bl (anyMeet other back)) := by
    unfold anyF2
    rw [i1, Option.bind_some]
    show Option.map _ (anyD2 [4, 5] _ _ _ [5] _ _ _ _ _) = _
    rw [an]
    rfl
  refine (seqF_nx (τ' := [some (.d false (Ch one)), some (.d false (Ch other)), none, none, none, none]) ?_).trans
    ((seqF_nx (τ' := [some (.d false (Ch one)), some (.d false (Ch other)), none, none, none, none]) ?_).trans
    ((seqF_nx (τ' := [some (.d false (Ch one)), some (.d false (Ch other)), some (.dp (Ch back)), none, none, none]) ?_).trans ?_))
  · simp [dropF, callC, consA, vE, cellD, nilA, φ_ckc h1, resC]
  · simp [dropF, callC, consA, vE, cellD, nilA, φ_ckc h2, resC]
  · simp [setF, callC, consA, vE, cellD, nilA, ta, resC]
  · cases hm : anyMeet other back with
    | true =>
      rw [hm] at a1
      rw [seqF_rt (n := true) (d := .non)]
      · unfold exD
        rw [hb, hm, if_pos rfl]
      · show fzF [2] _ _ = _
        unfold fzF
        show ifF _ _ _ [some (.d false (Ch one)), some (.d false (Ch other)), some (.d true (Ch back)), none, none, none] = _
        unfold ifF
        rw [un1_of (x := .bl true) (z := some true) ?_ rfl]
        · rfl
        · unfold mp
          rw [a1]
          rfl
    | false =>
      rw [hm] at a1
      have ah := lc_ah (a := some (.d false (Ch one))) (b := some (.d false (Ch other))) (d := none) (e := none) (f := none) (m := false) (back := back) other
      have i0 : un1 (vE 0) itemsE [some (.d false (Ch one)), some (.d false (Ch other)), some (.d true (Ch back)), some (.d true (Ch (mvs back other))), none, none] = some (flag false (one.map Pi)) := un1_of (x := (false, Ch one)) rfl itemsE_Ch
      have be := lc_be (a := some (.d false (Ch one))) (b := some (.d false (Ch other))) (d := some (.d true (Ch back))) (e := none) (f := none) (m := false) (ahead := mvs back other) one
      refine (seqF_nx (τ' := [some (.d false (Ch one)), some (.d false (Ch other)), some (.d true (Ch back)), none, none, none]) ?_).trans
        ((seqF_nx (τ' := [some (.d false (Ch one)), some (.d false (Ch other)), some (.d true (Ch back)), some (.own true ((mvs back other).map Pi)), none, none]) ?_).trans ?_)
      · show fzF [2] _ _ = _
        unfold fzF
        show ifF _ _ _ [some (.d false (Ch one)), some (.d false (Ch other)), some (.d true (Ch back)), none, none, none] = _
        unfold ifF
        rw [un1_of (x := .bl false) (z := some false) ?_ rfl]
        · rfl
        · unfold mp
          rw [a1]
          rfl
      · show fzF [2] _ _ = _
        unfold fzF
        show setF 3 _ [some (.d false (Ch one)), some (.d false (Ch other)), some (.d true (Ch back)), none, none, none] = _
        unfold setF lcF
        rw [i1, Option.bind_some, if_pos (by rw [flag_len, List.length_map]; omega)]
        show Option.map _ (Option.map _ (lcD [4] _ _ _ _ _)) = _
        rw [ah]
        rfl
      · show fzF [3] _ _ = _
        unfold fzF
        show retF _ [some (.d false (Ch one)), some (.d false (Ch other)), some (.d true (Ch back)), some (.d true (Ch (mvs back other))), none, none] = _
        have lf : lcF (un1 (vE 0) itemsE) [4] tg_exchanged_4 (fun _ => some true) el_exchanged_3 [some (.d false (Ch one)), some (.d false (Ch other)), some (.d true (Ch back)), some (.d true (Ch (mvs back other))), none, none] = some (.own true ((mvs (mvs back other) one).map Pi)) := by
          unfold lcF
          rw [i0, Option.bind_some, if_pos (by rw [flag_len, List.length_map]; omega)]
          show Option.map _ (lcD [4] _ _ _ _ _) = _
          rw [be]
          rfl
        simp only [exD, exch, hb, hm]
        simp [retF, un1, consA, vE, cellD, mp, lf, frz, nilA, tupD, l3]
        rfl
end K05
end
section
set_option Elab.async false
set_option linter.all false
set_option maxRecDepth 100000
set_option maxHeartbeats 4000000
namespace K05
open PySem Dl
/-! ### two changes, merged -/
/-- whose piece, the lines ahead of it that stay, what it takes, what it puts -/
abbrev It := Bool × List Str × List Str × List Str
abbrev W := Bool → Bool
def cur (w : W) (i : It) : List Str := if w i.1 = true then i.2.2.2 else i.2.2.1
def tog (w : W) (i : It) : List Str := if w i.1 = true then i.2.2.1 else i.2.2.2
def rend (w : W) : List It → List Str → List Str
  | [], t => t
  | i :: m, t => i.2.1 ++ (cur w i ++ rend w m t)
def sel (s : Bool) (w : W) : Int → List It → List Pc
  | _, [] => []
  | k, i :: m => if i.1 = s then (k + i.2.1.length, i.2.2.1, i.2.2.2) :: sel s w (k + i.2.1.length + (cur w i).length) m else sel s w (k + i.2.1.length + (cur w i).length) m
def selR (s : Bool) (w : W) : Int → List It → List Pc
  | _, [] => []
  | k, i :: m => if i.1 = s then (k + i.2.1.length, cur w i, tog w i) :: selR s w (k + i.2.1.length + (cur w i).length) m else selR s w (k + i.2.1.length + (cur w i).length) m
def flip (s : Bool) (w : W) : W := fun u => if u = s then !(w u) else w u
def Gs : Nat → List It → Prop
  | _, [] => True
  | e, i :: m => 1 ≤ i.2.1.length + e ∧ Gs 0 m
theorem flip_cur {s : Bool} {w : W} {i : It} (h : i.1 = s) : cur (flip s w) i = tog w i ∧ tog (flip s w) i = cur w i := by
  unfold cur tog flip
  rw [if_pos h]
  cases w i.1 <;> exact ⟨rfl, rfl⟩
theorem flip_ne {s : Bool} {w : W} {i : It} (h : i.1 ≠ s) : cur (flip s w) i = cur w i ∧ tog (flip s w) i = tog w i := by
  unfold cur tog flip
  rw [if_neg h]
  exact ⟨rfl, rfl⟩
theorem sel_R {s : Bool} {w : W} (h : w s = false) : ∀ (m : List It) (k : Int), sel s w k m = selR s w k m
  | [], _ => rfl
  | i :: m, k => by
    unfold sel selR
    rw [sel_R h m]
    by_cases hs : i.1 = s
    · rw [if_pos hs, if_pos hs]
      have : cur w i = i.2.2.1 ∧ tog w i = i.2.2.2 := by
        unfold cur tog
        rw [hs, h]
        exact ⟨rfl, rfl⟩
      rw [this.1, this.2]
    · rw [if_neg hs, if_neg hs]
theorem sel_gt {s : Bool} {w : W} : ∀ {m : List It} {k : Int}, Gs 0 m → ∀ p ∈ sel s w k m, k < p.1
  | i :: m, k, ⟨h1, h2⟩, p, hp => by
    have h1 : 1 ≤ i.2.1.length := h1
    unfold sel at hp
    split at hp
    · rcases List.mem_cons.mp hp with z | z
      · rw [z]; show k < k + _; omega
      · have := sel_gt h2 p z; omega
    · have := sel_gt h2 p hp; omega
theorem selR_gt {s : Bool} {w : W} : ∀ {m : List It} {k : Int}, Gs 0 m → ∀ p ∈ selR s w k m, k < p.1
  | i :: m, k, ⟨h1, h2⟩, p, hp => by
    have h1 : 1 ≤ i.2.1.length := h1
    unfold selR at hp
    split at hp
    · rcases List.mem_cons.mp hp with z | z
      · rw [z]; show k < k + _; omega
      · have := selR_gt h2 p z; omega
    · have := selR_gt h2 p hp; omega
theorem ga_app {n : Int} : ∀ (a b : List Pc), ga n (a ++ b) = ga n a + ga n b
  | [], b => by show _ = 0 + _; rw [Int.zero_add]; rfl
  | p :: a, b => by
    show _ + ga n (a ++ b) = _ + _ + _
    rw [ga_app a b, Int.add_assoc]
theorem ga_zero {n : Int} : ∀ {c : List Pc}, (∀ p ∈ c, n < p.1) → ga n c = 0
  | [], _ => rfl
  | p :: c, h => by
    have := h p (List.mem_cons_self ..)
    unfold ga
    rw [if_neg (by omega), ga_zero fun q hq => h q (List.mem_cons_of_mem _ hq)]
    rfl
/-- moved over to where the other ones have been toggled -/
theorem mvs_sel {s s' : Bool} {w : W} (hs : s' ≠ s) : ∀ (m : List It) (k k2 : Int) (e : Nat) (pre : List Pc), Gs e m → (∀ n, k ≤ n → ga n pre = k2 - k) → mvs (pre ++ selR s w k m) (sel s' w k m) = sel s' (flip s w) k2 m
  | [], _, _, _, _, _, _ => rfl
  | i :: m, k, k2, e, pre, ⟨h1, h2⟩, hp => by
    by_cases hi : i.1 = s
    · have hi' : i.1 ≠ s' := fun z => hs (z.symm.trans hi)
      obtain ⟨f1, f2⟩ := flip_cur (w := w) hi
      unfold sel selR
      rw [if_neg hi', if_neg hi', if_pos hi, f1, show pre ++ (k + (i.2.1.length : Int), cur w i, tog w i) :: selR s w (k + (i.2.1.length : Int) + ((cur w i).length : Int)) m = (pre ++ [(k + (i.2.1.length : Int), cur w i, tog w i)]) ++ selR s w (k + (i.2.1.length : Int) + ((cur w i).length : Int)) m by simp]
      refine mvs_sel hs m _ _ 0 _ h2 fun n hn => ?_
      rw [ga_app, hp n (by omega)]
      show _ + (_ + 0) = _
      rw [if_pos (show k + (i.2.1.length : Int) + ((cur w i).length : Int) ≤ n by omega)]
      show k2 - k + (((tog w i).length : Int) - ((cur w i).length : Int) + 0) = _
      omega
    · obtain ⟨f1, f2⟩ := flip_ne (w := w) hi
      have hi' : i.1 = s' := by
        cases h1 : i.1 <;> cases h2 : s <;> cases h3 : s' <;> simp_all
      unfold sel selR
      rw [if_pos hi', if_pos hi', if_neg hi, f1]
      show mv (ga (k + (i.2.1.length : Int)) _) _ :: mvs _ _ = _
      rw [mvs_sel hs m (k + (i.2.1.length : Int) + ((cur w i).length : Int)) (k2 + (i.2.1.length : Int) + ((cur w i).length : Int)) 0 pre h2 fun n hn => by rw [hp n (by omega)]; omega]
      congr 1
      rw [ga_app, hp _ (by omega), ga_zero (c := selR s w _ m) fun p hp => by have := selR_gt h2 p hp; omega]
      unfold mv
      dsimp only
      congr 1
      omega
theorem mvs_sel0 {s s' : Bool} {w : W} (hs : s' ≠ s) {m : List It} (h : Gs 1 m) : mvs (selR s w 0 m) (sel s' w 0 m) = sel s' (flip s w) 0 m :=
  mvs_sel hs m 0 0 1 [] h fun n _ => rfl
theorem turn_sel {s : Bool} {w : W} (hw : w s = false) : ∀ (m : List It) (k h : Int), turn h (sel s w k m) = selR s (flip s w) (k + h) m
  | [], _, _ => rfl
  | i :: m, k, h => by
    unfold sel selR
    by_cases hi : i.1 = s
    · obtain ⟨f1, f2⟩ := flip_cur (w := w) hi
      have c1 : cur w i = i.2.2.1 ∧ tog w i = i.2.2.2 := by
        unfold cur tog
        rw [hi, hw]
        exact ⟨rfl, rfl⟩
      rw [if_pos hi, if_pos hi, f1, f2, c1.1, c1.2]
      show (k + (i.2.1.length : Int) + h, i.2.2.2, i.2.2.1) :: turn (h + ((i.2.2.2.length : Int) - (i.2.2.1.length : Int))) _ = _
      rw [turn_sel hw m, show k + (i.2.1.length : Int) + h = k + h + (i.2.1.length : Int) by omega, show k + (i.2.1.length : Int) + (i.2.2.1.length : Int) + (h + ((i.2.2.2.length : Int) - (i.2.2.1.length : Int))) = k + h + (i.2.1.length : Int) + (i.2.2.2.length : Int) by omega]
    · obtain ⟨f1, f2⟩ := flip_ne (w := w) hi
      rw [if_neg hi, if_neg hi, f1, turn_sel hw m]
      congr 1
      omega
theorem no_meet {s s' : Bool} {w : W} (hs : s' ≠ s) (hw : w s' = false) : ∀ {m : List It} {k : Int} {e : Nat}, Gs e m → ∀ p ∈ sel s' w k m, ∀ q ∈ selR s w k m, meetB p q = false
  | i :: m, k, e, ⟨h1, h2⟩, p, hp, q, hq => by
    unfold sel at hp
    unfold selR at hq
    by_cases hi : i.1 = s
    · have hi' : i.1 ≠ s' := fun z => hs (z.symm.trans hi)
      rw [if_neg hi'] at hp
      rw [if_pos hi] at hq
      rcases List.mem_cons.mp hq with z | z
      · have := sel_gt h2 p hp
        unfold meetB
        rw [decide_eq_false, Bool.false_and]
        rw [z]
        dsimp only
        omega
      · exact no_meet hs hw h2 p hp q z
    · have hi' : i.1 = s' := by
        cases h1 : i.1 <;> cases h2 : s <;> cases h3 : s' <;> simp_all
      rw [if_pos hi'] at hp
      rw [if_neg hi] at hq
      rcases List.mem_cons.mp hp with z | z
      · have := selR_gt h2 q hq
        have c1 : cur w i = i.2.2.1 := by
          unfold cur
          rw [hi', hw]
          rfl
        rw [c1] at this
        unfold meetB
        rw [Bool.and_comm, decide_eq_false, Bool.false_and]
        rw [z]
        dsimp only
        omega
      · exact no_meet hs hw h2 p z q hq
theorem any_false {s s' : Bool} {w : W} (hs : s' ≠ s) (hw : w s' = false) {m : List It} {k : Int} {e : Nat} (h : Gs e m) : anyMeet (sel s' w k m) (selR s w k m) = false := by
  unfold anyMeet
  rw [List.any_eq_false]
  intro p hp
  rw [Bool.not_eq_true, List.any_eq_false]
  intro q hq
  rw [no_meet hs hw h p hp q hq]
  exact Bool.false_ne_true
theorem Ap_sel {s : Bool} {w : W} (hw : w s = false) : ∀ {m : List It} {k : Int} {e : Nat}, Gs e m → Ap (k - e) (sel s w k m)
  | [], _, _, _ => trivial
  | i :: m, k, e, ⟨h1, h2⟩ => by
    have ih := Ap_sel hw (k := k + (i.2.1.length : Int) + ((cur w i).length : Int)) h2
    unfold sel
    by_cases hi : i.1 = s
    · have c1 : cur w i = i.2.2.1 := by
        unfold cur
        rw [hi, hw]
        rfl
      rw [if_pos hi]
      refine ⟨by dsimp only; omega, ?_⟩
      rw [c1] at ih ⊢
      exact ih.le (by dsimp only; omega)
    · rw [if_neg hi]
      exact ih.le (by omega)
theorem FitD.pre : ∀ {c : List Pc} {k : Int} {u pg : List Str}, FitD (k + u.length) pg c → FitD k (u ++ pg) c
  | [], _, _, _, _ => trivial
  | p :: c, k, u, pg, ⟨g, r, e1, e2, f⟩ => ⟨u ++ g, r, by rw [e1]; simp, by rw [e2]; simp; omega, f⟩
theorem repl_pre : ∀ {c : List Pc} {k : Int} {u pg : List Str}, FitD (k + u.length) pg c → repl k (u ++ pg) c = u ++ repl (k + u.length) pg c
  | [], _, _, _, _ => rfl
  | (pl, ta, pu) :: c, k, u, pg, ⟨g, r, e1, e2, f⟩ => by
    dsimp only at e1 e2
    subst e1
    rw [repl_cons' e2, ← List.append_assoc, repl_cons' (by rw [e2]; simp; omega)]
    simp
theorem fit_sel {s : Bool} {w : W} (hw : w s = false) {t : List Str} : ∀ (m : List It) (k : Int), FitD k (rend w m t) (sel s w k m) ∧ repl k (rend w m t) (sel s w k m) = rend (flip s w) m t
  | [], _ => ⟨trivial, rfl⟩
  | i :: m, k => by
    obtain ⟨i1, i2⟩ := fit_sel hw (t := t) m (k + (i.2.1.length : Int) + ((cur w i).length : Int))
    unfold rend sel
    by_cases hi : i.1 = s
    · obtain ⟨f1, f2⟩ := flip_cur (w := w) hi
      have c1 : cur w i = i.2.2.1 ∧ tog w i = i.2.2.2 := by
        unfold cur tog
        rw [hi, hw]
        exact ⟨rfl, rfl⟩
      rw [if_pos hi, f1, c1.2]
      rw [c1.1] at i1 i2 ⊢
      refine ⟨⟨i.2.1, rend w m t, rfl, rfl, i1⟩, ?_⟩
      rw [repl_cons' rfl, i2]
    · obtain ⟨f1, f2⟩ := flip_ne (w := w) hi
      rw [if_neg hi, f1]
      have a1 : FitD (k + (i.2.1.length : Int)) (cur w i ++ rend w m t) (sel s w (k + (i.2.1.length : Int) + ((cur w i).length : Int)) m) := FitD.pre i1
      refine ⟨FitD.pre a1, ?_⟩
      rw [repl_pre a1, repl_pre i1, i2]
theorem FitD.gt {c : List Pc} {k : Int} {u pg : List Str} {p : Pc} (h : FitD k (u ++ pg) (p :: c)) (hl : k + u.length ≤ p.1) : FitD (k + u.length) pg (p :: c) := by
  obtain ⟨g, r, e1, e2, f⟩ := h
  rcases List.append_eq_append_iff.mp e1 with ⟨z, h1, h2⟩ | ⟨z, h1, h2⟩
  · exact ⟨z, r, h2, by rw [e2, h1]; simp; omega, f⟩
  · have : z = [] := by
      have := congrArg List.length h1
      rw [List.length_append] at this
      exact List.eq_nil_of_length_eq_zero (by omega)
    subst this
    exact ⟨[], r, by rw [List.nil_append] at h2; rw [← h2]; rfl, by rw [List.append_nil] at h1; rw [e2, h1]; simp, f⟩
def w00 : W := fun _ => false
def w10 : W := fun u => !u
theorem cur00 {i : It} : cur w00 i = i.2.2.1 := rfl
theorem merge : ∀ (n : Nat) (one other : List Pc) (k h : Int) (e : Nat) (P : List Str), one.length + other.length ≤ n → FitD k P one → FitD (k + h) (repl k P one) other → Ap (k - e) one → Ap (k + h - e) other → (∀ q ∈ other, ∀ t ∈ turn h one, meetB q t = false) →
    ∃ m t, P = rend w00 m t ∧ one = sel false w00 k m ∧ other = sel true w10 (k + h) m ∧ Gs e m
  | _, [], [], k, h, e, P, _, _, _, _, _, _ => ⟨[], P, rfl, rfl, rfl, trivial⟩
  | 0, _ :: _, _, _, _, _, _, hn, _, _, _, _, _ => absurd hn (by simp)
  | 0, [], _ :: _, _, _, _, _, hn, _, _, _, _, _ => absurd hn (by simp)
  | n + 1, (pl, ta, pu) :: c, [], k, h, e, P, hn, ⟨g, r, e1, e2, f⟩, _, ⟨a1, a2⟩, _, _ => by
    dsimp only at e1 e2 a1 a2
    obtain ⟨m, t, i1, i2, i3, i4⟩ := merge n c [] (pl + ta.length) (h + ((pu.length : Int) - (ta.length : Int))) 0 r (by simp at hn ⊢; omega) f trivial (a2.le (by omega)) trivial (fun q hq => nomatch hq)
    refine ⟨(false, g, ta, pu) :: m, t, by rw [e1, i1]; rfl, ?_, ?_, ⟨by show 1 ≤ g.length + e; omega, i4⟩⟩
    · show _ = (k + (g.length : Int), ta, pu) :: sel false w00 (k + (g.length : Int) + (ta.length : Int)) m
      rw [← e2, ← i2]
    · show [] = sel true w10 (k + h + (g.length : Int) + (pu.length : Int)) m
      rw [i3]
      congr 1
      omega
  | n + 1, [], (pl, ta, pu) :: d, k, h, e, P, hn, _, ⟨g, r, e1, e2, f⟩, _, ⟨a1, a2⟩, _ => by
    dsimp only at e1 e2 a1 a2
    have e1 : P = g ++ (ta ++ r) := e1
    obtain ⟨m, t, i1, i2, i3, i4⟩ := merge n [] d (pl + ta.length - h) h 0 r (by simp at hn ⊢; omega) trivial (by rw [show pl + (ta.length : Int) - h + h = pl + ta.length by omega]; exact f) trivial (by rw [show pl + (ta.length : Int) - h + h - ((0 : Nat) : Int) = pl + ta.length by omega]; exact a2) (fun q _ t ht => nomatch ht)
    refine ⟨(true, g, ta, pu) :: m, t, by rw [e1, i1]; rfl, ?_, ?_, ⟨by show 1 ≤ g.length + e; omega, i4⟩⟩
    · show [] = sel false w00 (k + (g.length : Int) + (ta.length : Int)) m
      rw [i2]
      congr 1
      omega
    · show _ = (k + h + (g.length : Int), ta, pu) :: sel true w10 (k + h + (g.length : Int) + (ta.length : Int)) m
      rw [i3]
      congr 2
      omega
  | n + 1, (pl, ta, pu) :: c, (ql, tb, qu) :: d, k, h, e, P, hn, ⟨g, r, e1, e2, f⟩, f2, ⟨a1, a2⟩, ⟨b1, b2⟩, nm => by
    dsimp only at e1 e2 a1 a2 b1 b2 f
    subst e1
    have f20 := f2
    rw [repl_cons' e2] at f2
    have nm0 := nm (ql, tb, qu) (List.mem_cons_self ..) (pl + h, pu, ta) (List.mem_cons_self ..)
    by_cases hc : pl + h + pu.length < ql
    · -- the one's piece is ahead
      have f3 : FitD (k + h + ((g ++ pu).length : Nat)) (repl (pl + ta.length) r c) ((ql, tb, qu) :: d) := FitD.gt (by rw [List.append_assoc]; exact f2) (by simp; omega)
      have ek : k + h + ((g ++ pu).length : Nat) = pl + ta.length + (h + ((pu.length : Int) - (ta.length : Int))) := by simp; omega
      rw [ek] at f3
      obtain ⟨m, t, i1, i2, i3, i4⟩ := merge n c ((ql, tb, qu) :: d) (pl + ta.length) (h + ((pu.length : Int) - (ta.length : Int))) 0 r (by simp at hn ⊢; omega) f f3 (a2.le (by omega)) ⟨by dsimp only; omega, b2⟩ (fun q hq t ht => nm q hq t (List.mem_cons_of_mem _ ht))
      refine ⟨(false, g, ta, pu) :: m, t, by rw [i1]; rfl, ?_, ?_, ⟨by show 1 ≤ g.length + e; omega, i4⟩⟩
      · show _ = (k + (g.length : Int), ta, pu) :: sel false w00 (k + (g.length : Int) + (ta.length : Int)) m
        rw [← e2, ← i2]
      · show _ = sel true w10 (k + h + (g.length : Int) + (pu.length : Int)) m
        rw [i3]
        congr 1
        omega
    · have hd : ql + tb.length < pl + h := by
        unfold meetB at nm0
        rw [Bool.and_eq_false_iff, decide_eq_false_iff_not, decide_eq_false_iff_not] at nm0
        dsimp only at nm0
        omega
      obtain ⟨g2, r2, e3, e4, f4⟩ := f2
      dsimp only at e3 e4 f4
      obtain ⟨z, hz⟩ : ∃ z, g = g2 ++ (tb ++ z) := by
        have e3' : g ++ (pu ++ repl (pl + ta.length) r c) = (g2 ++ tb) ++ r2 := by rw [e3]; simp
        rcases List.append_eq_append_iff.mp e3' with ⟨z, h1, h2⟩ | ⟨z, h1, h2⟩
        · have := congrArg List.length h1
          simp at this
          omega
        · exact ⟨z, by rw [h1, List.append_assoc]⟩
      subst hz
      have e5 : r2 = z ++ (pu ++ repl (pl + ta.length) r c) := by
        simp only [List.append_assoc] at e3
        exact (List.append_cancel_left (List.append_cancel_left e3)).symm
      have ez : pl = ql + tb.length - h + z.length := by simp at e2; omega
      have f5 : FitD (ql + tb.length - h) (z ++ (ta ++ r)) ((pl, ta, pu) :: c) := ⟨z, r, rfl, ez, f⟩
      obtain ⟨m, t, i1, i2, i3, i4⟩ := merge n ((pl, ta, pu) :: c) d (ql + tb.length - h) h 0 (z ++ (ta ++ r)) (by simp at hn ⊢; omega) f5 (by
        rw [repl_cons' ez, ← e5, show ql + (tb.length : Int) - h + h = ql + tb.length by omega]
        exact f4) ⟨by dsimp only; omega, a2⟩ (b2.le (by omega)) (fun q hq t ht => nm q (List.mem_cons_of_mem _ hq) t ht)
      refine ⟨(true, g2, tb, qu) :: m, t, ?_, ?_, ?_, ⟨by show 1 ≤ g2.length + e; omega, i4⟩⟩
      · show _ = g2 ++ (tb ++ rend w00 m t)
        rw [← i1]; simp
      · show _ = sel false w00 (k + (g2.length : Int) + (tb.length : Int)) m
        rw [i2]
        congr 1
        omega
      · show _ = (k + h + (g2.length : Int), tb, qu) :: sel true w10 (k + h + (g2.length : Int) + (tb.length : Int)) m
        rw [i3]
        congr 2
        omega
end K05
end
section
set_option Elab.async false
set_option linter.all false
set_option maxRecDepth 100000
set_option maxHeartbeats 4000000
namespace K05
open PySem Dl
/-! ### one behind the other: rows that are numbers and texts -/
def rng (a n : Nat) : List D := (List.range' a n).map fun i => .int (i : Nat)
theorem rng_succ {a n : Nat} : rng a (n + 1) = .int (a : Nat) :: rng (a + 1) n := rfl
theorem rng_len {a n : Nat} : (rng a n).length = n := by unfold rng; rw [List.length_map, List.length_range']
theorem rng_app : ∀ {m a n : Nat}, rng a (m + n) = rng a m ++ rng (a + m) n
  | 0, a, n => by rw [Nat.zero_add, Nat.add_zero]; rfl
  | m + 1, a, n => by rw [show m + 1 + n = (m + n) + 1 by omega, rng_succ, rng_succ, rng_app, show a + 1 + m = a + (m + 1) by omega]; rfl
def pgAt (pg : List Str) (n : Int) : Str := pg.getD n.toNat ""
def fD (pg : List Str) : D → Str
  | .int n => pgAt pg n
  | .str s => s
  | _ => ""
theorem rng_get {a n i : Nat} (h : i < n) : (rng a n)[i]? = some (.int ((a + i : Nat) : Int)) := by
  unfold rng
  rw [List.getElem?_map, List.getElem?_range' h]
  simp
theorem rng_map {pg : List Str} {K : Nat} (h : K ≤ pg.length) : (rng 0 K).map (fD pg) = pg.take K := by
  refine List.ext_getElem? fun i => ?_
  by_cases hi : i < K
  · rw [List.getElem?_map, rng_get hi, List.getElem?_take_of_lt hi, List.getElem?_eq_getElem (show i < pg.length by omega)]
    simp only [Option.map_some, fD, pgAt, Nat.zero_add]
    rw [List.getD_eq_getElem?_getD, show ((i : Nat) : Int).toNat = i from rfl, List.getElem?_eq_getElem (show i < pg.length by omega)]
    rfl
  · rw [List.getElem?_eq_none (by rw [List.length_map, rng_len]; omega), List.getElem?_eq_none (by rw [List.length_take]; omega)]
def FitR : Int → List D → List Pc → Prop
  | _, _, [] => True
  | k, rows, p :: c => ∃ g x r : List D, rows = g ++ (x ++ r) ∧ x.length = p.2.1.length ∧ p.1 = k + g.length ∧ FitR (p.1 + p.2.1.length) r c
def replR : Int → List D → List Pc → List D
  | _, rows, [] => rows
  | k, rows, p :: c => rows.take (p.1 - k).toNat ++ (p.2.2.map .str ++ replR (p.1 + p.2.1.length) (rows.drop ((p.1 - k).toNat + p.2.1.length)) c)
theorem replR_cons {k pl : Int} {g x r : List D} {ta pu : List Str} {c : List Pc} (h : pl = k + g.length) (hx : x.length = ta.length) : replR k (g ++ (x ++ r)) ((pl, ta, pu) :: c) = g ++ (pu.map .str ++ replR (pl + ta.length) r c) := by
  have e : (pl - k).toNat = g.length := by omega
  show (g ++ (x ++ r)).take (pl - k).toNat ++ (pu.map .str ++ replR (pl + ta.length) ((g ++ (x ++ r)).drop ((pl - k).toNat + ta.length)) c) = _
  rw [e, List.take_left' rfl, ← List.append_assoc g x r, List.drop_left' (by rw [List.length_append, hx])]
theorem FitR.of : ∀ {c : List Pc} {k : Int} {rows : List D}, Ap (k - 1) c → (∀ p ∈ c, p.1 + (p.2.1.length : Int) ≤ k + rows.length) → FitR k rows c
  | [], _, _, _, _ => trivial
  | (pl, ta, pu) :: c, k, rows, ⟨h1, h2⟩, h => by
    have h0 := h _ (List.mem_cons_self ..)
    dsimp only at h0 h1 h2
    refine ⟨rows.take (pl - k).toNat, (rows.drop (pl - k).toNat).take ta.length, (rows.drop (pl - k).toNat).drop ta.length, by rw [List.take_append_drop, List.take_append_drop], by rw [List.length_take, List.length_drop]; dsimp only; omega, by rw [List.length_take]; dsimp only; omega, ?_⟩
    refine FitR.of (h2.le (by dsimp only; omega)) fun p hp => ?_
    have := h p (List.mem_cons_of_mem _ hp)
    rw [List.length_drop, List.length_drop]
    dsimp only
    omega
theorem FitR.app {v : List D} : ∀ {c : List Pc} {k : Int} {u : List D}, FitR k u c → FitR k (u ++ v) c ∧ replR k (u ++ v) c = replR k u c ++ v
  | [], _, _, _ => ⟨trivial, rfl⟩
  | (pl, ta, pu) :: c, k, u, ⟨g, x, r, e1, e2, e3, f⟩ => by
    dsimp only at e2 e3 f
    obtain ⟨i1, i2⟩ := FitR.app (v := v) f
    subst e1
    refine ⟨⟨g, x, r ++ v, by simp, e2, e3, i1⟩, ?_⟩
    rw [List.append_assoc, List.append_assoc, replR_cons e3 e2, replR_cons e3 e2, i2]
    simp
theorem str_map {pg : List Str} (l : List Str) : (l.map D.str).map (fD pg) = l := by
  rw [List.map_map]
  exact (List.map_congr_left fun x _ => rfl).trans (List.map_id l)
theorem map_replR {pg : List Str} : ∀ {c : List Pc} {k : Int} {rows : List D}, FitR k rows c → (replR k rows c).map (fD pg) = repl k (rows.map (fD pg)) c
  | [], _, _, _ => rfl
  | (pl, ta, pu) :: c, k, rows, ⟨g, x, r, e1, e2, e3, f⟩ => by
    dsimp only at e2 e3 f
    subst e1
    rw [replR_cons e3 e2]
    have e : (pl - k).toNat = (g.map (fD pg)).length := by rw [List.length_map]; omega
    show _ = List.take (pl - k).toNat _ ++ (pu ++ repl (pl + ta.length) (List.drop ((pl - k).toNat + ta.length) _) c)
    have dd : List.drop ((g.map (fD pg)).length + ta.length) (g.map (fD pg) ++ (x.map (fD pg) ++ r.map (fD pg))) = r.map (fD pg) := by
      rw [← List.append_assoc, List.drop_left' (by rw [List.length_append, List.length_map, List.length_map, e2])]
    rw [List.map_append, List.map_append, List.map_append, List.map_append, str_map, map_replR f, e, List.take_left' rfl, dd]
theorem FitD.ends : ∀ {c : List Pc} {k : Int} {pg : List Str}, FitD k pg c → ∀ p ∈ c, p.1 + (p.2.1.length : Int) ≤ k + pg.length
  | p :: c, k, pg, ⟨g, r, e1, e2, f⟩, q, hq => by
    rcases List.mem_cons.mp hq with z | z
    · rw [z, e2, e1]; simp; omega
    · have := FitD.ends f q z
      rw [e1]; simp; omega
theorem FitD.cut {v : List Str} : ∀ {c : List Pc} {k : Int} {u : List Str}, FitD k (u ++ v) c → (∀ p ∈ c, p.1 + (p.2.1.length : Int) ≤ k + u.length) → FitD k u c ∧ repl k (u ++ v) c = repl k u c ++ v
  | [], _, _, _, _ => ⟨trivial, rfl⟩
  | (pl, ta, pu) :: c, k, u, ⟨g, r, e1, e2, f⟩, h => by
    dsimp only at e1 e2 f
    have h0 := h _ (List.mem_cons_self ..)
    dsimp only at h0
    have e1' : u ++ v = (g ++ ta) ++ r := by rw [e1, List.append_assoc]
    obtain ⟨z, hz, hr⟩ : ∃ z, u = (g ++ ta) ++ z ∧ r = z ++ v := by
      rcases List.append_eq_append_iff.mp e1' with ⟨z, h1, h2⟩ | ⟨z, h1, h2⟩
      · have := congrArg List.length h1
        simp at this
        have : z = [] := List.eq_nil_of_length_eq_zero (by omega)
        subst this
        exact ⟨[], by rw [List.append_nil] at h1 ⊢; exact h1.symm, h2.symm⟩
      · exact ⟨z, h1, h2⟩
    subst hz hr
    obtain ⟨i1, i2⟩ := FitD.cut f fun p hp => by
      have := h p (List.mem_cons_of_mem _ hp)
      simp at this
      omega
    refine ⟨⟨g, z, by rw [List.append_assoc], e2, i1⟩, ?_⟩
    rw [show g ++ ta ++ z ++ v = g ++ (ta ++ (z ++ v)) by simp, repl_cons' e2, i2, show g ++ ta ++ z = g ++ (ta ++ z) by simp, repl_cons' e2]
    simp
theorem replR_ge {E : Int} : ∀ {c : List Pc} {k : Int} {rows : List D}, FitR k rows c → k ≤ E → (∀ p ∈ c, p.1 + (p.2.1.length : Int) ≤ E) → k + rows.length ≤ E + (replR k rows c).length
  | [], _, _, _, h, _ => by show _ ≤ _ + ((List.length _ : Nat) : Int); unfold replR; omega
  | (pl, ta, pu) :: c, k, rows, ⟨g, x, r, e1, e2, e3, f⟩, _, h => by
    dsimp only at e2 e3 f
    have ih := replR_ge f (h _ (List.mem_cons_self ..)) fun p hp => h p (List.mem_cons_of_mem _ hp)
    subst e1
    rw [replR_cons e3 e2]
    simp
    omega
theorem replR_le : ∀ {c : List Pc} {k : Int} {rows : List D}, FitR k rows c → (∀ p ∈ c, p.2.2.length ≤ 2) → (replR k rows c).length ≤ rows.length + 2 * c.length
  | [], _, _, _, _ => by unfold replR; omega
  | (pl, ta, pu) :: c, k, rows, ⟨g, x, r, e1, e2, e3, f⟩, h => by
    dsimp only at e2 e3 f
    have ih := replR_le f fun p hp => h p (List.mem_cons_of_mem _ hp)
    have h0 := h _ (List.mem_cons_self ..)
    subst e1
    rw [replR_cons e3 e2]
    simp at h0 ⊢
    omega
/-- the numbers of the rows go up; those that lack are known -/
def Incr (S : Int → Prop) (hi : Int) : Int → List D → Prop
  | lo, [] => ∀ j, lo ≤ j → j < hi → S j
  | lo, .str s :: r => s ∈ LL ∧ Incr S hi lo r
  | lo, .int n :: r => lo ≤ n ∧ n < hi ∧ (∀ j, lo ≤ j → j < n → S j) ∧ Incr S hi (n + 1) r
  | _, _ => False
theorem Incr.lower {S : Int → Prop} {hi lo lo' : Int} (h : ∀ j, lo ≤ j → j < lo' → S j) (hl : lo ≤ lo') : ∀ {y : List D}, Incr S hi lo' y → Incr S hi lo y
  | [], q => fun j h1 h2 => by
    by_cases hj : j < lo'
    · exact h j h1 hj
    · exact q j (by omega) h2
  | .str s :: y, ⟨q1, q2⟩ => ⟨q1, Incr.lower h hl q2⟩
  | .int n :: y, ⟨q1, q2, q3, q4⟩ => ⟨by omega, q2, fun j h1 h2 => by
    by_cases hj : j < lo'
    · exact h j h1 hj
    · exact q3 j (by omega) h2, q4⟩
theorem Incr.mono {S S' : Int → Prop} {hi : Int} (h : ∀ j, S j → S' j) : ∀ {y : List D} {lo : Int}, Incr S hi lo y → Incr S' hi lo y
  | [], _, q => fun j h1 h2 => h j (q j h1 h2)
  | .str s :: y, _, ⟨q1, q2⟩ => ⟨q1, Incr.mono h q2⟩
  | .int n :: y, _, ⟨q1, q2, q3, q4⟩ => ⟨q1, q2, fun j h1 h2 => h j (q3 j h1 h2), Incr.mono h q4⟩
theorem Incr.rng {S : Int → Prop} : ∀ {n a : Nat}, Incr S ((a + n : Nat) : Int) (a : Int) (rng a n)
  | 0, a => fun j h1 h2 => by omega
  | n + 1, a => by
    rw [rng_succ]
    refine ⟨Int.le_refl _, by omega, fun j h1 h2 => by omega, ?_⟩
    have := Incr.rng (S := S) (n := n) (a := a + 1)
    rw [show a + 1 + n = a + (n + 1) by omega] at this
    exact this
theorem Incr.strs {S : Int → Prop} {hi lo : Int} : ∀ {pu : List Str} {y : List D}, Ln pu → Incr S hi lo y → Incr S hi lo (pu.map .str ++ y)
  | [], _, _, q => q
  | s :: pu, y, h, q => ⟨h s (List.mem_cons_self ..), Incr.strs (fun x hx => h x (List.mem_cons_of_mem _ hx)) q⟩
theorem Incr.rep {S S' : Int → Prop} {hi : Int} (hS : ∀ j, S j → S' j) {r r' : List D} {pu : List Str} (hp : Ln pu) (ih : ∀ lo, Incr S hi lo r → Incr S' hi lo r') : ∀ {x : List D} {lo : Int}, (∀ n, D.int n ∈ x → S' n) → Incr S hi lo (x ++ r) → Incr S' hi lo (pu.map .str ++ r')
  | [], lo, _, q => Incr.strs hp (ih lo q)
  | .str s :: x, lo, h, ⟨q1, q2⟩ => Incr.rep hS hp ih (fun n hn => h n (List.mem_cons_of_mem _ hn)) q2
  | .int n :: x, lo, h, ⟨q1, q2, q3, q4⟩ => by
    have := Incr.rep hS hp ih (fun n hn => h n (List.mem_cons_of_mem _ hn)) q4
    refine this.lower (fun j h1 h2 => ?_) (by omega)
    by_cases hj : j < n
    · exact hS j (q3 j h1 hj)
    · have : j = n := by omega
      rw [this]
      exact h n (List.mem_cons_self ..)
theorem Incr.gap {S S' : Int → Prop} {hi : Int} (hS : ∀ j, S j → S' j) {r r' : List D} (ih : ∀ lo, Incr S hi lo r → Incr S' hi lo r') : ∀ {g : List D} {lo : Int}, Incr S hi lo (g ++ r) → Incr S' hi lo (g ++ r')
  | [], lo, q => ih lo q
  | .str s :: g, lo, ⟨q1, q2⟩ => ⟨q1, Incr.gap hS ih q2⟩
  | .int n :: g, lo, ⟨q1, q2, q3, q4⟩ => ⟨q1, q2, fun j h1 h2 => hS j (q3 j h1 h2), Incr.gap hS ih q4⟩
theorem Incr.replR {S S' : Int → Prop} {hi : Int} (hS : ∀ j, S j → S' j) : ∀ {c : List Pc} {pre rows : List D} {lo : Int}, FitR pre.length rows c → LnC c → (∀ p ∈ c, ∀ i : Nat, i < p.2.1.length → ∀ n, (pre ++ rows)[(p.1 + i).toNat]? = some (D.int n) → S' n) → Incr S hi lo rows → Incr S' hi lo (replR pre.length rows c)
  | [], _, _, _, _, _, _, q => q.mono hS
  | (pl, ta, pu) :: c, pre, rows, lo, ⟨g, x, r, e1, e2, e3, f⟩, hL, h, q => by
    dsimp only at e2 e3 f
    subst e1
    rw [replR_cons e3 e2]
    have ek : pl + (ta.length : Int) = ((pre ++ (g ++ x)).length : Int) := by rw [e3]; simp; omega
    rw [ek] at f ⊢
    refine Incr.gap hS (r := x ++ r) (fun lo q => Incr.rep hS (hL _ (List.mem_cons_self ..)).2 (fun lo q => ?_) (fun n hn => ?_) q) q
    · exact Incr.replR hS (pre := pre ++ (g ++ x)) f (fun p hp => hL p (List.mem_cons_of_mem _ hp)) (fun p hp i hi n e => h p (List.mem_cons_of_mem _ hp) i hi n (by rw [← e]; simp)) q
    · obtain ⟨i, hi, ei⟩ := List.getElem_of_mem hn
      refine h _ (List.mem_cons_self ..) i (by dsimp only; omega) n ?_
      dsimp only
      rw [show (pl + (i : Int)).toNat = pre.length + (g.length + i) by omega, List.getElem?_append_right (by omega), List.getElem?_append_right (by omega), List.getElem?_append_left (by omega), show pre.length + (g.length + i) - pre.length - g.length = i by omega, List.getElem?_eq_getElem hi, ei]
/-! ### the change that leads to rows -/
def tks (pg : List Str) (pl n : Int) : List Str := (pg.drop pl.toNat).take (n - pl).toNat
def flush (pg : List Str) (pl n : Int) (puts : List Str) : List Pc := if (tks pg pl n).length + puts.length = 0 then [] else [(pl, tks pg pl n, puts)]
def chg (pg : List Str) : Int → List Str → List D → List Pc
  | _, _, [] => []
  | pl, puts, .str s :: r => chg pg pl (puts ++ [s]) r
  | pl, puts, .int n :: r => flush pg pl n puts ++ chg pg (n + 1) [] r
  | pl, puts, _ :: r => chg pg pl puts r
theorem flush_ok {pg : List Str} {pl n : Nat} {puts : List Str} {c : List Pc} (h1 : pl ≤ n) (h2 : n ≤ pg.length) (f : FitD n (pg.drop n) c) :
    FitD pl (pg.drop pl) (flush pg pl n puts ++ c) ∧ repl pl (pg.drop pl) (flush pg pl n puts ++ c) = puts ++ repl n (pg.drop n) c := by
  have e0 : tks pg pl n = (pg.drop pl).take (n - pl) := by
    unfold tks
    rw [show ((n : Int) - (pl : Int)).toNat = n - pl by omega]
    rfl
  have e1 : pg.drop pl = tks pg pl n ++ pg.drop n := by
    rw [e0]
    have := List.take_append_drop (n - pl) (pg.drop pl)
    rw [List.drop_drop, show pl + (n - pl) = n by omega] at this
    exact this.symm
  have e2 : (tks pg pl n).length = n - pl := by rw [e0, List.length_take, List.length_drop]; omega
  unfold flush
  split
  · rename_i hz
    have : pl = n := by omega
    subst this
    have : puts = [] := List.eq_nil_of_length_eq_zero (by omega)
    subst this
    exact ⟨f, rfl⟩
  · have e3 : (pl : Int) + ((tks pg pl n).length : Int) = (n : Int) := by rw [e2]; omega
    refine ⟨⟨[], pg.drop n, e1, by simp, by dsimp only; rw [e3]; exact f⟩, ?_⟩
    show repl (pl : Int) (pg.drop pl) (((pl : Int), tks pg pl n, puts) :: c) = _
    have := repl_cons' (s := (pl : Int)) (pl := (pl : Int)) (g := []) (r := pg.drop n) (ta := tks pg pl n) (pu := puts) (c := c) (by simp)
    rw [List.nil_append, ← e1, e3] at this
    rw [this]
    rfl
theorem flush_none {pg : List Str} {a : Int} : flush pg a a [] = [] := by
  unfold flush tks
  rw [Int.sub_self]
  rfl
theorem chg_rng {pg : List Str} : ∀ {n a : Nat}, chg pg (a : Int) [] (rng a n) = []
  | 0, _ => rfl
  | n + 1, a => by
    rw [rng_succ]
    show flush pg a a [] ++ chg pg ((a : Int) + 1) [] (rng (a + 1) n) = []
    rw [flush_none]
    exact chg_rng (n := n) (a := a + 1)
theorem chg_ok {pg : List Str} {S : Int → Prop} {K n : Nat} (hK : K ≤ pg.length) : ∀ {R : List D} {pl : Nat} {puts : List Str}, pl ≤ K → Incr S K pl R →
    FitD pl (pg.drop pl) (chg pg pl puts (R ++ rng K (n + 1))) ∧ repl pl (pg.drop pl) (chg pg pl puts (R ++ rng K (n + 1))) = puts ++ (R.map (fD pg) ++ pg.drop K)
  | [], pl, puts, hp, _ => by
    rw [List.nil_append, rng_succ]
    have e : chg pg ((K : Int) + 1) [] (rng (K + 1) n) = [] := chg_rng (n := n) (a := K + 1)
    show FitD _ _ (flush pg pl K puts ++ chg pg ((K : Int) + 1) [] (rng (K + 1) n)) ∧ repl _ _ (flush pg pl K puts ++ chg pg ((K : Int) + 1) [] (rng (K + 1) n)) = _
    rw [e]
    exact flush_ok (c := []) hp hK trivial
  | .str s :: R, pl, puts, hp, ⟨q1, q2⟩ => by
    obtain ⟨i1, i2⟩ := chg_ok (n := n) hK (puts := puts ++ [s]) hp q2
    refine ⟨i1, ?_⟩
    show repl _ _ (chg pg pl (puts ++ [s]) (R ++ rng K (n + 1))) = _
    rw [i2]
    simp [fD]
  | .int j :: R, pl, puts, hp, ⟨q1, q2, q3, q4⟩ => by
    obtain ⟨j, rfl⟩ := Int.eq_ofNat_of_zero_le (show 0 ≤ j by omega)
    obtain ⟨i1, i2⟩ := chg_ok (n := n) hK (pl := j + 1) (puts := []) (by omega) q4
    have hj : j < pg.length := by omega
    have ed : pg.drop j = [pgAt pg j] ++ pg.drop (j + 1) := by
      rw [List.drop_eq_getElem_cons hj]
      unfold pgAt
      rw [List.getD_eq_getElem?_getD, show ((j : Nat) : Int).toNat = j from rfl, List.getElem?_eq_getElem hj]
      rfl
    have a1 : FitD (j : Int) (pg.drop j) (chg pg ((j + 1 : Nat) : Int) [] (R ++ rng K (n + 1))) := by
      rw [ed]
      exact FitD.pre (u := [pgAt pg j]) i1
    have a2 : repl (j : Int) (pg.drop j) (chg pg ((j + 1 : Nat) : Int) [] (R ++ rng K (n + 1))) = [pgAt pg j] ++ (R.map (fD pg) ++ pg.drop K) := by
      rw [ed, repl_pre (u := [pgAt pg j]) i1]
      show _ ++ repl ((j + 1 : Nat) : Int) _ _ = _
      rw [i2]
      rfl
    obtain ⟨f1, f2⟩ := flush_ok (puts := puts) (show pl ≤ j by omega) (by omega) a1
    refine ⟨f1, ?_⟩
    show repl _ _ (flush pg pl j puts ++ chg pg ((j + 1 : Nat) : Int) [] (R ++ rng K (n + 1))) = _
    rw [f2, a2]
    simp [fD]
theorem tks_le {pg : List Str} {pl n : Int} (h : pl ≤ n) : ((tks pg pl n).length : Int) ≤ n - pl := by
  unfold tks
  rw [List.length_take]
  omega
theorem chg_ap {pg : List Str} {S : Int → Prop} {hi : Int} : ∀ {rows : List D} {pl : Int} {puts : List Str}, Incr S hi pl rows → Ap (pl - 1) (chg pg pl puts rows)
  | [], _, _, _ => trivial
  | .str s :: r, pl, puts, ⟨_, q⟩ => chg_ap (puts := puts ++ [s]) q
  | .int n :: r, pl, puts, ⟨q1, q2, q3, q4⟩ => by
    have ih := chg_ap (pg := pg) (puts := []) q4
    rw [show n + 1 - 1 = n by omega] at ih
    show Ap _ (flush pg pl n puts ++ chg pg (n + 1) [] r)
    unfold flush
    split
    · exact ih.le (by omega)
    · have := tks_le (pg := pg) q1
      exact ⟨by dsimp only; omega, ih.le (by dsimp only; omega)⟩
theorem chg_mem {pg : List Str} (hp : Ln pg) {S : Int → Prop} {hi : Int} : ∀ {rows : List D} {pl : Int} {puts : List Str}, Ln puts → Incr S hi pl rows → ∀ p ∈ chg pg pl puts rows, Ln p.2.1 ∧ Ln p.2.2 ∧ 0 < p.2.1.length + p.2.2.length ∧ p.2.1.length ≤ pg.length ∧ p.2.2.length ≤ puts.length + rows.length
  | .str s :: r, pl, puts, hl, ⟨q1, q⟩, p, h => by
    obtain ⟨h1, h2, h3, h4, h5⟩ := chg_mem hp (puts := puts ++ [s]) (fun x hx => (List.mem_append.mp hx).elim (hl x) fun z => by rw [List.mem_singleton.mp z]; exact q1) q p h
    refine ⟨h1, h2, h3, h4, ?_⟩
    simp at h5 ⊢
    omega
  | .int n :: r, pl, puts, hl, ⟨q1, q2, q3, q4⟩, p, h => by
    have h : p ∈ flush pg pl n puts ++ chg pg (n + 1) [] r := h
    rcases List.mem_append.mp h with h | h
    · unfold flush at h
      split at h
      · cases h
      · rw [List.mem_singleton.mp h]
        refine ⟨fun x hx => hp x (List.mem_of_mem_drop (List.mem_of_mem_take hx)), hl, by dsimp only; omega, ?_, by dsimp only; omega⟩
        dsimp only
        unfold tks
        rw [List.length_take, List.length_drop]
        omega
    · obtain ⟨h1, h2, h3, h4, h5⟩ := chg_mem hp (puts := []) (fun x hx => nomatch hx) q4 p h
      refine ⟨h1, h2, h3, h4, ?_⟩
      simp at h5 ⊢
      omega
theorem chg_len {pg : List Str} {S : Int → Prop} {hi : Int} : ∀ {rows : List D} {pl : Int} {puts : List Str}, Incr S hi pl rows → (chg pg pl puts rows).length ≤ rows.length
  | [], _, _, _ => Nat.le_refl _
  | .str s :: r, pl, puts, ⟨q1, q⟩ => by
    have := chg_len (pg := pg) (puts := puts ++ [s]) q
    show (chg pg pl (puts ++ [s]) r).length ≤ r.length + 1
    omega
  | .int n :: r, pl, puts, ⟨q1, q2, q3, q4⟩ => by
    have := chg_len (pg := pg) (puts := []) q4
    show (flush pg pl n puts ++ chg pg (n + 1) [] r).length ≤ r.length + 1
    have : (flush pg pl n puts).length ≤ 1 := by unfold flush; split <;> simp
    rw [List.length_append]
    omega
end K05
end
section
set_option Elab.async false
set_option linter.all false
set_option maxRecDepth 100000
set_option maxHeartbeats 4000000
namespace K05
open PySem Dl
/-! ### one behind the other: the program's own defs -/
def lastE (c : List Pc) : Int := c.getLast?.elim 0 fun p => p.1 + p.2.1.length
theorem lastE_snoc {c : List Pc} {p : Pc} : lastE (c ++ [p]) = p.1 + p.2.1.length := by unfold lastE; rw [List.getLast?_append]; rfl
theorem Ap.snoc_inv {p : Pc} : ∀ {c : List Pc} {l : Int}, Ap l (c ++ [p]) → l < p.1 ∧ ∀ q ∈ c, q.1 + (q.2.1.length : Int) < p.1
  | [], l, ⟨h, _⟩ => ⟨h, fun _ h => nomatch h⟩
  | q :: c, l, ⟨h1, h2⟩ => by
    obtain ⟨i1, i2⟩ := Ap.snoc_inv h2
    refine ⟨by omega, fun r hr => ?_⟩
    rcases List.mem_cons.mp hr with z | z
    · rw [z]; exact i1
    · exact i2 r z
theorem lastE_ge {c : List Pc} {l : Int} (h : Ap l c) : ∀ p ∈ c, p.1 + (p.2.1.length : Int) ≤ lastE c := by
  rcases List.eq_nil_or_concat c with z | ⟨i, q, z⟩
  · rw [z]; exact fun _ h => nomatch h
  · rw [z, List.concat_eq_append] at h ⊢
    rw [lastE_snoc]
    intro p hp
    rcases List.mem_append.mp hp with w | w
    · have := (Ap.snoc_inv h).2 p w; omega
    · rw [List.mem_singleton.mp w]; omega
theorem lastE_0 {c : List Pc} (h : Ap (-1) c) : 0 ≤ lastE c := by
  cases c with
  | nil => exact Int.le_refl _
  | cons p c =>
    have := lastE_ge h p (List.mem_cons_self ..)
    have := h.1
    omega
theorem atI_last {α : Type} {xs : List α} {x : α} : L2.atI (xs ++ [x]) (-1) = some x := by
  unfold L2.atI L2.ixN
  rw [if_neg (by decide), if_pos (by rw [List.length_append, List.length_singleton]; omega)]
  rw [List.length_append, List.length_singleton, Option.bind_some, show ((-1 : Int) + ((xs.length + 1 : Nat) : Int)).toNat = xs.length by omega, List.getElem?_append_right (Nat.le_refl _), Nat.sub_self]
  rfl
theorem φ_le (c : List Pc) : φ__last_end [Ch c] = some (.ok true (.int (lastE c))) := by
  refine phi_rt (n := 1) (g := g__last_end) ?_
  have st : startD 1 [Ch c] = [some (.d false (Ch c))] := rfl
  rw [st]
  rcases List.eq_nil_or_concat c with z | ⟨i, q, z⟩
  · rw [z]; rfl
  · rw [z, List.concat_eq_append, lastE_snoc]
    have t1 : truD (Ch (i ++ [q])) = some true := by
      show some (!((i ++ [q]).map Pi).isEmpty) = _
      cases i <;> rfl
    have x1 : itemC (some (some (.d false (Ch (i ++ [q]))))) (.int (-1)) = some (false, Pi q) := by
      show (L2.atI ((i ++ [q]).map Pi) (-1)).map _ = _
      rw [List.map_append, List.map_cons, List.map_nil, atI_last]
      rfl
    generalize Ch (i ++ [q]) = d at t1 x1
    simp [g__last_end, seqF, ifF, mp, un1, vB, cellB, frz, t1, nxF, retF, callC, consA, xvE, negD, x1, nilA, φ_end, resC]
/-! ### replaced, on rows -/
theorem cutC_R {m : Bool} {rows : List D} {lo hi : Option Int} (h : allScal rows = true) : cutC (m, .lst rows) lo hi = some (.own true (cutL rows lo hi)) := by
  show some (C.own (m || allScal rows) (cutL rows lo hi)) = _
  rw [h, Bool.or_true]
theorem lb_reR {pre g x r : List D} {ta pu : List Str} {acc : List D} {n m0 m1 m2 m3 m4 : Bool} {s1 : Option C} (hs : allScal (pre ++ (g ++ (x ++ r))) = true) (hx : x.length = ta.length) (h : acc.length + (g.length + pu.length) ≤ lim) :
    lb_replaced_1 [some (.d m0 (.lst (pre ++ (g ++ (x ++ r))))), s1, some (.own n acc), some (.d m1 (.int pre.length)), some (.d m2 (.int ((pre.length : Int) + (g.length : Int)))), some (.d m3 (L ta)), some (.d m4 (L pu))] =
      some (.nx [some (.d m0 (.lst (pre ++ (g ++ (x ++ r))))), s1, some (.own (n && m4) (acc ++ (g ++ pu.map .str))), some (.d true (.int ((pre.length : Int) + (g.length : Int) + (ta.length : Int)))), some (.d m2 (.int ((pre.length : Int) + (g.length : Int)))), some (.d m3 (L ta)), some (.d m4 (L pu))]) := by
  have h1 : acc.length + g.length ≤ lim := by omega
  have h2 : acc.length + (g.length + pu.length) ≤ lim := h
  simp [lb_replaced_1, seqF, ownF, consA, un1, mp, bi, vE, vB, cellD, cellB, addC, frz, dC, tupD, nilA, augF, subF, modF, fdivF, powF, oI, yes2, ownC, setF, ifF, andF, orF, blE, retF, retNF, nxF, noF, dropF, fzF, fzs, fz, unpF, xvE, itemC, cI, lt2, le2, gt2, ge2, boolD, notD, negD, callC, resC, isiE, isi_tup, isi_listCh, isi_listL, isi_int, isi_boolI, isi_strS, lenD_Pi, isN, notN, intO, slF, startD, List.replicate, scal_int, scal_str, scal_bl, scal_non, scal_L, scal_Pi, scal_Ch, scal_lst, scal_tup, itemsE_L, itemsE_Ch, itemsE_lst, andE_t, andE_f, lenD_L, lenD_Ch, lenD_lst, lenD_tup, cutC_R hs, cut_mid, extOp_lst, extOp_L, h1, h2, Nat.add_assoc]
theorem fr_reR {all : List D} (hs : allScal all = true) {m m0 : Bool} {s1 : Option C} : ∀ (c : List Pc) (pre cur : List D) (acc : List D) (n m1 : Bool) (x y z : Option C), all = pre ++ cur → FitR pre.length cur c → acc.length + (replR pre.length cur c).length ≤ lim →
    ∃ (pre' cur' acc' : List D) (n' m1' : Bool) (x' y' z' : Option C), forD tg_replaced_1 lb_replaced_1 (flag m (c.map Pi)) [some (.d m0 (.lst all)), s1, some (.own n acc), some (.d m1 (.int pre.length)), x, y, z] =
      some (.nx [some (.d m0 (.lst all)), s1, some (.own n' acc'), some (.d m1' (.int (List.length pre'))), x', y', z']) ∧ all = pre' ++ cur' ∧ acc' ++ cur' = acc ++ replR pre.length cur c
  | [], pre, cur, acc, n, m1, x, y, z, e, _, _ => ⟨pre, cur, acc, n, m1, x, y, z, rfl, e, rfl⟩
  | (pl, ta, pu) :: c, pre, cur, acc, n, m1, x, y, z, e, h, hl => by
    obtain ⟨g, w, r, e1, e2, e3, h⟩ := h
    dsimp only at e2 e3 h
    subst e1
    have ep : (pl + (ta.length : Int)) = ((pre ++ (g ++ w)).length : Int) := by rw [e3]; simp; omega
    rw [replR_cons e3 e2] at hl
    rw [ep] at h hl
    rw [List.length_append, List.length_append, List.length_map] at hl
    obtain ⟨pre', cur', acc', n', m1', x', y', z', ih, f1, f2⟩ := fr_reR hs (m := m) (m0 := m0) (s1 := s1) c (pre ++ (g ++ w)) r (acc ++ (g ++ pu.map .str)) (n && m) true (some (.d true (.int pl))) (some (.d m (L ta))) (some (.d m (L pu))) (by rw [e]; simp) h (by rw [List.length_append, List.length_append, List.length_map]; omega)
    refine ⟨pre', cur', acc', n', m1', x', y', z', ?_, f1, by rw [f2, replR_cons e3 e2, ep]; simp⟩
    rw [List.map_cons, flag_cons, forD_nx (τ1 := [some (.d m0 (.lst all)), s1, some (.own n acc), some (.d m1 (.int pre.length)), some (.d true (.int pl)), some (.d m (L ta)), some (.d m (L pu))])
      (τ2 := [some (.d m0 (.lst all)), s1, some (.own (n && m) (acc ++ (g ++ pu.map .str))), some (.d true (.int (List.length (pre ++ (g ++ w))))), some (.d true (.int pl)), some (.d m (L ta)), some (.d m (L pu))]) ?_ ?_, ih]
    · simp [tg_replaced_1, tupT, consT, nameT, nilT, flag_cons, flag_nil, scal_int, scal_L, Pi, scal_tup]
    · have hs2 := hs
      rw [e] at hs2
      have := lb_reR (pre := pre) (g := g) (x := w) (ta := ta) (r := r) (pu := pu) (acc := acc) (n := n) (m0 := m0) (m1 := m1) (m2 := true) (m3 := m) (m4 := m) (s1 := s1) hs2 e2 (by omega)
      rw [← e] at this
      rw [e3, this]
      congr 6
      simp
      omega
theorem φ_reR {rows : List D} {c : List Pc} (hs : allScal rows = true) (h : FitR 0 rows c) (hl : (replR 0 rows c).length ≤ lim) : ∃ m, φ_replaced [.lst rows, Ch c] = some (.ok m (.lst (replR 0 rows c))) := by
  obtain ⟨pre', cur', acc', n', m1', x', y', z', e, f1, f2⟩ := fr_reR (all := rows) hs (m := false) (m0 := false) (s1 := some (.d false (Ch c))) c [] rows [] true true none none none rfl h (by simpa using hl)
  have hz : acc'.length + cur'.length ≤ lim := by
    have := congrArg List.length f2
    simp at this
    omega
  have ee : forD tg_replaced_1 lb_replaced_1 (flag false (List.map Pi c)) [some (C.d false (.lst rows)), some (C.d false (Ch c)), some (C.own true []), some (C.d true (D.int 0)), none, none, none] = _ := e
  have f3 : cutL rows (some (pre'.length : Int)) none = cur' := by rw [f1, cut_end]
  refine ⟨n' && true, ?_⟩
  unfold φ_replaced phi
  simp [g_replaced, forF, seqF, ownF, consA, un1, mp, bi, vE, vB, cellD, cellB, addC, frz, dC, tupD, nilA, augF, subF, modF, fdivF, powF, oI, yes2, ownC, setF, ifF, andF, orF, blE, retF, retNF, nxF, noF, dropF, fzF, fzs, fz, unpF, xvE, itemC, cI, lt2, le2, gt2, ge2, boolD, notD, negD, callC, resC, isiE, isi_tup, isi_listCh, isi_listL, isi_int, isi_boolI, isi_strS, lenD_Pi, isN, notN, intO, slF, startD, List.replicate, scal_int, scal_str, scal_bl, scal_non, scal_L, scal_Pi, scal_Ch, scal_lst, scal_tup, itemsE_L, itemsE_Ch, itemsE_lst, andE_t, andE_f, lenD_L, lenD_Ch, lenD_lst, lenD_tup, ee, cutC_R hs, f3, extOp_lst, hz]
  simp at f2
  rw [← f2]
/-! ### no clash -/
def RowOk (row : D) (a : Str) : Prop := row = .str a ∨ ∃ n, row = .int n
theorem itemC_R {m : Bool} {rows : List D} {i : Int} {row : D} (h0 : 0 ≤ i) (h : rows[i.toNat]? = some row) (hs : scal row = true) : itemC (some (some (.d m (.lst rows)))) (.int i) = some (true, row) := by
  obtain ⟨k, rfl⟩ := Int.eq_ofNat_of_zero_le h0
  have hn := lt_of_some (show rows[k]? = some row from h)
  show (L2.atI rows (k : Int)).map _ = _
  rw [atI_nat hn, show rows[k]? = some row from h, Option.map_some, hs, Bool.or_true]
theorem RowOk.scal {row : D} {a : Str} (h : RowOk row a) : Dl.scal row = true := by
  rcases h with h | ⟨n, h⟩ <;> rw [h] <;> rfl
theorem lb_fc {rows : List D} {s1 s2 s4 s5 x8 : Option C} {m0 m3 m6 m7 : Bool} {pl k : Int} {a : Str} {row : D} (h0 : 0 ≤ pl + k) (h : rows[(pl + k).toNat]? = some row) (hr : RowOk row a) (ha : a ∈ LL) :
    lb__first_clash_1 [some (.d m0 (.lst rows)), s1, s2, some (.d m3 (.int pl)), s4, s5, some (.d m6 (.int k)), some (.d m7 (.str a)), x8] = some (.nx [some (.d m0 (.lst rows)), s1, s2, some (.d m3 (.int pl)), s4, s5, some (.d m6 (.int k)), some (.d m7 (.str a)), some (.d true row)]) := by
  have i1 := itemC_R (m := m0) h0 h hr.scal
  have n1 := neD_self (okEq_str ha)
  rcases hr with e | ⟨n, e⟩
  · subst e
    simp [lb__first_clash_1, seqF, setF, mp, xvE, bi, vE, cellD, addC, frz, i1, dC, ifF, andF, un1, vB, cellB, isiE, isi, boolD, n1, nxF]
  · subst e
    simp [lb__first_clash_1, seqF, setF, mp, xvE, bi, vE, cellD, addC, frz, i1, dC, ifF, andF, un1, vB, cellB, isiE, isi, boolD, nxF]
theorem fr_fc1 {rows : List D} {s1 s2 s4 s5 : Option C} {m m0 m3 : Bool} {pl : Int} (hp : 0 ≤ pl) : ∀ (ta : List Str) (k : Nat) (x6 x7 x8 : Option C), Ln ta → (∀ i : Nat, ∀ a, ta[i]? = some a → ∃ row, rows[(pl + (k + i : Nat)).toNat]? = some row ∧ RowOk row a) →
    ∃ y6 y7 y8, forD tg__first_clash_1 lb__first_clash_1 (enumI m k (ta.map D.str)) [some (.d m0 (.lst rows)), s1, s2, some (.d m3 (.int pl)), s4, s5, x6, x7, x8] = some (.nx [some (.d m0 (.lst rows)), s1, s2, some (.d m3 (.int pl)), s4, s5, y6, y7, y8])
  | [], k, x6, x7, x8, _, _ => ⟨x6, x7, x8, rfl⟩
  | a :: ta, k, x6, x7, x8, hL, h => by
    obtain ⟨row, hr, ho⟩ := h 0 a rfl
    rw [Nat.add_zero] at hr
    obtain ⟨y6, y7, y8, ih⟩ := fr_fc1 (rows := rows) (s1 := s1) (s2 := s2) (s4 := s4) (s5 := s5) (m := m) (m0 := m0) (m3 := m3) hp ta (k + 1) (some (.d true (.int k))) (some (.d true (.str a))) (some (.d true row)) (fun x hx => hL x (List.mem_cons_of_mem _ hx)) fun i b hb => by
      obtain ⟨row, q1, q2⟩ := h (i + 1) b hb
      exact ⟨row, by rw [← q1, show k + 1 + i = k + (i + 1) by omega], q2⟩
    refine ⟨y6, y7, y8, ?_⟩
    rw [List.map_cons, enumI_cons, forD_nx (τ1 := [some (.d m0 (.lst rows)), s1, s2, some (.d m3 (.int pl)), s4, s5, some (.d true (.int k)), some (.d true (.str a)), x8]) ?_ (lb_fc (by omega) hr ho (hL a (List.mem_cons_self ..))), ih]
    simp [tg__first_clash_1, tupT, consT, nameT, nilT, flag_cons, flag_nil, scal_int, scal_str]
def NoCl (rows : List D) (c : List Pc) : Prop := ∀ p ∈ c, 0 ≤ p.1 ∧ Ln p.2.1 ∧ ∀ i : Nat, ∀ a, p.2.1[i]? = some a → ∃ row, rows[(p.1 + (i : Nat)).toNat]? = some row ∧ RowOk row a
theorem fr_fc2 {rows : List D} {s1 : Option C} {m m0 : Bool} : ∀ (c : List Pc) (k : Nat) (x2 x3 x4 x5 x6 x7 x8 : Option C), NoCl rows c →
    ∃ y2 y3 y4 y5 y6 y7 y8, forD tg__first_clash_2 lb__first_clash_2 (enumI m k (c.map Pi)) [some (.d m0 (.lst rows)), s1, x2, x3, x4, x5, x6, x7, x8] = some (.nx [some (.d m0 (.lst rows)), s1, y2, y3, y4, y5, y6, y7, y8])
  | [], k, x2, x3, x4, x5, x6, x7, x8, _ => ⟨x2, x3, x4, x5, x6, x7, x8, rfl⟩
  | p :: c, k, x2, x3, x4, x5, x6, x7, x8, h => by
    obtain ⟨h1, h2, h3⟩ := h p (List.mem_cons_self ..)
    obtain ⟨z6, z7, z8, e1⟩ := fr_fc1 (rows := rows) (s1 := s1) (s2 := some (.d true (.int k))) (s4 := some (.d m (L p.2.1))) (s5 := some (.d m (L p.2.2))) (m := m) (m0 := m0) (m3 := true) h1 p.2.1 0 x6 x7 x8 h2 fun i a ha => by
      rw [Nat.zero_add]; exact h3 i a ha
    obtain ⟨y2, y3, y4, y5, y6, y7, y8, ih⟩ := fr_fc2 (rows := rows) (s1 := s1) (m := m) (m0 := m0) c (k + 1) (some (.d true (.int k))) (some (.d true (.int p.1))) (some (.d m (L p.2.1))) (some (.d m (L p.2.2))) z6 z7 z8 fun q hq => h q (List.mem_cons_of_mem _ hq)
    refine ⟨y2, y3, y4, y5, y6, y7, y8, ?_⟩
    rw [List.map_cons, enumI_cons, forD_nx (τ1 := [some (.d m0 (.lst rows)), s1, some (.d true (.int k)), some (.d true (.int p.1)), some (.d m (L p.2.1)), some (.d m (L p.2.2)), x6, x7, x8]) ?_ ?_, ih]
    · simp [tg__first_clash_2, tupT, consT, nameT, nilT, flag_cons, flag_nil, scal_int, scal_Pi, Pi, scal_L, scal_tup]
    · unfold lb__first_clash_2 forF
      rw [un1_of (x := (m, [L p.2.1])) (z := some (enumI m 0 (p.2.1.map .str))) ?_ rfl]
      · exact e1
      · simp [consA, vE, cellD, nilA]
theorem φ_fc {rows : List D} {c : List Pc} (h : NoCl rows c) : φ__first_clash [.lst rows, Ch c] = some (.ok true .non) := by
  obtain ⟨y2, y3, y4, y5, y6, y7, y8, e⟩ := fr_fc2 (rows := rows) (s1 := some (.d false (Ch c))) (m := false) (m0 := false) c 0 none none none none none none none h
  refine phi_rt (n := 9) (g := g__first_clash) ?_
  have st : startD 9 [.lst rows, Ch c] = [some (.d false (.lst rows)), some (.d false (Ch c)), none, none, none, none, none, none, none] := rfl
  rw [st]
  unfold g__first_clash
  refine (seqF_nx (τ' := [some (.d false (.lst rows)), some (.d false (Ch c)), y2, y3, y4, y5, y6, y7, y8]) ?_).trans rfl
  unfold forF
  rw [un1_of (x := (false, [Ch c])) (z := some (enumI false 0 (c.map Pi))) (by simp [consA, vE, cellD, nilA]) rfl]
  exact e
/-! ### the lines taken -/
theorem look_upd {α : Type} {k j : L2.Key} {v : α} : ∀ {ks : List L2.Key} {ds : List α}, ks.length = ds.length → hasK ks k = true → lookL ks (updL ks ds k v) j = if k = j then some v else lookL ks ds j
  | [], [], _, h => by cases h
  | k' :: ks, x :: ds, hl, h => by
    have hl : ks.length = ds.length := by simpa using hl
    rw [updL_cons]
    show (if k' = j then some _ else lookL ks (updL ks ds k v) j) = if k = j then some v else (if k' = j then some x else lookL ks ds j)
    by_cases e : k' = k
    · subst e
      rw [if_pos rfl]
      by_cases e2 : k' = j
      · rw [if_pos e2, if_pos e2]
      · rw [if_neg e2, if_neg e2, if_neg e2]
        by_cases e3 : hasK ks k' = true
        · rw [look_upd hl e3, if_neg e2]
        · have : ∀ {ks : List L2.Key} {ds : List α}, ¬ hasK ks k' = true → updL ks ds k' v = ds := fun {ks ds} => by
            induction ks generalizing ds with
            | nil => intro _; cases ds <;> rfl
            | cons q ks ih =>
              intro h
              cases ds with
              | nil => rfl
              | cons y ds =>
                rw [updL_cons]
                unfold hasK at h
                rw [List.any_cons, Bool.or_eq_true, not_or, decide_eq_true_eq] at h
                rw [if_neg h.1, ih h.2]
          rw [this e3]
    · rw [if_neg e]
      have h : hasK ks k = true := by
        unfold hasK at h ⊢
        rw [List.any_cons, decide_eq_false e, Bool.false_or] at h
        exact h
      by_cases e2 : k' = j
      · rw [if_pos e2, if_pos e2, if_neg]
        intro z; exact e (e2.trans z.symm)
      · rw [if_neg e2, if_neg e2, look_upd hl h]
theorem look_app {α : Type} {k j : L2.Key} {v : α} : ∀ {ks : List L2.Key} {ds : List α}, ks.length = ds.length → ¬ hasK ks k = true → lookL (ks ++ [k]) (ds ++ [v]) j = if k = j then some v else lookL ks ds j
  | [], [], _, _ => by
    show (if k = j then some v else lookL [] [] j) = _
    rfl
  | k' :: ks, x :: ds, hl, h => by
    have hl : ks.length = ds.length := by simpa using hl
    unfold hasK at h
    rw [List.any_cons, Bool.or_eq_true, not_or, decide_eq_true_eq] at h
    show (if k' = j then some x else lookL (ks ++ [k]) (ds ++ [v]) j) = if k = j then some v else (if k' = j then some x else lookL ks ds j)
    rw [look_app hl h.2]
    by_cases e : k' = j
    · rw [if_pos e, if_pos e, if_neg]
      intro z; exact h.1 (e.trans z.symm)
    · rw [if_neg e, if_neg e]
/-- what is known of the dict: n stands in it with the page's line -/
def Sd (pg : List Str) (ks : List L2.Key) (ds : List D) (n : Int) : Prop := 0 ≤ n ∧ n < pg.length ∧ lookL ks ds (.inl n) = some (.str (pgAt pg n))
theorem put_ok {pg : List Str} {ks : List L2.Key} {ds : List D} {n : Int} (hl : ks.length = ds.length) (h0 : 0 ≤ n) (h1 : n < pg.length) : ∃ ks' ds', (if hasK ks (.inl n) = true then C.dic true ks (updL ks ds (.inl n) (.str (pgAt pg n))) else .dic true (ks ++ [.inl n]) (ds ++ [.str (pgAt pg n)])) = .dic true ks' ds' ∧
    ks'.length = ds'.length ∧ ks'.length ≤ ks.length + 1 ∧ Sd pg ks' ds' n ∧ ∀ j, Sd pg ks ds j → Sd pg ks' ds' j := by
  by_cases h : hasK ks (.inl n) = true
  · refine ⟨ks, updL ks ds (.inl n) (.str (pgAt pg n)), by rw [if_pos h], by rw [updL_len]; exact hl, by omega, ⟨h0, h1, by rw [look_upd hl h, if_pos rfl]⟩, fun j ⟨a, b, c⟩ => ⟨a, b, ?_⟩⟩
    rw [look_upd hl h]
    by_cases e : (Sum.inl n : L2.Key) = .inl j
    · rw [if_pos e]; cases e; rfl
    · rw [if_neg e]; exact c
  · refine ⟨ks ++ [.inl n], ds ++ [.str (pgAt pg n)], by rw [if_neg h], by rw [List.length_append, List.length_append, hl]; rfl, by rw [List.length_append]; exact Nat.le_refl _, ⟨h0, h1, by rw [look_app hl h, if_pos rfl]⟩, fun j ⟨a, b, c⟩ => ⟨a, b, ?_⟩⟩
    rw [look_app hl h]
    by_cases e : (Sum.inl n : L2.Key) = .inl j
    · rw [if_pos e]; cases e; rfl
    · rw [if_neg e]; exact c
theorem lb_lt1 {pg : List Str} {s0 s1 s2 s5 s6 s9 : Option C} {ks : List L2.Key} {ds : List D} {m4 m7 : Bool} {pl k : Int} (hl : ks.length = ds.length) (hz : ks.length < lim) (h0 : 0 ≤ pl + k) (h1 : pl + k < pg.length) :
    ∃ ks' ds', lb__lines_taken_1 [s0, s1, s2, some (.dic true ks ds), some (.d m4 (.int pl)), s5, s6, some (.d m7 (.int k)), some (.d true (.str (pgAt pg (pl + k)))), s9] = some (.nx [s0, s1, s2, some (.dic true ks' ds'), some (.d m4 (.int pl)), s5, s6, some (.d m7 (.int k)), some (.d true (.str (pgAt pg (pl + k)))), s9]) ∧
      ks'.length = ds'.length ∧ ks'.length ≤ ks.length + 1 ∧ Sd pg ks' ds' (pl + k) ∧ ∀ j, Sd pg ks ds j → Sd pg ks' ds' j := by
  obtain ⟨ks', ds', e, q⟩ := put_ok (pg := pg) hl h0 h1
  refine ⟨ks', ds', ?_, q⟩
  rw [← e]
  simp [lb__lines_taken_1, dputF, vE, cellD, mp, bi, addC, frz, keyD, hz]
theorem fr_lt1 {pg : List Str} {s0 s1 s2 s5 s6 s9 : Option C} {m : Bool} {pl : Int} (hp : 0 ≤ pl) : ∀ (ta : List Str) (k : Nat) (ks : List L2.Key) (ds : List D) (x7 x8 : Option C), (∀ i : Nat, ∀ a, ta[i]? = some a → a = pgAt pg (pl + (k + i : Nat)) ∧ pl + (k + i : Nat) < pg.length) → ks.length = ds.length → ks.length + ta.length ≤ 10000 →
    ∃ ks' ds' y7 y8, forD tg__lines_taken_1 lb__lines_taken_1 (enumI m k (ta.map D.str)) [s0, s1, s2, some (.dic true ks ds), some (.d true (.int pl)), s5, s6, x7, x8, s9] = some (.nx [s0, s1, s2, some (.dic true ks' ds'), some (.d true (.int pl)), s5, s6, y7, y8, s9]) ∧
      ks'.length = ds'.length ∧ ks'.length ≤ ks.length + ta.length ∧ (∀ i : Nat, i < ta.length → Sd pg ks' ds' (pl + (k + i : Nat))) ∧ ∀ j, Sd pg ks ds j → Sd pg ks' ds' j
  | [], k, ks, ds, x7, x8, _, hl, _ => ⟨ks, ds, x7, x8, rfl, hl, by simp, fun i hi => absurd hi (by simp), fun j h => h⟩
  | a :: ta, k, ks, ds, x7, x8, h, hl, hz => by
    have hz' : ks.length + (ta.length + 1) ≤ 10000 := by simpa using hz
    obtain ⟨ea, hb⟩ := h 0 a rfl
    rw [Nat.add_zero] at ea hb
    subst ea
    obtain ⟨ks1, ds1, e1, l1, b1, c1, d1⟩ := lb_lt1 (pg := pg) (s0 := s0) (s1 := s1) (s2 := s2) (s5 := s5) (s6 := s6) (s9 := s9) (m4 := true) (m7 := true) (pl := pl) (k := (k : Int)) hl (by show _ < 16777216; omega) (by omega) hb
    obtain ⟨ks', ds', y7, y8, ih, l2, b2, c2, d2⟩ := fr_lt1 (pg := pg) (s0 := s0) (s1 := s1) (s2 := s2) (s5 := s5) (s6 := s6) (s9 := s9) (m := m) hp ta (k + 1) ks1 ds1 (some (.d true (.int k))) (some (.d true (.str (pgAt pg (pl + (k : Int)))))) (fun i b hb => by
      have := h (i + 1) b hb
      rw [show k + (i + 1) = k + 1 + i by omega] at this
      exact this) l1 (by omega)
    refine ⟨ks', ds', y7, y8, ?_, l2, by simp; omega, fun i hi => ?_, fun j hj => d2 j (d1 j hj)⟩
    · rw [List.map_cons, enumI_cons, forD_nx (τ1 := [s0, s1, s2, some (.dic true ks ds), some (.d true (.int pl)), s5, s6, some (.d true (.int k)), some (.d true (.str (pgAt pg (pl + (k : Int))))), s9]) ?_ e1, ih]
      simp [tg__lines_taken_1, tupT, consT, nameT, nilT, flag_cons, flag_nil, scal_int, scal_str]
    · cases i with
      | zero => exact d2 _ c1
      | succ i =>
        have := c2 i (by simpa using hi)
        rw [show k + (i + 1) = k + 1 + i by omega]
        exact this
theorem fr_lt2 {pg : List Str} {s0 s1 s2 s9 : Option C} {m : Bool} : ∀ (c : List Pc) (ks : List L2.Key) (ds : List D) (x4 x5 x6 x7 x8 : Option C), (∀ p ∈ c, 0 ≤ p.1 ∧ p.2.1.length ≤ 10 ∧ ∀ i : Nat, ∀ a, p.2.1[i]? = some a → a = pgAt pg (p.1 + (i : Nat)) ∧ p.1 + (i : Nat) < pg.length) → ks.length = ds.length → ks.length + 10 * c.length ≤ 10000 →
    ∃ ks' ds' y4 y5 y6 y7 y8, forD tg__lines_taken_2 lb__lines_taken_2 (flag m (c.map Pi)) [s0, s1, s2, some (.dic true ks ds), x4, x5, x6, x7, x8, s9] = some (.nx [s0, s1, s2, some (.dic true ks' ds'), y4, y5, y6, y7, y8, s9]) ∧
      ks'.length = ds'.length ∧ ks'.length ≤ ks.length + 10 * c.length ∧ (∀ p ∈ c, ∀ i : Nat, i < p.2.1.length → Sd pg ks' ds' (p.1 + (i : Nat))) ∧ ∀ j, Sd pg ks ds j → Sd pg ks' ds' j
  | [], ks, ds, x4, x5, x6, x7, x8, _, hl, _ => ⟨ks, ds, x4, x5, x6, x7, x8, rfl, hl, by simp, (fun _ h => nomatch h), fun j h => h⟩
  | p :: c, ks, ds, x4, x5, x6, x7, x8, h, hl, hz => by
    have hz' : ks.length + 10 * (c.length + 1) ≤ 10000 := by simpa using hz
    obtain ⟨h1, h2, h3⟩ := h p (List.mem_cons_self ..)
    obtain ⟨ks1, ds1, z7, z8, e1, l1, b1, c1, d1⟩ := fr_lt1 (pg := pg) (s0 := s0) (s1 := s1) (s2 := s2) (s5 := some (.d m (L p.2.1))) (s6 := some (.d m (L p.2.2))) (s9 := s9) (m := m) h1 p.2.1 0 ks ds x7 x8 (fun i a ha => by rw [Nat.zero_add]; exact h3 i a ha) hl (by omega)
    obtain ⟨ks', ds', y4, y5, y6, y7, y8, ih, l2, b2, c2, d2⟩ := fr_lt2 (pg := pg) (s0 := s0) (s1 := s1) (s2 := s2) (s9 := s9) (m := m) c ks1 ds1 (some (.d true (.int p.1))) (some (.d m (L p.2.1))) (some (.d m (L p.2.2))) z7 z8 (fun q hq => h q (List.mem_cons_of_mem _ hq)) l1 (by omega)
    refine ⟨ks', ds', y4, y5, y6, y7, y8, ?_, l2, by simp; omega, fun q hq i hi => ?_, fun j hj => d2 j (d1 j hj)⟩
    · rw [List.map_cons, flag_cons, forD_nx (τ1 := [s0, s1, s2, some (.dic true ks ds), some (.d true (.int p.1)), some (.d m (L p.2.1)), some (.d m (L p.2.2)), x7, x8, s9]) ?_ ?_, ih]
      · rw [scal_Pi, Bool.or_false]
        unfold tg__lines_taken_2
        rw [tgPi]
        rfl
      · unfold lb__lines_taken_2 forF
        rw [un1_of (x := (m, [L p.2.1])) (z := some (enumI m 0 (p.2.1.map .str))) ?_ rfl]
        · exact e1
        · simp [consA, vE, cellD, nilA]
    · rcases List.mem_cons.mp hq with z | z
      · subst z
        have := c1 i hi
        rw [Nat.zero_add] at this
        exact d2 _ this
      · exact c2 q z i hi
/-- the other one's lines: a row is a text, or the number of the page's line that it takes -/
def RowP (pg : List Str) (row : D) (a : Str) : Prop := (∃ s, row = .str s) ∨ ∃ n, row = .int n ∧ a = pgAt pg n ∧ 0 ≤ n ∧ n < pg.length
theorem RowP.scal {pg : List Str} {row : D} {a : Str} (h : RowP pg row a) : Dl.scal row = true := by
  rcases h with ⟨s, h⟩ | ⟨n, h, _⟩ <;> rw [h] <;> rfl
theorem lb_lt3 {pg : List Str} {rows : List D} {s0 s1 s5 s6 x9 : Option C} {ks : List L2.Key} {ds : List D} {m2 m4 m7 : Bool} {pl k : Int} {a : Str} {row : D} (hl : ks.length = ds.length) (hz : ks.length < lim) (h0 : 0 ≤ pl + k) (hr : rows[(pl + k).toNat]? = some row) (ho : RowP pg row a) :
    ∃ ks' ds', lb__lines_taken_3 [s0, s1, some (.d m2 (.lst rows)), some (.dic true ks ds), some (.d m4 (.int pl)), s5, s6, some (.d m7 (.int k)), some (.d true (.str a)), x9] = some (.nx [s0, s1, some (.d m2 (.lst rows)), some (.dic true ks' ds'), some (.d m4 (.int pl)), s5, s6, some (.d m7 (.int k)), some (.d true (.str a)), some (.d true row)]) ∧
      ks'.length = ds'.length ∧ ks'.length ≤ ks.length + 1 ∧ (∀ n, row = .int n → Sd pg ks' ds' n) ∧ ∀ j, Sd pg ks ds j → Sd pg ks' ds' j := by
  have i1 := itemC_R (m := m2) h0 hr ho.scal
  rcases ho with ⟨s, e⟩ | ⟨n, e, ea, h1, h2⟩
  · subst e
    refine ⟨ks, ds, ?_, hl, by omega, (fun n z => nomatch z), fun j h => h⟩
    simp [lb__lines_taken_3, seqF, setF, mp, xvE, bi, vE, cellD, addC, frz, i1, dC, ifF, un1, vB, cellB, isiE, isi, boolD, nxF]
  · subst e
    subst ea
    obtain ⟨ks', ds', e, q1, q2, q3, q4⟩ := put_ok (pg := pg) hl h1 h2
    refine ⟨ks', ds', ?_, q1, q2, (fun n z => by cases z; exact q3), q4⟩
    rw [← e]
    simp [lb__lines_taken_3, seqF, setF, mp, xvE, bi, vE, cellD, addC, frz, i1, dC, ifF, un1, vB, cellB, isiE, isi, boolD, dputF, keyD, hz]
theorem fr_lt3 {pg : List Str} {rows : List D} {s0 s1 s5 s6 : Option C} {m m2 : Bool} {pl : Int} (hp : 0 ≤ pl) : ∀ (ta : List Str) (k : Nat) (ks : List L2.Key) (ds : List D) (x7 x8 x9 : Option C), (∀ i : Nat, ∀ a, ta[i]? = some a → ∃ row, rows[(pl + (k + i : Nat)).toNat]? = some row ∧ RowP pg row a) → ks.length = ds.length → ks.length + ta.length ≤ 10000 →
    ∃ ks' ds' y7 y8 y9, forD tg__lines_taken_3 lb__lines_taken_3 (enumI m k (ta.map D.str)) [s0, s1, some (.d m2 (.lst rows)), some (.dic true ks ds), some (.d true (.int pl)), s5, s6, x7, x8, x9] = some (.nx [s0, s1, some (.d m2 (.lst rows)), some (.dic true ks' ds'), some (.d true (.int pl)), s5, s6, y7, y8, y9]) ∧
      ks'.length = ds'.length ∧ ks'.length ≤ ks.length + ta.length ∧ (∀ i : Nat, i < ta.length → ∀ n, rows[(pl + (k + i : Nat)).toNat]? = some (D.int n) → Sd pg ks' ds' n) ∧ ∀ j, Sd pg ks ds j → Sd pg ks' ds' j
  | [], k, ks, ds, x7, x8, x9, _, hl, _ => ⟨ks, ds, x7, x8, x9, rfl, hl, by simp, fun i hi => absurd hi (by simp), fun j h => h⟩
  | a :: ta, k, ks, ds, x7, x8, x9, h, hl, hz => by
    have hz' : ks.length + (ta.length + 1) ≤ 10000 := by simpa using hz
    obtain ⟨row, er, ho⟩ := h 0 a rfl
    rw [Nat.add_zero] at er
    obtain ⟨ks1, ds1, e1, l1, b1, c1, d1⟩ := lb_lt3 (pg := pg) (s0 := s0) (s1 := s1) (s5 := s5) (s6 := s6) (m2 := m2) (m4 := true) (m7 := true) (pl := pl) (k := (k : Int)) (x9 := x9) hl (by show _ < 16777216; omega) (by omega) er ho
    obtain ⟨ks', ds', y7, y8, y9, ih, l2, b2, c2, d2⟩ := fr_lt3 (pg := pg) (rows := rows) (s0 := s0) (s1 := s1) (s5 := s5) (s6 := s6) (m := m) (m2 := m2) hp ta (k + 1) ks1 ds1 (some (.d true (.int k))) (some (.d true (.str a))) (some (.d true row)) (fun i b hb => by
      have := h (i + 1) b hb
      rw [show k + (i + 1) = k + 1 + i by omega] at this
      exact this) l1 (by omega)
    refine ⟨ks', ds', y7, y8, y9, ?_, l2, by simp; omega, fun i hi n hn => ?_, fun j hj => d2 j (d1 j hj)⟩
    · rw [List.map_cons, enumI_cons, forD_nx (τ1 := [s0, s1, some (.d m2 (.lst rows)), some (.dic true ks ds), some (.d true (.int pl)), s5, s6, some (.d true (.int k)), some (.d true (.str a)), x9]) ?_ e1, ih]
      simp [tg__lines_taken_3, tupT, consT, nameT, nilT, flag_cons, flag_nil, scal_int, scal_str]
    · cases i with
      | zero =>
        rw [Nat.add_zero, er] at hn
        exact d2 _ (c1 n (Option.some.inj hn))
      | succ i =>
        rw [show k + (i + 1) = k + 1 + i by omega] at hn
        exact c2 i (by simpa using hi) n hn
theorem fr_lt4 {pg : List Str} {rows : List D} {s0 s1 : Option C} {m m2 : Bool} : ∀ (c : List Pc) (ks : List L2.Key) (ds : List D) (x4 x5 x6 x7 x8 x9 : Option C), (∀ p ∈ c, 0 ≤ p.1 ∧ p.2.1.length ≤ 10 ∧ ∀ i : Nat, ∀ a, p.2.1[i]? = some a → ∃ row, rows[(p.1 + (i : Nat)).toNat]? = some row ∧ RowP pg row a) → ks.length = ds.length → ks.length + 10 * c.length ≤ 10000 →
    ∃ ks' ds' y4 y5 y6 y7 y8 y9, forD tg__lines_taken_4 lb__lines_taken_4 (flag m (c.map Pi)) [s0, s1, some (.d m2 (.lst rows)), some (.dic true ks ds), x4, x5, x6, x7, x8, x9] = some (.nx [s0, s1, some (.d m2 (.lst rows)), some (.dic true ks' ds'), y4, y5, y6, y7, y8, y9]) ∧
      ks'.length = ds'.length ∧ ks'.length ≤ ks.length + 10 * c.length ∧ (∀ p ∈ c, ∀ i : Nat, i < p.2.1.length → ∀ n, rows[(p.1 + (i : Nat)).toNat]? = some (D.int n) → Sd pg ks' ds' n) ∧ ∀ j, Sd pg ks ds j → Sd pg ks' ds' j
  | [], ks, ds, x4, x5, x6, x7, x8, x9, _, hl, _ => ⟨ks, ds, x4, x5, x6, x7, x8, x9, rfl, hl, by simp, (fun _ h => nomatch h), fun j h => h⟩
  | p :: c, ks, ds, x4, x5, x6, x7, x8, x9, h, hl, hz => by
    have hz' : ks.length + 10 * (c.length + 1) ≤ 10000 := by simpa using hz
    obtain ⟨h1, h2, h3⟩ := h p (List.mem_cons_self ..)
    obtain ⟨ks1, ds1, z7, z8, z9, e1, l1, b1, c1, d1⟩ := fr_lt3 (pg := pg) (rows := rows) (s0 := s0) (s1 := s1) (s5 := some (.d m (L p.2.1))) (s6 := some (.d m (L p.2.2))) (m := m) (m2 := m2) h1 p.2.1 0 ks ds x7 x8 x9 (fun i a ha => by rw [Nat.zero_add]; exact h3 i a ha) hl (by omega)
    obtain ⟨ks', ds', y4, y5, y6, y7, y8, y9, ih, l2, b2, c2, d2⟩ := fr_lt4 (pg := pg) (rows := rows) (s0 := s0) (s1 := s1) (m := m) (m2 := m2) c ks1 ds1 (some (.d true (.int p.1))) (some (.d m (L p.2.1))) (some (.d m (L p.2.2))) z7 z8 z9 (fun q hq => h q (List.mem_cons_of_mem _ hq)) l1 (by omega)
    refine ⟨ks', ds', y4, y5, y6, y7, y8, y9, ?_, l2, by simp; omega, fun q hq i hi n hn => ?_, fun j hj => d2 j (d1 j hj)⟩
    · rw [List.map_cons, flag_cons, forD_nx (τ1 := [s0, s1, some (.d m2 (.lst rows)), some (.dic true ks ds), some (.d true (.int p.1)), some (.d m (L p.2.1)), some (.d m (L p.2.2)), x7, x8, x9]) ?_ ?_, ih]
      · rw [scal_Pi, Bool.or_false]
        unfold tg__lines_taken_4
        rw [tgPi]
        rfl
      · unfold lb__lines_taken_4 forF
        rw [un1_of (x := (m, [L p.2.1])) (z := some (enumI m 0 (p.2.1.map .str))) ?_ rfl]
        · exact e1
        · simp [consA, vE, cellD, nilA]
    · rcases List.mem_cons.mp hq with z | z
      · subst z
        have := c1 i hi n
        rw [Nat.zero_add] at this
        exact d2 _ (this hn)
      · exact c2 q z i hi n hn
theorem φ_lt {pg : List Str} {one other : List Pc} {rows : List D} (l1 : one.length ≤ 100) (l2 : other.length ≤ 100) (h1 : ∀ p ∈ one, 0 ≤ p.1 ∧ p.2.1.length ≤ 10 ∧ ∀ i : Nat, ∀ a, p.2.1[i]? = some a → a = pgAt pg (p.1 + (i : Nat)) ∧ p.1 + (i : Nat) < pg.length)
    (h2 : ∀ p ∈ other, 0 ≤ p.1 ∧ p.2.1.length ≤ 10 ∧ ∀ i : Nat, ∀ a, p.2.1[i]? = some a → ∃ row, rows[(p.1 + (i : Nat)).toNat]? = some row ∧ RowP pg row a) :
    ∃ ks ds, φ__lines_taken [Ch one, Ch other, .lst rows] = some (.ok true (.dic ks ds)) ∧ (∀ p ∈ one, ∀ i : Nat, i < p.2.1.length → Sd pg ks ds (p.1 + (i : Nat))) ∧ (∀ p ∈ other, ∀ i : Nat, i < p.2.1.length → ∀ n, rows[(p.1 + (i : Nat)).toNat]? = some (D.int n) → Sd pg ks ds n) := by
  obtain ⟨ks1, ds1, y4, y5, y6, y7, y8, e1, a1, a2, a3, a4⟩ := fr_lt2 (pg := pg) (s0 := some (.d false (Ch one))) (s1 := some (.d false (Ch other))) (s2 := some (.d false (.lst rows))) (s9 := none) (m := false) one [] [] none none none none none h1 rfl (by simp; omega)
  obtain ⟨ks, ds, w4, w5, w6, w7, w8, w9, e2, b1, b2, b3, b4⟩ := fr_lt4 (pg := pg) (rows := rows) (s0 := some (.d false (Ch one))) (s1 := some (.d false (Ch other))) (m := false) (m2 := false) other ks1 ds1 y4 y5 y6 y7 y8 none h2 a1 (by simp at a2; omega)
  refine ⟨ks, ds, phi_rt (n := 10) (g := g__lines_taken) ?_, fun p hp i hi => b4 _ (a3 p hp i hi), b3⟩
  have st : startD 10 [Ch one, Ch other, .lst rows] = [some (.d false (Ch one)), some (.d false (Ch other)), some (.d false (.lst rows)), none, none, none, none, none, none, none] := rfl
  rw [st]
  unfold g__lines_taken
  refine (seqF_nx (τ' := [some (.d false (Ch one)), some (.d false (Ch other)), some (.d false (.lst rows)), some (.dic true [] []), none, none, none, none, none, none]) rfl).trans
    ((seqF_nx (τ' := _) (by unfold forF; rw [un1_of (x := (false, Ch one)) rfl itemsE_Ch]; exact e1)).trans
    ((seqF_nx (τ' := _) (by unfold forF; rw [un1_of (x := (false, Ch other)) rfl itemsE_Ch]; exact e2)).trans rfl))
end K05
end
section
set_option Elab.async false
set_option linter.all false
set_option maxRecDepth 100000
set_option maxHeartbeats 4000000
namespace K05
open PySem Dl
theorem Incr.mem {S : Int → Prop} {hi : Int} : ∀ {rows : List D} {lo : Int}, Incr S hi lo rows → ∀ d ∈ rows, (∃ s, d = .str s ∧ s ∈ LL) ∨ ∃ n, d = .int n ∧ lo ≤ n ∧ n < hi
  | .str s :: r, lo, ⟨q1, q⟩, d, h => by
    rcases List.mem_cons.mp h with z | z
    · exact .inl ⟨s, z, q1⟩
    · exact Incr.mem q d z
  | .int n :: r, lo, ⟨q1, q2, q3, q⟩, d, h => by
    rcases List.mem_cons.mp h with z | z
    · exact .inr ⟨n, z, q1, q2⟩
    · rcases Incr.mem q d z with w | ⟨k, e, h1, h2⟩
      · exact .inl w
      · exact .inr ⟨k, e, by omega, h2⟩
theorem Incr.scal {S : Int → Prop} {hi : Int} : ∀ {rows : List D} {lo : Int}, Incr S hi lo rows → allScal rows = true
  | [], _, _ => rfl
  | .str s :: r, lo, ⟨q1, q⟩ => by show (true && allScal r) = true; rw [Incr.scal q]; rfl
  | .int n :: r, lo, ⟨q1, q2, q3, q⟩ => by show (true && allScal r) = true; rw [Incr.scal q]; rfl
theorem Incr.tail {S : Int → Prop} {K n : Nat} : ∀ {R : List D} {lo : Int}, lo ≤ K → Incr S K lo R → Incr S ((K + (n + 1) : Nat) : Int) lo (R ++ K05.rng K (n + 1))
  | [], lo, hl, q => by
    have := Incr.rng (S := S) (n := n + 1) (a := K)
    exact this.lower q hl
  | .str s :: r, lo, hl, ⟨q1, q⟩ => ⟨q1, Incr.tail hl q⟩
  | .int j :: r, lo, hl, ⟨q1, q2, q3, q⟩ => ⟨q1, by omega, q3, Incr.tail (by omega) q⟩
/-! ### the change to rows -/
def rIp (pl : Int) (i : Nat) : Bool × D := (true, .int (pl + (i : Nat)))
theorem lc_tk {pg : List Str} {ks : List L2.Key} {ds : List D} {s0 s2 s3 s4 s5 s6 s7 : Option C} {m1 : Bool} {pl : Int} : ∀ (m a : Nat), (∀ i : Nat, a ≤ i → i < a + m → Sd pg ks ds (pl + (i : Nat))) →
    lcD [7] tg__change_to_1 (fun _ => some true) el__change_to_1 [s0, some (.d m1 (.dic ks ds)), s2, s3, s4, s5, s6, s7] ((List.range' a m).map (rIp pl)) = some (true, ((List.range' a m).map fun i => pgAt pg (pl + (i : Nat))).map .str)
  | 0, a, _ => rfl
  | m + 1, a, h => by
    obtain ⟨_, _, h1⟩ := h a (Nat.le_refl _) (by omega)
    have ih := lc_tk (pg := pg) (ks := ks) (ds := ds) (s0 := s0) (s2 := s2) (s3 := s3) (s4 := s4) (s5 := s5) (s6 := s6) (s7 := s7) (m1 := m1) (pl := pl) m (a + 1) fun i h1 h2 => h i (by omega) (by omega)
    have t1 : tg__change_to_1 (rIp pl a) (wD [s0, some (.d m1 (.dic ks ds)), s2, s3, s4, s5, s6, s7] [7]) = some [s0, some (.d m1 (.dic ks ds)), s2, s3, s4, s5, s6, some (.d true (.int (pl + (a : Nat))))] := rfl
    have e1 : el__change_to_1 [s0, some (.d m1 (.dic ks ds)), s2, s3, s4, s5, s6, some (.d true (.int (pl + (a : Nat))))] = some (true, .str (pgAt pg (pl + (a : Nat)))) := by
      simp [el__change_to_1, dsubF, dicAt, vE, cellD, keyD, h1, scal_str]
    rw [List.range'_succ, List.map_cons, lcD, t1, Option.bind_some, Option.bind_some, if_pos rfl, e1, Option.bind_some, ih]
    rfl
theorem tks_eq {pg : List Str} {ks : List L2.Key} {ds : List D} {pl n : Int} (h0 : 0 ≤ pl) (hn : pl ≤ n) (h : ∀ j, pl ≤ j → j < n → Sd pg ks ds j) : (List.range' 0 (n - pl).toNat).map (fun i => pgAt pg (pl + (i : Nat))) = tks pg pl n := by
  by_cases hz : n = pl
  · subst hz
    unfold tks
    rw [Int.sub_self]
    rfl
  · have hb := (h (n - 1) (by omega) (by omega)).2.1
    refine List.ext_getElem? fun i => ?_
    unfold tks
    by_cases hi : i < (n - pl).toNat
    · rw [List.getElem?_map, List.getElem?_range' hi, List.getElem?_take_of_lt hi, List.getElem?_drop]
      have hlt : pl.toNat + i < pg.length := by omega
      rw [List.getElem?_eq_getElem hlt]
      simp only [Option.map_some, Nat.one_mul, Nat.zero_add]
      unfold pgAt
      rw [show (pl + (i : Nat)).toNat = pl.toNat + i by omega, List.getD_eq_getElem?_getD, List.getElem?_eq_getElem hlt]
      rfl
    · rw [List.getElem?_eq_none (by rw [List.length_map, List.length_range']; omega), List.getElem?_eq_none (by rw [List.length_take]; omega)]
section
variable {pg : List Str} {ks : List L2.Key} {ds : List D} {s0 x5 x6 x7 : Option C} {m1 m5 : Bool} {acc : List Pc} {puts : List Str} {pl n : Int}
theorem lb_ct_s {s : Str} (hz : puts.length < lim) :
    lb__change_to_1 [s0, some (.d m1 (.dic ks ds)), some (.own true (acc.map Pi)), some (.d true (.int pl)), some (.own true (puts.map .str)), some (.d true (.str s)), x6, x7] = some (.nx [s0, some (.d m1 (.dic ks ds)), some (.own true (acc.map Pi)), some (.d true (.int pl)), some (.own true ((puts ++ [s]).map .str)), some (.d true (.str s)), x6, x7]) := by
  have hz : puts.length < 16777216 := hz
  simp [lb__change_to_1, ifF, mp, un1, vB, cellB, frz, isiE, isi, boolD, ownF, consA, vE, cellD, nilA, appOp, hz, lim]
theorem lb_ct_i (h0 : 0 ≤ pl) (hn : pl ≤ n) (hb : n ≤ 10000) (h : ∀ j, pl ≤ j → j < n → Sd pg ks ds j) (hz : acc.length < lim) :
    ∃ y6, lb__change_to_1 [s0, some (.d m1 (.dic ks ds)), some (.own true (acc.map Pi)), some (.d true (.int pl)), some (.own true (puts.map .str)), some (.d true (.int n)), x6, x7] = some (.nx [s0, some (.d m1 (.dic ks ds)), some (.own true ((acc ++ flush pg pl n puts).map Pi)), some (.d true (.int (n + 1))), some (.own true (([] : List Str).map .str)), some (.d true (.int n)), y6, x7]) := by
  have l3 : lim = 16777216 := rfl
  have hz2 : acc.length < 16777216 := hz
  have rg : rng2 (true, [.int pl, .int n]) = some ((List.range' 0 (n - pl).toNat).map (rIp pl)) := by
    show (if (in62 pl && in62 n) = true then some (rngItems pl (n - pl).toNat) else none) = _
    rw [if_pos (by unfold in62; simp only [Bool.and_eq_true, decide_eq_true_eq]; omega)]
    unfold rngItems
    rw [List.range_eq_range']
    rfl
  have lc := lc_tk (pg := pg) (ks := ks) (ds := ds) (s0 := s0) (s2 := some (.own true (acc.map Pi))) (s3 := some (.d true (.int pl))) (s4 := some (.own true (puts.map .str))) (s5 := some (.d true (.int n))) (s6 := x6) (s7 := x7) (m1 := m1) (pl := pl) (n - pl).toNat 0 fun i h1 h2 => h _ (by omega) (by omega)
  rw [tks_eq h0 hn h] at lc
  have s6 : fzF [3] (setF 6 (lcF (un1 (consA (vE 3) (consA (vE 5) nilA)) rng2) ([("number", 7)].map (·.2)) tg__change_to_1 (fun _ => some true) el__change_to_1)) [s0, some (.d m1 (.dic ks ds)), some (.own true (acc.map Pi)), some (.d true (.int pl)), some (.own true (puts.map .str)), some (.d true (.int n)), x6, x7] =
      some (.nx [s0, some (.d m1 (.dic ks ds)), some (.own true (acc.map Pi)), some (.d true (.int pl)), some (.own true (puts.map .str)), some (.d true (.int n)), some (.own true ((tks pg pl n).map .str)), x7]) := by
    unfold fzF
    show setF 6 _ [s0, some (.d m1 (.dic ks ds)), some (.own true (acc.map Pi)), some (.d true (.int pl)), some (.own true (puts.map .str)), some (.d true (.int n)), x6, x7] = _
    unfold setF lcF
    rw [un1_of (x := (true, [.int pl, .int n])) rfl rg, Option.bind_some, if_pos (by rw [List.length_map, List.length_range']; omega)]
    show Option.map _ (Option.map _ (lcD [7] _ _ _ _ _)) = _
    rw [lc]
    rfl
  have tl := tks_le (pg := pg) hn
  generalize ht : tks pg pl n = t at s6 tl
  have fl : flush pg pl n puts = if t.length + puts.length = 0 then [] else [(pl, t, puts)] := by unfold flush; rw [ht]
  have nstr : un1 (mp (un1 (vB 5) (isiE .str)) (·.2)) boolD [s0, some (.d m1 (.dic ks ds)), some (.own true (acc.map Pi)), some (.d true (.int pl)), some (.own true (puts.map .str)), some (.d true (.int n)), x6, x7] = some false := by
    simp [mp, un1, vB, cellB, frz, isiE, isi, boolD]
  have t6 : truD (.lst (t.map D.str)) = some (!t.isEmpty) := by show some (!(t.map D.str).isEmpty) = _; cases t <;> rfl
  have t4 : truD (.lst (puts.map D.str)) = some (!puts.isEmpty) := by show some (!(puts.map D.str).isEmpty) = _; cases puts <;> rfl
  unfold lb__change_to_1 ifF
  rw [nstr, Option.bind_some, if_neg Bool.false_ne_true]
  refine ⟨if t.length + puts.length = 0 then some (.own true (t.map .str)) else some (.d true (.lst (t.map .str))), (seqF_nx s6).trans ?_⟩
  by_cases hc : t.length + puts.length = 0
  · have h1 : t = [] := List.eq_nil_of_length_eq_zero (by omega)
    have h2 : puts = [] := List.eq_nil_of_length_eq_zero (by omega)
    subst h1 h2
    rw [fl, if_pos hc, if_pos hc, List.append_nil]
    refine (seqF_nx (τ' := [s0, some (.d m1 (.dic ks ds)), some (.own true (acc.map Pi)), some (.d true (.int pl)), some (.own true []), some (.d true (.int n)), some (.own true []), x7]) ?_).trans ?_
    · simp [orF, un1, vB, cellB, frz, truD, nxF]
    · simp [seqF, setF, bi, vE, cellD, addC, un1, nilA, ownC]
  · rw [fl, if_neg hc, if_neg hc]
    have o1 : ∀ (τ : DS), τ = [s0, some (.d m1 (.dic ks ds)), some (.own true (acc.map Pi)), some (.d true (.int pl)), some (.own true (puts.map .str)), some (.d true (.int n)), some (.own true (t.map .str)), x7] → orF (un1 (vB 6) truD) (un1 (vB 4) truD) τ = some true := fun τ e => by
      subst e
      by_cases h1 : t = []
      · have h2 : puts ≠ [] := fun z => hc (by rw [h1, z]; rfl)
        have t60 : truD (.lst []) = some false := rfl
        subst h1
        simp [orF, un1, vB, cellB, frz, t60, t4, h2]
      · simp [orF, un1, vB, cellB, frz, t6, t4, h1]
    refine (seqF_nx (τ' := [s0, some (.d m1 (.dic ks ds)), some (.own true ((acc ++ [(pl, t, puts)]).map Pi)), some (.d true (.int pl)), some (.d true (.lst (puts.map .str))), some (.d true (.int n)), some (.d true (.lst (t.map .str))), x7]) ?_).trans ?_
    · rw [o1 _ rfl, Option.bind_some, if_pos rfl]
      simp [fzF, fzs, fz, frz, ownF, consA, un1, vE, cellD, nilA, tupD, l3, appOp, hz2, Pi, L]
    · simp [seqF, setF, bi, vE, cellD, addC, un1, nilA, ownC]
end
theorem fr_ct {pg : List Str} {ks : List L2.Key} {ds : List D} {s0 : Option C} {m m1 : Bool} {hi : Int} (hb : hi ≤ 10000) : ∀ (rows : List D) (acc : List Pc) (puts : List Str) (pl : Int) (x5 x6 x7 : Option C), 0 ≤ pl → Incr (Sd pg ks ds) hi pl rows → acc.length + rows.length ≤ 10000 → puts.length + rows.length ≤ 10000 →
    ∃ y3 y4 y5 y6 y7, forD tg__change_to_2 lb__change_to_1 (flag m rows) [s0, some (.d m1 (.dic ks ds)), some (.own true (acc.map Pi)), some (.d true (.int pl)), some (.own true (puts.map .str)), x5, x6, x7] = some (.nx [s0, some (.d m1 (.dic ks ds)), some (.own true ((acc ++ chg pg pl puts rows).map Pi)), y3, y4, y5, y6, y7]) := by
  intro rows
  induction rows with
  | nil => exact fun acc puts pl x5 x6 x7 _ _ _ _ => ⟨_, _, x5, x6, x7, by rw [show chg pg pl puts [] = [] from rfl, List.append_nil]; rfl⟩
  | cons d r ih =>
    intro acc puts pl x5 x6 x7 h0 hI b1 b2
    rw [List.length_cons] at b1 b2
    match d, hI with
    | .str s, hI =>
      obtain ⟨q1, q⟩ : s ∈ LL ∧ Incr (Sd pg ks ds) hi pl r := hI
      obtain ⟨y3, y4, y5, y6, y7, ih⟩ := ih acc (puts ++ [s]) pl (some (.d true (.str s))) x6 x7 h0 q (by omega) (by rw [List.length_append, List.length_singleton]; omega)
      refine ⟨y3, y4, y5, y6, y7, ?_⟩
      rw [flag_cons, scal_str, Bool.or_true, forD_nx (τ1 := [s0, some (.d m1 (.dic ks ds)), some (.own true (acc.map Pi)), some (.d true (.int pl)), some (.own true (puts.map .str)), some (.d true (.str s)), x6, x7]) rfl (lb_ct_s (by show _ < 16777216; omega)), ih]
      rfl
    | .int n, hI =>
      obtain ⟨q1, q2, q3, q⟩ : pl ≤ n ∧ n < hi ∧ (∀ j, pl ≤ j → j < n → Sd pg ks ds j) ∧ Incr (Sd pg ks ds) hi (n + 1) r := hI
      obtain ⟨z6, e1⟩ := lb_ct_i (pg := pg) (ks := ks) (ds := ds) (s0 := s0) (x6 := x6) (x7 := x7) (m1 := m1) (acc := acc) (puts := puts) h0 q1 (by omega) q3 (by show _ < 16777216; omega)
      have fl : (flush pg pl n puts).length ≤ 1 := by unfold flush; split <;> simp
      obtain ⟨y3, y4, y5, y6, y7, ih⟩ := ih (acc ++ flush pg pl n puts) [] (n + 1) (some (.d true (.int n))) z6 x7 (by omega) q (by rw [List.length_append]; omega) (by simp; omega)
      refine ⟨y3, y4, y5, y6, y7, ?_⟩
      rw [flag_cons, scal_int, Bool.or_true, forD_nx (τ1 := [s0, some (.d m1 (.dic ks ds)), some (.own true (acc.map Pi)), some (.d true (.int pl)), some (.own true (puts.map .str)), some (.d true (.int n)), x6, x7]) rfl e1, ih]
      rw [List.append_assoc]
      rfl
theorem φ_ct {pg : List Str} {ks : List L2.Key} {ds : List D} {hi : Int} {rows : List D} (hb : hi ≤ 10000) (hl : rows.length ≤ 10000) (h : Incr (Sd pg ks ds) hi 0 rows) : φ__change_to [.lst rows, .dic ks ds] = some (.ok true (Ch (chg pg 0 [] rows))) := by
  obtain ⟨y3, y4, y5, y6, y7, e⟩ := fr_ct (s0 := some (.d false (.lst rows))) (m := false) (m1 := false) hb rows [] [] 0 none none none (Int.le_refl _) h (by simpa using hl) (by simpa using hl)
  refine phi_rt (n := 8) (g := g__change_to) ?_
  have st : startD 8 [.lst rows, .dic ks ds] = [some (.d false (.lst rows)), some (.d false (.dic ks ds)), none, none, none, none, none, none] := rfl
  rw [st]
  unfold g__change_to
  refine (seqF_nx (τ' := [some (.d false (.lst rows)), some (.d false (.dic ks ds)), some (.own true []), none, none, none, none, none]) rfl).trans
    ((seqF_nx (τ' := [some (.d false (.lst rows)), some (.d false (.dic ks ds)), some (.own true []), some (.d true (.int 0)), none, none, none, none]) rfl).trans
    ((seqF_nx (τ' := [some (.d false (.lst rows)), some (.d false (.dic ks ds)), some (.own true []), some (.d true (.int 0)), some (.own true []), none, none, none]) rfl).trans
    ((seqF_nx (τ' := _) (by unfold forF; rw [un1_of (x := (false, .lst rows)) rfl itemsE_lst]; exact e)).trans ?_)))
  rfl
end K05
end
section
set_option Elab.async false
set_option linter.all false
set_option maxRecDepth 100000
set_option maxHeartbeats 4000000
namespace K05
open PySem Dl
/-! ### one behind the other -/
theorem FitAt.get {pg : List Str} {p : Pc} (h : FitAt pg p) {i : Nat} {a : Str} (e : p.2.1[i]? = some a) : 0 ≤ p.1 ∧ p.1 + (i : Nat) < pg.length ∧ pg[(p.1 + (i : Nat)).toNat]? = some a := by
  obtain ⟨g, r, e1, e2⟩ := h
  have hi := lt_of_some e
  have hl : pg.length = g.length + (p.2.1.length + r.length) := by rw [e1]; simp
  refine ⟨by omega, by omega, ?_⟩
  rw [e2, e1, show ((g.length : Int) + (i : Nat)).toNat = g.length + i by omega, List.getElem?_append_right (by omega), List.getElem?_append_left (by omega), show g.length + i - g.length = i by omega]
  exact e
theorem pgAt_of {pg : List Str} {n : Int} {a : Str} (h : pg[n.toNat]? = some a) : pgAt pg n = a := by
  unfold pgAt
  rw [List.getD_eq_getElem?_getD, h]
  rfl
theorem rgL_rng {j : Nat} : rgL (j : Int) = rng 0 j := by
  unfold rgL rng
  rw [List.range_eq_range']
  rfl
theorem bh_setup {pg : List Str} {one other : List Pc} (lp : Ln pg) (hl : pg.length ≤ 40) (s1 : Sm5 pg one) (s2 : Sm5 (repl 0 pg one) other) :
    ∃ (K n : Nat) (B R : List D), lastE one + lastE other + 1 = ((K + (n + 1) : Nat) : Int) ∧ K ≤ pg.length ∧ n ≤ 100 ∧
      FitR 0 (rng 0 (K + (n + 1))) one ∧ replR 0 (rng 0 (K + (n + 1))) one = B ++ rng K (n + 1) ∧ FitR 0 (B ++ rng K (n + 1)) other ∧ replR 0 (B ++ rng K (n + 1)) other = R ++ rng K (n + 1) ∧
      B.length ≤ 60 ∧ R.length ≤ 80 ∧ repl 0 (repl 0 pg one) other = R.map (fD pg) ++ pg.drop K ∧ allScal (B ++ rng K (n + 1)) = true ∧
      NoCl (B ++ rng K (n + 1)) other ∧ (∀ p ∈ other, ∀ i : Nat, ∀ a, p.2.1[i]? = some a → ∃ row, (B ++ rng K (n + 1))[(p.1 + (i : Nat)).toNat]? = some row ∧ RowP pg row a) ∧
      ∀ S : Int → Prop, (∀ p ∈ one, ∀ i : Nat, i < p.2.1.length → S (p.1 + (i : Nat))) → (∀ p ∈ other, ∀ i : Nat, i < p.2.1.length → ∀ j, (B ++ rng K (n + 1))[(p.1 + (i : Nat)).toNat]? = some (D.int j) → S j) → Incr S K 0 R := by
  have f1 := s1.fd
  have f2 := s2.fd
  have en1 := FitD.ends f1
  have en2 := FitD.ends f2
  have g1 := lastE_ge s1.ap
  have g2 := lastE_ge s2.ap
  have p1 := lastE_0 s1.ap
  have p2 := lastE_0 s2.ap
  have q1 : lastE one ≤ pg.length := by
    rcases List.eq_nil_or_concat one with z | ⟨i, q, z⟩
    · rw [z]; exact Int.natCast_nonneg _
    · rw [z, List.concat_eq_append, lastE_snoc]
      have := en1 q (by rw [z]; simp)
      omega
  have q2 : lastE other ≤ (repl 0 pg one).length := by
    rcases List.eq_nil_or_concat other with z | ⟨i, q, z⟩
    · rw [z]; exact Int.natCast_nonneg _
    · rw [z, List.concat_eq_append, lastE_snoc]
      have := en2 q (by rw [z]; simp)
      omega
  have rl := repl_len f1 fun p hp => (s1.bd p hp).2
  have c1 := s1.ct
  have c2 := s2.ct
  obtain ⟨K, hK⟩ : ∃ K : Nat, (K : Int) = min (pg.length : Int) (lastE one + lastE other) := ⟨(min (pg.length : Int) (lastE one + lastE other)).toNat, by omega⟩
  obtain ⟨n, hn⟩ : ∃ n : Nat, (n : Int) = lastE one + lastE other - K := ⟨(lastE one + lastE other - K).toNat, by omega⟩
  have hKp : K ≤ pg.length := by omega
  have fr0 : FitR 0 (rng 0 K) one := FitR.of (s1.ap.le (by omega)) fun p hp => by
    have := g1 p hp
    rw [rng_len]
    omega
  have sp : rng 0 (K + (n + 1)) = rng 0 K ++ rng K (n + 1) := by
    have := rng_app (m := K) (a := 0) (n := n + 1)
    rw [Nat.zero_add] at this
    exact this
  obtain ⟨fa, ra⟩ := FitR.app (v := rng K (n + 1)) fr0
  have bl : (replR 0 (rng 0 K) one).length ≤ K + 2 * one.length := by
    have := replR_le fr0 fun p hp => (s1.bd p hp).2
    rw [rng_len] at this
    exact this
  have bm : (replR 0 (rng 0 K) one).map (fD pg) = repl 0 (pg.take K) one := by rw [map_replR fr0, rng_map hKp]
  have tk : (pg.take K).length = K := by rw [List.length_take]; omega
  have pe : repl 0 pg one = (replR 0 (rng 0 K) one).map (fD pg) ++ pg.drop K := by
    have e : pg = pg.take K ++ pg.drop K := (List.take_append_drop K pg).symm
    have f1' : FitD 0 (pg.take K ++ pg.drop K) one := by rw [← e]; exact f1
    have := (FitD.cut f1' fun p hp => by have := g1 p hp; rw [tk]; omega).2
    rw [← e] at this
    rw [this, bm]
  have bge : lastE other ≤ ((replR 0 (rng 0 K) one).length : Int) := by
    have a := replR_ge (E := lastE one) fr0 p1 g1
    rw [rng_len] at a
    have b := congrArg List.length pe
    rw [List.length_append, List.length_map, List.length_drop] at b
    omega
  have ic0 : ∀ S : Int → Prop, (∀ p ∈ one, ∀ i : Nat, i < p.2.1.length → S (p.1 + (i : Nat))) → Incr S K 0 (replR 0 (rng 0 K) one) := fun S h => by
    have i0 : Incr S K 0 (rng 0 K) := by
      have := Incr.rng (S := S) (n := K) (a := 0)
      rw [Nat.zero_add] at this
      exact this
    refine Incr.replR (pre := []) (fun j h => h) fr0 s1.ln (fun p hp i hi j e => ?_) i0
    rw [List.nil_append] at e
    have h0 := (s1.fit p hp).le.1
    have hlt := lt_of_some e
    rw [rng_len] at hlt
    rw [rng_get hlt] at e
    have := Option.some.inj e
    injection this with this
    rw [← this]
    have := h p hp i hi
    rw [show (((0 + (p.1 + (i : Nat)).toNat : Nat)) : Int) = p.1 + (i : Nat) by omega]
    exact this
  have it0 := ic0 (fun _ => True) fun _ _ _ _ => trivial
  generalize hB : replR 0 (rng 0 K) one = B at *
  have frB : FitR 0 B other := FitR.of (s2.ap.le (by omega)) fun p hp => by
    have := g2 p hp
    omega
  obtain ⟨fb, rb⟩ := FitR.app (v := rng K (n + 1)) frB
  have rlen := replR_le frB fun p hp => (s2.bd p hp).2
  have rm := map_replR (pg := pg) frB
  have row_of : ∀ p ∈ other, ∀ i : Nat, ∀ a, p.2.1[i]? = some a → ∃ row, B[(p.1 + (i : Nat)).toNat]? = some row ∧ fD pg row = a ∧ ((∃ s, row = .str s) ∨ ∃ j, row = .int j ∧ 0 ≤ j ∧ j < K) := fun p hp i a ha => by
    obtain ⟨h0, h1, h2⟩ := (s2.fit p hp).get ha
    have hi := lt_of_some ha
    have := g2 p hp
    have hlt : (p.1 + (i : Nat)).toNat < B.length := by omega
    rw [pe, List.getElem?_append_left (by rw [List.length_map]; exact hlt), List.getElem?_map, List.getElem?_eq_getElem hlt] at h2
    refine ⟨B[(p.1 + (i : Nat)).toNat], List.getElem?_eq_getElem hlt, Option.some.inj h2, ?_⟩
    rcases it0.mem _ (List.getElem_mem hlt) with ⟨s, e, _⟩ | ⟨j, e, e1, e2⟩
    · exact .inl ⟨s, e⟩
    · exact .inr ⟨j, e, e1, e2⟩
  have up : ∀ {i : Nat} {row : D}, B[i]? = some row → (B ++ rng K (n + 1))[i]? = some row := fun {i row} e => by
    rw [List.getElem?_append_left (lt_of_some e)]; exact e
  refine ⟨K, n, B, replR 0 B other, by omega, hKp, by omega, by rw [sp]; exact fa, by rw [sp]; exact ra, fb, rb, by omega, by omega, ?_, (Incr.tail (S := fun _ => True) (by omega) it0).scal, fun p hp => ⟨(s2.fit p hp).le.1, (s2.ln p hp).1, fun i a ha => ?_⟩, fun p hp i a ha => ?_, fun S h1 h2 => ?_⟩
  · rw [pe] at f2 ⊢
    rw [(FitD.cut f2 fun p hp => by have := g2 p hp; rw [List.length_map]; omega).2, rm]
  · obtain ⟨row, e1, e2, e3⟩ := row_of p hp i a ha
    refine ⟨row, up e1, ?_⟩
    rcases e3 with ⟨s, z⟩ | ⟨j, z, _⟩
    · rw [z] at e2 ⊢
      exact .inl (by rw [← e2]; rfl)
    · exact .inr ⟨j, z⟩
  · obtain ⟨row, e1, e2, e3⟩ := row_of p hp i a ha
    refine ⟨row, up e1, ?_⟩
    rcases e3 with ⟨s, z⟩ | ⟨j, z, z1, z2⟩
    · exact .inl ⟨s, z⟩
    · refine .inr ⟨j, z, ?_, z1, by omega⟩
      rw [z] at e2
      exact e2.symm
  · refine Incr.replR (pre := []) (fun j h => h) frB s2.ln (fun p hp i hi j e => ?_) (ic0 S h1)
    exact h2 p hp i hi j (up e)
theorem φ_bh {pg : List Str} {one other : List Pc} (lp : Ln pg) (hl : pg.length ≤ 40) (s1 : Sm5 pg one) (s2 : Sm5 (repl 0 pg one) other) :
    ∃ c, φ_behind [Ch one, Ch other] = some (.ok true (Ch c)) ∧ Vc c ∧ FitD 0 pg c ∧ repl 0 pg c = repl 0 (repl 0 pg one) other := by
  obtain ⟨K, n, B, R, a1, a2, a3, a4, a5, a6, a7, a8, a9, b1, b2, b3, b4, b5⟩ := bh_setup lp hl s1 s2
  have rl := repl_len s1.fd fun p hp => (s1.bd p hp).2
  have c1 := s1.ct
  have c2 := s2.ct
  have l3 : lim = 16777216 := rfl
  have v1 := s1.vc (by omega)
  have v2 := s2.vc (by omega)
  have big : ∀ {n : Nat}, n ≤ 10000 → n ≤ lim := fun {n} h => by omega
  obtain ⟨m1, e1⟩ := φ_reR (rows := rng 0 (K + (n + 1))) (c := one) (Incr.rng (S := fun _ => True) (n := K + (n + 1)) (a := 0)).scal a4 (by rw [a5, List.length_append, rng_len]; exact big (by omega))
  obtain ⟨m2, e2⟩ := φ_reR (rows := B ++ rng K (n + 1)) (c := other) b2 a6 (by rw [a7, List.length_append, rng_len]; exact big (by omega))
  rw [a5] at e1
  rw [a7] at e2
  have e3 := φ_fc b3
  obtain ⟨ks, ds, e4, d1, d2⟩ := φ_lt (pg := pg) (one := one) (other := other) (rows := B ++ rng K (n + 1)) (by omega) (by omega)
    (fun p hp => ⟨(s1.fit p hp).le.1, by have := (s1.bd p hp).1; omega, fun i a ha => by
      obtain ⟨h0, h1, h2⟩ := (s1.fit p hp).get ha
      exact ⟨(pgAt_of h2).symm, h1⟩⟩)
    (fun p hp => ⟨(s2.fit p hp).le.1, by have := (s2.bd p hp).1; omega, b4 p hp⟩)
  have inc := b5 (Sd pg ks ds) d1 d2
  have inc2 := Incr.tail (n := n) (show (0 : Int) ≤ K by omega) inc
  have rlen : (R ++ rng K (n + 1)).length ≤ 200 := by rw [List.length_append, rng_len]; omega
  have e5 := φ_ct (pg := pg) (ks := ks) (ds := ds) (show ((K + (n + 1) : Nat) : Int) ≤ 10000 by omega) (by omega) inc2
  obtain ⟨k1, k2⟩ := chg_ok (n := n) (pl := 0) (puts := []) a2 (Nat.zero_le _) inc
  have k1 : FitD 0 pg (chg pg 0 [] (R ++ rng K (n + 1))) := k1
  have k2 : repl 0 pg (chg pg 0 [] (R ++ rng K (n + 1))) = R.map (fD pg) ++ pg.drop K := k2
  have k3 := chg_ap (pg := pg) (puts := []) inc2
  have k4 := chg_mem (pg := pg) lp (puts := []) (fun x h => nomatch h) inc2
  have k5 := chg_len (pg := pg) (puts := []) inc2
  generalize chg pg 0 [] (R ++ rng K (n + 1)) = c at e5 k1 k2 k3 k4 k5
  refine ⟨c, phi_rt (n := 7) (g := g_behind) ?_, ⟨k3.le (by omega), fun p hp => ⟨(k4 p hp).1, (k4 p hp).2.1⟩, fun p hp => (k4 p hp).2.2.1, fun p hp => ?_, by omega⟩, k1, by rw [k2, b1]⟩
  · have st : startD 7 [Ch one, Ch other] = [some (.d false (Ch one)), some (.d false (Ch other)), none, none, none, none, none] := rfl
    have lr : lrgD (.int (lastE one + lastE other + 1)) = some (.own true (rng 0 (K + (n + 1)))) := by
      rw [a1]
      show (if ((K + (n + 1) : Nat) : Int) ≤ (lim : Int) ∧ -(lim : Int) ≤ ((K + (n + 1) : Nat) : Int) then some (C.own true (rgL ((K + (n + 1) : Nat) : Int))) else none) = _
      rw [if_pos (by omega), rgL_rng]
    generalize rng 0 (K + (n + 1)) = rr at e1 lr
    generalize B ++ rng K (n + 1) = bt at e1 e2 e3 e4
    generalize R ++ rng K (n + 1) = rw' at e2 e5
    rw [st]
    unfold g_behind
    refine (seqF_nx (τ' := [some (.d false (Ch one)), some (.d false (Ch other)), none, none, none, none, none]) ?_).trans
      ((seqF_nx (τ' := [some (.d false (Ch one)), some (.d false (Ch other)), none, none, none, none, none]) ?_).trans
      ((seqF_nx (τ' := [some (.d false (Ch one)), some (.d false (Ch other)), some (.d true (.int (lastE one + lastE other + 1))), none, none, none, none]) ?_).trans
      ((seqF_nx (τ' := [some (.d false (Ch one)), some (.d false (Ch other)), some (.d true (.int (lastE one + lastE other + 1))), some (if m1 = true then .dp (.lst bt) else .d false (.lst bt)), none, none, none]) ?_).trans
      ((seqF_nx (τ' := [some (.d false (Ch one)), some (.d false (Ch other)), some (.d true (.int (lastE one + lastE other + 1))), some (.d m1 (.lst bt)), some (.dp .non), none, none]) ?_).trans
      ((seqF_nx (τ' := [some (.d false (Ch one)), some (.d false (Ch other)), some (.d true (.int (lastE one + lastE other + 1))), some (.d m1 (.lst bt)), some (.dp .non), none, none]) ?_).trans ?_)))))
    · simp [dropF, callC, consA, vE, cellD, nilA, φ_ckc v1, resC]
    · simp [dropF, callC, consA, vE, cellD, nilA, φ_ckc v2, resC]
    · simp [setF, bi, mp, callC, consA, vE, cellD, nilA, φ_le, resC, frz, addC]
    · cases m1 <;> simp [setF, callC, consA, mp, un1, vB, cellB, frz, lr, vE, cellD, nilA, e1, resC, scal_lst]
    · cases m1 <;> simp [fzF, fzs, fz, frz, setF, callC, consA, vE, cellD, nilA, e3, resC]
    · simp [ifF, bi, mp, vB, cellB, frz, notN, isN, nxF]
    · cases m1 <;> cases m2 <;> simp [fzF, fzs, fz, frz, retF, callC, consA, mp, vE, cellD, nilA, e2, e4, e5, resC, scal_lst]
  · have h1 : 0 ≤ p.1 ∧ p.1 ≤ pg.length := (FitD.all (pre := []) rfl k1 p hp).le
    obtain ⟨_, _, _, h3, h4⟩ := k4 p hp
    rw [List.length_nil, Nat.zero_add] at h4
    omega
end K05
end
section
set_option Elab.async false
set_option linter.all false
set_option maxRecDepth 100000
set_option maxHeartbeats 4000000
namespace K05
open PySem Dl
/-! ### fits, asked of any page -/
theorem eqv_str {x y : Str} : PyData.eqv (py (.str x)) (py (.str y)) = (x == y) := rfl
theorem neD_str {x y : Str} (hx : x ∈ LL) (hy : y ∈ LL) (h : x ≠ y) : neD (.str x) (.str y) = some true := by
  unfold neD
  rw [okEq_str hx, okEq_str hy, Bool.and_self, if_pos rfl, eqv_str]
  rw [beq_eq_false_iff_ne.mpr h]
  rfl
theorem lb_fmN {pg : List Str} {g k : Nat} {a : Str} {s1 s3 s4 : Option C} {m0 m1 : Bool} (h : ¬ pg[g + k]? = some a) (ha : a ∈ LL) (hp : Ln pg) :
    lb_first_missing_1 [some (.d m0 (L pg)), s1, some (.d m1 (.int g)), s3, s4, some (.d true (.int k)), some (.d true (.str a))] = some (.rt true (.int k)) := by
  by_cases hl : g + k < pg.length
  · obtain ⟨b, hb⟩ : ∃ b, pg[g + k]? = some b := ⟨_, List.getElem?_eq_getElem hl⟩
    have hne : b ≠ a := fun z => h (by rw [hb, z])
    have hbL : b ∈ LL := by
      rw [List.getElem?_eq_getElem hl] at hb
      rw [← Option.some.inj hb]
      exact hp _ (List.getElem_mem hl)
    have e1 : itemB (L pg) (.int ((g : Int) + (k : Int))) = some (.str b) := by rw [← Int.natCast_add]; exact itemB_L hb
    have e2 : ¬ (pg.length : Int) ≤ (g : Int) + (k : Int) := by omega
    simp [lb_first_missing_1, seqF, ownF, consA, un1, mp, bi, vE, vB, cellD, cellB, addC, frz, dC, tupD, nilA, augF, subF, modF, fdivF, powF, oI, yes2, ownC, setF, ifF, andF, orF, blE, retF, retNF, nxF, noF, dropF, fzF, fzs, fz, unpF, xvE, itemC, cI, lt2, le2, gt2, ge2, boolD, notD, negD, callC, resC, isiE, isi_tup, isi_listCh, isi_listL, isi_int, isi_boolI, isi_strS, lenD_Pi, isN, notN, intO, slF, startD, List.replicate, scal_int, scal_str, scal_bl, scal_non, scal_L, scal_Pi, scal_Ch, scal_lst, scal_tup, itemsE_L, itemsE_Ch, itemsE_lst, andE_t, andE_f, lenD_L, lenD_Ch, lenD_lst, lenD_tup, e1, e2, neD_str hbL ha hne]
  · have e2 : (pg.length : Int) ≤ (g : Int) + (k : Int) := by omega
    simp [lb_first_missing_1, seqF, ownF, consA, un1, mp, bi, vE, vB, cellD, cellB, addC, frz, dC, tupD, nilA, augF, subF, modF, fdivF, powF, oI, yes2, ownC, setF, ifF, andF, orF, blE, retF, retNF, nxF, noF, dropF, fzF, fzs, fz, unpF, xvE, itemC, cI, lt2, le2, gt2, ge2, boolD, notD, negD, callC, resC, isiE, isi_tup, isi_listCh, isi_listL, isi_int, isi_boolI, isi_strS, lenD_Pi, isN, notN, intO, slF, startD, List.replicate, scal_int, scal_str, scal_bl, scal_non, scal_L, scal_Pi, scal_Ch, scal_lst, scal_tup, itemsE_L, itemsE_Ch, itemsE_lst, andE_t, andE_f, lenD_L, lenD_Ch, lenD_lst, lenD_tup, e2]
theorem fr_fmG {pg : List Str} {m : Bool} {g : Nat} {s1 s3 s4 : Option C} {m0 m1 : Bool} (hp : Ln pg) : ∀ (ta : List Str) (k : Nat) (x y : Option C), Ln ta →
    (∃ x' y', forD tg_first_missing_1 lb_first_missing_1 (enumI m k (ta.map D.str)) [some (.d m0 (L pg)), s1, some (.d m1 (.int g)), s3, s4, x, y] = some (.nx [some (.d m0 (L pg)), s1, some (.d m1 (.int g)), s3, s4, x', y']) ∧ ∀ i, i < ta.length → pg[g + (k + i)]? = ta[i]?) ∨
    ∃ j : Nat, forD tg_first_missing_1 lb_first_missing_1 (enumI m k (ta.map D.str)) [some (.d m0 (L pg)), s1, some (.d m1 (.int g)), s3, s4, x, y] = some (.rt true (.int j))
  | [], k, x, y, _ => .inl ⟨x, y, rfl, fun i hi => absurd hi (by simp)⟩
  | a :: ta, k, x, y, hL => by
    have ha := hL a (List.mem_cons_self ..)
    have tg : tg_first_missing_1 (m || scal (.tup [D.int (k : Nat), D.str a]), .tup [D.int (k : Nat), D.str a]) [some (.d m0 (L pg)), s1, some (.d m1 (.int g)), s3, s4, x, y] = some [some (.d m0 (L pg)), s1, some (.d m1 (.int g)), s3, s4, some (.d true (.int k)), some (.d true (.str a))] := by
      simp [tg_first_missing_1, tupT, consT, nameT, nilT, flag_cons, flag_nil, scal_int, scal_str]
    have tg : tg_first_missing_1 (m || scal (.str a), .tup [D.int (k : Nat), D.str a]) [some (.d m0 (L pg)), s1, some (.d m1 (.int g)), s3, s4, x, y] = some [some (.d m0 (L pg)), s1, some (.d m1 (.int g)), s3, s4, some (.d true (.int k)), some (.d true (.str a))] := by
      simp [tg_first_missing_1, tupT, consT, nameT, nilT, flag_cons, flag_nil, scal_int, scal_str]
    by_cases h0 : pg[g + k]? = some a
    · rcases fr_fmG (m := m) (g := g) (s1 := s1) (s3 := s3) (s4 := s4) (m0 := m0) (m1 := m1) hp ta (k + 1) (some (.d true (.int k))) (some (.d true (.str a))) fun z hz => hL z (List.mem_cons_of_mem _ hz) with ⟨x', y', ih, q⟩ | ⟨j, ih⟩
      · refine .inl ⟨x', y', ?_, fun i hi => ?_⟩
        · rw [List.map_cons, enumI_cons, forD_nx tg (lb_fm h0 ha), ih]
        · cases i with
          | zero => rw [Nat.add_zero, h0]; rfl
          | succ i =>
            rw [List.getElem?_cons_succ, ← q i (by simpa using hi)]
            congr 1
            omega
      · refine .inr ⟨j, ?_⟩
        rw [List.map_cons, enumI_cons, forD_nx tg (lb_fm h0 ha), ih]
    · refine .inr ⟨k, ?_⟩
      rw [List.map_cons, enumI_cons, forD_rt tg (lb_fmN h0 ha hp)]
theorem φ_fmG {pg : List Str} {p : Pc} (h0 : 0 ≤ p.1) (hp : Ln pg) (hL : Ln p.2.1) : (φ_first_missing [L pg, Pi p] = some (.ok true .non) ∧ FitAt pg p) ∨ ∃ j : Nat, φ_first_missing [L pg, Pi p] = some (.ok true (.int j)) := by
  obtain ⟨pl, ta, pu⟩ := p
  obtain ⟨g, rfl⟩ := Int.eq_ofNat_of_zero_le (show 0 ≤ pl from h0)
  by_cases hc : (pg.length : Int) < (g : Int)
  · refine .inr ⟨0, ?_⟩
    unfold φ_first_missing phi
    simp [g_first_missing, seqF, ownF, consA, un1, mp, bi, vE, vB, cellD, cellB, addC, frz, dC, tupD, nilA, augF, subF, modF, fdivF, powF, oI, yes2, ownC, setF, ifF, andF, orF, blE, retF, retNF, nxF, noF, dropF, fzF, fzs, fz, unpF, xvE, itemC, cI, lt2, le2, gt2, ge2, boolD, notD, negD, callC, resC, isiE, isi_tup, isi_listCh, isi_listL, isi_int, isi_boolI, isi_strS, lenD_Pi, isN, notN, intO, slF, startD, List.replicate, scal_int, scal_str, scal_bl, scal_non, scal_L, scal_Pi, scal_Ch, scal_lst, scal_tup, itemsE_L, itemsE_Ch, itemsE_lst, andE_t, andE_f, lenD_L, lenD_Ch, lenD_lst, lenD_tup, unp3, hc]
  · have en : enumF (false, [L ta]) = some (enumI false 0 (ta.map D.str)) := rfl
    rcases fr_fmG (pg := pg) (m := false) (g := g) (s1 := some (.d false (Pi ((g : Int), ta, pu)))) (s3 := some (.d false (L ta))) (s4 := some (.d false (L pu))) (m0 := false) (m1 := true) hp ta 0 none none hL with ⟨x', y', e, q⟩ | ⟨j, e⟩
    · refine .inl ⟨?_, ?_⟩
      · unfold φ_first_missing phi
        simp [g_first_missing, forF, seqF, ownF, consA, un1, mp, bi, vE, vB, cellD, cellB, addC, frz, dC, tupD, nilA, augF, subF, modF, fdivF, powF, oI, yes2, ownC, setF, ifF, andF, orF, blE, retF, retNF, nxF, noF, dropF, fzF, fzs, fz, unpF, xvE, itemC, cI, lt2, le2, gt2, ge2, boolD, notD, negD, callC, resC, isiE, isi_tup, isi_listCh, isi_listL, isi_int, isi_boolI, isi_strS, lenD_Pi, isN, notN, intO, slF, startD, List.replicate, scal_int, scal_str, scal_bl, scal_non, scal_L, scal_Pi, scal_Ch, scal_lst, scal_tup, itemsE_L, itemsE_Ch, itemsE_lst, andE_t, andE_f, lenD_L, lenD_Ch, lenD_lst, lenD_tup, unp3, hc, en, e]
      · refine fitAt_of ?_ fun i hi => by have := q i hi; rw [Nat.zero_add] at this; exact this
        by_cases hz : ta.length = 0
        · omega
        · have e1 := q (ta.length - 1) (by omega)
          rw [Nat.zero_add, List.getElem?_eq_getElem (show ta.length - 1 < ta.length by omega)] at e1
          have := lt_of_some e1
          omega
    · refine .inr ⟨j, ?_⟩
      unfold φ_first_missing phi
      simp [g_first_missing, forF, seqF, ownF, consA, un1, mp, bi, vE, vB, cellD, cellB, addC, frz, dC, tupD, nilA, augF, subF, modF, fdivF, powF, oI, yes2, ownC, setF, ifF, andF, orF, blE, retF, retNF, nxF, noF, dropF, fzF, fzs, fz, unpF, xvE, itemC, cI, lt2, le2, gt2, ge2, boolD, notD, negD, callC, resC, isiE, isi_tup, isi_listCh, isi_listL, isi_int, isi_boolI, isi_strS, lenD_Pi, isN, notN, intO, slF, startD, List.replicate, scal_int, scal_str, scal_bl, scal_non, scal_L, scal_Pi, scal_Ch, scal_lst, scal_tup, itemsE_L, itemsE_Ch, itemsE_lst, andE_t, andE_f, lenD_L, lenD_Ch, lenD_lst, lenD_tup, unp3, hc, en, e]
theorem fr_fuG {pg : List Str} {m : Bool} (hp : Ln pg) : ∀ (c : List Pc) (k : Nat) (s1 x y z : Option C), (∀ p ∈ c, 0 ≤ p.1 ∧ Ln p.2.1) →
    (∃ x' y' z', forD tg_first_unfit_1 lb_first_unfit_1 (enumI m k (c.map Pi)) [some (.d false (L pg)), s1, x, y, z] = some (.nx [some (.d false (L pg)), s1, x', y', z']) ∧ ∀ p ∈ c, FitAt pg p) ∨
    ∃ i j : Nat, forD tg_first_unfit_1 lb_first_unfit_1 (enumI m k (c.map Pi)) [some (.d false (L pg)), s1, x, y, z] = some (.rt true (.tup [.int i, .int j]))
  | [], k, s1, x, y, z, _ => .inl ⟨x, y, z, rfl, fun _ h => nomatch h⟩
  | p :: c, k, s1, x, y, z, h => by
    obtain ⟨h1, h2⟩ := h p (List.mem_cons_self ..)
    have tg : tg_first_unfit_1 (m || scal (Pi p), .tup [D.int (k : Nat), Pi p]) [some (.d false (L pg)), s1, x, y, z] = some [some (.d false (L pg)), s1, some (.d true (.int k)), some (.d m (Pi p)), z] := by
      simp [tg_first_unfit_1, tupT, consT, nameT, nilT, flag_cons, flag_nil, scal_int, scal_Pi]
    rcases φ_fmG h1 hp h2 with ⟨e, f⟩ | ⟨j, e⟩
    · have lb : lb_first_unfit_1 [some (.d false (L pg)), s1, some (.d true (.int k)), some (.d m (Pi p)), z] = some (.nx [some (.d false (L pg)), s1, some (.d true (.int k)), some (.d m (Pi p)), some (.dp .non)]) := by
        simp [lb_first_unfit_1, seqF, ownF, consA, un1, mp, bi, vE, vB, cellD, cellB, addC, frz, dC, tupD, nilA, augF, subF, modF, fdivF, powF, oI, yes2, ownC, setF, ifF, andF, orF, blE, retF, retNF, nxF, noF, dropF, fzF, fzs, fz, unpF, xvE, itemC, cI, lt2, le2, gt2, ge2, boolD, notD, negD, callC, resC, isiE, isi_tup, isi_listCh, isi_listL, isi_int, isi_boolI, isi_strS, lenD_Pi, isN, notN, intO, slF, startD, List.replicate, scal_int, scal_str, scal_bl, scal_non, scal_L, scal_Pi, scal_Ch, scal_lst, scal_tup, itemsE_L, itemsE_Ch, itemsE_lst, andE_t, andE_f, lenD_L, lenD_Ch, lenD_lst, lenD_tup, e]
      rcases fr_fuG (m := m) hp c (k + 1) s1 (some (.d true (.int k))) (some (.d m (Pi p))) (some (.dp .non)) fun q hq => h q (List.mem_cons_of_mem _ hq) with ⟨x', y', z', ih, q⟩ | ⟨i, j, ih⟩
      · refine .inl ⟨x', y', z', ?_, fun r hr => ?_⟩
        · rw [List.map_cons, enumI_cons, forD_nx tg lb, ih]
        · rcases List.mem_cons.mp hr with w | w
          · rw [w]; exact f
          · exact q r w
      · refine .inr ⟨i, j, ?_⟩
        rw [List.map_cons, enumI_cons, forD_nx tg lb, ih]
    · have lb : lb_first_unfit_1 [some (.d false (L pg)), s1, some (.d true (.int k)), some (.d m (Pi p)), z] = some (.rt true (.tup [.int k, .int j])) := by
        simp [lb_first_unfit_1, seqF, ownF, consA, un1, mp, bi, vE, vB, cellD, cellB, addC, frz, dC, tupD, nilA, augF, subF, modF, fdivF, powF, oI, yes2, ownC, setF, ifF, andF, orF, blE, retF, retNF, nxF, noF, dropF, fzF, fzs, fz, unpF, xvE, itemC, cI, lt2, le2, gt2, ge2, boolD, notD, negD, callC, resC, isiE, isi_tup, isi_listCh, isi_listL, isi_int, isi_boolI, isi_strS, lenD_Pi, isN, notN, intO, slF, startD, List.replicate, scal_int, scal_str, scal_bl, scal_non, scal_L, scal_Pi, scal_Ch, scal_lst, scal_tup, itemsE_L, itemsE_Ch, itemsE_lst, andE_t, andE_f, lenD_L, lenD_Ch, lenD_lst, lenD_tup, e, lim]
      refine .inr ⟨k, j, ?_⟩
      rw [List.map_cons, enumI_cons, forD_rt tg lb]
theorem φ_fiG {pg : List Str} {c : List Pc} (hp : Ln pg) (hl : pg.length ≤ 2000) (hc : Vc c) : ∃ b, φ_fits [L pg, Ch c] = some (.ok true (.bl b)) ∧ (b = true → ∀ p ∈ c, FitAt pg p) := by
  have en : enumF (false, [Ch c]) = some (enumI false 0 (c.map Pi)) := rfl
  rcases fr_fuG (m := false) hp c 0 (some (.d false (Ch c))) none none none fun p hq => ⟨(hc.bd p hq).1, (hc.ln p hq).1⟩ with ⟨x', y', z', e, q⟩ | ⟨i, j, e⟩
  · have e2 : φ_first_unfit [L pg, Ch c] = some (.ok true .non) := by
      unfold φ_first_unfit phi
      simp [g_first_unfit, forF, seqF, ownF, consA, un1, mp, bi, vE, vB, cellD, cellB, addC, frz, dC, tupD, nilA, augF, subF, modF, fdivF, powF, oI, yes2, ownC, setF, ifF, andF, orF, blE, retF, retNF, nxF, noF, dropF, fzF, fzs, fz, unpF, xvE, itemC, cI, lt2, le2, gt2, ge2, boolD, notD, negD, callC, resC, isiE, isi_tup, isi_listCh, isi_listL, isi_int, isi_boolI, isi_strS, lenD_Pi, isN, notN, intO, slF, startD, List.replicate, scal_int, scal_str, scal_bl, scal_non, scal_L, scal_Pi, scal_Ch, scal_lst, scal_tup, itemsE_L, itemsE_Ch, itemsE_lst, andE_t, andE_f, lenD_L, lenD_Ch, lenD_lst, lenD_tup, en, e]
    refine ⟨true, ?_, fun _ => q⟩
    unfold φ_fits phi
    simp [g_fits, seqF, ownF, consA, un1, mp, bi, vE, vB, cellD, cellB, addC, frz, dC, tupD, nilA, augF, subF, modF, fdivF, powF, oI, yes2, ownC, setF, ifF, andF, orF, blE, retF, retNF, nxF, noF, dropF, fzF, fzs, fz, unpF, xvE, itemC, cI, lt2, le2, gt2, ge2, boolD, notD, negD, callC, resC, isiE, isi_tup, isi_listCh, isi_listL, isi_int, isi_boolI, isi_strS, lenD_Pi, isN, notN, intO, slF, startD, List.replicate, scal_int, scal_str, scal_bl, scal_non, scal_L, scal_Pi, scal_Ch, scal_lst, scal_tup, itemsE_L, itemsE_Ch, itemsE_lst, andE_t, andE_f, lenD_L, lenD_Ch, lenD_lst, lenD_tup, φ_ckp hp hl, φ_ckc hc, e2]
  · have e2 : φ_first_unfit [L pg, Ch c] = some (.ok true (.tup [.int i, .int j])) := by
      unfold φ_first_unfit phi
      simp [g_first_unfit, forF, seqF, ownF, consA, un1, mp, bi, vE, vB, cellD, cellB, addC, frz, dC, tupD, nilA, augF, subF, modF, fdivF, powF, oI, yes2, ownC, setF, ifF, andF, orF, blE, retF, retNF, nxF, noF, dropF, fzF, fzs, fz, unpF, xvE, itemC, cI, lt2, le2, gt2, ge2, boolD, notD, negD, callC, resC, isiE, isi_tup, isi_listCh, isi_listL, isi_int, isi_boolI, isi_strS, lenD_Pi, isN, notN, intO, slF, startD, List.replicate, scal_int, scal_str, scal_bl, scal_non, scal_L, scal_Pi, scal_Ch, scal_lst, scal_tup, itemsE_L, itemsE_Ch, itemsE_lst, andE_t, andE_f, lenD_L, lenD_Ch, lenD_lst, lenD_tup, en, e]
    refine ⟨false, ?_, fun z => nomatch z⟩
    unfold φ_fits phi
    simp [g_fits, seqF, ownF, consA, un1, mp, bi, vE, vB, cellD, cellB, addC, frz, dC, tupD, nilA, augF, subF, modF, fdivF, powF, oI, yes2, ownC, setF, ifF, andF, orF, blE, retF, retNF, nxF, noF, dropF, fzF, fzs, fz, unpF, xvE, itemC, cI, lt2, le2, gt2, ge2, boolD, notD, negD, callC, resC, isiE, isi_tup, isi_listCh, isi_listL, isi_int, isi_boolI, isi_strS, lenD_Pi, isN, notN, intO, slF, startD, List.replicate, scal_int, scal_str, scal_bl, scal_non, scal_L, scal_Pi, scal_Ch, scal_lst, scal_tup, itemsE_L, itemsE_Ch, itemsE_lst, andE_t, andE_f, lenD_L, lenD_Ch, lenD_lst, lenD_tup, φ_ckp hp hl, φ_ckc hc, e2]
/-! ### the law's own doing -/
theorem lb_ld {pre g ta r pu : List Str} {acc : List Str} {n m0 m1 m2 m3 m4 : Bool} {s1 : Option C} (h : acc.length + (g.length + pu.length) ≤ lim) :
    lb__law_done_1 [some (.d m0 (L (pre ++ (g ++ (ta ++ r))))), s1, some (.own n (acc.map .str)), some (.d m1 (.int pre.length)), some (.d m2 (.int ((pre.length : Int) + (g.length : Int)))), some (.d m3 (L ta)), some (.d m4 (L pu))] =
      some (.nx [some (.d m0 (L (pre ++ (g ++ (ta ++ r))))), s1, some (.own (n && m4) ((acc ++ (g ++ pu)).map .str)), some (.d true (.int ((pre.length : Int) + (g.length : Int) + (ta.length : Int)))), some (.d m2 (.int ((pre.length : Int) + (g.length : Int)))), some (.d m3 (L ta)), some (.d m4 (L pu))]) := by
  have a1 : addC (n, .lst (acc.map .str)) (true, .lst (g.map .str)) = some (.own (n && true) ((acc ++ g).map .str)) := addC_L (a := acc) (b := g) (by omega)
  have a2 : addC (n && true, .lst ((acc ++ g).map .str)) (m4, L pu) = some (.own (n && true && m4) ((acc ++ g ++ pu).map .str)) := addC_L (a := acc ++ g) (b := pu) (by rw [List.length_append]; omega)
  rw [Bool.and_true] at a1 a2
  simp only [List.append_assoc] at a2
  unfold lb__law_done_1
  refine (seqF_nx (τ' := [some (.d m0 (L (pre ++ (g ++ (ta ++ r))))), s1, some (.own (n && m4) ((acc ++ (g ++ pu)).map .str)), some (.d m1 (.int pre.length)), some (.d m2 (.int ((pre.length : Int) + (g.length : Int)))), some (.d m3 (L ta)), some (.d m4 (L pu))]) ?_).trans ?_
  · simp only [fzF, fzs, fz, setF, bi, mp, slF, un1, vE, vB, cellD, cellB, frz, intO, List.getElem?_cons_zero, List.getElem?_cons_succ, List.set_cons_succ, List.set_cons_zero, Option.bind_some, Option.map_some, cutC_L, cut_mid, a1, a2]
  · simp [setF, bi, vE, vB, cellD, cellB, frz, un1, lenD_L, addC]
theorem fr_ld {pgA : List Str} {m m0 : Bool} {s1 : Option C} : ∀ (c : List Pc) (pre cur acc : List Str) (n m1 : Bool) (x y z : Option C), pgA = pre ++ cur → FitD pre.length cur c → acc.length + (repl pre.length cur c).length ≤ lim →
    ∃ pre' cur' acc' n' m1' x' y' z', forD tg__law_done_1 lb__law_done_1 (flag m (c.map Pi)) [some (.d m0 (L pgA)), s1, some (.own n (acc.map .str)), some (.d m1 (.int pre.length)), x, y, z] =
      some (.nx [some (.d m0 (L pgA)), s1, some (.own n' (acc'.map .str)), some (.d m1' (.int (List.length pre'))), x', y', z']) ∧ pgA = pre' ++ cur' ∧ acc' ++ cur' = acc ++ repl pre.length cur c
  | [], pre, cur, acc, n, m1, x, y, z, e, _, _ => ⟨pre, cur, acc, n, m1, x, y, z, rfl, e, rfl⟩
  | (pl, ta, pu) :: c, pre, cur, acc, n, m1, x, y, z, e, h, hl => by
    obtain ⟨g, r, e1, e2, h⟩ := h
    dsimp only at e1 e2 h
    subst e1
    have ep : (pl + (ta.length : Int)) = ((pre ++ (g ++ ta)).length : Int) := by rw [e2]; simp; omega
    rw [repl_cons' e2] at hl
    rw [ep] at h hl
    rw [List.length_append, List.length_append] at hl
    obtain ⟨pre', cur', acc', n', m1', x', y', z', ih, f1, f2⟩ := fr_ld (pgA := pgA) (m := m) (m0 := m0) (s1 := s1) c (pre ++ (g ++ ta)) r (acc ++ (g ++ pu)) (n && m) true (some (.d true (.int pl))) (some (.d m (L ta))) (some (.d m (L pu))) (by rw [e]; simp) h (by rw [List.length_append, List.length_append]; omega)
    refine ⟨pre', cur', acc', n', m1', x', y', z', ?_, f1, by rw [f2, repl_cons' e2, ep]; simp⟩
    rw [List.map_cons, flag_cons, forD_nx (τ1 := [some (.d m0 (L pgA)), s1, some (.own n (acc.map .str)), some (.d m1 (.int pre.length)), some (.d true (.int pl)), some (.d m (L ta)), some (.d m (L pu))])
      (τ2 := [some (.d m0 (L pgA)), s1, some (.own (n && m) ((acc ++ (g ++ pu)).map .str)), some (.d true (.int (List.length (pre ++ (g ++ ta))))), some (.d true (.int pl)), some (.d m (L ta)), some (.d m (L pu))]) ?_ ?_, ih]
    · simp [tg__law_done_1, tupT, consT, nameT, nilT, flag_cons, flag_nil, scal_int, scal_L, Pi, scal_tup]
    · have := lb_ld (pre := pre) (g := g) (ta := ta) (r := r) (pu := pu) (acc := acc) (n := n) (m0 := m0) (m1 := m1) (m2 := true) (m3 := m) (m4 := m) (s1 := s1) (by omega)
      rw [← e] at this
      rw [e2, this]
      congr 6
      simp
      omega
theorem φ_ld {pg : List Str} {c : List Pc} (h : FitD 0 pg c) (hl : (repl 0 pg c).length ≤ lim) : ∃ m, φ__law_done [L pg, Ch c] = some (.ok m (L (repl 0 pg c))) := by
  obtain ⟨pre', cur', acc', n', m1', x', y', z', e, f1, f2⟩ := fr_ld (pgA := pg) (m := false) (m0 := false) (s1 := some (.d false (Ch c))) c [] pg [] true true none none none rfl h (by simpa using hl)
  have hz : acc'.length + cur'.length ≤ lim := by
    have := congrArg List.length f2
    simp at this
    omega
  have ee : forD tg__law_done_1 lb__law_done_1 (flag false (List.map Pi c)) [some (C.d false (L pg)), some (C.d false (Ch c)), some (C.own true []), some (C.d true (D.int 0)), none, none, none] = _ := e
  have f3 : cutL pg (some (pre'.length : Int)) none = cur' := by rw [f1, cut_end]
  have f4 : acc' ++ cur' = repl 0 pg c := f2
  have a1 : addC (n', .lst (acc'.map .str)) (true, .lst (cur'.map .str)) = some (.own (n' && true) ((acc' ++ cur').map .str)) := addC_L (a := acc') (b := cur') hz
  refine ⟨n' && true, phi_rt (n := 7) (g := g__law_done) ?_⟩
  have st : startD 7 [L pg, Ch c] = [some (.d false (L pg)), some (.d false (Ch c)), none, none, none, none, none] := rfl
  rw [st]
  unfold g__law_done
  refine (seqF_nx (τ' := [some (.d false (L pg)), some (.d false (Ch c)), some (.own true []), none, none, none, none]) rfl).trans
    ((seqF_nx (τ' := [some (.d false (L pg)), some (.d false (Ch c)), some (.own true []), some (.d true (.int 0)), none, none, none]) rfl).trans
    ((seqF_nx (τ' := _) (by unfold forF; rw [un1_of (x := (false, Ch c)) rfl itemsE_Ch]; exact ee)).trans ?_))
  simp only [fzF, fzs, fz, retF, bi, mp, slF, un1, vE, vB, cellD, cellB, frz, intO, List.getElem?_cons_zero, List.getElem?_cons_succ, List.set_cons_succ, List.set_cons_zero, Option.bind_some, Option.map_some, cutC_L, f3, a1, f4]
  rfl
/-! ### the law's own look whether they meet -/
theorem lb_lm1 {s0 s1 s2 s3 s4 : Option C} {m5 m6 m7 : Bool} {pu : List Str} {b : Int} {ta : List Str} {q : Pc} :
    lb__law_meet_1 [s0, s1, s2, s3, s4, some (.d m5 (L pu)), some (.d m6 (.int b)), some (.d m7 (Pi q))] = if meetB q (b, pu, ta) = true then some (.rt true (.bl true)) else some (.nx [s0, s1, s2, s3, s4, some (.d m5 (L pu)), some (.d m6 (.int b)), some (.d m7 (Pi q))]) := by
  have e1 : addC (m6, .int b) (true, .int (pu.length : Int)) = some (.d true (.int (b + (pu.length : Int)))) := rfl
  have e2 : addC (m7 || true, .int q.1) (true, .int (q.2.1.length : Int)) = some (.d true (.int (q.1 + (q.2.1.length : Int)))) := by rfl
  by_cases h1 : q.1 ≤ b + (pu.length : Int)
  · by_cases h2 : b ≤ q.1 + (q.2.1.length : Int)
    · simp [lb__law_meet_1, fzF, fzs, fz, frz, ifF, andF, bi, mp, vE, vB, cellD, cellB, itemB_Pi0, itemB_Pi1, un1, lenD_L, e1, cI, le2, h1, xvE, itemC_Pi0, addC, h2, meetB, retF]
    · simp [lb__law_meet_1, fzF, fzs, fz, frz, ifF, andF, bi, mp, vE, vB, cellD, cellB, itemB_Pi0, itemB_Pi1, un1, lenD_L, e1, cI, le2, h1, xvE, itemC_Pi0, addC, h2, meetB, nxF]
  · simp [lb__law_meet_1, fzF, fzs, fz, frz, ifF, andF, bi, mp, vE, vB, cellD, cellB, itemB_Pi0, un1, lenD_L, e1, cI, le2, h1, addC, meetB, nxF]
theorem fr_lm1 {s0 s1 s2 s3 s4 : Option C} {m m5 m6 : Bool} {pu : List Str} {b : Int} {ta : List Str} : ∀ (c : List Pc) (x7 : Option C), ∃ y7, forD tg__law_meet_1 lb__law_meet_1 (flag m (c.map Pi)) [s0, s1, s2, s3, s4, some (.d m5 (L pu)), some (.d m6 (.int b)), x7] =
    if (c.any fun q => meetB q (b, pu, ta)) = true then some (.rt true (.bl true)) else some (.nx [s0, s1, s2, s3, s4, some (.d m5 (L pu)), some (.d m6 (.int b)), y7])
  | [], x7 => ⟨x7, rfl⟩
  | q :: c, x7 => by
    obtain ⟨y7, ih⟩ := fr_lm1 (s0 := s0) (s1 := s1) (s2 := s2) (s3 := s3) (s4 := s4) (m := m) (m5 := m5) (m6 := m6) (pu := pu) (b := b) (ta := ta) c (some (.d m (Pi q)))
    refine ⟨y7, ?_⟩
    have lb := lb_lm1 (s0 := s0) (s1 := s1) (s2 := s2) (s3 := s3) (s4 := s4) (m5 := m5) (m6 := m6) (m7 := m) (pu := pu) (b := b) (ta := ta) (q := q)
    have tg : tg__law_meet_1 (m || scal (Pi q), Pi q) [s0, s1, s2, s3, s4, some (.d m5 (L pu)), some (.d m6 (.int b)), x7] = some [s0, s1, s2, s3, s4, some (.d m5 (L pu)), some (.d m6 (.int b)), some (.d m (Pi q))] := by
      rw [scal_Pi, Bool.or_false]; rfl
    rw [List.map_cons, flag_cons, List.any_cons]
    by_cases h : meetB q (b, pu, ta) = true
    · rw [if_pos h] at lb
      rw [forD_rt tg lb, h, Bool.true_or, if_pos rfl]
    · rw [if_neg h] at lb
      rw [forD_nx tg lb, ih, Bool.eq_false_iff.mpr h, Bool.false_or]
theorem fr_lm2 {s0 : Option C} {m m1 : Bool} {other : List Pc} : ∀ (c : List Pc) (s : Int) (m2 : Bool) (x3 x4 x5 x6 x7 : Option C), ∃ y2 y3 y4 y5 y6 y7, forD tg__law_meet_2 lb__law_meet_2 (flag m (c.map Pi)) [s0, some (.d m1 (Ch other)), some (.d m2 (.int s)), x3, x4, x5, x6, x7] =
    if ((turn s c).any fun t => other.any fun q => meetB q t) = true then some (.rt true (.bl true)) else some (.nx [s0, some (.d m1 (Ch other)), y2, y3, y4, y5, y6, y7])
  | [], s, m2, x3, x4, x5, x6, x7 => ⟨_, x3, x4, x5, x6, x7, rfl⟩
  | (pl, ta, pu) :: c, s, m2, x3, x4, x5, x6, x7 => by
    obtain ⟨z7, i1⟩ := fr_lm1 (s0 := s0) (s1 := some (.d m1 (Ch other))) (s2 := some (.d m2 (.int s))) (s3 := some (.d true (.int pl))) (s4 := some (.d m (L ta))) (m := m1) (m5 := m) (m6 := true) (pu := pu) (b := pl + s) (ta := ta) other x7
    obtain ⟨y2, y3, y4, y5, y6, y7, ih⟩ := fr_lm2 (s0 := s0) (m := m) (m1 := m1) (other := other) c (s + ((pu.length : Int) - (ta.length : Int))) true (some (.d true (.int pl))) (some (.d m (L ta))) (some (.d m (L pu))) (some (.d true (.int (pl + s)))) z7
    refine ⟨y2, y3, y4, y5, y6, y7, ?_⟩
    have tg : tg__law_meet_2 (m || scal (Pi (pl, ta, pu)), Pi (pl, ta, pu)) [s0, some (.d m1 (Ch other)), some (.d m2 (.int s)), x3, x4, x5, x6, x7] = some [s0, some (.d m1 (Ch other)), some (.d m2 (.int s)), some (.d true (.int pl)), some (.d m (L ta)), some (.d m (L pu)), x6, x7] := by
      rw [scal_Pi, Bool.or_false]
      unfold tg__law_meet_2
      rw [tgPi]
      rfl
    have it : un1 (vE 1) itemsE [s0, some (.d m1 (Ch other)), some (.d m2 (.int s)), some (.d true (.int pl)), some (.d m (L ta)), some (.d m (L pu)), some (.d true (.int (pl + s))), x7] = some (flag m1 (other.map Pi)) := un1_of (x := (m1, Ch other)) rfl itemsE_Ch
    have b1 : setF 6 (bi (vE 3) (vE 2) addC) [s0, some (.d m1 (Ch other)), some (.d m2 (.int s)), some (.d true (.int pl)), some (.d m (L ta)), some (.d m (L pu)), x6, x7] = some (.nx [s0, some (.d m1 (Ch other)), some (.d m2 (.int s)), some (.d true (.int pl)), some (.d m (L ta)), some (.d m (L pu)), some (.d true (.int (pl + s))), x7]) := by
      simp [setF, bi, vE, cellD, addC]
    rw [List.map_cons, flag_cons]
    show _ = if ((((pl + s, pu, ta) : Pc) :: turn (s + ((pu.length : Int) - (ta.length : Int))) c).any fun t => other.any fun q => meetB q t) = true then _ else _
    rw [List.any_cons]
    by_cases h : (other.any fun q => meetB q (pl + s, pu, ta)) = true
    · rw [if_pos h] at i1
      have lb : lb__law_meet_2 [s0, some (.d m1 (Ch other)), some (.d m2 (.int s)), some (.d true (.int pl)), some (.d m (L ta)), some (.d m (L pu)), x6, x7] = some (.rt true (.bl true)) := by
        unfold lb__law_meet_2
        refine (seqF_nx b1).trans (seqF_rt ?_)
        unfold forF
        rw [it]
        exact i1
      rw [forD_rt tg lb, h, Bool.true_or, if_pos rfl]
    · rw [if_neg h] at i1
      have lb : lb__law_meet_2 [s0, some (.d m1 (Ch other)), some (.d m2 (.int s)), some (.d true (.int pl)), some (.d m (L ta)), some (.d m (L pu)), x6, x7] = some (.nx [s0, some (.d m1 (Ch other)), some (.d true (.int (s + ((pu.length : Int) - (ta.length : Int))))), some (.d true (.int pl)), some (.d m (L ta)), some (.d m (L pu)), some (.d true (.int (pl + s))), z7]) := by
        unfold lb__law_meet_2
        refine (seqF_nx b1).trans ((seqF_nx (by unfold forF; rw [it]; exact i1)).trans ?_)
        simp [setF, mp, subF, oI, yes2, bi, vE, vB, cellD, cellB, frz, un1, lenD_L, addC, dC]
        omega
      rw [forD_nx tg lb, ih, Bool.eq_false_iff.mpr h, Bool.false_or]
theorem φ_lm (one other : List Pc) : φ__law_meet [Ch one, Ch other] = some (.ok true (.bl (anyMeet other (turn 0 one)))) := by
  obtain ⟨y2, y3, y4, y5, y6, y7, e⟩ := fr_lm2 (s0 := some (.d false (Ch one))) (m := false) (m1 := false) (other := other) one 0 true none none none none none
  have sw : ((turn 0 one).any fun t => other.any fun q => meetB q t) = anyMeet other (turn 0 one) := by
    unfold anyMeet
    rw [Bool.eq_iff_iff, List.any_eq_true, List.any_eq_true]
    constructor
    · rintro ⟨t, ht, h⟩
      rw [List.any_eq_true] at h
      obtain ⟨q, hq, h⟩ := h
      exact ⟨q, hq, List.any_eq_true.mpr ⟨t, ht, h⟩⟩
    · rintro ⟨q, hq, h⟩
      rw [List.any_eq_true] at h
      obtain ⟨t, ht, h⟩ := h
      exact ⟨t, ht, List.any_eq_true.mpr ⟨q, hq, h⟩⟩
  rw [sw] at e
  refine phi_rt (n := 8) (g := g__law_meet) ?_
  have st : startD 8 [Ch one, Ch other] = [some (.d false (Ch one)), some (.d false (Ch other)), none, none, none, none, none, none] := rfl
  rw [st]
  unfold g__law_meet
  refine (seqF_nx (τ' := [some (.d false (Ch one)), some (.d false (Ch other)), some (.d true (.int 0)), none, none, none, none, none]) rfl).trans ?_
  have ef : forF (un1 (vE 0) itemsE) tg__law_meet_2 lb__law_meet_2 [some (.d false (Ch one)), some (.d false (Ch other)), some (.d true (.int 0)), none, none, none, none, none] = if anyMeet other (turn 0 one) = true then some (.rt true (.bl true)) else some (.nx [some (.d false (Ch one)), some (.d false (Ch other)), y2, y3, y4, y5, y6, y7]) := by
    unfold forF
    rw [un1_of (x := (false, Ch one)) rfl itemsE_Ch]
    exact e
  by_cases h : anyMeet other (turn 0 one) = true
  · rw [if_pos h] at ef
    rw [seqF_rt ef, h]
  · rw [if_neg h] at ef
    rw [seqF_nx ef, Bool.eq_false_iff.mpr h]
    rfl
end K05
end
section
set_option Elab.async false
set_option linter.all false
set_option maxRecDepth 100000
set_option maxHeartbeats 4000000
namespace K05
open PySem Dl
/-! ### the exchanged pair on a page -/
theorem mvs_mem {r c : List Pc} {p : Pc} (h : p ∈ mvs r c) : ∃ q ∈ c, p.2 = q.2 := by
  unfold mvs at h
  obtain ⟨q, hq, e⟩ := List.mem_map.mp h
  exact ⟨q, hq, by rw [← e]; rfl⟩
theorem mvs_len {r c : List Pc} : (mvs r c).length = c.length := by unfold mvs; rw [List.length_map]
theorem Sm5.mv {pg pg2 : List Str} {r c : List Pc} (h : Sm5 pg c) (ha : Ap (-1) (mvs r c)) (hf : FitD 0 pg2 (mvs r c)) : Sm5 pg2 (mvs r c) := ⟨ha, fun p hp => FitD.all (pre := []) rfl hf p hp, fun p hp => by
  obtain ⟨q, hq, e⟩ := mvs_mem hp
  rw [e]; exact h.ln q hq, fun p hp => by
  obtain ⟨q, hq, e⟩ := mvs_mem hp
  rw [e]; exact h.ne q hq, fun p hp => by
  obtain ⟨q, hq, e⟩ := mvs_mem hp
  rw [e]; exact h.bd q hq, by rw [mvs_len]; exact h.ct⟩
theorem w10_eq : flip false w00 = w10 := by funext u; cases u <;> rfl
def w01 : W := fun u => u
def w11 : W := fun _ => true
theorem w01_eq : flip true w00 = w01 := by funext u; cases u <;> rfl
theorem w11_a : flip true w10 = w11 := by funext u; cases u <;> rfl
theorem w11_b : flip false w01 = w11 := by funext u; cases u <;> rfl
theorem w00_a : flip true w01 = w00 := by funext u; cases u <;> rfl
theorem w00_b : flip false w10 = w00 := by funext u; cases u <;> rfl
/-- what exchanged is, on a page where both fit in turn -/
structure Ex (pg : List Str) (one other : List Pc) : Prop where
  sf : Sm5 pg (exch one other).1
  ss : Sm5 (repl 0 pg (exch one other).1) (exch one other).2
  eq : repl 0 (repl 0 pg (exch one other).1) (exch one other).2 = repl 0 (repl 0 pg one) other
  nm : anyMeet (exch one other).2 (turn 0 (exch one other).1) = false
  back : exch (exch one other).1 (exch one other).2 = (one, other)
theorem ex_ok {pg : List Str} {one other : List Pc} (s1 : Sm5 pg one) (s2 : Sm5 (repl 0 pg one) other) (h : anyMeet other (turn 0 one) = false) : Ex pg one other := by
  have nm : ∀ q ∈ other, ∀ t ∈ turn 0 one, meetB q t = false := fun q hq t ht => by
    unfold anyMeet at h
    have h1 := List.any_eq_false.mp h q hq
    rw [Bool.not_eq_true] at h1
    have h2 := List.any_eq_false.mp h1 t ht
    rw [Bool.not_eq_true] at h2
    exact h2
  obtain ⟨m, t, e1, e2, e3, g⟩ := merge _ one other 0 0 1 pg (Nat.le_refl _) s1.fd (by rw [Int.add_zero]; exact s2.fd) s1.ap s2.ap nm
  rw [Int.add_zero] at e3
  have tu : turn 0 one = selR false w10 0 m := by
    rw [e2, turn_sel rfl m 0 0, w10_eq, Int.add_zero]
  have f1 : (exch one other).1 = sel true w00 0 m := by
    show mvs (turn 0 one) other = _
    rw [tu, e3, mvs_sel0 (by decide) g, w00_b]
  have f2 : (exch one other).2 = sel false w01 0 m := by
    show mvs (exch one other).1 one = _
    rw [f1, e2, sel_R (s := true) (w := w00) rfl, mvs_sel0 (by decide) g, w01_eq]
  have a1 := fit_sel (s := true) (w := w00) rfl (t := t) m 0
  have a2 := fit_sel (s := false) (w := w01) rfl (t := t) m 0
  have a3 := fit_sel (s := false) (w := w00) rfl (t := t) m 0
  have a4 := fit_sel (s := true) (w := w10) rfl (t := t) m 0
  have p1 : repl 0 pg (exch one other).1 = rend w01 m t := by rw [f1, e1, a1.2, w01_eq]
  have tf : turn 0 (exch one other).1 = selR true w01 0 m := by rw [f1, turn_sel rfl m 0 0, w01_eq, Int.add_zero]
  refine ⟨?_, ?_, ?_, ?_, ?_⟩
  · have ap : Ap (-1) (mvs (turn 0 one) other) := by
      show Ap (-1) (exch one other).1
      rw [f1]
      exact Ap_sel (s := true) (w := w00) rfl (k := 0) (e := 1) g
    refine s2.mv ap ?_
    show FitD 0 pg (exch one other).1
    rw [f1, e1]
    exact a1.1
  · have ap : Ap (-1) (mvs (exch one other).1 one) := by
      show Ap (-1) (exch one other).2
      rw [f2]
      exact Ap_sel (s := false) (w := w01) rfl (k := 0) (e := 1) g
    refine s1.mv ap ?_
    show FitD 0 _ (exch one other).2
    rw [f2, p1]
    exact a2.1
  · have q1 : repl 0 pg one = rend w10 m t := by rw [e1, e2, a3.2, w10_eq]
    rw [p1, f2, a2.2, w11_b, q1, e3, a4.2, w11_a]
  · rw [tf, f2]
    exact any_false (by decide) rfl g
  · show (mvs (turn 0 (exch one other).1) (exch one other).2, mvs (mvs (turn 0 (exch one other).1) (exch one other).2) (exch one other).1) = _
    have h1 : mvs (turn 0 (exch one other).1) (exch one other).2 = one := by
      rw [tf, f2, mvs_sel0 (by decide) g, w00_a, e2]
    rw [h1, f1]
    congr 1
    rw [e2, sel_R (s := false) (w := w00) rfl, mvs_sel0 (by decide) g, w10_eq, e3]
/-! ### the same on any page that both fit -/
theorem φ_sm {pg pg0 : List Str} {one other : List Pc} (lp : Ln pg) (hl : pg.length ≤ 40) (s1 : Sm5 pg one) (s2 : Sm5 (repl 0 pg0 one) other) (h0 : (repl 0 pg0 one).length ≤ 40) (sf : Sm5 pg0 (exch one other).1) (hl0 : pg0.length ≤ 40) (ss : Sm5 (repl 0 pg0 (exch one other).1) (exch one other).2) (h : anyMeet other (turn 0 one) = false) :
    φ__law_same [L pg, Ch one, Ch other, Ch (exch one other).1, Ch (exch one other).2] = some (.ok true (.bl true)) := by
  have l3 : lim = 16777216 := rfl
  have c1 := s1.ct
  have c2 := s2.ct
  have v1 := s1.vc (by omega)
  have v2 := s2.vc (by omega)
  have rl := repl_len s1.fd fun p hp => (s1.bd p hp).2
  have lp1 := repl_Ln s1.fd lp s1.ln
  have e1 := φ_fi lp (by omega) v1 s1.fd
  obtain ⟨m1, e2⟩ := φ_do lp (by omega) v1 s1.fd (by omega)
  obtain ⟨b, e3, q⟩ := φ_fiG lp1 (by omega) v2
  refine phi_rt (n := 5) (g := g__law_same) ?_
  have st : startD 5 [L pg, Ch one, Ch other, Ch (exch one other).1, Ch (exch one other).2] = [some (.d false (L pg)), some (.d false (Ch one)), some (.d false (Ch other)), some (.d false (Ch (exch one other).1)), some (.d false (Ch (exch one other).2))] := rfl
  rw [st]
  unfold g__law_same
  cases b with
  | false =>
    refine seqF_rt ?_
    cases m1 <;> simp [ifF, orF, un1, mp, callC, consA, vE, cellD, nilA, e1, e2, e3, resC, frz, scal_L, boolD, retF]
  | true =>
    have s2' : Sm5 (repl 0 pg one) other := ⟨s2.ap, q rfl, s2.ln, s2.ne, s2.bd, s2.ct⟩
    have X := ex_ok s1 s2' h
    have xf := X.sf
    have xs := X.ss
    have xe := X.eq
    have d1 := xf.ct
    have d2 := xs.ct
    have rl2 := repl_len xf.fd fun p hp => (xf.bd p hp).2
    have rl3 := repl_len xs.fd fun p hp => (xs.bd p hp).2
    have rl4 := repl_len s2'.fd fun p hp => (s2'.bd p hp).2
    have lp2 := repl_Ln xf.fd lp xf.ln
    have lp3 := repl_Ln s2'.fd lp1 s2'.ln
    have e4 := φ_fi lp (by omega) (xf.vc (by omega)) xf.fd
    obtain ⟨m2, e5⟩ := φ_do lp (by omega) (xf.vc (by omega)) xf.fd (by omega)
    have e6 := φ_fi lp2 (by omega) (xs.vc (by omega)) xs.fd
    obtain ⟨m3, e7⟩ := φ_do lp2 (by omega) (xs.vc (by omega)) xs.fd (by omega)
    obtain ⟨m4, e8⟩ := φ_do lp1 (by omega) v2 s2'.fd (by omega)
    rw [xe] at e7
    have eq := eqD_self (okEq_L lp3)
    generalize (exch one other).1 = f at *
    generalize (exch one other).2 = s at *
    refine (seqF_nx (τ' := [some (.d false (L pg)), some (.d false (Ch one)), some (.d false (Ch other)), some (.d false (Ch f)), some (.d false (Ch s))]) ?_).trans
      ((seqF_nx (τ' := [some (.d false (L pg)), some (.d false (Ch one)), some (.d false (Ch other)), some (.d false (Ch f)), some (.d false (Ch s))]) ?_).trans ?_)
    · cases m1 <;> simp [ifF, orF, un1, mp, callC, consA, vE, cellD, nilA, e1, e2, e3, resC, frz, scal_L, boolD, nxF]
    · cases m2 <;> simp [ifF, orF, un1, mp, callC, consA, vE, cellD, nilA, e4, e5, e6, resC, frz, scal_L, boolD, nxF]
    · cases m1 <;> cases m2 <;> cases m3 <;> cases m4 <;> simp [retF, blE, bi, mp, callC, consA, vE, cellD, nilA, e2, e5, e7, e8, resC, frz, scal_L, eq]
end K05
end
section
set_option Elab.async false
set_option linter.all false
set_option maxRecDepth 100000
set_option maxHeartbeats 4000000
namespace K05
open PySem Dl
/-! ### the law -/
theorem okEq_2 {tup : Bool} {a b : List Pc} (ha : LnC a) (hb : LnC b) : okEq (if tup = true then .tup [Ch a, Ch b] else .lst [Ch a, Ch b]) = true := by
  obtain ⟨h1, h2, h3⟩ := lay_pcs a ha
  obtain ⟨g1, g2, g3⟩ := lay_pcs b hb
  cases tup <;> simp [okEq, Ch, plainD, plainL, py, pyL, SeqAt.shaped, PyData.canLay0, PyData.canLayAll0, PyData.depth, PyData.depthAll, h1, h2, g1, g2] <;> omega
/-- a piece without its place -/
def Tl (p : Pc) : D := .tup [L p.2.1, L p.2.2]
theorem lay_tl : ∀ c : List Pc, LnC c → plainL (c.map Tl) = true ∧ PyData.canLayAll0 (pyL (c.map Tl)) = true ∧ PyData.depthAll (pyL (c.map Tl)) ≤ 2
  | [], _ => ⟨rfl, rfl, by decide⟩
  | p :: c, h => by
    obtain ⟨h1, h2, h3⟩ := lay_tl c fun y hy => h y (List.mem_cons_of_mem _ hy)
    obtain ⟨a1, a2, a3⟩ := lay_strs p.2.1 (h p (List.mem_cons_self ..)).1
    obtain ⟨b1, b2, b3⟩ := lay_strs p.2.2 (h p (List.mem_cons_self ..)).2
    refine ⟨?_, ?_, ?_⟩
    · simp [plainL, plainD, Tl, L, h1, a1, b1]
    · simp [pyL, py, Tl, L, PyData.canLayAll0, PyData.canLay0, h2, a2, b2]
    · simp [pyL, py, Tl, L, PyData.depthAll, PyData.depth, a3, b3]
      omega
theorem okEq_tl {c : List Pc} (h : LnC c) : okEq (.lst (c.map Tl)) = true := by
  obtain ⟨h1, h2, h3⟩ := lay_tl c h
  simp [okEq, plainD, py, SeqAt.shaped, PyData.canLay0, PyData.depth, h1, h2]
  omega
theorem cutC_Pi {m : Bool} {p : Pc} : cutC (m, Pi p) (some 1) none = some (.d (m || false) (Tl p)) := by
  show (if HT.sIx 3 0 (some 1) = 0 ∧ HT.sIx 3 3 none = 3 then none else some (C.d (m || allScal [D.int p.1, L p.2.1, L p.2.2]) (.tup (cutL [D.int p.1, L p.2.1, L p.2.2] (some 1) none)))) = _
  rw [if_neg (by rintro ⟨h, _⟩; revert h; decide), cut_one]
  rfl
theorem mvs_tl {r c : List Pc} : (mvs r c).map Tl = c.map Tl := by
  unfold mvs
  rw [List.map_map]
  exact List.map_congr_left fun p _ => rfl
theorem lc_tl {e : FE} {t : TgD} (he : e = mp (slF (vE 11) (un1 (mp (fun _ => some (true, D.int 1)) (·.2)) intO) (fun _ => some none) cutC) frz) (ht : t = nameT 11) {a0 a1 a2 a3 a4 a5 a6 a7 a8 a9 a10 a11 : Option C} : ∀ c : List Pc,
    lcD [11] t (fun _ => some true) e [a0, a1, a2, a3, a4, a5, a6, a7, a8, a9, a10, a11] (flag true (c.map Pi)) = some (true, c.map Tl)
  | [] => rfl
  | p :: c => by
    have ih := lc_tl he ht (a0 := a0) (a1 := a1) (a2 := a2) (a3 := a3) (a4 := a4) (a5 := a5) (a6 := a6) (a7 := a7) (a8 := a8) (a9 := a9) (a10 := a10) (a11 := a11) c
    have t1 : t (true || scal (Pi p), Pi p) (wD [a0, a1, a2, a3, a4, a5, a6, a7, a8, a9, a10, a11] [11]) = some [a0, a1, a2, a3, a4, a5, a6, a7, a8, a9, a10, some (.d true (Pi p))] := by rw [ht]; rfl
    have e1 : e [a0, a1, a2, a3, a4, a5, a6, a7, a8, a9, a10, some (.d true (Pi p))] = some (true, Tl p) := by
      rw [he]
      simp [mp, slF, vE, cellD, un1, intO, cutC_Pi, frz]
    rw [List.map_cons, flag_cons, lcD, t1, Option.bind_some, Option.bind_some, if_pos rfl, e1, Option.bind_some, ih]
    rfl
section
variable {a0 a1 a2 a3 a4 a5 a6 a7 a8 a9 a10 a11 : Option C}
theorem lcF_tl {e : FE} {t : TgD} (he : e = mp (slF (vE 11) (un1 (mp (fun _ => some (true, D.int 1)) (·.2)) intO) (fun _ => some none) cutC) frz) (ht : t = nameT 11) {i : Nat} {c : List Pc} (hl : c.length ≤ 10) (h : vE i [a0, a1, a2, a3, a4, a5, a6, a7, a8, a9, a10, a11] = some (true, Ch c)) :
    lcF (un1 (vE i) itemsE) ([("_law_piece", 11)].map (·.2)) t (fun _ => some true) e [a0, a1, a2, a3, a4, a5, a6, a7, a8, a9, a10, a11] = some (.own true (c.map Tl)) := by
  unfold lcF
  rw [un1_of h itemsE_Ch, Option.bind_some, if_pos (by rw [flag_len, List.length_map]; show _ ≤ 16777216; omega)]
  show Option.map _ (lcD [11] _ _ _ _ _) = _
  rw [lc_tl he ht]
  rfl
end
theorem rng_two {m : Bool} : rng1 (m, [.int 2]) = some [(true, .int 0), (true, .int 1)] := rfl
theorem lb_law {ns : List Int} {pg pg2 : List Str} {c d f s : List Pc} {m1 : Bool} {k z : Int} {a4 a5 x9 a10 a11 : Option C} (hk : k = 0 ∨ k = 1) (hz : φ__law_cell_at [.scr ns, .int (3 + k)] = some (.ok true (.int z))) (ho : φ__law_other_page [L pg, Ch c, .int z] = some (.ok true (L pg2)))
    (h1 : φ__law_same [L pg, Ch c, Ch d, Ch f, Ch s] = some (.ok true (.bl true))) (h2 : φ__law_same [L pg2, Ch c, Ch d, Ch f, Ch s] = some (.ok true (.bl true))) :
    lb_law_1 [some (.d false (.scr ns)), some (.d true (L pg)), some (.d true (Ch c)), some (.d true (Ch d)), a4, a5, some (.d true (Ch f)), some (.d true (Ch s)), some (.d m1 (.int k)), x9, a10, a11] =
      some (.nx [some (.d false (.scr ns)), some (.d true (L pg)), some (.d true (Ch c)), some (.d true (Ch d)), a4, a5, some (.d true (Ch f)), some (.d true (Ch s)), some (.d m1 (.int k)), some (.d true (L pg2)), a10, a11]) := by
  unfold lb_law_1
  have ad : addC (true, .int 3) (m1, .int k) = some (.d true (.int (3 + k))) := rfl
  refine (seqF_nx (τ' := [some (.d false (.scr ns)), some (.d true (L pg)), some (.d true (Ch c)), some (.d true (Ch d)), a4, a5, some (.d true (Ch f)), some (.d true (Ch s)), some (.d m1 (.int k)), some (.dp (L pg2)), a10, a11]) ?_).trans ?_
  · simp [fzF, fzs, fz, frz, setF, callC, consA, mp, bi, vE, cellD, nilA, ad, hz, resC, ho]
  · have i0 : itemE (true, .lst [L pg, L pg2]) (.int 0) = some (true, L pg) := rfl
    have i1 : itemE (true, .lst [L pg, L pg2]) (.int 1) = some (true, L pg2) := rfl
    have ow : ownC (true, [L pg, L pg2]) = some (.own true [L pg, L pg2]) := rfl
    rcases hk with e | e <;> subst e
    · simp [fzF, fzs, fz, frz, ifF, un1, callC, consA, mp, bi, vE, cellD, nilA, ow, i0, h1, resC, boolD, nxF]
    · simp [fzF, fzs, fz, frz, ifF, un1, callC, consA, mp, bi, vE, cellD, nilA, ow, i1, h2, resC, boolD, nxF]
theorem own_2 {m : Bool} {a b : D} : ownC (m, [a, b]) = some (.own m [a, b]) := rfl
theorem tup_2 {m : Bool} {a b : D} : tupD (m, [a, b]) = some (m, .tup [a, b]) := rfl
theorem φ_law_ok (ns : List Int) : φ_law [.scr ns] = some (.ok true (.bl true)) := by
  obtain ⟨z0, c0⟩ := φ_cell ns 0
  obtain ⟨z1, c1⟩ := φ_cell ns 1
  obtain ⟨z2, c2⟩ := φ_cell ns 2
  obtain ⟨z3, c3⟩ := φ_cell ns 3
  obtain ⟨z4, c4⟩ := φ_cell ns 4
  have l3 : lim = 16777216 := rfl
  obtain ⟨pg, hpg, lp, ll⟩ := φ_pg z0
  obtain ⟨c, hch, sm, cl⟩ := φ_ch (pg := pg) (N := 4) (.inr (.inl rfl)) z1 lp
  have rl := repl_len sm.fd fun p hp => (sm.bd p hp).2
  have lp1 := repl_Ln sm.fd lp sm.ln
  obtain ⟨md, hld⟩ := φ_ld sm.fd (by omega)
  obtain ⟨d, hdh, sd, dl⟩ := φ_ch (pg := repl 0 pg c) (N := 3) (.inl rfl) z2 lp1
  have ct := sm.ct
  have dt := sd.ct
  have vc := sm.vc (by omega)
  have vd := sd.vc (by omega)
  have cp := φ_cp (c := c) (by omega)
  have dp := φ_cp (c := d) (by omega)
  have ex := φ_ex vc vd
  have lm := φ_lm c d
  have nel : neD (.lst [Ch c, Ch d]) (.lst [Ch c, Ch d]) = some false := neD_self (okEq_2 (tup := false) sm.ln sd.ln)
  have net : neD (.tup [Ch c, Ch d]) (.tup [Ch c, Ch d]) = some false := neD_self (okEq_2 (tup := true) sm.ln sd.ln)
  have c0' : φ__law_cell_at [.scr ns, .int 0] = some (.ok true (.int z0)) := c0
  have c1' : φ__law_cell_at [.scr ns, .int 1] = some (.ok true (.int z1)) := c1
  have c2' : φ__law_cell_at [.scr ns, .int 2] = some (.ok true (.int z2)) := c2
  have c3' : φ__law_cell_at [.scr ns, .int (3 + 0)] = some (.ok true (.int z3)) := c3
  have c4' : φ__law_cell_at [.scr ns, .int (3 + 1)] = some (.ok true (.int z4)) := c4
  have hch' : φ__law_change [.int z1, L pg, .int 4] = some (.ok true (Ch c)) := hch
  have hdh' : φ__law_change [.int z2, L (repl 0 pg c), .int 3] = some (.ok true (Ch d)) := hdh
  refine phi_rt (n := 12) (g := g_law) ?_
  have s0 : startD 12 [.scr ns] = [some (.d false (.scr ns)), none, none, none, none, none, none, none, none, none, none, none] := rfl
  rw [s0]
  unfold g_law
  refine (seqF_nx (τ' := [some (.d false (.scr ns)), some (.dp (L pg)), none, none, none, none, none, none, none, none, none, none]) ?_).trans
    ((seqF_nx (τ' := [some (.d false (.scr ns)), some (.d true (L pg)), some (.dp (Ch c)), none, none, none, none, none, none, none, none, none]) ?_).trans
    ((seqF_nx (τ' := [some (.d false (.scr ns)), some (.d true (L pg)), some (.d true (Ch c)), some (.dp (Ch d)), none, none, none, none, none, none, none, none]) ?_).trans
    ((seqF_nx (τ' := [some (.d false (.scr ns)), some (.d true (L pg)), some (.d true (Ch c)), some (.d true (Ch d)), some (.own true [Ch c, Ch d]), none, none, none, none, none, none, none]) ?_).trans
    ((seqF_nx (τ' := [some (.d false (.scr ns)), some (.d true (L pg)), some (.d true (Ch c)), some (.d true (Ch d)), some (.own true [Ch c, Ch d]), some (.dp (exD c d)), none, none, none, none, none, none]) ?_).trans
    ((seqF_nx (τ' := [some (.d false (.scr ns)), some (.d true (L pg)), some (.d true (Ch c)), some (.d true (Ch d)), some (.own true [Ch c, Ch d]), some (.dp (exD c d)), none, none, none, none, none, none]) ?_).trans ?_)))))
  · simp [setF, callC, consA, mp, vE, cellD, nilA, c0', frz, hpg, resC]
  · simp [fzF, fzs, fz, frz, setF, callC, consA, mp, vE, cellD, nilA, c1', frz, hch', resC]
  · cases md <;> simp [fzF, fzs, fz, frz, setF, callC, consA, mp, vE, cellD, nilA, c2', hld, hdh', resC]
  · simp [fzF, fzs, fz, frz, setF, callC, consA, mp, vE, cellD, nilA, un1, cp, dp, resC, own_2]
  · have x0 : itemC (some (some (.own true [Ch c, Ch d]))) (.int 0) = some (true, Ch c) := rfl
    have x1 : itemC (some (some (.own true [Ch c, Ch d]))) (.int 1) = some (true, Ch d) := rfl
    simp [setF, callC, consA, xvE, x0, x1, nilA, ex, resC]
  · simp [fzF, fzs, fz, frz, ifF, bi, mp, un1, vE, vB, cellD, cellB, consA, nilA, own_2, nel, nxF]
  · by_cases hm : anyMeet d (turn 0 c) = true
    · rw [hm] at lm
      have en : exD c d = .non := by unfold exD; rw [if_pos hm]
      rw [en]
      refine seqF_rt ?_
      simp [fzF, fzs, fz, frz, ifF, un1, mp, callC, consA, vE, cellD, nilA, lm, resC, boolD, retF, blE, bi, vB, cellB, isN]
    · have hf : anyMeet d (turn 0 c) = false := Bool.eq_false_iff.mpr hm
      rw [hf] at lm
      have en : exD c d = .tup [Ch (exch c d).1, Ch (exch c d).2] := by unfold exD; rw [if_neg hm]
      rw [en]
      have X := ex_ok sm sd hf
      have xf := X.sf
      have xs := X.ss
      have xe := X.eq
      have ff := xf.ct
      have ss := xs.ct
      have rf := repl_len xf.fd fun p hp => (xf.bd p hp).2
      have vf := xf.vc (by omega)
      have vs := xs.vc (by omega)
      have bk := φ_ex vf vs
      have be : exD (exch c d).1 (exch c d).2 = .tup [Ch c, Ch d] := by
        unfold exD
        rw [X.nm, if_neg Bool.false_ne_true, X.back]
      rw [be] at bk
      have fp := φ_cp (c := (exch c d).1) (by omega)
      have sp := φ_cp (c := (exch c d).2) (by omega)
      have i1 := φ_ic (c := (exch c d).1) xf.ap xf.ln fun p hp => ⟨xf.ne p hp, by have := xf.bd p hp; omega⟩
      have i2 := φ_ic (c := (exch c d).2) xs.ap xs.ln fun p hp => ⟨xs.ne p hp, by have := xs.bd p hp; omega⟩
      have t1 : (exch c d).1.map Tl = d.map Tl := mvs_tl
      have t2 : (exch c d).2.map Tl = c.map Tl := mvs_tl
      have n1 := neD_self (okEq_tl sd.ln)
      have n2 := neD_self (okEq_tl sm.ln)
      obtain ⟨pg3, o3, lp3, ll3, fit3⟩ := φ_op z3 lp ll sm
      obtain ⟨pg4, o4, lp4, ll4, fit4⟩ := φ_op z4 lp ll sm
      have sm3 : Sm5 pg3 c := ⟨sm.ap, fit3, sm.ln, sm.ne, sm.bd, sm.ct⟩
      have sm4 : Sm5 pg4 c := ⟨sm.ap, fit4, sm.ln, sm.ne, sm.bd, sm.ct⟩
      have k0 := φ_sm lp (by omega) sm sd (by omega) xf (by omega) xs hf
      have k3 := φ_sm lp3 (by omega) sm3 sd (by omega) xf (by omega) xs hf
      have k4 := φ_sm lp4 (by omega) sm4 sd (by omega) xf (by omega) xs hf
      obtain ⟨b1, bh1, bv1, bf1, br1⟩ := φ_bh lp (by omega) xf xs
      obtain ⟨b2, bh2, bv2, bf2, br2⟩ := φ_bh lp (by omega) sm sd
      have rd := repl_len sd.fd fun p hp => (sd.bd p hp).2
      have lpd := repl_Ln sd.fd lp1 sd.ln
      rw [xe] at br1
      obtain ⟨q1, w1⟩ := φ_do lp (by omega) bv1 bf1 (by rw [br1]; omega)
      obtain ⟨q2, w2⟩ := φ_do lp (by omega) bv2 bf2 (by rw [br2]; omega)
      rw [br1] at w1
      rw [br2] at w2
      have eqf := eqD_self (okEq_L lpd)
      have fl : (exch c d).1.length ≤ 10 := by omega
      have sl : (exch c d).2.length ≤ 10 := by omega
      generalize (exch c d).1 = f at *
      generalize (exch c d).2 = s at *
      generalize repl 0 (repl 0 pg c) d = fin at *
      have lb3 := lb_law (ns := ns) (pg := pg) (pg2 := pg3) (c := c) (d := d) (f := f) (s := s) (m1 := true) (k := 0) (a4 := some (.own true [Ch c, Ch d])) (a5 := some (.d true (.tup [Ch f, Ch s]))) (x9 := none) (a10 := none) (a11 := none) (.inl rfl) c3' o3 k0 k3
      have lb4 := lb_law (ns := ns) (pg := pg) (pg2 := pg4) (c := c) (d := d) (f := f) (s := s) (m1 := true) (k := 1) (a4 := some (.own true [Ch c, Ch d])) (a5 := some (.d true (.tup [Ch f, Ch s]))) (x9 := some (.d true (L pg3))) (a10 := none) (a11 := none) (.inr rfl) c4' o4 k0 k4
      have lcf := lcF_tl (a0 := some (.d false (.scr ns))) (a1 := some (.d true (L pg))) (a2 := some (.d true (Ch c))) (a3 := some (.d true (Ch d))) (a4 := some (.own true [Ch c, Ch d])) (a5 := some (.d true (.tup [Ch f, Ch s]))) (a6 := some (.d true (Ch f))) (a7 := some (.d true (Ch s))) (a8 := none) (a9 := none) (a10 := none) (a11 := none) (e := el_law_1) (t := tg_law_1) rfl rfl (i := 6) (c := f) fl rfl
      have lcd := lcF_tl (a0 := some (.d false (.scr ns))) (a1 := some (.d true (L pg))) (a2 := some (.d true (Ch c))) (a3 := some (.d true (Ch d))) (a4 := some (.own true [Ch c, Ch d])) (a5 := some (.d true (.tup [Ch f, Ch s]))) (a6 := some (.d true (Ch f))) (a7 := some (.d true (Ch s))) (a8 := none) (a9 := none) (a10 := none) (a11 := none) (e := el_law_2) (t := tg_law_2) rfl rfl (i := 3) (c := d) (by omega) rfl
      have lcs := lcF_tl (a0 := some (.d false (.scr ns))) (a1 := some (.d true (L pg))) (a2 := some (.d true (Ch c))) (a3 := some (.d true (Ch d))) (a4 := some (.own true [Ch c, Ch d])) (a5 := some (.d true (.tup [Ch f, Ch s]))) (a6 := some (.d true (Ch f))) (a7 := some (.d true (Ch s))) (a8 := none) (a9 := none) (a10 := none) (a11 := none) (e := el_law_3) (t := tg_law_3) rfl rfl (i := 7) (c := s) sl rfl
      have lcc := lcF_tl (a0 := some (.d false (.scr ns))) (a1 := some (.d true (L pg))) (a2 := some (.d true (Ch c))) (a3 := some (.d true (Ch d))) (a4 := some (.own true [Ch c, Ch d])) (a5 := some (.d true (.tup [Ch f, Ch s]))) (a6 := some (.d true (Ch f))) (a7 := some (.d true (Ch s))) (a8 := none) (a9 := none) (a10 := none) (a11 := none) (e := el_law_4) (t := tg_law_4) rfl rfl (i := 2) (c := c) (by omega) rfl
      rw [t1] at lcf
      rw [t2] at lcs
      have isT : isi .tuple (.tup [Ch f, Ch s]) = some true := rfl
      have ln2 : lenD (.tup [Ch f, Ch s]) = some (true, .int 2) := rfl
      have nn2 : neD (.int 2) (.int 2) = some false := by rw [neD_int]; rfl
      refine (seqF_nx (τ' := [some (.d false (.scr ns)), some (.d true (L pg)), some (.d true (Ch c)), some (.d true (Ch d)), some (.own true [Ch c, Ch d]), some (.dp (.tup [Ch f, Ch s])), none, none, none, none, none, none]) ?_).trans
        ((seqF_nx (τ' := [some (.d false (.scr ns)), some (.d true (L pg)), some (.d true (Ch c)), some (.d true (Ch d)), some (.own true [Ch c, Ch d]), some (.dp (.tup [Ch f, Ch s])), none, none, none, none, none, none]) ?_).trans
        ((seqF_nx (τ' := [some (.d false (.scr ns)), some (.d true (L pg)), some (.d true (Ch c)), some (.d true (Ch d)), some (.own true [Ch c, Ch d]), some (.d true (.tup [Ch f, Ch s])), some (.d true (Ch f)), some (.d true (Ch s)), none, none, none, none]) ?_).trans
        ((seqF_nx (τ' := [some (.d false (.scr ns)), some (.d true (L pg)), some (.d true (Ch c)), some (.d true (Ch d)), some (.own true [Ch c, Ch d]), some (.d true (.tup [Ch f, Ch s])), some (.d true (Ch f)), some (.d true (Ch s)), none, none, none, none]) ?_).trans
        ((seqF_nx (τ' := [some (.d false (.scr ns)), some (.d true (L pg)), some (.d true (Ch c)), some (.d true (Ch d)), some (.own true [Ch c, Ch d]), some (.d true (.tup [Ch f, Ch s])), some (.d true (Ch f)), some (.d true (Ch s)), none, none, none, none]) ?_).trans
        ((seqF_nx (τ' := [some (.d false (.scr ns)), some (.d true (L pg)), some (.d true (Ch c)), some (.d true (Ch d)), some (.own true [Ch c, Ch d]), some (.d true (.tup [Ch f, Ch s])), some (.d true (Ch f)), some (.d true (Ch s)), none, none, none, none]) ?_).trans
        ((seqF_nx (τ' := [some (.d false (.scr ns)), some (.d true (L pg)), some (.d true (Ch c)), some (.d true (Ch d)), some (.own true [Ch c, Ch d]), some (.d true (.tup [Ch f, Ch s])), some (.d true (Ch f)), some (.d true (Ch s)), none, none, none, none]) ?_).trans
        ((seqF_nx (τ' := [some (.d false (.scr ns)), some (.d true (L pg)), some (.d true (Ch c)), some (.d true (Ch d)), some (.own true [Ch c, Ch d]), some (.d true (.tup [Ch f, Ch s])), some (.d true (Ch f)), some (.d true (Ch s)), some (.d true (.int 1)), some (.d true (L pg4)), none, none]) ?_).trans
        ((seqF_nx (τ' := [some (.d false (.scr ns)), some (.d true (L pg)), some (.d true (Ch c)), some (.d true (Ch d)), some (.own true [Ch c, Ch d]), some (.d true (.tup [Ch f, Ch s])), some (.d true (Ch f)), some (.d true (Ch s)), some (.d true (.int 1)), some (.d true (L pg4)), some (if q1 = true then .dp (L fin) else .d true (L fin)), none]) ?_).trans ?_))))))))
      · simp [fzF, fzs, fz, frz, ifF, un1, mp, callC, consA, vE, cellD, nilA, lm, resC, boolD, nxF]
      · simp [ifF, orF, mp, un1, bi, vB, cellB, frz, isiE, isT, boolD, ln2, nn2, nxF]
      · simp [fzF, fzs, fz, frz, unpF, vE, cellD, orT, tupT, consT, nameT, nilT, flag_cons, flag_nil]
      · simp [ifF, orF, mp, un1, callC, consA, vE, cellD, nilA, i1, i2, resC, frz, boolD, nxF]
      · show ifF _ _ _ [some (.d false (.scr ns)), some (.d true (L pg)), some (.d true (Ch c)), some (.d true (Ch d)), some (.own true [Ch c, Ch d]), some (.d true (.tup [Ch f, Ch s])), some (.d true (Ch f)), some (.d true (Ch s)), none, none, none, none] = _
        unfold ifF bi mp
        rw [lcf, lcd]
        simp [frz, n1, nxF]
      · show ifF _ _ _ [some (.d false (.scr ns)), some (.d true (L pg)), some (.d true (Ch c)), some (.d true (Ch d)), some (.own true [Ch c, Ch d]), some (.d true (.tup [Ch f, Ch s])), some (.d true (Ch f)), some (.d true (Ch s)), none, none, none, none] = _
        unfold ifF bi mp
        rw [lcs, lcc]
        simp [frz, n2, nxF]
      · simp [fzF, fzs, fz, frz, ifF, bi, mp, un1, callC, consA, vE, cellD, nilA, fp, sp, resC, bk, tup_2, net, nxF]
      · unfold forF
        rw [un1_of (x := (true, [.int 2])) rfl rng_two, Option.bind_some]
        rw [forD_nx (τ1 := [some (.d false (.scr ns)), some (.d true (L pg)), some (.d true (Ch c)), some (.d true (Ch d)), some (.own true [Ch c, Ch d]), some (.d true (.tup [Ch f, Ch s])), some (.d true (Ch f)), some (.d true (Ch s)), some (.d true (.int 0)), none, none, none]) rfl lb3]
        rw [forD_nx (τ1 := [some (.d false (.scr ns)), some (.d true (L pg)), some (.d true (Ch c)), some (.d true (Ch d)), some (.own true [Ch c, Ch d]), some (.d true (.tup [Ch f, Ch s])), some (.d true (Ch f)), some (.d true (Ch s)), some (.d true (.int 1)), some (.d true (L pg3)), none, none]) rfl lb4]
        rfl
      · cases q1 <;> simp [fzF, fzs, fz, frz, setF, callC, consA, mp, vE, cellD, nilA, bh1, resC, w1, scal_L]
      · cases q1 <;> cases q2 <;> simp [fzF, fzs, fz, frz, retF, blE, bi, mp, callC, consA, vE, vB, cellD, cellB, nilA, bh2, resC, w2, scal_L, eqf]
end K05
end
section
set_option Elab.async false
set_option linter.all false
set_option maxRecDepth 100000
set_option maxHeartbeats 0
namespace K05
open PySem PySem.Spec PyProof.Rows L2 GxR Gx Dl
/-! ### the head: the facts, the run -/
def d_end_of : He.DefD := ⟨("end_of", none), "end_of", "end_of", L2.defArgs s_end_of, L2.defBody s_end_of, L2.defScope s_end_of, [], []⟩
def d_growth_of : He.DefD := ⟨("growth_of", none), "growth_of", "growth_of", L2.defArgs s_growth_of, L2.defBody s_growth_of, L2.defScope s_growth_of, [], []⟩
def d_growth_ahead : He.DefD := ⟨("growth_ahead", none), "growth_ahead", "growth_ahead", L2.defArgs s_growth_ahead, L2.defBody s_growth_ahead, L2.defScope s_growth_ahead, [], []⟩
def d_moved : He.DefD := ⟨("moved", none), "moved", "moved", L2.defArgs s_moved, L2.defBody s_moved, L2.defScope s_moved, [], []⟩
def d_turned_about : He.DefD := ⟨("turned_about", none), "turned_about", "turned_about", L2.defArgs s_turned_about, L2.defBody s_turned_about, L2.defScope s_turned_about, [], []⟩
def d_first_missing : He.DefD := ⟨("first_missing", none), "first_missing", "first_missing", L2.defArgs s_first_missing, L2.defBody s_first_missing, L2.defScope s_first_missing, [], []⟩
def d_first_unfit : He.DefD := ⟨("first_unfit", none), "first_unfit", "first_unfit", L2.defArgs s_first_unfit, L2.defBody s_first_unfit, L2.defScope s_first_unfit, [], []⟩
def d_replaced : He.DefD := ⟨("replaced", none), "replaced", "replaced", L2.defArgs s_replaced, L2.defBody s_replaced, L2.defScope s_replaced, [], []⟩
def d_is_number : He.DefD := ⟨("is_number", none), "is_number", "is_number", L2.defArgs s_is_number, L2.defBody s_is_number, L2.defScope s_is_number, [], []⟩
def d_is_line : He.DefD := ⟨("is_line", none), "is_line", "is_line", L2.defArgs s_is_line, L2.defBody s_is_line, L2.defScope s_is_line, [], []⟩
def d_are_lines : He.DefD := ⟨("are_lines", none), "are_lines", "are_lines", L2.defArgs s_are_lines, L2.defBody s_are_lines, L2.defScope s_are_lines, [], []⟩
def d_is_page : He.DefD := ⟨("is_page", none), "is_page", "is_page", L2.defArgs s_is_page, L2.defBody s_is_page, L2.defScope s_is_page, [], []⟩
def d_is_piece : He.DefD := ⟨("is_piece", none), "is_piece", "is_piece", L2.defArgs s_is_piece, L2.defBody s_is_piece, L2.defScope s_is_piece, [], []⟩
def d_are_apart : He.DefD := ⟨("are_apart", none), "are_apart", "are_apart", L2.defArgs s_are_apart, L2.defBody s_are_apart, L2.defScope s_are_apart, [], []⟩
def d_is_told_change : He.DefD := ⟨("is_told_change", none), "is_told_change", "is_told_change", L2.defArgs s_is_told_change, L2.defBody s_is_told_change, L2.defScope s_is_told_change, [], []⟩
def d_is_within_bounds : He.DefD := ⟨("is_within_bounds", none), "is_within_bounds", "is_within_bounds", L2.defArgs s_is_within_bounds, L2.defBody s_is_within_bounds, L2.defScope s_is_within_bounds, [], []⟩
def d_is_change : He.DefD := ⟨("is_change", none), "is_change", "is_change", L2.defArgs s_is_change, L2.defBody s_is_change, L2.defScope s_is_change, [], []⟩
def d_check_page : He.DefD := ⟨("check_page", none), "check_page", "check_page", L2.defArgs s_check_page, L2.defBody s_check_page, L2.defScope s_check_page, [], []⟩
def d_check_change : He.DefD := ⟨("check_change", none), "check_change", "check_change", L2.defArgs s_check_change, L2.defBody s_check_change, L2.defScope s_check_change, [], []⟩
def d_check_fits : He.DefD := ⟨("check_fits", none), "check_fits", "check_fits", L2.defArgs s_check_fits, L2.defBody s_check_fits, L2.defScope s_check_fits, [], []⟩
def d__last_end : He.DefD := ⟨("_last_end", none), "_last_end", "_last_end", L2.defArgs s__last_end, L2.defBody s__last_end, L2.defScope s__last_end, [], []⟩
def d__first_clash : He.DefD := ⟨("_first_clash", none), "_first_clash", "_first_clash", L2.defArgs s__first_clash, L2.defBody s__first_clash, L2.defScope s__first_clash, [], []⟩
def d__lines_taken : He.DefD := ⟨("_lines_taken", none), "_lines_taken", "_lines_taken", L2.defArgs s__lines_taken, L2.defBody s__lines_taken, L2.defScope s__lines_taken, [], []⟩
def d__change_to : He.DefD := ⟨("_change_to", none), "_change_to", "_change_to", L2.defArgs s__change_to, L2.defBody s__change_to, L2.defScope s__change_to, [], []⟩
def d_behind : He.DefD := ⟨("behind", none), "behind", "behind", L2.defArgs s_behind, L2.defBody s_behind, L2.defScope s_behind, [], []⟩
def d__meet : He.DefD := ⟨("_meet", none), "_meet", "_meet", L2.defArgs s__meet, L2.defBody s__meet, L2.defScope s__meet, [], []⟩
def d_exchanged : He.DefD := ⟨("exchanged", none), "exchanged", "exchanged", L2.defArgs s_exchanged, L2.defBody s_exchanged, L2.defScope s_exchanged, [], []⟩
def d_done : He.DefD := ⟨("done", none), "done", "done", L2.defArgs s_done, L2.defBody s_done, L2.defScope s_done, [], []⟩
def d_fits : He.DefD := ⟨("fits", none), "fits", "fits", L2.defArgs s_fits, L2.defBody s_fits, L2.defScope s_fits, [], []⟩
def d__law_cell_at : He.DefD := ⟨("_law_cell_at", none), "_law_cell_at", "_law_cell_at", L2.defArgs s__law_cell_at, L2.defBody s__law_cell_at, L2.defScope s__law_cell_at, [], []⟩
def d__law_numbers : He.DefD := ⟨("_law_numbers", none), "_law_numbers", "_law_numbers", L2.defArgs s__law_numbers, L2.defBody s__law_numbers, L2.defScope s__law_numbers, [], []⟩
def d__law_lines : He.DefD := ⟨("_law_lines", none), "_law_lines", "_law_lines", L2.defArgs s__law_lines, L2.defBody s__law_lines, L2.defScope s__law_lines, [], []⟩
def d__law_page : He.DefD := ⟨("_law_page", none), "_law_page", "_law_page", L2.defArgs s__law_page, L2.defBody s__law_page, L2.defScope s__law_page, [], []⟩
def d__law_change : He.DefD := ⟨("_law_change", none), "_law_change", "_law_change", L2.defArgs s__law_change, L2.defBody s__law_change, L2.defScope s__law_change, [], []⟩
def d__law_done : He.DefD := ⟨("_law_done", none), "_law_done", "_law_done", L2.defArgs s__law_done, L2.defBody s__law_done, L2.defScope s__law_done, [], []⟩
def d__law_copied : He.DefD := ⟨("_law_copied", none), "_law_copied", "_law_copied", L2.defArgs s__law_copied, L2.defBody s__law_copied, L2.defScope s__law_copied, [], []⟩
def d__law_is_change : He.DefD := ⟨("_law_is_change", none), "_law_is_change", "_law_is_change", L2.defArgs s__law_is_change, L2.defBody s__law_is_change, L2.defScope s__law_is_change, [], []⟩
def d__law_other_page : He.DefD := ⟨("_law_other_page", none), "_law_other_page", "_law_other_page", L2.defArgs s__law_other_page, L2.defBody s__law_other_page, L2.defScope s__law_other_page, [], []⟩
def d__law_meet : He.DefD := ⟨("_law_meet", none), "_law_meet", "_law_meet", L2.defArgs s__law_meet, L2.defBody s__law_meet, L2.defScope s__law_meet, [], []⟩
def d__law_same : He.DefD := ⟨("_law_same", none), "_law_same", "_law_same", L2.defArgs s__law_same, L2.defBody s__law_same, L2.defScope s__law_same, [], []⟩
def d_law : He.DefD := ⟨("law", none), "law", "law", L2.defArgs s_law, L2.defBody s_law, L2.defScope s_law, [], []⟩
def fnL : List He.DefD := [d_end_of, d_growth_of, d_growth_ahead, d_moved, d_turned_about, d_first_missing, d_first_unfit, d_replaced, d_is_number, d_is_line, d_are_lines, d_is_page, d_is_piece, d_are_apart, d_is_told_change, d_is_within_bounds, d_is_change, d_check_page, d_check_change, d_check_fits, d__last_end, d__first_clash, d__lines_taken, d__change_to, d_behind, d__meet, d_exchanged, d_done, d_fits, d__law_cell_at, d__law_numbers, d__law_lines, d__law_page, d__law_change, d__law_done, d__law_copied, d__law_is_change, d__law_other_page, d__law_meet, d__law_same, d_law]
def faL : List He.Fa := [.glo "end_of", .glo "growth_of", .glo "growth_ahead", .glo "moved", .glo "turned_about", .glo "first_missing", .glo "first_unfit", .glo "replaced", .glo "is_number", .glo "is_line", .glo "are_lines", .glo "is_page", .glo "is_piece", .glo "are_apart", .glo "is_told_change", .glo "is_within_bounds", .glo "is_change", .glo "check_page", .glo "check_change", .glo "check_fits", .glo "_last_end", .glo "_first_clash", .glo "_lines_taken", .glo "_change_to", .glo "behind", .glo "_meet", .glo "exchanged", .glo "done", .glo "fits", .glo "_law_cell_at", .glo "_law_numbers", .glo "_law_lines", .glo "_law_page", .glo "_law_change", .glo "_law_done", .glo "_law_copied", .glo "_law_is_change", .glo "_law_other_page", .glo "_law_meet", .glo "_law_same", .glo "law", .free "all", .free "any", .free "bool", .free "enumerate", .free "int", .free "isinstance", .free "len", .free "list", .free "range", .free "str", .free "sum", .free "tuple", .free "zip", .int "MOST_PAGE_LINES" 2000, .int "MOST_PIECES" 500, .int "MOST_PIECE_LINES" 500, .int "MOST_PLACE" 2000]
def tfL : List He.Defn := [("growth_ahead", none), ("are_lines", none), ("is_told_change", none), ("is_change", none), ("exchanged", none)]
abbrev RR : PySem.W.OpenRow := PySem.W.OpenLaw.row PySem.Challenge.rw_patchlay_k05_whole_exchanged
abbrev hk : PySem.W.Hook := He.hookX 4 faL fnL [] tfL (fun _ => true)
def ob (s : PySem.W.SharedT) : He.AlX := He.obsX 4 faL fnL [] tfL (fun _ => true) (HandSHeadRun.getT s)
theorem ob_eq (s : PySem.W.SharedT) : ob s = hk.obs s.abs := He.obsX_eq (HandSHeadRun.getT_eq s)
def names : List Str := (["PatchError", "BadPage", "BadChange", "NotFitting", "Clash", "end_of", "growth_of", "growth_ahead", "moved", "turned_about", "first_missing", "first_unfit", "replaced", "MOST_PAGE_LINES", "MOST_PLACE", "MOST_PIECE_LINES", "MOST_PIECES", "is_number", "is_line", "are_lines"] : List Str) ++ (["is_page", "is_piece", "are_apart", "is_told_change", "is_within_bounds", "is_change", "check_page", "check_change", "check_fits", "behind", "exchanged", "_last_end", "_first_clash", "_lines_taken", "_change_to", "_meet", "done", "fits", "_law_cell_at", "_law_numbers"] : List Str) ++ (["_law_lines", "_law_page", "_law_change", "_law_done", "_law_copied", "_law_is_change", "_law_other_page", "_law_meet", "_law_same"] : List Str)
theorem run (w : World) : HandSHeadRun.RunEq RR (PySem.W.view RR.prog [55]) hk ob 6000 names w := by
  intro os
  kernel_rfl
theorem facts {P : Program} {w : World} {K : PySem.W.Frag} {h : Heap} {mg : Str → Option Value} {f : Addr} (X : K.In h) (G : h.Ns mainGlobals mg) (c : He.SaysD faL fnL K) (hfa : mg ("law" : Str) = some (.ref f)) : ∃ fd : FuncData, (∀ (s : Shared) (v : Value), BindsTo s fd ⟨[v], []⟩ [("_law_script", v)]) ∧ ∀ base : Heap, K.In base → base.Ns mainGlobals mg → (∀ p ∈ tfL.map (He.cT K), GxR.TabB base mg p.1 p.2) → FnOk P w K mg base CX0 12 f fd ["_law_script"] (spD K (tfL.map (He.cT K)) 1 φ_law) := by
  have hx : NoE CX0 := fun _ _ _ _ _ z => z
  obtain ⟨_, F_0⟩ := c.def_ 0 (d := d_end_of) rfl
  have D_end_of : Def K mg (He.codeOf K ("end_of", none)) "end_of" s_end_of ["piece"] := def_of F_0 (He.glo_ok X G (c.fact 0 (f := .glo "end_of") rfl)) fun _ _ _ _ _ _ us hl => match us, hl with | [_], _ => rfl
  obtain ⟨_, F_1⟩ := c.def_ 1 (d := d_growth_of) rfl
  have D_growth_of : Def K mg (He.codeOf K ("growth_of", none)) "growth_of" s_growth_of ["piece"] := def_of F_1 (He.glo_ok X G (c.fact 1 (f := .glo "growth_of") rfl)) fun _ _ _ _ _ _ us hl => match us, hl with | [_], _ => rfl
  obtain ⟨_, F_2⟩ := c.def_ 2 (d := d_growth_ahead) rfl
  have D_growth_ahead : Def K mg (He.codeOf K ("growth_ahead", none)) "growth_ahead" s_growth_ahead ["change", "number"] := def_of F_2 (He.glo_ok X G (c.fact 2 (f := .glo "growth_ahead") rfl)) fun _ _ _ _ _ _ us hl => match us, hl with | [_, _], _ => rfl
  obtain ⟨_, F_3⟩ := c.def_ 3 (d := d_moved) rfl
  have D_moved : Def K mg (He.codeOf K ("moved", none)) "moved" s_moved ["piece", "by"] := def_of F_3 (He.glo_ok X G (c.fact 3 (f := .glo "moved") rfl)) fun _ _ _ _ _ _ us hl => match us, hl with | [_, _], _ => rfl
  obtain ⟨_, F_4⟩ := c.def_ 4 (d := d_turned_about) rfl
  have D_turned_about : Def K mg (He.codeOf K ("turned_about", none)) "turned_about" s_turned_about ["change"] := def_of F_4 (He.glo_ok X G (c.fact 4 (f := .glo "turned_about") rfl)) fun _ _ _ _ _ _ us hl => match us, hl with | [_], _ => rfl
  obtain ⟨_, F_5⟩ := c.def_ 5 (d := d_first_missing) rfl
  have D_first_missing : Def K mg (He.codeOf K ("first_missing", none)) "first_missing" s_first_missing ["page", "piece"] := def_of F_5 (He.glo_ok X G (c.fact 5 (f := .glo "first_missing") rfl)) fun _ _ _ _ _ _ us hl => match us, hl with | [_, _], _ => rfl
  obtain ⟨_, F_6⟩ := c.def_ 6 (d := d_first_unfit) rfl
  have D_first_unfit : Def K mg (He.codeOf K ("first_unfit", none)) "first_unfit" s_first_unfit ["page", "change"] := def_of F_6 (He.glo_ok X G (c.fact 6 (f := .glo "first_unfit") rfl)) fun _ _ _ _ _ _ us hl => match us, hl with | [_, _], _ => rfl
  obtain ⟨_, F_7⟩ := c.def_ 7 (d := d_replaced) rfl
  have D_replaced : Def K mg (He.codeOf K ("replaced", none)) "replaced" s_replaced ["page", "change"] := def_of F_7 (He.glo_ok X G (c.fact 7 (f := .glo "replaced") rfl)) fun _ _ _ _ _ _ us hl => match us, hl with | [_, _], _ => rfl
  obtain ⟨_, F_8⟩ := c.def_ 8 (d := d_is_number) rfl
  have D_is_number : Def K mg (He.codeOf K ("is_number", none)) "is_number" s_is_number ["value"] := def_of F_8 (He.glo_ok X G (c.fact 8 (f := .glo "is_number") rfl)) fun _ _ _ _ _ _ us hl => match us, hl with | [_], _ => rfl
  obtain ⟨_, F_9⟩ := c.def_ 9 (d := d_is_line) rfl
  have D_is_line : Def K mg (He.codeOf K ("is_line", none)) "is_line" s_is_line ["value"] := def_of F_9 (He.glo_ok X G (c.fact 9 (f := .glo "is_line") rfl)) fun _ _ _ _ _ _ us hl => match us, hl with | [_], _ => rfl
  obtain ⟨_, F_10⟩ := c.def_ 10 (d := d_are_lines) rfl
  have D_are_lines : Def K mg (He.codeOf K ("are_lines", none)) "are_lines" s_are_lines ["value"] := def_of F_10 (He.glo_ok X G (c.fact 10 (f := .glo "are_lines") rfl)) fun _ _ _ _ _ _ us hl => match us, hl with | [_], _ => rfl
  obtain ⟨_, F_11⟩ := c.def_ 11 (d := d_is_page) rfl
  have D_is_page : Def K mg (He.codeOf K ("is_page", none)) "is_page" s_is_page ["value"] := def_of F_11 (He.glo_ok X G (c.fact 11 (f := .glo "is_page") rfl)) fun _ _ _ _ _ _ us hl => match us, hl with | [_], _ => rfl
  obtain ⟨_, F_12⟩ := c.def_ 12 (d := d_is_piece) rfl
  have D_is_piece : Def K mg (He.codeOf K ("is_piece", none)) "is_piece" s_is_piece ["value"] := def_of F_12 (He.glo_ok X G (c.fact 12 (f := .glo "is_piece") rfl)) fun _ _ _ _ _ _ us hl => match us, hl with | [_], _ => rfl
  obtain ⟨_, F_13⟩ := c.def_ 13 (d := d_are_apart) rfl
  have D_are_apart : Def K mg (He.codeOf K ("are_apart", none)) "are_apart" s_are_apart ["pieces"] := def_of F_13 (He.glo_ok X G (c.fact 13 (f := .glo "are_apart") rfl)) fun _ _ _ _ _ _ us hl => match us, hl with | [_], _ => rfl
  obtain ⟨_, F_14⟩ := c.def_ 14 (d := d_is_told_change) rfl
  have D_is_told_change : Def K mg (He.codeOf K ("is_told_change", none)) "is_told_change" s_is_told_change ["value"] := def_of F_14 (He.glo_ok X G (c.fact 14 (f := .glo "is_told_change") rfl)) fun _ _ _ _ _ _ us hl => match us, hl with | [_], _ => rfl
  obtain ⟨_, F_15⟩ := c.def_ 15 (d := d_is_within_bounds) rfl
  have D_is_within_bounds : Def K mg (He.codeOf K ("is_within_bounds", none)) "is_within_bounds" s_is_within_bounds ["piece"] := def_of F_15 (He.glo_ok X G (c.fact 15 (f := .glo "is_within_bounds") rfl)) fun _ _ _ _ _ _ us hl => match us, hl with | [_], _ => rfl
  obtain ⟨_, F_16⟩ := c.def_ 16 (d := d_is_change) rfl
  have D_is_change : Def K mg (He.codeOf K ("is_change", none)) "is_change" s_is_change ["value"] := def_of F_16 (He.glo_ok X G (c.fact 16 (f := .glo "is_change") rfl)) fun _ _ _ _ _ _ us hl => match us, hl with | [_], _ => rfl
  obtain ⟨_, F_17⟩ := c.def_ 17 (d := d_check_page) rfl
  have D_check_page : Def K mg (He.codeOf K ("check_page", none)) "check_page" s_check_page ["value"] := def_of F_17 (He.glo_ok X G (c.fact 17 (f := .glo "check_page") rfl)) fun _ _ _ _ _ _ us hl => match us, hl with | [_], _ => rfl
  obtain ⟨_, F_18⟩ := c.def_ 18 (d := d_check_change) rfl
  have D_check_change : Def K mg (He.codeOf K ("check_change", none)) "check_change" s_check_change ["value"] := def_of F_18 (He.glo_ok X G (c.fact 18 (f := .glo "check_change") rfl)) fun _ _ _ _ _ _ us hl => match us, hl with | [_], _ => rfl
  obtain ⟨_, F_19⟩ := c.def_ 19 (d := d_check_fits) rfl
  have D_check_fits : Def K mg (He.codeOf K ("check_fits", none)) "check_fits" s_check_fits ["page", "change"] := def_of F_19 (He.glo_ok X G (c.fact 19 (f := .glo "check_fits") rfl)) fun _ _ _ _ _ _ us hl => match us, hl with | [_, _], _ => rfl
  obtain ⟨_, F_20⟩ := c.def_ 20 (d := d__last_end) rfl
  have D__last_end : Def K mg (He.codeOf K ("_last_end", none)) "_last_end" s__last_end ["change"] := def_of F_20 (He.glo_ok X G (c.fact 20 (f := .glo "_last_end") rfl)) fun _ _ _ _ _ _ us hl => match us, hl with | [_], _ => rfl
  obtain ⟨_, F_21⟩ := c.def_ 21 (d := d__first_clash) rfl
  have D__first_clash : Def K mg (He.codeOf K ("_first_clash", none)) "_first_clash" s__first_clash ["between", "other"] := def_of F_21 (He.glo_ok X G (c.fact 21 (f := .glo "_first_clash") rfl)) fun _ _ _ _ _ _ us hl => match us, hl with | [_, _], _ => rfl
  obtain ⟨_, F_22⟩ := c.def_ 22 (d := d__lines_taken) rfl
  have D__lines_taken : Def K mg (He.codeOf K ("_lines_taken", none)) "_lines_taken" s__lines_taken ["one", "other", "between"] := def_of F_22 (He.glo_ok X G (c.fact 22 (f := .glo "_lines_taken") rfl)) fun _ _ _ _ _ _ us hl => match us, hl with | [_, _, _], _ => rfl
  obtain ⟨_, F_23⟩ := c.def_ 23 (d := d__change_to) rfl
  have D__change_to : Def K mg (He.codeOf K ("_change_to", none)) "_change_to" s__change_to ["rows", "taken"] := def_of F_23 (He.glo_ok X G (c.fact 23 (f := .glo "_change_to") rfl)) fun _ _ _ _ _ _ us hl => match us, hl with | [_, _], _ => rfl
  obtain ⟨_, F_24⟩ := c.def_ 24 (d := d_behind) rfl
  have D_behind : Def K mg (He.codeOf K ("behind", none)) "behind" s_behind ["one", "other"] := def_of F_24 (He.glo_ok X G (c.fact 24 (f := .glo "behind") rfl)) fun _ _ _ _ _ _ us hl => match us, hl with | [_, _], _ => rfl
  obtain ⟨_, F_25⟩ := c.def_ 25 (d := d__meet) rfl
  have D__meet : Def K mg (He.codeOf K ("_meet", none)) "_meet" s__meet ["piece", "against"] := def_of F_25 (He.glo_ok X G (c.fact 25 (f := .glo "_meet") rfl)) fun _ _ _ _ _ _ us hl => match us, hl with | [_, _], _ => rfl
  obtain ⟨_, F_26⟩ := c.def_ 26 (d := d_exchanged) rfl
  have D_exchanged : Def K mg (He.codeOf K ("exchanged", none)) "exchanged" s_exchanged ["one", "other"] := def_of F_26 (He.glo_ok X G (c.fact 26 (f := .glo "exchanged") rfl)) fun _ _ _ _ _ _ us hl => match us, hl with | [_, _], _ => rfl
  obtain ⟨_, F_27⟩ := c.def_ 27 (d := d_done) rfl
  have D_done : Def K mg (He.codeOf K ("done", none)) "done" s_done ["page", "change"] := def_of F_27 (He.glo_ok X G (c.fact 27 (f := .glo "done") rfl)) fun _ _ _ _ _ _ us hl => match us, hl with | [_, _], _ => rfl
  obtain ⟨_, F_28⟩ := c.def_ 28 (d := d_fits) rfl
  have D_fits : Def K mg (He.codeOf K ("fits", none)) "fits" s_fits ["page", "change"] := def_of F_28 (He.glo_ok X G (c.fact 28 (f := .glo "fits") rfl)) fun _ _ _ _ _ _ us hl => match us, hl with | [_, _], _ => rfl
  obtain ⟨_, F_29⟩ := c.def_ 29 (d := d__law_cell_at) rfl
  have D__law_cell_at : Def K mg (He.codeOf K ("_law_cell_at", none)) "_law_cell_at" s__law_cell_at ["_law_script", "_law_k"] := def_of F_29 (He.glo_ok X G (c.fact 29 (f := .glo "_law_cell_at") rfl)) fun _ _ _ _ _ _ us hl => match us, hl with | [_, _], _ => rfl
  obtain ⟨_, F_30⟩ := c.def_ 30 (d := d__law_numbers) rfl
  have D__law_numbers : Def K mg (He.codeOf K ("_law_numbers", none)) "_law_numbers" s__law_numbers ["_law_cell", "_law_bounds"] := def_of F_30 (He.glo_ok X G (c.fact 30 (f := .glo "_law_numbers") rfl)) fun _ _ _ _ _ _ us hl => match us, hl with | [_, _], _ => rfl
  obtain ⟨_, F_31⟩ := c.def_ 31 (d := d__law_lines) rfl
  have D__law_lines : Def K mg (He.codeOf K ("_law_lines", none)) "_law_lines" s__law_lines [] := def_of F_31 (He.glo_ok X G (c.fact 31 (f := .glo "_law_lines") rfl)) fun _ _ _ _ _ _ us hl => match us, hl with | [], _ => rfl
  obtain ⟨_, F_32⟩ := c.def_ 32 (d := d__law_page) rfl
  have D__law_page : Def K mg (He.codeOf K ("_law_page", none)) "_law_page" s__law_page ["_law_cell", "_law_limit"] := def_of F_32 (He.glo_ok X G (c.fact 32 (f := .glo "_law_page") rfl)) fun _ _ _ _ _ _ us hl => match us, hl with | [_, _], _ => rfl
  obtain ⟨_, F_33⟩ := c.def_ 33 (d := d__law_change) rfl
  have D__law_change : Def K mg (He.codeOf K ("_law_change", none)) "_law_change" s__law_change ["_law_cell", "_law_page_here", "_law_limit"] := def_of F_33 (He.glo_ok X G (c.fact 33 (f := .glo "_law_change") rfl)) fun _ _ _ _ _ _ us hl => match us, hl with | [_, _, _], _ => rfl
  obtain ⟨_, F_34⟩ := c.def_ 34 (d := d__law_done) rfl
  have D__law_done : Def K mg (He.codeOf K ("_law_done", none)) "_law_done" s__law_done ["_law_page_here", "_law_change_here"] := def_of F_34 (He.glo_ok X G (c.fact 34 (f := .glo "_law_done") rfl)) fun _ _ _ _ _ _ us hl => match us, hl with | [_, _], _ => rfl
  obtain ⟨_, F_35⟩ := c.def_ 35 (d := d__law_copied) rfl
  have D__law_copied : Def K mg (He.codeOf K ("_law_copied", none)) "_law_copied" s__law_copied ["_law_change_here"] := def_of F_35 (He.glo_ok X G (c.fact 35 (f := .glo "_law_copied") rfl)) fun _ _ _ _ _ _ us hl => match us, hl with | [_], _ => rfl
  obtain ⟨_, F_36⟩ := c.def_ 36 (d := d__law_is_change) rfl
  have D__law_is_change : Def K mg (He.codeOf K ("_law_is_change", none)) "_law_is_change" s__law_is_change ["_law_change_here"] := def_of F_36 (He.glo_ok X G (c.fact 36 (f := .glo "_law_is_change") rfl)) fun _ _ _ _ _ _ us hl => match us, hl with | [_], _ => rfl
  obtain ⟨_, F_37⟩ := c.def_ 37 (d := d__law_other_page) rfl
  have D__law_other_page : Def K mg (He.codeOf K ("_law_other_page", none)) "_law_other_page" s__law_other_page ["_law_page_here", "_law_change_here", "_law_cell"] := def_of F_37 (He.glo_ok X G (c.fact 37 (f := .glo "_law_other_page") rfl)) fun _ _ _ _ _ _ us hl => match us, hl with | [_, _, _], _ => rfl
  obtain ⟨_, F_38⟩ := c.def_ 38 (d := d__law_meet) rfl
  have D__law_meet : Def K mg (He.codeOf K ("_law_meet", none)) "_law_meet" s__law_meet ["_law_one", "_law_other"] := def_of F_38 (He.glo_ok X G (c.fact 38 (f := .glo "_law_meet") rfl)) fun _ _ _ _ _ _ us hl => match us, hl with | [_, _], _ => rfl
  obtain ⟨_, F_39⟩ := c.def_ 39 (d := d__law_same) rfl
  have D__law_same : Def K mg (He.codeOf K ("_law_same", none)) "_law_same" s__law_same ["_law_page_here", "_law_one", "_law_other", "_law_first", "_law_second"] := def_of F_39 (He.glo_ok X G (c.fact 39 (f := .glo "_law_same") rfl)) fun _ _ _ _ _ _ us hl => match us, hl with | [_, _, _, _, _], _ => rfl
  obtain ⟨_, F_40⟩ := c.def_ 40 (d := d_law) rfl
  have e := hfa.symm.trans (He.glo_ok X G (c.fact 40 (f := .glo "law") rfl))
  cases e
  have D_law := defL_of (st := s_law) F_40
  refine ⟨_, fun s v => FunD.bindsA (ps := ["_law_script"]) F_40 (fun _ _ _ _ _ _ us hl => match us, hl with | [_], _ => rfl) s [v] rfl, fun base KB NB T => ?_⟩
  have m_all := He.free_ok X G (c.fact 41 (f := .free "all") rfl)
  have m_any := He.free_ok X G (c.fact 42 (f := .free "any") rfl)
  have m_bool := He.free_ok X G (c.fact 43 (f := .free "bool") rfl)
  have m_enumerate := He.free_ok X G (c.fact 44 (f := .free "enumerate") rfl)
  have m_int := He.free_ok X G (c.fact 45 (f := .free "int") rfl)
  have m_isinstance := He.free_ok X G (c.fact 46 (f := .free "isinstance") rfl)
  have m_len := He.free_ok X G (c.fact 47 (f := .free "len") rfl)
  have m_list := He.free_ok X G (c.fact 48 (f := .free "list") rfl)
  have m_range := He.free_ok X G (c.fact 49 (f := .free "range") rfl)
  have m_str := He.free_ok X G (c.fact 50 (f := .free "str") rfl)
  have m_sum := He.free_ok X G (c.fact 51 (f := .free "sum") rfl)
  have m_tuple := He.free_ok X G (c.fact 52 (f := .free "tuple") rfl)
  have m_zip := He.free_ok X G (c.fact 53 (f := .free "zip") rfl)
  obtain ⟨_, g_MOST_PAGE_LINES⟩ := He.int_ok X G (c.fact 54 (f := .int "MOST_PAGE_LINES" 2000) rfl)
  obtain ⟨_, g_MOST_PIECES⟩ := He.int_ok X G (c.fact 55 (f := .int "MOST_PIECES" 500) rfl)
  obtain ⟨_, g_MOST_PIECE_LINES⟩ := He.int_ok X G (c.fact 56 (f := .int "MOST_PIECE_LINES" 500) rfl)
  obtain ⟨_, g_MOST_PLACE⟩ := He.int_ok X G (c.fact 57 (f := .int "MOST_PLACE" 2000) rfl)
  have O_end_of := ok_end_of (P := P) (w := w) (base := base) (cs := tfL.map (He.cT K)) hx D_end_of m_len
  have O_growth_of := ok_growth_of (P := P) (w := w) (base := base) (cs := tfL.map (He.cT K)) hx D_growth_of m_len
  have O_growth_ahead := ok_growth_ahead (P := P) (w := w) (base := base) (cs := tfL.map (He.cT K)) hx D_growth_ahead O_end_of O_growth_of m_sum (List.mem_map.mpr ⟨("growth_ahead", none), by decide, rfl⟩) (T _ (List.mem_map.mpr ⟨("growth_ahead", none), by decide, rfl⟩))
  have O_moved := ok_moved (P := P) (w := w) (base := base) (cs := tfL.map (He.cT K)) hx D_moved m_list
  have O_turned_about := ok_turned_about (P := P) (w := w) (base := base) (cs := tfL.map (He.cT K)) hx D_turned_about m_len m_list
  have O_first_missing := ok_first_missing (P := P) (w := w) (base := base) (cs := tfL.map (He.cT K)) hx D_first_missing m_enumerate m_len
  have O_first_unfit := ok_first_unfit (P := P) (w := w) (base := base) (cs := tfL.map (He.cT K)) hx D_first_unfit O_first_missing m_enumerate
  have O_replaced := ok_replaced (P := P) (w := w) (base := base) (cs := tfL.map (He.cT K)) hx D_replaced m_len
  have O_is_number := ok_is_number (P := P) (w := w) (base := base) (cs := tfL.map (He.cT K)) hx D_is_number m_bool m_int m_isinstance
  have O_is_line := ok_is_line (P := P) (w := w) (base := base) (cs := tfL.map (He.cT K)) hx D_is_line m_isinstance m_str
  have O_are_lines := ok_are_lines (P := P) (w := w) (base := base) (cs := tfL.map (He.cT K)) hx D_are_lines O_is_line m_all m_isinstance m_list (List.mem_map.mpr ⟨("are_lines", none), by decide, rfl⟩) (T _ (List.mem_map.mpr ⟨("are_lines", none), by decide, rfl⟩))
  have O_is_page := ok_is_page (P := P) (w := w) (base := base) (cs := tfL.map (He.cT K)) hx D_is_page O_are_lines m_len g_MOST_PAGE_LINES
  have O_is_piece := ok_is_piece (P := P) (w := w) (base := base) (cs := tfL.map (He.cT K)) hx D_is_piece O_is_number O_are_lines m_isinstance m_len m_tuple
  have O_are_apart := ok_are_apart (P := P) (w := w) (base := base) (cs := tfL.map (He.cT K)) hx D_are_apart O_end_of m_zip
  have O_is_told_change := ok_is_told_change (P := P) (w := w) (base := base) (cs := tfL.map (He.cT K)) hx D_is_told_change O_is_piece O_are_apart m_all m_isinstance m_list (List.mem_map.mpr ⟨("is_told_change", none), by decide, rfl⟩) (T _ (List.mem_map.mpr ⟨("is_told_change", none), by decide, rfl⟩))
  have O_is_within_bounds := ok_is_within_bounds (P := P) (w := w) (base := base) (cs := tfL.map (He.cT K)) hx D_is_within_bounds m_len g_MOST_PIECE_LINES g_MOST_PLACE
  have O_is_change := ok_is_change (P := P) (w := w) (base := base) (cs := tfL.map (He.cT K)) hx D_is_change O_is_told_change O_is_within_bounds m_all m_len g_MOST_PIECES (List.mem_map.mpr ⟨("is_change", none), by decide, rfl⟩) (T _ (List.mem_map.mpr ⟨("is_change", none), by decide, rfl⟩))
  have O_check_page := ok_check_page (P := P) (w := w) (base := base) (cs := tfL.map (He.cT K)) hx D_check_page O_is_page
  have O_check_change := ok_check_change (P := P) (w := w) (base := base) (cs := tfL.map (He.cT K)) hx D_check_change O_is_change
  have O_check_fits := ok_check_fits (P := P) (w := w) (base := base) (cs := tfL.map (He.cT K)) hx D_check_fits O_first_unfit
  have O__last_end := ok__last_end (P := P) (w := w) (base := base) (cs := tfL.map (He.cT K)) hx D__last_end O_end_of
  have O__first_clash := ok__first_clash (P := P) (w := w) (base := base) (cs := tfL.map (He.cT K)) hx D__first_clash m_enumerate m_isinstance m_str
  have O__lines_taken := ok__lines_taken (P := P) (w := w) (base := base) (cs := tfL.map (He.cT K)) hx D__lines_taken m_enumerate m_isinstance m_str
  have O__change_to := ok__change_to (P := P) (w := w) (base := base) (cs := tfL.map (He.cT K)) hx D__change_to m_isinstance m_range m_str
  have O_behind := ok_behind (P := P) (w := w) (base := base) (cs := tfL.map (He.cT K)) hx D_behind O_check_change O__last_end O_replaced O__first_clash O__change_to O__lines_taken m_list m_range
  have O__meet := ok__meet (P := P) (w := w) (base := base) (cs := tfL.map (He.cT K)) hx D__meet O_end_of
  have O_exchanged := ok_exchanged (P := P) (w := w) (base := base) (cs := tfL.map (He.cT K)) hx D_exchanged O_check_change O_turned_about O__meet O_moved O_growth_ahead m_any (List.mem_map.mpr ⟨("exchanged", none), by decide, rfl⟩) (T _ (List.mem_map.mpr ⟨("exchanged", none), by decide, rfl⟩))
  have O_done := ok_done (P := P) (w := w) (base := base) (cs := tfL.map (He.cT K)) hx D_done O_check_page O_check_change O_check_fits O_replaced
  have O_fits := ok_fits (P := P) (w := w) (base := base) (cs := tfL.map (He.cT K)) hx D_fits O_check_page O_check_change O_first_unfit
  have O__law_cell_at := ok__law_cell_at (P := P) (w := w) (base := base) (cs := tfL.map (He.cT K)) hx D__law_cell_at m_len
  have O__law_numbers := ok__law_numbers (P := P) (w := w) (base := base) (cs := tfL.map (He.cT K)) hx D__law_numbers 
  have O__law_lines := ok__law_lines (P := P) (w := w) (base := base) (cs := tfL.map (He.cT K)) hx D__law_lines 
  have O__law_page := ok__law_page (P := P) (w := w) (base := base) (cs := tfL.map (He.cT K)) hx D__law_page O__law_numbers O__law_lines
  have O__law_change := ok__law_change (P := P) (w := w) (base := base) (cs := tfL.map (He.cT K)) hx D__law_change O__law_numbers O__law_lines m_len m_range
  have O__law_done := ok__law_done (P := P) (w := w) (base := base) (cs := tfL.map (He.cT K)) hx D__law_done m_len
  have O__law_copied := ok__law_copied (P := P) (w := w) (base := base) (cs := tfL.map (He.cT K)) hx D__law_copied m_list
  have O__law_is_change := ok__law_is_change (P := P) (w := w) (base := base) (cs := tfL.map (He.cT K)) hx D__law_is_change m_bool m_isinstance m_len m_list m_tuple
  have O__law_other_page := ok__law_other_page (P := P) (w := w) (base := base) (cs := tfL.map (He.cT K)) hx D__law_other_page O__law_lines m_len m_range
  have O__law_meet := ok__law_meet (P := P) (w := w) (base := base) (cs := tfL.map (He.cT K)) hx D__law_meet m_len
  have O__law_same := ok__law_same (P := P) (w := w) (base := base) (cs := tfL.map (He.cT K)) hx D__law_same O_fits O_done
  have O_law := ok_law (P := P) (w := w) (base := base) (cs := tfL.map (He.cT K)) hx D_law O__law_page O__law_cell_at O__law_change O__law_done O__law_copied O_exchanged O__law_meet O__law_is_change O__law_other_page O__law_same O_done O_behind m_isinstance m_len m_range m_tuple
  exact O_law
end K05

open PySem PySem.W PySem.Calls PyProof.Rows
theorem PySem.Challenge.cw_patchlay_k05_whole_exchanged_holds : PySem.Challenge.rw_patchlay_k05_whole_exchanged.Holds := by
  w_on; o_law
  refine HandSHeadRun.head_any (r := OpenLaw.row PySem.Challenge.rw_patchlay_k05_whole_exchanged) (q := view (OpenLaw.row PySem.Challenge.rw_patchlay_k05_whole_exchanged).prog [55]) (H := K05.hk) (ob := K05.ob) (M := 6000) (loose := K05.names) (d := HandSHeadRun.topDef (OpenLaw.row PySem.Challenge.rw_patchlay_k05_whole_exchanged).prog 55) (kwd := []) K05.ob_eq
    (by kernel_rfl) (fun s => by kernel_rfl) K05.run (by kernel_rfl) (by kernel_rfl) (by kernel_rfl) (by rfl) (by first | assumption | decide +kernel) (by decide +kernel) ⟨rfl, rfl, rfl, rfl, rfl, by decide +kernel⟩ ?hw ?hc
  case hw => w_witness2
  case hc =>
    refine LamX.walk_ofTsE (l := PySem.Challenge.rw_patchlay_k05_whole_exchanged) (n := 63) (k := 12) (x := "_law_script") (CX := fun _ => L2.CX0) rfl (by decide) (by kernel_rfl) ⟨rfl, by decide, by decide⟩ ?F (fun _ _ _ _ _ z => z)
    intro w mg fa h Y G hmg0
    obtain ⟨K, KX, c⟩ := Y
    have hmg : mg ("law" : PySem.Str) = some (.ref fa) := by
      have e : (HandSHeadRun.topDef (OpenLaw.row PySem.Challenge.rw_patchlay_k05_whole_exchanged).prog 55).name = ("law" : PySem.Str) := by kernel_rfl
      rw [← e]
      exact hmg0
    obtain ⟨fd, hb, hF⟩ := K05.facts (P := (PySem.Challenge.rw_patchlay_k05_whole_exchanged).prog) (w := w) KX G c.t.d hmg
    exact ⟨K, KX, Dl.law_at KX c (fun ns => ⟨true, K05.φ_law_ok ns⟩) hb hF⟩
end
