import PyProof.Rows.All
import HandS.AnyAll
import HandS.GenOver
import HandS.GenBody
import HandS.Lambda
import HandS.Conv
import PyProof.TupleOfGen
import Wide.All
import OpenK.AllK
import Wide.FinOn
import HandS.ForMost
import HandS.Defaults
import HandS.IsInst
import HandS.Wide
import HandS.Star
import HandS.Zip
import HandS.DictComp
import HandS.TupAny
import HandS.Deep
import HandS.HeadHook4
import HandS.HeadWalk
import HandS.Head2
import HandS.Strs
import HandS.Set
import HandS.SetFor
import PyProof.Rows.SortShellAny
import PySem.Challenge.RW_passmill_k02_whole_edges
import HandS.CallLocal
import HandS.Style
import HandS.TryOnly
import KE.GoesEnum
import HandS.Iter
import KE.KStateDown
import HandS.HeadEnd
set_option Elab.async false
set_option linter.all false
set_option maxRecDepth 100000
set_option maxHeartbeats 4000000
set_option maxHeartbeats 4000000
/-! Generator expressions handed to all and any, over anything that a PI serves, with any target, tests and element of the layer. -/
namespace GX
open PySem PySem.Spec PyProof.Rows L2 GxR GenW

/-- the context of a generator expression's own frame, woken around B -/
abbrev gblkB (X : Cx) (B : Around) (s : Shared) (H : Hp) (cenv : Env) (fp : List Addr) (pn : List (Addr × Obj)) : Cx :=
  { X with A := B.deeper cenv, s_0 := s, H_0 := H, env := cenv, outer := X.stack, stack := cenv :: X.stack, ex := fp, fn := fun x => cenv.scope.names.lookup x == some .cell, pn := pn, xe := fun _ _ => False }
/-- .. by a built-in's own loop; by a collecting one -/
abbrev gblk (X : Cx) (s : Shared) (H : Hp) (cenv : Env) (fp : List Addr) (pn : List (Addr × Obj)) : Cx := gblkB X X.A.in1.in1 s H cenv fp pn
abbrev gblkT (X : Cx) (s : Shared) (H : Hp) (cenv : Env) (fp : List Addr) (pn : List (Addr × Obj)) : Cx := gblkB X X.A.in1.in1.in1.in1 s H cenv fp pn

/-! ### code objects of generator expressions, known from their making on -/
def GenC (c P : Addr) : HO := .ext fun h => PySem.W.CodeHd h c P
theorem genC_ne {c P : Addr} (ps : Array Value) : GenC c P ≠ .tbl ps := fun z => by
  unfold GenC at z
  cases z
/-- this value is such a code object, and its table is known -/
def GoodC (H : Hp) (cv : Value) : Prop := ∃ c P qs, cv = .ref c ∧ H c = some (GenC c P) ∧ H P = some (.tbl qs) ∧ TriplesOk qs.toList
/-- the table at P, all whose code objects are good -/
def TabN (H : Hp) (P : Addr) : Prop := ∃ ps : Array Value, H P = some (.tbl ps) ∧ TriplesOk ps.toList ∧ ∀ (pos : Pos) (cv : Value), codeAmong pos ps.toList = some cv → GoodC H cv
/-- the table has grown by good ones, all else stands -/
def TabbedN (P : Addr) (H H' : Hp) : Prop := (∃ ps ps' : Array Value, H P = some (.tbl ps) ∧ H' P = some (.tbl ps') ∧ TriplesOk ps'.toList ∧ ∀ (pos : Pos) (cv : Value), codeAmong pos ps'.toList = some cv → codeAmong pos ps.toList = some cv ∨ GoodC H' cv) ∧
  ∀ b o, b ≠ P → H b = some o → H' b = some o
/-- the generator's code object, as the table tells it -/
def CodeAt (H : Hp) (P : Addr) (pos : Pos) (code : Value) : Prop := ∃ ps : Array Value, H P = some (.tbl ps) ∧ codeAmong pos ps.toList = some code
theorem GoodC.tabbed {P : Addr} {H H' : Hp} {cv : Value} (t : TabbedN P H H') (h : GoodC H cv) : GoodC H' cv := by
  obtain ⟨c, Q, qs, rfl, h1, h2, h3⟩ := h
  obtain ⟨⟨ps, ps', e1, e2, e3, _⟩, k⟩ := t
  have nc : c ≠ P := fun z => by
    rw [z, e1] at h1
    exact genC_ne ps (Option.some.inj h1).symm
  by_cases hq : Q = P
  · exact ⟨c, Q, ps', rfl, k c _ nc h1, by rw [hq]; exact e2, e3⟩
  · exact ⟨c, Q, qs, rfl, k c _ nc h1, k Q _ hq h2, h3⟩
theorem TabN.tabbed {P : Addr} {H H' : Hp} (t : TabN H P) (h : TabbedN P H H') : TabN H' P := by
  obtain ⟨ps, h1, h2, h3⟩ := t
  obtain ⟨⟨qs, qs', e1, e2, e3, e4⟩, k⟩ := id h
  rw [h1] at e1
  cases e1
  refine ⟨qs', e2, e3, fun pos cv e => ?_⟩
  rcases e4 pos cv e with e | e
  · exact (h3 pos cv e).tabbed h
  · exact e
theorem TabN.good {P : Addr} {H : Hp} {pos : Pos} {cv : Value} (t : TabN H P) (h : CodeAt H P pos cv) : GoodC H cv := by
  obtain ⟨ps, h1, h2, h3⟩ := t
  obtain ⟨qs, e1, e2⟩ := h
  rw [h1] at e1
  cases e1
  exact h3 pos cv e2

theorem room_gen {k : Nat} {A : Around} (r : Room (k + 1) A) (env : Env) : Room k (A.in1.in1.deeper env) :=
  ⟨r.hd, by have := r.dp; show A.depth + 1 + 3 * k + 5 < _; omega, by have := r.un; show A.units + 1 + 1 + 3 + 16 * k + 200 < _; omega⟩

theorem room_genT {k : Nat} {A : Around} (r : Room (k + 1) A) (env : Env) : Room k (A.in1.in1.in1.in1.deeper env) :=
  ⟨r.hd, by have := r.dp; show A.depth + 1 + 3 * k + 5 < _; omega, by have := r.un; show A.units + 1 + 1 + 1 + 1 + 3 + 16 * k + 200 < _; omega⟩

theorem over_gen {A : Around} {elt : Expr} {gs : List Comprehension} {scope : Scope} {pos : Pos} {it acc : Value} {env : Env} : A.over (.compLoop (.GeneratorExp elt gs scope pos) 0 it acc env) [] = A.deeper env := by
  first
    | rfl
    | (obtain ⟨hd, d, fr, gs, u⟩ := A; simp [Around.over, Around.deeper, marksOver, frameCount, unitsOf, envsOf, guardsOf, pushEnvs, pushGuards, Code.envs, Code.env?, Code.isFrame, Code.guards, Code.isGuard, Code.weight, Code.frames, Code.isCreation, Code.isCaller, Code.cUnits])

section
variable {X : Cx} {pins : List (Addr × Obj)} {σ : L2.St} {H : Hp} {s : Shared}
/-- the generators have turned, all else stands -/
theorem inv_gens {s' : Shared} (I : Inv X pins σ H s) (hh : s'.heap = s.heap) (ho : s'.os = s.os) (hb : AllBare s'.gens) : Inv X pins σ H s' := by
  refine ⟨I.ok, ho.trans I.os, hb, ?_, ?_, ?_, I.free, I.freeC, ?_, ?_, I.len⟩
  · rw [hh]; exact I.base
  · rw [hh]; exact I.loc
  · rw [hh]; exact I.cell
  · rw [hh]; exact I.pin
  · rw [hh]; exact I.hok

/-- the frame of a generator expression: its own names are local, others captured -/
structure GOk (N : List Str) (sc scope : Scope) (own : List (Str × Nat)) : Prop where
  blk : BlkOk N sc scope own
  co : scope.isCoroutine = false
  dot : scope.names.lookup (".0" : Str) = some NameKind.local

theorem pushCells_size : ∀ (names : List (Str × NameKind)) (h : Heap), h.objs.size ≤ (pushCells h names).objs.size
  | [], _ => Nat.le_refl _
  | (_, kind) :: r, h => by
    unfold pushCells
    split
    · refine Nat.le_trans ?_ (pushCells_size r _)
      rw [Heap.size_push]
      exact Nat.le_succ _
    · exact pushCells_size r h
theorem gen_start {B : Around} {scope : Scope} {own : List (Str × Nat)} {fp : List Addr} {code : Value} {it : Value} {h' : Heap} {go : Obj} {g' : Array GenState} {tk : Nat} (hBf : B.frames = some X.stack) (hBh : X.calm = true → B.handled = none) (I : Inv X pins σ H s) (ok : GOk X.N X.env.scope scope own) (hN : X.N.Nodup) (hfp : ∀ b ∈ fp, FpOk X pins H b ∧ b < s.heap.objs.size)
    (hn : h'.Ns s.heap.objs.size (fun y => if y = ".0" then some it else none)) (hs : Heap.SameBut s.heap.objs.size (pushCells (s.heap.push { cls := .type "frame", data := .dict #[] }) scope.names) h') (hg : AllBare g') (hgo : ∀ v, go.data ≠ .cell v) (hgf : go.isFreed = false) :
    Inv (gblkB X B s H (genEnv scope (cellsFrom (s.heap.objs.size + 1) scope.names (cloFrom X.env.cells scope.names [])) s.heap.objs.size code builtinsNs X.env) fp [(h'.objs.size, go)]) [] (wipe σ (own.map (·.2))) H { s with gens := g', toks := tk, heap := h'.push go } := by
  have hfree : ∀ y ∈ scope.names, y.2 = .free → ∃ c, X.env.cells.lookup y.1 = some c := fun y hy e => by
    rcases ok.blk.free y hy e with k | k
    · exact I.ok.has _ (.inl k)
    · exact I.ok.has _ (.inr k)
  have hsz : s.heap.objs.size + 1 ≤ h'.objs.size := by
    have q := pushCells_size scope.names (s.heap.push { cls := .type "frame", data := .dict #[] })
    rw [Heap.size_push] at q
    rw [hs.1]
    exact q
  have kc : ∀ b o, b ≠ s.heap.objs.size → (pushCells (s.heap.push { cls := .type "frame", data := .dict #[] }) scope.names).get? b = some o → (h'.push go).get? b = some o := fun b o hb e => Heap.get?_push_of_some _ (hs.extBut b o hb e)
  have kp : ∀ b o, s.heap.get? b = some o → (h'.push go).get? b = some o := fun b o e => kc b o (Nat.ne_of_lt (Heap.lt_size e)) (pushCells_keeps _ _ _ _ (Heap.get?_push_of_some _ e))
  generalize hcenv : genEnv scope (cellsFrom (s.heap.objs.size + 1) scope.names (cloFrom X.env.cells scope.names [])) s.heap.objs.size code builtinsNs X.env = cenv
  have hL : cenv.locals = s.heap.objs.size := by rw [← hcenv]; rfl
  have hcl : cenv.cells = cellsFrom (s.heap.objs.size + 1) scope.names (cloFrom X.env.cells scope.names []) := by rw [← hcenv]; rfl
  have hsc : cenv.scope = scope := by rw [← hcenv]; rfl
  have hfr : cenv.frame = some cenv.locals := by rw [← hcenv]; rfl
  rw [← Heap.size_push s.heap { cls := .type "frame", data := .dict #[] }] at hcl
  have clm : ∀ {y c}, (y, c) ∈ cloFrom X.env.cells scope.names [] → X.env.cells.lookup y = some c ∧ c < s.heap.objs.size := fun {y c} hm => by
    rcases cloFrom_mem hm with hm | ⟨h1, rfl⟩
    · cases hm
    · obtain ⟨c, hc⟩ := hfree _ h1 rfl
      rw [hc]
      obtain ⟨w, z⟩ := I.cell _ _ hc
      exact ⟨rfl, z.lt⟩
  have mem : ∀ {y c}, cenv.cells.lookup y = some c → (X.env.cells.lookup y = some c ∧ c < s.heap.objs.size) ∨ (s.heap.objs.size + 1 ≤ c ∧ CellAt (pushCells (s.heap.push { cls := .type "frame", data := .dict #[] }) scope.names) c none) := fun {y c} e => by
    rw [hcl] at e
    rcases cells_mem (PySem.mem_of_lookup e) with hm | ⟨_, h2, h3⟩
    · exact .inl (clm hm)
    · rw [Heap.size_push] at h2; exact .inr ⟨h2, h3⟩
  have look : ∀ {y}, scope.names.lookup y = some .free → ∃ c, cenv.cells.lookup y = some c ∧ X.env.cells.lookup y = some c := fun {y} hl => by
    have hy : (y, NameKind.free) ∈ scope.names := PySem.mem_of_lookup hl
    obtain ⟨c', e'⟩ := mem_lookup (cells_acc (names := scope.names) (n := (s.heap.push { cls := .type "frame", data := .dict #[] }).objs.size) (cloFrom_has (cells := X.env.cells) (acc := []) hy))
    rw [← hcl] at e'
    refine ⟨c', e', ?_⟩
    rw [hcl] at e'
    rcases cells_mem (PySem.mem_of_lookup e') with hm | ⟨h1, _, _⟩
    · exact (clm hm).1
    · have := ok.blk.uniq _ h1
      rw [hl] at this; cases this
  have okB : (gblkB X B s H cenv fp [(h'.objs.size, go)]).Ok := by
    refine ⟨I.ok.mod, by show cenv.scope.kind = _; rw [hsc]; exact ok.blk.kind, by show cenv.globals = _; rw [← hcenv]; exact I.ok.glob, by show cenv.builtins = _; rw [← hcenv]; rfl, by show s.heap.objs.size ≤ cenv.locals; rw [hL]; exact Nat.le_refl _,
      fun y z c e1 e2 => ?_, fun y hy => ?_, fun y c z e => ?_, hBh, ?_, .inr ⟨rfl, hfr⟩, fun b hb => ⟨?_, fun y c e z => ?_⟩, I.bs, Nat.le_trans I.ok.bsz I.sz, fun b o e hb => ?_, fun b hb z => ?_, I.stack, I.stkFree⟩
    · have e1 : cenv.cells.lookup y = some c := e1
      have e2 : cenv.cells.lookup z = some c := e2
      rw [hcl] at e1 e2
      refine cells_inj (fun p hp => ?_) (fun y z c a b => I.ok.inj y z c (clm a).1 (clm b).1) (PySem.mem_of_lookup e1) (PySem.mem_of_lookup e2)
      rw [Heap.size_push]
      exact Nat.lt_succ_of_lt (clm (y := p.1) (c := p.2) hp).2
    · show ∃ c, cenv.cells.lookup y = some c
      rcases hy with hy | hy
      · have hy' : cenv.scope.names.lookup y = some .cell := hy
        rw [hsc] at hy'
        obtain ⟨c, hm⟩ := cells_has (n := (s.heap.push { cls := .type "frame", data := .dict #[] }).objs.size) (acc := cloFrom X.env.cells scope.names []) (PySem.mem_of_lookup hy')
        obtain ⟨c', e'⟩ := mem_lookup hm
        exact ⟨c', by rw [hcl]; exact e'⟩
      · have hy' : cenv.scope.names.lookup y = some .free := hy
        rw [hsc] at hy'
        obtain ⟨c, h1, _⟩ := look hy'
        exact ⟨c, h1⟩
    · have z : (cenv.scope.names.lookup y == some NameKind.cell) = true := z
      rw [hsc] at z
      have z : scope.names.lookup y = some .cell := by simpa using z
      have e : cenv.cells.lookup y = some c := e
      rw [hcl] at e
      rcases cells_mem (PySem.mem_of_lookup e) with hm | ⟨_, h2, _⟩
      · rcases cloFrom_mem hm with hm | ⟨h1, _⟩
        · cases hm
        · have q := ok.blk.uniq _ h1
          rw [z] at q; cases q
      · rw [Heap.size_push] at h2
        exact Nat.le_of_succ_le h2
    · exact Around.frames_deeper hBf
    · show b ≠ cenv.locals
      rw [hL]; exact Nat.ne_of_lt (hfp b hb).2
    · have e : cenv.cells.lookup y = some c := e
      rcases mem e with ⟨h1, _⟩ | ⟨h1, _⟩
      · exact (hfp b hb).1.2.2.2.2.1 y c h1 z
      · have h2 : s.heap.objs.size + 1 ≤ b := by rw [← z]; exact h1
        exact absurd (Nat.lt_of_lt_of_le (hfp b hb).2 (Nat.le_of_succ_le h2)) (Nat.lt_irrefl _)
    · rcases (hfp b hb).1.2.2.2.1 with z | z
      · exact I.ok.noex b o e z
      · exact absurd (Nat.lt_of_lt_of_le (Heap.lt_size e) (Nat.le_trans I.ok.bsz z)) (Nat.lt_irrefl _)
    · rcases List.mem_cons.mp (I.stkSub b z) with z | z
      · exact (hfp b hb).1.2.1 z
      · exact (hfp b hb).1.2.2.1 z
  refine ⟨okB, rfl, hg, Un.kept kp, ⟨fun y => if y = ".0" then some it else none, ?_, fun i y av e1 e2 e3 => ?_⟩, fun y c e => ?_, ?_, fun y c e => ?_, fun p hp => ?_, I.hok.kept kp, by rw [wipe_length]; exact I.len⟩
  · show Heap.Ns _ cenv.locals _
    rw [hL]
    exact hn.push _
  · obtain ⟨e2, hne⟩ := wipe_some e2
    have hfr : scope.names.lookup y = some .free := by
      have key : ∀ k, cenv.scope.names.lookup y = some k → k = .local ∨ k = .cell ∨ k = .free → scope.names.lookup y = some .free := fun k hk hk' => by
        rw [hsc] at hk
        have no : ¬ (k = .local ∨ k = .cell) := fun hh => by
          rcases ok.blk.own _ (PySem.mem_of_lookup hk) hh with e' | e'
          · obtain ⟨p, hp, hpy⟩ := List.mem_map.mp e'
            have e3 := ok.blk.ix p hp
            have : p.1 = y := hpy
            rw [this] at e3
            exact hne (List.mem_map.mpr ⟨p, hp, nodup_ix hN e3 e1⟩)
          · exact e' (List.mem_of_getElem? e1)
        rcases hk' with rfl | rfl | rfl
        · exact absurd (.inl rfl) no
        · exact absurd (.inr rfl) no
        · exact hk
      have e3 : Vis cenv.scope y := e3
      rcases e3 with e3 | e3 | e3
      · exact key _ e3 (.inl rfl)
      · exact key _ e3 (.inr (.inl rfl))
      · exact key _ e3 (.inr (.inr rfl))
    obtain ⟨m, hn, hl⟩ := I.loc
    have hvis : Vis X.env.scope y := (ok.blk.free _ (PySem.mem_of_lookup hfr) rfl).elim (fun k => .inr (.inl k)) (fun k => .inr (.inr k))
    obtain ⟨w, r, q⟩ := hl i y av e1 e2 hvis
    have hk : cenv.kindOf y = some .free := by show cenv.scope.names.lookup y = _; rw [hsc]; exact hfr
    refine ⟨w, r, .inr ⟨.inr hk, ?_⟩⟩
    obtain ⟨c, h1, h2⟩ := look hfr
    rcases q with ⟨k, _⟩ | ⟨_, c', e', z⟩
    · have k : X.env.scope.names.lookup y = some .local := k
      rcases ok.blk.free _ (PySem.mem_of_lookup hfr) rfl with k' | k' <;> rw [show X.env.scope.names.lookup y = _ from k'] at k <;> cases k
    · rw [h2] at e'; cases e'
      exact ⟨c, h1, z.keeps kp⟩
  · have e : cenv.cells.lookup y = some c := e
    rcases mem e with ⟨h1, _⟩ | ⟨h1, z⟩
    · obtain ⟨w, z⟩ := I.cell y c h1
      exact ⟨w, z.keeps kp⟩
    · obtain ⟨o, z1, z2⟩ := z
      exact ⟨_, o, kc c o (Nat.ne_of_gt h1) z1, z2⟩
  · show H cenv.locals = none
    rw [hL]; exact I.hok.fresh (Nat.le_refl _)
  · have e : cenv.cells.lookup y = some c := e
    rcases mem e with ⟨h1, _⟩ | ⟨h1, _⟩
    · exact I.freeC y c h1
    · exact I.hok.fresh (Nat.le_of_succ_le h1)
  · have hp : p ∈ [(h'.objs.size, go)] ++ ([] : List (Addr × Obj)) := hp
    simp only [List.append_nil, List.mem_singleton] at hp
    subst hp
    refine ⟨Heap.get?_push_size _ hgf, I.hok.fresh (Nat.le_trans (Nat.le_succ _) hsz), ?_, fun hb => ?_, hgo⟩
    · show h'.objs.size ≠ cenv.locals
      rw [hL]; exact Nat.ne_of_gt hsz
    · obtain ⟨_, o, ho, _⟩ := I.stack.mem (show h'.objs.size ∈ frs X.stack from hb)
      have h9 : (h'.objs.size : Nat) < s.heap.objs.size := Heap.lt_size ho
      omega

/-! ### the loop -/
/-- what a turn has to reach -/
def AllStep (b₀ : Bool) (g : TG) (tt : TT) (te : TE) (vs : List Nat) (σ : L2.St) (Q : VK) (x : V) (H : Hp) (Nx : Hp → Prop) : Prop :=
  g x (wipe σ vs) H fun σ2 H2 => wipe σ2 vs = wipe σ vs ∧ tt σ2 H2 fun b H3 => if b = true then te σ2 H3 fun y H4 => ∃ c, y = .bl c ∧ if c = b₀ then Q (.bl b₀) H4 else Nx H4 else Nx H3
/-- the loop over what J walks -/
def AllLoop (b₀ : Bool) (g : TG) (tt : TT) (te : TE) (vs : List Nat) (σ : L2.St) (Q : VK) (J : It) (H2 : Hp) : Prop :=
  ∃ W : Nat → Nat → Hp → Prop, (∃ m, W 0 m H2) ∧ ∀ i m H, W i m H → (J.stop i H ∧ Q (.bl (!b₀)) H) ∨ (J.go i H ∧ ∃ Nx : Hp → Prop, (∀ H', Nx H' → ∃ m', m' < m ∧ W (i + 1) m' H') ∧ ∀ x H', J.yld i H x H' → AllStep b₀ g tt te vs σ Q x H' Nx)
/-- what the expression gives: b₀ ends it -/
def tAllG (b₀ : Bool) (P : Addr) (wi : TI) (g : TG) (tt : TT) (te : TE) (vs : List Nat) : TE := fun σ H Q => wi σ H fun J H1 => TabN H1 P ∧ ∀ H2, TabbedN P H1 H2 → AllLoop b₀ g tt te vs σ Q J H2

/-- the run's end; an item handed out -/
def gR (G : Cx) (σw : L2.St) (b₀ : Bool) (Q : VK) : Nat → Shared → Shared → Prop := fun _ _ s1 => ∃ H1, Inv G [] σw H1 s1 ∧ Q (.bl (!b₀)) H1
def gY (G : Cx) (σw : L2.St) (b₀ : Bool) (Q : VK) : Protocol := fun _ _ v s1 kap => ∃ c H1, v = .bool c ∧ Inv G [] σw H1 s1 ∧ (c = b₀ → Q (.bl b₀) H1) ∧ (c ≠ b₀ → ∀ s2 : Shared, s2.heap = s1.heap → s2.os = s1.os → AllBare s2.gens → kap (.send .none) s2)

theorem seg_gen {G : Cx} {A : Around} {elt tg iter : Expr} {ifs : List Expr} {scope : Scope} {pos : Pos} {it : Addr} {fp : List Addr} {tn : Nat → Heap → Prop} {J : It} {g : TG} {tt : TT} {te : TE} {vs : List Nat} {σ0 : L2.St} {b₀ : Bool} {Q : VK} {W : Nat → Nat → Hp → Prop}
    (hA : G.A = A.deeper G.env) (hxe : G.xe = fun _ _ => False) (hc : G.calm = true) (hco : G.env.scope.isCoroutine = false) (hex : G.ex = fp) (hpn : ∀ p ∈ G.pn, p.1 ∉ fp)
    (T : Turn G.prog G.w G.K tg J fp it tn) (pg : PG G tg g) (pt : PTs G ifs tt) (pe : PE G elt te)
    (turn : ∀ i m H, W i m H → (J.stop i H ∧ Q (.bl (!b₀)) H) ∨ (J.go i H ∧ ∃ Nx : Hp → Prop, (∀ H', Nx H' → ∃ m', m' < m ∧ W (i + 1) m' H') ∧ ∀ x H', J.yld i H x H' → g x (wipe σ0 vs) H' fun σ2 H2 => wipe σ2 vs = wipe σ0 vs ∧ tt σ2 H2 fun b H3 =>
      if b = true then te σ2 H3 fun y H4 => ∃ c, y = .bl c ∧ if c = b₀ then Q (.bl b₀) H4 else Nx H4 else Nx H3)) :
    ∀ (m n i : Nat) (H' : Hp) (s₀ s : Shared), m < n → Inv G [] (wipe σ0 vs) H' s → tn i s.heap → (∀ b ∈ fp, H' b = none) → W i m H' →
      Seg (model G.prog G.w) A (fun n s₀ r s₁ => r = .ok .next ∧ gR G (wipe σ0 vs) b₀ Q n s₀ s₁) (gY G (wipe σ0 vs) b₀ Q) n s₀ (.compLoop (.GeneratorExp elt [⟨tg, iter, ifs, 0⟩] scope pos) 0 (.ref it) .none G.env)
        ((model G.prog G.w).den (.compLoop (.GeneratorExp elt [⟨tg, iter, ifs, 0⟩] scope pos) 0 (.ref it) .none G.env)) [] s := by
  have stat : ∀ {σ' : L2.St} {H' : Hp} {s' : Shared}, Inv G [] σ' H' s' → (∀ b ∈ fp, H' b = none) → ∀ b ∈ fp, FpOk G [] H' b := fun {σ' H' s'} I' hn b hb =>
    ⟨hn b hb, (I'.ok.exf b (by rw [hex]; exact hb)).1, I'.ok.exfs b (by rw [hex]; exact hb), .inl (by rw [hex]; exact hb), fun x c e => (I'.ok.exf b (by rw [hex]; exact hb)).2 x c e, fun p hp => by
      rw [List.append_nil] at hp
      exact fun z => hpn p hp (by rw [z]; exact hb)⟩
  have hov : A.over (.compLoop (.GeneratorExp elt [⟨tg, iter, ifs, 0⟩] scope pos) 0 (.ref it) .none G.env) [] = G.A := by rw [hA]; exact over_gen
  intro m
  induction m using Nat.strongRecOn with
  | ind m ih =>
  intro n i H5 s₀ s5 hmn I5 st5 n5 w5
  show Seg _ A _ _ _ s₀ _ ((compTurn (.GeneratorExp elt [⟨tg, iter, ifs, 0⟩] scope pos) 0 (.ref it) .none G.env).onRaise (leaving G.env)) [] s5
  rw [compTurn_gen, Sem.onRaise_eq_wrap]
  refine seg_bind_wrap (wpAny_standAt ?_)
  rcases turn i m H5 w5 with ⟨stop, qq⟩ | ⟨go, Nx, hNx, step⟩
  · refine seg_bind_wrap ?_
    rw [hov]
    refine thnF (T.done G rfl rfl rfl hc i [] s5 _ H5 (fun _ _ => False) I5 (stat I5 n5) st5 stop) fun r s6 ⟨hr, I6⟩ => ?_
    subst hr
    exact seg_end (.ok .next) ⟨rfl, H5, I6, qq⟩
  · refine seg_bind_wrap ?_
    rw [hov]
    refine thnF (T.item G rfl rfl rfl hc i [] s5 _ H5 (fun _ _ => False) I5 (stat I5 n5) st5 go) fun r s6 ⟨u, hr, h6⟩ => ?_
    subst hr
    refine seg_bind_wrap ?_
    rw [hov]
    refine thnF h6 fun _ s7 ⟨x, H7, I7, r7, y7, st7, n7⟩ => ?_
    have I7' := I7.pinned (stat I7 n7) (T.obj _ _ st7)
    refine seg_bind_wrap ?_
    rw [hov]
    have pgr := pg.run _ s7 _ H7 x u _ I7' r7 (step x H7 y7)
    rw [hxe] at pgr
    refine thnF pgr fun _ s8 ⟨σ8, H8, I8, hw8, q8⟩ => ?_
    refine seg_bind_wrap ?_
    rw [hov]
    have ptr := pt.run _ s8 σ8 H8 _ I8 q8
    rw [hxe] at ptr
    refine thnF ptr fun b s9 ⟨H9, I9, q9⟩ => ?_
    -- the turn's end
    have fin : ∀ {s' : Shared} {H' : Hp}, Inv G ([] ++ pinsAt fp s7.heap) σ8 H' s' → Inv G [] (wipe σ0 vs) H' s' ∧ tn (i + 1) s'.heap ∧ (∀ b ∈ fp, H' b = none) := fun {s' H'} I' => by
      have pin' : ∀ b ∈ fp, ∀ o, s7.heap.get? b = some o → s'.heap.get? b = some o ∧ H' b = none := fun b hb o e =>
        let z := I'.pin (b, o) (List.mem_append_right _ (List.mem_append_right _ (mem_pinsAt hb e)))
        ⟨z.1, z.2.1⟩
      have hl : (wipe σ0 vs).length = σ8.length := by rw [← hw8, wipe_length]
      refine ⟨(I'.unpinned (pins := [])).weak hl (fun j v e => ?_), T.keep _ _ _ st7 fun b hb o e => (pin' b hb o e).1, fun b hb => ?_⟩
      · rw [← hw8] at e
        exact (wipe_some e).1
      · obtain ⟨o, e, _⟩ := T.obj _ _ st7 b hb
        exact (pin' b hb o e).2
    cases b with
    | false =>
      simp only [Bool.false_eq_true, if_false] at q9 ⊢
      obtain ⟨m', hm, w'⟩ := hNx H9 q9
      obtain ⟨f1, f2, f3⟩ := fin I9
      exact seg_again rfl (ih m' hm n (i + 1) H9 s₀ s9 (by omega) f1 f2 f3 w')
    | true =>
      simp only [if_true] at q9 ⊢
      have hy : ∀ v, yieldOut G.env v = yieldValue v := fun v => by simp only [yieldOut, hco, Bool.false_eq_true, if_false]
      simp only [hy]
      rw [Sem.bind_eq_wrap', Sem.bind_eq_wrap', Sem.wrap_wrap, Sem.wrap_wrap]
      refine seg_wrap ?_
      rw [hov]
      have per := pe.run _ s9 σ8 H9 _ I9 q9
      rw [hxe] at per
      refine thnF per fun z s10 ⟨yv, H10, I10, r10, c, hyv, q10⟩ => ?_
      subst hyv
      cases r10
      obtain ⟨f1, f2, f3⟩ := fin I10
      by_cases hcb : c = b₀
      · rw [if_pos hcb] at q10
        cases n with
        | zero => omega
        | succ n => exact seg_at (seg_yield rfl rfl rfl ⟨c, H10, rfl, f1, fun _ => q10, fun hne => absurd hcb hne⟩)
      · rw [if_neg hcb] at q10
        obtain ⟨m', hm, w'⟩ := hNx H10 q10
        cases n with
        | zero => omega
        | succ n =>
          refine seg_at (seg_yield rfl rfl rfl ⟨c, H10, rfl, f1, fun h => absurd h hcb, fun _ s2 hh ho hb => ?_⟩)
          exact seg_again rfl (ih m' hm n (i + 1) H10 s2 s2 (by omega) (inv_gens f1 hh ho hb) (by rw [hh]; exact f2) f3 w')

/-- the start of the run -/
theorem seg_genStart {G : Cx} {A : Around} {elt tg iter : Expr} {ifs : List Expr} {scope : Scope} {pos : Pos} {it : Addr} {R : GenEnd} {Y : Protocol} {n : Nat} {s₀ s : Shared} {fp : List Addr} {tn : Nat → Heap → Prop} {J : It}
    (T : Turn G.prog G.w G.K tg J fp it tn) (st : tn 0 s.heap)
    (loop : Seg (model G.prog G.w) A R Y n s₀ (.compLoop (.GeneratorExp elt [⟨tg, iter, ifs, 0⟩] scope pos) 0 (.ref it) .none G.env) ((model G.prog G.w).den (.compLoop (.GeneratorExp elt [⟨tg, iter, ifs, 0⟩] scope pos) 0 (.ref it) .none G.env)) [] s) :
    Seg (model G.prog G.w) A R Y n s₀ (.compStart (.GeneratorExp elt [⟨tg, iter, ifs, 0⟩] scope pos) 0 (.ref it) .none G.env) ((model G.prog G.w).den (.compStart (.GeneratorExp elt [⟨tg, iter, ifs, 0⟩] scope pos) 0 (.ref it) .none G.env)) [] s := by
  show Seg _ A _ _ _ s₀ _ ((compStart (.GeneratorExp elt [⟨tg, iter, ifs, 0⟩] scope pos) 0 (.ref it) .none G.env).onRaise (leaving G.env)) [] s
  unfold compStart
  rw [Sem.onRaise_eq_wrap]
  show Seg _ A _ _ _ s₀ _ ((ask >>= _).wrap _ _ _ _) [] s
  refine seg_bind_wrap (wpAny_askSetting ?_)
  split
  · exact seg_again rfl loop
  · first
      | exact seg_bind_wrap (wpAny_rule (seg_bind_wrap (wpAny_standAt (seg_bind_wrap (T.self _ 0 s _ _ st (seg_again rfl loop))))))
      | (refine seg_bind_wrap (wpAny_rule ?_); show Seg _ A _ _ _ s₀ _ ((standAt iter.pos >>= _).wrap _ _ _ _) [] s; exact seg_bind_wrap (wpAny_standAt (seg_bind_wrap (T.self _ 0 s _ _ st (seg_again rfl loop)))))

/-- what the consumer knows between two items -/
def Held (G : Cx) (σw : L2.St) (b₀ : Bool) (Q : VK) (A : Around) (a : Addr) (g n : Nat) (s : Shared) : Prop :=
  s.heap.IsGen a g ∧ s.heap.NoLimit ∧ ∃ gs, s.gens[g]? = some gs ∧ gs.Goes (model G.prog G.w) A (fun n s₀ r s₁ => r = .ok .next ∧ gR G σw b₀ Q n s₀ s₁) (gY G σw b₀ Q) n (.send .none) (s.setGen g .running)

theorem bare_set {s : Shared} {g : Nat} {x : GenState} (h : AllBare s.gens) (hx : x.bare = true) : AllBare (s.setGen g x).gens := fun y hy => by
  simp only [Shared.setGen] at hy
  obtain ⟨i, hi, rfl⟩ := Array.mem_iff_getElem.mp hy
  by_cases e : i = g
  · subst e
    simp only [Array.size_setIfInBounds] at hi
    rw [Array.getElem_setIfInBounds_self]
    exact hx
  · simp only [Array.size_setIfInBounds] at hi
    rw [Array.getElem_setIfInBounds_ne (by simpa using hi) (Ne.symm e)]
    exact h _ (Array.getElem_mem hi)

theorem set_at {s : Shared} {g : Nat} {x : GenState} (h : g < s.gens.size) : (s.setGen g x).gens[g]? = some x := by
  simp [Shared.setGen, h]

/-- next of the generator -/
theorem next_held {G : Cx} {σw : L2.St} {b₀ : Bool} {Q : VK} {A : Around} {E : Value → Shared → Prop} {a : Addr} {g n : Nat} {s : Shared} {Qn : Option Value → Shared → Prop} (hh : A.handled = none) (hd : A.depth < recursionLimit)
    (hg : ∀ s1 H1, Inv G [] σw H1 s1 → s1.heap.IsGen a g) (h : Held G σw b₀ Q A.in1 a g n s)
    (hY : ∀ c s1 H1 gs, Inv G [] σw H1 s1 → g < s1.gens.size → gs.bare = true → (c = b₀ → Q (.bl b₀) H1) → (c ≠ b₀ → n ≠ 0 ∧ Held G σw b₀ Q A.in1 a g (n - 1) (s1.setGen g gs)) → Qn (some (.bool c)) (s1.setGen g gs))
    (hR : ∀ s1 H1, Inv G [] σw H1 s1 → Q (.bl (!b₀)) H1 → Qn none s1) : wpAny (model G.prog G.w) A (pyNext (.ref a)) Qn E s := by
  obtain ⟨hgen, hl, gs, hgs, hgo⟩ := h
  have hgl : g < s.gens.size := (Array.getElem?_eq_some_iff.mp hgs).1
  refine wpAny_gsz (n := g + 1) hgl (wpAny_pyNext_genexpQ (P := gR G σw b₀ Q) hh hl hd hgen hgs hgo (fun v s1 gs' hb hv => ?_) fun s1 hp h' hk => ?_)
  · obtain ⟨c, H1, rfl, I1, h1, h2⟩ := hv
    intro hsz
    have hsz1 : g < s1.gens.size := by
      have q : (s1.setGen g gs').gens.size = s1.gens.size := by simp [Shared.setGen]
      have hsz' : g + 1 ≤ (s1.setGen g gs').gens.size := hsz
      omega
    refine hY c s1 H1 gs' I1 hsz1 hb h1 fun hne => ?_
    cases n with
    | zero => exact (h2 hne s1 rfl rfl I1.bare).elim
    | succ m => exact ⟨Nat.succ_ne_zero m, hg s1 H1 I1, I1.nolimit, gs', set_at hsz1, h2 hne _ rfl rfl (bare_set (bare_set I1.bare hb) rfl)⟩
  · intro _
    obtain ⟨H1, I1, q1⟩ := hp
    refine hR _ H1 ?_ q1
    have I2 := I1.kept (h' := h') (t' := s1.toks) hk
    exact inv_gens I2 rfl rfl (bare_set I1.bare rfl)

theorem all_loop {G : Cx} {σw : L2.St} {Q : VK} {A : Around} {a : Addr} {g : Nat} {R : Result → Shared → Prop} (hh : A.handled = none) (hd : A.depth < recursionLimit)
    (hg : ∀ s1 H1, Inv G [] σw H1 s1 → s1.heap.IsGen a g) (hR : ∀ c s1 H1, Inv G [] σw H1 s1 → Q (.bl c) H1 → R (.ok (.ret (.bool c))) s1) :
    ∀ (n : Nat) (s : Shared), Held G σw false Q A.in1.in1 a g n s → codeAny (model G.prog G.w) A (.builtin "all.loop" ⟨[.ref a], []⟩) R s := by
  intro n
  induction n with
  | zero =>
    intro s h
    refine codeAny_builtin F.entry_all_loop ?_
    rw [Around.under_plainId F.plain_all_loop _]
    show wpAny _ A.in1 (pyNext (.ref a) >>= _) _ _ s
    refine wpAny_bind (next_held (A := A.in1) hh hd hg h (fun c s1 H1 gs I1 hsz hb h1 h2 => ?_) fun s1 H1 I1 q1 => ?_)
    · refine wpAny_bind (wpAny_holding (wpAny_truthy_bool (wpAny_bind (wpAny_letGo ?_))))
      cases c with
      | true => exact absurd rfl (h2 (by decide)).1
      | false =>
        simp only [Bool.false_eq_true, if_false]
        exact wpAny_bind (wpAny_rule (wpAny_pure (hR false _ H1 (inv_gens I1 rfl rfl (bare_set I1.bare hb)) (h1 rfl))))
    · exact wpAny_bind (wpAny_rule (wpAny_pure (hR true _ H1 I1 q1)))
  | succ n ih =>
    intro s h
    refine codeAny_builtin F.entry_all_loop ?_
    rw [Around.under_plainId F.plain_all_loop _]
    show wpAny _ A.in1 (pyNext (.ref a) >>= _) _ _ s
    refine wpAny_bind (next_held (A := A.in1) hh hd hg h (fun c s1 H1 gs I1 hsz hb h1 h2 => ?_) fun s1 H1 I1 q1 => ?_)
    · refine wpAny_bind (wpAny_holding (wpAny_truthy_bool (wpAny_bind (wpAny_letGo ?_))))
      cases c with
      | true => exact wpAny_pure ⟨plainId_quiet F.plain_all_loop _, ih _ (h2 (by decide)).2⟩
      | false =>
        simp only [Bool.false_eq_true, if_false]
        exact wpAny_bind (wpAny_rule (wpAny_pure (hR false _ H1 (inv_gens I1 rfl rfl (bare_set I1.bare hb)) (h1 rfl))))
    · exact wpAny_bind (wpAny_rule (wpAny_pure (hR true _ H1 I1 q1)))

theorem any_loop {G : Cx} {σw : L2.St} {Q : VK} {A : Around} {a : Addr} {g : Nat} {R : Result → Shared → Prop} (hh : A.handled = none) (hd : A.depth < recursionLimit)
    (hg : ∀ s1 H1, Inv G [] σw H1 s1 → s1.heap.IsGen a g) (hR : ∀ c s1 H1, Inv G [] σw H1 s1 → Q (.bl c) H1 → R (.ok (.ret (.bool c))) s1) :
    ∀ (n : Nat) (s : Shared), Held G σw true Q A.in1.in1 a g n s → codeAny (model G.prog G.w) A (.builtin "any.loop" ⟨[.ref a], []⟩) R s := by
  intro n
  induction n with
  | zero =>
    intro s h
    refine codeAny_builtin F.entry_any_loop ?_
    rw [Around.under_plainId F.plain_any_loop _]
    show wpAny _ A.in1 (pyNext (.ref a) >>= _) _ _ s
    refine wpAny_bind (next_held (A := A.in1) hh hd hg h (fun c s1 H1 gs I1 hsz hb h1 h2 => ?_) fun s1 H1 I1 q1 => ?_)
    · refine wpAny_bind (wpAny_holding (wpAny_truthy_bool (wpAny_bind (wpAny_letGo ?_))))
      cases c with
      | false => exact absurd rfl (h2 (by decide)).1
      | true =>
        simp only [if_true]
        exact wpAny_bind (wpAny_rule (wpAny_pure (hR true _ H1 (inv_gens I1 rfl rfl (bare_set I1.bare hb)) (h1 rfl))))
    · exact wpAny_bind (wpAny_rule (wpAny_pure (hR false _ H1 I1 q1)))
  | succ n ih =>
    intro s h
    refine codeAny_builtin F.entry_any_loop ?_
    rw [Around.under_plainId F.plain_any_loop _]
    show wpAny _ A.in1 (pyNext (.ref a) >>= _) _ _ s
    refine wpAny_bind (next_held (A := A.in1) hh hd hg h (fun c s1 H1 gs I1 hsz hb h1 h2 => ?_) fun s1 H1 I1 q1 => ?_)
    · refine wpAny_bind (wpAny_holding (wpAny_truthy_bool (wpAny_bind (wpAny_letGo ?_))))
      cases c with
      | false =>
        simp only [Bool.false_eq_true, if_false]
        exact wpAny_pure ⟨plainId_quiet F.plain_any_loop _, ih _ (h2 (by decide)).2⟩
      | true =>
        simp only [if_true]
        exact wpAny_bind (wpAny_rule (wpAny_pure (hR true _ H1 (inv_gens I1 rfl rfl (bare_set I1.bare hb)) (h1 rfl))))
    · exact wpAny_bind (wpAny_rule (wpAny_pure (hR false _ H1 I1 q1)))

/-- a thing that stands in the heap is known from now on -/
theorem inv_track {a : Addr} {o : HO} (I : Inv X pins σ H s) (hn : H a = none) (ha : X.s_0.heap.objs.size ≤ a) (hl : a ≠ X.env.locals) (hcl : ∀ x c, X.env.cells.lookup x = some c → c ≠ a) (hp : ∀ p ∈ X.pn ++ pins, p.1 ≠ a)
    (hok : ObjOk X.prog X.w (upd H a o) s.heap a o) : Inv X pins σ (upd H a o) s := by
  have ne : ∀ b u, H b = some u → b ≠ a := fun b u e => ne_of_none e hn
  refine ⟨I.ok, I.os, I.bare, ⟨I.base.keep, I.base.slot, fun b ob q n hx => ?_, I.base.there, fun b xs q => ?_, fun b ob u q => ?_, fun b ps q => ?_⟩, I.loc, I.cell, ?_, fun x c e => ?_, fun p hp' => ?_, fun b u e => ?_, I.len⟩
  · rw [upd_ne (fun z => by
      have h1 := Heap.lt_size q
      rw [z] at h1
      exact Nat.lt_irrefl _ (Nat.lt_of_lt_of_le h1 ha))]
    exact I.base.free b ob q n hx
  · have q2 := I.base.tups b xs q
    rw [upd_ne (ne _ _ q2)]; exact q2
  · have q2 := I.base.frzs b ob u q
    rw [upd_ne (ne _ _ q2)]; exact q2
  · obtain ⟨more, q2⟩ := I.base.tbls b ps q
    exact ⟨more, by rw [upd_ne (ne _ _ q2)]; exact q2⟩
  · rw [upd_ne (Ne.symm hl)]; exact I.free
  · rw [upd_ne (hcl x c e)]; exact I.freeC x c e
  · obtain ⟨z1, z2, z3⟩ := I.pin p hp'
    exact ⟨z1, by rw [upd_ne (hp p hp')]; exact z2, z3⟩
  · by_cases hb : b = a
    · subst hb
      rw [upd_same] at e
      cases e
      exact hok
    · rw [upd_ne hb] at e
      exact (I.hok b u e).stay (fun _ _ _ z => z) (fun d z => by rw [upd_ne (ne _ _ z)]; exact z) fun d xs z => by rw [upd_ne (ne _ _ z)]; exact z

/-- the code object of a generator expression: found in the table, or made -/
theorem gen_code {c P : Addr} {ps : Array Value} {gpos : Pos} {qn : Str} {scope : Scope} {Q : Value → Shared → Prop} {E : Value → Shared → Prop} (I : Inv X pins σ H s) (hcode : X.env.code = .ref c) (cd : PySem.W.CodeHd s.heap c P) (hP : H P = some (.tbl ps)) (htr : TriplesOk ps.toList)
    (h : ∀ (code : Value) (H3 : Hp) (s3 : Shared), Inv X pins σ H3 s3 → TabbedN P H H3 → CodeAt H3 P gpos code → (∀ b o, b ≠ P → s.heap.get? b = some o → s3.heap.get? b = some o) → (∀ b, b < s.heap.objs.size → b ≠ P → H3 b = H b) → Q code s3) :
    wpAny (model X.prog X.w) X.A (genexprCode X.env gpos qn scope) Q E s := by
  have hPs : s.heap.get? P = some { cls := .none, data := .fields ps } := I.hok P _ hP
  cases hf : codeAmong gpos ps.toList with
  | some cv =>
    refine wpAny_genexprCode_hit hcode (cd.code hPs htr) hf ?_
    exact h cv H s I ⟨⟨ps, ps, hP, hP, htr, fun _ _ e => .inl e⟩, fun _ _ _ e => e⟩ ⟨ps, hP, hf⟩ (fun _ _ _ e => e) fun _ _ _ => rfl
  | none =>
    refine wpAny_genexprCodeX hcode (cd.code hPs htr) (cd.tab hPs) hf fun c' h' tk hx hge hlt hco' _ htab' ⟨P', hgP, hco2, htab2⟩ => ?_
    obtain ⟨o1, vs, f1, tf, fl, tg, inF, tx, tt, op, _, _, _, _, _, _, _, _, _, htr', _⟩ := hco'
    have hl : (ps ++ #[rawInt gpos.line, rawInt gpos.col, Value.ref c']).toList = ps.toList ++ [rawInt gpos.line, rawInt gpos.col, .ref c'] := by simp
    have I1 : Inv X pins σ (upd H P (.tbl (ps ++ #[rawInt gpos.line, rawInt gpos.col, Value.ref c']))) { s with heap := h', toks := tk } := inv_tab (g' := s.gens) (d' := s.drawn) I hP (fun b u hb e => hx b u hb e) htab'.2 I.bare
    have hPlt : P < s.heap.objs.size := Heap.lt_size hPs
    have ncP : c' ≠ P := fun z => by rw [z] at hge; exact Nat.lt_irrefl _ (Nat.lt_of_lt_of_le hPlt hge)
    have nPP : P' ≠ P := fun z => by rw [z] at hgP; exact Nat.lt_irrefl _ (Nat.lt_of_lt_of_le hPlt hgP)
    have cd2 : PySem.W.CodeHd h' c' P' := .of hco2 htab2
    have ncc : c' ≠ P' := by obtain ⟨_, _, _, _, _, _, _, _, _, _, _, _, _, _, _, _, _, _, n⟩ := cd2; exact n
    have fc := I.fpOk (H' := H) hge (I.hok.fresh hge)
    have fP := I.fpOk (H' := H) hgP (I.hok.fresh hgP)
    have I2 : Inv X pins σ (upd (upd H P (.tbl (ps ++ #[rawInt gpos.line, rawInt gpos.col, Value.ref c']))) c' (GenC c' P')) { s with heap := h', toks := tk } := by
      refine inv_track I1 (by rw [upd_ne ncP]; exact I.hok.fresh hge) (Nat.le_trans I.sz hge) fc.2.1 fc.2.2.2.2.1 fc.2.2.2.2.2 ?_
      obtain ⟨o2, w2⟩ := id cd2
      refine ⟨cd2, ?_, fun h1 h2 q k => ?_⟩
      · obtain ⟨_, _, _, _, _, _, _, _, z, _⟩ := w2
        exact ⟨_, z⟩
      · obtain ⟨o, vs, file, tf, flags, tg, inF, text, tt, e, r⟩ := q
        exact ⟨o, vs, file, tf, flags, tg, inF, text, tt, k _ e, r⟩
    have I3 : Inv X pins σ (upd (upd (upd H P (.tbl (ps ++ #[rawInt gpos.line, rawInt gpos.col, Value.ref c']))) c' (GenC c' P')) P' (.tbl #[])) { s with heap := h', toks := tk } := by
      refine inv_track I2 (by rw [upd_ne (Ne.symm ncc), upd_ne nPP]; exact I.hok.fresh hgP) (Nat.le_trans I.sz hgP) fP.2.1 fP.2.2.2.2.1 fP.2.2.2.2.2 ?_
      exact htab2.2
    have good : GoodC (upd (upd (upd H P (.tbl (ps ++ #[rawInt gpos.line, rawInt gpos.col, Value.ref c']))) c' (GenC c' P')) P' (.tbl #[])) (.ref c') := ⟨c', P', #[], rfl, by rw [upd_ne ncc, upd_same], upd_same, True.intro⟩
    have atP : upd (upd (upd H P (.tbl (ps ++ #[rawInt gpos.line, rawInt gpos.col, Value.ref c']))) c' (GenC c' P')) P' (.tbl #[]) P = some (.tbl (ps ++ #[rawInt gpos.line, rawInt gpos.col, Value.ref c'])) := by rw [upd_ne (Ne.symm nPP), upd_ne (Ne.symm ncP), upd_same]
    refine h (.ref c') _ { s with heap := h', toks := tk } I3 ⟨⟨ps, _, hP, atP, htr', fun pos cv e => ?_⟩, fun b o hb e => ?_⟩ ⟨_, atP, ?_⟩ (fun b o hb e => hx b o hb e) fun b hb hbP => ?_
    · rw [hl] at e
      rcases LamX.among_app _ htr e with z | z
      · exact .inl z
      · rw [z]; exact .inr good
    · have hlt : b < s.heap.objs.size := I.hok.lt e
      rw [upd_ne (fun z => Nat.lt_irrefl _ (Nat.lt_of_lt_of_le hlt (by rw [z]; exact hgP))), upd_ne (fun z => Nat.lt_irrefl _ (Nat.lt_of_lt_of_le hlt (by rw [z]; exact hge))), upd_ne hb]
      exact e
    · rw [hl]
      exact codeAmong_snoc _ htr hf
    · rw [upd_ne (fun z => Nat.lt_irrefl _ (Nat.lt_of_lt_of_le hb (by rw [z]; exact hgP))), upd_ne (fun z => Nat.lt_irrefl _ (Nat.lt_of_lt_of_le hb (by rw [z]; exact hge))), upd_ne hbP]

theorem eval_genN (elt target iter : Expr) (ifs : List Expr) (more : List Comprehension) (scope : Scope) (pos : Pos) (env : Env) (hco : scope.isCoroutine = false) :
    eval (.GeneratorExp elt (⟨target, iter, ifs, 0⟩ :: more) scope pos) env = (do
      let x ← eval iter env
      standAt iter.pos
      let x ← genFold iter env x
      let it ← holding [x] (pyIter x)
      enterFrame
      let cl ← closureFor scope env
      let code ← genexprCode env pos (env.qual ++ "<genexpr>") scope
      let bi ← builtinsFor env.globals env.builtins
      let cenv ← newFunctionEnv scope env.globals cl [(".0", it)] (env.qual ++ "<genexpr>.") none code none bi
      newGenerator (.compStart (.GeneratorExp elt (⟨target, iter, ifs, 0⟩ :: more) scope pos) 0 it .none cenv) "<genexpr>" (env.qual ++ "<genexpr>")) := by
  rw [arm_eval_GeneratorExp]
  simp only [hco, Bool.false_eq_true, if_false]
  cases iter <;> rfl
/-- a generator's frame: its cells laid behind the closure's, its iterator bound -/
theorem new_envC {M : Model} {A : Around} {E : Value → Shared → Prop} {s : Shared} {scope : Scope} {globals : Addr} {cl : List (Str × Addr)} {it : Value} {qual : Str} {code : Value} {bi : Addr} {Q : Env → Shared → Prop} (h0 : scope.names.lookup (".0" : Str) = some NameKind.local) (hk : scope.kind = .function)
    (hQ : ∀ h', h'.Ns s.heap.objs.size (fun y => if y = (".0" : Str) then some it else none) → Heap.SameBut s.heap.objs.size (pushCells (s.heap.push { cls := .type "frame", data := .dict #[] }) scope.names) h' →
      Q { scope, locals := s.heap.objs.size, globals, cells := cellsFrom (s.heap.objs.size + 1) scope.names cl, qual, func := none, code, frame := some s.heap.objs.size, builtins := bi } { s with heap := h', toks := s.toks + 1 }) :
    wpAny M A (newFunctionEnv scope globals cl [((".0" : Str), it)] qual none code none bi) Q E s := by
  simp only [newFunctionEnv, Option.isSome_none, Bool.false_eq_true, if_false]
  refine wpAny_bind (wpAny_alloc ?_)
  refine wpAny_bind (wpAny_layCells _ (fun name kind cells => by cases hkc : kind == NameKind.cell <;> simp [hkc]) _ _ _ _ ?_)
  rw [show ({ s with heap := s.heap.push { cls := .type "frame", data := .dict #[] } } : Shared).heap.objs.size = s.heap.objs.size + 1 from Heap.size_push ..]
  have ns0 : (pushCells (s.heap.push { cls := .type "frame", data := .dict #[] }) scope.names).Ns s.heap.objs.size (fun _ => none) := (Heap.Ns.new s.heap (.type "frame")).keeps (pushCells_keeps _ _)
  refine wpAny_bind ?_
  rw [List.forIn_cons]
  refine wpAny_bind (wpAny_bind (wpAny_storeName_local (env := { scope, locals := s.heap.objs.size, globals, cells := cellsFrom (s.heap.objs.size + 1) scope.names cl, qual, func := none, code, frame := some s.heap.objs.size, builtins := bi }) h0 ns0 (fun h' hn' hs' => wpAny_pure ?_) (by show (scope.kind == .class || (scope.kind == .module && _)) = false; rw [hk]; rfl)))
  show wpAny _ _ (forIn ([] : List (Str × Value)) _ _) _ _ _
  rw [List.forIn_nil]
  exact wpAny_pure (wpAny_pure (hQ h' hn' hs'))
theorem wp_gen_makeN {M : Model} {A : Around} {E : Value → Shared → Prop} {s : Shared} {env : Env} {elt target iter : Expr} {ifs : List Expr} {more : List Comprehension} {scope : Scope} {cl : List (Str × Addr)} {pos : Pos} {Q : Value → Shared → Prop}
    (hco : scope.isCoroutine = false) (hclos : closureFor scope env = pure cl) (h0 : scope.names.lookup (".0" : Str) = some NameKind.local) (hkind : scope.kind = .function)
    (hroom : A.depth < recursionLimit)
    (h : wpAny M A (eval iter env) (fun xv s₁ => wpAny M A (pyIter xv) (fun it s₂ => s₂.heap.NoLimit ∧
      wpAny M A (genexprCode env pos (env.qual ++ "<genexpr>") scope) (fun code s₃ => wpAny M A (builtinsFor env.globals env.builtins) (fun bi s₄ =>
        ∀ h', h'.Ns s₄.heap.objs.size (fun y => if y = ".0" then some it else none) → Heap.SameBut s₄.heap.objs.size (pushCells (s₄.heap.push { cls := .type "frame", data := .dict #[] }) scope.names) h' →
          Q (.ref h'.objs.size) { s₄ with
            gens := s₄.gens.push (.fresh (.compStart (.GeneratorExp elt (⟨target, iter, ifs, 0⟩ :: more) scope pos) 0 it .none (genEnv scope (cellsFrom (s₄.heap.objs.size + 1) scope.names cl) s₄.heap.objs.size code bi env))),
            toks := s₄.toks + 1 + 1 + 1,
            heap := h'.push { cls := .type "generator", data := .fields #[.int s₄.gens.size 0, .str "<genexpr>" (s₄.toks + 1), .str (env.qual ++ "<genexpr>") (s₄.toks + 1 + 1)] } }) E s₃) E s₂) E s₁) E s)
    (hs : ∀ x, genFold iter env x = pure x) :
    wpAny M A (eval (.GeneratorExp elt (⟨target, iter, ifs, 0⟩ :: more) scope pos) env) Q E s := by
  rw [eval_genN _ _ _ _ _ _ _ _ hco, hclos]
  refine wpAny_bind (wpAny_mono h (fun xv s₁ h₁ => ?_) fun _ _ e => e)
  refine wpAny_bind (wpAny_standAt ?_)
  refine wpAny_bind (wpAny_of_eq (hs xv) ?_)
  refine wpAny_bind (wpAny_holding (wpAny_mono h₁ (fun it s₂ h₂ => ?_) fun _ _ e => e))
  refine wpAny_bind (wpAny_enterFrame h₂.1 hroom ?_)
  refine wpAny_bind (wpAny_pure ?_)
  refine wpAny_bind (wpAny_mono h₂.2 (fun code s₃ h₃ => ?_) fun _ _ e => e)
  refine wpAny_bind (wpAny_mono h₃ (fun bi s₄ h₄ => ?_) fun _ _ e => e)
  refine wpAny_bind (new_envC h0 hkind fun h' hn' hs' => ?_)
  simp only [newGenerator, newFields]
  refine wpAny_bind (wpAny_newGen (wpAny_bind (wpAny_mkText (wpAny_bind (wpAny_mkText (wpAny_newObj_type ?_ (by size_fits)))))))
  exact h₄ h' hn' hs'

/-- a generator has been made: its context G, what it walks (J), its object at a, its number gn -/
structure Made (X : Cx) (B : Around) (pins : List (Addr × Obj)) (σ σw : L2.St) (e tg : Expr) (scope : Scope) (code : Value) (G : Cx) (J : It) (H3 : Hp) (it a : Addr) (fp : List Addr) (tn : Nat → Heap → Prop) (gn : Nat) (s5 : Shared) : Prop where
  made : ∃ (s : Shared) (H : Hp) (C : Addr) (cl : List (Str × Addr)) (bi : Addr) (pn : List (Addr × Obj)), G = gblkB X B s H (genEnv scope cl C code bi X.env) fp pn
  pn : ∀ p ∈ G.pn, p.1 ∉ fp ∧ p.1 < s5.heap.objs.size
  turn : Turn X.prog X.w X.K tg J fp it tn
  inv : Inv G [] σw H3 s5
  gen : s5.gens[gn]? = some (.fresh (.compStart e 0 (.ref it) .none G.env))
  st : tn 0 s5.heap
  fr : ∀ b ∈ fp, H3 b = none ∧ b < s5.heap.objs.size
  isg : ∀ pins' σ' s1 H1, Inv G pins' σ' H1 s1 → s1.heap.IsGen a gn
  back : ∀ pins' σ' s1 H1, Inv G pins' σ' H1 s1 → Inv X pins σ H1 s1
  apart : ∀ S, s5.heap.objs.size ≤ S → Apart G S
  alt : a < s5.heap.objs.size

theorem gen_made {c P P0 : Addr} {B : Around} {elt tg iter : Expr} {ifs : List Expr} {more : List Comprehension} {scope : Scope} {own : List (Str × Nat)} {gpos : Pos} {wi : TI} {R0 : It → Hp → Prop} {Q' : Value → Shared → Prop} {k : Nat}
    (hN : X.N.Nodup) (hr : Room k X.A) (hBf : B.frames = some X.stack) (hBh : X.calm = true → B.handled = none) (bm : X.base.BuiltinsAt X.mg P0) (hcode : X.env.code = .ref c) (ok : GOk X.N X.env.scope scope own) (hi : PI X tg iter wi)
    (hs : ∀ v, genFold iter X.env v = pure v) (I : Inv X pins σ H s) (h : wi σ H R0)
    (hcd : ∀ J H2 s2, R0 J H2 → Inv X pins σ H2 s2 → PySem.W.CodeHd s2.heap c P ∧ ∃ ps : Array Value, H2 P = some (.tbl ps) ∧ TriplesOk ps.toList)
    (hQ : ∀ J H2 H3 code G it a fp tn gn s5, R0 J H2 → TabbedN P H2 H3 → CodeAt H3 P gpos code → Made X B pins σ (wipe σ (own.map (·.2))) (.GeneratorExp elt (⟨tg, iter, ifs, 0⟩ :: more) scope gpos) tg scope code G J H3 it a fp tn gn s5 → Q' (.ref a) s5) :
    wpAny (model X.prog X.w) X.A (eval (.GeneratorExp elt (⟨tg, iter, ifs, 0⟩ :: more) scope gpos) X.env) Q' X.xe s := by
  have hfree : ∀ y ∈ scope.names, y.2 = .free → ∃ c, X.env.cells.lookup y.1 = some c := fun y hy e => by
    rcases ok.blk.free y hy e with k | k
    · exact I.ok.has _ (.inl k)
    · exact I.ok.has _ (.inr k)
  refine wp_gen_makeN ok.co (closure_ok hfree) ok.dot ok.blk.kind (by have := hr.dp; omega) ?_ hs
  refine thn (hi.run pins s σ H _ I h) fun xv s1 hx => thn hx fun itv s2 h2 => ?_
  obtain ⟨it, fp, tn, J, H2, e, I2, T, st2, f2, q⟩ := h2
  subst e
  refine ⟨I2.nolimit, ?_⟩
  obtain ⟨cd, ps, hP, htr⟩ := hcd J H2 s2 q I2
  refine gen_code I2 hcode cd hP htr fun code H3 s3 I3 hT hcA keep3 same3 => ?_
  obtain ⟨bm, ob, e1, e2, e3, e4, e5, e6, e7, e8⟩ := bm
  refine wpAny_builtinsFor (m := X.mg) (by rw [I3.ok.glob]; exact I3.mod.glob.keeps I3.bk) e1 e2 (I3.bk _ _ e5) e6 e7 e8 ?_
  intro h' hn' hs'
  have nP : ∀ b ∈ fp, b ≠ P := fun b hb z => by
    have := (f2 b hb).1
    rw [z, hP] at this
    cases this
  have st3 : tn 0 s3.heap := T.keep _ _ _ st2 fun b hb o e => keep3 b o (nP b hb) e
  have f3 : ∀ b ∈ fp, FpOk X pins H3 b ∧ b < s3.heap.objs.size := fun b hb => by
    refine ⟨⟨?_, (f2 b hb).2⟩, ?_⟩
    · obtain ⟨o, e, _⟩ := T.obj _ _ st2 b hb
      rw [same3 b (Heap.lt_size e) (nP b hb)]
      exact (f2 b hb).1
    · obtain ⟨o, e, _⟩ := T.obj _ _ st3 b hb
      exact Heap.lt_size e
  have hsz : s3.heap.objs.size + 1 ≤ h'.objs.size := by
    have q := pushCells_size scope.names (s3.heap.push { cls := .type "frame", data := .dict #[] })
    rw [Heap.size_push] at q
    rw [hs'.1]
    exact q
  generalize hgo : ({ cls := .type "generator", data := .fields #[.int s3.gens.size 0, .str "<genexpr>" (s3.toks + 1), .str (X.env.qual ++ "<genexpr>") (s3.toks + 1 + 1)] } : Obj) = go
  have hgd : go.data = .fields #[.int s3.gens.size 0, .str "<genexpr>" (s3.toks + 1), .str (X.env.qual ++ "<genexpr>") (s3.toks + 1 + 1)] := by rw [← hgo]
  have I5 := gen_start (B := B) (code := code) (it := .ref it) (h' := h') (go := go) (g' := s3.gens.push (.fresh (.compStart (.GeneratorExp elt (⟨tg, iter, ifs, 0⟩ :: more) scope gpos) 0 (.ref it) .none (genEnv scope (cellsFrom (s3.heap.objs.size + 1) scope.names (cloFrom X.env.cells scope.names [])) s3.heap.objs.size code builtinsNs X.env)))) (tk := s3.toks + 1 + 1 + 1)
    hBf hBh I3 ok hN f3 hn' hs' (I3.bare.push rfl) (fun v z => by rw [hgd] at z; cases z) (by rw [← hgo]; rfl)
  have kp5 : ∀ b o, s3.heap.get? b = some o → (h'.push go).get? b = some o := fun b o e => Heap.get?_push_of_some _ (hs'.extBut b o (Nat.ne_of_lt (Heap.lt_size e)) (pushCells_keeps _ _ _ _ (Heap.get?_push_of_some _ e)))
  have sz5 : (h'.push go).objs.size = h'.objs.size + 1 := Heap.size_push ..
  refine hQ J H2 H3 code (gblkB X B s3 H3 (genEnv scope (cellsFrom (s3.heap.objs.size + 1) scope.names (cloFrom X.env.cells scope.names [])) s3.heap.objs.size code builtinsNs X.env) fp [(h'.objs.size, go)]) it h'.objs.size fp tn s3.gens.size _ q hT hcA
    ⟨⟨_, _, _, _, _, _, rfl⟩, fun p hp => ?_, T, I5, Array.getElem?_push_size .., T.keep _ _ _ st3 fun b _ o e => kp5 b o e, fun b hb => ⟨(f3 b hb).1.1, ?_⟩, fun pins' σ' s1 H1 I1 => ?_, fun pins' σ' s1 H1 I1 => ?_, fun S hS => ?_, ?_⟩
  · have hp : p ∈ [(h'.objs.size, go)] := hp
    simp only [List.mem_singleton] at hp
    subst hp
    refine ⟨fun hb => ?_, ?_⟩
    · have h9 : (h'.objs.size : Nat) < s3.heap.objs.size := (f3 _ hb).2
      omega
    · show h'.objs.size < (h'.push go).objs.size
      rw [sz5]; exact Nat.lt_succ_self _
  · show b < (h'.push go).objs.size
    have h8 : b < s3.heap.objs.size := (f3 b hb).2
    rw [sz5]; exact Nat.lt_of_lt_of_le h8 (Nat.le_trans (Nat.le_succ _) (Nat.le_trans hsz (Nat.le_succ _)))
  · have hp := (I1.pin (h'.objs.size, go) (by simp)).1
    exact ⟨go, _, _, hp, by rw [← hgo], hgd, by rw [← hgo]⟩
  · exact I3.call' (ch := fp) I1.os I1.base I1.hok I1.bare fun b hb => ⟨(f3 b hb).1.2.2.2.1, (f3 b hb).1.2.1, (f3 b hb).1.2.2.2.2.1, (f3 b hb).1.2.2.2.2.2⟩
  · have hS : (h'.push go).objs.size ≤ S := hS
    refine ⟨?_, ?_, fun x c e z => ?_⟩
    · show s3.heap.objs.size ≤ S
      rw [sz5] at hS
      exact Nat.le_trans (Nat.le_succ _) (Nat.le_trans hsz (Nat.le_trans (Nat.le_succ _) hS))
    · show S ≠ s3.heap.objs.size
      rw [sz5] at hS
      exact Nat.ne_of_gt (Nat.lt_of_lt_of_le hsz (Nat.le_trans (Nat.le_succ _) hS))
    · obtain ⟨v, qz⟩ := I5.cell x c e
      have h1 : c < (h'.push go).objs.size := qz.lt
      rw [z] at h1
      exact Nat.lt_irrefl _ (Nat.lt_of_lt_of_le h1 hS)
  · show h'.objs.size < (h'.push go).objs.size
    rw [sz5]; exact Nat.lt_succ_self _

theorem gen_madeC {P0 : Addr} {B : Around} {elt tg iter : Expr} {ifs : List Expr} {more : List Comprehension} {scope : Scope} {own : List (Str × Nat)} {gpos : Pos} {wi : TI} {R0 : It → Hp → Prop} {Q' : Value → Shared → Prop} {k : Nat}
    (hN : X.N.Nodup) (hr : Room k X.A) (hBf : B.frames = some X.stack) (hBh : X.calm = true → B.handled = none) (bm : X.base.BuiltinsAt X.mg P0) (ok : GOk X.N X.env.scope scope own) (hi : PI X tg iter wi)
    (hs : ∀ v, genFold iter X.env v = pure v) (I : Inv X pins σ H s) (h : wi σ H R0)
    (hcd : ∀ J H2 s2, R0 J H2 → Inv X pins σ H2 s2 → ∃ c P, X.env.code = .ref c ∧ PySem.W.CodeHd s2.heap c P ∧ ∃ ps : Array Value, H2 P = some (.tbl ps) ∧ TriplesOk ps.toList)
    (hQ : ∀ J H2 P H3 code G it a fp tn gn s5, R0 J H2 → TabbedN P H2 H3 → Made X B pins σ (wipe σ (own.map (·.2))) (.GeneratorExp elt (⟨tg, iter, ifs, 0⟩ :: more) scope gpos) tg scope code G J H3 it a fp tn gn s5 → Q' (.ref a) s5) :
    wpAny (model X.prog X.w) X.A (eval (.GeneratorExp elt (⟨tg, iter, ifs, 0⟩ :: more) scope gpos) X.env) Q' X.xe s := by
  have hfree : ∀ y ∈ scope.names, y.2 = .free → ∃ c, X.env.cells.lookup y.1 = some c := fun y hy e => by
    rcases ok.blk.free y hy e with k | k
    · exact I.ok.has _ (.inl k)
    · exact I.ok.has _ (.inr k)
  refine wp_gen_makeN ok.co (closure_ok hfree) ok.dot ok.blk.kind (by have := hr.dp; omega) ?_ hs
  refine thn (hi.run pins s σ H _ I h) fun xv s1 hx => thn hx fun itv s2 h2 => ?_
  obtain ⟨it, fp, tn, J, H2, e, I2, T, st2, f2, q⟩ := h2
  subst e
  refine ⟨I2.nolimit, ?_⟩
  obtain ⟨c, P, hcode, cd, ps, hP, htr⟩ := hcd J H2 s2 q I2
  refine gen_code I2 hcode cd hP htr fun code H3 s3 I3 hT hcA keep3 same3 => ?_
  obtain ⟨bm, ob, e1, e2, e3, e4, e5, e6, e7, e8⟩ := bm
  refine wpAny_builtinsFor (m := X.mg) (by rw [I3.ok.glob]; exact I3.mod.glob.keeps I3.bk) e1 e2 (I3.bk _ _ e5) e6 e7 e8 ?_
  intro h' hn' hs'
  have nP : ∀ b ∈ fp, b ≠ P := fun b hb z => by
    have := (f2 b hb).1
    rw [z, hP] at this
    cases this
  have st3 : tn 0 s3.heap := T.keep _ _ _ st2 fun b hb o e => keep3 b o (nP b hb) e
  have f3 : ∀ b ∈ fp, FpOk X pins H3 b ∧ b < s3.heap.objs.size := fun b hb => by
    refine ⟨⟨?_, (f2 b hb).2⟩, ?_⟩
    · obtain ⟨o, e, _⟩ := T.obj _ _ st2 b hb
      rw [same3 b (Heap.lt_size e) (nP b hb)]
      exact (f2 b hb).1
    · obtain ⟨o, e, _⟩ := T.obj _ _ st3 b hb
      exact Heap.lt_size e
  have hsz : s3.heap.objs.size + 1 ≤ h'.objs.size := by
    have q := pushCells_size scope.names (s3.heap.push { cls := .type "frame", data := .dict #[] })
    rw [Heap.size_push] at q
    rw [hs'.1]
    exact q
  generalize hgo : ({ cls := .type "generator", data := .fields #[.int s3.gens.size 0, .str "<genexpr>" (s3.toks + 1), .str (X.env.qual ++ "<genexpr>") (s3.toks + 1 + 1)] } : Obj) = go
  have hgd : go.data = .fields #[.int s3.gens.size 0, .str "<genexpr>" (s3.toks + 1), .str (X.env.qual ++ "<genexpr>") (s3.toks + 1 + 1)] := by rw [← hgo]
  have I5 := gen_start (B := B) (code := code) (it := .ref it) (h' := h') (go := go) (g' := s3.gens.push (.fresh (.compStart (.GeneratorExp elt (⟨tg, iter, ifs, 0⟩ :: more) scope gpos) 0 (.ref it) .none (genEnv scope (cellsFrom (s3.heap.objs.size + 1) scope.names (cloFrom X.env.cells scope.names [])) s3.heap.objs.size code builtinsNs X.env)))) (tk := s3.toks + 1 + 1 + 1)
    hBf hBh I3 ok hN f3 hn' hs' (I3.bare.push rfl) (fun v z => by rw [hgd] at z; cases z) (by rw [← hgo]; rfl)
  have kp5 : ∀ b o, s3.heap.get? b = some o → (h'.push go).get? b = some o := fun b o e => Heap.get?_push_of_some _ (hs'.extBut b o (Nat.ne_of_lt (Heap.lt_size e)) (pushCells_keeps _ _ _ _ (Heap.get?_push_of_some _ e)))
  have sz5 : (h'.push go).objs.size = h'.objs.size + 1 := Heap.size_push ..
  refine hQ J H2 P H3 code (gblkB X B s3 H3 (genEnv scope (cellsFrom (s3.heap.objs.size + 1) scope.names (cloFrom X.env.cells scope.names [])) s3.heap.objs.size code builtinsNs X.env) fp [(h'.objs.size, go)]) it h'.objs.size fp tn s3.gens.size _ q hT
    ⟨⟨_, _, _, _, _, _, rfl⟩, fun p hp => ?_, T, I5, Array.getElem?_push_size .., T.keep _ _ _ st3 fun b _ o e => kp5 b o e, fun b hb => ⟨(f3 b hb).1.1, ?_⟩, fun pins' σ' s1 H1 I1 => ?_, fun pins' σ' s1 H1 I1 => ?_, fun S hS => ?_, ?_⟩
  · have hp : p ∈ [(h'.objs.size, go)] := hp
    simp only [List.mem_singleton] at hp
    subst hp
    refine ⟨fun hb => ?_, ?_⟩
    · have h9 : (h'.objs.size : Nat) < s3.heap.objs.size := (f3 _ hb).2
      omega
    · show h'.objs.size < (h'.push go).objs.size
      rw [sz5]; exact Nat.lt_succ_self _
  · show b < (h'.push go).objs.size
    have h8 : b < s3.heap.objs.size := (f3 b hb).2
    rw [sz5]; exact Nat.lt_of_lt_of_le h8 (Nat.le_trans (Nat.le_succ _) (Nat.le_trans hsz (Nat.le_succ _)))
  · have hp := (I1.pin (h'.objs.size, go) (by simp)).1
    exact ⟨go, _, _, hp, by rw [← hgo], hgd, by rw [← hgo]⟩
  · exact I3.call' (ch := fp) I1.os I1.base I1.hok I1.bare fun b hb => ⟨(f3 b hb).1.2.2.2.1, (f3 b hb).1.2.1, (f3 b hb).1.2.2.2.2.1, (f3 b hb).1.2.2.2.2.2⟩
  · have hS : (h'.push go).objs.size ≤ S := hS
    refine ⟨?_, ?_, fun x c e z => ?_⟩
    · show s3.heap.objs.size ≤ S
      rw [sz5] at hS
      exact Nat.le_trans (Nat.le_succ _) (Nat.le_trans hsz (Nat.le_trans (Nat.le_succ _) hS))
    · show S ≠ s3.heap.objs.size
      rw [sz5] at hS
      exact Nat.ne_of_gt (Nat.lt_of_lt_of_le hsz (Nat.le_trans (Nat.le_succ _) hS))
    · obtain ⟨v, qz⟩ := I5.cell x c e
      have h1 : c < (h'.push go).objs.size := qz.lt
      rw [z] at h1
      exact Nat.lt_irrefl _ (Nat.lt_of_lt_of_le h1 hS)
  · show h'.objs.size < (h'.push go).objs.size
    rw [sz5]; exact Nat.lt_succ_self _

/-- the maker's code object stands in the base -/
theorem base_code {c P : Addr} {R0 : It → Hp → Prop} (TB : TabB X.base X.mg c P) (hR : ∀ J H2, R0 J H2 → TabN H2 P) : ∀ J H2 s2, R0 J H2 → Inv X pins σ H2 s2 → PySem.W.CodeHd s2.heap c P ∧ ∃ ps : Array Value, H2 P = some (.tbl ps) ∧ TriplesOk ps.toList := fun J H2 s2 q I2 =>
  ⟨TB.code.keeps fun b u e => I2.bk b u e, let ⟨ps, a, b, _⟩ := hR J H2 q; ⟨ps, a, b⟩⟩

theorem held_made {G : Cx} {elt tg iter : Expr} {ifs : List Expr} {scope : Scope} {own : List (Str × Nat)} {gpos : Pos} {code : Value} {J : It} {H3 : Hp} {it a : Addr} {fp : List Addr} {tn : Nat → Heap → Prop} {gn : Nat} {s5 : Shared} {g : TG} {tt : TT} {te : TE} {b₀ : Bool} {Q : VK}
    (hc : X.calm = true) (hco : scope.isCoroutine = false)
    (hg : ∀ (s : Shared) (H : Hp) (C : Addr) (cl : List (Str × Addr)) (code : Value) (bi : Addr) (fp : List Addr) (pn : List (Addr × Obj)), PG (gblk X s H (genEnv scope cl C code bi X.env) fp pn) tg g)
    (ht : ∀ (s : Shared) (H : Hp) (C : Addr) (cl : List (Str × Addr)) (code : Value) (bi : Addr) (fp : List Addr) (pn : List (Addr × Obj)), PTs (gblk X s H (genEnv scope cl C code bi X.env) fp pn) ifs tt)
    (he : ∀ (s : Shared) (H : Hp) (C : Addr) (cl : List (Str × Addr)) (code : Value) (bi : Addr) (fp : List Addr) (pn : List (Addr × Obj)), PE (gblk X s H (genEnv scope cl C code bi X.env) fp pn) elt te)
    (M : Made X X.A.in1.in1 pins σ (wipe σ (own.map (·.2))) (.GeneratorExp elt [⟨tg, iter, ifs, 0⟩] scope gpos) tg scope code G J H3 it a fp tn gn s5) (q : AllLoop b₀ g tt te (own.map (·.2)) σ Q J H3) : ∃ n, Held G (wipe σ (own.map (·.2))) b₀ Q X.A.in1.in1 a gn n s5 := by
  obtain ⟨⟨s, Hs, C, cl, bi, pn, rfl⟩, pn1, T, I5, hgen, st5, fr5, isg, back, _, _⟩ := M
  obtain ⟨W, ⟨m0, w0⟩, turn⟩ := q
  refine ⟨m0 + 1, isg _ _ _ _ I5, I5.nolimit, _, hgen, rfl, ?_⟩
  refine seg_genStart (G := gblk X s Hs (genEnv scope cl C code bi X.env) fp pn) T st5 ?_
  exact seg_gen (G := gblk X s Hs (genEnv scope cl C code bi X.env) fp pn) (W := W) rfl rfl hc hco rfl (fun p hp => (pn1 p hp).1) T (hg ..) (ht ..) (he ..) turn m0 (m0 + 1) 0 H3 _ _ (Nat.lt_succ_self _) (inv_gens I5 rfl rfl (bare_set I5.bare rfl)) st5 (fun b hb => (fr5 b hb).1) w0

theorem pe_allG {c P : Addr} {elt tg iter : Expr} {ifs : List Expr} {scope : Scope} {own : List (Str × Nat)} {p pos gpos : Pos} {wi : TI} {g : TG} {tt : TT} {te : TE} {k : Nat}
    (hc : X.calm = true) (hN : X.N.Nodup) (hr : Room k X.A) (hgl : Gl X "all") (hm : X.mg "all" = none) (TB : TabB X.base X.mg c P) (hcode : X.env.code = .ref c) (ok : GOk X.N X.env.scope scope own) (hi : PI X tg iter wi)
    (hg : ∀ (s : Shared) (H : Hp) (C : Addr) (cl : List (Str × Addr)) (code : Value) (bi : Addr) (fp : List Addr) (pn : List (Addr × Obj)), PG (gblk X s H (genEnv scope cl C code bi X.env) fp pn) tg g)
    (ht : ∀ (s : Shared) (H : Hp) (C : Addr) (cl : List (Str × Addr)) (code : Value) (bi : Addr) (fp : List Addr) (pn : List (Addr × Obj)), PTs (gblk X s H (genEnv scope cl C code bi X.env) fp pn) ifs tt)
    (he : ∀ (s : Shared) (H : Hp) (C : Addr) (cl : List (Str × Addr)) (code : Value) (bi : Addr) (fp : List Addr) (pn : List (Addr × Obj)), PE (gblk X s H (genEnv scope cl C code bi X.env) fp pn) elt te)
    (hs : ∀ v, genFold iter X.env v = pure v := by intro _; rfl)
    (hst : starEach [.GeneratorExp elt [⟨tg, iter, ifs, 0⟩] scope gpos] X.env = (false, eval (.GeneratorExp elt [⟨tg, iter, ifs, 0⟩] scope gpos) X.env) :: starEach [] X.env := by rfl) :
    PE X (.Call (.Name "all" p) [.GeneratorExp elt [⟨tg, iter, ifs, 0⟩] scope gpos] [] pos) (tAllG false P wi g tt te (own.map (·.2))) := by
  refine ⟨fun pins s σ H Q I h => ?_⟩
  refine wpAny_Call_Name_kw (ld_blt I hgl hm (show bootBuiltins "all" = some (.builtin "all") by decide +kernel) ?_)
  refine PyProof.Rows.callWith_builtin1 ?_ hst (by rfl)
  rw [hst]
  show wpAny _ _ (spliced ((false, eval (.GeneratorExp elt [⟨tg, iter, ifs, 0⟩] scope gpos) X.env) :: backTo pos (starEach [] X.env))) _ _ s
  refine Calls.spliced_cons (gen_made (B := X.A.in1.in1) (R0 := fun J H1 => TabN H1 P ∧ ∀ H2, TabbedN P H1 H2 → AllLoop false g tt te (own.map Prod.snd) σ Q J H2) hN hr I.ok.frames I.ok.hd TB.bm hcode ok hi hs I h (base_code TB fun J H2 q => q.1) fun J H2 H3 code G it a fp tn gn s5 qq hT hcA M => ?_)
  obtain ⟨n, hh⟩ := held_made hc ok.co hg ht he M (qq.2 H3 hT)
  have eP : G.prog = X.prog := by obtain ⟨⟨_, _, _, _, _, _, e⟩, _⟩ := M; rw [e]
  have eW : G.w = X.w := by obtain ⟨⟨_, _, _, _, _, _, e⟩, _⟩ := M; rw [e]
  refine Calls.spliced_nil ?_
  refine call_function_tree F.kind_all F.plain_all F.entry_all (F.args_all1 _) ?_
  unfold Builtin.«all»
  refine wpAny_bind (m := oneArg "all" _) (wpAny_pure ?_)
  refine wpAny_bind (wpAny_pyIter_gen hh.1 ?_)
  rw [← eP, ← eW]
  exact wpAny_pure ⟨plainId_quiet F.plain_all_loop _, all_loop (A := X.A) hr.hd (by have := hr.dp; omega) (fun s1 H1 I1 => M.isg _ _ s1 H1 I1) (fun c s1 H1 I1 q => ⟨.bl c, H1, M.back _ _ s1 H1 I1, rfl, q⟩) n s5 hh⟩

theorem pe_anyG {c P : Addr} {elt tg iter : Expr} {ifs : List Expr} {scope : Scope} {own : List (Str × Nat)} {p pos gpos : Pos} {wi : TI} {g : TG} {tt : TT} {te : TE} {k : Nat}
    (hc : X.calm = true) (hN : X.N.Nodup) (hr : Room k X.A) (hgl : Gl X "any") (hm : X.mg "any" = none) (TB : TabB X.base X.mg c P) (hcode : X.env.code = .ref c) (ok : GOk X.N X.env.scope scope own) (hi : PI X tg iter wi)
    (hg : ∀ (s : Shared) (H : Hp) (C : Addr) (cl : List (Str × Addr)) (code : Value) (bi : Addr) (fp : List Addr) (pn : List (Addr × Obj)), PG (gblk X s H (genEnv scope cl C code bi X.env) fp pn) tg g)
    (ht : ∀ (s : Shared) (H : Hp) (C : Addr) (cl : List (Str × Addr)) (code : Value) (bi : Addr) (fp : List Addr) (pn : List (Addr × Obj)), PTs (gblk X s H (genEnv scope cl C code bi X.env) fp pn) ifs tt)
    (he : ∀ (s : Shared) (H : Hp) (C : Addr) (cl : List (Str × Addr)) (code : Value) (bi : Addr) (fp : List Addr) (pn : List (Addr × Obj)), PE (gblk X s H (genEnv scope cl C code bi X.env) fp pn) elt te)
    (hs : ∀ v, genFold iter X.env v = pure v := by intro _; rfl)
    (hst : starEach [.GeneratorExp elt [⟨tg, iter, ifs, 0⟩] scope gpos] X.env = (false, eval (.GeneratorExp elt [⟨tg, iter, ifs, 0⟩] scope gpos) X.env) :: starEach [] X.env := by rfl) :
    PE X (.Call (.Name "any" p) [.GeneratorExp elt [⟨tg, iter, ifs, 0⟩] scope gpos] [] pos) (tAllG true P wi g tt te (own.map (·.2))) := by
  refine ⟨fun pins s σ H Q I h => ?_⟩
  refine wpAny_Call_Name_kw (ld_blt I hgl hm (show bootBuiltins "any" = some (.builtin "any") by decide +kernel) ?_)
  refine PyProof.Rows.callWith_builtin1 ?_ hst (by rfl)
  rw [hst]
  show wpAny _ _ (spliced ((false, eval (.GeneratorExp elt [⟨tg, iter, ifs, 0⟩] scope gpos) X.env) :: backTo pos (starEach [] X.env))) _ _ s
  refine Calls.spliced_cons (gen_made (B := X.A.in1.in1) (R0 := fun J H1 => TabN H1 P ∧ ∀ H2, TabbedN P H1 H2 → AllLoop true g tt te (own.map Prod.snd) σ Q J H2) hN hr I.ok.frames I.ok.hd TB.bm hcode ok hi hs I h (base_code TB fun J H2 q => q.1) fun J H2 H3 code G it a fp tn gn s5 qq hT hcA M => ?_)
  obtain ⟨n, hh⟩ := held_made hc ok.co hg ht he M (qq.2 H3 hT)
  have eP : G.prog = X.prog := by obtain ⟨⟨_, _, _, _, _, _, e⟩, _⟩ := M; rw [e]
  have eW : G.w = X.w := by obtain ⟨⟨_, _, _, _, _, _, e⟩, _⟩ := M; rw [e]
  refine Calls.spliced_nil ?_
  refine call_function_tree F.kind_any F.plain_any F.entry_any (F.args_any1 _) ?_
  unfold Builtin.«any»
  refine wpAny_bind (m := oneArg "any" _) (wpAny_pure ?_)
  refine wpAny_bind (wpAny_pyIter_gen hh.1 ?_)
  rw [← eP, ← eW]
  exact wpAny_pure ⟨plainId_quiet F.plain_any_loop _, any_loop (A := X.A) hr.hd (by have := hr.dp; omega) (fun s1 H1 I1 => M.isg _ _ s1 H1 I1) (fun c s1 H1 I1 q => ⟨.bl c, H1, M.back _ _ s1 H1 I1, rfl, q⟩) n s5 hh⟩
end
end GX
set_option maxHeartbeats 4000000
/-! tuple(..) of a generator expression: what it hands out is collected. -/
namespace GX
open PySem PySem.Spec PyProof.Rows L2 GxR GenW
section
variable {X : Cx} {pins : List (Addr × Obj)} {σ : L2.St} {H : Hp} {s : Shared}
/-- the loop over what J walks, ys: what is out -/
def ColLoop (g : TG) (tt : TT) (te : TE) (vs : List Nat) (σ : L2.St) (QE : List V → Hp → Prop) (J : It) (H2 : Hp) : Prop :=
  ∃ W : Nat → Nat → List V → Hp → Prop, (∃ m, W 0 m [] H2) ∧ ∀ i m ys H, W i m ys H → (J.stop i H ∧ QE ys H) ∨ (J.go i H ∧ ∃ Nx : List V → Hp → Prop, (∀ ys' H', Nx ys' H' → ∃ m', m' < m ∧ W (i + 1) m' ys' H') ∧ ∀ x H', J.yld i H x H' →
    g x (wipe σ vs) H' fun σ2 H2 => wipe σ2 vs = wipe σ vs ∧ tt σ2 H2 fun b H3 => if b = true then te σ2 H3 fun y H4 => ys.length < sizeLine ∧ Nx (ys ++ [y]) H4 else Nx ys H3)

def gRT (G : Cx) (S : Addr) (σw : L2.St) (QE : List V → Hp → Prop) : Nat → Shared → Shared → Prop := fun _ _ s1 => ∃ ys H1, GI G S [] ys σw H1 s1 ∧ QE ys H1
def gYT (G : Cx) (S : Addr) (σw : L2.St) : Protocol := fun _ _ v s1 kap => ∃ ys x H1, RelV x v ∧ ys.length < sizeLine ∧ GI G S [] ys σw H1 s1 ∧ ∀ s', Slept S v s1 s' → kap (.send .none) s'

theorem seg_genT {G : Cx} {A : Around} {S : Addr} {elt tg iter : Expr} {ifs : List Expr} {scope : Scope} {pos : Pos} {it : Addr} {fp : List Addr} {tn : Nat → Heap → Prop} {J : It} {g : TG} {tt : TT} {te : TE} {vs : List Nat} {σ0 : L2.St} {QE : List V → Hp → Prop} {W : Nat → Nat → List V → Hp → Prop}
    (hA : G.A = A.deeper G.env) (hxe : G.xe = fun _ _ => False) (hc : G.calm = true) (hco : G.env.scope.isCoroutine = false) (hex : G.ex = fp) (hpn : ∀ p ∈ G.pn, p.1 ∉ fp ∧ p.1 ≠ S) (hSf : S ∉ fp) (hAp : Apart G S)
    (T : Turn G.prog G.w G.K tg J fp it tn) (pg : PG G tg g) (pt : PTs G ifs tt) (pe : PE G elt te)
    (turn : ∀ i m ys H, W i m ys H → (J.stop i H ∧ QE ys H) ∨ (J.go i H ∧ ∃ Nx : List V → Hp → Prop, (∀ ys' H', Nx ys' H' → ∃ m', m' < m ∧ W (i + 1) m' ys' H') ∧ ∀ x H', J.yld i H x H' →
      g x (wipe σ0 vs) H' fun σ2 H2 => wipe σ2 vs = wipe σ0 vs ∧ tt σ2 H2 fun b H3 => if b = true then te σ2 H3 fun y H4 => ys.length < sizeLine ∧ Nx (ys ++ [y]) H4 else Nx ys H3)) :
    ∀ (m n i : Nat) (ys : List V) (H' : Hp) (s₀ s : Shared), m < n → GI G S [] ys (wipe σ0 vs) H' s → tn i s.heap → (∀ b ∈ fp, H' b = none) → W i m ys H' →
      Seg (model G.prog G.w) A (fun n s₀ r s₁ => r = .ok .next ∧ gRT G S (wipe σ0 vs) QE n s₀ s₁) (gYT G S (wipe σ0 vs)) n s₀ (.compLoop (.GeneratorExp elt [⟨tg, iter, ifs, 0⟩] scope pos) 0 (.ref it) .none G.env)
        ((model G.prog G.w).den (.compLoop (.GeneratorExp elt [⟨tg, iter, ifs, 0⟩] scope pos) 0 (.ref it) .none G.env)) [] s := by
  have stat : ∀ {σ' : L2.St} {H' : Hp} {s' : Shared} {o : Obj}, Inv G [(S, o)] σ' H' s' → (∀ b ∈ fp, H' b = none) → ∀ b ∈ fp, FpOk G [(S, o)] H' b := fun {σ' H' s' o} I' hn b hb =>
    ⟨hn b hb, (I'.ok.exf b (by rw [hex]; exact hb)).1, I'.ok.exfs b (by rw [hex]; exact hb), .inl (by rw [hex]; exact hb), fun x c e => (I'.ok.exf b (by rw [hex]; exact hb)).2 x c e, fun p hp => by
      rcases List.mem_append.mp hp with hp | hp
      · exact fun z => (hpn p hp).1 (by rw [z]; exact hb)
      · rw [List.mem_singleton.mp hp]
        exact fun z : S = b => hSf (z ▸ hb)⟩
  have hov : A.over (.compLoop (.GeneratorExp elt [⟨tg, iter, ifs, 0⟩] scope pos) 0 (.ref it) .none G.env) [] = G.A := by rw [hA]; exact over_gen
  intro m
  induction m using Nat.strongRecOn with
  | ind m ih =>
  intro n i ys H5 s₀ s5 hmn GI5 st5 n5 w5
  obtain ⟨acc, c, rv, I5⟩ := GI5
  show Seg _ A _ _ _ s₀ _ ((compTurn (.GeneratorExp elt [⟨tg, iter, ifs, 0⟩] scope pos) 0 (.ref it) .none G.env).onRaise (leaving G.env)) [] s5
  rw [compTurn_gen, Sem.onRaise_eq_wrap]
  refine seg_bind_wrap (wpAny_standAt ?_)
  rcases turn i m ys H5 w5 with ⟨stop, qq⟩ | ⟨go, Nx, hNx, step⟩
  · refine seg_bind_wrap ?_
    rw [hov]
    refine thnF (T.done G rfl rfl rfl hc i _ s5 _ H5 (fun _ _ => False) I5 (stat I5 n5) st5 stop) fun r s6 ⟨hr, I6⟩ => ?_
    subst hr
    exact seg_end (.ok .next) ⟨rfl, ys, H5, ⟨acc, c, rv, I6⟩, qq⟩
  · refine seg_bind_wrap ?_
    rw [hov]
    refine thnF (T.item G rfl rfl rfl hc i _ s5 _ H5 (fun _ _ => False) I5 (stat I5 n5) st5 go) fun r s6 ⟨u, hr, h6⟩ => ?_
    subst hr
    refine seg_bind_wrap ?_
    rw [hov]
    refine thnF h6 fun _ s7 ⟨x, H7, I7, r7, y7, st7, n7⟩ => ?_
    have I7' := I7.pinned (stat I7 n7) (T.obj _ _ st7)
    refine seg_bind_wrap ?_
    rw [hov]
    have pgr := pg.run _ s7 _ H7 x u _ I7' r7 (step x H7 y7)
    rw [hxe] at pgr
    refine thnF pgr fun _ s8 ⟨σ8, H8, I8, hw8, q8⟩ => ?_
    refine seg_bind_wrap ?_
    rw [hov]
    have ptr := pt.run _ s8 σ8 H8 _ I8 q8
    rw [hxe] at ptr
    refine thnF ptr fun b s9 ⟨H9, I9, q9⟩ => ?_
    -- the turn's end
    have fin : ∀ {s' : Shared} {H' : Hp}, Inv G ([(S, lstObj acc c)] ++ pinsAt fp s7.heap) σ8 H' s' → Inv G [(S, lstObj acc c)] (wipe σ0 vs) H' s' ∧ tn (i + 1) s'.heap ∧ (∀ b ∈ fp, H' b = none) := fun {s' H'} I' => by
      have pin' : ∀ b ∈ fp, ∀ o, s7.heap.get? b = some o → s'.heap.get? b = some o ∧ H' b = none := fun b hb o e =>
        let z := I'.pin (b, o) (List.mem_append_right _ (List.mem_append_right _ (mem_pinsAt hb e)))
        ⟨z.1, z.2.1⟩
      have hl : (wipe σ0 vs).length = σ8.length := by rw [← hw8, wipe_length]
      refine ⟨I'.unpinned.weak hl (fun j v e => ?_), T.keep _ _ _ st7 fun b hb o e => (pin' b hb o e).1, fun b hb => ?_⟩
      · rw [← hw8] at e
        exact (wipe_some e).1
      · obtain ⟨o, e, _⟩ := T.obj _ _ st7 b hb
        exact (pin' b hb o e).2
    cases b with
    | false =>
      simp only [Bool.false_eq_true, if_false] at q9 ⊢
      obtain ⟨m', hm, w'⟩ := hNx ys H9 q9
      obtain ⟨f1, f2, f3⟩ := fin I9
      exact seg_again rfl (ih m' hm n (i + 1) ys H9 s₀ s9 (by omega) ⟨acc, c, rv, f1⟩ f2 f3 w')
    | true =>
      simp only [if_true] at q9 ⊢
      have hy : ∀ v, yieldOut G.env v = yieldValue v := fun v => by simp only [yieldOut, hco, Bool.false_eq_true, if_false]
      simp only [hy]
      rw [Sem.bind_eq_wrap', Sem.bind_eq_wrap', Sem.wrap_wrap, Sem.wrap_wrap]
      refine seg_wrap ?_
      rw [hov]
      have per := pe.run _ s9 σ8 H9 _ I9 q9
      rw [hxe] at per
      refine thnF per fun z s10 ⟨yv, H10, I10, r10, hlen, q10⟩ => ?_
      obtain ⟨f1, f2, f3⟩ := fin I10
      obtain ⟨m', hm, w'⟩ := hNx _ H10 q10
      cases n with
      | zero => omega
      | succ n =>
        refine seg_at (seg_yield rfl rfl rfl ⟨ys, yv, H10, r10, hlen, ⟨acc, c, rv, f1⟩, fun s2 z2 => ?_⟩)
        have w2 := GI.woken (ip := []) (fun p hp => (hpn p hp).2) (fun p hp => absurd hp (by simp)) hAp (⟨acc, c, rv, f1⟩ : GI G S [] ys (wipe σ0 vs) H10 s10) r10 z2
        refine seg_again rfl (ih m' hm n (i + 1) _ H10 s2 s2 (by omega) w2 (T.keep _ _ _ f2 fun b hb o e => ?_) f3 w')
        exact z2.keep b o (fun e2 => hSf (e2 ▸ hb)) e

/-- what the collector knows between two items -/
def HeldT (G : Cx) (S : Addr) (σw : L2.St) (QE : List V → Hp → Prop) (A : Around) (a : Addr) (g n : Nat) (s : Shared) : Prop :=
  s.heap.IsGen a g ∧ s.heap.NoLimit ∧ ∃ gs, s.gens[g]? = some gs ∧ gs.Goes (model G.prog G.w) A (fun n s₀ r s₁ => r = .ok .next ∧ gRT G S σw QE n s₀ s₁) (gYT G S σw) n (.send .none) (s.setGen g .running)

theorem gi_gens {G : Cx} {S : Addr} {ys : List V} {σw : L2.St} {H1 : Hp} {s s' : Shared} (h : GI G S [] ys σw H1 s) (hh : s'.heap = s.heap) (ho : s'.os = s.os) (hb : AllBare s'.gens) : GI G S [] ys σw H1 s' := by
  obtain ⟨acc, c, r, I⟩ := h
  exact ⟨acc, c, r, inv_gens I hh ho hb⟩
theorem gi_kept {G : Cx} {S : Addr} {ys : List V} {σw : L2.St} {H1 : Hp} {s : Shared} {h' : Heap} (h : GI G S [] ys σw H1 s) (hk : ∀ b o, s.heap.get? b = some o → h'.get? b = some o) : GI G S [] ys σw H1 { s with heap := h' } := by
  obtain ⟨acc, c, r, I⟩ := h
  exact ⟨acc, c, r, I.kept (h' := h') (t' := s.toks) hk⟩

theorem ext_loopT {G : Cx} {S : Addr} {σw : L2.St} {QE : List V → Hp → Prop} {A : Around} {a : Addr} {g : Nat} {res : Value} {R : Result → Shared → Prop} (hh : A.handled = none) (hd : A.depth < recursionLimit)
    (hg : ∀ pins' s1 H1, Inv G pins' σw H1 s1 → s1.heap.IsGen a g) (hR : ∀ ys s1 H1, GI G S [] ys σw H1 s1 → QE ys H1 → R (.ok (.ret res)) s1) :
    ∀ (n : Nat) (s : Shared), HeldT G S σw QE A.in1.in1 a g n s → codeAny (model G.prog G.w) A (.builtin "list.extend.loop" ⟨[.ref S, .ref a, res], []⟩) R s := by
  intro n
  induction n with
  | zero =>
    intro s ⟨hgen, hl, gs, hgs, hgo⟩
    refine codeAny_builtin F.entry_extend_loop ?_
    rw [Around.under_plainId F.plain_extend_loop _]
    show wpAny _ A.in1 (pyNext (.ref a) >>= _) _ _ s
    refine wpAny_bind (wpAny_pyNext_genexpQ (A := A.in1) (P := gRT G S σw QE) hh hl hd hgen hgs hgo (fun v s1 gs' hb hv => ?_) fun s1 hp h' hk => ?_)
    · obtain ⟨ys, x, H1, rx, hlen, g1, h2⟩ := hv
      obtain ⟨_, _, _, acc, c, _, eS⟩ := g1.at
      obtain ⟨_, _, _, I1⟩ := g1
      exact (h2 _ (Slept.push eS I1.bare)).elim
    · obtain ⟨ys, H1, g1, q1⟩ := hp
      have b1 : AllBare s1.gens := by obtain ⟨_, _, _, I1⟩ := g1; exact I1.bare
      exact wpAny_pure (hR ys _ H1 (gi_gens (s' := { s1.setGen g .finished with heap := h' }) (gi_kept g1 hk) rfl rfl (bare_set b1 rfl)) q1)
  | succ n ih =>
    intro s ⟨hgen, hl, gs, hgs, hgo⟩
    have hgl : g < s.gens.size := (Array.getElem?_eq_some_iff.mp hgs).1
    refine codeAny_builtin F.entry_extend_loop ?_
    rw [Around.under_plainId F.plain_extend_loop _]
    show wpAny _ A.in1 (pyNext (.ref a) >>= _) _ _ s
    refine wpAny_bind (wpAny_gsz (n := g + 1) hgl (wpAny_pyNext_genexpQ (A := A.in1) (P := gRT G S σw QE) hh hl hd hgen hgs hgo (fun v s1 gs' hb hv => ?_) fun s1 hp h' hk => ?_))
    · intro hsz
      obtain ⟨ys, x, H1, rx, hlen, g1, h2⟩ := hv
      obtain ⟨_, _, _, acc, c, rv, eS⟩ := g1.at
      have b1 : AllBare s1.gens := by obtain ⟨_, _, _, I1⟩ := g1; exact I1.bare
      have isg1 : s1.heap.IsGen a g := by obtain ⟨_, _, _, I1⟩ := g1; exact hg _ _ _ I1
      have nol1 : s1.heap.NoLimit := by obtain ⟨_, _, _, I1⟩ := g1; exact I1.nolimit
      have hasz : acc.size = ys.length := by rw [← Array.length_toList, rv.length]
      have hsz1 : g < s1.gens.size := by
        have q : (s1.setGen g gs').gens.size = s1.gens.size := by simp [Shared.setGen]
        have hsz' : g + 1 ≤ (s1.setGen g gs').gens.size := hsz
        omega
      have nSa : S ≠ a := fun z => by
        obtain ⟨o, nm, qn, ho, hcl, _⟩ := isg1
        rw [← z, eS] at ho
        cases ho
        exact absurd (show Value.type "list" = Value.type "generator" from hcl) (by decide)
      show wpAny _ A.in1 (updateSeq S (·.push v) >>= _) _ _ _
      refine wpAny_bind ?_
      refine wpAny_updateSeq eS rfl (wpAny_pure ⟨plainId_quiet F.plain_extend_loop _, ?_⟩) (by rw [hasz]; omega) (by show (acc.push v).size ≤ sizeLine + 1; rw [Array.size_push, hasz]; omega)
      have sl : Slept S v s1 { s1 with gens := (s1.setGen g gs').gens, heap := s1.heap.update S (Obj.mapSeq (·.push v)) } := Slept.push eS (bare_set b1 hb)
      have sl2 : Slept S v s1 ({ s1 with gens := (s1.setGen g gs').gens, heap := s1.heap.update S (Obj.mapSeq (·.push v)) }.setGen g .running) := Slept.push (G := (({ s1 with gens := (s1.setGen g gs').gens } : Shared).setGen g .running).gens) eS (bare_set (s := { s1 with gens := (s1.setGen g gs').gens }) (bare_set b1 hb) rfl)
      have keep3 : ∀ b o, b ≠ S → s1.heap.get? b = some o → (s1.heap.update S (Obj.mapSeq (·.push v))).get? b = some o := fun b o hbS e => (Heap.get?_update_other _ _ (Ne.symm hbS)).trans e
      refine ih { s1.setGen g gs' with heap := s1.heap.update S (Obj.mapSeq (·.push v)) } ⟨?_, ?_, gs', set_at (s := { s1 with heap := s1.heap.update S (Obj.mapSeq (·.push v)) }) hsz1, ?_⟩
      · obtain ⟨o, nm, qn, ho, r⟩ := isg1
        exact ⟨o, nm, qn, keep3 a o (Ne.symm nSa) ho, r⟩
      · obtain ⟨mc, hns, hnn⟩ := nol1
        refine ⟨mc, hns.at' fun o e => keep3 _ o (fun z => ?_) e, hnn⟩
        obtain ⟨ob, es, ep, ho, hdt, _⟩ := hns
        rw [z, eS] at ho
        cases ho
        cases (show Data.seq acc c = Data.dict es ep from hdt)
      · exact h2 _ sl2
    · intro hsz
      obtain ⟨ys, H1, g1, q1⟩ := hp
      have b1 : AllBare s1.gens := by obtain ⟨_, _, _, I1⟩ := g1; exact I1.bare
      exact wpAny_pure (hR ys _ H1 (gi_gens (s' := { s1.setGen g .finished with heap := h' }) (gi_kept g1 hk) rfl rfl (bare_set b1 rfl)) q1)

theorem collectT {A : Around} {G : Cx} {elt tg iter : Expr} {ifs : List Expr} {scope : Scope} {gpos : Pos} {code : Value} {J : It} {H3 : Hp} {it a : Addr} {fp : List Addr} {tn : Nat → Heap → Prop} {gn : Nat} {s5 : Shared} {g : TG} {tt : TT} {te : TE} {vs : List Nat} {QE : List V → Hp → Prop} {Q : List Value → Shared → Prop} {E : Value → Shared → Prop}
    (hc : X.calm = true) (hh : A.handled = none) (hd : A.depth < recursionLimit) (hco : scope.isCoroutine = false)
    (M : Made X A.in1.in1 pins σ (wipe σ vs) (.GeneratorExp elt [⟨tg, iter, ifs, 0⟩] scope gpos) tg scope code G J H3 it a fp tn gn s5) (pg : PG G tg g) (pt : PTs G ifs tt) (pe : PE G elt te) (q : ColLoop g tt te vs σ QE J H3)
    (hQ : ∀ (ys : List V) (acc : Array Value) (s1 : Shared) (H1 : Hp), Inv X pins σ H1 s1 → Vals ys acc.toList → QE ys H1 → Q acc.toList s1) :
    wpAny (model X.prog X.w) A (collect (.ref a)) Q E s5 := by
  obtain ⟨⟨sm, Hs, C, cl, bi, pn, rfl⟩, pn1, T, I5, hgen, st5, fr5, isg, back, apart, alt⟩ := M
  obtain ⟨W, ⟨m0, w0⟩, turn⟩ := q
  have hga : s5.heap.IsGen a gn := isg _ _ _ _ I5
  have hSa : s5.heap.objs.size ≠ a := Nat.ne_of_gt alt
  unfold collect
  refine wpAny_bind (wpAny_runValue (codeAny_builtin F.entry_proto_collect ?_))
  rw [Around.under_plainId F.plain_proto_collect _]
  show wpAny _ A.in1 (newList [] >>= fun l => again (.builtin "list.__iadd__" ⟨[l, .ref a], []⟩)) _ _ s5
  refine wpAny_bind (wpAny_newObj_type ?_)
  refine wpAny_pure ⟨plainId_quiet F.plain_list_iadd _, codeAny_builtin F.entry_list_iadd ?_⟩
  rw [Around.under_plainId F.plain_list_iadd _]
  have up : ∀ (h : Heap) (f : Obj → Obj), (∀ b o, s5.heap.get? b = some o → h.get? b = some o) → ∀ b o, s5.heap.get? b = some o → (h.update s5.heap.objs.size f).get? b = some o := fun h f q b o e =>
    (Heap.get?_update_other _ _ (Ne.symm (Nat.ne_of_lt (Heap.lt_size e)))).trans (q b o e)
  have k1 : ∀ b o, s5.heap.get? b = some o → (s5.heap.push { cls := .type "list", data := .seq ([] : List Value).toArray }).get? b = some o := fun b o e => Heap.get?_push_of_some _ e
  have gty : ∀ {h : Heap}, (∀ b o, s5.heap.get? b = some o → h.get? b = some o) → h.IsGen a gn := fun {h} q => hga.keeps q
  show wpAny _ A.in1 (Builtin.List.listExtendWith (.ref s5.heap.objs.size) (.ref a) (.ref s5.heap.objs.size)) _ _ _
  unfold Builtin.List.listExtendWith
  refine wpAny_bind (wpAny_typeOf (Heap.IsGen.typeIs (s := { s5 with heap := _ }) (gty k1)) ?_)
  have h1 : Builtin.List.listSameRef (.ref s5.heap.objs.size) (.ref a) = false := by simp [Builtin.List.listSameRef, hSa]
  have h2 : (Value.type "generator" == Value.type "list") = false := by decide
  have h3 : (Value.type "generator" == Value.type "tuple") = false := by decide
  simp only [h1, h2, h3, Bool.or_false, Bool.false_eq_true, if_false]
  refine wpAny_bind (wpAny_pyIter_gen (s := { s5 with heap := _ }) (gty k1) ?_)
  refine wpAny_bind (wpAny_holding ?_)
  unfold Builtin.List.listLengthHint
  refine wpAny_bind (wpAny_specialOf (Heap.IsGen.typeIs (s := { s5 with heap := _ }) (gty k1)) F.gen_no_len ?_)
  show wpAny _ A.in1 (specialOf (Value.ref a) (Str.ofString "__length_hint__") >>= _) _ _ _
  refine wpAny_bind (wpAny_specialOf (Heap.IsGen.typeIs (s := { s5 with heap := _ }) (gty k1)) F.gen_no_hint ?_)
  refine wpAny_pure ?_
  show wpAny _ A.in1 (rule "list.extend.makes-room" >>= fun _ => Builtin.List.listTouch (.ref s5.heap.objs.size) >>= fun _ =>
    again (.builtin "list.extend.loop" ⟨[.ref s5.heap.objs.size, .ref a, .ref s5.heap.objs.size], []⟩)) _ _ _
  refine wpAny_bind (wpAny_rule ?_)
  have hS1 : (s5.heap.push { cls := .type "list", data := .seq ([] : List Value).toArray }).get? s5.heap.objs.size = some { cls := .type "list", data := .seq ([] : List Value).toArray } := Heap.get?_push_size _ rfl
  refine wpAny_bind ?_
  show wpAny _ A.in1 (updateSeq s5.heap.objs.size (·.push .none) >>= fun _ => updateSeq s5.heap.objs.size (·.pop)) _ _ _
  refine wpAny_bind (wpAny_updateSeq hS1 rfl ?_)
  have hS2 := Heap.get?_update_self (Obj.mapSeq (·.push Value.none)) hS1 rfl
  refine wpAny_updateSeq hS2 rfl ?_
  obtain ⟨c4, hS3⟩ : ∃ c4, (((s5.heap.push { cls := .type "list", data := .seq ([] : List Value).toArray }).update s5.heap.objs.size (Obj.mapSeq (·.push Value.none))).update s5.heap.objs.size (Obj.mapSeq (·.pop))).get? s5.heap.objs.size = some (lstObj #[] c4) := ⟨_, Heap.get?_update_self (Obj.mapSeq (·.pop)) hS2 rfl⟩
  have k4 := up _ (Obj.mapSeq (·.pop)) (up _ (Obj.mapSeq (·.push Value.none)) k1)
  generalize ((s5.heap.push { cls := .type "list", data := .seq ([] : List Value).toArray }).update s5.heap.objs.size (Obj.mapSeq (·.push Value.none))).update s5.heap.objs.size (Obj.mapSeq (·.pop)) = h4 at hS3 k4
  have fS := I5.fpOk (H' := H3) (Nat.le_refl _) (I5.hok.fresh (Nat.le_refl _))
  have I6 : Inv (gblkB X A.in1.in1 sm Hs (genEnv scope cl C code bi X.env) fp pn) [] (wipe σ vs) H3 { s5 with heap := h4 } := I5.kept (t' := s5.toks) k4
  refine wpAny_pure ⟨plainId_quiet F.plain_extend_loop _, ?_⟩
  refine ext_loopT (G := gblkB X A.in1.in1 sm Hs (genEnv scope cl C code bi X.env) fp pn) (QE := QE) (σw := wipe σ vs) hh hd (fun pins' s1 H1 I1 => isg _ _ s1 H1 I1) (fun ys s1 H1 g1 q1 => ?_) (m0 + 1) { s5 with heap := h4 }
    ⟨gty k4, I5.nolimit.keeps k4, _, hgen, rfl, ?_⟩
  · obtain ⟨_, _, _, acc, c, rv, eS⟩ := g1.at
    obtain ⟨_, _, _, I1⟩ := g1
    show wpAny _ A (load s5.heap.objs.size >>= _) _ _ s1
    refine wpAny_bind (wpAny_load eS ?_)
    exact wpAny_pure (hQ ys acc s1 H1 (back _ _ _ _ I1) rv q1)
  · refine seg_genStart (G := gblkB X A.in1.in1 sm Hs (genEnv scope cl C code bi X.env) fp pn) T (T.keep _ _ _ st5 fun b _ o e => k4 b o e) ?_
    refine seg_genT (G := gblkB X A.in1.in1 sm Hs (genEnv scope cl C code bi X.env) fp pn) (W := W) rfl rfl hc hco rfl (fun p hp => ⟨(pn1 p hp).1, Nat.ne_of_lt (pn1 p hp).2⟩) (fun hb => Nat.lt_irrefl _ (fr5 _ hb).2) (apart _ (Nat.le_refl _)) T pg pt pe turn m0 (m0 + 1) 0 [] H3 _ _ (Nat.lt_succ_self _) ?_ (T.keep _ _ _ st5 fun b _ o e => k4 b o e) (fun b hb => (fr5 b hb).1) w0
    refine ⟨#[], c4, .nil, (inv_gens I6 (s' := ({ s5 with heap := h4 } : Shared).setGen gn .running) rfl rfl (bare_set I6.bare rfl)).pins_of fun p hp => ?_⟩
    rw [List.mem_singleton.mp hp]
    exact ⟨hS3, fS.1, fS.2.1, fS.2.2.1, fun v z => by cases z⟩

/-- what tuple(..) gives -/
def QTup (Q : VK) : List V → Hp → Prop := fun ys H => ys.length ≤ sizeLine ∧ ∀ p, H p = none → Q (.ref p) (upd H p (.tup ys))

theorem call_tupleT {G : Cx} {elt tg iter : Expr} {ifs : List Expr} {scope : Scope} {gpos : Pos} {code : Value} {J : It} {H3 : Hp} {it a : Addr} {fp : List Addr} {tn : Nat → Heap → Prop} {gn : Nat} {s5 : Shared} {g : TG} {tt : TT} {te : TE} {vs : List Nat} {Q : VK} {k : Nat}
    (hc : X.calm = true) (hr : Room k X.A) (hco : scope.isCoroutine = false)
    (M : Made X X.A.in1.in1.in1.in1 pins σ (wipe σ vs) (.GeneratorExp elt [⟨tg, iter, ifs, 0⟩] scope gpos) tg scope code G J H3 it a fp tn gn s5) (pg : PG G tg g) (pt : PTs G ifs tt) (pe : PE G elt te) (q : ColLoop g tt te vs σ (QTup Q) J H3) :
    wpAny (model X.prog X.w) X.A (call (.type "tuple") [.ref a]) (EP X pins σ Q) X.xe s5 := by
  refine callType_codes (Q₁ := fun obj s₁ => s₁.TypeIs obj "tuple" ∧ EP X pins σ Q obj s₁) F.called_tuple (F.typeCall_tuple_1 _) F.entry_object_init ?_ fun obj s₁ h₁ =>
    ⟨h₁.1, F.args_object_init_2 obj _, object_init_meets F.called_tuple.init.lookup F.called_tuple.made (by decide) X.prog X.w X.A.in1 _ s₁ ⟨h₁.1, rfl, h₁.2⟩⟩
  refine codeAny_of_tree ?_
  show wpAny _ X.A.in1.in1 (do checkBuiltinCall "tuple.__new__" ⟨[.type "tuple", .ref a], []⟩; again (.builtin "tuple.__new__" ⟨[.type "tuple", .ref a], []⟩)) _ _ s5
  refine wpAny_bind (wpAny_of_eq (F.newCall_tuple_1 _) (wpAny_pure ⟨plainId_quiet F.plain_tuple_new _, codeAny_builtin F.entry_tuple_new ?_⟩))
  rw [Around.under_plainId F.plain_tuple_new _]
  have hsub := sub_tuple_self
  have hinit := init_tuple_lookup
  have hmh := madeHere_tuple
  have hTI : s5.TypeIs (.ref a) "generator" := Heap.IsGen.typeIs (M.isg _ _ _ _ M.inv)
  wp_walk using wpAny_typeOf hTI, collectT (A := X.A.in1.in1) hc hr.hd (by have := hr.dp; show X.A.depth < _; omega) hco M pg pt pe q
  intro ys acc s1 H1 I1 rv q1
  show wpAny _ _ (Builtin.Tuple.tupleExact acc.toList.toArray >>= fun v => ret v) _ _ _
  unfold Builtin.Tuple.tupleExact
  have e : acc.toList.toArray = acc := by simp
  rw [e]
  have hz : acc.size = ys.length := by rw [← Array.length_toList, rv.length]
  refine wpAny_bind (wpAny_newObj_type ?_ (by show acc.size ≤ sizeLine; rw [hz]; exact q1.1))
  refine wpAny_pure ?_
  have I2 : Inv X pins σ (upd H1 s1.heap.objs.size (.tup ys)) { s1 with heap := s1.heap.push { cls := .type "tuple", data := .seq acc } } := by
    have I2 := I1.laid (o := .tup ys) (a := s1.heap.objs.size) (h' := s1.heap.push { cls := .type "tuple", data := .seq acc.toList.toArray }) (t' := s1.toks) (fun b o e => Heap.get?_push_of_some _ e) (Nat.le_refl _) (show ObjOk X.prog X.w _ _ _ (.tup ys) from ⟨q1.1, acc.toList, rv, IsTup.new _ _⟩)
    rw [e] at I2
    exact I2
  exact ⟨⟨_, Heap.get?_push_size _ rfl, rfl⟩, .ref s1.heap.objs.size, _, I2, rfl, q1.2 _ (I1.hok.fresh (Nat.le_refl _))⟩

/-- tuple(e for ..): the maker is a def; te may ask for the generator's own code object -/
def tTupG (P : Addr) (gpos : Pos) (wi : TI) (g : TG) (tt : Value → TT) (te : Value → TE) (vs : List Nat) : TE := fun σ H Q => wi σ H fun J H1 => TabN H1 P ∧ ∀ H2 code, TabbedN P H1 H2 → GoodC H2 code → ColLoop g (tt code) (te code) vs σ (QTup Q) J H2
theorem pe_tupG {c P : Addr} {elt tg iter : Expr} {ifs : List Expr} {scope : Scope} {own : List (Str × Nat)} {p pos gpos : Pos} {wi : TI} {g : TG} {tt : Value → TT} {te : Value → TE} {k : Nat}
    (hc : X.calm = true) (hN : X.N.Nodup) (hr : Room k X.A) (hgl : Gl X "tuple") (hm : X.mg "tuple" = none) (TB : TabB X.base X.mg c P) (hcode : X.env.code = .ref c) (ok : GOk X.N X.env.scope scope own) (hi : PI X tg iter wi)
    (hg : ∀ (s : Shared) (H : Hp) (C : Addr) (cl : List (Str × Addr)) (code : Value) (bi : Addr) (fp : List Addr) (pn : List (Addr × Obj)), PG (gblkT X s H (genEnv scope cl C code bi X.env) fp pn) tg g)
    (ht : ∀ (s : Shared) (H : Hp) (C : Addr) (cl : List (Str × Addr)) (code : Value) (bi : Addr) (fp : List Addr) (pn : List (Addr × Obj)), PTs (gblkT X s H (genEnv scope cl C code bi X.env) fp pn) ifs (tt code))
    (he : ∀ (s : Shared) (H : Hp) (C : Addr) (cl : List (Str × Addr)) (code : Value) (bi : Addr) (fp : List Addr) (pn : List (Addr × Obj)), PE (gblkT X s H (genEnv scope cl C code bi X.env) fp pn) elt (te code))
    (hs : ∀ v, genFold iter X.env v = pure v := by intro _; rfl)
    (hst : starEach [.GeneratorExp elt [⟨tg, iter, ifs, 0⟩] scope gpos] X.env = (false, eval (.GeneratorExp elt [⟨tg, iter, ifs, 0⟩] scope gpos) X.env) :: starEach [] X.env := by rfl) :
    PE X (.Call (.Name "tuple" p) [.GeneratorExp elt [⟨tg, iter, ifs, 0⟩] scope gpos] [] pos) (tTupG P gpos wi g tt te (own.map Prod.snd)) := by
  refine ⟨fun pins s σ H Q I h => ?_⟩
  refine Call_ (ld_blt I hgl hm boot_tuple (PyProof.Rows.callWith_type1 (PyProof.Rows.args_cons ?_ hst) hst rfl))
  refine gen_made (B := X.A.in1.in1.in1.in1) (R0 := fun J H1 => TabN H1 P ∧ ∀ H2 code, TabbedN P H1 H2 → GoodC H2 code → ColLoop g (tt code) (te code) (own.map Prod.snd) σ (QTup Q) J H2) hN hr I.ok.frames I.ok.hd TB.bm hcode ok hi hs I h (base_code TB fun J H2 q => q.1) fun J H2 H3 code G it a fp tn gn s5 qq hT hcA M => ?_
  refine PyProof.Rows.args_nil ?_
  obtain ⟨⟨_, _, _, _, _, _, rfl⟩, _⟩ := id M
  exact call_tupleT hc hr ok.co M (hg ..) (ht ..) (he ..) (qq.2 H3 code hT ((qq.1.tabbed hT).good hcA))

/-- the same within a generator expression, whose code object is known -/
def tTupI (code : Value) (wi : TI) (g : TG) (tt : TT) (te : TE) (vs : List Nat) : TE := fun σ H Q => wi σ H fun J H1 => GoodC H1 code ∧ ∀ H2 P, TabbedN P H1 H2 → ColLoop g tt te vs σ (QTup Q) J H2
theorem pe_tupI {P0 : Addr} {code : Value} {elt tg iter : Expr} {ifs : List Expr} {scope : Scope} {own : List (Str × Nat)} {p pos gpos : Pos} {wi : TI} {g : TG} {tt : TT} {te : TE} {k : Nat}
    (hc : X.calm = true) (hN : X.N.Nodup) (hr : Room k X.A) (hgl : Gl X "tuple") (hm : X.mg "tuple" = none) (bm : X.base.BuiltinsAt X.mg P0) (hcode : X.env.code = code) (ok : GOk X.N X.env.scope scope own) (hi : PI X tg iter wi)
    (hg : ∀ (s : Shared) (H : Hp) (C : Addr) (cl : List (Str × Addr)) (code : Value) (bi : Addr) (fp : List Addr) (pn : List (Addr × Obj)), PG (gblkT X s H (genEnv scope cl C code bi X.env) fp pn) tg g)
    (ht : ∀ (s : Shared) (H : Hp) (C : Addr) (cl : List (Str × Addr)) (code : Value) (bi : Addr) (fp : List Addr) (pn : List (Addr × Obj)), PTs (gblkT X s H (genEnv scope cl C code bi X.env) fp pn) ifs tt)
    (he : ∀ (s : Shared) (H : Hp) (C : Addr) (cl : List (Str × Addr)) (code : Value) (bi : Addr) (fp : List Addr) (pn : List (Addr × Obj)), PE (gblkT X s H (genEnv scope cl C code bi X.env) fp pn) elt te)
    (hs : ∀ v, genFold iter X.env v = pure v := by intro _; rfl)
    (hst : starEach [.GeneratorExp elt [⟨tg, iter, ifs, 0⟩] scope gpos] X.env = (false, eval (.GeneratorExp elt [⟨tg, iter, ifs, 0⟩] scope gpos) X.env) :: starEach [] X.env := by rfl) :
    PE X (.Call (.Name "tuple" p) [.GeneratorExp elt [⟨tg, iter, ifs, 0⟩] scope gpos] [] pos) (tTupI code wi g tt te (own.map Prod.snd)) := by
  refine ⟨fun pins s σ H Q I h => ?_⟩
  refine Call_ (ld_blt I hgl hm boot_tuple (PyProof.Rows.callWith_type1 (PyProof.Rows.args_cons ?_ hst) hst rfl))
  refine gen_madeC (B := X.A.in1.in1.in1.in1) (R0 := fun J H1 => GoodC H1 code ∧ ∀ H2 P, TabbedN P H1 H2 → ColLoop g tt te (own.map Prod.snd) σ (QTup Q) J H2) hN hr I.ok.frames I.ok.hd bm ok hi hs I h (fun J H2 s2 q I2 => ?_) fun J H2 P H3 code G it a fp tn gn s5 qq hT M => ?_
  · obtain ⟨c, P, qs, rfl, h1, h2, h3⟩ := q.1
    exact ⟨c, P, hcode, (I2.hok c _ h1).1, qs, h2, h3⟩
  refine PyProof.Rows.args_nil ?_
  obtain ⟨⟨_, _, _, _, _, _, rfl⟩, _⟩ := id M
  exact call_tupleT hc hr ok.co M (hg ..) (ht ..) (he ..) (qq.2 H3 P hT)
end
end GX
set_option maxHeartbeats 4000000
/-! all, any of a generator expression of two clauses. -/
namespace GX
open PySem PySem.Spec PyProof.Rows L2 GxR GenW

theorem compTurn_two0 (elt target iter tg2 iter2 : Expr) (ifs ifs2 : List Expr) (scope : Scope) (pos : Pos) (it acc : Value) (env : Env) :
    compTurn (.GeneratorExp elt [⟨target, iter, ifs, 0⟩, ⟨tg2, iter2, ifs2, 0⟩] scope pos) 0 it acc env = (do
      standAt iter.pos
      match ← pyNext it with
      | none => pure (.done .next)
      | some v =>
        letOwnedTupleGo target it v
        assign target env v
        let mut ok := true
        for c in ifs do
          if ok then ok ← isTrue c env (eval c env)
        if ok then
          let x ← eval iter2 env
          standAt iter2.pos
          let x ← foldedSetIterable iter2 env x
          let it2 ← holding [x] (pyIter x)
          let _ ← runOwn (.compStart (.GeneratorExp elt [⟨target, iter, ifs, 0⟩, ⟨tg2, iter2, ifs2, 0⟩] scope pos) 1 it2 acc env) env
        again (.compLoop (.GeneratorExp elt [⟨target, iter, ifs, 0⟩, ⟨tg2, iter2, ifs2, 0⟩] scope pos) 0 it acc env)) := by rfl

theorem compTurn_two1 (elt target iter tg2 iter2 : Expr) (ifs ifs2 : List Expr) (scope : Scope) (pos : Pos) (it acc : Value) (env : Env) :
    compTurn (.GeneratorExp elt [⟨target, iter, ifs, 0⟩, ⟨tg2, iter2, ifs2, 0⟩] scope pos) 1 it acc env = (do
      standAt iter2.pos
      match ← pyNext it with
      | none => pure (.done .next)
      | some v =>
        letOwnedTupleGo tg2 it v
        assign tg2 env v
        let mut ok := true
        for c in ifs2 do
          if ok then ok ← isTrue c env (eval c env)
        if ok then
          (do let v ← eval elt env; standAt elt.pos; let _ ← yieldOut env v)
        again (.compLoop (.GeneratorExp elt [⟨target, iter, ifs, 0⟩, ⟨tg2, iter2, ifs2, 0⟩] scope pos) 1 it acc env)) := by rfl

theorem wipe_keep {σ : L2.St} {j : Nat} : ∀ {vs : List Nat}, j ∉ vs → (wipe σ vs)[j]? = σ[j]?
  | [], _ => rfl
  | v :: vs, h => by
    unfold wipe
    rw [List.getElem?_set_ne (fun e => h (by rw [e]; exact List.mem_cons_self))]
    exact wipe_keep fun z => h (List.mem_cons_of_mem _ z)

section
variable {X : Cx} {pins : List (Addr × Obj)} {σ : L2.St} {H : Hp} {s : Shared}

/-- two clauses; one count for both, falling at each turn of either -/
def AllLoop2 (b₀ : Bool) (g : TG) (tt : TT) (wi2 : TI) (g2 : TG) (tt2 : TT) (te : TE) (vs vs2 : List Nat) (σ : L2.St) (Q : VK) (J : It) (H2 : Hp) : Prop := ∃ W : Nat → Nat → Hp → Prop, (∃ m, W 0 m H2) ∧ ∀ i m H, W i m H →
  (J.stop i H ∧ Q (.bl (!b₀)) H) ∨ (J.go i H ∧ ∀ x H', J.yld i H x H' → g x (wipe σ vs) H' fun σ2 H2 => wipe σ2 vs = wipe σ vs ∧ tt σ2 H2 fun b H3 =>
    if b = true then wi2 σ2 H3 fun J2 H4 => ∃ W2 : Nat → Nat → Hp → Prop, (∃ m2, m2 < m ∧ W2 0 m2 H4) ∧ ∀ i2 m2 H, W2 i2 m2 H →
      (J2.stop i2 H ∧ ∃ m', m' ≤ m2 ∧ W (i + 1) m' H) ∨ (J2.go i2 H ∧ ∀ x H', J2.yld i2 H x H' → g2 x (wipe σ2 vs2) H' fun σ3 H5 => wipe σ3 vs2 = wipe σ2 vs2 ∧ tt2 σ3 H5 fun b H6 =>
        if b = true then te σ3 H6 fun y H7 => ∃ c, y = .bl c ∧ if c = b₀ then Q (.bl b₀) H7 else ∃ m2', m2' < m2 ∧ W2 (i2 + 1) m2' H7 else ∃ m2', m2' < m2 ∧ W2 (i2 + 1) m2' H6)
    else ∃ m', m' < m ∧ W (i + 1) m' H3)
def tAllG2 (b₀ : Bool) (P : Addr) (wi : TI) (g : TG) (tt : TT) (wi2 : TI) (g2 : TG) (tt2 : TT) (te : TE) (vs vs2 : List Nat) : TE := fun σ H Q => wi σ H fun J H1 => TabN H1 P ∧ ∀ H2, TabbedN P H1 H2 → AllLoop2 b₀ g tt wi2 g2 tt2 te vs vs2 σ Q J H2

theorem seg_inner {G : Cx} {A : Around} {elt tg iter tg2 iter2 : Expr} {ifs ifs2 : List Expr} {scope : Scope} {pos : Pos} {it2 : Addr} {fp2 : List Addr} {tn2 : Nat → Heap → Prop} {J2 : It} {g2 : TG} {tt2 : TT} {te : TE} {vs vs2 : List Nat} {σ0 σ2 : L2.St} {b₀ : Bool} {Q : VK}
    {W2 : Nat → Nat → Hp → Prop} {Fin2 : Nat → Hp → Prop} {pinsO : List (Addr × Obj)} {c0 : Code} {p0 : Pos} {k : Result → Sem PySem.Fin} {l : List Value}
    (hov : A.over c0 [] = G.A) (hxe : G.xe = fun _ _ => False) (hc : G.calm = true) (hco : G.env.scope.isCoroutine = false) (hw2 : wipe σ2 vs = wipe σ0 vs) (hsub : ∀ v ∈ vs2, v ∈ vs)
    (T2 : Turn G.prog G.w G.K tg2 J2 fp2 it2 tn2) (pg2 : PG G tg2 g2) (pt2 : PTs G ifs2 tt2) (pe : PE G elt te)
    (turn2 : ∀ i2 m2 H, W2 i2 m2 H → (J2.stop i2 H ∧ Fin2 m2 H) ∨ (J2.go i2 H ∧ ∀ x H', J2.yld i2 H x H' → g2 x (wipe σ2 vs2) H' fun σ3 H5 => wipe σ3 vs2 = wipe σ2 vs2 ∧ tt2 σ3 H5 fun b H6 =>
        if b = true then te σ3 H6 fun y H7 => ∃ c, y = .bl c ∧ if c = b₀ then Q (.bl b₀) H7 else ∃ m2', m2' < m2 ∧ W2 (i2 + 1) m2' H7 else ∃ m2', m2' < m2 ∧ W2 (i2 + 1) m2' H6))
    (M : Nat) (done : ∀ m2 n H5 s₀ s', m2 < n → m2 < M → Inv G pinsO (wipe σ2 vs2) H5 s' → Fin2 m2 H5 → Seg (model G.prog G.w) A (fun n s₀ r s₁ => r = .ok .next ∧ gR G (wipe σ0 vs) b₀ Q n s₀ s₁) (gY G (wipe σ0 vs) b₀ Q) n s₀ c0 (k (.ok .next)) [] s') :
    ∀ (m2 n i2 : Nat) (H' : Hp) (s₀ s : Shared), m2 < n → m2 < M → Inv G pinsO (wipe σ2 vs2) H' s → tn2 i2 s.heap → (∀ b ∈ fp2, FpOk G pinsO H' b) → W2 i2 m2 H' →
      Seg (model G.prog G.w) A (fun n s₀ r s₁ => r = .ok .next ∧ gR G (wipe σ0 vs) b₀ Q n s₀ s₁) (gY G (wipe σ0 vs) b₀ Q) n s₀ (.compLoop (.GeneratorExp elt [⟨tg, iter, ifs, 0⟩, ⟨tg2, iter2, ifs2, 0⟩] scope pos) 1 (.ref it2) .none G.env)
        ((model G.prog G.w).den (.compLoop (.GeneratorExp elt [⟨tg, iter, ifs, 0⟩, ⟨tg2, iter2, ifs2, 0⟩] scope pos) 1 (.ref it2) .none G.env)) [.ret k none false l c0 p0 []] s := by
  have hov2 : A.over (.compLoop (.GeneratorExp elt [⟨tg, iter, ifs, 0⟩, ⟨tg2, iter2, ifs2, 0⟩] scope pos) 1 (.ref it2) .none G.env) [.ret k none false l c0 p0 []] = G.A := by
    rw [over_loop (by rfl) (by rfl)]; exact hov
  intro m2
  induction m2 using Nat.strongRecOn with
  | ind m2 ih =>
  intro n i2 H5 s₀ s5 hmn hM I5 st5 f5 w5
  show Seg _ A _ _ _ s₀ _ ((compTurn (.GeneratorExp elt [⟨tg, iter, ifs, 0⟩, ⟨tg2, iter2, ifs2, 0⟩] scope pos) 1 (.ref it2) .none G.env).onRaise (fun x => do noteFrame x G.env; theTreesLotGoes x)) _ s5
  rw [compTurn_two1, Sem.onRaise_eq_wrap]
  refine seg_bind_wrap (wpAny_standAt ?_)
  rcases turn2 i2 m2 H5 w5 with ⟨stop, qq⟩ | ⟨go, step⟩
  · refine seg_bind_wrap ?_
    rw [hov2]
    refine thnF (T2.done G rfl rfl rfl hc i2 pinsO s5 _ H5 (fun _ _ => False) I5 f5 st5 stop) fun r s6 ⟨hr, I6⟩ => ?_
    subst hr
    exact seg_leaf (.ok .next) (done m2 n H5 s₀ s6 hmn hM I6 qq)
  · refine seg_bind_wrap ?_
    rw [hov2]
    refine thnF (T2.item G rfl rfl rfl hc i2 pinsO s5 _ H5 (fun _ _ => False) I5 f5 st5 go) fun r s6 ⟨u, hr, h6⟩ => ?_
    subst hr
    refine seg_bind_wrap ?_
    rw [hov2]
    refine thnF h6 fun _ s7 ⟨x, H7, I7, r7, y7, st7, n7⟩ => ?_
    have f7 : ∀ b ∈ fp2, FpOk G pinsO H7 b := fun b hb => ⟨n7 b hb, (f5 b hb).2⟩
    have I7' := I7.pinned f7 (T2.obj _ _ st7)
    refine seg_bind_wrap ?_
    rw [hov2]
    have pgr := pg2.run _ s7 _ H7 x u _ I7' r7 (step x H7 y7)
    rw [hxe] at pgr
    refine thnF pgr fun _ s8 ⟨σ8, H8, I8, hw8, q8⟩ => ?_
    refine seg_bind_wrap ?_
    rw [hov2]
    have ptr := pt2.run _ s8 σ8 H8 _ I8 q8
    rw [hxe] at ptr
    refine thnF ptr fun b s9 ⟨H9, I9, q9⟩ => ?_
    have fin : ∀ {s' : Shared} {H' : Hp}, Inv G (pinsO ++ pinsAt fp2 s7.heap) σ8 H' s' → Inv G pinsO (wipe σ2 vs2) H' s' ∧ tn2 (i2 + 1) s'.heap ∧ (∀ b ∈ fp2, FpOk G pinsO H' b) := fun {s' H'} I' => by
      have pin' : ∀ b ∈ fp2, ∀ o, s7.heap.get? b = some o → s'.heap.get? b = some o ∧ H' b = none := fun b hb o e =>
        let z := I'.pin (b, o) (List.mem_append_right _ (List.mem_append_right _ (mem_pinsAt hb e)))
        ⟨z.1, z.2.1⟩
      have hl : (wipe σ2 vs2).length = σ8.length := by rw [← hw8, wipe_length]
      refine ⟨(I'.unpinned (pins := pinsO)).weak hl (fun j v e => ?_), T2.keep _ _ _ st7 fun b hb o e => (pin' b hb o e).1, fun b hb => ?_⟩
      · rw [← hw8] at e
        exact (wipe_some e).1
      · obtain ⟨o, e, _⟩ := T2.obj _ _ st7 b hb
        exact ⟨(pin' b hb o e).2, (f5 b hb).2⟩
    cases b with
    | false =>
      simp only [Bool.false_eq_true, if_false] at q9 ⊢
      obtain ⟨m', hm, w'⟩ := q9
      obtain ⟨f1, f2, f3⟩ := fin I9
      exact seg_again rfl (ih m' hm n (i2 + 1) H9 s₀ s9 (by omega) (by omega) f1 f2 f3 w')
    | true =>
      simp only [if_true] at q9 ⊢
      have hy : ∀ v, yieldOut G.env v = yieldValue v := fun v => by simp only [yieldOut, hco, Bool.false_eq_true, if_false]
      simp only [hy]
      rw [Sem.bind_eq_wrap', Sem.bind_eq_wrap', Sem.wrap_wrap, Sem.wrap_wrap]
      refine seg_wrap ?_
      rw [hov2]
      have per := pe.run _ s9 σ8 H9 _ I9 q9
      rw [hxe] at per
      refine thnF per fun z s10 ⟨yv, H10, I10, r10, c, hyv, q10⟩ => ?_
      subst hyv
      cases r10
      obtain ⟨f1, f2, f3⟩ := fin I10
      have I0 : Inv G [] (wipe σ0 vs) H10 s10 := by
        have hl : (wipe σ0 vs).length = (wipe σ2 vs2).length := by rw [← hw2, wipe_length, wipe_length]
        refine (f1.pins_of (pins' := []) fun p hp => by cases hp).weak hl fun j v e => ?_
        rw [← hw2] at e
        obtain ⟨e1, e2⟩ := wipe_some e
        rw [wipe_keep fun z => e2 (hsub j z)]
        exact e1
      by_cases hcb : c = b₀
      · rw [if_pos hcb] at q10
        cases n with
        | zero => omega
        | succ n => exact seg_at (seg_yield rfl rfl rfl ⟨c, H10, rfl, I0, fun _ => q10, fun hne => absurd hcb hne⟩)
      · rw [if_neg hcb] at q10
        obtain ⟨m', hm, w'⟩ := q10
        cases n with
        | zero => omega
        | succ n =>
          refine seg_at (seg_yield rfl rfl rfl ⟨c, H10, rfl, I0, fun h => absurd h hcb, fun _ s2 hh ho hb => ?_⟩)
          exact seg_again rfl (ih m' hm n (i2 + 1) H10 s2 s2 (by omega) (by omega) (inv_gens f1 hh ho hb) (by rw [hh]; exact f2) f3 w')

theorem seg_start2 {G : Cx} {A : Around} {elt tg iter tg2 iter2 : Expr} {ifs ifs2 : List Expr} {scope : Scope} {pos : Pos} {it2 : Addr} {R : GenEnd} {Y : Protocol} {n : Nat} {s₀ s : Shared} {fp2 : List Addr} {tn2 : Nat → Heap → Prop} {J2 : It} {fs : List Frame}
    (T : Turn G.prog G.w G.K tg2 J2 fp2 it2 tn2) (st : tn2 0 s.heap)
    (loop : Seg (model G.prog G.w) A R Y n s₀ (.compLoop (.GeneratorExp elt [⟨tg, iter, ifs, 0⟩, ⟨tg2, iter2, ifs2, 0⟩] scope pos) 1 (.ref it2) .none G.env) ((model G.prog G.w).den (.compLoop (.GeneratorExp elt [⟨tg, iter, ifs, 0⟩, ⟨tg2, iter2, ifs2, 0⟩] scope pos) 1 (.ref it2) .none G.env)) fs s) :
    Seg (model G.prog G.w) A R Y n s₀ (.compStart (.GeneratorExp elt [⟨tg, iter, ifs, 0⟩, ⟨tg2, iter2, ifs2, 0⟩] scope pos) 1 (.ref it2) .none G.env) ((model G.prog G.w).den (.compStart (.GeneratorExp elt [⟨tg, iter, ifs, 0⟩, ⟨tg2, iter2, ifs2, 0⟩] scope pos) 1 (.ref it2) .none G.env)) fs s := by
  show Seg _ A _ _ _ s₀ _ ((compStart (.GeneratorExp elt [⟨tg, iter, ifs, 0⟩, ⟨tg2, iter2, ifs2, 0⟩] scope pos) 1 (.ref it2) .none G.env).onRaise (fun x => do noteFrame x G.env; standAt theWindowsPlace)) fs s
  unfold compStart
  rw [Sem.onRaise_eq_wrap]
  show Seg _ A _ _ _ s₀ _ ((ask >>= _).wrap _ _ _ _) fs s
  refine seg_bind_wrap (wpAny_askSetting ?_)
  split
  · exact seg_again rfl loop
  · first
      | exact seg_bind_wrap (wpAny_rule (seg_bind_wrap (wpAny_standAt (seg_bind_wrap (T.self _ 0 s _ _ st (seg_again rfl loop))))))
      | (refine seg_bind_wrap (wpAny_rule ?_); show Seg _ A _ _ _ s₀ _ ((standAt iter2.pos >>= _).wrap _ _ _ _) fs s; exact seg_bind_wrap (wpAny_standAt (seg_bind_wrap (T.self _ 0 s _ _ st (seg_again rfl loop)))))

theorem seg_start1 {G : Cx} {A : Around} {elt tg iter : Expr} {ifs : List Expr} {more : List Comprehension} {scope : Scope} {pos : Pos} {it : Addr} {R : GenEnd} {Y : Protocol} {n : Nat} {s₀ s : Shared} {fp : List Addr} {tn : Nat → Heap → Prop} {J : It}
    (T : Turn G.prog G.w G.K tg J fp it tn) (st : tn 0 s.heap)
    (loop : Seg (model G.prog G.w) A R Y n s₀ (.compLoop (.GeneratorExp elt (⟨tg, iter, ifs, 0⟩ :: more) scope pos) 0 (.ref it) .none G.env) ((model G.prog G.w).den (.compLoop (.GeneratorExp elt (⟨tg, iter, ifs, 0⟩ :: more) scope pos) 0 (.ref it) .none G.env)) [] s) :
    Seg (model G.prog G.w) A R Y n s₀ (.compStart (.GeneratorExp elt (⟨tg, iter, ifs, 0⟩ :: more) scope pos) 0 (.ref it) .none G.env) ((model G.prog G.w).den (.compStart (.GeneratorExp elt (⟨tg, iter, ifs, 0⟩ :: more) scope pos) 0 (.ref it) .none G.env)) [] s := by
  show Seg _ A _ _ _ s₀ _ ((compStart (.GeneratorExp elt (⟨tg, iter, ifs, 0⟩ :: more) scope pos) 0 (.ref it) .none G.env).onRaise (leaving G.env)) [] s
  unfold compStart
  rw [Sem.onRaise_eq_wrap]
  show Seg _ A _ _ _ s₀ _ ((ask >>= _).wrap _ _ _ _) [] s
  refine seg_bind_wrap (wpAny_askSetting ?_)
  split
  · exact seg_again rfl loop
  · first
      | exact seg_bind_wrap (wpAny_rule (seg_bind_wrap (wpAny_standAt (seg_bind_wrap (T.self _ 0 s _ _ st (seg_again rfl loop))))))
      | (refine seg_bind_wrap (wpAny_rule ?_); show Seg _ A _ _ _ s₀ _ ((standAt iter.pos >>= _).wrap _ _ _ _) [] s; exact seg_bind_wrap (wpAny_standAt (seg_bind_wrap (T.self _ 0 s _ _ st (seg_again rfl loop)))))

theorem seg_gen2 {G : Cx} {A : Around} {elt tg iter tg2 iter2 : Expr} {ifs ifs2 : List Expr} {scope : Scope} {pos : Pos} {it : Addr} {fp : List Addr} {tn : Nat → Heap → Prop} {J : It} {g g2 : TG} {tt tt2 : TT} {te : TE} {wi2 : TI} {vs vs2 : List Nat} {σ0 : L2.St} {b₀ : Bool} {Q : VK} {W : Nat → Nat → Hp → Prop}
    (hA : G.A = A.deeper G.env) (hxe : G.xe = fun _ _ => False) (hc : G.calm = true) (hco : G.env.scope.isCoroutine = false) (hex : G.ex = fp) (hpn : ∀ p ∈ G.pn, p.1 ∉ fp) (hsub : ∀ v ∈ vs2, v ∈ vs)
    (T : Turn G.prog G.w G.K tg J fp it tn) (pg : PG G tg g) (pt : PTs G ifs tt) (hi2 : PI G tg2 iter2 wi2) (pg2 : PG G tg2 g2) (pt2 : PTs G ifs2 tt2) (pe : PE G elt te) (hs2 : ∀ v, foldedSetIterable iter2 G.env v = pure v)
    (turn : ∀ i m H, W i m H → (J.stop i H ∧ Q (.bl (!b₀)) H) ∨ (J.go i H ∧ ∀ x H', J.yld i H x H' → g x (wipe σ0 vs) H' fun σ2 H2 => wipe σ2 vs = wipe σ0 vs ∧ tt σ2 H2 fun b H3 =>
      if b = true then wi2 σ2 H3 fun J2 H4 => ∃ W2 : Nat → Nat → Hp → Prop, (∃ m2, m2 < m ∧ W2 0 m2 H4) ∧ ∀ i2 m2 H, W2 i2 m2 H →
        (J2.stop i2 H ∧ ∃ m', m' ≤ m2 ∧ W (i + 1) m' H) ∨ (J2.go i2 H ∧ ∀ x H', J2.yld i2 H x H' → g2 x (wipe σ2 vs2) H' fun σ3 H5 => wipe σ3 vs2 = wipe σ2 vs2 ∧ tt2 σ3 H5 fun b H6 =>
          if b = true then te σ3 H6 fun y H7 => ∃ c, y = .bl c ∧ if c = b₀ then Q (.bl b₀) H7 else ∃ m2', m2' < m2 ∧ W2 (i2 + 1) m2' H7 else ∃ m2', m2' < m2 ∧ W2 (i2 + 1) m2' H6)
      else ∃ m', m' < m ∧ W (i + 1) m' H3)) :
    ∀ (m n i : Nat) (H' : Hp) (s₀ s : Shared), m < n → Inv G [] (wipe σ0 vs) H' s → tn i s.heap → (∀ b ∈ fp, H' b = none) → W i m H' →
      Seg (model G.prog G.w) A (fun n s₀ r s₁ => r = .ok .next ∧ gR G (wipe σ0 vs) b₀ Q n s₀ s₁) (gY G (wipe σ0 vs) b₀ Q) n s₀ (.compLoop (.GeneratorExp elt [⟨tg, iter, ifs, 0⟩, ⟨tg2, iter2, ifs2, 0⟩] scope pos) 0 (.ref it) .none G.env)
        ((model G.prog G.w).den (.compLoop (.GeneratorExp elt [⟨tg, iter, ifs, 0⟩, ⟨tg2, iter2, ifs2, 0⟩] scope pos) 0 (.ref it) .none G.env)) [] s := by
  have stat : ∀ {σ' : L2.St} {H' : Hp} {s' : Shared}, Inv G [] σ' H' s' → (∀ b ∈ fp, H' b = none) → ∀ b ∈ fp, FpOk G [] H' b := fun {σ' H' s'} I' hn b hb =>
    ⟨hn b hb, (I'.ok.exf b (by rw [hex]; exact hb)).1, I'.ok.exfs b (by rw [hex]; exact hb), .inl (by rw [hex]; exact hb), fun x c e => (I'.ok.exf b (by rw [hex]; exact hb)).2 x c e, fun p hp => by
      rw [List.append_nil] at hp
      exact fun z => hpn p hp (by rw [z]; exact hb)⟩
  have hov : A.over (.compLoop (.GeneratorExp elt [⟨tg, iter, ifs, 0⟩, ⟨tg2, iter2, ifs2, 0⟩] scope pos) 0 (.ref it) .none G.env) [] = G.A := by rw [hA]; exact over_gen
  intro m
  induction m using Nat.strongRecOn with
  | ind m ih =>
  intro n i H5 s₀ s5 hmn I5 st5 n5 w5
  show Seg _ A _ _ _ s₀ _ ((compTurn (.GeneratorExp elt [⟨tg, iter, ifs, 0⟩, ⟨tg2, iter2, ifs2, 0⟩] scope pos) 0 (.ref it) .none G.env).onRaise (leaving G.env)) [] s5
  rw [compTurn_two0, Sem.onRaise_eq_wrap]
  refine seg_bind_wrap (wpAny_standAt ?_)
  rcases turn i m H5 w5 with ⟨stop, qq⟩ | ⟨go, step⟩
  · refine seg_bind_wrap ?_
    rw [hov]
    refine thnF (T.done G rfl rfl rfl hc i [] s5 _ H5 (fun _ _ => False) I5 (stat I5 n5) st5 stop) fun r s6 ⟨hr, I6⟩ => ?_
    subst hr
    exact seg_end (.ok .next) ⟨rfl, H5, I6, qq⟩
  · refine seg_bind_wrap ?_
    rw [hov]
    refine thnF (T.item G rfl rfl rfl hc i [] s5 _ H5 (fun _ _ => False) I5 (stat I5 n5) st5 go) fun r s6 ⟨u, hr, h6⟩ => ?_
    subst hr
    refine seg_bind_wrap ?_
    rw [hov]
    refine thnF h6 fun _ s7 ⟨x, H7, I7, r7, y7, st7, n7⟩ => ?_
    have I7' := I7.pinned (stat I7 n7) (T.obj _ _ st7)
    refine seg_bind_wrap ?_
    rw [hov]
    have pgr := pg.run _ s7 _ H7 x u _ I7' r7 (step x H7 y7)
    rw [hxe] at pgr
    refine thnF pgr fun _ s8 ⟨σ8, H8, I8, hw8, q8⟩ => ?_
    refine seg_bind_wrap ?_
    rw [hov]
    have ptr := pt.run _ s8 σ8 H8 _ I8 q8
    rw [hxe] at ptr
    refine thnF ptr fun b s9 ⟨H9, I9, q9⟩ => ?_
    have fin : ∀ {s' : Shared} {H' : Hp} {σ' : L2.St}, (wipe σ0 vs).length = σ'.length → (∀ (j : Nat) v, (wipe σ0 vs)[j]? = some (some v) → σ'[j]? = some (some v)) → Inv G ([] ++ pinsAt fp s7.heap) σ' H' s' → Inv G [] (wipe σ0 vs) H' s' ∧ tn (i + 1) s'.heap ∧ (∀ b ∈ fp, H' b = none) := fun {s' H' σ'} hl hw' I' => by
      have pin' : ∀ b ∈ fp, ∀ o, s7.heap.get? b = some o → s'.heap.get? b = some o ∧ H' b = none := fun b hb o e =>
        let z := I'.pin (b, o) (List.mem_append_right _ (List.mem_append_right _ (mem_pinsAt hb e)))
        ⟨z.1, z.2.1⟩
      refine ⟨(I'.unpinned (pins := [])).weak hl hw', T.keep _ _ _ st7 fun b hb o e => (pin' b hb o e).1, fun b hb => ?_⟩
      · obtain ⟨o, e, _⟩ := T.obj _ _ st7 b hb
        exact (pin' b hb o e).2
    cases b with
    | false =>
      simp only [Bool.false_eq_true, if_false] at q9 ⊢
      obtain ⟨m', hm, w'⟩ := q9
      obtain ⟨f1, f2, f3⟩ := fin (by rw [← hw8, wipe_length]) (fun j v e => by
        rw [← hw8] at e
        exact (wipe_some e).1) I9
      exact seg_again rfl (ih m' hm n (i + 1) H9 s₀ s9 (by omega) f1 f2 f3 w')
    | true =>
      simp only [if_true] at q9 ⊢
      refine seg_bind_wrap ?_
      rw [hov]
      have hir := hi2.run _ s9 σ8 H9 _ I9 q9
      rw [hxe] at hir
      refine thnF hir fun v s10 h10 => ?_
      refine seg_bind_wrap (wpAny_standAt ?_)
      refine seg_bind_wrap (wpAny_of_eq (hs2 v) ?_)
      refine seg_bind_wrap (wpAny_holding ?_)
      rw [hov]
      refine thnF h10 fun itv s11 h11 => ?_
      obtain ⟨it2, fp2, tn2, J2, H11, e, I11, T2, st11, f11, W2, ⟨m2, hm2, w2⟩, turn2⟩ := h11
      subst e
      rw [Sem.bind_eq_wrap', Sem.wrap_wrap]
      refine seg_call fun p => ?_
      refine seg_start2 T2 st11 ?_
      have I11w : Inv G ([] ++ pinsAt fp s7.heap) (wipe σ8 vs2) H11 s11 := I11.weak (wipe_length _ _) fun j v e => (wipe_some e).1
      refine seg_inner (W2 := W2) (Fin2 := fun m2 H => ∃ m', m' ≤ m2 ∧ W (i + 1) m' H) (pinsO := [] ++ pinsAt fp s7.heap) hov hxe hc hco hw8 hsub T2 pg2 pt2 pe turn2 m (fun m2 n' H12 s₀ s12 hmn' hm2' I12 hf => ?_) m2 n 0 H11 s₀ s11 (by omega) hm2 I11w st11 f11 w2
      obtain ⟨m', hm', w'⟩ := hf
      obtain ⟨f1, f2, f3⟩ := fin (by rw [← hw8, wipe_length, wipe_length]) (fun j v e => by
        rw [← hw8] at e
        obtain ⟨e1, e2⟩ := wipe_some e
        rw [wipe_keep fun z => e2 (hsub j z)]
        exact e1) I12
      exact seg_again rfl (ih m' (by omega) n' (i + 1) H12 s₀ s12 (by omega) f1 f2 f3 w')
theorem held_made2 {G : Cx} {elt tg iter tg2 iter2 : Expr} {ifs ifs2 : List Expr} {vs2 : List Nat} {wi2 : TI} {g2 : TG} {tt2 : TT} {scope : Scope} {own : List (Str × Nat)} {gpos : Pos} {code : Value} {J : It} {H3 : Hp} {it a : Addr} {fp : List Addr} {tn : Nat → Heap → Prop} {gn : Nat} {s5 : Shared} {g : TG} {tt : TT} {te : TE} {b₀ : Bool} {Q : VK}
    (hc : X.calm = true) (hco : scope.isCoroutine = false)
    (hsub : ∀ v ∈ vs2, v ∈ own.map (·.2)) (hi2 : ∀ (s : Shared) (H : Hp) (C : Addr) (cl : List (Str × Addr)) (code : Value) (bi : Addr) (fp : List Addr) (pn : List (Addr × Obj)), PI (gblk X s H (genEnv scope cl C code bi X.env) fp pn) tg2 iter2 wi2)
    (hg2 : ∀ (s : Shared) (H : Hp) (C : Addr) (cl : List (Str × Addr)) (code : Value) (bi : Addr) (fp : List Addr) (pn : List (Addr × Obj)), PG (gblk X s H (genEnv scope cl C code bi X.env) fp pn) tg2 g2)
    (ht2 : ∀ (s : Shared) (H : Hp) (C : Addr) (cl : List (Str × Addr)) (code : Value) (bi : Addr) (fp : List Addr) (pn : List (Addr × Obj)), PTs (gblk X s H (genEnv scope cl C code bi X.env) fp pn) ifs2 tt2)
    (hg : ∀ (s : Shared) (H : Hp) (C : Addr) (cl : List (Str × Addr)) (code : Value) (bi : Addr) (fp : List Addr) (pn : List (Addr × Obj)), PG (gblk X s H (genEnv scope cl C code bi X.env) fp pn) tg g)
    (ht : ∀ (s : Shared) (H : Hp) (C : Addr) (cl : List (Str × Addr)) (code : Value) (bi : Addr) (fp : List Addr) (pn : List (Addr × Obj)), PTs (gblk X s H (genEnv scope cl C code bi X.env) fp pn) ifs tt)
    (he : ∀ (s : Shared) (H : Hp) (C : Addr) (cl : List (Str × Addr)) (code : Value) (bi : Addr) (fp : List Addr) (pn : List (Addr × Obj)), PE (gblk X s H (genEnv scope cl C code bi X.env) fp pn) elt te)
    (hs2 : ∀ (C : Addr) (cl : List (Str × Addr)) (code : Value) (bi : Addr) v, foldedSetIterable iter2 (genEnv scope cl C code bi X.env) v = pure v)
    (M : Made X X.A.in1.in1 pins σ (wipe σ (own.map (·.2))) (.GeneratorExp elt [⟨tg, iter, ifs, 0⟩, ⟨tg2, iter2, ifs2, 0⟩] scope gpos) tg scope code G J H3 it a fp tn gn s5) (q : AllLoop2 b₀ g tt wi2 g2 tt2 te (own.map (·.2)) vs2 σ Q J H3) : ∃ n, Held G (wipe σ (own.map (·.2))) b₀ Q X.A.in1.in1 a gn n s5 := by
  obtain ⟨⟨s, Hs, C, cl, bi, pn, rfl⟩, pn1, T, I5, hgen, st5, fr5, isg, back, _, _⟩ := M
  obtain ⟨W, ⟨m0, w0⟩, turn⟩ := q
  refine ⟨m0 + 1, isg _ _ _ _ I5, I5.nolimit, _, hgen, rfl, ?_⟩
  refine seg_start1 (G := gblk X s Hs (genEnv scope cl C code bi X.env) fp pn) T st5 ?_
  exact seg_gen2 (G := gblk X s Hs (genEnv scope cl C code bi X.env) fp pn) (W := W) rfl rfl hc hco rfl (fun p hp => (pn1 p hp).1) hsub T (hg ..) (ht ..) (hi2 ..) (hg2 ..) (ht2 ..) (he ..) (hs2 _ _ _ _) turn m0 (m0 + 1) 0 H3 _ _ (Nat.lt_succ_self _) (inv_gens I5 rfl rfl (bare_set I5.bare rfl)) st5 (fun b hb => (fr5 b hb).1) w0

theorem pe_allG2 {c P : Addr} {elt tg iter tg2 iter2 : Expr} {ifs ifs2 : List Expr} {vs2 : List Nat} {wi2 : TI} {g2 : TG} {tt2 : TT} {scope : Scope} {own : List (Str × Nat)} {p pos gpos : Pos} {wi : TI} {g : TG} {tt : TT} {te : TE} {k : Nat}
    (hc : X.calm = true) (hN : X.N.Nodup) (hr : Room k X.A) (hgl : Gl X "all") (hm : X.mg "all" = none) (TB : TabB X.base X.mg c P) (hcode : X.env.code = .ref c) (ok : GOk X.N X.env.scope scope own) (hi : PI X tg iter wi)
    (hsub : ∀ v ∈ vs2, v ∈ own.map (·.2)) (hi2 : ∀ (s : Shared) (H : Hp) (C : Addr) (cl : List (Str × Addr)) (code : Value) (bi : Addr) (fp : List Addr) (pn : List (Addr × Obj)), PI (gblk X s H (genEnv scope cl C code bi X.env) fp pn) tg2 iter2 wi2)
    (hg2 : ∀ (s : Shared) (H : Hp) (C : Addr) (cl : List (Str × Addr)) (code : Value) (bi : Addr) (fp : List Addr) (pn : List (Addr × Obj)), PG (gblk X s H (genEnv scope cl C code bi X.env) fp pn) tg2 g2)
    (ht2 : ∀ (s : Shared) (H : Hp) (C : Addr) (cl : List (Str × Addr)) (code : Value) (bi : Addr) (fp : List Addr) (pn : List (Addr × Obj)), PTs (gblk X s H (genEnv scope cl C code bi X.env) fp pn) ifs2 tt2)
    (hg : ∀ (s : Shared) (H : Hp) (C : Addr) (cl : List (Str × Addr)) (code : Value) (bi : Addr) (fp : List Addr) (pn : List (Addr × Obj)), PG (gblk X s H (genEnv scope cl C code bi X.env) fp pn) tg g)
    (ht : ∀ (s : Shared) (H : Hp) (C : Addr) (cl : List (Str × Addr)) (code : Value) (bi : Addr) (fp : List Addr) (pn : List (Addr × Obj)), PTs (gblk X s H (genEnv scope cl C code bi X.env) fp pn) ifs tt)
    (he : ∀ (s : Shared) (H : Hp) (C : Addr) (cl : List (Str × Addr)) (code : Value) (bi : Addr) (fp : List Addr) (pn : List (Addr × Obj)), PE (gblk X s H (genEnv scope cl C code bi X.env) fp pn) elt te)
    (hs : ∀ v, genFold iter X.env v = pure v := by intro _; rfl)
    (hs2 : ∀ (C : Addr) (cl : List (Str × Addr)) (code : Value) (bi : Addr) v, foldedSetIterable iter2 (genEnv scope cl C code bi X.env) v = pure v := by intros; rfl)
    (hst : starEach [.GeneratorExp elt [⟨tg, iter, ifs, 0⟩, ⟨tg2, iter2, ifs2, 0⟩] scope gpos] X.env = (false, eval (.GeneratorExp elt [⟨tg, iter, ifs, 0⟩, ⟨tg2, iter2, ifs2, 0⟩] scope gpos) X.env) :: starEach [] X.env := by rfl) :
    PE X (.Call (.Name "all" p) [.GeneratorExp elt [⟨tg, iter, ifs, 0⟩, ⟨tg2, iter2, ifs2, 0⟩] scope gpos] [] pos) (tAllG2 false P wi g tt wi2 g2 tt2 te (own.map (·.2)) vs2) := by
  refine ⟨fun pins s σ H Q I h => ?_⟩
  refine wpAny_Call_Name_kw (ld_blt I hgl hm (show bootBuiltins "all" = some (.builtin "all") by decide +kernel) ?_)
  refine PyProof.Rows.callWith_builtin1 ?_ hst (by rfl)
  rw [hst]
  show wpAny _ _ (spliced ((false, eval (.GeneratorExp elt [⟨tg, iter, ifs, 0⟩, ⟨tg2, iter2, ifs2, 0⟩] scope gpos) X.env) :: backTo pos (starEach [] X.env))) _ _ s
  refine Calls.spliced_cons (gen_made (B := X.A.in1.in1) (R0 := fun J H1 => TabN H1 P ∧ ∀ H2, TabbedN P H1 H2 → AllLoop2 false g tt wi2 g2 tt2 te (own.map Prod.snd) vs2 σ Q J H2) hN hr I.ok.frames I.ok.hd TB.bm hcode ok hi hs I h (base_code TB fun J H2 q => q.1) fun J H2 H3 code G it a fp tn gn s5 qq hT hcA M => ?_)
  obtain ⟨n, hh⟩ := held_made2 hc ok.co hsub hi2 hg2 ht2 hg ht he hs2 M (qq.2 H3 hT)
  have eP : G.prog = X.prog := by obtain ⟨⟨_, _, _, _, _, _, e⟩, _⟩ := M; rw [e]
  have eW : G.w = X.w := by obtain ⟨⟨_, _, _, _, _, _, e⟩, _⟩ := M; rw [e]
  refine Calls.spliced_nil ?_
  refine call_function_tree F.kind_all F.plain_all F.entry_all (F.args_all1 _) ?_
  unfold Builtin.«all»
  refine wpAny_bind (m := oneArg "all" _) (wpAny_pure ?_)
  refine wpAny_bind (wpAny_pyIter_gen hh.1 ?_)
  rw [← eP, ← eW]
  exact wpAny_pure ⟨plainId_quiet F.plain_all_loop _, all_loop (A := X.A) hr.hd (by have := hr.dp; omega) (fun s1 H1 I1 => M.isg _ _ s1 H1 I1) (fun c s1 H1 I1 q => ⟨.bl c, H1, M.back _ _ s1 H1 I1, rfl, q⟩) n s5 hh⟩

theorem pe_anyG2 {c P : Addr} {elt tg iter tg2 iter2 : Expr} {ifs ifs2 : List Expr} {vs2 : List Nat} {wi2 : TI} {g2 : TG} {tt2 : TT} {scope : Scope} {own : List (Str × Nat)} {p pos gpos : Pos} {wi : TI} {g : TG} {tt : TT} {te : TE} {k : Nat}
    (hc : X.calm = true) (hN : X.N.Nodup) (hr : Room k X.A) (hgl : Gl X "any") (hm : X.mg "any" = none) (TB : TabB X.base X.mg c P) (hcode : X.env.code = .ref c) (ok : GOk X.N X.env.scope scope own) (hi : PI X tg iter wi)
    (hsub : ∀ v ∈ vs2, v ∈ own.map (·.2)) (hi2 : ∀ (s : Shared) (H : Hp) (C : Addr) (cl : List (Str × Addr)) (code : Value) (bi : Addr) (fp : List Addr) (pn : List (Addr × Obj)), PI (gblk X s H (genEnv scope cl C code bi X.env) fp pn) tg2 iter2 wi2)
    (hg2 : ∀ (s : Shared) (H : Hp) (C : Addr) (cl : List (Str × Addr)) (code : Value) (bi : Addr) (fp : List Addr) (pn : List (Addr × Obj)), PG (gblk X s H (genEnv scope cl C code bi X.env) fp pn) tg2 g2)
    (ht2 : ∀ (s : Shared) (H : Hp) (C : Addr) (cl : List (Str × Addr)) (code : Value) (bi : Addr) (fp : List Addr) (pn : List (Addr × Obj)), PTs (gblk X s H (genEnv scope cl C code bi X.env) fp pn) ifs2 tt2)
    (hg : ∀ (s : Shared) (H : Hp) (C : Addr) (cl : List (Str × Addr)) (code : Value) (bi : Addr) (fp : List Addr) (pn : List (Addr × Obj)), PG (gblk X s H (genEnv scope cl C code bi X.env) fp pn) tg g)
    (ht : ∀ (s : Shared) (H : Hp) (C : Addr) (cl : List (Str × Addr)) (code : Value) (bi : Addr) (fp : List Addr) (pn : List (Addr × Obj)), PTs (gblk X s H (genEnv scope cl C code bi X.env) fp pn) ifs tt)
    (he : ∀ (s : Shared) (H : Hp) (C : Addr) (cl : List (Str × Addr)) (code : Value) (bi : Addr) (fp : List Addr) (pn : List (Addr × Obj)), PE (gblk X s H (genEnv scope cl C code bi X.env) fp pn) elt te)
    (hs : ∀ v, genFold iter X.env v = pure v := by intro _; rfl)
    (hs2 : ∀ (C : Addr) (cl : List (Str × Addr)) (code : Value) (bi : Addr) v, foldedSetIterable iter2 (genEnv scope cl C code bi X.env) v = pure v := by intros; rfl)
    (hst : starEach [.GeneratorExp elt [⟨tg, iter, ifs, 0⟩, ⟨tg2, iter2, ifs2, 0⟩] scope gpos] X.env = (false, eval (.GeneratorExp elt [⟨tg, iter, ifs, 0⟩, ⟨tg2, iter2, ifs2, 0⟩] scope gpos) X.env) :: starEach [] X.env := by rfl) :
    PE X (.Call (.Name "any" p) [.GeneratorExp elt [⟨tg, iter, ifs, 0⟩, ⟨tg2, iter2, ifs2, 0⟩] scope gpos] [] pos) (tAllG2 true P wi g tt wi2 g2 tt2 te (own.map (·.2)) vs2) := by
  refine ⟨fun pins s σ H Q I h => ?_⟩
  refine wpAny_Call_Name_kw (ld_blt I hgl hm (show bootBuiltins "any" = some (.builtin "any") by decide +kernel) ?_)
  refine PyProof.Rows.callWith_builtin1 ?_ hst (by rfl)
  rw [hst]
  show wpAny _ _ (spliced ((false, eval (.GeneratorExp elt [⟨tg, iter, ifs, 0⟩, ⟨tg2, iter2, ifs2, 0⟩] scope gpos) X.env) :: backTo pos (starEach [] X.env))) _ _ s
  refine Calls.spliced_cons (gen_made (B := X.A.in1.in1) (R0 := fun J H1 => TabN H1 P ∧ ∀ H2, TabbedN P H1 H2 → AllLoop2 true g tt wi2 g2 tt2 te (own.map Prod.snd) vs2 σ Q J H2) hN hr I.ok.frames I.ok.hd TB.bm hcode ok hi hs I h (base_code TB fun J H2 q => q.1) fun J H2 H3 code G it a fp tn gn s5 qq hT hcA M => ?_)
  obtain ⟨n, hh⟩ := held_made2 hc ok.co hsub hi2 hg2 ht2 hg ht he hs2 M (qq.2 H3 hT)
  have eP : G.prog = X.prog := by obtain ⟨⟨_, _, _, _, _, _, e⟩, _⟩ := M; rw [e]
  have eW : G.w = X.w := by obtain ⟨⟨_, _, _, _, _, _, e⟩, _⟩ := M; rw [e]
  refine Calls.spliced_nil ?_
  refine call_function_tree F.kind_any F.plain_any F.entry_any (F.args_any1 _) ?_
  unfold Builtin.«any»
  refine wpAny_bind (m := oneArg "any" _) (wpAny_pure ?_)
  refine wpAny_bind (wpAny_pyIter_gen hh.1 ?_)
  rw [← eP, ← eW]
  exact wpAny_pure ⟨plainId_quiet F.plain_any_loop _, any_loop (A := X.A) hr.hd (by have := hr.dp; omega) (fun s1 H1 I1 => M.isg _ _ s1 H1 I1) (fun c s1 H1 I1 q => ⟨.bl c, H1, M.back _ _ s1 H1 I1, rfl, q⟩) n s5 hh⟩
end
end GX
set_option maxHeartbeats 4000000
/-! What the proofs of all laws of this program share: the context, heaps that grow, a def and its promise. -/
namespace Pm
open PySem PySem.Spec PyProof.Rows L2 GxR GX

/-- the context of a law: the program, the world, the written part, the module's names, the heap at the entry, the tables of code objects -/
structure Ct where
  P : Program
  w : World
  K : PySem.W.Frag
  mg : Str → Option Value
  base : Heap
  ts : List Addr

/-! ### heaps that grow -/
/-- what was tracked stands; tables may have grown, by good code objects -/
def Gr (H H' : Hp) : Prop := ∀ b o, H b = some o → H' b = some o ∨ ∃ ps ps', o = .tbl ps ∧ H' b = some (.tbl ps') ∧ (TriplesOk ps.toList → TriplesOk ps'.toList) ∧ ∀ (pos : Pos) (cv : Value), codeAmong pos ps'.toList = some cv → codeAmong pos ps.toList = some cv ∨ GoodC H' cv
theorem goodC_gr {H H' : Hp} {cv : Value} (g : Gr H H') (h : GoodC H cv) : GoodC H' cv := by
  obtain ⟨c, P, qs, rfl, h1, h2, h3⟩ := h
  have h1' : H' c = some (GenC c P) := by
    rcases g c _ h1 with q | ⟨ps, _, z, _⟩
    · exact q
    · exact absurd z (genC_ne ps)
  rcases g P _ h2 with q | ⟨ps, ps', z, q, t, _⟩
  · exact ⟨c, P, qs, rfl, h1', q, h3⟩
  · cases z
    exact ⟨c, P, ps', rfl, h1', q, t h3⟩
theorem Gr.refl (H : Hp) : Gr H H := fun _ _ e => .inl e
theorem Gr.trans {H H1 H2 : Hp} (a : Gr H H1) (b : Gr H1 H2) : Gr H H2 := fun c o e => by
  rcases a c o e with q | ⟨ps, ps', rfl, q, t, u⟩
  · exact b c o q
  · rcases b c _ q with q2 | ⟨qs, qs', e2, q2, t2, u2⟩
    · exact .inr ⟨ps, ps', rfl, q2, t, fun pos cv z => (u pos cv z).imp id (goodC_gr b)⟩
    · cases e2
      refine .inr ⟨ps, qs', rfl, q2, fun z => t2 (t z), fun pos cv z => ?_⟩
      rcases u2 pos cv z with z | z
      · exact (u pos cv z).imp id (goodC_gr b)
      · exact .inr z
theorem Gr.new {H : Hp} {p : Addr} {o : HO} (h : H p = none) : Gr H (upd H p o) := fun b x e => .inl (by rw [upd_ne (ne_of_none e h)]; exact e)
/-- no code object and no table stands there -/
def NoC (H : Hp) (b : Addr) : Prop := ∀ o, H b = some o → (∀ c P, o ≠ GenC c P) ∧ ∀ ps, o ≠ .tbl ps
theorem NoC.free {H : Hp} {b : Addr} (h : H b = none) : NoC H b := fun o e => by rw [h] at e; cases e
theorem NoC.lst {H : Hp} {b : Addr} {xs : List V} (h : H b = some (.lst xs)) : NoC H b := fun o e => by
  rw [h] at e; cases e
  exact ⟨fun c P z => (by unfold GenC at z; cases z), fun ps z => nomatch z⟩
theorem NoC.tup {H : Hp} {b : Addr} {xs : List V} (h : H b = some (.tup xs)) : NoC H b := fun o e => by
  rw [h] at e; cases e
  exact ⟨fun c P z => (by unfold GenC at z; cases z), fun ps z => nomatch z⟩
theorem NoC.dK {H : Hp} {b : Addr} {xs : List (Key × V)} (h : H b = some (.dK xs)) : NoC H b := fun o e => by
  rw [h] at e; cases e
  exact ⟨fun c P z => (by unfold GenC at z; cases z), fun ps z => nomatch z⟩
theorem NoC.ins {H : Hp} {b C dx : Addr} {xs : List (Str × V)} (h : H b = some (.ins C dx xs)) : NoC H b := fun o e => by
  rw [h] at e; cases e
  exact ⟨fun c P z => (by unfold GenC at z; cases z), fun ps z => nomatch z⟩
theorem NoC.frz {H : Hp} {b : Addr} {o : Obj} {u : HO} (h : H b = some (.frz o u)) : NoC H b := fun o e => by
  rw [h] at e; cases e
  exact ⟨fun c P z => (by unfold GenC at z; cases z), fun ps z => nomatch z⟩
theorem goodC_put {H : Hp} {D : Addr} {o : HO} {cv : Value} (n : NoC H D) (h : GoodC H cv) : GoodC (upd H D o) cv := by
  obtain ⟨c, P, qs, rfl, h1, h2, h3⟩ := h
  have n1 : c ≠ D := fun z => by rw [z] at h1; exact (n _ h1).1 _ _ rfl
  have n2 : P ≠ D := fun z => by rw [z] at h2; exact (n _ h2).2 _ rfl
  exact ⟨c, P, qs, rfl, by rw [upd_ne n1]; exact h1, by rw [upd_ne n2]; exact h2, h3⟩
theorem Gr.keep {H H' : Hp} {b : Addr} {o : HO} (g : Gr H H') (e : H b = some o) (n : ∀ ps, o ≠ .tbl ps) : H' b = some o := by
  rcases g b o e with q | ⟨ps, _, z, _⟩
  · exact q
  · exact absurd z (n ps)
theorem Gr.tup {H H' : Hp} {b : Addr} {xs : List V} (g : Gr H H') (e : H b = some (.tup xs)) : H' b = some (.tup xs) := g.keep e fun _ z => nomatch z
theorem Gr.lst {H H' : Hp} {b : Addr} {xs : List V} (g : Gr H H') (e : H b = some (.lst xs)) : H' b = some (.lst xs) := g.keep e fun _ z => nomatch z
theorem Gr.free {H H' : Hp} {b : Addr} (g : Gr H H') (e : H' b = none) : H b = none := by
  cases q : H b with
  | none => rfl
  | some o =>
    rcases g b o q with z | ⟨_, _, _, z, _⟩ <;> (rw [z] at e; cases e)
theorem Gr.sqT {K : PySem.W.Frag} {H H' : Hp} {a : Addr} {xs : List V} (g : Gr H H') (h : SqT K H a xs) : SqT K H' a xs := by
  rcases h with (h | ⟨o, h⟩) | h
  · exact .inl (.inl (g.tup h))
  · exact .inl (.inr ⟨o, g.keep h fun _ z => nomatch z⟩)
  · exact .inr h
theorem Gr.sqL {K : PySem.W.Frag} {H H' : Hp} {a : Addr} {xs : List V} (g : Gr H H') (h : SqL K H a xs) : SqL K H' a xs := by
  rcases h with (h | ⟨o, h⟩) | h
  · exact .inl (.inl (g.lst h))
  · exact .inl (.inr ⟨o, g.keep h fun _ z => nomatch z⟩)
  · exact .inr h
/-- the table at P has grown, nothing else has changed -/
theorem Gr.tabbed {H H' : Hp} {P : Addr} (t : TabN H P) (h : TabbedN P H H') : Gr H H' := fun b o e => by
  by_cases hb : b = P
  · obtain ⟨⟨ps, ps', hp, hp', ht', u⟩, _⟩ := h
    rw [hb, hp] at e
    cases e
    exact .inr ⟨ps, ps', rfl, by rw [hb]; exact hp', fun _ => ht', u⟩
  · exact .inl (h.2 b o hb e)
theorem Gr.tabbedG {H H' : Hp} {P : Addr} (h : TabbedN P H H') : Gr H H' := fun b o e => by
  by_cases hb : b = P
  · obtain ⟨⟨ps, ps', hp, hp', ht', u⟩, _⟩ := h
    rw [hb, hp] at e
    cases e
    exact .inr ⟨ps, ps', rfl, by rw [hb]; exact hp', fun _ => ht', u⟩
  · exact .inl (h.2 b o hb e)
/-- the tables are well -/
def Tabs (ts : List Addr) (H : Hp) : Prop := ∀ P ∈ ts, TabN H P
theorem Tabs.gr {ts : List Addr} {H H' : Hp} (t : Tabs ts H) (g : Gr H H') : Tabs ts H' := fun P hP => by
  obtain ⟨ps, hp, ht, hg⟩ := t P hP
  rcases g P _ hp with q | ⟨qs, qs', e, q, z, u⟩
  · exact ⟨ps, q, ht, fun pos cv e => goodC_gr g (hg pos cv e)⟩
  · cases e
    refine ⟨qs', q, z ht, fun pos cv e => ?_⟩
    rcases u pos cv e with e | e
    · exact goodC_gr g (hg pos cv e)
    · exact e
mutual
theorem dp_gr {K : PySem.W.Frag} {H H' : Hp} (g : Gr H H') : ∀ {d : PyData} {v : V}, Dp K H v d → Dp K H' v d
  | .none, _, h => by cases h; exact .non
  | .bool b, _, h => by cases h; exact .bl b
  | .int i, _, h => by cases h; exact .int i
  | .str x, _, h => by cases h; exact .str x
  | .list ds, _, h => by
    cases h with
    | lst s a => exact .lst (g.sqL s) (dpAll_gr g a)
  | .tuple ds, _, h => by
    cases h with
    | tup s a => exact .tup (g.sqT s) (dpAll_gr g a)
  | .dict _, _, h => by cases h
theorem dpAll_gr {K : PySem.W.Frag} {H H' : Hp} (g : Gr H H') : ∀ {ds : List PyData} {vs : List V}, DpAll K H vs ds → DpAll K H' vs ds
  | [], _, h => by cases h; exact .nil
  | d :: ds, _, h => by
    cases h with
    | cons a b => exact .cons (dp_gr g a) (dpAll_gr g b)
end

/-! ### a def, its promise -/
/-- the def st stands under the module's name x; cd: its code object -/
def DefAt (c : Ct) (x : Str) (st : Stmt) (kws : List (Str × V)) (f : Addr) (fd : FuncData) (cd : Addr) : Prop :=
  (∃ (oc : Value) (od : Option Addr) (dV kV doc pm : Value) (an : Option Addr) (ct : Value) (osl : Array (Option Value)),
    fd = PySem.W.fnOf x x (defArgs st) (defBody st) (defScope st) dV kV doc pm an (.ref cd) ct ∧ c.K.lookup f = some ⟨oc, od, .func fd, osl⟩ ∧ PySem.W.codeIn c.K (.ref cd) x = true ∧ DflV c.K dV [] ∧ KwdV c.K kV kws) ∧
  PySem.W.keepIn c.K (.ref f) = true ∧ c.mg x = some (.ref f)
/-- .. without defaults -/
def Df (c : Ct) (x : Str) (st : Stmt) : Prop := ∃ f fd cd, DefAt c x st [] f fd cd
/-- .. with its code object's table -/
def Tf (c : Ct) (x : Str) (st : Stmt) : Prop := ∃ f fd cd tb, DefAt c x st [] f fd cd ∧ TabB c.base c.mg cd tb ∧ tb ∈ c.ts
theorem Tf.df {c : Ct} {x : Str} {st : Stmt} (h : Tf c x st) : Df c x st := let ⟨f, fd, cd, _, h, _⟩ := h; ⟨f, fd, cd, h⟩

/-- what the module's name x promises, at the level k -/
def Ok (c : Ct) (x : Str) (k : Nat) (ps : List Str) (sp : Sp) : Prop := ∃ f fd, FnOk c.P c.w c.K c.mg c.base CX0 k f fd ps sp ∧ c.mg x = some (.ref f) ∧ PySem.W.keepIn c.K (.ref f) = true ∧ Binds c.K fd ps []

theorem df_ok {c : Ct} {x : Str} {st : Stmt} {N ps : List Str} {k : Nat} {sp : Sp} (D : Df c x st) (S : FnScope N ps (defScope st)) (len : ∀ vs H Q E, sp vs H Q E → vs.length = ps.length)
    (hb : ∀ (kV doc pm : Value) (an : Option Addr) (cdv ct : Value) (us : List Value), us.length = ps.length → bindArgs (PySem.W.fnOf x x (defArgs st) (defBody st) (defScope st) .none kV doc pm an cdv ct) ⟨us, []⟩ = pure (ps.zip us))
    (hbody : ∀ (f cd : Addr) (A : Around) (outer : List Env) (s : Shared) (H : Hp) (vs : List V) (Q : VK) (E : XK), Room k (A.deeper (envOfC x (defScope st) s.heap.objs.size f (.ref cd))) → sp vs H Q E →
      ∃ t, PSs (cxOf CX0 c.P c.w c.K c.mg c.base N x (defScope st) f (.ref cd) A outer s H E).nox (defBody st) t ∧ t { nx := fun _ H' => Q .non H', rt := Q } (start N vs) H) : Ok c x (k + 1) ps sp := by
  obtain ⟨f, fd, cd, ⟨oc, od, dV, kV, doc, pm, an, ct, osl, rfl, lk, hcd, hD, _⟩, kp, hm⟩ := D
  have e : dV = .none := by
    rcases hD with ⟨_, e⟩ | ⟨e, _⟩
    · exact e
    · exact absurd rfl e
  subst e
  refine ⟨f, _, fn_of lk hcd S len fun A outer s H vs Q E hr hsp => ?_, hm, kp, .all (hb kV doc pm an (.ref cd) ct)⟩
  obtain ⟨t, h, q⟩ := hbody f cd A outer s H vs Q E hr hsp
  exact ⟨t, h.nox, q⟩
theorem tf_ok {c : Ct} {x : Str} {st : Stmt} {N ps : List Str} {k : Nat} {sp : Sp} (D : Tf c x st) (S : FnScope N ps (defScope st)) (len : ∀ vs H Q E, sp vs H Q E → vs.length = ps.length)
    (hb : ∀ (kV doc pm : Value) (an : Option Addr) (cdv ct : Value) (us : List Value), us.length = ps.length → bindArgs (PySem.W.fnOf x x (defArgs st) (defBody st) (defScope st) .none kV doc pm an cdv ct) ⟨us, []⟩ = pure (ps.zip us))
    (hbody : ∀ (f cd tb : Addr) (A : Around) (outer : List Env) (s : Shared) (H : Hp) (vs : List V) (Q : VK) (E : XK), TabB c.base c.mg cd tb → tb ∈ c.ts → Room k (A.deeper (envOfC x (defScope st) s.heap.objs.size f (.ref cd))) → sp vs H Q E →
      ∃ t, PSs (cxOf CX0 c.P c.w c.K c.mg c.base N x (defScope st) f (.ref cd) A outer s H E).nox (defBody st) t ∧ t { nx := fun _ H' => Q .non H', rt := Q } (start N vs) H) : Ok c x (k + 1) ps sp := by
  obtain ⟨f, fd, cd, tb, ⟨⟨oc, od, dV, kV, doc, pm, an, ct, osl, rfl, lk, hcd, hD, _⟩, kp, hm⟩, TB, hm2⟩ := D
  have e : dV = .none := by
    rcases hD with ⟨_, e⟩ | ⟨e, _⟩
    · exact e
    · exact absurd rfl e
  subst e
  refine ⟨f, _, fn_of lk hcd S len fun A outer s H vs Q E hr hsp => ?_, hm, kp, .all (hb kV doc pm an (.ref cd) ct)⟩
  obtain ⟨t, h, q⟩ := hbody f cd tb A outer s H vs Q E TB hm2 hr hsp
  exact ⟨t, h.nox, q⟩
theorem Ok.mono {c : Ct} {x : Str} {j k : Nat} {ps : List Str} {sp : Sp} (h : Ok c x j ps sp) (hjk : j ≤ k) : Ok c x k ps sp := let ⟨f, fd, F, r⟩ := h; ⟨f, fd, F.mono hjk, r⟩
theorem Ok.imp {c : Ct} {x : Str} {k : Nat} {ps : List Str} {sp sp' : Sp} (h : Ok c x k ps sp) (hi : ∀ vs H Q E, sp' vs H Q E → sp vs H Q E) : Ok c x k ps sp' := let ⟨f, fd, F, r⟩ := h; ⟨f, fd, F.imp hi, r⟩

section
variable {X : Cx} {x : Str} {k : Nat} {ps : List Str} {sp : Sp} {p pos : Pos} {e : Expr} {es : List Expr} {t : TA}
/-- x(e, ..) -/
theorem pe_f (c : Ct) (O : Ok c x k ps sp) (hr : Room k X.A) (ha : PA X (e :: es) t) (h1 : X.prog = c.P := by rfl) (h2 : X.w = c.w := by rfl) (h3 : X.K = c.K := by rfl) (h4 : X.mg = c.mg := by rfl) (h5 : X.base = c.base := by rfl)
    (hg : Gl X x := by rfl) (hdb : (x == ("__debug__" : Str)) = false := by decide) (he : starEach (e :: es) X.env = (false, eval e X.env) :: starEach es X.env := by rfl) (hpl : (backTo pos (starEach es X.env)).any (·.1) = false := by rfl) :
    PE X (.Call (.Name x p) (e :: es) [] pos) (tCall sp [] E0 t) := by
  obtain ⟨f, fd, F, hm, kp, hb⟩ := O
  refine pe_call (CX := CX0) (f := f) (fd := fd) (ps := ps) (ds := []) ?_ hr hg ?_ ?_ ?_ .nil pass0 ha hdb he hpl
  · rw [h1, h2, h3, h4, h5]; exact F
  · rw [h4]; exact hm
  · rw [h3]; exact kp
  · rw [h3]; exact hb
end
/-- the frame of a generator expression, by looking -/
theorem gok_by {N : List Str} {sc scope : Scope} {own : List (Str × Nat)} (h : blkC N sc scope own = true) (h1 : scope.isCoroutine = false := by rfl) (h3 : scope.names.lookup (".0" : Str) = some NameKind.local := by rfl) : GOk N sc scope own :=
  ⟨blkOk_by h, h1, h3⟩
end Pm
set_option maxHeartbeats 4000000
/-! len(set(xs)), xs a list of texts. -/
namespace Pm
open PySem PySem.Spec PyProof.Rows L2 GxR GX
/-- how many different ones stand among the first i; all of them, or fewer -/
def SetCount (xs : List Str) (i m : Nat) : Prop := m ≤ i ∧ (m = i ↔ (xs.take i).Nodup)
theorem setCount_step {xs : List Str} {i m : Nat} {x : Str} (hx : xs[i]? = some x) (h : SetCount xs i m) : SetCount xs (i + 1) (if decide (x ∈ xs.take i) = true then m else m + 1) := by
  obtain ⟨h1, h2⟩ := h
  have et : xs.take (i + 1) = xs.take i ++ [x] := by rw [List.take_add_one, hx]; rfl
  by_cases hm : x ∈ xs.take i
  · rw [if_pos (decide_eq_true hm)]
    refine ⟨by omega, fun e => by omega, fun nd => ?_⟩
    rw [et, List.nodup_append] at nd
    exact absurd rfl (nd.2.2 x hm x (by simp))
  · rw [if_neg (by simpa using hm)]
    refine ⟨by omega, fun e => ?_, fun nd => ?_⟩
    · rw [et, List.nodup_append]
      refine ⟨h2.mp (by omega), by simp, fun a ha b hb => ?_⟩
      rw [List.mem_singleton.mp hb]
      exact fun z => hm (z ▸ ha)
    · rw [et, List.nodup_append] at nd
      have := h2.mpr nd.1
      omega
section
variable {prog : Program} {w : World} {A : Around} {R : Result → Shared → Prop} {I : Addr} {fp wr : List Addr} {G : Array GenState → Array GenState → Prop} {n : Nat} {P : Nat → Value → Prop} {St : Nat → Shared → Prop}
theorem strs_loop (W : WalksS prog w A.in1 I fp wr G n P St) (S : Addr) (hSf : S ∉ fp) (xs : List Str) (hsz : xs.length = n) (hb : n + 1 < scanBound) (hval : ∀ i v, P i v → ∃ t, v = .str (xs.getD i Str.empty) t) :
    ∀ (k i : Nat) (s : Shared), n - i = k → i ≤ n → St i s → (∃ m, s.heap.SetOf (PySem.strKind prog w) S (fun k' => decide (k' ∈ xs.take i)) m ∧ SetCount xs i m) →
      (∀ s' m, Moved (S :: wr) G s s' → s'.heap.SetOf (PySem.strKind prog w) S (fun k' => decide (k' ∈ xs.take n)) m → SetCount xs n m → R (.ok (.ret .none)) s') →
      codeAny (model prog w) A (.builtin "set.update.loop" ⟨[.ref S, .ref I], []⟩) R s := by
  have nw : S ∉ wr := fun h => hSf (W.sub _ h)
  have sub : ∀ b ∈ wr, b ∈ S :: wr := fun b hb => List.mem_cons_of_mem _ hb
  have carry : ∀ {s s' : Shared} {T : Str → Bool} {m : Nat}, Moved wr G s s' → s.heap.SetOf (PySem.strKind prog w) S T m → s'.heap.SetOf (PySem.strKind prog w) S T m := fun hm hS => by
    obtain ⟨o, es, ep, t, ho, r⟩ := hS
    exact ⟨o, es, ep, t, hm.heap S _ nw ho, r⟩
  intro k
  induction k with
  | zero =>
    intro i s hk hi hst ⟨m, hS, hc⟩ hR
    obtain rfl : i = n := by omega
    refine codeAny_builtin PyProof.Rows.F.entry_set_update_loop ?_
    rw [Around.under_plainId PyProof.Rows.F.plain_set_update_loop _]
    show wpAny _ A.in1 (pyNext (.ref I) >>= _) _ _ s
    refine wpAny_bind (W.done s _ _ hst fun s' hm => ?_)
    exact wpAny_pure (hR s' m (hm.mono sub) (carry hm hS) hc)
  | succ k ih =>
    intro i s hk hi hst ⟨m, hS, hc⟩ hR
    have hlt : i < n := by omega
    have hxi : xs[i]? = some (xs.getD i Str.empty) := by
      rw [List.getD_eq_getElem?_getD, List.getElem?_eq_getElem (by omega)]; rfl
    refine codeAny_builtin PyProof.Rows.F.entry_set_update_loop ?_
    rw [Around.under_plainId PyProof.Rows.F.plain_set_update_loop _]
    show wpAny _ A.in1 (pyNext (.ref I) >>= _) _ _ s
    refine wpAny_bind (W.item i s _ _ hlt hst fun v s' hP hst' hm => ?_)
    obtain ⟨t, rfl⟩ := hval i v hP
    have hS1 := carry hm hS
    refine wpAny_bind (wpAny_holding ?_)
    unfold setAdd
    refine wpAny_holding (wpAny_bind ((PySem.strKind prog w).pyHash (k := xs.getD i Str.empty) (strKind_is _ _ _ _) ?_))
    refine wpAny_setAddHashed_of (knd := PySem.strKind prog w) (s := { s' with toks := s'.toks + 1 }) (strKind_is _ _ _ _) rfl hS1 (by have := hc.1; omega) fun h' hsb hS2 => ?_
    have hS3 : h'.SetOf (PySem.strKind prog w) S (fun k' => decide (k' ∈ xs.take (i + 1))) (if decide (xs.getD i Str.empty ∈ xs.take i) = true then m else m + 1) := by
      refine SetOf_congr hS2 (fun k' => ?_) rfl
      rw [List.take_add_one, hxi]
      simp
    refine wpAny_pure ⟨plainId_quiet PyProof.Rows.F.plain_set_update_loop _, ih (i + 1) _ (by omega) hlt (W.frame _ s' _ _ hst' (Nat.le_succ _) fun b hb o e => ?_) ⟨_, hS3, setCount_step hxi hc⟩ fun s'' m2 hm'' hS'' hc'' => ?_⟩
    · exact (hsb.2 b (fun z : b = S => hSf (z ▸ hb))).trans e
    · refine hR s'' m2 (Moved.trans W.gtrans ((hm.mono sub).then_heap (Nat.le_succ _) fun b o hb e => ?_) hm'') hS'' hc''
      exact (hsb.2 b (fun z : b = S => hb (z ▸ List.mem_cons_self))).trans e
end
section
variable {prog : Program} {w : World} {A : Around} {E : Value → Shared → Prop} {s : Shared}
abbrev newSet (led : Bool) : Obj := { cls := .type "set", dict := none, data := .set #[] 0 (.fresh 0 0 led) }
theorem set_of_strs {l : Addr} {items : Array Value} {xs : List Str} {Q : Value → Shared → Prop} (hh : A.handled = none) (hl : s.heap.IsList l items) (hi : PyProof.Rows.StrsAre items.toList xs) (hb : xs.length + 1 < scanBound)
    (h : ∀ (h' : Heap) (tk m : Nat), h'.SetOf (PySem.strKind prog w) s.heap.objs.size (fun k' => decide (k' ∈ xs)) m → SetCount xs xs.length m →
      (∀ b o, b < s.heap.objs.size → s.heap.get? b = some o → h'.get? b = some o) → Q (.ref s.heap.objs.size) { s with heap := h', toks := tk }) :
    wpAny (model prog w) A (call (.type "set") [.ref l]) Q E s := by
  have hsz : xs.length = items.size := by rw [← StrsAre.len_eq hi, Array.length_toList]
  obtain ⟨cc, tl, hmro⟩ := PySem.F.called_set.mro
  have hmade := PySem.F.called_set.made
  have hsub := PySem.F.called_set.sub
  refine wpAny_call (codeAny_of_tree ?_)
  show wpAny _ _ (callAny (.type "set") _) _ _ _
  refine wpAny_pure ⟨Code.quiet_builtin _ (by decide +kernel), codeAny_builtin PySem.F.entry_type_call ?_⟩
  rw [Around.under_plain (weight_type_call_type "set" [.ref l] []) rfl]
  have h1 := PySem.F.called_set.notType
  have h2 := PySem.F.called_set.canCreate
  have hct := PySem.F.typeCall_set_1 (.ref l)
  repeat (any_goals (first | assumption | wp_step))
  refine codeAny_mono (code_set_new_1 (.ref l) (E := E) (Q₁ := fun obj s₁ => ∃ led : Bool, obj = .ref s.heap.objs.size ∧ s₁ = { s with heap := s.heap.push (newSet led) }) fun led => ⟨led, rfl, rfl⟩) fun r s₁ hr => ?_
  cases r with
  | error e => exact hr
  | ok fl =>
  cases fl with
  | next => exact hr.elim
  | brk => exact hr.elim
  | cont => exact hr.elim
  | ret obj =>
    obtain ⟨led, rfl, rfl⟩ := hr
    have hS : (s.heap.push (newSet led)).get? s.heap.objs.size = some (newSet led) := Heap.get?_push_size _ rfl
    have hT : Shared.TypeIs { s with heap := s.heap.push (newSet led) } (.ref s.heap.objs.size) "set" := ⟨_, hS, rfl⟩
    have hli := PySem.F.called_set.init.lookup
    have hbi := PySem.F.called_set.init.bind (.ref s.heap.objs.size)
    repeat (any_goals (first | assumption | wp_step))
    refine codeAny_mono (codeAny_call_builtin (R := wants (fun r s₂ => r = .none ∧ ∃ h' tk m, s₂ = { s with heap := h', toks := tk } ∧ h'.SetOf (PySem.strKind prog w) s.heap.objs.size (fun k' => decide (k' ∈ xs)) m ∧ SetCount xs xs.length m ∧
        (∀ b o, b < s.heap.objs.size → s.heap.get? b = some o → h'.get? b = some o)) E) PySem.F.called_set.init.plain PySem.F.entry_set_init (check_set_init_1 hT ?_)) fun r₂ s₂ hr₂ => ?_
    · obtain ⟨ol, hol, hcl, nl, hdl⟩ := hl
      obtain ⟨ocls, odict, odata, oslots⟩ := ol
      simp only at hcl hdl
      subst hcl hdl
      have hol' := Heap.get?_push_of_some (newSet led) hol
      have hsls := PySem.F.sub_list_set
      have hslf := PySem.F.sub_list_frozenset
      have hne : (Value.type "list" == Value.type "dict") = false := by decide
      have hl1 : (s.heap.push (newSet led)).IsList l items := ⟨_, hol', rfl, nl, rfl⟩
      unfold Builtin.«set.__init__» noKeywords Builtin.Frozenset.updateFrom
      generalize hPI : pyIter = PI
      wp_walk
      subst hPI
      refine wpAny_pyIter_list hl1 (wpAny_bind (wpAny_runValue ?_))
      have hlS : l < s.heap.objs.size := Heap.lt_size hol
      have hz : (s.heap.push (newSet led)).objs.size = s.heap.objs.size + 1 := Heap.size_push ..
      have hneI : l ≠ (s.heap.push (newSet led)).objs.size := by rw [hz]; exact Nat.ne_of_lt (Nat.lt_succ_of_lt hlS)
      have hSf : s.heap.objs.size ∉ [(s.heap.push (newSet led)).objs.size, l] := by
        rw [hz]
        simp only [List.mem_cons, List.not_mem_nil, or_false, not_or]
        exact ⟨Nat.ne_of_lt (Nat.lt_succ_self _), Nat.ne_of_gt hlS⟩
      refine strs_loop ((Walks.list (by simp [hh]) _ l hneI items).toS) s.heap.objs.size hSf xs hsz (by omega) (fun i v hv => SS.strs_at hi i v (by rw [Array.getElem?_toList]; exact hv)) (items.size - 0) 0 _ (by omega) (Nat.zero_le _)
        ⟨⟨_, Heap.get?_push_size _ rfl, rfl, rfl⟩, hl1.push _⟩ ⟨0, ?_, Nat.le_refl _, fun _ => List.nodup_nil, fun _ => rfl⟩ fun s' m hm hS' hc => ?_
      · have hget := Heap.get?_push_of_some { cls := .type "list_iterator", data := .fields #[.ref l, .int 0 0] } hS
        exact PyProof.Rows.SetOf_congr ((PyProof.Rows.setObjOf_fresh (knd := PySem.strKind prog w) led).setOf hget (by unfold scanBound; omega)) (fun _ => by simp) rfl
      · obtain ⟨h', g', d', tk', os'⟩ := s'
        obtain rfl : g' = s.gens := hm.gens
        obtain rfl : d' = s.drawn := hm.drawn
        obtain rfl : os' = s.os := hm.os
        rw [List.take_of_length_le (Nat.le_of_eq hsz)] at hS'
        rw [← hsz] at hc
        refine wpAny_pure (wpAny_pure ⟨rfl, h', tk', m, rfl, hS', hc, fun b o hb e => ?_⟩)
        refine hm.heap b o ?_ (Heap.get?_push_of_some _ (Heap.get?_push_of_some _ e))
        rw [hz]
        simp only [List.mem_cons, List.not_mem_nil, or_false, not_or]
        exact ⟨Nat.ne_of_lt hb, Nat.ne_of_lt (Nat.lt_succ_of_lt hb)⟩
    · cases r₂ with
      | error e => exact hr₂
      | ok fl₂ =>
        cases fl₂ with
        | ret r =>
          obtain ⟨rfl, h', tk, m, rfl, hS', hc, hk'⟩ := hr₂
          repeat (any_goals (first | assumption | wp_step))
          exact h _ _ _ hS' hc hk'
        | next => exact hr₂.elim
        | brk => exact hr₂.elim
        | cont => exact hr₂.elim
end
/-- len(set(xs)): m, all of them if they differ, else fewer -/
def tLenSetS (K : PySem.W.Frag) (ta : TE) : TE := fun σ H Q => ta σ H fun x H1 => ∃ (l : Addr) (xs : List Str), x = .ref l ∧ SqL K H1 l (xs.map V.str) ∧ xs.length ≤ 4000 ∧ ∀ m : Nat, m ≤ xs.length → (m = xs.length ↔ xs.Nodup) → Q (.int m) H1
theorem pe_lenSetS {X : Cx} {a : Expr} {ta : TE} {p p2 q pos : Pos} (hc : X.calm = true) (hm : X.mg "len" = none) (hm2 : X.mg "set" = none) (ha : PE X a ta) (hg : Gl X "len" := by rfl) (hg2 : Gl X "set" := by rfl)
    (na : starEach [a] X.env = (false, eval a X.env) :: starEach [] X.env := by rfl) : PE X (.Call (.Name "len" p) [.Call (.Name "set" p2) [a] [] q] [] pos) (tLenSetS X.K ta) := by
  refine ⟨fun pins s σ H Q I h => ?_⟩
  refine Call_ (ld_blt I hg hm boot_len (PyProof.Rows.callWith_builtin1 (PyProof.Rows.args_cons (Call_ (ld_blt I hg2 hm2 boot_set ?_)) rfl) rfl rfl))
  refine PyProof.Rows.callWith_type1 (PyProof.Rows.args_cons (thn (ha.run pins s σ H _ I h) fun v s1 ⟨x, H1, I1, r1, q1⟩ => PyProof.Rows.args_nil ?_) na) na rfl
  obtain ⟨l, xs, rfl, hq, hl, q1⟩ := q1
  cases r1
  obtain ⟨its, r, pl, hz⟩ := I1.list hq
  refine set_of_strs (xs := xs) (I1.ok.hd hc) pl.isList (by simpa using strsAre_of r) (by unfold scanBound; omega) fun h' tk m hS hcn hk => ?_
  refine PyProof.Rows.args_nil ?_
  obtain ⟨o, es, ep, t, ho, hex, hd, _, _, _, hf, hn⟩ := hS
  have I2 : Inv X pins σ H1 { s1 with heap := h', toks := tk } := I1.kept fun b o e => hk b o (Heap.lt_size e) e
  have hml := hcn.1
  have hcn2 := hcn.2
  rw [List.take_length] at hcn2
  exact call_len_set ho hex hd hf (by rw [hn]; omega) ⟨.int m, H1, I2.tok _, ⟨_, by rw [hn]⟩, q1 m hml hcn2⟩
end Pm
set_option maxHeartbeats 4000000
/-! sorted(set(texts)): a set of texts with all that its walk asks for. -/
namespace Pm
open PySem PySem.Spec PyProof.Rows L2 GxR GX
def skey (e : Int × Value) : Str := match e.2 with | .str k _ => k | _ => Str.empty
def SGood (P : Program) (w : World) (e : Int × Value) : Prop := ∃ k tk, e.2 = Value.str k tk ∧ e.1 = (PySem.strKind P w).hash k
/-- the set at a: its texts are those of L, in some order -/
def SSet (P : Program) (w : World) (h : Heap) (a : Addr) (L : List Str) : Prop :=
  ∃ o es ep t, h.get? a = some o ∧ o.ExactSet ∧ o.data = .set es ep t ∧ (∀ e ∈ es.toList, SGood P w e) ∧ (es.toList.map skey).Perm L ∧ L.Nodup ∧ es.size < scanBound ∧ t.fits es.size = true ∧ Ris t.place.toList ∧ (w.params.followText "set-order" = true ∨ t.led = true)
section
variable {P : Program} {w : World} {h h' : Heap} {a : Addr} {L : List Str}
theorem SSet.keep (R : SSet P w h a L) (k : ∀ o, h.get? a = some o → h'.get? a = some o) : SSet P w h' a L := let ⟨o, es, ep, t, ho, r⟩ := R; ⟨o, es, ep, t, k o ho, r⟩
theorem sgood_elems {l : List (Int × Value)} (g : ∀ e ∈ l, SGood P w e) : ElemsOf (PySem.strKind P w) l := fun e he => by
  obtain ⟨k, tk, h1, h2⟩ := g e he
  exact ⟨⟨k, by rw [h1]; exact strKind_is _ _ _ _, h2⟩, by rw [h1]; rfl⟩
theorem sgood_is {e : Int × Value} (g : SGood P w e) (k : Str) : (PySem.strKind P w).is k e.2 = true ↔ skey e = k := by
  obtain ⟨j, tk, h1, _⟩ := g
  unfold skey
  rw [h1]
  constructor
  · intro z
    first
      | exact of_decide_eq_true z
      | exact eq_of_beq z
      | (have z2 : (j == k) = true := z; exact eq_of_beq z2)
      | (have z2 : (k == j) = true := z; exact (eq_of_beq z2).symm)
  · rintro rfl
    exact strKind_is _ _ _ _
theorem sgood_mem {l : List (Int × Value)} (g : ∀ e ∈ l, SGood P w e) (k : Str) : k ∈ l.map skey ↔ ∃ e ∈ l, (PySem.strKind P w).is k e.2 = true := by
  rw [List.mem_map]
  constructor
  · rintro ⟨e, he, q⟩
    exact ⟨e, he, (sgood_is (g e he) k).mpr q⟩
  · rintro ⟨e, he, q⟩
    exact ⟨e, he, (sgood_is (g e he) k).mp q⟩
end
section
variable {P : Program} {w : World} {A : Around} {E : Value → Shared → Prop} {s : Shared} {a : Addr} {L : List Str}
/-- the new one is laid: what is left to do -/
theorem sset_tail {g : Bool → Sem Unit} (hg : ∀ (b : Bool) (s₁ : Shared) (Q' : Unit → Shared → Prop), Q' () s₁ → wpAny (model P w) A (g b) Q' E s₁) {o : Obj} {es : Array (Int × Value)} {ep : Nat} {t : SetTable} (at_ : s.heap.get? a = some o) (ex_ : o.ExactSet) (da_ : o.data = .set es ep t)
    {es1 : Array (Int × Value)} {t2 : SetTable} (g1 : ∀ e ∈ es1.toList, SGood P w e) (p1 : (es1.toList.map skey).Perm L) (nd1 : L.Nodup) (b1 : es1.size < scanBound) (f2 : t2.fits es1.size = true) (r2 : Ris t2.place.toList) (l2 : w.params.followText "set-order" = true ∨ t2.led = true) {wasDummy : Bool} {R : Option Bool → Shared → Prop}
    (hR : ∀ h', Heap.SameBut a s.heap h' → SSet P w h' a L → R (some true) { s with heap := h' }) :
    wpAny (model P w) A (do
        storeSet a es1 t2
        if (!wasDummy && t2.tooFull) = true then do
            g (relayAll t2 es1 (SetTable.grown es1.size)).2.2
            storeSet a (relayAll t2 es1 (SetTable.grown es1.size)).1 (relayAll t2 es1 (SetTable.grown es1.size)).2.1
            pure (some true)
          else pure (some true)) R E s := by
  refine wpAny_bind (wpAny_storeSet_of at_ da_ ?_ (fits_of_scanBound b1))
  have at1 := store_at (es' := es1) (t' := t2) at_ da_
  have same1 := Heap.SameBut.update s.heap a (Obj.putSet es1 t2)
  split
  · have pm := relayAll_perm t2 es1 (SetTable.grown es1.size)
    have f3 := relayAll_fits t2 es1 (SetTable.grown es1.size)
    have r3 := relayAll_ris t2 es1 (SetTable.grown es1.size)
    have l3 := relayAll_led t2 es1 (SetTable.grown es1.size)
    generalize relayAll t2 es1 (SetTable.grown es1.size) = Z at pm f3 r3 l3 ⊢
    obtain ⟨es2, t3, gave⟩ := Z
    dsimp only at pm f3 r3 l3 ⊢
    have sz2 : es2.size = es1.size := by rw [← Array.length_toList, pm.length_eq, Array.length_toList]
    have b2 : es2.size < scanBound := by rw [sz2]; exact b1
    refine wpAny_bind (hg _ _ _ ?_)
    refine wpAny_bind (wpAny_storeSet_of at1 rfl ?_ (fits_of_scanBound b2))
    have at2 := store_at (es' := es2) (t' := t3) at1 rfl
    exact wpAny_pure (hR _ (same1.trans (Heap.SameBut.update _ a _)) ⟨_, es2, _, t3, at2, ex_, rfl, fun e he => g1 e (pm.mem_iff.mp he), (pm.map skey).trans p1, nd1, b2, f3, r3, l2.imp id fun z => by rw [l3]; exact z⟩)
  · exact wpAny_pure (hR _ same1 ⟨_, es1, _, t2, at1, ex_, rfl, g1, p1, nd1, b1, f2, r2, l2⟩)
theorem sset_add {k : Str} {tk : Tok} {Q : Bool → Shared → Prop} (R : SSet P w s.heap a L) (room : L.length + 1 < scanBound)
    (hQ : ∀ h', Heap.SameBut a s.heap h' → SSet P w h' a (if k ∈ L then L else L ++ [k]) → Q (!decide (k ∈ L)) { s with heap := h' }) :
    wpAny (model P w) A (setAddHashed a (.str k tk) ((PySem.strKind P w).hash k)) Q E s := by
  obtain ⟨o, es, ep, t, at_, ex_, da_, g, pl, nd, hb, hf, hr, hl⟩ := R
  have isk : (PySem.strKind P w).is k (.str k tk) = true := strKind_is P w k tk
  have scan : (Value.str k tk).scannable = true := rfl
  have els : ElemsOf (PySem.strKind P w) es.toList := sgood_elems g
  have szL : es.size = L.length := by rw [← pl.length_eq, List.length_map, Array.length_toList]
  unfold setAddHashed setAddHashedIn
  refine wpAny_holding (wpAny_bind (wpAny_setState_of at_ da_ hf ?_))
  dsimp only
  rw [byScan_of scan hb els]
  simp only [↓reduceIte]
  unfold setAddByScan
  refine wpAny_bind ?_
  refine wpAny_bind (wpAny_rule ?_)
  refine wpAny_bind (wpAny_setScan_of isk at_ da_ hf els ?_)
  cases fi : List.findIdx? (fun e => (PySem.strKind P w).is k e.2) es.toList with
  | some j =>
    dsimp only
    obtain ⟨hj, pj, _⟩ := List.findIdx?_eq_some_iff_getElem.mp fi
    have kin : k ∈ L := pl.mem_iff.mp ((sgood_mem g k).2 ⟨es.toList[j], List.getElem_mem hj, pj⟩)
    refine wpAny_pure (wpAny_pure ?_)
    have q := hQ s.heap (Heap.SameBut.refl a s.heap) (by rw [if_pos kin]; exact ⟨o, es, ep, t, at_, ex_, da_, g, pl, nd, hb, hf, hr, hl⟩)
    rw [decide_eq_true kin] at q
    exact q
  | none =>
    dsimp only
    have kout : k ∉ es.toList.map skey := fun z => by
      obtain ⟨e, he, q⟩ := (sgood_mem g k).1 z
      have c := List.findIdx?_eq_none_iff.mp fi e he
      rw [q] at c
      cases c
    have kL : k ∉ L := fun z => kout (pl.mem_iff.mpr z)
    have way : ∀ (b : Bool) {s₁ : Shared} {Q' : Unit → Shared → Prop}, Q' () s₁ → wpAny (model P w) A (match b with | true => rule "set.scan.the-table-gave-way" | false => pure ()) Q' E s₁ :=
      fun b s₁ Q' q => by cases b <;> first | exact wpAny_pure q | exact wpAny_rule q
    have pm := layNew_perm t es ((PySem.strKind P w).hash k) (.str k tk)
    have f1 := layNew_fits t es ((PySem.strKind P w).hash k) (.str k tk)
    have r1 := layNew_ris t es ((PySem.strKind P w).hash k) (.str k tk) hr
    have l1 := layNew_led t es ((PySem.strKind P w).hash k) (.str k tk)
    generalize layNew t es ((PySem.strKind P w).hash k) (.str k tk) = Z at pm f1 r1 l1 ⊢
    obtain ⟨es1, t1, wasDummy, gave⟩ := Z
    dsimp only at pm f1 r1 l1 ⊢
    rw [Array.toList_push] at pm
    have pk : (es1.toList.map skey).Perm (L ++ [k]) := by
      have q := pm.map skey
      rw [List.map_append] at q
      exact q.trans (pl.append_right [k])
    have g1 : ∀ e ∈ es1.toList, SGood P w e := fun e he => by
      rcases List.mem_append.mp (pm.mem_iff.mp he) with z | z
      · exact g e z
      · rw [List.mem_singleton.mp z]; exact ⟨k, tk, rfl, rfl⟩
    have nd1 : (L ++ [k]).Nodup := by
      rw [List.nodup_append]
      refine ⟨nd, by simp, fun x hx y hy => ?_⟩
      rw [List.mem_singleton.mp hy]
      exact fun z => kL (z ▸ hx)
    have sz1 : es1.size = L.length + 1 := by rw [← Array.length_toList, pm.length_eq, List.length_append, Array.length_toList, szL]; rfl
    have b1 : es1.size < scanBound := by rw [sz1]; exact room
    have led : w.params.followText "set-order" = true ∨ t1.led = true := hl.imp id fun z => by rw [l1]; exact z
    have fin : ∀ h', Heap.SameBut a s.heap h' → SSet P w h' a (L ++ [k]) → Q true { s with heap := h' } := fun h' sb r => by
      have q := hQ h' sb (by rw [if_neg kL]; exact r)
      rw [decide_eq_false kL] at q
      exact q
    refine wpAny_bind (way _ ?_)
    split
    · refine wpAny_bind ?_
      rw [hashByValue_scannable 8 scan]
      refine wpAny_pure ?_
      refine sset_tail ?_ at_ ex_ da_ g1 pk nd1 b1 ?_ ?_ ?_ ?_
      · intro b s₁ Q' q; cases b <;> first | exact wpAny_pure q | exact wpAny_rule q
      · first | (split <;> first | exact f1 | exact SetTable.fits_plain_off f1) | exact f1
      · first | (split <;> exact r1) | exact r1
      · first | (split <;> exact led) | exact led
      · intro h' sb r; dsimp only; exact wpAny_pure (fin h' sb r)
    · refine wpAny_bind (wpAny_pure ?_)
      simp only [↓reduceIte]
      refine sset_tail ?_ at_ ex_ da_ g1 pk nd1 b1 f1 r1 led ?_
      · intro b s₁ Q' q; cases b <;> first | exact wpAny_pure q | exact wpAny_rule q
      · intro h' sb r; dsimp only; exact wpAny_pure (fin h' sb r)
end

/-! ### set(xs) of texts -/
def addS (L : List Str) (k : Str) : List Str := if k ∈ L then L else L ++ [k]
def ddS (xs : List Str) : List Str := xs.foldl addS []
theorem ddS_snoc (xs : List Str) (k : Str) : ddS (xs ++ [k]) = addS (ddS xs) k := by unfold ddS; rw [List.foldl_append]; rfl
theorem ddS_mem (xs : List Str) (k : Str) : k ∈ ddS xs ↔ k ∈ xs := by
  have gen : ∀ (xs L : List Str), k ∈ xs.foldl addS L ↔ k ∈ L ∨ k ∈ xs := by
    intro xs
    induction xs with
    | nil => intro L; simp
    | cons x r ih =>
      intro L
      rw [List.foldl_cons, ih, List.mem_cons]
      unfold addS
      by_cases hx : x ∈ L
      · rw [if_pos hx]
        constructor
        · rintro (h | h)
          · exact .inl h
          · exact .inr (.inr h)
        · rintro (h | rfl | h)
          · exact .inl h
          · exact .inl hx
          · exact .inr h
      · rw [if_neg hx, List.mem_append, List.mem_singleton, or_assoc]
  have := gen xs []
  simpa [ddS] using this
theorem ddS_length (xs : List Str) : (ddS xs).length ≤ xs.length := by
  have gen : ∀ (xs L : List Str), (xs.foldl addS L).length ≤ L.length + xs.length := by
    intro xs
    induction xs with
    | nil => intro L; simp
    | cons x r ih =>
      intro L
      rw [List.foldl_cons]
      have h1 := ih (addS L x)
      have h2 : (addS L x).length ≤ L.length + 1 := by
        unfold addS
        split
        · omega
        · rw [List.length_append]; exact Nat.le_refl _
      rw [List.length_cons]
      omega
  have := gen xs []
  simpa [ddS] using this
abbrev nSet (w : World) : Obj := { cls := .type "set", dict := none, data := .set #[] 0 (.fresh 0 0 (!w.params.followText "set-order")) }
theorem sset_new {h : Heap} (P : Program) (w : World) : SSet P w (h.push (nSet w)) h.objs.size [] :=
  ⟨_, #[], 0, _, Heap.get?_push_size _ rfl, ⟨rfl, rfl, rfl⟩, rfl, (fun e he => by simp at he), .refl _, List.nodup_nil, (by decide), (by rfl), List.Pairwise.nil, by
    show _ ∨ (!w.params.followText "set-order") = true
    cases w.params.followText "set-order"
    · exact .inr rfl
    · exact .inl rfl⟩
section
variable {prog : Program} {w : World} {A : Around} {R : Result → Shared → Prop} {I : Addr} {fp wr : List Addr} {G : Array GenState → Array GenState → Prop} {n : Nat} {P : Nat → Value → Prop} {St : Nat → Shared → Prop}
theorem sset_loop (W : WalksS prog w A.in1 I fp wr G n P St) (S : Addr) (offS : S ∉ fp) (xs : List Str) (szs : xs.length = n) (few : n + 1 < scanBound) (hval : ∀ i v, P i v → ∃ t, v = .str (xs.getD i Str.empty) t) :
    ∀ (k i : Nat) (s : Shared), n - i = k → i ≤ n → St i s → SSet prog w s.heap S (ddS (xs.take i)) →
      (∀ s', Moved (S :: wr) G s s' → SSet prog w s'.heap S (ddS (xs.take n)) → R (.ok (.ret .none)) s') →
      codeAny (model prog w) A (.builtin "set.update.loop" ⟨[.ref S, .ref I], []⟩) R s := by
  have nw : S ∉ wr := fun h => offS (W.sub _ h)
  have sub : ∀ b ∈ wr, b ∈ S :: wr := fun b hb => List.mem_cons_of_mem _ hb
  have carry : ∀ {s s' : Shared} {L : List Str}, Moved wr G s s' → SSet prog w s.heap S L → SSet prog w s'.heap S L := fun hm hS => hS.keep fun o e => hm.heap S _ nw e
  intro k
  induction k with
  | zero =>
    intro i s hk hi hst hS hR
    obtain rfl : i = n := by omega
    refine codeAny_builtin PyProof.Rows.F.entry_set_update_loop ?_
    rw [Around.under_plainId PyProof.Rows.F.plain_set_update_loop _]
    show wpAny _ A.in1 (pyNext (.ref I) >>= _) _ _ s
    refine wpAny_bind (W.done s _ _ hst fun s' hm => ?_)
    exact wpAny_pure (hR s' (hm.mono sub) (carry hm hS))
  | succ k ih =>
    intro i s hk hi hst hS hR
    have hlt : i < n := by omega
    have hxi : xs[i]? = some (xs.getD i Str.empty) := by
      rw [List.getD_eq_getElem?_getD, List.getElem?_eq_getElem (by omega)]; rfl
    refine codeAny_builtin PyProof.Rows.F.entry_set_update_loop ?_
    rw [Around.under_plainId PyProof.Rows.F.plain_set_update_loop _]
    show wpAny _ A.in1 (pyNext (.ref I) >>= _) _ _ s
    refine wpAny_bind (W.item i s _ _ hlt hst fun v s' hP hst' hm => ?_)
    obtain ⟨t, rfl⟩ := hval i v hP
    have hS1 := carry hm hS
    refine wpAny_bind (wpAny_holding ?_)
    unfold setAdd
    refine wpAny_holding (wpAny_bind ((PySem.strKind prog w).pyHash (k := xs.getD i Str.empty) (strKind_is _ _ _ _) ?_))
    refine sset_add (s := { s' with toks := s'.toks + 1 }) hS1 (by have h1 := ddS_length (xs.take i); rw [List.length_take] at h1; omega) fun h' hsb hS2 => ?_
    have hS3 : SSet prog w h' S (ddS (xs.take (i + 1))) := by
      have e : xs.take (i + 1) = xs.take i ++ [xs.getD i Str.empty] := by rw [List.take_add_one, hxi]; rfl
      rw [e, ddS_snoc]
      exact hS2
    refine wpAny_pure ⟨plainId_quiet PyProof.Rows.F.plain_set_update_loop _, ih (i + 1) _ (by omega) hlt (W.frame _ s' _ _ hst' (Nat.le_succ _) fun b hb o e => ?_) hS3 fun s'' hm'' hS'' => ?_⟩
    · exact (hsb.2 b (fun z : b = S => offS (z ▸ hb))).trans e
    · refine hR s'' (Moved.trans W.gtrans ((hm.mono sub).then_heap (Nat.le_succ _) fun b o hb e => ?_) hm'') hS''
      exact (hsb.2 b (fun z : b = S => hb (z ▸ List.mem_cons_self))).trans e
end
section
variable {P : Program} {w : World} {A : Around} {E : Value → Shared → Prop} {s : Shared}

theorem set_strs_list {l : Addr} {items : Array Value} {xs : List Str} {Q : Value → Shared → Prop} (calm : A.handled = none) (hl : s.heap.IsList l items) (hi : PyProof.Rows.StrsAre items.toList xs) (few : xs.length + 1 < scanBound)
    (h : ∀ (h' : Heap) (tk : Nat), SSet P w h' s.heap.objs.size (ddS xs) → (∀ b o, b < s.heap.objs.size → s.heap.get? b = some o → h'.get? b = some o) → Q (.ref s.heap.objs.size) { s with heap := h', toks := tk }) :
    wpAny (model P w) A (call (.type "set") [.ref l]) Q E s := by
  have szs : xs.length = items.size := by rw [← StrsAre.len_eq hi, Array.length_toList]
  obtain ⟨cc, tl, mroS⟩ := PySem.F.called_set.mro
  have madeS := PySem.F.called_set.made
  have subS := PySem.F.called_set.sub
  refine wpAny_call (codeAny_of_tree ?_)
  show wpAny _ _ (callAny (.type "set") _) _ _ _
  refine wpAny_pure ⟨Code.quiet_builtin _ (by decide +kernel), codeAny_builtin PySem.F.entry_type_call ?_⟩
  rw [Around.under_plain (weight_type_call_type "set" [.ref l] []) rfl]
  have n1 := PySem.F.called_set.notType
  have n2 := PySem.F.called_set.canCreate
  have n3 := PySem.F.typeCall_set_1 (.ref l)
  repeat (any_goals (first | assumption | wp_step))
  refine codeAny_mono (code_set_led1 (.ref l) (E := E) (Q₁ := fun obj s₁ => obj = .ref s.heap.objs.size ∧ s₁ = { s with heap := s.heap.push (nSet w) }) ⟨rfl, rfl⟩) fun r s₁ hr => ?_
  cases r with
  | error e => exact hr
  | ok fl =>
  cases fl with
  | next => exact hr.elim
  | brk => exact hr.elim
  | cont => exact hr.elim
  | ret obj =>
    obtain ⟨rfl, rfl⟩ := hr
    have atS : (s.heap.push (nSet w)).get? s.heap.objs.size = some (nSet w) := Heap.get?_push_size _ rfl
    have tyS : Shared.TypeIs { s with heap := s.heap.push (nSet w) } (.ref s.heap.objs.size) "set" := ⟨_, atS, rfl⟩
    have i1 := PySem.F.called_set.init.lookup
    have i2 := PySem.F.called_set.init.bind (.ref s.heap.objs.size)
    repeat (any_goals (first | assumption | wp_step))
    refine codeAny_mono (codeAny_call_builtin (R := wants (fun r s₂ => r = .none ∧ ∃ h' tk, s₂ = { s with heap := h', toks := tk } ∧ SSet P w h' s.heap.objs.size (ddS xs) ∧
        (∀ b o, b < s.heap.objs.size → s.heap.get? b = some o → h'.get? b = some o)) E) PySem.F.called_set.init.plain PySem.F.entry_set_init (check_set_init_1 tyS ?_)) fun r₂ s₂ hr₂ => ?_
    · obtain ⟨ol, hol, hcl, nl, hdl⟩ := hl
      obtain ⟨ocls, odict, odata, oslots⟩ := ol
      simp only at hcl hdl
      subst hcl hdl
      have hol2 := Heap.get?_push_of_some (nSet w) hol
      have k1 := PySem.F.sub_list_set
      have k2 := PySem.F.sub_list_frozenset
      have k3 : (Value.type "list" == Value.type "dict") = false := by decide
      have hl1 : (s.heap.push (nSet w)).IsList l items := ⟨_, hol2, rfl, nl, rfl⟩
      unfold Builtin.«set.__init__» noKeywords Builtin.Frozenset.updateFrom
      generalize hPI : pyIter = PI
      wp_walk
      subst hPI
      refine wpAny_pyIter_list hl1 (wpAny_bind (wpAny_runValue ?_))
      have ltl : l < s.heap.objs.size := Heap.lt_size hol
      have hz : (s.heap.push (nSet w)).objs.size = s.heap.objs.size + 1 := Heap.size_push ..
      have neI : l ≠ (s.heap.push (nSet w)).objs.size := by rw [hz]; exact Nat.ne_of_lt (Nat.lt_succ_of_lt ltl)
      have offS : s.heap.objs.size ∉ [(s.heap.push (nSet w)).objs.size, l] := by
        rw [hz]
        simp only [List.mem_cons, List.not_mem_nil, or_false, not_or]
        exact ⟨Nat.ne_of_lt (Nat.lt_succ_self _), Nat.ne_of_gt ltl⟩
      refine sset_loop ((Walks.list (by simp [calm]) _ l neI items).toS) s.heap.objs.size offS xs szs (by omega) (fun i v hv => SS.strs_at hi i v (by rw [Array.getElem?_toList]; exact hv)) (items.size - 0) 0 _ (by omega) (Nat.zero_le _)
        ⟨⟨_, Heap.get?_push_size _ rfl, rfl, rfl⟩, hl1.push _⟩ ?_ fun s' hm hS' => ?_
      · exact (sset_new P w).keep fun o e => Heap.get?_push_of_some _ e
      · obtain ⟨h', g', d', tk', os'⟩ := s'
        obtain rfl : g' = s.gens := hm.gens
        obtain rfl : d' = s.drawn := hm.drawn
        obtain rfl : os' = s.os := hm.os
        rw [List.take_of_length_le (Nat.le_of_eq szs)] at hS'
        refine wpAny_pure (wpAny_pure ⟨rfl, h', tk', rfl, hS', fun b o hb e => ?_⟩)
        refine hm.heap b o ?_ (Heap.get?_push_of_some _ (Heap.get?_push_of_some _ e))
        rw [hz]
        simp only [List.mem_cons, List.not_mem_nil, or_false, not_or]
        exact ⟨Nat.ne_of_lt hb, Nat.ne_of_lt (Nat.lt_succ_of_lt hb)⟩
    · cases r₂ with
      | error e => exact hr₂
      | ok fl₂ =>
        cases fl₂ with
        | ret r =>
          obtain ⟨rfl, h', tk, rfl, hS', hk'⟩ := hr₂
          repeat (any_goals (first | assumption | wp_step))
          exact h _ _ hS' hk'
        | next => exact hr₂.elim
        | brk => exact hr₂.elim
        | cont => exact hr₂.elim

theorem set_strs_tup {l : Addr} {items : Array Value} {xs : List Str} {Q : Value → Shared → Prop} (calm : A.handled = none) (hl : s.heap.IsTuple l items) (hi : PyProof.Rows.StrsAre items.toList xs) (few : xs.length + 1 < scanBound)
    (h : ∀ (h' : Heap) (tk : Nat), SSet P w h' s.heap.objs.size (ddS xs) → (∀ b o, b < s.heap.objs.size → s.heap.get? b = some o → h'.get? b = some o) → Q (.ref s.heap.objs.size) { s with heap := h', toks := tk }) :
    wpAny (model P w) A (call (.type "set") [.ref l]) Q E s := by
  have szs : xs.length = items.size := by rw [← StrsAre.len_eq hi, Array.length_toList]
  obtain ⟨cc, tl, mroS⟩ := PySem.F.called_set.mro
  have madeS := PySem.F.called_set.made
  have subS := PySem.F.called_set.sub
  refine wpAny_call (codeAny_of_tree ?_)
  show wpAny _ _ (callAny (.type "set") _) _ _ _
  refine wpAny_pure ⟨Code.quiet_builtin _ (by decide +kernel), codeAny_builtin PySem.F.entry_type_call ?_⟩
  rw [Around.under_plain (weight_type_call_type "set" [.ref l] []) rfl]
  have n1 := PySem.F.called_set.notType
  have n2 := PySem.F.called_set.canCreate
  have n3 := PySem.F.typeCall_set_1 (.ref l)
  repeat (any_goals (first | assumption | wp_step))
  refine codeAny_mono (code_set_led1 (.ref l) (E := E) (Q₁ := fun obj s₁ => obj = .ref s.heap.objs.size ∧ s₁ = { s with heap := s.heap.push (nSet w) }) ⟨rfl, rfl⟩) fun r s₁ hr => ?_
  cases r with
  | error e => exact hr
  | ok fl =>
  cases fl with
  | next => exact hr.elim
  | brk => exact hr.elim
  | cont => exact hr.elim
  | ret obj =>
    obtain ⟨rfl, rfl⟩ := hr
    have atS : (s.heap.push (nSet w)).get? s.heap.objs.size = some (nSet w) := Heap.get?_push_size _ rfl
    have tyS : Shared.TypeIs { s with heap := s.heap.push (nSet w) } (.ref s.heap.objs.size) "set" := ⟨_, atS, rfl⟩
    have i1 := PySem.F.called_set.init.lookup
    have i2 := PySem.F.called_set.init.bind (.ref s.heap.objs.size)
    repeat (any_goals (first | assumption | wp_step))
    refine codeAny_mono (codeAny_call_builtin (R := wants (fun r s₂ => r = .none ∧ ∃ h' tk, s₂ = { s with heap := h', toks := tk } ∧ SSet P w h' s.heap.objs.size (ddS xs) ∧
        (∀ b o, b < s.heap.objs.size → s.heap.get? b = some o → h'.get? b = some o)) E) PySem.F.called_set.init.plain PySem.F.entry_set_init (check_set_init_1 tyS ?_)) fun r₂ s₂ hr₂ => ?_
    · obtain ⟨ol, hol, hcl, nl, hdl⟩ := hl
      obtain ⟨ocls, odict, odata, oslots⟩ := ol
      simp only at hcl hdl
      subst hcl hdl
      have hol2 := Heap.get?_push_of_some (nSet w) hol
      have k1 := PySem.F.sub_tuple_set
      have k2 := PySem.F.sub_tuple_frozenset
      have k3 : (Value.type "tuple" == Value.type "dict") = false := by decide
      have hl1 : (s.heap.push (nSet w)).IsTuple l items := ⟨_, hol2, rfl, nl, rfl⟩
      unfold Builtin.«set.__init__» noKeywords Builtin.Frozenset.updateFrom
      generalize hPI : pyIter = PI
      wp_walk
      subst hPI
      refine wpAny_pyIter_tuple hl1 (wpAny_bind (wpAny_runValue ?_))
      have ltl : l < s.heap.objs.size := Heap.lt_size hol
      have hz : (s.heap.push (nSet w)).objs.size = s.heap.objs.size + 1 := Heap.size_push ..
      have neI : l ≠ (s.heap.push (nSet w)).objs.size := by rw [hz]; exact Nat.ne_of_lt (Nat.lt_succ_of_lt ltl)
      have offS : s.heap.objs.size ∉ [(s.heap.push (nSet w)).objs.size, l] := by
        rw [hz]
        simp only [List.mem_cons, List.not_mem_nil, or_false, not_or]
        exact ⟨Nat.ne_of_lt (Nat.lt_succ_self _), Nat.ne_of_gt ltl⟩
      refine sset_loop ((Walks.tuple (by simp [calm]) _ l neI items).toS) s.heap.objs.size offS xs szs (by omega) (fun i v hv => SS.strs_at hi i v (by rw [Array.getElem?_toList]; exact hv)) (items.size - 0) 0 _ (by omega) (Nat.zero_le _)
        ⟨⟨_, Heap.get?_push_size _ rfl, rfl, rfl⟩, ⟨_, Heap.get?_push_of_some _ hol2, rfl, nl, rfl⟩⟩ ?_ fun s' hm hS' => ?_
      · exact (sset_new P w).keep fun o e => Heap.get?_push_of_some _ e
      · obtain ⟨h', g', d', tk', os'⟩ := s'
        obtain rfl : g' = s.gens := hm.gens
        obtain rfl : d' = s.drawn := hm.drawn
        obtain rfl : os' = s.os := hm.os
        rw [List.take_of_length_le (Nat.le_of_eq szs)] at hS'
        refine wpAny_pure (wpAny_pure ⟨rfl, h', tk', rfl, hS', fun b o hb e => ?_⟩)
        refine hm.heap b o ?_ (Heap.get?_push_of_some _ (Heap.get?_push_of_some _ e))
        rw [hz]
        simp only [List.mem_cons, List.not_mem_nil, or_false, not_or]
        exact ⟨Nat.ne_of_lt hb, Nat.ne_of_lt (Nat.lt_succ_of_lt hb)⟩
    · cases r₂ with
      | error e => exact hr₂
      | ok fl₂ =>
        cases fl₂ with
        | ret r =>
          obtain ⟨rfl, h', tk, rfl, hS', hk'⟩ := hr₂
          repeat (any_goals (first | assumption | wp_step))
          exact h _ _ hS' hk'
        | next => exact hr₂.elim
        | brk => exact hr₂.elim
        | cont => exact hr₂.elim

end
end Pm
set_option maxHeartbeats 4000000
namespace Pm
open PySem PySem.Spec PyProof.Rows L2 GxR GX
section
variable {P : Program} {w : World} {A : Around} {E : Value → Shared → Prop} {s : Shared}
theorem strs_of : ∀ (l : List Value), (∀ v ∈ l, ∃ k tk, v = Value.str k tk) → PyProof.Rows.StrsAre l (l.map fun v => skey (0, v))
  | [], _ => .nil
  | v :: l, h => by
    obtain ⟨k, tk, rfl⟩ := h v List.mem_cons_self
    exact .cons k tk (strs_of l fun u hu => h u (List.mem_cons_of_mem _ hu))
/-- sorted(s) -/
theorem sorted_sset {a : Addr} {L : List Str} {Q : Value → Shared → Prop} (R : SSet P w s.heap a L) (calm : A.handled = none)
    (hQ : ∀ s' p (out : Array Value) (c : Nat) (ys : List Str), (∀ b o, s.heap.get? b = some o → s'.heap.get? b = some o) → s'.gens = s.gens → s'.os = s.os → s.heap.objs.size ≤ p →
      s'.heap.get? p = some (seqObj "list" out c) → PyProof.Rows.StrsAre out.toList ys → ys.Perm L → sortedS ys = true → Q (.ref p) s') :
    wpAny (model P w) A (call (.builtin "sorted") [.ref a]) Q E s := by
  obtain ⟨o, es, ep, t, at_, ex_, da_, g, pl, nd, hb, hf, hr, hl⟩ := R
  refine Calls.call_function_entry kind_sorted plain_sorted entry_sorted (args_sorted1 _) ?_
  unfold Builtin.«sorted»
  refine wpAny_bind (m := checkCount "sorted" 1 1 _) (wpAny_pure ?_)
  refine wpAny_bind (collect_set (A := A.in1) calm ⟨o, at_, ex_.1, da_⟩ hf hb hr hl fun s1 vs k1 hz g1 o1 pm => ?_)
  have vlen : vs.length = es.size := by rw [pm.length_eq, List.length_map, Array.length_toList]
  have few : vs.length ≤ sizeLine := by rw [vlen]; exact fits_of_scanBound hb
  have hS : PyProof.Rows.StrsAre vs (vs.map fun v => skey (0, v)) := strs_of vs fun v hv => by
    obtain ⟨e, he, q⟩ := List.mem_map.mp (pm.mem_iff.mp hv)
    obtain ⟨k, tk, h1, _⟩ := g e he
    exact ⟨k, tk, by rw [← q]; exact h1⟩
  have pk : (vs.map fun v => skey (0, v)).Perm L := by
    have q := pm.map fun v => skey (0, v)
    rw [List.map_map] at q
    exact q.trans pl
  refine wpAny_bind (wpAny_newList ?_ few)
  have atL : (s1.heap.push (seqObj "list" vs.toArray 0)).get? s1.heap.objs.size = some (seqObj "list" vs.toArray 0) := Heap.get?_push_size _ rfl
  refine wpAny_bind (wpAny_holding (wpAny_call_entry slot_list_sort ⟨_, atL, rfl⟩ entry_list_sort (list_sort_treeKAny strKind_oneLt atL hS.keysOf (fun v₁ v₂ rest e => keyKind_strs (by rw [← e]; exact hS)) few fun st' hp hs => ⟨_, rfl, ?_⟩) (args_list_sort _)))
  obtain ⟨ys, y1, y2, y3⟩ := sorted_out_str hS hp hs
  obtain ⟨c, hc⟩ := sortedHeap_at (vs := vs) (out := (arrOf st').map (·.2)) atL
  refine wpAny_pure ⟨_, rfl, hQ _ s1.heap.objs.size _ c ys (fun b u e => ?_) g1 o1 hz hc y1 (y2.trans pk) y3⟩
  have q := k1 b u e
  have hlt := Heap.lt_size q
  show (sortedHeap (s1.heap.push (seqObj "list" vs.toArray 0)) s1.heap.objs.size vs _).get? b = some u
  rw [sortedHeap_old (Nat.ne_of_lt hlt) (by rw [size_push']; exact Nat.lt_succ_of_lt hlt)]
  exact Heap.get?_push_of_some _ q
end
/-- sorted(set(xs)): the texts of xs, rising, each once -/
def tSortSet (K : PySem.W.Frag) (ta : TE) : TE := fun σ H Q => ta σ H fun x H1 => ∃ (l : Addr) (xs : List Str), x = .ref l ∧ (SqL K H1 l (xs.map V.str) ∨ SqT K H1 l (xs.map V.str)) ∧ xs.length ≤ 4000 ∧
  ∀ (ys : List Str) (p : Addr), ys.Perm (ddS xs) → sortedS ys = true → H1 p = none → Q (.ref p) (upd H1 p (.lst (ys.map V.str)))
theorem pe_sortSet {X : Cx} {a : Expr} {ta : TE} {p p2 q pos : Pos} (hc : X.calm = true) (hm : X.mg "sorted" = none) (hm2 : X.mg "set" = none) (ha : PE X a ta) (hg : Gl X "sorted" := by rfl) (hg2 : Gl X "set" := by rfl)
    (na : starEach [a] X.env = (false, eval a X.env) :: starEach [] X.env := by rfl) : PE X (.Call (.Name "sorted" p) [.Call (.Name "set" p2) [a] [] q] [] pos) (tSortSet X.K ta) := by
  refine ⟨fun pins s σ H Q I h => ?_⟩
  refine Call_ (ld_blt I hg hm boot_sorted (PyProof.Rows.callWith_builtin1 (PyProof.Rows.args_cons (Call_ (ld_blt I hg2 hm2 boot_set ?_)) rfl) rfl rfl))
  refine PyProof.Rows.callWith_type1 (PyProof.Rows.args_cons (thn (ha.run pins s σ H _ I h) fun v s1 ⟨x, H1, I1, r1, q1⟩ => PyProof.Rows.args_nil ?_) na) na rfl
  obtain ⟨l, xs, rfl, hq, hl, q1⟩ := q1
  cases r1
  have rest : ∀ (h' : Heap) (tk : Nat), SSet X.prog X.w h' s1.heap.objs.size (ddS xs) → (∀ b o, b < s1.heap.objs.size → s1.heap.get? b = some o → h'.get? b = some o) →
      wpAny (model X.prog X.w) X.A (call (.builtin "sorted") [.ref s1.heap.objs.size]) (EP X pins σ Q) X.xe { s1 with heap := h', toks := tk } := fun h' tk hS hk => by
    have I2 : Inv X pins σ H1 { s1 with heap := h', toks := tk } := I1.kept fun b o e => hk b o (Heap.lt_size e) e
    have hS : SSet X.prog X.w ({ s1 with heap := h', toks := tk } : Shared).heap s1.heap.objs.size (ddS xs) := hS
    generalize ({ s1 with heap := h', toks := tk } : Shared) = s2 at I2 hS
    refine sorted_sset hS (I2.ok.hd hc) fun s' p out c ys k g o hp hgt hi pm hs => ?_
    have hlen : (ys.map V.str).length ≤ sizeLine := by
      have := ddS_length xs
      rw [List.length_map, pm.length_eq, sizeLine_eq]
      omega
    have hn : H1 p = none := I2.hok.fresh hp
    have J : Inv X pins σ (upd H1 p (.lst (ys.map V.str))) { s2 with heap := s'.heap, gens := s'.gens, drawn := s'.drawn, toks := s'.toks } :=
      I2.call (ch := []) (Un.laid k hp hn) (I2.hok.laid k hp ⟨hlen, out.toList, c, vals_of_strs hi, hgt⟩) (by rw [g]; exact I2.bare) (fun _ z => nomatch z)
    have e : s' = { s2 with heap := s'.heap, gens := s'.gens, drawn := s'.drawn, toks := s'.toks } := by
      cases s'
      cases s2
      cases o
      rfl
    rw [e]
    exact ⟨.ref p, _, J, rfl, q1 ys p pm hs hn⟩
  rcases hq with hq | hq
  · obtain ⟨its, r, pl, hz⟩ := I1.list hq
    exact set_strs_list (xs := xs) (I1.ok.hd hc) pl.isList (by simpa using strsAre_of r) (by unfold scanBound; omega) fun h' tk hS hk => PyProof.Rows.args_nil (rest h' tk hS hk)
  · obtain ⟨its, r, pl, hz⟩ := I1.tuple hq
    exact set_strs_tup (xs := xs) (I1.ok.hd hc) pl (by simpa using strsAre_of r) (by unfold scanBound; omega) fun h' tk hS hk => PyProof.Rows.args_nil (rest h' tk hS hk)
end Pm
set_option maxHeartbeats 4000000
/-! rising lists of texts are told by their members -/
namespace Pm
open PySem PySem.Spec PyProof.Rows L2 GxR GX
def leS (a b : Str) : Bool := !ltCps b.cps.toList a.cps.toList
theorem leS_iff (a b : Str) : leS a b = true ↔ a.cps.toList ≤ b.cps.toList := by
  unfold leS
  rw [ltCps_eq, Bool.not_eq_true', decide_eq_false_iff_not]
  exact List.not_lt
theorem leS_trans (a b c : Str) (h1 : leS a b = true) (h2 : leS b c = true) : leS a c = true := by
  rw [leS_iff] at *
  exact List.le_trans h1 h2
theorem leS_total (a b : Str) : (leS a b || leS b a) = true := by
  rw [Bool.or_eq_true, leS_iff, leS_iff]
  exact List.le_total _ _
theorem leS_anti {a b : Str} (h1 : leS a b = true) (h2 : leS b a = true) : a = b := by
  rw [leS_iff] at *
  have e := List.le_antisymm h1 h2
  obtain ⟨x⟩ := a
  obtain ⟨y⟩ := b
  congr 1
  exact Array.toList_inj.mp e
theorem pw_of_sortedS : ∀ {xs : List Str}, sortedS xs = true → xs.Pairwise fun a b => leS a b = true
  | [], _ => .nil
  | [x], _ => by simp
  | x :: y :: r, h => by
    have h2 : (!ltCps y.cps.toList x.cps.toList && risingS y r) = true := h
    obtain ⟨h3, h4⟩ := Bool.and_eq_true_iff.mp h2
    have ih := pw_of_sortedS (xs := y :: r) h4
    refine List.pairwise_cons.mpr ⟨fun z hz => ?_, ih⟩
    rcases List.mem_cons.mp hz with rfl | hz
    · exact h3
    · exact leS_trans x y z h3 ((List.pairwise_cons.mp ih).1 z hz)
def srt (xs : List Str) : List Str := xs.mergeSort leS
theorem srt_perm (xs : List Str) : (srt xs).Perm xs := List.mergeSort_perm xs leS
theorem srt_pw (xs : List Str) : (srt xs).Pairwise fun a b => leS a b = true := List.pairwise_mergeSort leS_trans leS_total xs
theorem mem_srt {xs : List Str} {a : Str} : a ∈ srt xs ↔ a ∈ xs := (srt_perm xs).mem_iff
theorem pw_eq {xs ys : List Str} (h1 : xs.Pairwise fun a b => leS a b = true) (h2 : ys.Pairwise fun a b => leS a b = true) (p : xs.Perm ys) : xs = ys :=
  List.Perm.eq_of_pairwise (fun a b _ _ x y => leS_anti x y) h1 h2 p
theorem eq_srt {xs ys : List Str} (p : ys.Perm xs) (s : sortedS ys = true) : ys = srt xs := pw_eq (pw_of_sortedS s) (srt_pw xs) (p.trans (srt_perm xs).symm)
theorem srt_congr {xs ys : List Str} (p : xs.Perm ys) : srt xs = srt ys := pw_eq (srt_pw xs) (srt_pw ys) ((srt_perm xs).trans (p.trans (srt_perm ys).symm))
theorem srt_nd {xs : List Str} (h : xs.Nodup) : (srt xs).Nodup := (srt_perm xs).nodup_iff.mpr h
theorem srt_len (xs : List Str) : (srt xs).length = xs.length := (srt_perm xs).length_eq
theorem ddS_nd (xs : List Str) : (ddS xs).Nodup := by
  have gen : ∀ (xs L : List Str), L.Nodup → (xs.foldl addS L).Nodup := by
    intro xs
    induction xs with
    | nil => intro L h; exact h
    | cons x r ih =>
      intro L h
      rw [List.foldl_cons]
      apply ih
      unfold addS
      split
      · exact h
      · rename_i hx
        rw [List.nodup_append]
        refine ⟨h, by simp, fun a ha b hb => ?_⟩
        rw [List.mem_singleton.mp hb]
        exact fun z => hx (z ▸ ha)
  exact gen xs [] List.nodup_nil
/-- rising and without doubles: told by the members -/
theorem srt_ext {xs ys : List Str} (h1 : xs.Nodup) (h2 : ys.Nodup) (h : ∀ a, a ∈ xs ↔ a ∈ ys) : srt xs = srt ys := srt_congr ((List.perm_ext_iff_of_nodup h1 h2).mpr h)
theorem nd_len : ∀ {xs ys : List Str}, xs.Nodup → (∀ a ∈ xs, a ∈ ys) → xs.length ≤ ys.length
  | [], _, _, _ => Nat.zero_le _
  | x :: r, ys, nd, h => by
    obtain ⟨n1, n2⟩ := List.nodup_cons.mp nd
    have hx := h x List.mem_cons_self
    have ih := nd_len (ys := ys.erase x) n2 fun a ha => (List.mem_erase_of_ne (show a ≠ x from fun z => n1 (z ▸ ha))).mpr (h a (List.mem_cons_of_mem _ ha))
    rw [List.length_erase_of_mem hx] at ih
    have : 0 < ys.length := List.length_pos_of_mem hx
    rw [List.length_cons]
    omega
end Pm
set_option maxHeartbeats 4000000
/-! the text of the row by places -/
namespace Pm
open PySem PySem.Spec PyProof.Rows L2 GxR GX
def topS (i : Nat) : Stmt := PySem.Challenge.pw_passmill_k02_whole_edges.main.body.getD i (.Pass ⟨0, 0, 0, 0⟩)
abbrev s_is_whole : Stmt := topS 8
abbrev s_is_value : Stmt := topS 9
abbrev s_is_word : Stmt := topS 10
abbrev s_is_name : Stmt := topS 11
abbrev s_is_program : Stmt := topS 18
abbrev s_is_block : Stmt := topS 19
abbrev s_has_form : Stmt := topS 20
abbrev s_is_part : Stmt := topS 21
abbrev s_parts_of : Stmt := topS 22
abbrev s_places_in : Stmt := topS 23
abbrev s_rows_of : Stmt := topS 24
abbrev s_check_program : Stmt := topS 25
abbrev s_places_of : Stmt := topS 26
abbrev s_sum_of : Stmt := topS 28
abbrev s_edges_of : Stmt := topS 30
abbrev s_targets_by_name : Stmt := topS 31
abbrev s_reach_of : Stmt := topS 32
abbrev s_doms_of : Stmt := topS 33
abbrev s_names_reached : Stmt := topS 34
abbrev s_consts_of : Stmt := topS 37
abbrev s_copies_of : Stmt := topS 38
abbrev s_sums_of : Stmt := topS 39
abbrev s_known_rows : Stmt := topS 40
abbrev s_known_starts : Stmt := topS 41
abbrev s_known_behind : Stmt := topS 42
abbrev s_meet_rows : Stmt := topS 43
abbrev s_meet_consts : Stmt := topS 44
abbrev s_turn_consts : Stmt := topS 45
abbrev s_const_for : Stmt := topS 46
abbrev s_turn_copies : Stmt := topS 47
abbrev s_turn_sums : Stmt := topS 48
abbrev s_uses_of : Stmt := topS 50
abbrev s_live_of : Stmt := topS 51
abbrev s_live_at : Stmt := topS 52
abbrev s_live_before : Stmt := topS 53
abbrev s_go_back : Stmt := topS 54
abbrev s_is_fact_name : Stmt := topS 57
abbrev s_check_fact_name : Stmt := topS 58
abbrev s_fact : Stmt := topS 59
abbrev s_make_fact : Stmt := topS 60
abbrev s_law_ways : Stmt := topS 62
abbrev s_law_pick : Stmt := topS 63
abbrev s_law_step : Stmt := topS 64
abbrev s_law_program : Stmt := topS 65
abbrev s_law_reached : Stmt := topS 66
abbrev s_law : Stmt := topS 67
end Pm
set_option maxHeartbeats 4000000
/-! The readings of all, any of a generator expression by an invariant. -/
namespace Pm
open PySem PySem.Spec PyProof.Rows L2 GxR GX
section
variable {b0 : Bool} {g : TG} {tt : TT} {te : TE} {vs : List Nat} {σ : L2.St} {H2 : Hp} {Q : VK} {K : PySem.W.Frag}
theorem all_loop_n {J : It} (n : Nat) (Pv : Nat → Hp → Prop) (h0 : Pv 0 H2) (hgo : ∀ i H, i < n → Pv i H → J.go i H) (hst : ∀ H, Pv n H → J.stop n H)
    (hs : ∀ i H x H', i < n → Pv i H → J.yld i H x H' → AllStep b0 g tt te vs σ Q x H' (Pv (i + 1))) (hd : ∀ H, Pv n H → Q (.bl (!b0)) H) : AllLoop b0 g tt te vs σ Q J H2 := by
  refine ⟨fun i m H => m = n - i ∧ i ≤ n ∧ Pv i H, ⟨n, by simp, Nat.zero_le _, h0⟩, ?_⟩
  rintro i m H ⟨rfl, hi, p⟩
  by_cases hlt : i < n
  · exact .inr ⟨hgo i H hlt p, Pv (i + 1), fun H' p' => ⟨n - (i + 1), by omega, rfl, hlt, p'⟩, fun x H' y => hs i H x H' hlt p y⟩
  · have e : i = n := by omega
    subst e
    exact .inl ⟨hst H p, hd H p⟩
theorem all_str {x : Str} (Pv : Nat → Hp → Prop) (h0 : Pv 0 H2) (hs : ∀ i c H, x.cps.toList[i]? = some c → Pv i H → AllStep b0 g tt te vs σ Q (.str ⟨#[c]⟩) H (Pv (i + 1))) (hd : ∀ H, Pv x.cps.toList.length H → Q (.bl (!b0)) H) :
    AllLoop b0 g tt te vs σ Q (Its x) H2 := by
  have el : x.cps.size = x.cps.toList.length := by simp
  refine all_loop_n x.cps.toList.length Pv h0 (fun i H h _ => ?_) (fun H _ => ?_) (fun i H v H' h p y => ?_) hd
  · show i < x.cps.size
    rw [el]; exact h
  · show x.cps.size ≤ x.cps.toList.length
    rw [el]; exact Nat.le_refl _
  · obtain ⟨rfl, c, hc, rfl⟩ := y
    exact hs i c _ (by rw [Array.getElem?_toList]; exact hc) p
theorem all_tup {a : Addr} {xs : List V} (Pv : Nat → Hp → Prop) (h0 : Pv 0 H2) (hl : ∀ i H, Pv i H → SqT K H a xs) (hs : ∀ i x H, xs[i]? = some x → Pv i H → AllStep b0 g tt te vs σ Q x H (Pv (i + 1))) (hd : ∀ H, Pv xs.length H → Q (.bl (!b0)) H) :
    AllLoop b0 g tt te vs σ Q (Itt K a) H2 := by
  refine all_loop_n xs.length Pv h0 (fun i H h p => ⟨xs, xs[i], hl i H p, List.getElem?_eq_getElem h⟩) (fun H p => ⟨xs, hl _ H p, Nat.le_refl _⟩) (fun i H v H' h p y => ?_) hd
  obtain ⟨rfl, hy⟩ := y
  exact hs i v _ (hy xs (hl i _ p)) p
theorem all_lst {a : Addr} {xs : List V} (Pv : Nat → Hp → Prop) (h0 : Pv 0 H2) (hl : ∀ i H, Pv i H → SqL K H a xs) (hs : ∀ i x H, xs[i]? = some x → Pv i H → AllStep b0 g tt te vs σ Q x H (Pv (i + 1))) (hd : ∀ H, Pv xs.length H → Q (.bl (!b0)) H) :
    AllLoop b0 g tt te vs σ Q (Itl K a) H2 := by
  refine all_loop_n xs.length Pv h0 (fun i H h p => ⟨xs, xs[i], hl i H p, List.getElem?_eq_getElem h⟩) (fun H p => ⟨xs, hl _ H p, Nat.le_refl _⟩) (fun i H v H' h p y => ?_) hd
  obtain ⟨rfl, hy⟩ := y
  exact hs i v _ (hy xs (hl i _ p)) p
/-- two tuples side by side; the pair is new at T -/
theorem all_zipT {a b : Addr} {xs ys : List V} (n : Nat) (hn : n = min xs.length ys.length) (Pv : Nat → Hp → Prop) (h0 : Pv 0 H2) (hl : ∀ i H, Pv i H → SqT K H a xs ∧ SqT K H b ys)
    (hs : ∀ i x y T H, xs[i]? = some x → ys[i]? = some y → Pv i H → H T = none → AllStep b0 g tt te vs σ Q (.ref T) (upd H T (.tup [x, y])) (Pv (i + 1))) (hd : ∀ H, Pv n H → Q (.bl (!b0)) H) :
    AllLoop b0 g tt te vs σ Q (RZ.ItzT K a b) H2 := by
  refine all_loop_n n Pv h0 (fun i H h p => ⟨xs, ys, xs[i]'(by omega), ys[i]'(by omega), (hl i H p).1, (hl i H p).2, List.getElem?_eq_getElem (by omega), List.getElem?_eq_getElem (by omega)⟩) (fun H p => ⟨xs, ys, (hl _ H p).1, (hl _ H p).2, by omega⟩) (fun i H v H' h p y => ?_) hd
  obtain ⟨T, x, y, rfl, hT, rfl, h1, h2⟩ := y
  exact hs i x y T H (h1 xs (hl i H p).1) (h2 ys (hl i H p).2) p hT
end
end Pm
set_option maxHeartbeats 4000000
namespace Pm
open PySem PySem.Spec PyProof.Rows L2 GxR GX
/-- the built-ins that the text uses are the built-ins -/
structure Bl (c : Ct) : Prop where
  len : c.mg "len" = none
  all : c.mg "all" = none
  isi : c.mg "isinstance" = none
  bool : c.mg "bool" = none
  int : c.mg "int" = none
  str : c.mg "str" = none
  tuple : c.mg "tuple" = none
  list : c.mg "list" = none
  set : c.mg "set" = none
  zip : c.mg "zip" = none
  range : c.mg "range" = none
/-! ### kinds of data -/
def tyD : PyData → String
  | .none => "NoneType"
  | .bool _ => "bool"
  | .int _ => "int"
  | .str _ => "str"
  | .list _ => "list"
  | .tuple _ => "tuple"
  | .dict _ => "dict"
theorem tyx_sqT {K : PySem.W.Frag} {H : Hp} {a : Addr} {xs : List V} (h : SqT K H a xs) : TyX K H (.ref a) (.type "tuple") := by
  rcases h with (h | ⟨o, h⟩) | ⟨o, its, n, h, hc, _⟩
  · exact .base (.tup h)
  · exact .fTuple h
  · exact .kTuple h hc
theorem tyx_sqL {K : PySem.W.Frag} {H : Hp} {a : Addr} {xs : List V} (h : SqL K H a xs) : TyX K H (.ref a) (.type "list") := by
  rcases h with (h | ⟨o, h⟩) | ⟨o, its, n, h, hc, _⟩
  · exact .base (.lst h)
  · exact .base (.frz h)
  · exact .kList h hc
theorem tyx_dp {K : PySem.W.Frag} {H : Hp} {v : V} {d : PyData} (h : Dp K H v d) : TyX K H v (.type (tyD d)) := by
  cases h with
  | non => exact .base .non
  | bl b => exact .base (.bl b)
  | int i => exact .base (.int i)
  | str x => exact .base (.str x)
  | lst s _ => exact tyx_sqL s
  | tup s _ => exact tyx_sqT s
/-- the answer of isinstance of such data -/
def isS (a b : String) : Bool := a == b || (a == "bool" && b == "int")
abbrev isD (d : PyData) (t : String) : Bool := isS (tyD d) t
theorem kit_all : ∀ a ∈ ["NoneType", "bool", "int", "str", "list", "tuple"], ∀ t ∈ ["bool", "int", "str", "list", "tuple"], kitB a t = some (isS a t) := by decide +kernel
theorem kit_dp {K : PySem.W.Frag} (d : PyData) (hd : ∀ k, d ≠ .dict k) : ∀ t ∈ ["bool", "int", "str", "list", "tuple"], PySem.W.kitOne K (.type (tyD d)) (.type t) = some (isD d t) := by
  intro t ht
  refine kit_ty (kit_all (tyD d) ?_ t ht)
  cases d with
  | dict k => exact absurd rfl (hd k)
  | _ => simp [tyD]
theorem dp_nodict {K : PySem.W.Frag} {H : Hp} {v : V} {d : PyData} (h : Dp K H v d) : ∀ k, d ≠ .dict k := fun k e => by subst e; cases h

theorem iteT' {A B : Prop} (h : A) : if false = false then A else B := by
  rw [if_pos rfl]
  exact h
theorem iteF' {A B : Prop} (h : B) : if true = false then A else B := by
  rw [if_neg (by decide)]
  exact h
/-! ### is_whole, is_value -/
def wholeD (d : PyData) (lo hi : Int) : Bool := match d with
  | .int i => decide (lo ≤ i) && decide (i ≤ hi)
  | _ => false
def spIsWhole (c : Ct) : Sp := fun vs H Q _ => ∃ v d lo hi, vs = [v, .int lo, .int hi] ∧ Dp c.K H v d ∧ Q (.bl (wholeD d lo hi)) H
theorem sc_is_whole : FnScope ["thing", "low", "high"] ["thing", "low", "high"] (defScope s_is_whole) := ⟨rfl, rfl, rfl, by decide +kernel, rfl, by decide +kernel, by decide +kernel⟩
theorem ok_is_whole {c : Ct} (D : Df c "is_whole" s_is_whole) (B : Bl c) : Ok c "is_whole" 1 ["thing", "low", "high"] (spIsWhole c) := by
  refine df_ok D sc_is_whole (fun vs H Q E h => ?_) (fun _ _ _ _ _ _ us hl => match us, hl with | [_, _, _], _ => rfl) fun f cd A outer s H vs Q E hr h => ?_
  · obtain ⟨v, d, lo, hi, rfl, _⟩ := h
    rfl
  · obtain ⟨v, d, lo, hi, rfl, hv, q⟩ := h
    refine ⟨_, pss_cons (ps_if (PW.pt (pw_or (pt_val (pe_callB call_isi (by rfl) B.isi (by decide +kernel) (pa_cons (pv 0) (pa_cons (pe_bltn (v := .ty "bool") (by rfl) B.bool (by decide +kernel) rfl) pa_nil))))
        (pw_or1 (pt_not (pt_val (pe_callB call_isi (by rfl) B.isi (by decide +kernel) (pa_cons (pv 0) (pa_cons (pe_bltn (v := .ty "int") (by rfl) B.int (by decide +kernel) rfl) pa_nil))))))))
        (pss_one (ps_ret pe_bl)) pss_nil)
      (pss_one (ps_ret (pe_chain op_le op_le (pv 1) (pv 0) (pv 2)))), ?_⟩
    have kb := kit_dp (K := c.K) d (dp_nodict hv) "bool" (by simp)
    have ki := kit_dp (K := c.K) d (dp_nodict hv) "int" (by simp)
    refine ⟨v, rfl, v, .ty "bool", .type (tyD d), .type "bool", _, rfl, .ty _, tyx_dp hv, kb, _, rfl, ?_⟩
    cases hv with
    | bl b => exact q
    | non => exact ⟨.non, rfl, .non, .ty "int", .type "NoneType", .type "int", _, rfl, .ty _, tyx_dp .non, ki, _, rfl, q⟩
    | str x => exact ⟨.str x, rfl, .str x, .ty "int", .type "str", .type "int", _, rfl, .ty _, tyx_dp (.str x), ki, _, rfl, q⟩
    | lst s1 s2 => exact ⟨_, rfl, _, .ty "int", .type "list", .type "int", _, rfl, .ty _, tyx_sqL s1, ki, _, rfl, q⟩
    | tup s1 s2 => exact ⟨_, rfl, _, .ty "int", .type "tuple", .type "int", _, rfl, .ty _, tyx_sqT s1, ki, _, rfl, q⟩
    | int i =>
      refine ⟨.int i, rfl, .int i, .ty "int", .type "int", .type "int", _, rfl, .ty _, tyx_dp (.int i), ki, _, rfl, ?_⟩
      refine ⟨.int lo, rfl, .int i, rfl, lo, i, rfl, rfl, _, rfl, ite2 (fun e => ?_) fun e => ?_⟩
      · have e1 : wholeD (.int i) lo hi = decide (i ≤ hi) := by
          show (decide (lo ≤ i) && decide (i ≤ hi)) = _
          rw [e, Bool.true_and]
        rw [e1] at q
        exact ⟨.int hi, rfl, i, hi, rfl, rfl, q⟩
      · have e1 : wholeD (.int i) lo hi = false := by
          show (decide (lo ≤ i) && decide (i ≤ hi)) = _
          rw [Bool.eq_false_iff.mpr e, Bool.false_and]
        rw [e1] at q
        exact q

def valueD (d : PyData) : Bool := wholeD d 0 9972
def spIsValue (c : Ct) : Sp := fun vs H Q _ => ∃ v d, vs = [v] ∧ Dp c.K H v d ∧ Q (.bl (valueD d)) H
theorem sc_is_value : FnScope ["thing"] ["thing"] (defScope s_is_value) := ⟨rfl, rfl, rfl, by decide +kernel, rfl, by decide +kernel, by decide +kernel⟩
theorem ok_is_value {c : Ct} (D : Df c "is_value" s_is_value) (O : Ok c "is_whole" 1 ["thing", "low", "high"] (spIsWhole c)) (hM : ∃ t, c.mg "MODULUS" = some (.int 9973 t)) : Ok c "is_value" 2 ["thing"] (spIsValue c) := by
  obtain ⟨tM, hM⟩ := hM
  refine df_ok D sc_is_value (fun vs H Q E h => ?_) (fun _ _ _ _ _ _ us hl => match us, hl with | [_], _ => rfl) fun f cd A outer s H vs Q E hr h => ?_
  · obtain ⟨v, d, rfl, _⟩ := h
    rfl
  · obtain ⟨v, d, rfl, hv, q⟩ := h
    refine ⟨_, pss_one (ps_ret (pe_f c O hr (pa_cons (pv 0) (pa_cons pe_int (pa_cons (pe_op op_sub (pe_glob (v := .int 9973) (by rfl) hM ⟨_, rfl⟩) pe_int) pa_nil))))), ?_⟩
    exact ⟨v, rfl, 9973, 1, rfl, rfl, v, d, 0, 9972, rfl, hv, q⟩

/-! ### is_word, is_name -/
def lowB (c : Nat) : Bool := decide (97 ≤ c) && decide (c ≤ 122)
def wordD (d : PyData) (m : Int) : Bool := match d with
  | .str x => (decide (1 ≤ (x.length : Int)) && decide ((x.length : Int) ≤ m)) && x.cps.toList.all lowB
  | _ => false
/-- a text is not too long for the model -/
def FitD (d : PyData) : Prop := ∀ x, d = .str x → x.length ≤ sizeLine
def letters : Str := "abcdefghijklmnopqrstuvwxyz"
theorem letters_mem (c : Nat) : decide (c ∈ letters.cps.toList) = lowB c := by
  have e : letters.cps.toList = [97, 98, 99, 100, 101, 102, 103, 104, 105, 106, 107, 108, 109, 110, 111, 112, 113, 114, 115, 116, 117, 118, 119, 120, 121, 122] := by decide +kernel
  rw [e]
  unfold lowB
  rw [Bool.eq_iff_iff]
  simp only [List.mem_cons, List.not_mem_nil, or_false, decide_eq_true_eq, Bool.and_eq_true]
  omega
def spIsWord (c : Ct) : Sp := fun vs H Q _ => ∃ v d m, vs = [v, .int m] ∧ Dp c.K H v d ∧ FitD d ∧ Tabs c.ts H ∧ ∀ H', Gr H H' → Q (.bl (wordD d m)) H'
theorem sc_is_word : FnScope ["thing", "longest", "letter"] ["thing", "longest"] (defScope s_is_word) := ⟨rfl, rfl, rfl, by decide +kernel, rfl, by decide +kernel, by decide +kernel⟩
theorem ok_is_word {c : Ct} (D : Tf c "is_word" s_is_word) (B : Bl c) (hL : ∃ t, c.mg "LETTERS" = some (.str letters t)) : Ok c "is_word" 1 ["thing", "longest"] (spIsWord c) := by
  obtain ⟨tL, hL⟩ := hL
  refine tf_ok D sc_is_word (fun vs H Q E h => ?_) (fun _ _ _ _ _ _ us hl => match us, hl with | [_, _], _ => rfl) fun f cd tb A outer s H vs Q E TB hmt hr h => ?_
  · obtain ⟨v, d, m, rfl, _⟩ := h
    rfl
  · obtain ⟨v, d, m, rfl, hv, hfit, hT, q⟩ := h
    refine ⟨_, pss_cons (ps_if (PW.pt (pw_or (pt_not (pt_val (pe_callB call_isi (by rfl) B.isi (by decide +kernel) (pa_cons (pv 0) (pa_cons (pe_bltn (v := .ty "str") (by rfl) B.str (by decide +kernel) rfl) pa_nil)))))
        (pw_or1 (pt_not (pt_chain op_le op_le pe_int (pe_callB call_len_str (by rfl) B.len PySem.boot_len (pa_cons (pv 0) pa_nil)) (pv 1))))))
        (pss_one (ps_ret pe_bl)) pss_nil)
      (pss_one (ps_ret (pe_allG (own := [("letter", 2)]) (g := gName 2) (tt := tYes) rfl sc_is_word.nd hr (by rfl) B.all TB rfl (gok_by (N := ["thing", "longest", "letter"]) (sc := defScope s_is_word) (by decide +kernel)) (pi_str (pv 0))
        (fun _ _ _ _ _ _ _ _ => pg_name (i := 2) sc_is_word.nd rfl (.inl rfl)) (fun _ _ _ _ _ _ _ _ => pts_nil)
        (fun _ _ _ _ _ _ _ _ => pe_cmpR op_in_sign (pv 2) (pe_glob (v := .str letters) (by rfl) hL ⟨_, rfl⟩) (by rfl))))), ?_⟩
    have ks := kit_dp (K := c.K) d (dp_nodict hv) "str" (by simp)
    refine ⟨v, rfl, v, .ty "str", .type (tyD d), .type "str", _, rfl, .ty _, tyx_dp hv, ks, _, rfl, ?_⟩
    cases hv with
    | bl b => exact q H (.refl H)
    | non => exact q H (.refl H)
    | int i => exact q H (.refl H)
    | lst s1 s2 => exact q H (.refl H)
    | tup s1 s2 => exact q H (.refl H)
    | str x =>
      refine ⟨.str x, rfl, x, rfl, hfit x rfl, 1, (x.length : Int), rfl, rfl, _, rfl, ?_⟩
      refine ite2 (fun e1 => ?_) (fun e1 => ?_)
      · refine ⟨.int m, rfl, (x.length : Int), m, rfl, rfl, _, rfl, ?_⟩
        by_cases e2 : decide ((x.length : Int) ≤ m) = true
        · rw [e2]
          refine iteF ?_
          have eq0 : wordD (.str x) m = x.cps.toList.all lowB := by
            show ((decide (1 ≤ (x.length : Int)) && decide ((x.length : Int) ≤ m)) && x.cps.toList.all lowB) = _
            rw [e1, e2, Bool.and_self, Bool.true_and]
          rw [eq0] at q
          refine ⟨.str x, rfl, x, rfl, hT tb hmt, fun H2 hTab => ?_⟩
          have g0 : Gr H H2 := .tabbed (hT tb hmt) hTab
          refine all_str (fun i H' => Gr H H' ∧ (x.cps.toList.take i).all lowB = true) ⟨g0, rfl⟩ (fun i ch H' hch ⟨hg, ha⟩ => ?_) fun H' ⟨hg, ha⟩ => ?_
          · refine ⟨rfl, ⟨_, rfl, ch, letters, rfl, rfl, _, rfl, ?_⟩⟩
            rw [letters_mem]
            cases hb : lowB ch with
            | false =>
              refine iteT' ?_
              have e9 : x.cps.toList.all lowB = false := by
                rw [List.all_eq_false]
                exact ⟨ch, List.mem_of_getElem? hch, by rw [hb]; decide⟩
              rw [e9] at q
              exact q H' hg
            | true =>
              refine iteF' ⟨hg, ?_⟩
              rw [List.take_add_one, hch, List.all_append, ha]
              simp [hb]
          · rw [List.take_length] at ha
            rw [ha] at q
            exact q H' hg
        · have e3 : decide ((x.length : Int) ≤ m) = false := Bool.eq_false_iff.mpr e2
          rw [e3]
          refine iteT ?_
          have eq0 : wordD (.str x) m = false := by
            show ((decide (1 ≤ (x.length : Int)) && decide ((x.length : Int) ≤ m)) && x.cps.toList.all lowB) = _
            rw [e3, Bool.and_false, Bool.false_and]
          rw [eq0] at q
          exact q H (.refl H)
      · have e3 : decide (1 ≤ (x.length : Int)) = false := Bool.eq_false_iff.mpr e1
        refine ⟨_, rfl, iteT ?_⟩
        have eq0 : wordD (.str x) m = false := by
          show ((decide (1 ≤ (x.length : Int)) && decide ((x.length : Int) ≤ m)) && x.cps.toList.all lowB) = _
          rw [e3, Bool.false_and, Bool.false_and]
        rw [eq0] at q
        exact q H (.refl H)

def nameD (d : PyData) : Bool := wordD d 3
def spIsName (c : Ct) : Sp := fun vs H Q _ => ∃ v d, vs = [v] ∧ Dp c.K H v d ∧ FitD d ∧ Tabs c.ts H ∧ ∀ H', Gr H H' → Q (.bl (nameD d)) H'
theorem sc_is_name : FnScope ["thing"] ["thing"] (defScope s_is_name) := ⟨rfl, rfl, rfl, by decide +kernel, rfl, by decide +kernel, by decide +kernel⟩
theorem ok_is_name {c : Ct} (D : Df c "is_name" s_is_name) (O : Ok c "is_word" 1 ["thing", "longest"] (spIsWord c)) (hM : ∃ t, c.mg "LONGEST_NAME" = some (.int 3 t)) : Ok c "is_name" 2 ["thing"] (spIsName c) := by
  obtain ⟨tM, hM⟩ := hM
  refine df_ok D sc_is_name (fun vs H Q E h => ?_) (fun _ _ _ _ _ _ us hl => match us, hl with | [_], _ => rfl) fun f cd A outer s H vs Q E hr h => ?_
  · obtain ⟨v, d, rfl, _⟩ := h
    rfl
  · obtain ⟨v, d, rfl, hv, hf, hT, q⟩ := h
    refine ⟨_, pss_one (ps_ret (pe_f c O hr (pa_cons (pv 0) (pa_cons (pe_glob (v := .int 3) (by rfl) hM ⟨_, rfl⟩) pa_nil)))), ?_⟩
    exact ⟨v, rfl, v, d, 3, rfl, hv, hf, hT, q⟩
end Pm
set_option maxHeartbeats 4000000
namespace Pm
open PySem PySem.Spec PyProof.Rows L2 GxR GX
/-! ### is_part -/
def kindD (d : PyData) (z : Str) : Bool := if z = "value" then valueD d else nameD d
def spKind (c : Ct) (kd : PyData → Str → Bool) : Sp := fun vs H Q _ => ∃ v d z, vs = [v, .str z] ∧ Dp c.K H v d ∧ FitD d ∧ Tabs c.ts H ∧ ∀ H', Gr H H' → Q (.bl (kd d z)) H'
abbrev spIsPart (c : Ct) : Sp := spKind c kindD
theorem sc_is_part : FnScope ["part", "kind"] ["part", "kind"] (defScope s_is_part) := ⟨rfl, rfl, rfl, by decide +kernel, rfl, by decide +kernel, by decide +kernel⟩
theorem ok_is_part {c : Ct} (D : Df c "is_part" s_is_part) (O1 : Ok c "is_value" 2 ["thing"] (spIsValue c)) (O2 : Ok c "is_name" 2 ["thing"] (spIsName c)) : Ok c "is_part" 3 ["part", "kind"] (spIsPart c) := by
  refine df_ok D sc_is_part (fun vs H Q E h => ?_) (fun _ _ _ _ _ _ us hl => match us, hl with | [_, _], _ => rfl) fun f cd A outer s H vs Q E hr h => ?_
  · obtain ⟨v, d, z, rfl, _⟩ := h
    rfl
  · obtain ⟨v, d, z, rfl, hv, hf, hT, q⟩ := h
    refine ⟨_, pss_cons (ps_if (pt_cmpR op_eq (pv 1) pe_str (nomark _)) (pss_one (ps_ret (pe_f c O1 hr (pa_cons (pv 0) pa_nil)))) pss_nil)
      (pss_one (ps_ret (pe_f c O2 hr (pa_cons (pv 0) pa_nil)))), ?_⟩
    refine ⟨.str z, rfl, rfl, _, rfl, ite2 (fun e => ?_) fun e => ?_⟩
    · have ez : z = "value" := V.str.inj (of_decide_eq_true e)
      have e0 : kindD d z = valueD d := if_pos ez
      rw [e0] at q
      exact ⟨v, rfl, v, d, rfl, hv, q H (.refl H)⟩
    · have ez : ¬ z = "value" := fun e2 => e (by rw [e2]; exact decide_eq_true rfl)
      have e0 : kindD d z = nameD d := if_neg ez
      rw [e0] at q
      exact ⟨v, rfl, v, d, rfl, hv, hf, hT, q⟩

/-! ### the forms -/
def stepWords : List Str := ["set", "copy", "add", "sub", "mul", "less", "same", "get", "put"]
def endWords : List Str := ["go", "if", "stop"]
def formsL : List (Str × List Str) := [("set", ["written", "value"]), ("copy", ["written", "read"]), ("add", ["written", "read", "read"]), ("sub", ["written", "read", "read"]), ("mul", ["written", "read", "read"]), ("less", ["written", "read", "read"]), ("same", ["written", "read", "read"]), ("get", ["written"]), ("put", ["read"]), ("go", ["block"]), ("if", ["read", "block", "block"]), ("stop", [])]
/-- the module's table of forms, its words -/
structure Fm (c : Ct) : Prop where
  forms : ∃ a, c.mg "FORMS" = some (.ref a) ∧ ∀ z ks, formsL.lookup z = some ks → ∃ t, KDct c.K c.w a z (.ref t) ∧ ∀ H, SqT c.K H t (ks.map V.str)
  steps : ∃ a, c.mg "STEP_WORDS" = some (.ref a) ∧ ∀ H, SqT c.K H a (stepWords.map V.str)
  ends : ∃ a, c.mg "END_WORDS" = some (.ref a) ∧ ∀ H, SqT c.K H a (endWords.map V.str)
/-- the texts in such data are not too long, n deep -/
def Fit : Nat → PyData → Prop
  | 0, _ => True
  | n + 1, d => FitD d ∧ (∀ ds, d = .tuple ds → ∀ e ∈ ds, Fit n e) ∧ (∀ ds, d = .list ds → ∀ e ∈ ds, Fit n e)
/-- a tuple's first item is no list, no tuple -/
def flatD : PyData → Bool
  | .list _ => false
  | .tuple _ => false
  | .dict _ => false
  | _ => true
def FlatFst (d : PyData) : Prop := ∀ e ds, d = .tuple (e :: ds) → flatD e = true
def hasFormK (kd : PyData → Str → Bool) (d : PyData) (ws : List Str) : Bool := match d with
  | .tuple (.str z :: ds) => ws.any (· == z) && (match formsL.lookup z with
    | some ks => decide (ds.length = ks.length) && (ds.zip ks).all fun p => kd p.1 p.2
    | none => false)
  | _ => false
abbrev hasFormD (d : PyData) (ws : List Str) : Bool := hasFormK kindD d ws
theorem dpAll_length {K : PySem.W.Frag} {H : Hp} : ∀ {vs : List V} {ds : List PyData}, DpAll K H vs ds → vs.length = ds.length
  | _, _, .nil => rfl
  | _, _, .cons _ t => congrArg Nat.succ (dpAll_length t)
theorem dpAll_get {K : PySem.W.Frag} {H : Hp} : ∀ {vs : List V} {ds : List PyData} {i : Nat} {v : V}, DpAll K H vs ds → vs[i]? = some v → ∃ d, ds[i]? = some d ∧ Dp K H v d
  | _, _, _, _, .nil, e => by simp at e
  | _, _, 0, _, .cons r _, e => by simp at e; subst e; exact ⟨_, rfl, r⟩
  | _, _, i + 1, v, .cons _ t, e => by
    obtain ⟨d, h1, h2⟩ := dpAll_get (i := i) (v := v) t (by simpa using e)
    exact ⟨d, by simpa using h1, h2⟩
/-- a flat value against a text -/
theorem eqV_text {K : PySem.W.Frag} {H : Hp} {v : V} {d : PyData} (h : Dp K H v d) (hf : flatD d = true) (ws : List Str) : flatV v = true ∧ inV v (ws.map V.str) = (match d with | .str z => ws.any (· == z) | _ => false) := by
  cases h with
  | non => exact ⟨rfl, by unfold inV; rw [List.any_map]; exact List.any_eq_false.mpr fun x _ => by simp [eqV]⟩
  | bl b => exact ⟨rfl, by unfold inV; rw [List.any_map]; exact List.any_eq_false.mpr fun x _ => by simp [eqV]⟩
  | int i => exact ⟨rfl, by unfold inV; rw [List.any_map]; exact List.any_eq_false.mpr fun x _ => by simp [eqV]⟩
  | str z => exact ⟨rfl, by unfold inV; rw [List.any_map]; rfl⟩
  | lst _ _ => cases hf
  | tup _ _ => cases hf
theorem flat_words (ws : List Str) : (ws.map V.str).all flatV = true := by
  rw [List.all_map]
  exact List.all_eq_true.mpr fun x _ => rfl
theorem cutV_one (xs : List V) : cutV xs (some 1) none = xs.drop 1 := by
  unfold cutV
  rw [show HT.sIx xs.length 0 (some 1) = min 1 xs.length from HT.sIx_nat xs.length 0 1, HT.sIx_none]
  cases xs with
  | nil => rfl
  | cons x r =>
    rw [show min 1 (x :: r).length = 1 by rw [List.length_cons]; omega]
    show List.take ((x :: r).length - 1) r = r
    rw [List.length_cons, Nat.add_sub_cancel]
    exact List.take_length
theorem cut_part (x : V) (r : List V) : ¬ (HT.sIx (x :: r).length 0 (some 1) = 0 ∧ HT.sIx (x :: r).length (x :: r).length none = (x :: r).length) := fun h => by
  have e := h.1
  rw [show HT.sIx (x :: r).length 0 (some 1) = min 1 (x :: r).length from HT.sIx_nat _ 0 1, List.length_cons] at e
  omega
end Pm
set_option maxHeartbeats 4000000
namespace Pm
open PySem PySem.Spec PyProof.Rows L2 GxR GX
/-! ### has_form -/
/-- the def at f keeps this promise -/
def OkA (c : Ct) (f : Addr) (k : Nat) (ps : List Str) (sp : Sp) : Prop := ∃ fd, FnOk c.P c.w c.K c.mg c.base CX0 k f fd ps sp ∧ PySem.W.keepIn c.K (.ref f) = true ∧ Binds c.K fd ps []
theorem Ok.at {c : Ct} {x : Str} {k : Nat} {ps : List Str} {sp : Sp} (h : Ok c x k ps sp) : ∃ f, OkA c f k ps sp ∧ c.mg x = some (.ref f) := let ⟨f, fd, F, hm, kp, hb⟩ := h; ⟨f, ⟨fd, F, kp, hb⟩, hm⟩
section
variable {X : Cx} {x : Str} {k : Nat} {ps : List Str} {sp : Sp} {p pos : Pos} {e : Expr} {es : List Expr} {t : TA}
/-- x(e, ..), x a local name that holds the def at f -/
theorem pe_l (c : Ct) (i : Nat) (f : Addr) (O : OkA c f k ps sp) (hr : Room k X.A) (ha : PA X (e :: es) t) (hN : X.N[i]? = some x := by rfl) (hv : Vis X.env.scope x := by first | exact .inl rfl | exact .inr (.inl rfl) | exact .inr (.inr rfl)) (h1 : X.prog = c.P := by rfl) (h2 : X.w = c.w := by rfl) (h3 : X.K = c.K := by rfl) (h4 : X.mg = c.mg := by rfl) (h5 : X.base = c.base := by rfl)
    (hdb : (x == ("__debug__" : Str)) = false := by decide) (hcd : (x == ("__classdict__" : Str)) = false := by decide) (he : starEach (e :: es) X.env = (false, eval e X.env) :: starEach es X.env := by rfl) (hpl : (backTo pos (starEach es X.env)).any (·.1) = false := by rfl) :
    PE X (.Call (.Name x p) (e :: es) [] pos) (tCallL i f sp [] E0 t) := by
  obtain ⟨fd, F, kp, hb⟩ := O
  refine pe_callL (CX := CX0) (f := f) (fd := fd) (ps := ps) (ds := []) ?_ hr hN hv ?_ ?_ .nil pass0 ha hdb hcd he hpl
  · rw [h1, h2, h3, h4, h5]; exact F
  · rw [h3]; exact kp
  · rw [h3]; exact hb
end
def spHasForm (c : Ct) (f : Addr) (kd : PyData → Str → Bool) : Sp := fun vs H Q _ => ∃ v d a ws, vs = [v, .ref a, .ref f] ∧ Dp c.K H v d ∧ SqT c.K H a (ws.map V.str) ∧ (∀ z ∈ ws, (formsL.lookup z).isSome = true) ∧ FlatFst d ∧ Fit 2 d ∧ Tabs c.ts H ∧ ∀ H', Gr H H' → Q (.bl (hasFormK kd d ws)) H'
theorem sc_has_form : FnScope ["thing", "words", "fits", "asked", "part", "kind"] ["thing", "words", "fits"] (defScope s_has_form) := ⟨rfl, rfl, rfl, by decide +kernel, rfl, by decide +kernel, by decide +kernel⟩
theorem ok_has_form {c : Ct} (D : Tf c "has_form" s_has_form) (B : Bl c) (F : Fm c) (kd : PyData → Str → Bool) (fo : Addr) (O : OkA c fo 3 ["part", "kind"] (spKind c kd)) : Ok c "has_form" 5 ["thing", "words", "fits"] (spHasForm c fo kd) := by
  obtain ⟨aF, hF, hFv⟩ := F.forms
  refine tf_ok D sc_has_form (fun vs H Q E h => ?_) (fun _ _ _ _ _ _ us hl => match us, hl with | [_, _, _], _ => rfl) fun f cd tb A outer s H vs Q E TB hmt hr h => ?_
  · obtain ⟨v, d, a, ws, rfl, _⟩ := h
    rfl
  · obtain ⟨v, d, a, ws, rfl, hv, hW, hws, hfl, hfit, hT, q⟩ := h
    refine ⟨_, pss_cons (ps_if (PW.pt (pw_or (pt_not (pt_val (pe_callB call_isi (by rfl) B.isi (by decide +kernel) (pa_cons (pv 0) (pa_cons (pe_bltn (v := .ty "tuple") (by rfl) B.tuple (by decide +kernel) rfl) pa_nil)))))
        (pw_or (pt_not (pt_truth (pv 0) (by intro _; rfl))) (pw_or1 (pt_cmpR op_notIn_seq (pe_ix ix_tup (pv 0) pe_int (fun _ _ => rfl)) (pv 1) (by rfl))))))
        (pss_one (ps_ret pe_bl)) pss_nil)
      (pss_cons (ps_set (i := 3) sc_has_form.nd rfl (.inl rfl) (pe_ix ix_kdict (pe_glob (v := .ref aF) (by rfl) hF rfl) (pe_ix ix_tup (pv 0) pe_int (fun _ _ => rfl)) (fun _ _ => rfl)))
      (pss_cons (ps_if (pt_cmpR op_ne (pe_callB call_len_seq (by rfl) B.len PySem.boot_len (pa_cons (pv 0) pa_nil)) (pe_op op_add pe_int (pe_callB call_len_seq (by rfl) B.len PySem.boot_len (pa_cons (pv 3) pa_nil))) (nomark _)) (pss_one (ps_ret pe_bl)) pss_nil)
      (pss_one (ps_ret (pe_allG (own := [("part", 4), ("kind", 5)]) (g := gTup c.K 2 (gCons (gName 4) (gCons (gName 5) gNil))) (tt := tYes) rfl sc_has_form.nd hr (by rfl) B.all TB rfl (gok_by (N := ["thing", "words", "fits", "asked", "part", "kind"]) (sc := defScope s_has_form) (by decide +kernel))
        (RZ.pi_zipA (by rfl) B.zip (pa_cons (pe_slice sl_tup (pv 0) (po_some pe_int) po_none) (pa_cons (pv 3) pa_nil)))
        (fun _ _ _ _ _ _ _ _ => pg_tup rfl (pgs_cons (pg_name (i := 4) sc_has_form.nd rfl (.inl rfl)) (pgs_cons (pg_name (i := 5) sc_has_form.nd rfl (.inl rfl)) pgs_nil))) (fun _ _ _ _ _ _ _ _ => pts_nil)
        (fun _ _ _ _ _ _ _ _ => pe_l c 2 fo O ((room_gen hr _).mono (by decide)) (pa_cons (pv 4) (pa_cons (pv 5) pa_nil)))))))), ?_⟩
    have kt := kit_dp (K := c.K) d (dp_nodict hv) "tuple" (by simp)
    refine ⟨v, rfl, v, .ty "tuple", .type (tyD d), .type "tuple", _, rfl, .ty _, tyx_dp hv, kt, _, rfl, ?_⟩
    cases hv with
    | bl b => exact q H (.refl H)
    | non => exact q H (.refl H)
    | int i => exact q H (.refl H)
    | str i => exact q H (.refl H)
    | lst s1 s2 => exact q H (.refl H)
    | @tup p xs ds s1 s2 =>
      refine ⟨.ref p, rfl, !xs.isEmpty, .inr (.inl ⟨xs, s1, rfl⟩), ?_⟩
      cases s2 with
      | nil => exact q H (.refl H)
      | @cons x xs e ds hx hxs =>
        have hfe := hfl e ds rfl
        obtain ⟨fx, ix⟩ := eqV_text hx hfe ws
        refine ⟨.ref p, rfl, p, x :: xs, 0, x, rfl, rfl, s1, atI_nat (j := 0) rfl, .ref a, rfl, a, ws.map V.str, rfl, .inr hW, fx, flat_words ws, _, rfl, ?_⟩
        show (if (!inV x (ws.map V.str)) = true then _ else _)
        rw [ix]
        cases hx with
        | non => exact q H (.refl H)
        | bl b => exact q H (.refl H)
        | int i => exact q H (.refl H)
        | lst _ _ => cases hfe
        | tup _ _ => cases hfe
        | str z =>
          show (if (!ws.any (· == z)) = true then _ else _)
          cases hz : ws.any (· == z) with
          | false =>
            have e0 : hasFormK kd (.tuple (.str z :: ds)) ws = false := by
              show (ws.any (· == z) && _) = false
              rw [hz, Bool.false_and]
            rw [e0] at q
            exact q H (.refl H)
          | true =>
            refine iteF ?_
            have hzm : z ∈ ws := by
              obtain ⟨y, hy, ey⟩ := List.any_eq_true.mp hz
              rw [← eq_of_beq ey]; exact hy
            obtain ⟨ks, hks⟩ := Option.isSome_iff_exists.mp (hws z hzm)
            obtain ⟨t, hkd, hsq⟩ := hFv z ks hks
            have e0 : hasFormK kd (.tuple (.str z :: ds)) ws = (decide (ds.length = ks.length) && (ds.zip ks).all fun p => kd p.1 p.2) := by
              show (ws.any (· == z) && (match formsL.lookup z with
                | some ks => decide (ds.length = ks.length) && (ds.zip ks).all fun p => kd p.1 p.2
                | none => false)) = _
              rw [hz, Bool.true_and, hks]
            rw [e0] at q
            refine ⟨.ref p, rfl, p, _, 0, .str z, rfl, rfl, s1, atI_nat (j := 0) rfl, aF, z, .ref t, rfl, rfl, hkd, ?_⟩
            have hlen := dpAll_length hxs
            refine ⟨.ref p, rfl, p, _, rfl, .inr s1, .ref t, rfl, t, _, rfl, .inr (hsq H), 1, (((ks.map V.str).length : Nat) : Int), rfl, rfl, rfl, _, rfl, ?_⟩
            refine ite2 (fun e => ?_) fun e => ?_
            · -- lengths that differ
              have ne : ¬ ds.length = ks.length := fun z9 => by
                have e9 : (!decide (V.int (((V.str z :: xs).length : Nat) : Int) = V.int (1 + (((ks.map V.str).length : Nat) : Int)))) = true := e
                rw [decide_eq_true (by rw [List.length_cons, List.length_map, hlen, z9]; congr 1; omega)] at e9
                cases e9
              rw [decide_eq_false ne, Bool.false_and] at q
              exact q H (.refl H)
            · have hl9 : ds.length = ks.length := by
                have e9 : decide (V.int (((V.str z :: xs).length : Nat) : Int) = V.int (1 + (((ks.map V.str).length : Nat) : Int))) = true := by
                  cases e8 : decide (V.int (((V.str z :: xs).length : Nat) : Int) = V.int (1 + (((ks.map V.str).length : Nat) : Int))) with
                  | true => rfl
                  | false =>
                    exfalso
                    apply e
                    show (!decide (V.int (((V.str z :: xs).length : Nat) : Int) = V.int (1 + (((ks.map V.str).length : Nat) : Int)))) = true
                    rw [e8]; rfl
                have e8 := V.int.inj (of_decide_eq_true e9)
                rw [List.length_cons, List.length_map, hlen] at e8
                omega
              rw [decide_eq_true hl9, Bool.true_and] at q
              refine ⟨.ref p, rfl, 1, rfl, p, _, rfl, s1, cut_part _ _, fun T nT => ?_⟩
              rw [cutV_one]
              refine ⟨.ref t, rfl, T, t, xs, ks.map V.str, rfl, .inr ⟨.inl (.inl upd_same), hsq _, hT.gr (.new nT) tb hmt, fun H2 hTab => ?_⟩⟩
              have g0 : Gr H H2 := (Gr.new nT).trans (.tabbed (hT.gr (.new nT) tb hmt) hTab)
              have gT : H2 T = some (.tup xs) := (Gr.tabbed (hT.gr (.new nT) tb hmt) hTab).tup upd_same
              refine all_zipT (xs := xs) (ys := ks.map V.str) ds.length (by rw [List.length_map, hlen, ← hl9]; omega) (fun i H' => Gr H2 H' ∧ ((ds.zip ks).take i).all (fun p => kd p.1 p.2) = true) ⟨.refl _, rfl⟩ (fun i H' ⟨hg, _⟩ => ⟨.inl (.inl (hg.tup gT)), hsq _⟩) (fun i x y T' H' hx hy ⟨hg, ha⟩ nT' => ?_) fun H' ⟨hg, ha⟩ => ?_
              · obtain ⟨kn, hkd2, rfl⟩ : ∃ kn, ks[i]? = some kn ∧ y = .str kn := by
                  rw [List.getElem?_map] at hy
                  cases e9 : ks[i]? with
                  | none => rw [e9] at hy; cases hy
                  | some kn => rw [e9] at hy; exact ⟨kn, rfl, (Option.some.inj hy).symm⟩
                obtain ⟨d1, hd1, hdp⟩ := dpAll_get hxs hx
                have hz1 : (ds.zip ks)[i]? = some (d1, kn) := by
                  rw [List.getElem?_zip_eq_some]; exact ⟨hd1, hkd2⟩
                have hfd : FitD d1 := (hfit.2.1 _ rfl d1 (List.mem_cons_of_mem _ (List.mem_of_getElem? hd1))).1
                have gA : Gr H (upd H' T' (.tup [x, .str kn])) := (g0.trans hg).trans (.new nT')
                refine ⟨T', [x, .str kn], rfl, .inl (.inl upd_same), rfl, x, [.str kn], rfl, .str kn, [], rfl, rfl, rfl, ?_⟩
                refine ⟨rfl, x, rfl, .str kn, rfl, x, d1, kn, rfl, dp_gr gA hdp, hfd, hT.gr gA, fun H3 hg3 => ⟨_, rfl, ?_⟩⟩
                cases hb : kd d1 kn with
                | false =>
                  refine iteT' ?_
                  have e9 : (ds.zip ks).all (fun p => kd p.1 p.2) = false := by
                    rw [List.all_eq_false]
                    exact ⟨(d1, kn), List.mem_of_getElem? hz1, by rw [hb]; decide⟩
                  rw [e9] at q
                  exact q H3 (gA.trans hg3)
                | true =>
                  refine iteF' ⟨(hg.trans (.new nT')).trans hg3, ?_⟩
                  rw [List.take_add_one, hz1, List.all_append, ha]
                  simp [hb]
              · rw [List.take_of_length_le (by rw [List.length_zip, hl9]; omega)] at ha
                rw [ha] at q
                exact q H' (g0.trans hg)
end Pm
set_option maxHeartbeats 4000000
/-! Comprehensions by an invariant; heaps behind them. -/
namespace Pm
open PySem PySem.Spec PyProof.Rows L2 GxR GX
theorem Gr.put {H H' : Hp} {D : Addr} {o : HO} (g : Gr H H') (n : H D = none) (nc : NoC H' D := by first | exact NoC.lst (by assumption) | exact NoC.free (by assumption) | exact NoC.tup (by assumption) | exact NoC.dK (by assumption) | exact NoC.lst upd_same | exact NoC.tup upd_same | exact NoC.dK upd_same | exact NoC.ins (by assumption) | exact NoC.frz (by assumption)) : Gr H (upd H' D o) := fun b x e => by
  have nb : b ≠ D := ne_of_none e n
  rw [upd_ne nb]
  rcases g b x e with q | ⟨ps, ps', rfl, q, t, u⟩
  · exact .inl q
  · exact .inr ⟨ps, ps', rfl, q, t, fun pos cv z => (u pos cv z).imp id (goodC_put nc)⟩
section
variable {K : PySem.W.Frag} {g : TG} {tt : TT} {te tk tv : TE} {vs : List Nat} {σ : L2.St} {H1 : Hp} {D : Addr} {Qd : Hp → Prop} {J : It}
theorem lc_n (n : Nat) (Pv : Nat → Hp → Prop) (h0 : Pv 0 (upd H1 D (.lst []))) (hgo : ∀ i H, i < n → Pv i H → J.go i H) (hst : ∀ H, Pv n H → J.stop n H)
    (hs : ∀ i H x H', i < n → Pv i H → J.yld i H x H' → g x (wipe σ vs) H' fun σ2 H2 => wipe σ2 vs = wipe σ vs ∧ tt σ2 H2 fun b H3 =>
      if b = true then te σ2 H3 fun y H4 => ∃ acc, H4 D = some (.lst acc) ∧ acc.length < sizeLine ∧ Pv (i + 1) (upd H4 D (.lst (acc ++ [y]))) else Pv (i + 1) H3) (hd : ∀ H, Pv n H → Qd H) :
    ∃ W : Nat → Nat → Hp → Prop, (∃ m, W 0 m (upd H1 D (.lst []))) ∧ ∀ i m H, W i m H →
      (J.stop i H ∧ Qd H) ∨ (J.go i H ∧ ∃ Nx : Hp → Prop, (∀ H', Nx H' → ∃ m', m' < m ∧ W (i + 1) m' H') ∧ ∀ x H', J.yld i H x H' → g x (wipe σ vs) H' fun σ2 H2 => wipe σ2 vs = wipe σ vs ∧ tt σ2 H2 fun b H3 =>
        if b = true then te σ2 H3 fun y H4 => ∃ acc, H4 D = some (.lst acc) ∧ acc.length < sizeLine ∧ Nx (upd H4 D (.lst (acc ++ [y]))) else Nx H3) := by
  refine ⟨fun i m H => m = n - i ∧ i ≤ n ∧ Pv i H, ⟨n, by simp, Nat.zero_le _, h0⟩, ?_⟩
  rintro i m H ⟨rfl, hi, p⟩
  by_cases hlt : i < n
  · exact .inr ⟨hgo i H hlt p, Pv (i + 1), fun H' p' => ⟨n - (i + 1), by omega, rfl, hlt, p'⟩, fun x H' y => hs i H x H' hlt p y⟩
  · have e : i = n := by omega
    subst e
    exact .inl ⟨hst H p, hd H p⟩
theorem lc_zipT {a b : Addr} {xs ys : List V} (n : Nat) (hn : n = min xs.length ys.length) (Pv : Nat → Hp → Prop) (h0 : Pv 0 (upd H1 D (.lst []))) (hl : ∀ i H, Pv i H → SqT K H a xs ∧ SqT K H b ys)
    (hs : ∀ i x y T H, xs[i]? = some x → ys[i]? = some y → Pv i H → H T = none → g (.ref T) (wipe σ vs) (upd H T (.tup [x, y])) fun σ2 H2 => wipe σ2 vs = wipe σ vs ∧ tt σ2 H2 fun b H3 =>
      if b = true then te σ2 H3 fun y H4 => ∃ acc, H4 D = some (.lst acc) ∧ acc.length < sizeLine ∧ Pv (i + 1) (upd H4 D (.lst (acc ++ [y]))) else Pv (i + 1) H3) (hd : ∀ H, Pv n H → Qd H) :
    ∃ W : Nat → Nat → Hp → Prop, (∃ m, W 0 m (upd H1 D (.lst []))) ∧ ∀ i m H, W i m H →
      ((RZ.ItzT K a b).stop i H ∧ Qd H) ∨ ((RZ.ItzT K a b).go i H ∧ ∃ Nx : Hp → Prop, (∀ H', Nx H' → ∃ m', m' < m ∧ W (i + 1) m' H') ∧ ∀ x H', (RZ.ItzT K a b).yld i H x H' → g x (wipe σ vs) H' fun σ2 H2 => wipe σ2 vs = wipe σ vs ∧ tt σ2 H2 fun b H3 =>
        if b = true then te σ2 H3 fun y H4 => ∃ acc, H4 D = some (.lst acc) ∧ acc.length < sizeLine ∧ Nx (upd H4 D (.lst (acc ++ [y]))) else Nx H3) := by
  refine lc_n n Pv h0 (fun i H h p => ⟨xs, ys, xs[i]'(by omega), ys[i]'(by omega), (hl i H p).1, (hl i H p).2, List.getElem?_eq_getElem (by omega), List.getElem?_eq_getElem (by omega)⟩) (fun H p => ⟨xs, ys, (hl _ H p).1, (hl _ H p).2, by omega⟩) (fun i H v H' h p y => ?_) hd
  obtain ⟨T, x, y, rfl, hT, rfl, h1, h2⟩ := y
  exact hs i x y T H (h1 xs (hl i H p).1) (h2 ys (hl i H p).2) p hT
end
end Pm
set_option maxHeartbeats 4000000
namespace Pm
open PySem PySem.Spec PyProof.Rows L2 GxR GX
/-! ### parts_of -/
def partsV : List V → List Str → Str → List V
  | v :: vs, k :: ks, kind => if k = kind then v :: partsV vs ks kind else partsV vs ks kind
  | _, _, _ => []
theorem partsV_length : ∀ (vs : List V) (ks : List Str) (kind : Str), (partsV vs ks kind).length ≤ ks.length
  | [], [], _ => Nat.le_refl _
  | [], _ :: _, _ => Nat.zero_le _
  | _ :: _, [], _ => Nat.le_refl _
  | v :: vs, k :: ks, kind => by
    have ih := partsV_length vs ks kind
    unfold partsV
    split
    · rw [List.length_cons, List.length_cons]; omega
    · rw [List.length_cons]; omega
theorem partsV_take : ∀ (vs : List V) (ks : List Str) (kind : Str) (i : Nat) (v : V) (k : Str), vs[i]? = some v → ks[i]? = some k →
    partsV (vs.take (i + 1)) (ks.take (i + 1)) kind = partsV (vs.take i) (ks.take i) kind ++ (if k = kind then [v] else [])
  | [], _, _, _, _, _, h, _ => by simp at h
  | _ :: _, [], _, _, _, _, _, h => by simp at h
  | x :: vs, y :: ks, kind, 0, v, k, h1, h2 => by
    simp only [List.getElem?_cons_zero, Option.some.injEq] at h1 h2
    subst h1 h2
    simp only [List.take_succ_cons, List.take_zero, partsV]
    split <;> rfl
  | x :: vs, y :: ks, kind, i + 1, v, k, h1, h2 => by
    have ih := partsV_take vs ks kind i v k (by simpa using h1) (by simpa using h2)
    simp only [List.take_succ_cons, partsV] at ih ⊢
    rw [ih]
    split <;> rfl
def spPartsOf (c : Ct) : Sp := fun vs H Q _ => ∃ a z rest ks kind, vs = [.ref a, .str kind] ∧ SqT c.K H a (.str z :: rest) ∧ formsL.lookup z = some ks ∧ rest.length = ks.length ∧ Tabs c.ts H ∧
  ∀ H' p, Gr H H' → H p = none → H' p = some (.lst (partsV rest ks kind)) → Q (.ref p) H'
theorem sc_parts_of : FnScope ["row", "kind", "part", "known"] ["row", "kind"] (defScope s_parts_of) := ⟨rfl, rfl, rfl, by decide +kernel, rfl, by decide +kernel, by decide +kernel⟩
theorem forms_short : ∀ p ∈ formsL, p.2.length ≤ 3 := by decide +kernel
theorem lookup_mem2 {α : Type} {z : Str} {v : α} : ∀ {l : List (Str × α)}, l.lookup z = some v → (z, v) ∈ l
  | [], h => by simp at h
  | (k, u) :: r, h => by
    rw [List.lookup_cons] at h
    cases hb : z == k with
    | true =>
      rw [hb] at h
      simp only [Option.some.injEq] at h
      rw [eq_of_beq hb, h]
      exact List.mem_cons_self
    | false =>
      rw [hb] at h
      exact List.mem_cons_of_mem _ (lookup_mem2 h)
theorem forms_len {z : Str} {ks : List Str} (h : formsL.lookup z = some ks) : ks.length ≤ 3 := forms_short _ (lookup_mem2 h)
theorem ok_parts_of {c : Ct} (D : Df c "parts_of" s_parts_of) (B : Bl c) (F : Fm c) : Ok c "parts_of" 1 ["row", "kind"] (spPartsOf c) := by
  obtain ⟨aF, hF, hFv⟩ := F.forms
  refine df_ok D sc_parts_of (fun vs H Q E h => ?_) (fun _ _ _ _ _ _ us hl => match us, hl with | [_, _], _ => rfl) fun f cd A outer s H vs Q E hr h => ?_
  · obtain ⟨a, z, rest, ks, kind, rfl, _⟩ := h
    rfl
  · obtain ⟨a, z, rest, ks, kind, rfl, hS, hks, hlen, hT, q⟩ := h
    obtain ⟨t, hkd, hsq⟩ := hFv z ks hks
    refine ⟨_, pss_one (ps_ret (pe_lc (own := [("part", 2), ("known", 3)]) (g := gTup c.K 2 (gCons (gName 2) (gCons (gName 3) gNil))) (tt := tB (tOp rEq (tVar 3) (tVar 1))) rfl sc_parts_of.nd
      (RZ.pi_zipA (by rfl) B.zip (pa_cons (pe_slice sl_tup (pv 0) (po_some pe_int) po_none) (pa_cons (pe_ix ix_kdict (pe_glob (v := .ref aF) (by rfl) hF rfl) (pe_ix ix_tup (pv 0) pe_int (fun _ _ => rfl)) (fun _ _ => rfl)) pa_nil)))
      (blkOk_by (N := ["row", "kind", "part", "known"]) (sc := defScope s_parts_of) (by decide +kernel))
      (fun _ _ _ _ _ => pg_tup rfl (pgs_cons (pg_name (i := 2) sc_parts_of.nd rfl (.inl rfl)) (pgs_cons (pg_name (i := 3) sc_parts_of.nd rfl (.inl rfl)) pgs_nil)))
      (fun _ _ _ _ _ => pts_one (pt_cmpR op_eq (pv 3) (pv 1) (nomark _))) (fun _ _ _ _ _ => pv 2))), ?_⟩
    refine ⟨.ref a, rfl, 1, rfl, a, _, rfl, hS, cut_part _ _, fun T nT => ?_⟩
    rw [cutV_one]
    have g1 := Gr.new (o := .tup rest) nT
    refine ⟨.ref a, rfl, a, _, 0, .str z, rfl, rfl, g1.sqT hS, atI_nat (j := 0) rfl, aF, z, .ref t, rfl, rfl, hkd, ?_⟩
    refine ⟨T, t, rest, ks.map V.str, rfl, .inr ⟨.inl (.inl upd_same), hsq _, fun D nD => ?_⟩⟩
    refine lc_zipT (xs := rest) (ys := ks.map V.str) ks.length (by rw [List.length_map, hlen]; omega) (fun i H' => Gr (upd H T (.tup rest)) H' ∧ H' D = some (.lst (partsV (rest.take i) (ks.take i) kind))) ⟨(Gr.refl _).put nD, upd_same⟩
      (fun i H' ⟨hg, _⟩ => ⟨.inl (.inl (hg.tup upd_same)), hsq _⟩) (fun i x y T' H' hx hy ⟨hg, hD⟩ nT' => ?_) fun H' ⟨hg, hD⟩ => ?_
    · obtain ⟨kd, hkd2, rfl⟩ : ∃ kd, ks[i]? = some kd ∧ y = .str kd := by
        rw [List.getElem?_map] at hy
        cases e9 : ks[i]? with
        | none => rw [e9] at hy; cases hy
        | some kd => rw [e9] at hy; exact ⟨kd, rfl, (Option.some.inj hy).symm⟩
      have nDT : D ≠ T' := ne_of_none hD nT'
      have hD2 : (upd H' T' (.tup [x, .str kd])) D = some (.lst (partsV (rest.take i) (ks.take i) kind)) := by rw [upd_ne nDT]; exact hD
      have hg2 : Gr (upd H T (.tup rest)) (upd H' T' (.tup [x, .str kd])) := hg.trans (.new nT')
      have ht := partsV_take rest ks kind i x kd hx hkd2
      refine ⟨T', [x, .str kd], rfl, .inl (.inl upd_same), rfl, x, [.str kd], rfl, .str kd, [], rfl, rfl, rfl, ?_⟩
      refine ⟨.str kd, rfl, .str kind, rfl, rfl, _, rfl, ite2 (fun e => ?_) fun e => ?_⟩
      · have ek : kd = kind := V.str.inj (of_decide_eq_true e)
        refine ⟨x, rfl, _, hD2, ?_, hg2.put nD, ?_⟩
        · have l1 := partsV_length (rest.take i) (ks.take i) kind
          have l2 := forms_len hks
          have l3 : (ks.take i).length ≤ ks.length := by rw [List.length_take]; omega
          exact small1000 (by omega)
        · rw [upd_same, ht, if_pos ek]
      · have ek : ¬ kd = kind := fun e2 => e (by rw [e2]; exact decide_eq_true rfl)
        refine ⟨hg2, ?_⟩
        rw [ht, if_neg ek, List.append_nil]
        exact hD2
    · rw [List.take_of_length_le (Nat.le_of_eq hlen), List.take_of_length_le (Nat.le_refl _)] at hD
      exact q H' D (g1.trans hg) (g1.free nD) hD
/-! ### rows_of -/
def spRowsOf (c : Ct) : Sp := fun vs H Q _ => ∃ a n p en xs, vs = [.ref a] ∧ SqT c.K H a [n, .ref p, en] ∧ SqT c.K H p xs ∧ xs.length ≤ 100 ∧ ∀ t, H t = none → Q (.ref t) (upd H t (.tup (xs ++ [en])))
theorem sc_rows_of : FnScope ["block", "name", "steps", "end"] ["block"] (defScope s_rows_of) := ⟨rfl, rfl, rfl, by decide +kernel, rfl, by decide +kernel, by decide +kernel⟩
theorem ok_rows_of {c : Ct} (D : Df c "rows_of" s_rows_of) : Ok c "rows_of" 1 ["block"] (spRowsOf c) := by
  refine df_ok D sc_rows_of (fun vs H Q E h => ?_) (fun _ _ _ _ _ _ us hl => match us, hl with | [_], _ => rfl) fun f cd A outer s H vs Q E hr h => ?_
  · obtain ⟨a, n, p, en, xs, rfl, _⟩ := h
    rfl
  · obtain ⟨a, n, p, en, xs, rfl, hA, hP, hx, q⟩ := h
    refine ⟨_, pss_cons (ps_asg (pv 0) (pg_tup rfl (pgs_cons (pg_name (i := 1) sc_rows_of.nd rfl (.inl rfl)) (pgs_cons (pg_name (i := 2) sc_rows_of.nd rfl (.inl rfl)) (pgs_cons (pg_name (i := 3) sc_rows_of.nd rfl (.inl rfl)) pgs_nil)))))
      (pss_one (ps_ret (pe_tup (StX.pa_star (pv 2) (pa_cons (pv 3) pa_nil))))), ?_⟩
    refine ⟨.ref a, rfl, a, _, rfl, hA, rfl, n, _, rfl, .ref p, _, rfl, en, _, rfl, rfl, ?_⟩
    refine ⟨.ref p, rfl, p, xs, rfl, .inl hP, en, rfl, ?_, fun t nt => q t nt⟩
    show (xs ++ [en]).length ≤ sizeLine
    rw [List.length_append, List.length_singleton]
    exact Nat.le_of_lt (small1000 (by omega))
end Pm
set_option maxHeartbeats 4000000
namespace Pm
open PySem PySem.Spec PyProof.Rows L2 GxR GX
/-! ### is_block -/
def stepsD (d : PyData) : Bool := match d with
  | .tuple ss => decide (ss.length ≤ 16) && ss.all fun s => hasFormK kindD s stepWords
  | _ => false
def blockD (d : PyData) : Bool := match d with
  | .tuple [n, st, en] => (nameD n && hasFormK kindD en endWords) && stepsD st
  | _ => false
def FlatB (d : PyData) : Prop := ∀ n st en, d = .tuple [n, st, en] → FlatFst en ∧ ∀ ss, st = .tuple ss → ∀ s ∈ ss, FlatFst s
def spIsBlock (c : Ct) : Sp := fun vs H Q _ => ∃ v d, vs = [v] ∧ Dp c.K H v d ∧ FlatB d ∧ Fit 4 d ∧ Tabs c.ts H ∧ ∀ H', Gr H H' → Q (.bl (blockD d)) H'
theorem sc_is_block : FnScope ["thing", "name", "steps", "end", "step"] ["thing"] (defScope s_is_block) := ⟨rfl, rfl, rfl, by decide +kernel, rfl, by decide +kernel, by decide +kernel⟩
theorem words_forms : (∀ z ∈ stepWords, (formsL.lookup z).isSome = true) ∧ ∀ z ∈ endWords, (formsL.lookup z).isSome = true := by decide +kernel
theorem Fit.mono {n : Nat} : ∀ {d : PyData}, Fit (n + 1) d → Fit n d := by
  induction n with
  | zero => exact fun _ => trivial
  | succ n ih => exact fun h => ⟨h.1, fun ds e x hx => ih (h.2.1 ds e x hx), fun ds e x hx => ih (h.2.2 ds e x hx)⟩
theorem blockD_len {ds : List PyData} (h : ds.length ≠ 3) : blockD (.tuple ds) = false := by
  match ds, h with
  | [], _ => rfl
  | [_], _ => rfl
  | [_, _], _ => rfl
  | [_, _, _], h => exact absurd rfl h
  | _ :: _ :: _ :: _ :: _, _ => rfl
theorem ok_is_block {c : Ct} (D : Tf c "is_block" s_is_block) (B : Bl c) (F : Fm c) (hM : ∃ t, c.mg "MOST_STEPS" = some (.int 16 t)) (O1 : Ok c "is_name" 2 ["thing"] (spIsName c)) (fo : Addr) (hfo : c.mg "is_part" = some (.ref fo)) (O2 : Ok c "has_form" 5 ["thing", "words", "fits"] (spHasForm c fo kindD)) : Ok c "is_block" 7 ["thing"] (spIsBlock c) := by
  obtain ⟨aS, hS, hSv⟩ := F.steps
  obtain ⟨aE, hE, hEv⟩ := F.ends
  obtain ⟨tM, hM⟩ := hM
  refine tf_ok D sc_is_block (fun vs H Q E h => ?_) (fun _ _ _ _ _ _ us hl => match us, hl with | [_], _ => rfl) fun f cd tb A outer s H vs Q E TB hmt hr h => ?_
  · obtain ⟨v, d, rfl, _⟩ := h
    rfl
  · obtain ⟨v, d, rfl, hv, hfl, hfit, hT, q⟩ := h
    refine ⟨_, pss_cons (ps_if (PW.pt (pw_or (pt_not (pt_val (pe_callB call_isi (by rfl) B.isi (by decide +kernel) (pa_cons (pv 0) (pa_cons (pe_bltn (v := .ty "tuple") (by rfl) B.tuple (by decide +kernel) rfl) pa_nil)))))
        (pw_or1 (pt_cmpR op_ne (pe_callB call_len_seq (by rfl) B.len PySem.boot_len (pa_cons (pv 0) pa_nil)) pe_int (nomark _)))))
        (pss_one (ps_ret pe_bl)) pss_nil)
      (pss_cons (ps_asg (pv 0) (pg_tup rfl (pgs_cons (pg_name (i := 1) sc_is_block.nd rfl (.inl rfl)) (pgs_cons (pg_name (i := 2) sc_is_block.nd rfl (.inl rfl)) (pgs_cons (pg_name (i := 3) sc_is_block.nd rfl (.inl rfl)) pgs_nil)))))
      (pss_cons (ps_if (PW.pt (pw_or (pt_not (pt_val (pe_f c O1 (hr.mono (by decide)) (pa_cons (pv 1) pa_nil)))) (pw_or1 (pt_not (pt_val (pe_f c O2 (hr.mono (by decide)) (pa_cons (pv 3) (pa_cons (pe_glob (v := .ref aE) (by rfl) hE rfl) (pa_cons (pe_glob (v := .ref fo) (by rfl) hfo rfl) pa_nil)))))))))
        (pss_one (ps_ret pe_bl)) pss_nil)
      (pss_cons (ps_if (PW.pt (pw_or (pt_not (pt_val (pe_callB call_isi (by rfl) B.isi (by decide +kernel) (pa_cons (pv 2) (pa_cons (pe_bltn (v := .ty "tuple") (by rfl) B.tuple (by decide +kernel) rfl) pa_nil)))))
        (pw_or1 (pt_cmpR op_gt (pe_callB call_len_seq (by rfl) B.len PySem.boot_len (pa_cons (pv 2) pa_nil)) (pe_glob (v := .int 16) (by rfl) hM ⟨_, rfl⟩) (nomark _)))))
        (pss_one (ps_ret pe_bl)) pss_nil)
      (pss_one (ps_ret (pe_allG (own := [("step", 4)]) (g := gName 4) (tt := tYes) rfl sc_is_block.nd hr (by rfl) B.all TB rfl (gok_by (N := ["thing", "name", "steps", "end", "step"]) (sc := defScope s_is_block) (by decide +kernel))
        (pi_tup (pv 2)) (fun _ _ _ _ _ _ _ _ => pg_name (i := 4) sc_is_block.nd rfl (.inl rfl)) (fun _ _ _ _ _ _ _ _ => pts_nil)
        (fun _ _ _ _ _ _ _ _ => pe_f c O2 (room_gen hr _) (pa_cons (pv 4) (pa_cons (pe_glob (v := .ref aS) (by rfl) hS rfl) (pa_cons (pe_glob (v := .ref fo) (by rfl) hfo rfl) pa_nil)))))))))), ?_⟩
    have kt := kit_dp (K := c.K) d (dp_nodict hv) "tuple" (by simp)
    refine ⟨v, rfl, v, .ty "tuple", .type (tyD d), .type "tuple", _, rfl, .ty _, tyx_dp hv, kt, _, rfl, ?_⟩
    cases hv with
    | bl b => exact q H (.refl H)
    | non => exact q H (.refl H)
    | int i => exact q H (.refl H)
    | str i => exact q H (.refl H)
    | lst s1 s2 => exact q H (.refl H)
    | @tup p xs ds s1 s2 =>
      have hl := dpAll_length s2
      refine ⟨.ref p, rfl, p, xs, rfl, .inr s1, rfl, _, rfl, ite2 (fun e => ?_) fun e => ?_⟩
      · have ne : ds.length ≠ 3 := fun z9 => by
          have e9 : (!decide (V.int ((xs.length : Nat) : Int) = V.int 3)) = true := e
          rw [decide_eq_true (by rw [hl, z9]; rfl)] at e9
          cases e9
        rw [blockD_len ne] at q
        exact q H (.refl H)
      · have h3 : xs.length = 3 := by
          cases e8 : decide (V.int ((xs.length : Nat) : Int) = V.int 3) with
          | true =>
            have e7 := V.int.inj (of_decide_eq_true e8)
            omega
          | false =>
            exfalso
            apply e
            show (!decide (V.int ((xs.length : Nat) : Int) = V.int 3)) = true
            rw [e8]; rfl
        cases s2 with
        | nil => cases h3
        | @cons n xs nD ds hn s2 =>
        cases s2 with
        | nil => cases h3
        | @cons st xs stD ds hst s2 =>
        cases s2 with
        | nil => cases h3
        | @cons en xs enD ds hen s2 =>
        cases s2 with
        | cons _ _ => cases h3
        | nil =>
        obtain ⟨fl1, fl2⟩ := hfl nD stD enD rfl
        have fit1 := hfit.2.1 _ rfl nD (by simp)
        have fit2 := hfit.2.1 _ rfl stD (by simp)
        have fit3 := hfit.2.1 _ rfl enD (by simp)
        refine ⟨.ref p, rfl, p, _, rfl, s1, rfl, n, _, rfl, st, _, rfl, en, _, rfl, rfl, ?_⟩
        have q' : ∀ H', Gr H H' → Q (.bl ((nameD nD && hasFormK kindD enD endWords) && stepsD stD)) H' := q
        refine ⟨n, rfl, n, nD, rfl, hn, fit1.1, hT, fun H1 g1 => ⟨_, rfl, ?_⟩⟩
        cases b1 : nameD nD with
        | false =>
          rw [b1] at q'
          exact q' H1 g1
        | true =>
          refine ⟨en, rfl, en, enD, aE, endWords, rfl, dp_gr g1 hen, hEv _, words_forms.2, fl1, fit3.mono, hT.gr g1, fun H2 g2 => ⟨_, rfl, ?_⟩⟩
          have g12 := g1.trans g2
          cases b2 : hasFormK kindD enD endWords with
          | false =>
            rw [b1, b2] at q'
            exact q' H2 g12
          | true =>
            rw [b1, b2] at q'
            have q2 : ∀ H', Gr H H' → Q (.bl (stepsD stD)) H' := q'
            have kt2 := kit_dp (K := c.K) stD (dp_nodict hst) "tuple" (by simp)
            refine ⟨st, rfl, st, .ty "tuple", .type (tyD stD), .type "tuple", _, rfl, .ty _, tyx_dp (dp_gr g12 hst), kt2, _, rfl, ?_⟩
            cases hst with
            | bl b => exact q2 H2 g12
            | non => exact q2 H2 g12
            | int i => exact q2 H2 g12
            | str i => exact q2 H2 g12
            | lst s1 s2 => exact q2 H2 g12
            | @tup ps ss ssD t1 t2 =>
              have hl2 := dpAll_length t2
              have t1' := g12.sqT t1
              refine ⟨.ref ps, rfl, ps, ss, rfl, .inr t1', _, _, rfl, rfl, _, rfl, ite2 (fun e => ?_) fun e => ?_⟩
              · have e9 := of_decide_eq_true e
                have e0 : stepsD (.tuple ssD) = false := by
                  show (decide (ssD.length ≤ 16) && _) = false
                  rw [decide_eq_false (by omega), Bool.false_and]
                rw [e0] at q2
                exact q2 H2 g12
              · have e9 : ssD.length ≤ 16 := by
                  refine Nat.le_of_not_lt fun z => e (decide_eq_true ?_)
                  omega
                have e0 : stepsD (.tuple ssD) = ssD.all fun s => hasFormK kindD s stepWords := by
                  show (decide (ssD.length ≤ 16) && _) = _
                  rw [decide_eq_true e9, Bool.true_and]
                rw [e0] at q2
                refine ⟨.ref ps, rfl, ps, rfl, ⟨ss, t1'⟩, hT.gr g12 tb hmt, fun H3 hTab => ?_⟩
                have g3 : Gr H H3 := g12.trans (.tabbed (hT.gr g12 tb hmt) hTab)
                refine all_tup (xs := ss) (fun i H' => Gr H H' ∧ (ssD.take i).all (fun s => hasFormK kindD s stepWords) = true) ⟨g3, rfl⟩ (fun i H' ⟨hg, _⟩ => hg.sqT t1) (fun i x H' hx ⟨hg, ha⟩ => ?_) fun H' ⟨hg, ha⟩ => ?_
                · obtain ⟨d1, hd1, hdp⟩ := dpAll_get t2 hx
                  have hm1 := List.mem_of_getElem? hd1
                  refine ⟨rfl, x, rfl, x, d1, aS, stepWords, rfl, dp_gr hg hdp, hSv _, words_forms.1, fl2 _ rfl d1 hm1, fit2.2.1 _ rfl d1 hm1, hT.gr hg, fun H4 g4 => ⟨_, rfl, ?_⟩⟩
                  cases hb : hasFormK kindD d1 stepWords with
                  | false =>
                    refine iteT' ?_
                    have e9 : ssD.all (fun s => hasFormK kindD s stepWords) = false := by
                      rw [List.all_eq_false]
                      exact ⟨d1, hm1, by rw [hb]; decide⟩
                    rw [e9] at q2
                    exact q2 H4 (hg.trans g4)
                  | true =>
                    refine iteF' ⟨hg.trans g4, ?_⟩
                    rw [List.take_add_one, hd1, List.all_append, ha]
                    simp [hb]
                · rw [List.take_of_length_le (Nat.le_of_eq hl2.symm)] at ha
                  rw [ha] at q2
                  exact q2 H' hg
end Pm
set_option maxHeartbeats 4000000
namespace Pm
open PySem PySem.Spec PyProof.Rows L2 GxR GX
/-! ### is_program -/
def strsD : List PyData → List Str → Str → List Str
  | .str x :: ds, k :: ks, kind => if k = kind then x :: strsD ds ks kind else strsD ds ks kind
  | _ :: ds, _ :: ks, kind => strsD ds ks kind
  | _, _, _ => []
theorem parts_strs {K : PySem.W.Frag} {H : Hp} {kind : Str} (hk : kind ≠ "value") : ∀ {vs : List V} {ds : List PyData} {ks : List Str}, DpAll K H vs ds → ((ds.zip ks).all fun p => kindD p.1 p.2) = true → partsV vs ks kind = (strsD ds ks kind).map V.str
  | _, _, _, .nil, _ => by simp [partsV, strsD]
  | _, _, [], .cons (d := d) r t, _ => by cases d <;> simp [partsV, strsD]
  | _, _, k :: ks, .cons (v := v) (d := d) (ds := ds) r t, h => by
    have h2 : (kindD d k && (ds.zip ks).all fun p => kindD p.1 p.2) = true := h
    obtain ⟨h3, h4⟩ := Bool.and_eq_true_iff.mp h2
    have ih := parts_strs hk t h4
    by_cases e : k = kind
    · have h5 : nameD d = true := by
        have e0 : kindD d k = nameD d := if_neg (by rw [e]; exact hk)
        rw [← e0]; exact h3
      cases r with
      | str x => simp only [partsV, strsD, if_pos e, List.map_cons, ih]
      | non => cases h5
      | bl b => cases h5
      | int i => cases h5
      | lst _ _ => cases h5
      | tup _ _ => cases h5
    · cases d <;> simp only [partsV, strsD, if_neg e, ih]
def nmD : PyData → Str
  | .tuple (.str n :: _) => n
  | _ => Str.empty
def tgD : PyData → List Str
  | .tuple [_, _, .tuple (.str z :: ds)] => strsD ds ((formsL.lookup z).getD []) "block"
  | _ => []
def progD (d : PyData) : Bool := match d with
  | .tuple bs => (decide (1 ≤ (bs.length : Int)) && decide ((bs.length : Int) ≤ 12)) && (bs.all blockD && (decide (bs.map nmD).Nodup && bs.all fun b => (tgD b).all fun t => decide (t ∈ bs.map nmD)))
  | _ => false
/-- a block by its parts -/
theorem block_parts {K : PySem.W.Frag} {H : Hp} {v : V} {d : PyData} (h : Dp K H v d) (hb : blockD d = true) : ∃ a n p e z rest ds ks, v = .ref a ∧ SqT K H a [.str n, .ref p, .ref e] ∧ nmD d = n ∧ SqT K H e (.str z :: rest) ∧ DpAll K H rest ds ∧ formsL.lookup z = some ks ∧ rest.length = ks.length ∧ tgD d = strsD ds ks "block" ∧
    ((ds.zip ks).all fun p => kindD p.1 p.2) = true ∧ ∃ ss, SqT K H p ss ∧ ss.length ≤ 16 := by
  cases h with
  | non => cases hb
  | bl b => cases hb
  | int i => cases hb
  | str x => cases hb
  | lst _ _ => cases hb
  | @tup a xs ds s1 s2 =>
    have h3 : ds.length = 3 := Classical.byContradiction fun ne => by
      rw [blockD_len ne] at hb
      cases hb
    cases s2 with
    | nil => cases h3
    | @cons n xs nD ds hn s2 =>
    cases s2 with
    | nil => cases h3
    | @cons st xs stD ds hst s2 =>
    cases s2 with
    | nil => cases h3
    | @cons en xs enD ds hen s2 =>
    cases s2 with
    | cons _ _ => cases h3
    | nil =>
    have hb2 : ((nameD nD && hasFormK kindD enD endWords) && stepsD stD) = true := hb
    obtain ⟨hb3, hb4⟩ := Bool.and_eq_true_iff.mp hb2
    obtain ⟨hb5, hb6⟩ := Bool.and_eq_true_iff.mp hb3
    cases hn with
    | non => cases hb5
    | bl b => cases hb5
    | int i => cases hb5
    | lst _ _ => cases hb5
    | tup _ _ => cases hb5
    | str n =>
    cases hst with
    | non => cases hb4
    | bl b => cases hb4
    | int i => cases hb4
    | lst _ _ => cases hb4
    | str _ => cases hb4
    | @tup p ss ssD t1 t2 =>
    have hb7 : (decide (ssD.length ≤ 16) && ssD.all fun s => hasFormK kindD s stepWords) = true := hb4
    have hlen := of_decide_eq_true (Bool.and_eq_true_iff.mp hb7).1
    cases hen with
    | non => cases hb6
    | bl b => cases hb6
    | int i => cases hb6
    | lst _ _ => cases hb6
    | str _ => cases hb6
    | @tup e xs ds u1 u2 =>
    cases u2 with
    | nil => cases hb6
    | @cons x rest xD ds hx hrest =>
    cases hx with
    | non => cases hb6
    | bl b => cases hb6
    | int i => cases hb6
    | lst _ _ => cases hb6
    | tup _ _ => cases hb6
    | str z =>
    have hb8 : (endWords.any (· == z) && (match formsL.lookup z with
      | some ks => decide (ds.length = ks.length) && (ds.zip ks).all fun p => kindD p.1 p.2
      | none => false)) = true := hb6
    obtain ⟨hb9, hb10⟩ := Bool.and_eq_true_iff.mp hb8
    cases hks : formsL.lookup z with
    | none =>
      rw [hks] at hb10
      cases hb10
    | some ks =>
      rw [hks] at hb10
      obtain ⟨hb11, hb12⟩ := Bool.and_eq_true_iff.mp hb10
      have hl9 := of_decide_eq_true hb11
      refine ⟨a, n, p, e, z, rest, ds, ks, rfl, s1, rfl, u1, hrest, hks, (dpAll_length hrest).trans hl9, ?_, hb12, ss, t1, by rw [dpAll_length t2]; exact hlen⟩
      show strsD ds ((formsL.lookup z).getD []) "block" = strsD ds ks "block"
      rw [hks]
      rfl
end Pm
set_option maxHeartbeats 4000000
namespace Pm
open PySem PySem.Spec PyProof.Rows L2 GxR GX
def FlatP (d : PyData) : Prop := ∀ bs, d = .tuple bs → ∀ b ∈ bs, FlatB b
def spIsProgram (c : Ct) : Sp := fun vs H Q _ => ∃ v d, vs = [v] ∧ Dp c.K H v d ∧ FlatP d ∧ Fit 5 d ∧ Tabs c.ts H ∧ ∀ H', Gr H H' → Q (.bl (progD d)) H'
abbrev nIsProgram : List Str := ["thing", "names", "name", "steps", "end", "target", "block"]
theorem sc_is_program : FnScope nIsProgram ["thing"] (defScope s_is_program) := ⟨rfl, rfl, rfl, by decide +kernel, rfl, by decide +kernel, by decide +kernel⟩
theorem inV_str (t : Str) (ns : List Str) : inV (.str t) (ns.map V.str) = decide (t ∈ ns) := by
  unfold inV
  rw [List.any_map, Bool.eq_iff_iff, List.any_eq_true, decide_eq_true_eq]
  constructor
  · rintro ⟨y, hy, e⟩
    have e2 : (y == t) = true := e
    rw [← eq_of_beq e2]; exact hy
  · intro h
    refine ⟨t, h, ?_⟩
    show (t == t) = true
    exact beq_self_eq_true t
theorem ok_is_program {c : Ct} (D : Tf c "is_program" s_is_program) (B : Bl c) (F : Fm c) (hM : ∃ t, c.mg "MOST_BLOCKS" = some (.int 12 t)) (O1 : Ok c "is_block" 7 ["thing"] (spIsBlock c)) (O2 : Ok c "parts_of" 1 ["row", "kind"] (spPartsOf c)) : Ok c "is_program" 9 ["thing"] (spIsProgram c) := by
  obtain ⟨tM, hM⟩ := hM
  refine tf_ok D sc_is_program (fun vs H Q E h => ?_) (fun _ _ _ _ _ _ us hl => match us, hl with | [_], _ => rfl) fun f cd tb A outer s H vs Q E TB hmt hr h => ?_
  · obtain ⟨v, d, rfl, _⟩ := h
    rfl
  · obtain ⟨v, d, rfl, hv, hfl, hfit, hT, q⟩ := h
    refine ⟨_, pss_cons (ps_if (PW.pt (pw_or (pt_not (pt_val (pe_callB call_isi (by rfl) B.isi (by decide +kernel) (pa_cons (pv 0) (pa_cons (pe_bltn (v := .ty "tuple") (by rfl) B.tuple (by decide +kernel) rfl) pa_nil)))))
        (pw_or1 (pt_not (pt_chain op_le op_le pe_int (pe_callB call_len_seq (by rfl) B.len PySem.boot_len (pa_cons (pv 0) pa_nil)) (pe_glob (v := .int 12) (by rfl) hM ⟨_, rfl⟩))))))
        (pss_one (ps_ret pe_bl)) pss_nil)
      (pss_cons (ps_if (pt_not (pt_val (pe_allG (own := [("block", 6)]) (g := gName 6) (tt := tYes) rfl sc_is_program.nd hr (by rfl) B.all TB rfl (gok_by (N := nIsProgram) (sc := defScope s_is_program) (by decide +kernel))
        (pi_tup (pv 0)) (fun _ _ _ _ _ _ _ _ => pg_name (i := 6) sc_is_program.nd rfl (.inl rfl)) (fun _ _ _ _ _ _ _ _ => pts_nil)
        (fun _ _ _ _ _ _ _ _ => pe_f c O1 (room_gen hr _) (pa_cons (pv 6) pa_nil))))) (pss_one (ps_ret pe_bl)) pss_nil)
      (pss_cons (ps_set (i := 1) sc_is_program.nd rfl (.inr rfl) (pe_lc (own := [("name", 2), ("steps", 3), ("end", 4)]) (g := gTup c.K 3 (gCons (gName 2) (gCons (gName 3) (gCons (gName 4) gNil)))) (tt := tYes) rfl sc_is_program.nd (pi_tup (pv 0))
        (blkOk_by (N := nIsProgram) (sc := defScope s_is_program) (by decide +kernel))
        (fun _ _ _ _ _ => pg_tup rfl (pgs_cons (pg_name (i := 2) sc_is_program.nd rfl (.inl rfl)) (pgs_cons (pg_name (i := 3) sc_is_program.nd rfl (.inl rfl)) (pgs_cons (pg_name (i := 4) sc_is_program.nd rfl (.inl rfl)) pgs_nil))))
        (fun _ _ _ _ _ => pts_nil) (fun _ _ _ _ _ => pv 2)))
      (pss_cons (ps_if (pt_cmpR op_ne (pe_lenSetS rfl B.len B.set (pv 1)) (pe_callB call_len_seq (by rfl) B.len PySem.boot_len (pa_cons (pv 1) pa_nil)) (nomark _)) (pss_one (ps_ret pe_bl)) pss_nil)
      (pss_one (ps_ret (pe_allG2 (own := [("name", 2), ("steps", 3), ("end", 4), ("target", 5)]) (vs2 := [5]) (g := gTup c.K 3 (gCons (gName 2) (gCons (gName 3) (gCons (gName 4) gNil)))) (g2 := gName 5) (te := tOp (rIn c.K false) (tVar 5) (tVar 1)) (wi2 := iList c.K (tCall (spPartsOf c) [] E0 (tCons (tVar 4) (tCons (tC (.str "block")) tNil)))) (tt := tYes) (tt2 := tYes) rfl sc_is_program.nd hr (by rfl) B.all TB rfl (gok_by (N := nIsProgram) (sc := defScope s_is_program) (by decide +kernel))
        (pi_tup (pv 0)) (by decide)
        (fun _ _ _ _ _ _ _ _ => pi_list (pe_f c O2 (room_gen (k := 1) (hr.mono (by decide : 2 ≤ 8)) _) (pa_cons (pv 4) (pa_cons pe_str pa_nil))))
        (fun _ _ _ _ _ _ _ _ => pg_name (i := 5) sc_is_program.nd rfl (.inl rfl)) (fun _ _ _ _ _ _ _ _ => pts_nil)
        (fun _ _ _ _ _ _ _ _ => pg_tup rfl (pgs_cons (pg_name (i := 2) sc_is_program.nd rfl (.inl rfl)) (pgs_cons (pg_name (i := 3) sc_is_program.nd rfl (.inl rfl)) (pgs_cons (pg_name (i := 4) sc_is_program.nd rfl (.inl rfl)) pgs_nil))))
        (fun _ _ _ _ _ _ _ _ => pts_nil)
        (fun _ _ _ _ _ _ _ _ => pe_cmpR op_in_seq (pv 5) (pv 1) (by rfl)))))))), ?_⟩
    have kt := kit_dp (K := c.K) d (dp_nodict hv) "tuple" (by simp)
    refine ⟨v, rfl, v, .ty "tuple", .type (tyD d), .type "tuple", _, rfl, .ty _, tyx_dp hv, kt, _, rfl, ?_⟩
    cases hv with
    | bl b => exact q H (.refl H)
    | non => exact q H (.refl H)
    | int i => exact q H (.refl H)
    | str i => exact q H (.refl H)
    | lst s1 s2 => exact q H (.refl H)
    | @tup p xs bs s1 s2 =>
      have hl := dpAll_length s2
      have fb : ∀ b ∈ bs, FlatB b := hfl bs rfl
      have ft : ∀ b ∈ bs, Fit 4 b := hfit.2.1 bs rfl
      have q0 : ∀ H', Gr H H' → Q (.bl ((decide (1 ≤ (bs.length : Int)) && decide ((bs.length : Int) ≤ 12)) && (bs.all blockD && (decide (bs.map nmD).Nodup && bs.all fun b => (tgD b).all fun t => decide (t ∈ bs.map nmD))))) H' := q
      rw [← hl] at q0
      refine ⟨.ref p, rfl, p, xs, rfl, .inr s1, 1, (xs.length : Int), rfl, rfl, _, rfl, ?_⟩
      refine ite2 (fun e1 => ?_) (fun e1 => ?_)
      rotate_left
      · have e3 : decide (1 ≤ (xs.length : Int)) = false := Bool.eq_false_iff.mpr e1
        refine ⟨_, rfl, iteT ?_⟩
        rw [e3] at q0
        exact q0 H (.refl H)
      · refine ⟨(xs.length : Int), 12, rfl, rfl, _, rfl, ?_⟩
        by_cases e2 : decide ((xs.length : Int) ≤ 12) = true
        rotate_left
        · have e3 : decide ((xs.length : Int) ≤ 12) = false := Bool.eq_false_iff.mpr e2
          rw [e3]
          refine iteT ?_
          rw [e1, e3] at q0
          exact q0 H (.refl H)
        · rw [e2]
          refine iteF ?_
          rw [e1, e2, Bool.and_self, Bool.true_and] at q0
          have h12 : xs.length ≤ 12 := by
            have := of_decide_eq_true e2
            omega
          -- all blocks
          refine ⟨.ref p, rfl, p, rfl, ⟨xs, s1⟩, hT tb hmt, fun H1 hTab => ?_⟩
          have g1 : Gr H H1 := .tabbed (hT tb hmt) hTab
          refine all_tup (xs := xs) (fun i H' => Gr H H' ∧ (bs.take i).all blockD = true) ⟨g1, rfl⟩ (fun i H' ⟨hg, _⟩ => hg.sqT s1) (fun i x H' hx ⟨hg, ha⟩ => ?_) fun H2 ⟨g2, ha⟩ => ?_
          · obtain ⟨d1, hd1, hdp⟩ := dpAll_get s2 hx
            have hm1 := List.mem_of_getElem? hd1
            refine ⟨rfl, x, rfl, x, d1, rfl, dp_gr hg hdp, fb d1 hm1, ft d1 hm1, hT.gr hg, fun H4 g4 => ⟨_, rfl, ?_⟩⟩
            cases hb : blockD d1 with
            | false =>
              refine iteT' ⟨_, rfl, iteT ?_⟩
              have e9 : bs.all blockD = false := by
                rw [List.all_eq_false]
                exact ⟨d1, hm1, by rw [hb]; decide⟩
              rw [e9] at q0
              exact q0 H4 (hg.trans g4)
            | true =>
              refine iteF' ⟨hg.trans g4, ?_⟩
              rw [List.take_add_one, hd1, List.all_append, ha]
              simp [hb]
          · rw [List.take_of_length_le (Nat.le_of_eq hl.symm)] at ha
            rw [ha, Bool.true_and] at q0
            have hball : ∀ b ∈ bs, blockD b = true := fun b hb => List.all_eq_true.mp ha b hb
            refine ⟨_, rfl, iteF ?_⟩
            -- names
            refine ⟨.ref p, rfl, p, rfl, ⟨xs, g2.sqT s1⟩, fun D nD => ?_⟩
            refine lc_tup (xs := xs) (fun i H' => Gr H2 H' ∧ H' D = some (.lst (((bs.take i).map nmD).map V.str))) ⟨(Gr.refl _).put nD, upd_same⟩ (fun i H' _ ⟨hg, _⟩ => hg.sqT (g2.sqT s1)) (fun i x H' hx ⟨hg, hD⟩ => ?_) fun H3 ⟨g3, hD⟩ => ?_
            · obtain ⟨d1, hd1, hdp⟩ := dpAll_get s2 hx
              obtain ⟨a1, n1, p1, en1, z1, rest1, ds1, ks1, rfl, sq1, hn1, _⟩ := block_parts (dp_gr (g2.trans hg) hdp) (hball d1 (List.mem_of_getElem? hd1))
              refine ⟨a1, _, rfl, sq1, rfl, .str n1, _, rfl, .ref p1, _, rfl, .ref en1, _, rfl, rfl, rfl, ?_⟩
              refine ⟨.str n1, rfl, _, hD, ?_, hg.put nD, ?_⟩
              · rw [List.length_map, List.length_map, List.length_take]
                exact small1000 (by omega)
              · rw [upd_same, List.take_add_one, hd1]
                simp [hn1]
            · rw [List.take_of_length_le (Nat.le_of_eq hl.symm)] at hD
              have g23 := g2.trans g3
              -- different names
              refine ⟨.ref D, rfl, D, bs.map nmD, rfl, .inl (.inl hD), by rw [List.length_map]; omega, fun m hm hmn => ?_⟩
              refine ⟨.ref D, rfl, D, _, rfl, .inl (.inl (.inl hD)), rfl, _, rfl, ?_⟩
              rw [List.length_map] at hm hmn
              have hmnl : ((List.map V.str (bs.map nmD)).length : Int) = (bs.length : Int) := by rw [List.length_map, List.length_map]
              rw [hmnl]
              refine ite2 (fun e => ?_) fun e => ?_
              · have nd : ¬ (bs.map nmD).Nodup := fun nd => by
                  have e9 : (!decide (V.int (m : Int) = V.int (bs.length : Int))) = true := e
                  rw [decide_eq_true (by rw [hmn.mpr nd])] at e9
                  cases e9
                rw [decide_eq_false nd, Bool.false_and] at q0
                exact q0 H3 g23
              · have nd : (bs.map nmD).Nodup := by
                  refine hmn.mp ?_
                  cases e8 : decide (V.int (m : Int) = V.int (bs.length : Int)) with
                  | true =>
                    have e7 := V.int.inj (of_decide_eq_true e8)
                    omega
                  | false =>
                    exfalso
                    apply e
                    show (!decide (V.int (m : Int) = V.int (bs.length : Int))) = true
                    rw [e8]; rfl
                rw [decide_eq_true nd, Bool.true_and] at q0
                have hT3 := hT.gr g23
                refine ⟨.ref p, rfl, p, rfl, ⟨xs, g23.sqT s1⟩, hT3 tb hmt, fun H4 hTab4 => ?_⟩
                have g4 : Gr H3 H4 := .tabbed (hT3 tb hmt) hTab4
                refine ⟨fun i m H' => m = 4 * (xs.length - i) ∧ i ≤ xs.length ∧ Gr H3 H' ∧ ((bs.take i).all fun b => (tgD b).all fun t => decide (t ∈ bs.map nmD)) = true, ⟨_, rfl, Nat.zero_le _, g4, rfl⟩, ?_⟩
                rintro i m' H5 ⟨rfl, hi, g5, ha5⟩
                by_cases hlt : i < xs.length
                rotate_left
                · obtain rfl : i = xs.length := by omega
                  refine .inl ⟨⟨xs, (g23.trans g5).sqT s1, Nat.le_refl _⟩, ?_⟩
                  rw [List.take_of_length_le (Nat.le_of_eq hl.symm)] at ha5
                  rw [ha5] at q0
                  exact q0 H5 (g23.trans g5)
                · refine .inr ⟨⟨xs, xs[i], (g23.trans g5).sqT s1, List.getElem?_eq_getElem hlt⟩, fun x H6 hy => ?_⟩
                  obtain ⟨rfl, hy⟩ := hy
                  have hx := hy xs ((g23.trans g5).sqT s1)
                  obtain ⟨d1, hd1, hdp⟩ := dpAll_get s2 hx
                  have hm1 := List.mem_of_getElem? hd1
                  obtain ⟨a1, n1, p1, en1, z1, rest1, ds1, ks1, rfl, sq1, hn1, sqe, hda, hks1, hlr, htg, hkk, _⟩ := block_parts (dp_gr (g23.trans g5) hdp) (hball d1 hm1)
                  have hpt : partsV rest1 ks1 "block" = (tgD d1).map V.str := by rw [htg]; exact parts_strs (by decide +kernel) hda hkk
                  have hL : (tgD d1).length ≤ 3 := by
                    have l1 := partsV_length rest1 ks1 "block"
                    have l2 := forms_len hks1
                    rw [hpt, List.length_map] at l1
                    omega
                  refine ⟨a1, _, rfl, sq1, rfl, .str n1, _, rfl, .ref p1, _, rfl, .ref en1, _, rfl, rfl, rfl, ?_⟩
                  refine ⟨.ref en1, rfl, en1, z1, rest1, ks1, "block", rfl, sqe, hks1, hlr, hT.gr (g23.trans g5), fun H7 p7 g7 n7 h7 => ?_⟩
                  rw [hpt] at h7
                  refine ⟨p7, rfl, ⟨_, .inl (.inl h7)⟩, fun i2 m2 H' => m2 = 4 * (xs.length - i) - 1 - i2 ∧ i2 ≤ (tgD d1).length ∧ Gr H7 H' ∧ (((tgD d1).take i2).all fun t => decide (t ∈ bs.map nmD)) = true, ⟨4 * (xs.length - i) - 1, by omega, by omega, Nat.zero_le _, .refl _, rfl⟩, ?_⟩
                  rintro i2 m2 H8 ⟨rfl, hi2, g8, ha8⟩
                  by_cases hlt2 : i2 < (tgD d1).length
                  rotate_left
                  · obtain rfl : i2 = (tgD d1).length := by omega
                    refine .inl ⟨⟨_, .inl (.inl (g8.lst h7)), by rw [List.length_map]; exact Nat.le_refl _⟩, 4 * (xs.length - (i + 1)), by omega, rfl, hlt, (g5.trans g7).trans g8, ?_⟩
                    rw [List.take_length] at ha8
                    rw [List.take_add_one, hd1, List.all_append, ha5]
                    simp only [Option.toList_some, List.all_cons, List.all_nil, Bool.and_true, Bool.true_and]
                    exact ha8
                  · refine .inr ⟨⟨_, .str (tgD d1)[i2], .inl (.inl (g8.lst h7)), by rw [List.getElem?_map, List.getElem?_eq_getElem hlt2]; rfl⟩, fun y H9 hy2 => ?_⟩
                    obtain ⟨rfl, hy2⟩ := hy2
                    have hy3 := hy2 _ (.inl (.inl (g8.lst h7)))
                    rw [List.getElem?_map, List.getElem?_eq_getElem hlt2] at hy3
                    obtain rfl := Option.some.inj hy3
                    have g58 := (g5.trans g7).trans g8
                    refine ⟨rfl, .str (tgD d1)[i2], rfl, .ref D, rfl, D, (bs.map nmD).map V.str, rfl, .inl (.inl (.inl (g58.lst hD))), rfl, flat_words _, _, rfl, ?_⟩
                    show (if inV (.str (tgD d1)[i2]) ((bs.map nmD).map V.str) = false then _ else _)
                    rw [inV_str]
                    cases hb : decide ((tgD d1)[i2] ∈ bs.map nmD) with
                    | false =>
                      refine iteT' ?_
                      have e9 : (bs.all fun b => (tgD b).all fun t => decide (t ∈ bs.map nmD)) = false := by
                        rw [List.all_eq_false]
                        refine ⟨d1, hm1, ?_⟩
                        rw [Bool.not_eq_true, List.all_eq_false]
                        exact ⟨(tgD d1)[i2], List.getElem_mem hlt2, by rw [hb]; decide⟩
                      rw [e9] at q0
                      exact q0 H9 (g23.trans g58)
                    | true =>
                      refine iteF' ⟨4 * (xs.length - i) - 1 - (i2 + 1), by omega, rfl, hlt2, g8, ?_⟩
                      rw [List.take_add_one, List.getElem?_eq_getElem hlt2, List.all_append, ha8]
                      simp only [Option.toList_some, List.all_cons, List.all_nil, Bool.and_true, Bool.true_and]
                      exact hb
end Pm
set_option maxHeartbeats 4000000
namespace Pm
open PySem PySem.Spec PyProof.Rows L2 GxR GX
/-! ### programs as data -/
inductive Stp where
  | set (x : Str) (n : Int) | copy (x y : Str) | sum (w x y z : Str) | get (x : Str) | put (x : Str)
inductive En where
  | go (b : Str) | ite (x b c : Str) | stop
structure Blk where
  name : Str
  steps : List Stp
  en : En
def encS : Stp → PyData
  | .set x n => .tuple [.str "set", .str x, .int n]
  | .copy x y => .tuple [.str "copy", .str x, .str y]
  | .sum w x y z => .tuple [.str w, .str x, .str y, .str z]
  | .get x => .tuple [.str "get", .str x]
  | .put x => .tuple [.str "put", .str x]
def encE : En → PyData
  | .go b => .tuple [.str "go", .str b]
  | .ite x b c => .tuple [.str "if", .str x, .str b, .str c]
  | .stop => .tuple [.str "stop"]
def encB (b : Blk) : PyData := .tuple [.str b.name, .tuple (b.steps.map encS), encE b.en]
def encP (P : List Blk) : PyData := .tuple (P.map encB)
def sumWords : List Str := ["add", "sub", "mul", "less", "same"]
def NameOk (x : Str) : Prop := nameD (.str x) = true
def OkS : Stp → Prop
  | .set x n => NameOk x ∧ 0 ≤ n ∧ n ≤ 9972
  | .copy x y => NameOk x ∧ NameOk y
  | .sum w x y z => w ∈ sumWords ∧ NameOk x ∧ NameOk y ∧ NameOk z
  | .get x => NameOk x
  | .put x => NameOk x
def OkE : En → Prop
  | .go b => NameOk b
  | .ite x b c => NameOk x ∧ NameOk b ∧ NameOk c
  | .stop => True
def goals : En → List Str
  | .go b => [b]
  | .ite _ b c => [b, c]
  | .stop => []
structure OkB (b : Blk) : Prop where
  name : NameOk b.name
  few : b.steps.length ≤ 16
  steps : ∀ s ∈ b.steps, OkS s
  en : OkE b.en
structure OkP (P : List Blk) : Prop where
  one : 1 ≤ P.length
  few : P.length ≤ 12
  blk : ∀ b ∈ P, OkB b
  nd : (P.map (·.name)).Nodup
  go : ∀ b ∈ P, ∀ t ∈ goals b.en, t ∈ P.map (·.name)
theorem nameOk_len {x : Str} (h : NameOk x) : x.length ≤ 3 := by
  have h2 : ((decide (1 ≤ (x.length : Int)) && decide ((x.length : Int) ≤ 3)) && x.cps.toList.all lowB) = true := h
  have := of_decide_eq_true (Bool.and_eq_true_iff.mp (Bool.and_eq_true_iff.mp h2).1).2
  omega
theorem kind_rd {x : Str} (h : NameOk x) : kindD (.str x) "read" = true := (if_neg (by decide +kernel)).trans h
theorem kind_wr {x : Str} (h : NameOk x) : kindD (.str x) "written" = true := (if_neg (by decide +kernel)).trans h
theorem kind_block {x : Str} (h : NameOk x) : kindD (.str x) "block" = true := (if_neg (by decide +kernel)).trans h
theorem kind_value {n : Int} (h0 : 0 ≤ n) (h1 : n ≤ 9972) : kindD (.int n) "value" = true := by
  have e : kindD (.int n) "value" = valueD (.int n) := if_pos rfl
  rw [e]
  show (decide (0 ≤ n) && decide (n ≤ 9972)) = true
  rw [decide_eq_true h0, decide_eq_true h1]
  rfl
theorem look_set : formsL.lookup ("set" : Str) = some (["written", "value"] : List Str) := by decide +kernel
theorem look_copy : formsL.lookup ("copy" : Str) = some (["written", "read"] : List Str) := by decide +kernel
theorem look_get : formsL.lookup ("get" : Str) = some (["written"] : List Str) := by decide +kernel
theorem look_put : formsL.lookup ("put" : Str) = some (["read"] : List Str) := by decide +kernel
theorem look_go : formsL.lookup ("go" : Str) = some (["block"] : List Str) := by decide +kernel
theorem look_if : formsL.lookup ("if" : Str) = some (["read", "block", "block"] : List Str) := by decide +kernel
theorem look_stop : formsL.lookup ("stop" : Str) = some ([] : List Str) := by decide +kernel
theorem look_sum : ∀ w ∈ sumWords, formsL.lookup w = some (["written", "read", "read"] : List Str) ∧ stepWords.any (· == w) = true := by decide +kernel
theorem any_set : stepWords.any (· == ("set" : Str)) = true := by decide +kernel
theorem any_copy : stepWords.any (· == ("copy" : Str)) = true := by decide +kernel
theorem any_get : stepWords.any (· == ("get" : Str)) = true := by decide +kernel
theorem any_put : stepWords.any (· == ("put" : Str)) = true := by decide +kernel
theorem any_go : endWords.any (· == ("go" : Str)) = true := by decide +kernel
theorem any_if : endWords.any (· == ("if" : Str)) = true := by decide +kernel
theorem any_stop : endWords.any (· == ("stop" : Str)) = true := by decide +kernel
theorem hasForm_mk {z : Str} {ds : List PyData} {ws ks : List Str} (h1 : ws.any (· == z) = true) (h2 : formsL.lookup z = some ks) (h3 : ds.length = ks.length) (h4 : ((ds.zip ks).all fun p => kindD p.1 p.2) = true) : hasFormK kindD (.tuple (.str z :: ds)) ws = true := by
  show (ws.any (· == z) && (match formsL.lookup z with
    | some ks => decide (ds.length = ks.length) && (ds.zip ks).all fun p => kindD p.1 p.2
    | none => false)) = true
  rw [h1, h2, Bool.true_and]
  show (decide (ds.length = ks.length) && (ds.zip ks).all fun p => kindD p.1 p.2) = true
  rw [decide_eq_true h3, h4]
  rfl
theorem step_ok {s : Stp} (h : OkS s) : hasFormK kindD (encS s) stepWords = true := by
  cases s with
  | set x n =>
    obtain ⟨h1, h2, h3⟩ := h
    refine hasForm_mk any_set look_set rfl ?_
    simp only [List.zip_cons_cons, List.zip_nil_left, List.all_cons, List.all_nil, kind_rd h1, kind_wr h1, kind_value h2 h3, Bool.and_self]
  | copy x y =>
    obtain ⟨h1, h2⟩ := h
    refine hasForm_mk any_copy look_copy rfl ?_
    simp only [List.zip_cons_cons, List.zip_nil_left, List.all_cons, List.all_nil, kind_rd h1, kind_wr h1, kind_rd h2, kind_wr h2, Bool.and_self]
  | sum w x y z =>
    obtain ⟨h0, h1, h2, h3⟩ := h
    refine hasForm_mk (look_sum w h0).2 (look_sum w h0).1 rfl ?_
    simp only [List.zip_cons_cons, List.zip_nil_left, List.all_cons, List.all_nil, kind_rd h1, kind_wr h1, kind_rd h2, kind_wr h2, kind_rd h3, kind_wr h3, Bool.and_self]
  | get x =>
    refine hasForm_mk any_get look_get rfl ?_
    simp only [List.zip_cons_cons, List.zip_nil_left, List.all_cons, List.all_nil, kind_rd h, kind_wr h, Bool.and_self]
  | put x =>
    refine hasForm_mk any_put look_put rfl ?_
    simp only [List.zip_cons_cons, List.zip_nil_left, List.all_cons, List.all_nil, kind_rd h, kind_wr h, Bool.and_self]
theorem end_ok {e : En} (h : OkE e) : hasFormK kindD (encE e) endWords = true := by
  cases e with
  | go b =>
    refine hasForm_mk any_go look_go rfl ?_
    simp only [List.zip_cons_cons, List.zip_nil_left, List.all_cons, List.all_nil, kind_block h, Bool.and_self]
  | ite x b c =>
    obtain ⟨h1, h2, h3⟩ := h
    refine hasForm_mk any_if look_if rfl ?_
    simp only [List.zip_cons_cons, List.zip_nil_left, List.all_cons, List.all_nil, kind_rd h1, kind_wr h1, kind_block h2, kind_block h3, Bool.and_self]
  | stop => exact hasForm_mk any_stop look_stop rfl rfl
theorem block_ok {b : Blk} (h : OkB b) : blockD (encB b) = true := by
  show ((nameD (.str b.name) && hasFormK kindD (encE b.en) endWords) && (decide ((b.steps.map encS).length ≤ 16) && (b.steps.map encS).all fun s => hasFormK kindD s stepWords)) = true
  rw [show nameD (.str b.name) = true from h.name, end_ok h.en, decide_eq_true (by rw [List.length_map]; exact h.few)]
  simp only [Bool.true_and, List.all_map, List.all_eq_true]
  exact fun s hs => step_ok (h.steps s hs)
theorem tgD_enc (b : Blk) : tgD (encB b) = goals b.en := by
  obtain ⟨n, ss, e⟩ := b
  have k1 : ¬ ("read" : Str) = "block" := by decide +kernel
  cases e with
  | go x =>
    show strsD [.str x] ((formsL.lookup ("go" : Str)).getD []) "block" = [x]
    rw [look_go]
    simp [strsD]
  | ite x y z =>
    show strsD [.str x, .str y, .str z] ((formsL.lookup ("if" : Str)).getD []) "block" = [y, z]
    rw [look_if]
    simp [strsD, k1]
  | stop =>
    show strsD [] ((formsL.lookup ("stop" : Str)).getD []) "block" = []
    rw [look_stop]
    rfl
theorem prog_ok {P : List Blk} (h : OkP P) : progD (encP P) = true := by
  have hn : (P.map encB).map nmD = P.map (·.name) := by
    rw [List.map_map]
    rfl
  show ((decide (1 ≤ ((P.map encB).length : Int)) && decide (((P.map encB).length : Int) ≤ 12)) && ((P.map encB).all blockD && (decide ((P.map encB).map nmD).Nodup && (P.map encB).all fun b => (tgD b).all fun t => decide (t ∈ (P.map encB).map nmD)))) = true
  rw [hn, List.length_map, decide_eq_true (by have := h.one; omega), decide_eq_true (by have := h.few; omega), decide_eq_true h.nd]
  simp only [Bool.and_self, Bool.true_and, Bool.and_eq_true, List.all_map, List.all_eq_true]
  refine ⟨fun b hb => block_ok (h.blk b hb), fun b hb => ?_⟩
  show ((tgD (encB b)).all fun t => decide (t ∈ P.map (·.name))) = true
  rw [tgD_enc, List.all_eq_true]
  exact fun t ht => decide_eq_true (h.go b hb t ht)
/-! ### their texts are short, their first items texts -/
theorem fit_str {n : Nat} {x : Str} (h : x.length ≤ 1000) : Fit n (.str x) := by
  cases n with
  | zero => trivial
  | succ n => exact ⟨fun y e => by cases e; exact Nat.le_of_lt (small1000 h), fun _ e => (nomatch e), fun _ e => (nomatch e)⟩
theorem fit_int {n : Nat} {i : Int} : Fit n (.int i) := by
  cases n with
  | zero => trivial
  | succ n => exact ⟨fun _ e => (nomatch e), fun _ e => (nomatch e), fun _ e => (nomatch e)⟩
theorem fit_tup {n : Nat} {ds : List PyData} (h : ∀ d ∈ ds, Fit n d) : Fit (n + 1) (.tuple ds) := ⟨fun _ e => (nomatch e), fun es e x hx => by cases e; exact h x hx, fun _ e => (nomatch e)⟩
theorem w1 : ∀ w ∈ stepWords ++ endWords ++ sumWords, w.length ≤ 4 := by decide +kernel
theorem short {x : Str} (h : NameOk x) : x.length ≤ 1000 := by have := nameOk_len h; omega
theorem fit_step {s : Stp} (h : OkS s) : Fit 2 (encS s) := by
  have ws : ∀ w ∈ stepWords ++ endWords ++ sumWords, Fit 1 (.str w) := fun w hw => fit_str (by have := w1 w hw; omega)
  cases s with
  | set x n => exact fit_tup (by simp only [List.mem_cons, List.not_mem_nil, or_false]; rintro d (rfl | rfl | rfl); exact ws _ (by decide +kernel); exact fit_str (short h.1); exact fit_int)
  | copy x y => exact fit_tup (by simp only [List.mem_cons, List.not_mem_nil, or_false]; rintro d (rfl | rfl | rfl); exact ws _ (by decide +kernel); exact fit_str (short h.1); exact fit_str (short h.2))
  | sum w x y z => exact fit_tup (by simp only [List.mem_cons, List.not_mem_nil, or_false]; rintro d (rfl | rfl | rfl | rfl); exact ws _ (List.mem_append_right _ h.1); exact fit_str (short h.2.1); exact fit_str (short h.2.2.1); exact fit_str (short h.2.2.2))
  | get x => exact fit_tup (by simp only [List.mem_cons, List.not_mem_nil, or_false]; rintro d (rfl | rfl); exact ws _ (by decide +kernel); exact fit_str (short h))
  | put x => exact fit_tup (by simp only [List.mem_cons, List.not_mem_nil, or_false]; rintro d (rfl | rfl); exact ws _ (by decide +kernel); exact fit_str (short h))
theorem fit_end {e : En} (h : OkE e) : Fit 2 (encE e) := by
  have ws : ∀ w ∈ stepWords ++ endWords ++ sumWords, Fit 1 (.str w) := fun w hw => fit_str (by have := w1 w hw; omega)
  cases e with
  | go b => exact fit_tup (by simp only [List.mem_cons, List.not_mem_nil, or_false]; rintro d (rfl | rfl); exact ws _ (by decide +kernel); exact fit_str (short h))
  | ite x b c => exact fit_tup (by simp only [List.mem_cons, List.not_mem_nil, or_false]; rintro d (rfl | rfl | rfl | rfl); exact ws _ (by decide +kernel); exact fit_str (short h.1); exact fit_str (short h.2.1); exact fit_str (short h.2.2))
  | stop => exact fit_tup (by simp only [List.mem_cons, List.not_mem_nil, or_false]; rintro d rfl; exact ws _ (by decide +kernel))
theorem Fit.up {d : PyData} (h : Fit 2 d) (hd : ∀ ds, d = .tuple ds → ∀ e ∈ ds, flatD e = true) (hl : ∀ ds, d ≠ .list ds) : Fit 3 d := by
  refine ⟨h.1, fun ds e x hx => ?_, fun ds e => absurd e (hl ds)⟩
  have h1 := h.2.1 ds e x hx
  have h2 := hd ds e x hx
  exact ⟨h1.1, ⟨fun es z => (by rw [z] at h2; cases h2), fun es z => (by rw [z] at h2; cases h2)⟩⟩
theorem flat_step (s : Stp) : (∀ ds, encS s = .tuple ds → ∀ e ∈ ds, flatD e = true) ∧ ∀ ds, encS s ≠ .list ds := by
  cases s <;> refine ⟨fun ds e x hx => ?_, fun ds e => nomatch e⟩ <;> (cases e; simp only [List.mem_cons, List.not_mem_nil, or_false] at hx)
  · rcases hx with rfl | rfl | rfl <;> rfl
  · rcases hx with rfl | rfl | rfl <;> rfl
  · rcases hx with rfl | rfl | rfl | rfl <;> rfl
  · rcases hx with rfl | rfl <;> rfl
  · rcases hx with rfl | rfl <;> rfl
theorem flat_end (e : En) : (∀ ds, encE e = .tuple ds → ∀ x ∈ ds, flatD x = true) ∧ ∀ ds, encE e ≠ .list ds := by
  cases e <;> refine ⟨fun ds e x hx => ?_, fun ds e => nomatch e⟩ <;> (cases e; simp only [List.mem_cons, List.not_mem_nil, or_false] at hx)
  · rcases hx with rfl | rfl <;> rfl
  · rcases hx with rfl | rfl | rfl | rfl <;> rfl
  · rw [hx]; rfl
theorem fit_prog {P : List Blk} (h : OkP P) : Fit 5 (encP P) := by
  refine fit_tup fun d hd => ?_
  obtain ⟨b, hb, rfl⟩ := List.mem_map.mp hd
  have ob := h.blk b hb
  refine fit_tup ?_
  simp only [List.mem_cons, List.not_mem_nil, or_false]
  rintro d (rfl | rfl | rfl)
  · exact fit_str (short ob.name)
  · refine fit_tup fun d hd => ?_
    obtain ⟨s, hs, rfl⟩ := List.mem_map.mp hd
    exact fit_step (ob.steps s hs)
  · exact (fit_end ob.en).up (flat_end _).1 (flat_end _).2
theorem flat_prog {P : List Blk} : FlatP (encP P) := by
  intro bs e b hb
  cases e
  obtain ⟨b, _, rfl⟩ := List.mem_map.mp hb
  intro n st en e
  have e2 : ([.str b.name, .tuple (b.steps.map encS), encE b.en] : List PyData) = [n, st, en] := PyData.tuple.inj e
  simp only [List.cons.injEq, and_true] at e2
  obtain ⟨rfl, rfl, rfl⟩ := e2
  refine ⟨fun x ds e3 => (flat_end b.en).1 _ e3 x List.mem_cons_self, fun ss e3 s hs => ?_⟩
  cases e3
  obtain ⟨s, _, rfl⟩ := List.mem_map.mp hs
  exact fun x ds e4 => (flat_step s).1 _ e4 x List.mem_cons_self
end Pm
set_option maxHeartbeats 4000000
namespace Pm
open PySem PySem.Spec PyProof.Rows L2 GxR GX
/-! ### check_program, check_inputs, check_turns: what they let through -/
def spCheckProgram (c : Ct) : Sp := fun vs H Q _ => ∃ v P, vs = [v] ∧ Dp c.K H v (encP P) ∧ OkP P ∧ Tabs c.ts H ∧ ∀ H', Gr H H' → Q .non H'
theorem sc_check_program : FnScope ["thing"] ["thing"] (defScope s_check_program) := ⟨rfl, rfl, rfl, by decide +kernel, rfl, by decide +kernel, by decide +kernel⟩
theorem ok_check_program {c : Ct} (D : Df c "check_program" s_check_program) (O : Ok c "is_program" 9 ["thing"] (spIsProgram c)) : Ok c "check_program" 10 ["thing"] (spCheckProgram c) := by
  refine df_ok D sc_check_program (fun vs H Q E h => ?_) (fun _ _ _ _ _ _ us hl => match us, hl with | [_], _ => rfl) fun f cd A outer s H vs Q E hr h => ?_
  · obtain ⟨v, P, rfl, _⟩ := h
    rfl
  · obtain ⟨v, P, rfl, hv, ok, hT, q⟩ := h
    refine ⟨_, pss_one (ps_if (pt_not (pt_val (pe_f c O hr (pa_cons (pv 0) pa_nil)))) pss_never pss_nil), ?_⟩
    refine ⟨v, rfl, v, encP P, rfl, hv, flat_prog, fit_prog ok, hT, fun H1 g1 => ⟨_, rfl, ?_⟩⟩
    rw [prog_ok ok]
    exact iteF (q H1 g1)
/-! ### sum_of -/
def sumI (w : Str) (i j : Int) : Int := if w = "add" then (i + j) % 9973 else if w = "sub" then (i - j) % 9973 else if w = "mul" then (i * j) % 9973 else if w = "less" then (if i < j then 1 else 0) else (if i = j then 1 else 0)
def spSumOf : Sp := fun vs H Q _ => ∃ w i j, vs = [.str w, .int i, .int j] ∧ (0 ≤ i ∧ i ≤ 9972) ∧ Q (.int (sumI w i j)) H
theorem sc_sum_of : FnScope ["word", "left", "right"] ["word", "left", "right"] (defScope s_sum_of) := ⟨rfl, rfl, rfl, by decide +kernel, rfl, by decide +kernel, by decide +kernel⟩
theorem ok_sum_of {c : Ct} (D : Df c "sum_of" s_sum_of) (hM : ∃ t, c.mg "MODULUS" = some (.int 9973 t)) : Ok c "sum_of" 1 ["word", "left", "right"] spSumOf := by
  obtain ⟨tM, hM⟩ := hM
  refine df_ok D sc_sum_of (fun vs H Q E h => ?_) (fun _ _ _ _ _ _ us hl => match us, hl with | [_, _, _], _ => rfl) fun f cd A outer s H vs Q E hr h => ?_
  · obtain ⟨w, i, j, rfl, _⟩ := h
    rfl
  · obtain ⟨w, i, j, rfl, ⟨i0, i1⟩, q⟩ := h
    refine ⟨_, pss_cons (ps_if (pt_cmpR op_eq (pv 0) pe_str (nomark _)) (pss_one (ps_ret (pe_op op_mod (pe_op op_add (pv 1) (pv 2)) (pe_glob (v := .int 9973) (by rfl) hM ⟨_, rfl⟩)))) pss_nil)
      (pss_cons (ps_if (pt_cmpR op_eq (pv 0) pe_str (nomark _)) (pss_one (ps_ret (pe_op op_mod (pe_op op_sub (pv 1) (pv 2)) (pe_glob (v := .int 9973) (by rfl) hM ⟨_, rfl⟩)))) pss_nil)
      (pss_cons (ps_if (pt_cmpR op_eq (pv 0) pe_str (nomark _)) (pss_one (ps_ret (pe_op op_mod (pe_op op_mul (pv 1) (pv 2)) (pe_glob (v := .int 9973) (by rfl) hM ⟨_, rfl⟩)))) pss_nil)
      (pss_cons (ps_if (pt_cmpR op_eq (pv 0) pe_str (nomark _)) (pss_one (ps_ret (pe_ifExp (pt_cmpR op_lt (pv 1) (pv 2) (nomark _)) pe_int pe_int))) pss_nil)
      (pss_one (ps_ret (pe_ifExp (pt_cmpR op_eq (pv 1) (pv 2) (nomark _)) pe_int pe_int)))))), ?_⟩
    unfold sumI at q
    have sq : ∀ {a b : Str}, decide (V.str a = V.str b) = true → a = b := fun h => V.str.inj (of_decide_eq_true h)
    have sn : ∀ {a b : Str}, ¬ decide (V.str a = V.str b) = true → ¬ a = b := fun h e => h (by rw [e]; exact decide_eq_true rfl)
    refine ⟨.str w, rfl, rfl, _, rfl, ite2 (fun e => ?_) fun e => ?_⟩
    · rw [if_pos (sq e)] at q
      exact ⟨.int i, rfl, .int j, rfl, i, j, rfl, rfl, i + j, 9973, rfl, rfl, by show (0 : Int) < 9973; decide, q⟩
    rw [if_neg (sn e)] at q
    refine ⟨.str w, rfl, rfl, _, rfl, ite2 (fun e => ?_) fun e => ?_⟩
    · rw [if_pos (sq e)] at q
      exact ⟨.int i, rfl, .int j, rfl, i, j, rfl, rfl, i - j, 9973, rfl, rfl, by show (0 : Int) < 9973; decide, q⟩
    rw [if_neg (sn e)] at q
    refine ⟨.str w, rfl, rfl, _, rfl, ite2 (fun e => ?_) fun e => ?_⟩
    · rw [if_pos (sq e)] at q
      exact ⟨.int i, rfl, .int j, rfl, i, j, rfl, rfl, .inl ⟨by omega, by omega⟩, i * j, 9973, rfl, rfl, by show (0 : Int) < 9973; decide, q⟩
    rw [if_neg (sn e)] at q
    refine ⟨.str w, rfl, rfl, _, rfl, ite2 (fun e => ?_) fun e => ?_⟩
    · rw [if_pos (sq e)] at q
      refine ⟨.int i, rfl, .int j, rfl, i, j, rfl, rfl, _, rfl, ite2 (fun e2 => ?_) fun e2 => ?_⟩
      · rw [if_pos (of_decide_eq_true e2)] at q
        exact q
      · rw [if_neg (fun z => e2 (decide_eq_true z))] at q
        exact q
    rw [if_neg (sn e)] at q
    refine ⟨.int i, rfl, .int j, rfl, rfl, _, rfl, ite2 (fun e2 => ?_) fun e2 => ?_⟩
    · rw [if_pos (V.int.inj (of_decide_eq_true e2))] at q
      exact q
    · rw [if_neg (fun z => e2 (by rw [z]; exact decide_eq_true rfl))] at q
      exact q
end Pm
set_option maxHeartbeats 4000000
namespace Pm
open PySem PySem.Spec PyProof.Rows L2 GxR GX
/-! ### rows as values -/
def vD : PyData → V
  | .str x => .str x
  | .int i => .int i
  | .bool b => .bl b
  | _ => .non
theorem dpAll_flat {K : PySem.W.Frag} {H : Hp} : ∀ {xs : List V} {ds : List PyData}, (∀ d ∈ ds, flatD d = true) → DpAll K H xs ds → xs = ds.map vD
  | _, _, _, .nil => rfl
  | _, _, hf, .cons r t => by
    have ih := dpAll_flat (fun d hd => hf d (List.mem_cons_of_mem _ hd)) t
    have h0 := hf _ List.mem_cons_self
    rw [ih]
    cases r with
    | non => rfl
    | bl _ => rfl
    | int _ => rfl
    | str _ => rfl
    | lst _ _ => cases h0
    | tup _ _ => cases h0
theorem dp_tup {K : PySem.W.Frag} {H : Hp} {v : V} {ds : List PyData} (h : Dp K H v (.tuple ds)) : ∃ a xs, v = .ref a ∧ SqT K H a xs ∧ DpAll K H xs ds := by
  cases h with
  | tup s a => exact ⟨_, _, rfl, s, a⟩
theorem dp_flat {K : PySem.W.Frag} {H : Hp} {v : V} {ds : List PyData} (h : Dp K H v (.tuple ds)) (hf : ∀ d ∈ ds, flatD d = true) : ∃ a, v = .ref a ∧ SqT K H a (ds.map vD) := by
  obtain ⟨a, xs, rfl, s, t⟩ := dp_tup h
  rw [dpAll_flat hf t] at s
  exact ⟨a, rfl, s⟩
def rowS : Stp → List V
  | .set x n => [.str "set", .str x, .int n]
  | .copy x y => [.str "copy", .str x, .str y]
  | .sum w x y z => [.str w, .str x, .str y, .str z]
  | .get x => [.str "get", .str x]
  | .put x => [.str "put", .str x]
def rowE : En → List V
  | .go b => [.str "go", .str b]
  | .ite x b c => [.str "if", .str x, .str b, .str c]
  | .stop => [.str "stop"]
theorem step_at {K : PySem.W.Frag} {H : Hp} {v : V} {s : Stp} (h : Dp K H v (encS s)) : ∃ a, v = .ref a ∧ SqT K H a (rowS s) := by
  have hf := flat_step s
  cases s <;> exact dp_flat h (hf.1 _ rfl)
theorem end_at {K : PySem.W.Frag} {H : Hp} {v : V} {e : En} (h : Dp K H v (encE e)) : ∃ a, v = .ref a ∧ SqT K H a (rowE e) := by
  have hf := flat_end e
  cases e <;> exact dp_flat h (hf.1 _ rfl)
def InsOk (ins : List Int) : Prop := ∀ n ∈ ins, 0 ≤ n ∧ n ≤ 9972
theorem dpAll_snoc {K : PySem.W.Frag} {H : Hp} {v : V} {d : PyData} (h : Dp K H v d) : ∀ {xs : List V} {ds : List PyData}, DpAll K H xs ds → DpAll K H (xs ++ [v]) (ds ++ [d])
  | _, _, .nil => .cons h .nil
  | _, _, .cons a t => .cons a (dpAll_snoc h t)
theorem blk_at {K : PySem.W.Frag} {H : Hp} {v : V} {b : Blk} (h : Dp K H v (encB b)) : ∃ a p en xs, v = .ref a ∧ SqT K H a [.str b.name, .ref p, en] ∧ SqT K H p xs ∧ DpAll K H xs (b.steps.map encS) ∧ Dp K H en (encE b.en) := by
  obtain ⟨a, ys, rfl, s, d⟩ := dp_tup h
  cases d with
  | cons d1 d =>
    cases d with
    | cons d2 d =>
      cases d with
      | cons d3 d =>
        cases d
        cases d1
        obtain ⟨p, xs, rfl, sp, dp⟩ := dp_tup d2
        exact ⟨a, p, _, xs, rfl, s, sp, dp, d3⟩
end Pm
set_option maxHeartbeats 4000000
/-! ways from block to block, as data -/
namespace Pm
open PySem PySem.Spec PyProof.Rows L2 GxR GX
def enOf (P : List Blk) (n : Str) : En := ((P.find? fun b => b.name == n).map (·.en)).getD .stop
/-- where the end of n leads, rising -/
def tg (P : List Blk) (n : Str) : List Str := srt (ddS (goals (enOf P n)))
def nms (P : List Blk) : List Str := srt (P.map (·.name))
theorem mem_tg {P : List Blk} {n t : Str} : t ∈ tg P n ↔ t ∈ goals (enOf P n) := by unfold tg; rw [mem_srt, ddS_mem]
theorem goals_len (e : En) : (goals e).length ≤ 2 := by cases e <;> simp [goals]
theorem tg_len (P : List Blk) (n : Str) : (tg P n).length ≤ 2 := by
  unfold tg
  rw [srt_len]
  exact Nat.le_trans (ddS_length _) (goals_len _)
theorem tg_nd (P : List Blk) (n : Str) : (tg P n).Nodup := srt_nd (ddS_nd _)
theorem mem_nms {P : List Blk} {n : Str} : n ∈ nms P ↔ n ∈ P.map (·.name) := mem_srt
theorem nms_len (P : List Blk) : (nms P).length = P.length := by unfold nms; rw [srt_len, List.length_map]
theorem enOf_mem {P : List Blk} (ok : OkP P) {b : Blk} (hb : b ∈ P) : enOf P b.name = b.en := by
  unfold enOf
  have h : P.find? (fun x => x.name == b.name) = some b := by
    have nd := ok.nd
    clear ok
    induction P with
    | nil => cases hb
    | cons x r ih =>
      rw [List.find?_cons]
      rcases List.mem_cons.mp hb with rfl | hb
      · rw [beq_self_eq_true]
      · rw [List.map_cons, List.nodup_cons] at nd
        have ne : (x.name == b.name) = false := by
          apply Bool.eq_false_iff.mpr
          intro z
          exact nd.1 (by rw [eq_of_beq z]; exact List.mem_map_of_mem hb)
        rw [ne]
        exact ih hb nd.2
  rw [h]
  rfl
theorem goals_in {P : List Blk} (ok : OkP P) {n t : Str} (h : t ∈ goals (enOf P n)) : t ∈ P.map (·.name) := by
  unfold enOf at h
  cases hf : P.find? (fun b => b.name == n) with
  | none => rw [hf] at h; simp [goals] at h
  | some b =>
    rw [hf] at h
    exact ok.go b (List.mem_of_find?_eq_some hf) t h
/-! ### who is reached -/
inductive Rch (P : List Blk) (but : Option Str) : Str → Prop
  | first (n : Str) (h : (P.map (·.name)).head? = some n) (hb : some n ≠ but) : Rch P but n
  | step (m n : Str) (hm : Rch P but m) (h : n ∈ goals (enOf P m)) (hb : some n ≠ but) : Rch P but n
theorem Rch.name {P : List Blk} {but : Option Str} (ok : OkP P) {n : Str} (h : Rch P but n) : n ∈ P.map (·.name) := by
  cases h with
  | first _ h _ => exact List.mem_of_mem_head? h
  | step m _ _ h _ => exact goals_in ok h
theorem Rch.but {P : List Blk} {but : Option Str} {n : Str} (h : Rch P but n) : some n ≠ but := by cases h <;> assumption
theorem Rch.none_of_first {P : List Blk} {f n : Str} (hf : (P.map (·.name)).head? = some f) (h : Rch P (some f) n) : False := by
  induction h with
  | first n h hb => rw [hf] at h; cases h; exact hb rfl
  | step m n hm h hb ih => exact ih
open Classical in
noncomputable def rchL (P : List Blk) (but : Option Str) : List Str := (nms P).filter fun n => decide (Rch P but n)
open Classical in
theorem mem_rchL {P : List Blk} {but : Option Str} (ok : OkP P) {n : Str} : n ∈ rchL P but ↔ Rch P but n := by
  unfold rchL
  rw [List.mem_filter, decide_eq_true_eq, mem_nms]
  exact ⟨fun h => h.2, fun h => ⟨h.name ok, h⟩⟩
theorem nms_nd {P : List Blk} (ok : OkP P) : (nms P).Nodup := srt_nd ok.nd
theorem rchL_nd {P : List Blk} (ok : OkP P) (but : Option Str) : (rchL P but).Nodup := (nms_nd ok).filter _
theorem rchL_pw (P : List Blk) (but : Option Str) : (rchL P but).Pairwise fun a b => leS a b = true := (srt_pw _).filter _
theorem rchL_len (P : List Blk) (but : Option Str) : (rchL P but).length ≤ P.length := by
  rw [← nms_len P]
  exact List.length_filter_le _ _
/-- whatever lists just these, sorted it is this -/
theorem srt_rch {P : List Blk} {but : Option Str} (ok : OkP P) {fs : List Str} (nd : fs.Nodup) (h : ∀ n, n ∈ fs ↔ Rch P but n) : srt fs = rchL P but :=
  pw_eq (srt_pw fs) (rchL_pw P but) ((srt_perm fs).trans ((List.perm_ext_iff_of_nodup nd (rchL_nd ok but)).mpr fun n => (h n).trans (mem_rchL ok).symm))
/-- amid the walk: fs are found, ls are left -/
structure Wk (P : List Blk) (but : Option Str) (fs ls : List Str) : Prop where
  nd : fs.Nodup
  fnd : ∀ n ∈ fs, Rch P but n
  lft : ∀ n ∈ ls, n ∈ P.map (·.name) ∧ (some n = but ∨ Rch P but n)
  fst : ∀ n, (P.map (·.name)).head? = some n → n ∈ fs ∨ n ∈ ls ∨ some n = but
  cls : ∀ m ∈ fs, ∀ n ∈ goals (enOf P m), n ∈ fs ∨ n ∈ ls ∨ some n = but
theorem Wk.zero {P : List Blk} {but : Option Str} {f : Str} (hf : (P.map (·.name)).head? = some f) : Wk P but [] [f] := by
  refine ⟨List.nodup_nil, fun n h => by simp at h, fun n h => ?_, fun n h => ?_, fun m h => by simp at h⟩
  · rw [List.mem_singleton.mp h]
    refine ⟨List.mem_of_mem_head? hf, ?_⟩
    by_cases e : some f = but
    · exact .inl e
    · exact .inr (.first f hf e)
  · rw [hf] at h; cases h
    exact .inr (.inl (by simp))
theorem Wk.skip {P : List Blk} {but : Option Str} {fs ls : List Str} {n : Str} (w : Wk P but fs (ls ++ [n])) (h : n ∈ fs ∨ some n = but) : Wk P but fs ls := by
  have tr : ∀ m, m ∈ fs ∨ m ∈ ls ++ [n] ∨ some m = but → m ∈ fs ∨ m ∈ ls ∨ some m = but := fun m hm => by
    rcases hm with z | z | z
    · exact .inl z
    · rcases List.mem_append.mp z with z | z
      · exact .inr (.inl z)
      · rw [List.mem_singleton.mp z]
        rcases h with h | h
        · exact .inl h
        · exact .inr (.inr h)
    · exact .inr (.inr z)
  exact ⟨w.nd, w.fnd, fun m hm => w.lft m (List.mem_append_left _ hm), fun m hm => tr m (w.fst m hm), fun m hm k hk => tr k (w.cls m hm k hk)⟩
theorem Wk.add {P : List Blk} {but : Option Str} (ok : OkP P) {fs ls ts : List Str} {n : Str} (w : Wk P but fs (ls ++ [n])) (h1 : n ∉ fs) (h2 : some n ≠ but) (hts : ∀ t, t ∈ ts ↔ t ∈ goals (enOf P n)) : Wk P but (fs ++ [n]) (ls ++ ts) := by
  have rn : Rch P but n := (w.lft n (by simp)).2.resolve_left h2
  have tr : ∀ m, m ∈ fs ∨ m ∈ ls ++ [n] ∨ some m = but → m ∈ fs ++ [n] ∨ m ∈ ls ++ ts ∨ some m = but := fun m hm => by
    rcases hm with z | z | z
    · exact .inl (List.mem_append_left _ z)
    · rcases List.mem_append.mp z with z | z
      · exact .inr (.inl (List.mem_append_left _ z))
      · exact .inl (List.mem_append_right _ z)
    · exact .inr (.inr z)
  refine ⟨?_, fun m hm => ?_, fun m hm => ?_, fun m hm => tr m (w.fst m hm), fun m hm k hk => ?_⟩
  · rw [List.nodup_append]
    refine ⟨w.nd, by simp, fun a ha b hb => ?_⟩
    rw [List.mem_singleton.mp hb]
    exact fun z => h1 (z ▸ ha)
  · rcases List.mem_append.mp hm with z | z
    · exact w.fnd m z
    · rw [List.mem_singleton.mp z]; exact rn
  · rcases List.mem_append.mp hm with z | z
    · exact w.lft m (List.mem_append_left _ z)
    · have g := (hts m).mp z
      refine ⟨goals_in ok g, ?_⟩
      by_cases e : some m = but
      · exact .inl e
      · exact .inr (.step n m rn g e)
  · rcases List.mem_append.mp hm with z | z
    · exact tr k (w.cls m z k hk)
    · rw [List.mem_singleton.mp z] at hk
      exact .inr (.inl (List.mem_append_right _ ((hts k).mpr hk)))
theorem Wk.done {P : List Blk} {but : Option Str} {fs : List Str} (w : Wk P but fs []) (n : Str) : n ∈ fs ↔ Rch P but n := by
  refine ⟨w.fnd n, fun h => ?_⟩
  induction h with
  | first n h hb =>
    rcases w.fst n h with z | z | z
    · exact z
    · simp at z
    · exact absurd z hb
  | step m n hm h hb ih =>
    rcases w.cls m ih n h with z | z | z
    · exact z
    · simp at z
    · exact absurd z hb
theorem Wk.few {P : List Blk} {but : Option Str} {fs ls : List Str} (ok : OkP P) (w : Wk P but fs ls) : fs.length ≤ P.length := by
  have := nd_len w.nd (ys := P.map (·.name)) fun a ha => (w.fnd a ha).name ok
  rw [List.length_map] at this
  exact this
/-! ### facts as data -/
def strsT (xs : List Str) : PyData := .tuple (xs.map PyData.str)
def edgRow (P : List Blk) (n : Str) : PyData := .tuple [.str n, strsT (tg P n), strsT ((nms P).filter fun m => decide (n ∈ tg P m))]
def edgD (P : List Blk) : PyData := .tuple ((nms P).map (edgRow P))
noncomputable def rchD (P : List Blk) : PyData := strsT (rchL P none)
open Classical in
noncomputable def domRow (P : List Blk) (n : Str) : PyData := .tuple [.str n, strsT ((rchL P none).filter fun m => decide (¬ Rch P (some m) n))]
noncomputable def domD (P : List Blk) : PyData := .tuple ((rchL P none).map (domRow P))
theorem dpAll_strs {K : PySem.W.Frag} {H : Hp} : ∀ xs : List Str, DpAll K H (xs.map V.str) (xs.map PyData.str)
  | [] => .nil
  | x :: r => .cons (.str x) (dpAll_strs r)
theorem dp_strsT {K : PySem.W.Frag} {H : Hp} {a : Addr} {xs : List Str} (h : SqT K H a (xs.map V.str)) : Dp K H (.ref a) (strsT xs) := .tup h (dpAll_strs xs)
theorem dpAll_strs_eq {K : PySem.W.Frag} {H : Hp} : ∀ {xs : List Str} {ys : List V}, DpAll K H ys (xs.map PyData.str) → ys = xs.map V.str
  | [], _, .nil => rfl
  | x :: r, _, .cons (.str _) t => by rw [dpAll_strs_eq t]; rfl
theorem strsT_at {K : PySem.W.Frag} {H : Hp} {v : V} {xs : List Str} (h : Dp K H v (strsT xs)) : ∃ a, v = .ref a ∧ SqT K H a (xs.map V.str) := by
  obtain ⟨a, ys, rfl, s, t⟩ := dp_tup h
  exact ⟨a, rfl, by rw [← dpAll_strs_eq t]; exact s⟩
end Pm
set_option maxHeartbeats 4000000
/-! tuple(..) of a generator expression by an invariant; extend by a tuple -/
namespace Pm
open PySem PySem.Spec PyProof.Rows L2 GxR GX
section
variable {g : TG} {tt : TT} {te : TE} {vs : List Nat} {σ : L2.St} {H2 : Hp} {K : PySem.W.Frag} {QE : List V → Hp → Prop}
theorem col_n {J : It} (n : Nat) (Pv : Nat → List V → Hp → Prop) (h0 : Pv 0 [] H2) (hgo : ∀ i ys H, i < n → Pv i ys H → J.go i H) (hst : ∀ ys H, Pv n ys H → J.stop n H)
    (hs : ∀ i ys H x H', i < n → Pv i ys H → J.yld i H x H' → g x (wipe σ vs) H' fun σ2 H2 => wipe σ2 vs = wipe σ vs ∧ tt σ2 H2 fun b H3 => if b = true then te σ2 H3 fun y H4 => ys.length < sizeLine ∧ Pv (i + 1) (ys ++ [y]) H4 else Pv (i + 1) ys H3)
    (hd : ∀ ys H, Pv n ys H → QE ys H) : ColLoop g tt te vs σ QE J H2 := by
  refine ⟨fun i m ys H => m = n - i ∧ i ≤ n ∧ Pv i ys H, ⟨n, by simp, Nat.zero_le _, h0⟩, ?_⟩
  rintro i m ys H ⟨rfl, hi, p⟩
  by_cases hlt : i < n
  · exact .inr ⟨hgo i ys H hlt p, Pv (i + 1), fun ys' H' p' => ⟨n - (i + 1), by omega, rfl, hlt, p'⟩, fun x H' y => hs i ys H x H' hlt p y⟩
  · have e : i = n := by omega
    subst e
    exact .inl ⟨hst ys H p, hd ys H p⟩
theorem col_list {a : Addr} {xs : List V} (Pv : Nat → List V → Hp → Prop) (h0 : Pv 0 [] H2) (hl : ∀ i ys H, Pv i ys H → SqL K H a xs)
    (hs : ∀ i x ys H, xs[i]? = some x → Pv i ys H → g x (wipe σ vs) H fun σ2 H2 => wipe σ2 vs = wipe σ vs ∧ tt σ2 H2 fun b H3 => if b = true then te σ2 H3 fun y H4 => ys.length < sizeLine ∧ Pv (i + 1) (ys ++ [y]) H4 else Pv (i + 1) ys H3)
    (hd : ∀ ys H, Pv xs.length ys H → QE ys H) : ColLoop g tt te vs σ QE (Itl K a) H2 := by
  refine col_n xs.length Pv h0 (fun i ys H h p => ⟨xs, xs[i], hl i ys H p, List.getElem?_eq_getElem h⟩) (fun ys H p => ⟨xs, hl _ ys H p, Nat.le_refl _⟩) (fun i ys H v H' h p y => ?_) hd
  obtain ⟨rfl, hy⟩ := y
  exact hs i v ys _ (hy xs (hl i ys _ p)) p
theorem col_tup {a : Addr} {xs : List V} (Pv : Nat → List V → Hp → Prop) (h0 : Pv 0 [] H2) (hl : ∀ i ys H, Pv i ys H → SqT K H a xs)
    (hs : ∀ i x ys H, xs[i]? = some x → Pv i ys H → g x (wipe σ vs) H fun σ2 H2 => wipe σ2 vs = wipe σ vs ∧ tt σ2 H2 fun b H3 => if b = true then te σ2 H3 fun y H4 => ys.length < sizeLine ∧ Pv (i + 1) (ys ++ [y]) H4 else Pv (i + 1) ys H3)
    (hd : ∀ ys H, Pv xs.length ys H → QE ys H) : ColLoop g tt te vs σ QE (Itt K a) H2 := by
  refine col_n xs.length Pv h0 (fun i ys H h p => ⟨xs, xs[i], hl i ys H p, List.getElem?_eq_getElem h⟩) (fun ys H p => ⟨xs, hl _ ys H p, Nat.le_refl _⟩) (fun i ys H v H' h p y => ?_) hd
  obtain ⟨rfl, hy⟩ := y
  exact hs i v ys _ (hy xs (hl i ys _ p)) p
end
open AutoSeq1 in
theorem ext_tup (l : Addr) (items : Array Value) (n : Nat) (b : Addr) (items2 : Array Value) (n2 : Nat) (dc : Option Addr) (sl : Array (Option Value)) (hs0 : ¬(!items.isEmpty && Builtin.List.listTooLong (items.size + items2.size)) = true) (hs1 : items.size ≤ sizeLine) (hs2 : items.size + items2.size ≤ sizeLine + 1) :
    Meets (Builtin.«list.extend» ⟨[.ref l, .ref b], []⟩) (fun _ R s => s.heap.get? l = some { cls := .type "list", dict := none, data := .seq items n, slots := #[] } ∧ s.heap.get? b = some { cls := .type "tuple", dict := dc, data := .seq items2 n2, slots := sl } ∧ R (.ok (.ret Value.none)) { s with heap := s.heap.update l (Obj.mapSeq fun x => x ++ items2), toks := s.toks }) :=
  .of_wp fun prog w A R s h => by
    obtain ⟨hp, g, d, tk, os⟩ := s
    obtain ⟨hl, hb, h⟩ := h
    have f1 := idx_int; have f2 := AutoSeq1.sub_tuple_tuple; have f3 := AutoSeq1.sub_list_list; have f4 := AutoSeq1.sub_tuple_list; have f5 := AutoSeq1.sub_list_tuple
    have big : (items ++ items2).size ≤ sizeLine + 1 := by rw [Array.size_append]; exact hs2
    wp_walk using (wpAny_updateSeq hl rfl (hz := hs1) (_hz' := big)), wpAny_loadPart' hl, wpAny_loadPart' hb
    exact ⟨_, rfl, h⟩
section
variable {X : Cx}
def rExtendT (K : PySem.W.Frag) : V → List V → Hp → VK → Prop := fun x vs H Q => ∃ l b xs zs, x = .ref l ∧ vs = [.ref b] ∧ H l = some (.lst xs) ∧ SqT K H b zs ∧ xs.length + zs.length ≤ sizeLine ∧ Q .non (upd H l (.lst (xs ++ zs)))
theorem mt_extendT : MtM X "list.extend" (rExtendT X.K) := by
  intro pins s σ H x vs v us Q I rx rv h
  obtain ⟨l, b, xs, zs, rfl, rfl, hH, hB, hz, q⟩ := h
  cases rx
  obtain ⟨u, rfl, ru⟩ := rv.one
  cases ru
  obtain ⟨z, its, n, r, hl, e⟩ := I.lstM hH
  obtain ⟨its2, r2, hT, z2⟩ := I.tuple hB
  obtain ⟨⟨ocls, odict, odata, oslots⟩, eb, cb, n2, db⟩ := hT
  simp only at cb db
  subst cb db
  have h2 := r2.length
  have sum : its.toArray.size + its2.toArray.size ≤ sizeLine := by rw [List.size_toArray, List.size_toArray]; omega
  have door : ¬ (!its.toArray.isEmpty && Builtin.List.listTooLong (its.toArray.size + its2.toArray.size)) = true := by
    rw [notLongL sum, Bool.and_false]
    exact Bool.false_ne_true
  refine call_meets F.slot_list_extend ⟨_, e, rfl⟩ F.entry_list_extend (F.args_list_extend_2 _ _)
    (ext_tup l its.toArray n b its2.toArray n2 odict oslots door (by rw [List.size_toArray]; omega) (by omega)) ⟨e, eb, ?_⟩
  refine ⟨.non, _, I.lset (its' := its ++ its2) hH e (by simp) (r.append r2) ?_, rfl, q⟩
  rw [List.length_append]
  omega
end
end Pm
set_option maxHeartbeats 4000000
/-! name = {key: value for ..} on one line, the name a local. -/
namespace Pm
open PySem PySem.Spec PyProof.Rows L2 GxR GX
variable {X : Cx}
abbrev ForBlk (X : Cx) (scope : Scope) (p : Cx → Prop) : Prop := ∀ (s : Shared) (H : Hp) (C : Addr) (cl : List (Str × Addr)) (fp : List Addr), p (X.blk s H scope (compEnvC scope cl C X.env) fp)
theorem ps_setDc {i : Nat} {y : Str} {py : Pos} {kx vx tg iter : Expr} {ifs : List Expr} {scope : Scope} {own : List (Str × Nat)} {pos spos : Pos} {wi : TI} {g : TG} {tt : TT} {tk tv : TE} (hc : X.calm = true) (hN : X.N.Nodup) (hy : X.N[i]? = some y)
    (hyl : X.env.scope.names.lookup y = some .local) (hsw : swapsWith (.DictComp kx vx [⟨tg, iter, ifs, 0⟩] scope pos) (some (.Name y py)) spos.line X.env = pure true) (hi : PI X tg iter wi) (ok : BlkOk X.N X.env.scope scope own)
    (hg : ForBlk X scope fun Y => PG Y tg g) (ht : ForBlk X scope fun Y => PTs Y ifs tt) (hk : ForBlk X scope fun Y => PE Y kx tk) (he : ForBlk X scope fun Y => PE Y vx tv) (hs : ∀ x, foldedSetIterable iter X.env x = pure x := by intro _; rfl) :
    PS X (.Assign [.Name y py] (.DictComp kx vx [⟨tg, iter, ifs, 0⟩] scope pos) spos) (tAsg (tDc wi g tt tk tv (own.map (·.2))) (gName i)) := by
  constructor
  intro pins s σ H D I h
  rw [exec_Assign_Name_used _ _ _ _ hsw]
  refine wpAny_bind (wpAny_standAt (wpAny_bind ?_))
  show wpAny _ X.A (do let _ ← comprehension (.DictComp kx vx [⟨tg, iter, ifs, 0⟩] scope pos) scope X.env (firstIterPos [⟨tg, iter, ifs, 0⟩] pos) newDict false (eval iter X.env) (some (assign (.Name y py) X.env))) _ _ s
  have h2 : tDc wi g tt tk tv (own.map (·.2)) σ H (fun x H1 => gName i x σ H1 D.nx) := h
  refine wpAny_bind (thn (dc_core (Qf := fun _ s' => SP X pins D .next s') hc hN I hi ok hg ht hk he hs h2 fun L C s' m H' I' q hn f => ?_) fun _ s' hq => wpAny_pure (wpAny_pure hq))
  obtain ⟨f0, f1, _, f3, f4, f5⟩ := f
  show wpAny _ _ (assign (.Name y py) X.env (.ref L)) _ _ _
  refine wpAny_assign_Name (store_ok2 (v := V.ref L) I' hN hy (.inl hyl) rfl (fun s2 I2 ⟨a, sb, ha⟩ => ?_) (.inr hyl))
  have haC : C ≠ a := by
    rcases ha with rfl | z
    · exact f1
    · exact fun e => f4 y a z e.symm
  exact ⟨m, hn.sameBut sb haC, fun h3 sb3 => ⟨_, H', I2.turned (t' := s2.toks) (fun b o hb e => (sb3.2 b hb).trans e) f0 f1 f3 f4 f5, q⟩⟩
theorem sw_dict {kx vx : Expr} {gs : List Comprehension} {scope : Scope} {pos py : Pos} {y : Str} {l : Nat} {env : Env} (hk : env.scope.kind = .function) (hy : env.scope.names.lookup y = some .local) (hl : (py.line == pos.line) = true)
    (ha : (scope.names.any fun (n, k) => n == y && (k == .local || k == .cell)) = false) : swapsWith (.DictComp kx vx gs scope pos) (some (.Name y py)) l env = pure true := by
  have ky : env.kindOf y = some .local := hy
  have hb : env.blockKind = .function := by unfold Env.blockKind; rw [hk]; rfl
  unfold swapsWith
  simp only [hb, ky, ha, Expr.pos, hl]
  rfl
end Pm
set_option maxHeartbeats 4000000
namespace Pm
open PySem PySem.Spec PyProof.Rows L2 GxR GX
structure Bl3 (c : Ct) : Prop extends Bl c where
  sorted : c.mg "sorted" = none
/-! ### the scopes of generator expressions, by their place -/
def lastRet (st : Stmt) : Expr := match (defBody st).getLast? with
  | some (.Return (some e) _) => e
  | _ => .Constant .none 0 ⟨0, 0, 0, 0⟩
def genOf : Expr → Expr × Scope
  | .Call _ [.GeneratorExp e _ sc _] _ _ => (e, sc)
  | e => (e, default)
def third : Expr → Expr
  | .Tuple [_, _, e] _ _ => e
  | e => e
def second : Expr → Expr
  | .Tuple [_, e] _ _ => e
  | e => e
/-! ### a table of tuples of texts by name -/
/-- the dict at D has the names ns, each with f of it -/
def TupsAt (K : PySem.W.Frag) (H : Hp) (D : Addr) (ns : List Str) (f : Str → List Str) : Prop := ∃ kvs, H D = some (.dK kvs) ∧ kvs.map (·.1) = ns.map Sum.inr ∧ ∀ n ∈ ns, ∃ t, valV kvs (Sum.inr n) = some (.ref t) ∧ SqT K H t ((f n).map V.str)
theorem TupsAt.gr {K : PySem.W.Frag} {H H' : Hp} {D : Addr} {ns : List Str} {f : Str → List Str} (g : Gr H H') (h : TupsAt K H D ns f) : TupsAt K H' D ns f := by
  obtain ⟨kvs, h1, h2, h3⟩ := h
  refine ⟨kvs, g.keep h1 (fun _ z => nomatch z), h2, fun n hn => ?_⟩
  obtain ⟨t, a, b⟩ := h3 n hn
  exact ⟨t, a, g.sqT b⟩
theorem TupsAt.get {K : PySem.W.Frag} {H : Hp} {D : Addr} {ns : List Str} {f : Str → List Str} {n : Str} (h : TupsAt K H D ns f) (hn : n ∈ ns) : ∃ t, DGet H D (.str n) (some (.ref t)) ∧ SqT K H t ((f n).map V.str) := by
  obtain ⟨kvs, h1, h2, h3⟩ := h
  obtain ⟨t, a, b⟩ := h3 n hn
  refine ⟨t, ?_, b⟩
  have := DGet.k (k := Sum.inr n) h1
  rw [a] at this
  exact this
theorem valV_none : ∀ {kvs : List (Key × V)} {k : Key}, k ∉ kvs.map (·.1) → valV kvs k = none
  | [], _, _ => rfl
  | p :: r, k, h => by
    rw [List.map_cons, List.mem_cons, not_or] at h
    rw [valV_neg (Ne.symm h.1)]
    exact valV_none h.2
/-- one more -/
theorem TupsAt.add {K : PySem.W.Frag} {H : Hp} {D : Addr} {ns : List Str} {f : Str → List Str} {n : Str} {t : Addr} (h : TupsAt K H D ns f) (hn : n ∉ ns) (ht : SqT K H t ((f n).map V.str)) : ∃ kvs, H D = some (.dK kvs) ∧ kvs.length = ns.length ∧ TupsAt K (upd H D (.dK (putK kvs (Sum.inr n) (.ref t)))) D (ns ++ [n]) f := by
  obtain ⟨kvs, h1, h2, h3⟩ := h
  have hl : kvs.length = ns.length := by
    have := congrArg List.length h2
    simpa using this
  have sq : ∀ {a : Addr} {xs : List V}, SqT K H a xs → SqT K (upd H D (.dK (putK kvs (Sum.inr n) (.ref t)))) a xs := fun {a xs} z => by
    rcases z with (z | ⟨o, z⟩) | z
    · exact .inl (.inl (by rw [upd_ne (ne_of z h1 fun z => nomatch z)]; exact z))
    · exact .inl (.inr ⟨o, by rw [upd_ne (ne_of z h1 fun z => nomatch z)]; exact z⟩)
    · exact .inr z
  have nk : Sum.inr n ∉ kvs.map (·.1) := fun z => by
    rw [h2] at z
    obtain ⟨m, hm, e⟩ := List.mem_map.mp z
    cases e
    exact hn hm
  refine ⟨kvs, h1, hl, _, upd_same, ?_, fun m hm => ?_⟩
  · rw [putK_new _ (valV_none nk), List.map_append, List.map_append, h2]
    rfl
  · rw [valV_put]
    by_cases e : m = n
    · subst e
      exact ⟨t, by rw [if_pos rfl], sq ht⟩
    · obtain ⟨t', a, b⟩ := h3 m (by
        rcases List.mem_append.mp hm with z | z
        · exact z
        · exact absurd (List.mem_singleton.mp z) e)
      exact ⟨t', by rw [if_neg (fun z => e (Sum.inr.inj z))]; exact a, sq b⟩
/-! ### edges_of -/
def spEdgesOf (c : Ct) : Sp := fun vs H Q _ => ∃ v P, vs = [v] ∧ Dp c.K H v (encP P) ∧ OkP P ∧ Tabs c.ts H ∧ ∀ H' v', Gr H H' → Dp c.K H' v' (edgD P) → Q v' H'
abbrev nEdges : List Str := ["program", "targets", "names", "name", "steps", "end", "other"]
theorem sc_edges : FnScope nEdges ["program"] (defScope s_edges_of) := ⟨rfl, rfl, rfl, by decide +kernel, rfl, by decide +kernel, by decide +kernel⟩
abbrev scE1 : Scope := (genOf (lastRet s_edges_of)).2
abbrev scE2 : Scope := (genOf (third (genOf (lastRet s_edges_of)).1)).2
theorem gokE1 : GOk nEdges (defScope s_edges_of) scE1 [("name", 3)] := gok_by (by decide +kernel) rfl rfl
theorem gokE2 : GOk nEdges scE1 scE2 [("other", 6)] := gok_by (by decide +kernel) rfl rfl
end Pm
set_option maxHeartbeats 4000000
namespace Pm
open PySem PySem.Spec PyProof.Rows L2 GxR GX
variable {c : Ct}
theorem get_encB {P : List Blk} {i : Nat} {d : PyData} (hd : (P.map encB)[i]? = some d) : ∃ b, P[i]? = some b ∧ d = encB b := by
  rw [List.getElem?_map] at hd
  cases e9 : P[i]? with
  | none => rw [e9] at hd; cases hd
  | some b => rw [e9] at hd; exact ⟨b, rfl, (Option.some.inj hd).symm⟩
theorem get_str {xs : List Str} {i : Nat} {v : V} (h : (xs.map V.str)[i]? = some v) : ∃ n, xs[i]? = some n ∧ v = .str n := by
  rw [List.getElem?_map] at h
  cases e9 : xs[i]? with
  | none => rw [e9] at h; cases h
  | some n => rw [e9] at h; exact ⟨n, rfl, (Option.some.inj h).symm⟩
/-- where an end leads, as parts_of tells it -/
theorem goals_parts {e : En} : ∃ z rest ks, rowE e = .str z :: rest ∧ formsL.lookup z = some ks ∧ rest.length = ks.length ∧ partsV rest ks "block" = (goals e).map V.str := by
  have k1 : ¬ ("read" : Str) = "block" := by decide +kernel
  cases e with
  | go b => exact ⟨_, _, _, rfl, look_go, rfl, by simp [partsV, goals]⟩
  | ite x b c => exact ⟨_, _, _, rfl, look_if, rfl, by simp [partsV, goals, k1]⟩
  | stop => exact ⟨_, _, _, rfl, look_stop, rfl, rfl⟩
theorem nm_nodup_take {P : List Blk} (ok : OkP P) {i : Nat} {b : Blk} (hb : P[i]? = some b) : b.name ∉ (P.take i).map (·.name) := fun h => by
  have nd := ok.nd
  have hi : i < P.length := (List.getElem?_eq_some_iff.mp hb).1
  have e : P = P.take i ++ b :: P.drop (i + 1) := by
    have e1 : P.drop i = b :: P.drop (i + 1) := by
      rw [List.drop_eq_getElem_cons hi]
      congr 1
      exact (List.getElem?_eq_some_iff.mp hb).2
    rw [← e1, List.take_append_drop]
  rw [e, List.map_append, List.nodup_append] at nd
  exact nd.2.2 b.name h b.name (by simp) rfl
set_option maxHeartbeats 8000000 in
theorem ok_edges_of (D : Tf c "edges_of" s_edges_of) (B : Bl3 c) (O : Ok c "parts_of" 1 ["row", "kind"] (spPartsOf c)) : Ok c "edges_of" 6 ["program"] (spEdgesOf c) := by
  refine tf_ok D sc_edges (fun vs H Q E h => ?_) (fun _ _ _ _ _ _ us hl => match us, hl with | [_], _ => rfl) fun f cd tb A outer s H vs Q E TB hmt hr h => ?_
  · obtain ⟨v, P, rfl, _⟩ := h
    rfl
  · obtain ⟨v, P, rfl, hv, okP, hT, q⟩ := h
    have nd := sc_edges.nd
    have r1 : Room 1 _ := hr.mono (by decide)
    refine ⟨_, pss_cons (ps_set (i := 1) nd rfl (.inr rfl) (pe_dc (own := [("name", 3), ("steps", 4), ("end", 5)]) (g := gTup c.K 3 (gCons (gName 3) (gCons (gName 4) (gCons (gName 5) gNil)))) (tt := tYes) (tk := tVar 3) (tv := tThen (tSortSet c.K (tCall (spPartsOf c) [] E0 (tCons (tVar 5) (tCons (tC (.str "block")) tNil)))) (kTup c.K)) rfl nd (pi_tup (pv 0)) (blkOk_by (N := nEdges) (sc := defScope s_edges_of) (by decide +kernel))
          (fun _ _ _ _ _ => pg_tup rfl (pgs_cons (pg_name (i := 3) nd rfl (.inl rfl)) (pgs_cons (pg_name (i := 4) nd rfl (.inl rfl)) (pgs_cons (pg_name (i := 5) nd rfl (.inl rfl)) pgs_nil)))) (fun _ _ _ _ _ => pts_nil) (fun _ _ _ _ _ => pv 3)
          (fun _ _ _ _ _ => pe_tupleOf (by rfl) B.tuple (pe_sortSet rfl B.sorted B.set (pe_f c O r1 (pa_cons (pv 5) (pa_cons pe_str pa_nil)))))))
      (pss_cons (ps_set (i := 2) nd rfl (.inr rfl) (pe_callB (call_sortedD rfl) (by rfl) B.sorted (by decide +kernel) (pa_cons (pv 1) pa_nil)))
      (pss_one (ps_ret (pe_tupG (own := [("name", 3)]) (g := gName 3) (tt := fun _ => tYes) (te := fun code => tTup (tCons (tVar 3) (tCons (tDGet (tVar 1) (tVar 3)) (tCons (tTupI code (iList c.K (tVar 2)) (gName 6) (tB (tOp (rIn c.K false) (tVar 3) (tDGet (tVar 1) (tVar 6)))) (tVar 6) [6]) tNil)))) rfl nd hr (by rfl) B.tuple TB rfl gokE1
        (pi_list (pv 2)) (fun _ _ _ _ _ _ _ _ => pg_name (i := 3) nd rfl (.inr rfl)) (fun _ _ _ _ _ _ _ _ => pts_nil)
        (fun _ _ _ _ code _ _ _ => pe_tup (pa_cons (pv 3) (pa_cons (pe_dget (hu_of (room_genT (k := 4) hr _)) (pv 1) (pv 3) (fun _ _ => rfl)) (pa_cons
          (pe_tupI (own := [("other", 6)]) (code := code) rfl nd (room_genT (k := 4) hr _) (by rfl) B.tuple TB.bm rfl gokE2 (pi_list (pv 2)) (fun _ _ _ _ _ _ _ _ => pg_name (i := 6) nd rfl (.inl rfl))
            (fun _ _ _ _ _ _ _ _ => pts_one (pt_cmpR op_in_seq (pv 3) (pe_dget (hu_of (room_genT (k := 3) (room_genT (k := 4) hr _) _)) (pv 1) (pv 6) (fun _ _ => rfl)) (by rfl))) (fun _ _ _ _ _ _ _ _ => pv 6)) pa_nil)))))))), ?_⟩
    obtain ⟨pa, xs, rfl, hPa, hPx⟩ := dp_tup hv
    have lenP : xs.length = P.length := by rw [dpAll_length hPx, List.length_map]
    have fP := okP.few
    refine ⟨.ref pa, rfl, pa, rfl, ⟨_, hPa⟩, fun D nD => ?_⟩
    refine dc_tup (xs := xs) (fun i H' => Gr H H' ∧ TupsAt c.K H' D ((P.take i).map (·.name)) (tg P)) ⟨(Gr.refl _).put nD, [], upd_same, rfl, fun n hn => by simp at hn⟩ (fun i H' _ ⟨hg, _⟩ => hg.sqT hPa) (fun i x H' hx ⟨hg, htab⟩ => ?_) fun H1 ⟨g1, htab⟩ => ?_
    · obtain ⟨d, hd, hdp⟩ := dpAll_get hPx hx
      obtain ⟨b, hb, rfl⟩ := get_encB hd
      have hbP := List.mem_of_getElem? hb
      have hi : i < P.length := (List.getElem?_eq_some_iff.mp hb).1
      obtain ⟨ba, bp, en, ys, rfl, s1, s2, s3, s4⟩ := blk_at hdp
      obtain ⟨ea, rfl, sE⟩ := end_at s4
      obtain ⟨z, rest, ks, hrow, hks, hlr, hparts⟩ := goals_parts (e := b.en)
      rw [hrow] at sE
      refine ⟨ba, _, rfl, hg.sqT s1, rfl, .str b.name, _, rfl, .ref bp, _, rfl, .ref ea, _, rfl, rfl, rfl, ?_⟩
      refine ⟨.str b.name, rfl, .ref ea, rfl, ea, z, rest, ks, "block", rfl, hg.sqT sE, hks, hlr, hT.gr hg, fun H2 p2 g2 n2 h2 => ?_⟩
      rw [hparts] at h2
      refine ⟨p2, goals b.en, rfl, .inl (.inl (.inl h2)), by have := goals_len b.en; omega, fun ys p3 pm so n3 => ?_⟩
      have eys : ys = tg P b.name := by unfold tg; rw [enOf_mem okP hbP]; exact eq_srt pm so
      subst eys
      refine .inl ⟨p3, _, rfl, .inl (.inl upd_same), fun t nt => ?_⟩
      have g3 : Gr H' (upd (upd H2 p3 (.lst ((tg P b.name).map V.str))) t (.tup ((tg P b.name).map V.str))) := g2.trans ((Gr.new n3).trans (.new nt))
      obtain ⟨kvs, k1, k2, k3⟩ := (htab.gr g3).add (n := b.name) (t := t) (nm_nodup_take okP hb) (.inl (.inl upd_same))
      refine ⟨kvs, Sum.inr b.name, rfl, k1, small1000 (by rw [k2, List.length_map, List.length_take]; omega), (hg.trans g3).put nD (.dK k1), ?_⟩
      rw [List.take_add_one, hb, List.map_append]
      exact k3
    · rw [lenP, List.take_of_length_le (Nat.le_refl _)] at htab
      obtain ⟨kvs, k1, k2, k3⟩ := _root_.id htab
      refine ⟨.ref D, rfl, D, kvs, P.map (·.name), rfl, .inl k1, k2, by rw [List.length_map]; omega, fun ys na pm so nn => ?_⟩
      have eys : ys = nms P := eq_srt pm so
      subst eys
      have g2 : Gr H1 (upd H1 na (.lst ((nms P).map V.str))) := .new nn
      have hN2 : (upd H1 na (.lst ((nms P).map V.str))) na = some (.lst ((nms P).map V.str)) := upd_same
      generalize upd H1 na (.lst ((nms P).map V.str)) = H2 at g2 hN2
      have tab2 := htab.gr g2
      have lenN : (nms P).length ≤ 12 := by rw [nms_len]; exact fP
      have hT2 := hT.gr (g1.trans g2)
      refine ⟨.ref na, rfl, na, rfl, ⟨_, .inl (.inl hN2)⟩, hT2 tb hmt, fun H3 code hTab good => ?_⟩
      have g3 : Gr H2 H3 := .tabbed (hT2 tb hmt) hTab
      refine col_list (xs := (nms P).map V.str) (fun i ys H' => Gr H3 H' ∧ DpAll c.K H' ys (((nms P).take i).map (edgRow P))) ⟨.refl _, .nil⟩ (fun i ys H' ⟨hg, _⟩ => .inl (.inl ((g3.trans hg).lst hN2))) (fun i x ys H4 hx ⟨g4, da⟩ => ?_) fun ys H4 ⟨g4, da⟩ => ?_
      · obtain ⟨n, hn, rfl⟩ := get_str hx
        have hnP : n ∈ P.map (·.name) := mem_nms.mp (List.mem_of_getElem? hn)
        have g24 := g3.trans g4
        obtain ⟨t, dg, st⟩ := (tab2.gr g24).get hnP
        refine ⟨rfl, .str n, rfl, .ref D, rfl, .str n, rfl, D, .ref t, rfl, dg, .ref na, rfl, na, rfl, ⟨_, .inl (.inl (g24.lst hN2))⟩, goodC_gr g4 good, fun H5 P5 hTab5 => ?_⟩
        have g5 : Gr H4 H5 := .tabbedG hTab5
        have g25 := g24.trans g5
        refine col_list (xs := (nms P).map V.str) (fun j zs H' => Gr H5 H' ∧ zs = (((nms P).take j).filter fun m => decide (n ∈ tg P m)).map V.str) ⟨.refl _, rfl⟩ (fun j zs H' ⟨hg, _⟩ => .inl (.inl ((g25.trans hg).lst hN2))) (fun j y zs H6 hy ⟨g6, hz⟩ => ?_) fun zs H6 ⟨g6, hz⟩ => ?_
        · obtain ⟨m, hm, rfl⟩ := get_str hy
          have hmP : m ∈ P.map (·.name) := mem_nms.mp (List.mem_of_getElem? hm)
          obtain ⟨t', dg', st'⟩ := (tab2.gr (g25.trans g6)).get hmP
          refine ⟨rfl, .str n, rfl, .ref D, rfl, .str m, rfl, D, .ref t', rfl, dg', t', _, rfl, .inr st', rfl, flat_words _, _, rfl, ?_⟩
          show (if inV (.str n) ((tg P m).map V.str) = true then _ else _)
          rw [inV_str]
          have lz : zs.length < 100 := by
            rw [hz, List.length_map]
            have h1 := List.length_filter_le (fun m => decide (n ∈ tg P m)) ((nms P).take j)
            rw [List.length_take] at h1
            omega
          refine ite2 (fun e => ?_) fun e => ?_
          · refine ⟨.str m, rfl, small1000 (by omega), g6, ?_⟩
            rw [List.take_add_one, hm, List.filter_append, hz, List.map_append]
            simp [e]
          · refine ⟨g6, ?_⟩
            rw [List.take_add_one, hm, List.filter_append, hz]
            simp [e]
        · rw [List.length_map, List.take_of_length_le (Nat.le_refl _)] at hz
          subst hz
          refine ⟨?_, fun p np => ⟨by show 3 ≤ sizeLine; decide, fun p2 np2 => ?_⟩⟩
          · rw [List.length_map]
            exact Nat.le_of_lt (small1000 (by have := List.length_filter_le (fun m => decide (n ∈ tg P m)) (nms P); omega))
          · have gA : Gr H4 (upd (upd H6 p (.tup (((nms P).filter fun m => decide (n ∈ tg P m)).map V.str))) p2 (.tup [.str n, .ref t, .ref p])) := (g5.trans g6).trans ((Gr.new np).trans (.new np2))
            have ly : ys.length = ((nms P).take i).length := by rw [dpAll_length da, List.length_map]
            rw [List.length_take] at ly
            refine ⟨small1000 (by omega), g4.trans gA, ?_⟩
            rw [List.take_add_one, hn, List.map_append]
            refine dpAll_snoc ?_ (dpAll_gr gA da)
            exact .tup (.inl (.inl upd_same)) (.cons (.str n) (.cons (dp_strsT (gA.sqT st)) (.cons (dp_strsT (.inl (.inl (Gr.tup (.new np2) upd_same)))) .nil)))
      · rw [List.length_map, List.take_of_length_le (Nat.le_refl _)] at da
        have ly : ys.length = (nms P).length := by rw [dpAll_length da, List.length_map]
        refine ⟨Nat.le_of_lt (small1000 (by omega)), fun p np => q _ _ (((g1.trans g2).trans (g3.trans g4)).trans (.new np)) ?_⟩
        exact .tup (.inl (.inl upd_same)) (dpAll_gr (.new np) da)
end Pm
set_option maxHeartbeats 4000000
namespace Pm
open PySem PySem.Spec PyProof.Rows L2 GxR GX
variable {c : Ct}
/-! ### targets_by_name -/
def spTbn (c : Ct) : Sp := fun vs H Q _ => ∃ v P, vs = [v] ∧ Dp c.K H v (edgD P) ∧ OkP P ∧ ∀ H' D, Gr H H' → H D = none → TupsAt c.K H' D (nms P) (tg P) → Q (.ref D) H'
abbrev nTbn : List Str := ["edges", "name", "targets", "sources"]
theorem sc_tbn : FnScope nTbn ["edges"] (defScope s_targets_by_name) := ⟨rfl, rfl, rfl, by decide +kernel, rfl, by decide +kernel, by decide +kernel⟩
theorem row_at {K : PySem.W.Frag} {H : Hp} {v : V} {P : List Blk} {n : Str} (h : Dp K H v (edgRow P n)) : ∃ a t s, v = .ref a ∧ SqT K H a [.str n, .ref t, .ref s] ∧ SqT K H t ((tg P n).map V.str) := by
  obtain ⟨a, xs, rfl, sq, da⟩ := dp_tup h
  cases da with
  | cons d1 da =>
    cases da with
    | cons d2 da =>
      cases da with
      | cons d3 da =>
        cases da
        cases d1
        obtain ⟨t, rfl, st⟩ := strsT_at d2
        obtain ⟨u, rfl, su⟩ := strsT_at d3
        exact ⟨a, t, u, rfl, sq, st⟩
theorem ok_tbn (D : Df c "targets_by_name" s_targets_by_name) : Ok c "targets_by_name" 1 ["edges"] (spTbn c) := by
  refine df_ok D sc_tbn (fun vs H Q E h => ?_) (fun _ _ _ _ _ _ us hl => match us, hl with | [_], _ => rfl) fun f cd A outer s H vs Q E hr h => ?_
  · obtain ⟨v, P, rfl, _⟩ := h
    rfl
  · obtain ⟨v, P, rfl, hv, okP, q⟩ := h
    have nd := sc_tbn.nd
    refine ⟨_, pss_one (ps_ret (pe_dc (own := [("name", 1), ("targets", 2), ("sources", 3)]) (g := gTup c.K 3 (gCons (gName 1) (gCons (gName 2) (gCons (gName 3) gNil)))) (tt := tYes) (tk := tVar 1) (tv := tVar 2) rfl nd (pi_tup (pv 0)) (blkOk_by (N := nTbn) (sc := defScope s_targets_by_name) (by decide +kernel))
          (fun _ _ _ _ _ => pg_tup rfl (pgs_cons (pg_name (i := 1) nd rfl (.inl rfl)) (pgs_cons (pg_name (i := 2) nd rfl (.inl rfl)) (pgs_cons (pg_name (i := 3) nd rfl (.inl rfl)) pgs_nil)))) (fun _ _ _ _ _ => pts_nil) (fun _ _ _ _ _ => pv 1) (fun _ _ _ _ _ => pv 2))), ?_⟩
    obtain ⟨pa, xs, rfl, hPa, hPx⟩ := dp_tup hv
    have lenN : (nms P).length ≤ 12 := by rw [nms_len]; exact okP.few
    have lenX : xs.length = (nms P).length := by rw [dpAll_length hPx, List.length_map]
    refine ⟨.ref pa, rfl, pa, rfl, ⟨_, hPa⟩, fun D nD => ?_⟩
    refine dc_tup (xs := xs) (fun i H' => Gr H H' ∧ TupsAt c.K H' D ((nms P).take i) (tg P)) ⟨(Gr.refl _).put nD, [], upd_same, rfl, fun n hn => by simp at hn⟩ (fun i H' _ ⟨hg, _⟩ => hg.sqT hPa) (fun i x H' hx ⟨hg, htab⟩ => ?_) fun H1 ⟨g1, htab⟩ => ?_
    · obtain ⟨d, hd, hdp⟩ := dpAll_get hPx hx
      obtain ⟨n, hn, rfl⟩ : ∃ n, (nms P)[i]? = some n ∧ d = edgRow P n := by
        rw [List.getElem?_map] at hd
        cases e9 : (nms P)[i]? with
        | none => rw [e9] at hd; cases hd
        | some n => rw [e9] at hd; exact ⟨n, rfl, (Option.some.inj hd).symm⟩
      obtain ⟨a, t, u, rfl, sq, st⟩ := row_at hdp
      have hi : i < (nms P).length := (List.getElem?_eq_some_iff.mp hn).1
      have fresh : n ∉ (nms P).take i := fun h => by
        have ndn := nms_nd okP
        have e : nms P = (nms P).take i ++ n :: (nms P).drop (i + 1) := by
          have e1 : (nms P).drop i = n :: (nms P).drop (i + 1) := by
            rw [List.drop_eq_getElem_cons hi]
            congr 1
            exact (List.getElem?_eq_some_iff.mp hn).2
          rw [← e1, List.take_append_drop]
        rw [e, List.nodup_append] at ndn
        exact ndn.2.2 n h n (by simp) rfl
      obtain ⟨kvs, k1, k2, k3⟩ := htab.add (n := n) (t := t) fresh (hg.sqT st)
      refine ⟨a, _, rfl, hg.sqT sq, rfl, .str n, _, rfl, .ref t, _, rfl, .ref u, _, rfl, rfl, rfl, ?_⟩
      refine ⟨.str n, rfl, .ref t, rfl, kvs, Sum.inr n, rfl, k1, small1000 (by rw [k2, List.length_take]; omega), hg.put nD (.dK k1), ?_⟩
      rw [List.take_add_one, hn]
      exact k3
    · rw [lenX, List.take_of_length_le (Nat.le_refl _)] at htab
      exact q H1 D g1 nD htab
/-! ### names_reached -/
def butV : Option Str → V
  | none => .non
  | some n => .str n
theorem ne_but (n : Str) (but : Option Str) : (!decide (V.str n = butV but)) = true ↔ some n ≠ but := by
  cases but with
  | none => simp [butV]
  | some m => simp [butV]
def spReached (c : Ct) : Sp := fun vs H Q _ => ∃ v w P but, vs = [v, w, butV but] ∧ Dp c.K H v (encP P) ∧ Dp c.K H w (edgD P) ∧ OkP P ∧ ∀ H' p (fs : List Str), Gr H H' → H p = none → H' p = some (.lst (fs.map V.str)) → fs.Nodup → (∀ n, n ∈ fs ↔ Rch P but n) → Q (.ref p) H'
abbrev nReached : List Str := ["program", "edges", "barred", "targets", "first", "found", "left", "name"]
theorem sc_reached : FnScope nReached ["program", "edges", "barred"] (defScope s_names_reached) := ⟨rfl, rfl, rfl, by decide +kernel, rfl, by decide +kernel, by decide +kernel⟩
/-- the program's first name -/
theorem first_at {K : PySem.W.Frag} {H : Hp} {v : V} {P : List Blk} (ok : OkP P) (h : Dp K H v (encP P)) : ∃ pa xs ba rest f, v = .ref pa ∧ SqT K H pa (.ref ba :: xs) ∧ SqT K H ba (.str f :: rest) ∧ (P.map (·.name)).head? = some f := by
  obtain ⟨pa, xs, rfl, hPa, hPx⟩ := dp_tup h
  cases P with
  | nil => have := ok.one; simp at this
  | cons b P' =>
    cases hPx with
    | cons d1 da =>
      obtain ⟨ba, bp, en, ys, rfl, s1, _⟩ := blk_at d1
      exact ⟨pa, _, ba, _, b.name, rfl, hPa, s1, rfl⟩
/-- amid the walk: the lists found, left at fa, la -/
def RI (P : List Blk) (but : Option Str) (H1 : Hp) (fa la : Addr) (m : Nat) (H' : Hp) : Prop := ∃ fs ls : List Str, m = 3 * (P.length - fs.length) + ls.length ∧ Gr H1 H' ∧ H' fa = some (.lst (fs.map V.str)) ∧ H' la = some (.lst (ls.map V.str)) ∧ Wk P but fs ls ∧ ls.length ≤ 1 + 2 * fs.length
theorem ok_reached (D : Df c "names_reached" s_names_reached) (O : Ok c "targets_by_name" 1 ["edges"] (spTbn c)) : Ok c "names_reached" 2 ["program", "edges", "barred"] (spReached c) := by
  refine df_ok D sc_reached (fun vs H Q E h => ?_) (fun _ _ _ _ _ _ us hl => match us, hl with | [_, _, _], _ => rfl) fun f cd A outer s H vs Q E hr h => ?_
  · obtain ⟨v, w, P, but, rfl, _⟩ := h
    rfl
  · obtain ⟨v, w, P, but, rfl, hv, hw, okP, q⟩ := h
    have nd := sc_reached.nd
    refine ⟨_, pss_cons (ps_set (i := 3) nd rfl (.inl rfl) (pe_f c O hr (pa_cons (pv 1) pa_nil)))
      (pss_cons (ps_set (i := 4) nd rfl (.inl rfl) (pe_ix ix_tup (pe_ix ix_tup (pv 0) pe_int (fun _ _ => rfl)) pe_int (fun _ _ => rfl)))
      (pss_cons (ps_set (i := 5) nd rfl (.inl rfl) (pe_lst pa_nil))
      (pss_cons (ps_set (i := 6) nd rfl (.inl rfl) (pe_lst (pa_cons (pv 4) pa_nil)))
      (pss_cons (ps_while PassesOwn.never (pt_truth (pv 6) (by intro _; rfl))
        (pss_cons (ps_set (i := 7) nd rfl (.inl rfl) (pe_bm0 PySem.F.plainAttrs_list PySem.F.slot_list_pop PySem.F.type_list_pop mt_pop (pv 6)))
        (pss_one (ps_if (PW.pt (pw_and (pt_cmpR op_ne (pv 7) (pv 2) (nomark _)) (pw_and1 (pt_cmpR op_notIn_seq (pv 7) (pv 5) (by rfl)))))
          (pss_cons (ps_expr (pe_bm PySem.F.plainAttrs_list PySem.F.slot_list_append PySem.F.type_list_append mt_append (pv 5) (pa_cons (pv 7) pa_nil)))
          (pss_one (ps_expr (pe_bm PySem.F.plainAttrs_list PySem.F.slot_list_extend PySem.F.type_list_extend mt_extendT (pv 6) (pa_cons (pe_dget (hu_of hr) (pv 3) (pv 7) (fun _ _ => rfl)) pa_nil)))))
          pss_nil))))
      (pss_one (ps_ret (pv 5))))))), ?_⟩
    refine ⟨w, rfl, w, P, rfl, hw, okP, fun H1 D g1 nD tab => ?_⟩
    obtain ⟨pa, xs, ba, rest, f0, rfl, hPa, hBa, hf⟩ := first_at okP hv
    refine ⟨.ref pa, rfl, pa, _, 0, .ref ba, rfl, rfl, g1.sqT hPa, atI_nat (j := 0) rfl, ba, _, 0, .str f0, rfl, rfl, g1.sqT hBa, atI_nat (j := 0) rfl, ?_⟩
    refine ⟨by show 0 ≤ sizeLine; decide, fun fa nf => ?_⟩
    refine ⟨.str f0, rfl, by show 1 ≤ sizeLine; decide, fun la nl => ?_⟩
    have nfl : fa ≠ la := fun z => by rw [← z, upd_same] at nl; cases nl
    have nl1 : H1 la = none := by rw [upd_ne (Ne.symm nfl)] at nl; exact nl
    have fP := okP.few
    refine ⟨fun m σ H' => ∃ nv, σ = [some (.ref pa), some w, some (butV but), some (.ref D), some (.str f0), some (.ref fa), some (.ref la), nv] ∧ RI P but H1 fa la m H',
      ⟨_, none, rfl, [], [f0], rfl, ((Gr.refl _).put nf).put nl1 (.free nl), by rw [upd_ne nfl, upd_same]; rfl, upd_same, .zero hf, by simp⟩, ?_⟩
    rintro m σ H2 ⟨nv, rfl, fs, ls, rfl, g2, hfa, hla, wk, hll⟩
    refine ⟨.ref la, rfl, !(ls.map V.str).isEmpty, .inl ⟨_, .inl (.inl hla), rfl⟩, ?_⟩
    have lf := wk.few okP
    by_cases hl : ls = []
    · subst hl
      refine iteF ⟨.ref fa, rfl, ?_⟩
      exact q H2 fa fs (g1.trans g2) (g1.free nf) hfa wk.nd (fun n => wk.done n)
    · obtain ⟨ls', n, rfl⟩ : ∃ ls' n, ls = ls' ++ [n] := ⟨ls.dropLast, ls.getLast hl, (List.dropLast_concat_getLast hl).symm⟩
      have e0 : (!(((ls' ++ [n]).map V.str).isEmpty)) = true := by rw [List.map_append]; simp
      rw [e0]
      refine iteT ⟨fun σ' H' => ∃ m', m' < 3 * (P.length - fs.length) + (ls' ++ [n]).length ∧ ∃ nv, σ' = [some (.ref pa), some w, some (butV but), some (.ref D), some (.str f0), some (.ref fa), some (.ref la), nv] ∧ RI P but H1 fa la m' H', fun σ' H' h => h, ?_⟩
      have elast : ((ls' ++ [n]).map V.str)[((ls' ++ [n]).map V.str).length - 1]? = some (V.str n) := by simp
      have edrop : ((ls' ++ [n]).map V.str).dropLast = ls'.map V.str := by rw [List.map_append]; simp
      refine ⟨.ref la, rfl, .inl ⟨rfl, _, .inl (.inl hla)⟩, la, _, .str n, rfl, rfl, hla, elast, ?_⟩
      rw [edrop]
      have g3 : Gr H1 (upd H2 la (.lst (ls'.map V.str))) := g2.put nl1 (.lst hla)
      have hfa3 : (upd H2 la (.lst (ls'.map V.str))) fa = some (.lst (fs.map V.str)) := by rw [upd_ne nfl]; exact hfa
      have hla3 : (upd H2 la (.lst (ls'.map V.str))) la = some (.lst (ls'.map V.str)) := upd_same
      generalize upd H2 la (.lst (ls'.map V.str)) = H3 at g3 hfa3 hla3
      have hll' : ls'.length ≤ 2 * fs.length := by rw [List.length_append, List.length_singleton] at hll; omega
      have skip : (n ∈ fs ∨ some n = but) → ∃ m', m' < 3 * (P.length - fs.length) + (ls' ++ [n]).length ∧ ∃ nv, [some (V.ref pa), some w, some (butV but), some (.ref D), some (.str f0), some (.ref fa), some (.ref la), some (.str n)] = [some (.ref pa), some w, some (butV but), some (.ref D), some (.str f0), some (.ref fa), some (.ref la), nv] ∧ RI P but H1 fa la m' H3 := fun h =>
        ⟨_, by rw [List.length_append, List.length_singleton]; exact Nat.lt_succ_self _, _, rfl, fs, ls', rfl, g3, hfa3, hla3, wk.skip h, by omega⟩
      refine ⟨.str n, rfl, butV but, rfl, by cases but <;> rfl, _, rfl, ?_⟩
      refine ite2 (fun e => ?_) fun e => ?_
      · have nb := (ne_but n but).mp e
        refine ⟨.str n, rfl, .ref fa, rfl, fa, _, rfl, .inl (.inl (.inl hfa3)), rfl, flat_words _, _, rfl, ?_⟩
        show (if (!inV (.str n) (fs.map V.str)) = true then _ else _)
        rw [inV_str]
        by_cases hn : n ∈ fs
        · rw [decide_eq_true hn]
          exact iteF (skip (.inl hn))
        · rw [decide_eq_false hn]
          refine iteT ?_
          have hnP := (wk.lft n (by simp)).1
          refine ⟨.ref fa, rfl, .inl ⟨rfl, _, .inl (.inl hfa3)⟩, .str n, rfl, fa, _, _, rfl, rfl, hfa3, by rw [List.length_map]; exact small1000 (by omega), ?_⟩
          have g4 : Gr H1 (upd H3 fa (.lst (fs.map V.str ++ [.str n]))) := g3.put nf (.lst hfa3)
          have hfa4 : (upd H3 fa (.lst (fs.map V.str ++ [.str n]))) fa = some (.lst ((fs ++ [n]).map V.str)) := by rw [upd_same, List.map_append]; rfl
          have hla4 : (upd H3 fa (.lst (fs.map V.str ++ [.str n]))) la = some (.lst (ls'.map V.str)) := by rw [upd_ne (Ne.symm nfl)]; exact hla3
          generalize upd H3 fa (.lst (fs.map V.str ++ [.str n])) = H4 at g4 hfa4 hla4
          obtain ⟨t, dg, st⟩ := (tab.gr g4).get (mem_nms.mpr hnP)
          have lt := tg_len P n
          refine ⟨.ref la, rfl, .inl ⟨rfl, _, .inl (.inl hla4)⟩, .ref D, rfl, .str n, rfl, D, .ref t, rfl, dg, la, t, _, _, rfl, rfl, hla4, st, by rw [List.length_map, List.length_map]; exact Nat.le_of_lt (small1000 (by omega)), ?_⟩
          have wk' := wk.add okP hn nb (ts := tg P n) fun t => mem_tg
          have lf' := wk'.few okP
          rw [List.length_append, List.length_singleton] at lf'
          refine ⟨3 * (P.length - (fs ++ [n]).length) + (ls' ++ tg P n).length, ?_, _, rfl, fs ++ [n], ls' ++ tg P n, rfl, g4.put nl1 (.lst hla4), by rw [upd_ne nfl]; exact hfa4, by rw [upd_same, List.map_append], wk', ?_⟩
          · simp only [List.length_append, List.length_singleton]
            omega
          · simp only [List.length_append, List.length_singleton]
            omega
      · refine skip (.inr ?_)
        exact Classical.byContradiction fun z => e ((ne_but n but).mpr z)
end Pm
set_option maxHeartbeats 4000000
/-! a text in a dict of the module -/
namespace Pm
open PySem PySem.Spec PyProof.Rows L2 GxR GX
def rInK (K : PySem.W.Frag) (w : World) : R2 := fun x y H Q => ∃ p z v, x = .str z ∧ y = .ref p ∧ KDct K w p z v ∧ (p == sysModules) = false ∧ Q (.bl true) H
theorem op_in_kd {X : Cx} : OpR X (compareOp .In) (rInK X.K X.w) := by
  intro pins s σ H x y v u Q I rx ry h
  obtain ⟨p, z, r, rfl, rfl, ⟨es, n, u0, hl, hk, e, ru⟩, hd, q⟩ := h
  obtain rfl : u = Value.ref p := ry
  obtain ⟨t, rfl⟩ := rx
  have hm := PySem.W.mapOf_K (prog := X.prog) (w := X.w) I.kIn hl hk
  refine wpAny_in_of (strKind_is X.prog X.w z t) hd hm ⟨.bl true, H, I.tok _, ?_, q⟩
  rw [PySem.W.find_K hl e]
  rfl
end Pm
set_option maxHeartbeats 4000000
namespace Pm
open PySem PySem.Spec PyProof.Rows L2 GxR GX
variable {c : Ct}
/-! ### reach_of -/
def spReachOf (c : Ct) : Sp := fun vs H Q _ => ∃ v w P, vs = [v, w] ∧ Dp c.K H v (encP P) ∧ Dp c.K H w (edgD P) ∧ OkP P ∧ ∀ H' v', Gr H H' → Dp c.K H' v' (rchD P) → Q v' H'
theorem sc_reach_of : FnScope ["program", "edges"] ["program", "edges"] (defScope s_reach_of) := ⟨rfl, rfl, rfl, by decide +kernel, rfl, by decide +kernel, by decide +kernel⟩
abbrev OkReached (c : Ct) : Prop := Ok c "names_reached" 2 ["program", "edges", "barred"] (spReached c)
theorem few_rch {P : List Blk} {but : Option Str} {fs : List Str} (ok : OkP P) (nd : fs.Nodup) (h : ∀ n, n ∈ fs ↔ Rch P but n) : fs.length ≤ 12 := by
  have h1 := nd_len nd (ys := P.map (·.name)) fun a ha => ((h a).mp ha).name ok
  rw [List.length_map] at h1
  have := ok.few
  omega
theorem ok_reach_of (D : Df c "reach_of" s_reach_of) (B : Bl3 c) (O : OkReached c) : Ok c "reach_of" 3 ["program", "edges"] (spReachOf c) := by
  refine df_ok D sc_reach_of (fun vs H Q E h => ?_) (fun _ _ _ _ _ _ us hl => match us, hl with | [_, _], _ => rfl) fun f cd A outer s H vs Q E hr h => ?_
  · obtain ⟨v, w, P, rfl, _⟩ := h
    rfl
  · obtain ⟨v, w, P, rfl, hv, hw, okP, q⟩ := h
    refine ⟨_, pss_one (ps_ret (pe_tupleOf (by rfl) B.tuple (pe_callB cr_sortedS (by rfl) B.sorted (by decide +kernel) (pa_cons (pe_f c O hr (pa_cons (pv 0) (pa_cons (pv 1) (pa_cons pe_non pa_nil)))) pa_nil)))), ?_⟩
    refine ⟨v, rfl, w, rfl, v, w, P, none, rfl, hv, hw, okP, fun H1 p1 fs g1 n1 h1 nd hm => ?_⟩
    refine ⟨p1, fs, rfl, .inl (.inl h1), by have := few_rch okP nd hm; omega, fun ys p2 pm so n2 => ?_⟩
    have e : ys = rchL P none := (eq_srt pm so).trans (srt_rch okP nd hm)
    subst e
    refine .inl ⟨p2, _, rfl, .inl (.inl upd_same), fun t nt => ?_⟩
    exact q _ _ (g1.trans ((Gr.new n2).trans (.new nt))) (dp_strsT (.inl (.inl upd_same)))
/-! ### doms_of -/
def LstsAt (H : Hp) (D : Addr) (P : List Blk) (ms : List Str) : Prop := ∃ kvs, H D = some (.dK kvs) ∧ kvs.length ≤ ms.length ∧ ∀ m ∈ ms, ∃ l, ∃ fs : List Str, valV kvs (Sum.inr m) = some (.ref l) ∧ H l = some (.lst (fs.map V.str)) ∧ ∀ n, n ∈ fs ↔ Rch P (some m) n
theorem LstsAt.gr {H H' : Hp} {D : Addr} {P : List Blk} {ms : List Str} (g : Gr H H') (h : LstsAt H D P ms) : LstsAt H' D P ms := by
  obtain ⟨kvs, h1, h2, h3⟩ := h
  refine ⟨kvs, g.keep h1 (fun _ z => nomatch z), h2, fun m hm => ?_⟩
  obtain ⟨l, fs, a, b, d⟩ := h3 m hm
  exact ⟨l, fs, a, g.lst b, d⟩
theorem LstsAt.get {H : Hp} {D : Addr} {P : List Blk} {ms : List Str} {m : Str} (h : LstsAt H D P ms) (hm : m ∈ ms) : ∃ l, ∃ fs : List Str, DGet H D (.str m) (some (.ref l)) ∧ H l = some (.lst (fs.map V.str)) ∧ ∀ n, n ∈ fs ↔ Rch P (some m) n := by
  obtain ⟨kvs, h1, h2, h3⟩ := h
  obtain ⟨l, fs, a, b, d⟩ := h3 m hm
  refine ⟨l, fs, ?_, b, d⟩
  have := DGet.k (k := Sum.inr m) h1
  rw [a] at this
  exact this
theorem LstsAt.add {H : Hp} {D : Addr} {P : List Blk} {ms : List Str} {m : Str} {l : Addr} {fs : List Str} (h : LstsAt H D P ms) (hl : H l = some (.lst (fs.map V.str))) (hf : ∀ n, n ∈ fs ↔ Rch P (some m) n) : ∃ kvs, H D = some (.dK kvs) ∧ kvs.length ≤ ms.length ∧ LstsAt (upd H D (.dK (putK kvs (Sum.inr m) (.ref l)))) D P (ms ++ [m]) := by
  obtain ⟨kvs, h1, h2, h3⟩ := h
  refine ⟨kvs, h1, h2, _, upd_same, ?_, fun k hk => ?_⟩
  · have := length_putK kvs (Sum.inr m) (.ref l)
    rw [List.length_append, List.length_singleton]
    omega
  · rw [valV_put]
    by_cases e : k = m
    · subst e
      exact ⟨l, fs, by rw [if_pos rfl], by rw [upd_ne (ne_of hl h1 fun z => nomatch z)]; exact hl, hf⟩
    · obtain ⟨l', fs', a, b, d⟩ := h3 k (by
        rcases List.mem_append.mp hk with z | z
        · exact z
        · exact absurd (List.mem_singleton.mp z) e)
      exact ⟨l', fs', by rw [if_neg (fun z => e (Sum.inr.inj z))]; exact a, by rw [upd_ne (ne_of b h1 fun z => nomatch z)]; exact b, d⟩
def spDomsOf (c : Ct) : Sp := fun vs H Q _ => ∃ v w u P, vs = [v, w, u] ∧ Dp c.K H v (encP P) ∧ Dp c.K H w (edgD P) ∧ Dp c.K H u (rchD P) ∧ OkP P ∧ Tabs c.ts H ∧ ∀ H' v', Gr H H' → Dp c.K H' v' (domD P) → Q v' H'
abbrev nDoms : List Str := ["program", "edges", "reach", "without", "barred", "name", "other"]
theorem sc_doms : FnScope nDoms ["program", "edges", "reach"] (defScope s_doms_of) := ⟨rfl, rfl, rfl, by decide +kernel, rfl, by decide +kernel, by decide +kernel⟩
abbrev scD1 : Scope := (genOf (lastRet s_doms_of)).2
abbrev scD2 : Scope := (genOf (second (genOf (lastRet s_doms_of)).1)).2
theorem gokD1 : GOk nDoms (defScope s_doms_of) scD1 [("name", 5)] := gok_by (by decide +kernel) rfl rfl
theorem gokD2 : GOk nDoms scD1 scD2 [("other", 6)] := gok_by (by decide +kernel) rfl rfl
set_option maxHeartbeats 8000000 in
open Classical in
theorem ok_doms_of (D : Tf c "doms_of" s_doms_of) (B : Bl3 c) (O : OkReached c) : Ok c "doms_of" 6 ["program", "edges", "reach"] (spDomsOf c) := by
  refine tf_ok D sc_doms (fun vs H Q E h => ?_) (fun _ _ _ _ _ _ us hl => match us, hl with | [_, _, _], _ => rfl) fun f cd tb A outer s H vs Q E TB hmt hr h => ?_
  · obtain ⟨v, w, u, P, rfl, _⟩ := h
    rfl
  · obtain ⟨v, w, u, P, rfl, hv, hw, hu, okP, hT, q⟩ := h
    have nd := sc_doms.nd
    have r2 : Room 2 _ := hr.mono (by decide)
    refine ⟨_, pss_cons (ps_set (i := 3) nd rfl (.inr rfl) (pe_dc (own := [("barred", 4)]) (g := gName 4) (tt := tYes) (tk := tVar 4) (tv := tCall (spReached c) [] E0 (tCons (tVar 0) (tCons (tVar 1) (tCons (tVar 4) tNil)))) rfl nd (pi_tup (pv 2)) (blkOk_by (N := nDoms) (sc := defScope s_doms_of) (by decide +kernel))
          (fun _ _ _ _ _ => pg_name (i := 4) nd rfl (.inl rfl)) (fun _ _ _ _ _ => pts_nil) (fun _ _ _ _ _ => pv 4) (fun _ _ _ _ _ => pe_f c O r2 (pa_cons (pv 0) (pa_cons (pv 1) (pa_cons (pv 4) pa_nil))))))
      (pss_one (ps_ret (pe_tupG (own := [("name", 5)]) (g := gName 5) (tt := fun _ => tYes) (te := fun code => tTup (tCons (tVar 5) (tCons (tTupI code (iTup c.K (tVar 2)) (gName 6) (tB (tOp (rIn c.K true) (tVar 5) (tDGet (tVar 3) (tVar 6)))) (tVar 6) [6]) tNil))) rfl nd hr (by rfl) B.tuple TB rfl gokD1
        (pi_tup (pv 2)) (fun _ _ _ _ _ _ _ _ => pg_name (i := 5) nd rfl (.inr rfl)) (fun _ _ _ _ _ _ _ _ => pts_nil)
        (fun _ _ _ _ code _ _ _ => pe_tup (pa_cons (pv 5) (pa_cons
          (pe_tupI (own := [("other", 6)]) (code := code) rfl nd (room_genT (k := 4) hr _) (by rfl) B.tuple TB.bm rfl gokD2 (pi_tup (pv 2)) (fun _ _ _ _ _ _ _ _ => pg_name (i := 6) nd rfl (.inl rfl))
            (fun _ _ _ _ _ _ _ _ => pts_one (pt_cmpR op_notIn_seq (pv 5) (pe_dget (hu_of (room_genT (k := 3) (room_genT (k := 4) hr _) _)) (pv 3) (pv 6) (fun _ _ => rfl)) (by rfl))) (fun _ _ _ _ _ _ _ _ => pv 6)) pa_nil)))))), ?_⟩
    obtain ⟨ra, rfl, sR⟩ := strsT_at hu
    have lenR : (rchL P none).length ≤ 12 := Nat.le_trans (rchL_len P none) okP.few
    refine ⟨.ref ra, rfl, ra, rfl, ⟨_, sR⟩, fun D nD => ?_⟩
    refine dc_tup (xs := (rchL P none).map V.str) (fun i H' => Gr H H' ∧ LstsAt H' D P ((rchL P none).take i)) ⟨(Gr.refl _).put nD, [], upd_same, Nat.le_refl _, fun n hn => by simp at hn⟩ (fun i H' _ ⟨hg, _⟩ => hg.sqT sR) (fun i x H' hx ⟨hg, htab⟩ => ?_) fun H1 ⟨g1, htab⟩ => ?_
    · obtain ⟨m, hm, rfl⟩ := get_str hx
      refine ⟨rfl, .str m, rfl, v, rfl, w, rfl, .str m, rfl, v, w, P, some m, rfl, dp_gr hg hv, dp_gr hg hw, okP, fun H2 l fs g2 n2 h2 ndf hf => ?_⟩
      obtain ⟨kvs, k1, k2, k3⟩ := (htab.gr g2).add h2 hf
      refine ⟨kvs, Sum.inr m, rfl, k1, small1000 (by rw [List.length_take] at k2; omega), (hg.trans g2).put nD (.dK k1), ?_⟩
      rw [List.take_add_one, hm]
      exact k3
    · rw [List.length_map, List.take_of_length_le (Nat.le_refl _)] at htab
      have hT1 := hT.gr g1
      refine ⟨.ref ra, rfl, ra, rfl, ⟨_, g1.sqT sR⟩, hT1 tb hmt, fun H3 code hTab good => ?_⟩
      have g3 : Gr H1 H3 := .tabbed (hT1 tb hmt) hTab
      refine col_tup (xs := (rchL P none).map V.str) (fun i ys H' => Gr H3 H' ∧ DpAll c.K H' ys (((rchL P none).take i).map (domRow P))) ⟨.refl _, .nil⟩ (fun i ys H' ⟨hg, _⟩ => ((g1.trans g3).trans hg).sqT sR) (fun i x ys H4 hx ⟨g4, da⟩ => ?_) fun ys H4 ⟨g4, da⟩ => ?_
      · obtain ⟨n, hn, rfl⟩ := get_str hx
        have g14 := g3.trans g4
        refine ⟨rfl, .str n, rfl, .ref ra, rfl, ra, rfl, ⟨_, (g1.trans g14).sqT sR⟩, goodC_gr g4 good, fun H5 P5 hTab5 => ?_⟩
        have g5 : Gr H4 H5 := .tabbedG hTab5
        have g15 := g14.trans g5
        refine col_tup (xs := (rchL P none).map V.str) (fun j zs H' => Gr H5 H' ∧ zs = (((rchL P none).take j).filter fun m => decide (¬ Rch P (some m) n)).map V.str) ⟨.refl _, rfl⟩ (fun j zs H' ⟨hg, _⟩ => ((g1.trans g15).trans hg).sqT sR) (fun j y zs H6 hy ⟨g6, hz⟩ => ?_) fun zs H6 ⟨g6, hz⟩ => ?_
        · obtain ⟨m, hm, rfl⟩ := get_str hy
          obtain ⟨l, fs, dg, hl, hf⟩ := (htab.gr (g15.trans g6)).get (List.mem_of_getElem? hm)
          refine ⟨rfl, .str n, rfl, .ref D, rfl, .str m, rfl, D, .ref l, rfl, dg, l, _, rfl, .inl (.inl (.inl hl)), rfl, flat_words _, _, rfl, ?_⟩
          show (if (!inV (.str n) (fs.map V.str)) = true then _ else _)
          rw [inV_str]
          have eb : (!decide (n ∈ fs)) = decide (¬ Rch P (some m) n) := by
            by_cases h : n ∈ fs
            · rw [decide_eq_true h, decide_eq_false (show ¬ ¬ Rch P (some m) n from fun z => z ((hf n).mp h))]; rfl
            · rw [decide_eq_false h, decide_eq_true (show ¬ Rch P (some m) n from fun z => h ((hf n).mpr z))]; rfl
          rw [eb]
          have lz : zs.length < 100 := by
            rw [hz, List.length_map]
            have h1 := List.length_filter_le (fun m => decide (¬ Rch P (some m) n)) ((rchL P none).take j)
            rw [List.length_take] at h1
            omega
          refine ite2 (fun e => ?_) fun e => ?_
          · refine ⟨.str m, rfl, small1000 (by omega), g6, ?_⟩
            rw [List.take_add_one, hm, List.filter_append, hz, List.map_append]
            have e2 : List.filter (fun m => decide (¬ Rch P (some m) n)) [m] = [m] := by rw [List.filter_cons, if_pos e]; rfl
            show _ = _ ++ List.map V.str (List.filter (fun m => decide (¬ Rch P (some m) n)) [m])
            rw [e2]
            rfl
          · refine ⟨g6, ?_⟩
            rw [List.take_add_one, hm, List.filter_append, hz]
            have e2 : List.filter (fun m => decide (¬ Rch P (some m) n)) [m] = [] := by rw [List.filter_cons, if_neg e]; rfl
            show _ = List.map V.str (_ ++ List.filter (fun m => decide (¬ Rch P (some m) n)) [m])
            rw [e2, List.append_nil]
        · rw [List.length_map, List.take_of_length_le (Nat.le_refl _)] at hz
          subst hz
          refine ⟨?_, fun p np => ⟨by show 2 ≤ sizeLine; decide, fun p2 np2 => ?_⟩⟩
          · rw [List.length_map]
            exact Nat.le_of_lt (small1000 (by have := List.length_filter_le (fun m => decide (¬ Rch P (some m) n)) (rchL P none); omega))
          · have gA : Gr H4 (upd (upd H6 p (.tup (((rchL P none).filter fun m => decide (¬ Rch P (some m) n)).map V.str))) p2 (.tup [.str n, .ref p])) := (g5.trans g6).trans ((Gr.new np).trans (.new np2))
            have ly : ys.length = ((rchL P none).take i).length := by rw [dpAll_length da, List.length_map]
            rw [List.length_take] at ly
            refine ⟨small1000 (by omega), g4.trans gA, ?_⟩
            rw [List.take_add_one, hn, List.map_append]
            refine dpAll_snoc ?_ (dpAll_gr gA da)
            exact .tup (.inl (.inl upd_same)) (.cons (.str n) (.cons (dp_strsT (.inl (.inl (Gr.tup (.new np2) upd_same)))) .nil))
      · rw [List.length_map, List.take_of_length_le (Nat.le_refl _)] at da
        have ly : ys.length = (rchL P none).length := by rw [dpAll_length da, List.length_map]
        refine ⟨Nat.le_of_lt (small1000 (by omega)), fun p np => q _ _ ((g1.trans (g3.trans g4)).trans (.new np)) ?_⟩
        exact .tup (.inl (.inl upd_same)) (dpAll_gr (.new np) da)
end Pm
set_option maxHeartbeats 4000000
namespace Pm
open PySem PySem.Spec PyProof.Rows L2 GxR GX
variable {c : Ct} {C : Addr}
/-! ### data that compare -/
theorem shaped_ints (ns : List Int) : SeqAt.shaped (.list (ns.map PyData.int)) = true ∧ SeqAt.shaped (.tuple (ns.map PyData.int)) = true := by
  have h : PyData.canLayAll0 (ns.map PyData.int) = true ∧ PyData.depthAll (ns.map PyData.int) ≤ 1 := by
    induction ns with
    | nil => exact ⟨rfl, Nat.zero_le _⟩
    | cons n r ih =>
      refine ⟨?_, ?_⟩
      · show (PyData.canLay0 (.int n) && PyData.canLayAll0 (r.map PyData.int)) = true
        rw [ih.1]; rfl
      · simp only [List.map_cons, PyData.depthAll, PyData.depth]
        omega
  refine ⟨?_, ?_⟩ <;>
  · unfold SeqAt.shaped
    rw [Bool.and_eq_true]
    refine ⟨h.1, decide_eq_true ?_⟩
    simp only [PyData.depth]
    omega
theorem dpAll_ints {K : PySem.W.Frag} {H : Hp} : ∀ ns : List Int, DpAll K H (ns.map V.int) (ns.map PyData.int)
  | [] => .nil
  | n :: r => .cons (.int n) (dpAll_ints r)
/-! ### the law's own defs: drawing -/
structure Bl2 (c : Ct) : Prop extends Bl c where
  max : c.mg "max" = none
  min : c.mg "min" = none
  enumerate : c.mg "enumerate" = none
  dict : c.mg "dict" = none
def ScrAt (c : Ct) (H : Hp) (a : Addr) : Prop := ∃ ss : List Int, SqL c.K H a (ss.map V.int) ∧ ss.length ≤ 63
theorem ScrAt.gr {H H' : Hp} {a : Addr} (h : ScrAt c H a) (g : Gr H H') : ScrAt c H' a := let ⟨ss, s, l⟩ := h; ⟨ss, g.sqL s, l⟩
def spPick (c : Ct) : Sp := fun vs H Q _ => ∃ (a : Addr) (k m : Int), vs = [.ref a, .int k, .int m] ∧ ScrAt c H a ∧ 0 ≤ k ∧ 0 < m ∧ ∀ r H', 0 ≤ r → r < m → Gr H H' → Q (.int r) H'
abbrev nPick : List Str := ["_law_script", "_law_k", "_law_many", "_law_cell", "_law_rest", "_law_turn", "_law_drawn"]
theorem sc_pick : FnScope nPick ["_law_script", "_law_k", "_law_many"] (defScope s_law_pick) := ⟨rfl, rfl, rfl, by decide +kernel, rfl, by decide +kernel, by decide +kernel⟩
theorem ok_pick (D : Df c "_law_pick" s_law_pick) (B : Bl2 c) : Ok c "_law_pick" 1 ["_law_script", "_law_k", "_law_many"] (spPick c) := by
  refine df_ok D sc_pick (fun vs H Q E h => ?_) (fun _ _ _ _ _ _ us hl => match us, hl with | [_, _, _], _ => rfl) fun f cd A outer s H vs Q E hr h => ?_
  · obtain ⟨a, k, m, rfl, _⟩ := h
    rfl
  · obtain ⟨a, k, m, rfl, ⟨ss, hS, hl⟩, k0, m0, q⟩ := h
    have nd := sc_pick.nd
    refine ⟨_, pss_cons (ps_set (i := 3) nd rfl (.inl rfl) (pe_ifExp (pt_cmpR (op_neD hr.units) (pv 0) (pe_lst pa_nil) (nomark _)) (pe_ix ix_list (pv 0) (pe_op op_mod (pv 1) (pe_callB call_len_seq (by rfl) B.len PySem.boot_len (pa_cons (pv 0) pa_nil))) (fun _ _ => rfl)) pe_int))
      (pss_cons (ps_par (i := 4) (j := 5) (by rfl) nd rfl rfl (by decide) rfl rfl (pa_cons (pe_op op_fdivW (pv 3) (pe_op op_pow pe_int pe_int)) (pa_cons (pe_op op_fdivW (pv 1) (pe_callB (call_max2 rfl) (by rfl) B.max (by decide +kernel) (pa_cons (pe_callB call_len_seq (by rfl) B.len PySem.boot_len (pa_cons (pv 0) pa_nil)) (pa_cons pe_int pa_nil)))) pa_nil)) (by rfl))
      (pss_cons (ps_while PassesOwn.never (PW.pt (pw_and (pt_cmpR op_gt (pv 4) pe_int (nomark _)) (pw_and1 (pt_cmpR op_gt (pv 5) pe_int (nomark _))))) (pss_one (ps_par (i := 4) (j := 5) (by rfl) nd rfl rfl (by decide) rfl rfl (pa_cons (pe_op op_fdivW (pv 4) pe_int) (pa_cons (pe_op op_sub (pv 5) pe_int) pa_nil)) (by rfl))))
      (pss_cons (ps_if (pt_cmpR op_gt (pv 4) pe_int (nomark _)) (pss_one (ps_ret (pe_op op_mod (pe_op op_mod (pv 4) pe_int) (pv 2)))) pss_nil)
      (pss_cons (ps_set (i := 6) nd rfl (.inl rfl) (pe_op op_mod (pe_op op_mul (pe_op op_add (pe_op op_mul (pv 3) pe_int) (pe_op op_mul pe_int (pe_op op_add (pv 1) pe_int))) pe_int) pe_int))
      (pss_one (ps_ret (pe_op op_mod (pe_op op_mod (pe_op op_add (pe_op op_mul (pv 6) (pv 6)) (pe_op op_fdiv (pv 6) pe_int)) pe_int) (pv 2)))))))), ?_⟩
    have hDp : ∀ H', Gr H H' → Dp c.K H' (.ref a) (.list (ss.map PyData.int)) := fun H' g => .lst (g.sqL hS) (dpAll_ints ss)
    refine ⟨.ref a, rfl, Nat.zero_le _, fun l nl => ⟨_, _, hDp _ (.new nl), .lst (.inl (.inl upd_same)) .nil, (shaped_ints ss).1, (shaped_ints []).1, _, rfl, ?_⟩⟩
    have g1 : Gr H (upd H l (.lst [])) := .new nl
    generalize upd H l (.lst []) = H1 at g1 ⊢
    have len1 : ((ss.map V.int).length : Int) = ss.length := by rw [List.length_map]
    refine ite2 (fun e => ?_) fun e => ?_
    · have hne : 0 < ss.length := by
        cases ss with
        | nil => cases e
        | cons x r => exact Nat.succ_pos _
      obtain ⟨j, x, hj, hx⟩ : ∃ (j : Nat) (x : Int), k % (ss.length : Int) = j ∧ ss[j]? = some x := by
        have h1 := Int.emod_nonneg k (show (ss.length : Int) ≠ 0 by omega)
        have h2 := Int.emod_lt_of_pos k (show (0 : Int) < ss.length by omega)
        exact ⟨(k % (ss.length : Int)).toNat, ss[(k % (ss.length : Int)).toNat]'(by omega), by omega, List.getElem?_eq_getElem (by omega)⟩
      have hat : atI (ss.map V.int) (k % ((ss.map V.int).length : Int)) = some (.int x) := by
        rw [len1, hj]
        exact atI_nat (by rw [List.getElem?_map, hx]; rfl)
      refine ⟨.ref a, rfl, .int k, rfl, .ref a, rfl, a, _, rfl, .inl (g1.sqL hS), k, _, rfl, rfl, by rw [len1]; omega, a, _, _, _, rfl, rfl, g1.sqL hS, hat, ?_⟩
      refine ⟨.int x, rfl, 10, 18, rfl, rfl, ⟨by decide, by decide, by decide⟩, x, _, rfl, rfl, ⟨by decide, by decide⟩, .int k, rfl, .ref a, rfl, a, _, rfl, .inl (g1.sqL hS), _, 1, rfl, k, _, rfl, rfl, ?_, _, _, rfl, ?_⟩
      · rw [len1]
        split
        · exact ⟨by decide, by decide⟩
        · exact wide_div (b := 10) (by omega) (by omega) (by decide) (by decide)
      · refine ⟨fun n σ H' => ∃ re tn : Int, n = tn.toNat ∧ σ = [some (.ref a), some (.int k), some (.int m), some (.int x), some (.int re), some (.int tn), none] ∧ Gr H H', ⟨_, _, _, rfl, rfl, g1⟩, ?_⟩
        rintro n σ H2 ⟨re, tn, rfl, rfl, g2⟩
        refine ⟨.int re, rfl, re, 0, rfl, rfl, _, rfl, ite2 (fun e1 => ⟨.int tn, rfl, tn, 0, rfl, rfl, _, rfl, ite2 (fun e2 => ?go) fun e2 => ?_⟩) fun e1 => ?_⟩
        case go =>
          refine ⟨fun σ' H' => ∃ re' : Int, σ' = [some (.ref a), some (.int k), some (.int m), some (.int x), some (.int re'), some (.int (tn - 1)), none] ∧ Gr H H', fun σ' H' ⟨re', e, g⟩ => ⟨(tn - 1).toNat, ?_, re', tn - 1, rfl, e, g⟩, ?_⟩
          · have := of_decide_eq_true e2
            omega
          · exact ⟨.int re, rfl, re, 840, rfl, rfl, ⟨by decide, by decide⟩, .int tn, rfl, tn, 1, rfl, rfl, _, _, rfl, _, rfl, g2⟩
        all_goals
          refine ⟨.int re, rfl, re, 0, rfl, rfl, _, rfl, ite2 (fun e3 => ?_) fun e3 => ?_⟩
          · exact ⟨.int re, rfl, re, 840, rfl, rfl, by show (0 : Int) < 840; decide, .int m, rfl, _, m, rfl, rfl, m0, q _ _ (Int.emod_nonneg _ (by omega)) (Int.emod_lt_of_pos _ m0) g2⟩
          · refine ⟨.int x, rfl, x, 31, rfl, rfl, .inr ⟨by decide, by decide⟩, .int k, rfl, k, 1, rfl, rfl, 6151, k + 1, rfl, rfl, .inl ⟨by decide, by decide⟩, _, _, rfl, rfl, _, 40692, rfl, rfl, .inr ⟨by decide, by decide⟩, _, 2147483399, rfl, rfl, by show (0 : Int) < 2147483399; decide, ?_⟩
            have d0 := Int.emod_nonneg ((x * 31 + 6151 * (k + 1)) * 40692) (show (2147483399 : Int) ≠ 0 by decide)
            have d1 := Int.emod_lt_of_pos ((x * 31 + 6151 * (k + 1)) * 40692) (show (0 : Int) < 2147483399 by decide)
            exact ⟨_, rfl, _, rfl, _, _, rfl, rfl, .inl ⟨Int.lt_of_lt_of_le (by decide) d0, Int.lt_trans d1 (by decide)⟩, _, rfl, _, 31, rfl, rfl, ⟨by decide, by decide⟩, _, _, rfl, rfl, _, 2147483629, rfl, rfl, by show (0 : Int) < 2147483629; decide, .int m, rfl, _, m, rfl, rfl, m0, q _ _ (Int.emod_nonneg _ (by omega)) (Int.emod_lt_of_pos _ m0) g2⟩
    · refine ⟨.int (0 : Int), rfl, 10, 18, rfl, rfl, ⟨by decide, by decide, by decide⟩, (0 : Int), _, rfl, rfl, ⟨by decide, by decide⟩, .int k, rfl, .ref a, rfl, a, _, rfl, .inl (g1.sqL hS), _, 1, rfl, k, _, rfl, rfl, ?_, _, _, rfl, ?_⟩
      · rw [len1]
        split
        · exact ⟨by decide, by decide⟩
        · exact wide_div (b := 10) (by omega) (by omega) (by decide) (by decide)
      · refine ⟨fun n σ H' => ∃ re tn : Int, n = tn.toNat ∧ σ = [some (.ref a), some (.int k), some (.int m), some (.int (0 : Int)), some (.int re), some (.int tn), none] ∧ Gr H H', ⟨_, _, _, rfl, rfl, g1⟩, ?_⟩
        rintro n σ H2 ⟨re, tn, rfl, rfl, g2⟩
        refine ⟨.int re, rfl, re, 0, rfl, rfl, _, rfl, ite2 (fun e1 => ⟨.int tn, rfl, tn, 0, rfl, rfl, _, rfl, ite2 (fun e2 => ?go) fun e2 => ?_⟩) fun e1 => ?_⟩
        case go =>
          refine ⟨fun σ' H' => ∃ re' : Int, σ' = [some (.ref a), some (.int k), some (.int m), some (.int (0 : Int)), some (.int re'), some (.int (tn - 1)), none] ∧ Gr H H', fun σ' H' ⟨re', e, g⟩ => ⟨(tn - 1).toNat, ?_, re', tn - 1, rfl, e, g⟩, ?_⟩
          · have := of_decide_eq_true e2
            omega
          · exact ⟨.int re, rfl, re, 840, rfl, rfl, ⟨by decide, by decide⟩, .int tn, rfl, tn, 1, rfl, rfl, _, _, rfl, _, rfl, g2⟩
        all_goals
          refine ⟨.int re, rfl, re, 0, rfl, rfl, _, rfl, ite2 (fun e3 => ?_) fun e3 => ?_⟩
          · exact ⟨.int re, rfl, re, 840, rfl, rfl, by show (0 : Int) < 840; decide, .int m, rfl, _, m, rfl, rfl, m0, q _ _ (Int.emod_nonneg _ (by omega)) (Int.emod_lt_of_pos _ m0) g2⟩
          · refine ⟨.int (0 : Int), rfl, (0 : Int), 31, rfl, rfl, .inr ⟨by decide, by decide⟩, .int k, rfl, k, 1, rfl, rfl, 6151, k + 1, rfl, rfl, .inl ⟨by decide, by decide⟩, _, _, rfl, rfl, _, 40692, rfl, rfl, .inr ⟨by decide, by decide⟩, _, 2147483399, rfl, rfl, by show (0 : Int) < 2147483399; decide, ?_⟩
            have d0 := Int.emod_nonneg (((0 : Int) * 31 + 6151 * (k + 1)) * 40692) (show (2147483399 : Int) ≠ 0 by decide)
            have d1 := Int.emod_lt_of_pos (((0 : Int) * 31 + 6151 * (k + 1)) * 40692) (show (0 : Int) < 2147483399 by decide)
            exact ⟨_, rfl, _, rfl, _, _, rfl, rfl, .inl ⟨Int.lt_of_lt_of_le (by decide) d0, Int.lt_trans d1 (by decide)⟩, _, rfl, _, 31, rfl, rfl, ⟨by decide, by decide⟩, _, _, rfl, rfl, _, 2147483629, rfl, rfl, by show (0 : Int) < 2147483629; decide, .int m, rfl, _, m, rfl, rfl, m0, q _ _ (Int.emod_nonneg _ (by omega)) (Int.emod_lt_of_pos _ m0) g2⟩
end Pm
set_option maxHeartbeats 4000000
namespace Pm
open PySem PySem.Spec PyProof.Rows L2 GxR GX
variable {c : Ct} {C : Addr}
def pl4 : List Str := ["x", "y", "z", "w"]
theorem pl4_name : ∀ x ∈ pl4, NameOk x := by
  have : ∀ x ∈ pl4, nameD (.str x) = true := by decide +kernel
  exact this
def InS : Stp → Prop
  | .set x _ => x ∈ pl4
  | .copy x y => x ∈ pl4 ∧ y ∈ pl4
  | .sum _ x y z => x ∈ pl4 ∧ y ∈ pl4 ∧ z ∈ pl4
  | .get x => x ∈ pl4
  | .put x => x ∈ pl4
theorem xyzw_nat : ∀ n < 4, ∃ d, ("xyzw" : Str).cps.toList[n]? = some d ∧ (⟨#[d]⟩ : Str) ∈ pl4 := by
  intro n hn
  match n, hn with
  | 0, _ => exact ⟨_, rfl, by decide +kernel⟩
  | 1, _ => exact ⟨_, rfl, by decide +kernel⟩
  | 2, _ => exact ⟨_, rfl, by decide +kernel⟩
  | 3, _ => exact ⟨_, rfl, by decide +kernel⟩
theorem xyzw_at {r : Int} (h0 : 0 ≤ r) (h1 : r < 4) : ∃ d, atI ("xyzw" : Str).cps.toList r = some d ∧ (⟨#[d]⟩ : Str) ∈ pl4 := by
  obtain ⟨d, e1, e2⟩ := xyzw_nat r.toNat (by omega)
  refine ⟨d, ?_, e2⟩
  rw [show r = ((r.toNat : Nat) : Int) by omega]
  exact atI_nat e1
theorem atI_of {α : Type} {xs : List α} {r : Int} (h0 : 0 ≤ r) (h1 : r < xs.length) : ∃ x, atI xs r = some x ∧ xs[r.toNat]? = some x := by
  refine ⟨xs[r.toNat]'(by omega), ?_, List.getElem?_eq_getElem (by omega)⟩
  conv => lhs; rw [show r = ((r.toNat : Nat) : Int) by omega]
  exact atI_nat (List.getElem?_eq_getElem (by omega))
theorem xyzw_len : ("xyzw" : Str).length ≤ sizeLine := by decide +kernel
def spStep (c : Ct) : Sp := fun vs H Q _ => ∃ (a : Addr) (k : Int), vs = [.ref a, .int k] ∧ ScrAt c H a ∧ 0 ≤ k ∧ ∀ v H' st, OkS st → InS st → Dp c.K H' v (encS st) → Gr H H' → Q v H'
abbrev nStep : List Str := ["_law_script", "_law_at", "_law_turn", "_law_places", "_law_x", "_law_y", "_law_z", "_law_k"]
theorem sc_step : FnScope nStep ["_law_script", "_law_at"] (defScope s_law_step) := ⟨rfl, rfl, rfl, by decide +kernel, rfl, by decide +kernel, by decide +kernel⟩
abbrev OkPick (c : Ct) : Prop := Ok c "_law_pick" 1 ["_law_script", "_law_k", "_law_many"] (spPick c)
theorem ok_step (D : Df c "_law_step" s_law_step) (B : Bl2 c) (O : OkPick c) : Ok c "_law_step" 2 ["_law_script", "_law_at"] (spStep c) := by
  refine df_ok D sc_step (fun vs H Q E h => ?_) (fun _ _ _ _ _ _ us hl => match us, hl with | [_, _], _ => rfl) fun f cd A outer s H vs Q E hr h => ?_
  · obtain ⟨a, k, rfl, _⟩ := h
    rfl
  · obtain ⟨a, k, rfl, hS, k0, q⟩ := h
    have nd := sc_step.nd
    refine ⟨_, pss_cons (ps_asg (pe_tup (pa_cons (pe_f c O hr (pa_cons (pv 0) (pa_cons (pv 1) (pa_cons pe_int pa_nil)))) (pa_cons pe_str pa_nil))) (pg_tup rfl (pgs_cons (pg_name (i := 2) nd rfl (.inl rfl)) (pgs_cons (pg_name (i := 3) nd rfl (.inr rfl)) pgs_nil))))
      (pss_cons (ps_asg (pe_lc (own := [("_law_k", 7)]) (g := gName 7) (tt := tYes) rfl nd (pi_range1 rfl B.range (pa_cons pe_int pa_nil)) (blkOk_by (N := nStep) (sc := defScope s_law_step) (by decide +kernel)) (fun _ _ _ _ _ => pg_name (i := 7) nd rfl (.inl rfl)) (fun _ _ _ _ _ => pts_nil)
          (fun _ _ _ _ _ => pe_ix ix_str (pv 3) (pe_f c O hr (pa_cons (pv 0) (pa_cons (pe_op op_add (pe_op op_add (pv 1) pe_int) (pv 7)) (pa_cons pe_int pa_nil)))) (fun _ _ => rfl)))
        (pg_lst rfl (pgs_cons (pg_name (i := 4) nd rfl (.inl rfl)) (pgs_cons (pg_name (i := 5) nd rfl (.inl rfl)) (pgs_cons (pg_name (i := 6) nd rfl (.inl rfl)) pgs_nil)))))
      (pss_cons (ps_if (pt_cmpR op_lt (pv 2) pe_int (nomark _)) (pss_one (ps_ret (pe_tup (pa_cons pe_str (pa_cons (pv 4) (pa_cons (pe_ix ix_list (pe_lst (pa_cons pe_int (pa_cons pe_int (pa_cons pe_int (pa_cons pe_int (pa_cons pe_int pa_nil)))))) (pe_f c O hr (pa_cons (pv 0) (pa_cons (pe_op op_add (pv 1) pe_int) (pa_cons pe_int pa_nil)))) (fun _ _ => rfl)) pa_nil)))))) pss_nil)
      (pss_cons (ps_if (pt_cmpR op_lt (pv 2) pe_int (nomark _)) (pss_one (ps_ret (pe_tup (pa_cons pe_str (pa_cons (pv 4) (pa_cons (pv 5) pa_nil)))))) pss_nil)
      (pss_cons (ps_if (pt_cmpR op_eq (pv 2) pe_int (nomark _)) (pss_one (ps_ret (pe_tup (pa_cons pe_str (pa_cons (pv 4) pa_nil))))) pss_nil)
      (pss_cons (ps_if (pt_cmpR op_lt (pv 2) pe_int (nomark _)) (pss_one (ps_ret (pe_tup (pa_cons pe_str (pa_cons (pv 4) pa_nil))))) pss_nil)
      (pss_one (ps_ret (pe_tup (pa_cons (pe_ix ix_list (pe_lst (pa_cons pe_str (pa_cons pe_str (pa_cons pe_str (pa_cons pe_str (pa_cons pe_str (pa_cons pe_str (pa_cons pe_str pa_nil)))))))) (pe_op op_sub (pv 2) pe_int) (fun _ _ => rfl)) (pa_cons (pv 4) (pa_cons (pv 5) (pa_cons (pv 6) pa_nil)))))))))))), ?_⟩
    refine ⟨.ref a, rfl, .int k, rfl, a, k, 16, rfl, hS, k0, by decide, fun r H1 r0 r1 g1 => ⟨by show 2 ≤ sizeLine; decide, fun t nt => ?_⟩⟩
    refine ⟨t, _, rfl, .inl (.inl upd_same), rfl, .int r, _, rfl, .str "xyzw", _, rfl, rfl, ?_⟩
    have g2 : Gr H (upd H1 t (.tup [.int r, .str "xyzw"])) := g1.trans (.new nt)
    generalize upd H1 t (.tup [.int r, .str "xyzw"]) = H2 at g2
    refine ⟨3, rfl, by decide, by decide, fun D nD => ?_⟩
    refine lc_range (lo := 0) (n := 3) (fun i H' => Gr H2 H' ∧ ∃ xs : List Str, H' D = some (.lst (xs.map V.str)) ∧ xs.length = i ∧ ∀ x ∈ xs, x ∈ pl4) ⟨(Gr.refl _).put nD, [], upd_same, rfl, fun x hx => by cases hx⟩ (fun i H' hi ⟨hg, xs, hD, hl, hx⟩ => ?_) fun H3 ⟨g3, xs, hD, hl, hx⟩ => ?_
    · refine ⟨rfl, .str "xyzw", rfl, .ref a, rfl, .int k, rfl, k, 1, rfl, rfl, .int (0 + i), rfl, k + 1, 0 + i, rfl, rfl, a, _, 4, rfl, hS.gr (g2.trans hg), by omega, by decide, fun r' H4 p0 p1 g4 => ?_⟩
      obtain ⟨d, e1, e2⟩ := xyzw_at p0 p1
      refine ⟨_, r', d, rfl, rfl, xyzw_len, e1, _, g4.lst hD, by rw [List.length_map]; exact small1000 (by omega), (hg.trans g4).put nD (.lst (g4.lst hD)), xs ++ [⟨#[d]⟩], ?_, by rw [List.length_append, hl]; rfl, fun x h => ?_⟩
      · rw [upd_same, List.map_append]; rfl
      · rcases List.mem_append.mp h with h | h
        · exact hx x h
        · rw [List.mem_singleton.mp h]; exact e2
    · match xs, hl with
      | [x, y, z], _ =>
      have hxx := hx x (by simp)
      have hy := hx y (by simp)
      have hz := hx z (by simp)
      refine ⟨D, _, rfl, .inl (.inl hD), rfl, .str x, _, rfl, .str y, _, rfl, .str z, _, rfl, rfl, ?_⟩
      have gA : Gr H H3 := g2.trans g3
      refine ⟨.int r, rfl, r, 3, rfl, rfl, _, rfl, ite2 (fun e => ?_) fun e3 => ?_⟩
      · refine ⟨.str x, rfl, by show 5 ≤ sizeLine; decide, fun L nL => ⟨.ref a, rfl, .int k, rfl, k, 4, rfl, rfl, a, k + 4, 5, rfl, hS.gr (gA.trans (.new nL)), by omega, by decide, fun r' H4 p0 p1 g4 => ?_⟩⟩
        obtain ⟨vv, e1, e2⟩ := atI_of (xs := ([0, 1, 2, 5, 9972] : List Int).map V.int) p0 p1
        obtain ⟨n, hn, rfl⟩ : ∃ n : Int, n ∈ ([0, 1, 2, 5, 9972] : List Int) ∧ vv = .int n := by
          rw [List.getElem?_map] at e2
          cases e9 : ([0, 1, 2, 5, 9972] : List Int)[r'.toNat]? with
          | none => rw [e9] at e2; cases e2
          | some n => rw [e9] at e2; exact ⟨n, List.mem_of_getElem? e9, (Option.some.inj e2).symm⟩
        refine ⟨L, _, r', .int n, rfl, rfl, .inl (.inl (g4.lst upd_same)), e1, by show 3 ≤ sizeLine; decide, fun t nt => ?_⟩
        have hv : 0 ≤ n ∧ n ≤ 9972 := by
          have : ∀ n ∈ ([0, 1, 2, 5, 9972] : List Int), 0 ≤ n ∧ n ≤ 9972 := by decide
          exact this n hn
        exact q _ _ (.set x n) ⟨pl4_name x hxx, hv⟩ hxx (.tup (.inl (.inl upd_same)) (.cons (.str _) (.cons (.str _) (.cons (.int _) .nil)))) (((gA.trans (.new nL)).trans g4).trans (.new nt))
      have hr3 : ¬ r < 3 := fun z => e3 (decide_eq_true z)
      refine ⟨.int r, rfl, r, 6, rfl, rfl, _, rfl, ite2 (fun e => ?_) fun e6 => ?_⟩
      · exact ⟨.str x, rfl, .str y, rfl, by show 3 ≤ sizeLine; decide, fun t nt => q _ _ (.copy x y) ⟨pl4_name x hxx, pl4_name y hy⟩ ⟨hxx, hy⟩ (.tup (.inl (.inl upd_same)) (.cons (.str _) (.cons (.str _) (.cons (.str _) .nil)))) (gA.trans (.new nt))⟩
      have hr6 : ¬ r < 6 := fun z => e6 (decide_eq_true z)
      refine ⟨.int r, rfl, rfl, _, rfl, ite2 (fun e => ?_) fun e7 => ?_⟩
      · exact ⟨.str x, rfl, by show 2 ≤ sizeLine; decide, fun t nt => q _ _ (.get x) (pl4_name x hxx) hxx (.tup (.inl (.inl upd_same)) (.cons (.str _) (.cons (.str _) .nil))) (gA.trans (.new nt))⟩
      have hr7 : ¬ r = 6 := fun z => e7 (by rw [z]; exact decide_eq_true rfl)
      refine ⟨.int r, rfl, r, 9, rfl, rfl, _, rfl, ite2 (fun e => ?_) fun e9 => ?_⟩
      · exact ⟨.str x, rfl, by show 2 ≤ sizeLine; decide, fun t nt => q _ _ (.put x) (pl4_name x hxx) hxx (.tup (.inl (.inl upd_same)) (.cons (.str _) (.cons (.str _) .nil))) (gA.trans (.new nt))⟩
      have hr9 : ¬ r < 9 := fun z => e9 (decide_eq_true z)
      obtain ⟨vv, e1, e2⟩ := atI_of (xs := (["add", "sub", "mul", "less", "same", "add", "sub"] : List Str).map V.str) (r := r - 9) (by omega) (by show r - 9 < 7; omega)
      obtain ⟨w, hw, rfl⟩ : ∃ w : Str, w ∈ (["add", "sub", "mul", "less", "same", "add", "sub"] : List Str) ∧ vv = .str w := by
        rw [List.getElem?_map] at e2
        cases e9 : (["add", "sub", "mul", "less", "same", "add", "sub"] : List Str)[(r - 9).toNat]? with
        | none => rw [e9] at e2; cases e2
        | some n => rw [e9] at e2; exact ⟨n, List.mem_of_getElem? e9, (Option.some.inj e2).symm⟩
      have hw2 : w ∈ sumWords := by
        have : ∀ w ∈ (["add", "sub", "mul", "less", "same", "add", "sub"] : List Str), w ∈ sumWords := by decide +kernel
        exact this w hw
      refine ⟨by show 7 ≤ sizeLine; decide, fun L nL => ⟨.int r, rfl, r, 9, rfl, rfl, L, _, r - 9, .str w, rfl, rfl, .inl (.inl upd_same), e1, .str x, rfl, .str y, rfl, .str z, rfl, by show 4 ≤ sizeLine; decide, fun t nt => ?_⟩⟩
      exact q _ _ (.sum w x y z) ⟨hw2, pl4_name x hxx, pl4_name y hy, pl4_name z hz⟩ ⟨hxx, hy, hz⟩ (.tup (.inl (.inl upd_same)) (.cons (.str _) (.cons (.str _) (.cons (.str _) (.cons (.str _) .nil))))) ((gA.trans (.new nL)).trans (.new nt))
end Pm
set_option maxHeartbeats 4000000
namespace Pm
open PySem PySem.Spec PyProof.Rows L2 GxR GX
variable {c : Ct} {C : Addr}
/-! ### lists that are being made -/
def hide (H : Hp) (M : Addr) : Hp := fun b => if b = M then none else H b
theorem hide_ne {H : Hp} {M b : Addr} (h : b ≠ M) : hide H M b = H b := if_neg h
theorem hide_same {H : Hp} {M : Addr} : hide H M M = none := if_pos rfl
theorem hide_to (H : Hp) (M : Addr) : Gr (hide H M) H := fun b o e => by
  by_cases h : b = M
  · rw [h, hide_same] at e; cases e
  · rw [hide_ne h] at e; exact .inl e
theorem goodC_hide {H : Hp} {M : Addr} {cv : Value} (n : NoC H M) (h : GoodC H cv) : GoodC (hide H M) cv := by
  obtain ⟨c, P, qs, rfl, h1, h2, h3⟩ := h
  have n1 : c ≠ M := fun z => by rw [z] at h1; exact (n _ h1).1 _ _ rfl
  have n2 : P ≠ M := fun z => by rw [z] at h2; exact (n _ h2).2 _ rfl
  exact ⟨c, P, qs, rfl, by rw [hide_ne n1]; exact h1, by rw [hide_ne n2]; exact h2, h3⟩
theorem hide_gr {H H' : Hp} {M : Addr} (g : Gr H H') (nc : NoC H' M := by first | exact NoC.lst (by assumption) | exact NoC.free (by assumption) | exact NoC.tup (by assumption) | exact NoC.dK (by assumption) | exact NoC.lst upd_same | exact NoC.tup upd_same | exact NoC.dK upd_same | exact NoC.ins (by assumption) | exact NoC.frz (by assumption)) : Gr (hide H M) (hide H' M) := fun b o e => by
  by_cases h : b = M
  · rw [h, hide_same] at e; cases e
  · rw [hide_ne h] at e ⊢
    rcases g b o e with q | ⟨ps, ps', rfl, q, t, u⟩
    · exact .inl q
    · exact .inr ⟨ps, ps', rfl, q, t, fun pos cv z => (u pos cv z).imp id (goodC_hide nc)⟩
theorem hide_upd {H : Hp} {M : Addr} {o : HO} : hide (upd H M o) M = hide H M := by
  funext b
  by_cases h : b = M
  · rw [h, hide_same, hide_same]
  · rw [hide_ne h, hide_ne h, upd_ne h]
theorem hide_from {H H' : Hp} {M : Addr} (g : Gr H H') (n : H M = none) (nc : NoC H' M := by first | exact NoC.lst (by assumption) | exact NoC.free (by assumption) | exact NoC.tup (by assumption) | exact NoC.dK (by assumption) | exact NoC.lst upd_same | exact NoC.tup upd_same | exact NoC.dK upd_same | exact NoC.ins (by assumption) | exact NoC.frz (by assumption)) : Gr H (hide H' M) := fun b o e => by
  have h : b ≠ M := ne_of_none e n
  rw [hide_ne h]
  rcases g b o e with q | ⟨ps, ps', rfl, q, t, u⟩
  · exact .inl q
  · exact .inr ⟨ps, ps', rfl, q, t, fun pos cv z => (u pos cv z).imp id (goodC_hide nc)⟩
mutual
def noL : PyData → Prop
  | .list _ => False
  | .tuple ds => noLs ds
  | .dict _ => False
  | _ => True
def noLs : List PyData → Prop
  | [] => True
  | d :: ds => noL d ∧ noLs ds
end
theorem noLs_of : ∀ {ds : List PyData}, (∀ d ∈ ds, noL d) → noLs ds
  | [], _ => True.intro
  | d :: ds, h => ⟨h d List.mem_cons_self, noLs_of fun x hx => h x (List.mem_cons_of_mem _ hx)⟩
theorem sqT_hide {K : PySem.W.Frag} {H : Hp} {M a : Addr} {ls xs : List V} (hM : H M = some (.lst ls)) (h : SqT K H a xs) : SqT K (hide H M) a xs := by
  rcases h with (h | ⟨o, h⟩) | h
  · exact .inl (.inl (by rw [hide_ne (ne_of h hM fun z => nomatch z)]; exact h))
  · exact .inl (.inr ⟨o, by rw [hide_ne (ne_of h hM fun z => nomatch z)]; exact h⟩)
  · exact .inr h
mutual
theorem dp_hide {K : PySem.W.Frag} {H : Hp} {M : Addr} {ls : List V} (hM : H M = some (.lst ls)) : ∀ {d : PyData} {v : V}, noL d → Dp K H v d → Dp K (hide H M) v d
  | .none, _, _, h => by cases h; exact .non
  | .bool b, _, _, h => by cases h; exact .bl b
  | .int i, _, _, h => by cases h; exact .int i
  | .str x, _, _, h => by cases h; exact .str x
  | .list ds, _, n, _ => by exact False.elim n
  | .tuple ds, _, n, h => by
    cases h with
    | tup s a => exact .tup (sqT_hide hM s) (dpAll_hide hM n a)
  | .dict _, _, _, h => by cases h
theorem dpAll_hide {K : PySem.W.Frag} {H : Hp} {M : Addr} {ls : List V} (hM : H M = some (.lst ls)) : ∀ {ds : List PyData} {vs : List V}, noLs ds → DpAll K H vs ds → DpAll K (hide H M) vs ds
  | [], _, _, h => by cases h; exact .nil
  | d :: ds, _, n, h => by
    cases h with
    | cons a b => exact .cons (dp_hide hM n.1 a) (dpAll_hide hM n.2 b)
end
theorem noL_S (s : Stp) : noL (encS s) := by
  cases s <;> (refine noLs_of ?_; simp [noL])
theorem noL_E (e : En) : noL (encE e) := by
  cases e <;> (refine noLs_of ?_; simp [noL])
theorem noL_B (b : Blk) : noL (encB b) := by
  refine ⟨True.intro, noLs_of fun d hd => ?_, noL_E _, True.intro⟩
  obtain ⟨s, _, rfl⟩ := List.mem_map.mp hd
  exact noL_S s
end Pm
set_option maxHeartbeats 4000000
namespace Pm
open PySem PySem.Spec PyProof.Rows L2 GxR GX
variable {c : Ct}
def hangsL : List (Str × List Str) := [("edges", []), ("reach", ["edges"]), ("doms", ["edges", "reach"]), ("uses", []), ("live", ["edges"]), ("consts", ["edges"]), ("copies", ["edges"]), ("sums", ["edges"])]
structure Hg (c : Ct) : Prop where
  hangs : ∃ a, c.mg "HANGS" = some (.ref a) ∧ (a == sysModules) = false ∧ ∀ z ks, hangsL.lookup z = some ks → ∃ t, KDct c.K c.w a z (.ref t) ∧ ∀ H, SqT c.K H t (ks.map V.str)
def spIsFn (c : Ct) : Sp := fun vs H Q _ => ∃ z ks, vs = [.str z] ∧ hangsL.lookup z = some ks ∧ Q (.bl true) H
theorem sc_is_fn : FnScope ["thing"] ["thing"] (defScope s_is_fact_name) := ⟨rfl, rfl, rfl, by decide +kernel, rfl, by decide +kernel, by decide +kernel⟩
theorem ok_is_fn (D : Df c "is_fact_name" s_is_fact_name) (B : Bl3 c) (G : Hg c) : Ok c "is_fact_name" 1 ["thing"] (spIsFn c) := by
  obtain ⟨aH, hH, hs, hHv⟩ := G.hangs
  refine df_ok D sc_is_fn (fun vs H Q E h => ?_) (fun _ _ _ _ _ _ us hl => match us, hl with | [_], _ => rfl) fun f cd A outer s H vs Q E hr h => ?_
  · obtain ⟨z, ks, rfl, _⟩ := h
    rfl
  · obtain ⟨z, ks, rfl, hz, q⟩ := h
    refine ⟨_, pss_one (ps_ret (pe_and (pe_callB call_isi (by rfl) B.isi (by decide +kernel) (pa_cons (pv 0) (pa_cons (pe_bltn (v := .ty "str") (by rfl) B.str (by decide +kernel) rfl) pa_nil)))
      (pe_one (pe_cmpR op_in_kd (pv 0) (pe_glob (v := .ref aH) (by rfl) hH rfl) (by rfl))))), ?_⟩
    obtain ⟨t, hk, _⟩ := hHv z ks hz
    have kt : PySem.W.kitOne c.K (.type "str") (.type "str") = some true := kit_ty (by decide +kernel)
    refine ⟨.str z, rfl, .str z, .ty "str", .type "str", .type "str", true, rfl, .ty _, tyx_dp (.str z), kt, _, rfl, ?_⟩
    exact ⟨.str z, rfl, aH, z, .ref t, rfl, rfl, hk, hs, q⟩
theorem sc_chk_fn : FnScope ["thing"] ["thing"] (defScope s_check_fact_name) := ⟨rfl, rfl, rfl, by decide +kernel, rfl, by decide +kernel, by decide +kernel⟩
def spChkFn (c : Ct) : Sp := fun vs H Q _ => ∃ z ks, vs = [.str z] ∧ hangsL.lookup z = some ks ∧ Q .non H
theorem ok_chk_fn (D : Df c "check_fact_name" s_check_fact_name) (O : Ok c "is_fact_name" 1 ["thing"] (spIsFn c)) : Ok c "check_fact_name" 2 ["thing"] (spChkFn c) := by
  refine df_ok D sc_chk_fn (fun vs H Q E h => ?_) (fun _ _ _ _ _ _ us hl => match us, hl with | [_], _ => rfl) fun f cd A outer s H vs Q E hr h => ?_
  · obtain ⟨z, ks, rfl, _⟩ := h
    rfl
  · obtain ⟨z, ks, rfl, hz, q⟩ := h
    refine ⟨_, pss_one (ps_if (pt_not (pt_val (pe_f c O hr (pa_cons (pv 0) pa_nil)))) pss_never pss_nil), ?_⟩
    exact ⟨.str z, rfl, z, ks, rfl, hz, _, rfl, iteF q⟩
/-! ### data behind a dict that is being filled -/
theorem sqT_hideD {K : PySem.W.Frag} {H : Hp} {M a : Addr} {kvs : List (Key × V)} {xs : List V} (hM : H M = some (.dK kvs)) (h : SqT K H a xs) : SqT K (hide H M) a xs := by
  rcases h with (h | ⟨o, h⟩) | h
  · exact .inl (.inl (by rw [hide_ne (ne_of h hM fun z => nomatch z)]; exact h))
  · exact .inl (.inr ⟨o, by rw [hide_ne (ne_of h hM fun z => nomatch z)]; exact h⟩)
  · exact .inr h
theorem sqL_hideD {K : PySem.W.Frag} {H : Hp} {M a : Addr} {kvs : List (Key × V)} {xs : List V} (hM : H M = some (.dK kvs)) (h : SqL K H a xs) : SqL K (hide H M) a xs := by
  rcases h with (h | ⟨o, h⟩) | h
  · exact .inl (.inl (by rw [hide_ne (ne_of h hM fun z => nomatch z)]; exact h))
  · exact .inl (.inr ⟨o, by rw [hide_ne (ne_of h hM fun z => nomatch z)]; exact h⟩)
  · exact .inr h
mutual
theorem dp_hideD {K : PySem.W.Frag} {H : Hp} {M : Addr} {kvs : List (Key × V)} (hM : H M = some (.dK kvs)) : ∀ {d : PyData} {v : V}, Dp K H v d → Dp K (hide H M) v d
  | .none, _, h => by cases h; exact .non
  | .bool b, _, h => by cases h; exact .bl b
  | .int i, _, h => by cases h; exact .int i
  | .str x, _, h => by cases h; exact .str x
  | .list ds, _, h => by
    cases h with
    | lst s a => exact .lst (sqL_hideD hM s) (dpAll_hideD hM a)
  | .tuple ds, _, h => by
    cases h with
    | tup s a => exact .tup (sqT_hideD hM s) (dpAll_hideD hM a)
  | .dict _, _, h => by cases h
theorem dpAll_hideD {K : PySem.W.Frag} {H : Hp} {M : Addr} {kvs : List (Key × V)} (hM : H M = some (.dK kvs)) : ∀ {ds : List PyData} {vs : List V}, DpAll K H vs ds → DpAll K (hide H M) vs ds
  | [], _, h => by cases h; exact .nil
  | d :: ds, _, h => by
    cases h with
    | cons a b => exact .cons (dp_hideD hM a) (dpAll_hideD hM b)
end
/-! ### make_fact, fact: of the ways -/
def three : List Str := ["edges", "reach", "doms"]
noncomputable def factD (P : List Blk) (z : Str) : PyData := if z = "edges" then edgD P else if z = "reach" then rchD P else domD P
def deps (z : Str) : List Str := if z = "edges" then [] else if z = "reach" then ["edges"] else ["edges", "reach"]
def MadeIn (c : Ct) (H : Hp) (md : Addr) (P : List Blk) (ds : List Str) : Prop := ∃ kvs, H md = some (.dK kvs) ∧ kvs.length ≤ ds.length ∧ ∀ d ∈ ds, ∃ u, valV kvs (Sum.inr d) = some u ∧ Dp c.K (hide H md) u (factD P d)
theorem MadeIn.get {H : Hp} {md : Addr} {P : List Blk} {ds : List Str} {d : Str} (h : MadeIn c H md P ds) (hd : d ∈ ds) : ∃ u, DGet H md (.str d) (some u) ∧ Dp c.K H u (factD P d) := by
  obtain ⟨kvs, h1, h2, h3⟩ := h
  obtain ⟨u, a, b⟩ := h3 d hd
  refine ⟨u, ?_, dp_gr (hide_to H md) b⟩
  have := DGet.k (k := Sum.inr d) h1
  rw [a] at this
  exact this
theorem MadeIn.gr {H H' : Hp} {md : Addr} {P : List Blk} {ds : List Str} (g : Gr H H') (h : MadeIn c H md P ds) : MadeIn c H' md P ds := by
  obtain ⟨kvs, h1, h2, h3⟩ := h
  have h1' : H' md = some (.dK kvs) := g.keep h1 fun _ z => nomatch z
  refine ⟨kvs, h1', h2, fun d hd => ?_⟩
  obtain ⟨u, a, b⟩ := h3 d hd
  exact ⟨u, a, dp_gr (hide_gr g (.dK h1')) b⟩
theorem MadeIn.add {H : Hp} {md : Addr} {P : List Blk} {ds : List Str} {d : Str} {u : V} (h : MadeIn c H md P ds) (hu : Dp c.K H u (factD P d)) : ∃ kvs, H md = some (.dK kvs) ∧ kvs.length ≤ ds.length ∧ MadeIn c (upd H md (.dK (putK kvs (Sum.inr d) u))) md P (ds ++ [d]) := by
  obtain ⟨kvs, h1, h2, h3⟩ := h
  refine ⟨kvs, h1, h2, _, upd_same, ?_, fun e he => ?_⟩
  · have := length_putK kvs (Sum.inr d) u
    rw [List.length_append, List.length_singleton]
    omega
  · rw [valV_put, hide_upd]
    by_cases q : e = d
    · subst q
      exact ⟨u, by rw [if_pos rfl], dp_hideD h1 hu⟩
    · obtain ⟨w, a, b⟩ := h3 e (by
        rcases List.mem_append.mp he with z | z
        · exact z
        · exact absurd (List.mem_singleton.mp z) q)
      exact ⟨w, by rw [if_neg (fun z => q (Sum.inr.inj z))]; exact a, b⟩
theorem MadeIn.sub {H : Hp} {md : Addr} {P : List Blk} {ds : List Str} {d : Str} (h : MadeIn c H md P ds) (hs : ∀ e ∈ deps d, e ∈ ds) : ∀ e ∈ deps d, ∃ u, DGet H md (.str e) (some u) ∧ Dp c.K H u (factD P e) := fun e he => h.get (hs e he)
def spMake (c : Ct) : Sp := fun vs H Q _ => ∃ v z md P, vs = [v, .str z, .ref md] ∧ Dp c.K H v (encP P) ∧ OkP P ∧ Tabs c.ts H ∧ z ∈ three ∧ (∀ e ∈ deps z, ∃ u, DGet H md (.str e) (some u) ∧ Dp c.K H u (factD P e)) ∧ ∀ H' v', Gr H H' → Dp c.K H' v' (factD P z) → Q v' H'
abbrev nMake : List Str := ["program", "name", "made", "edges"]
theorem sc_make : FnScope nMake ["program", "name", "made"] (defScope s_make_fact) := ⟨rfl, rfl, rfl, by decide +kernel, rfl, by decide +kernel, by decide +kernel⟩
theorem three_ne : ("reach" : Str) ≠ "edges" ∧ ("doms" : Str) ≠ "edges" ∧ ("doms" : Str) ≠ "reach" ∧ ("edges" : Str) ≠ "uses" ∧ ("reach" : Str) ≠ "uses" ∧ ("doms" : Str) ≠ "uses" := by decide +kernel
theorem ok_make (D : Df c "make_fact" s_make_fact) (O1 : Ok c "edges_of" 6 ["program"] (spEdgesOf c)) (O2 : Ok c "reach_of" 3 ["program", "edges"] (spReachOf c)) (O3 : Ok c "doms_of" 6 ["program", "edges", "reach"] (spDomsOf c)) : Ok c "make_fact" 7 ["program", "name", "made"] (spMake c) := by
  refine df_ok D sc_make (fun vs H Q E h => ?_) (fun _ _ _ _ _ _ us hl => match us, hl with | [_, _, _], _ => rfl) fun f cd A outer s H vs Q E hr h => ?_
  · obtain ⟨v, z, md, P, rfl, _⟩ := h
    rfl
  · obtain ⟨v, z, md, P, rfl, hv, okP, hT, hz, hd, q⟩ := h
    have nd := sc_make.nd
    obtain ⟨n1, n2, n3, n4, n5, n6⟩ := three_ne
    have sq : ∀ {a b : Str}, decide (V.str a = V.str b) = true → a = b := fun h => V.str.inj (of_decide_eq_true h)
    have sn : ∀ {a b : Str}, ¬ decide (V.str a = V.str b) = true → ¬ a = b := fun h e => h (by rw [e]; exact decide_eq_true rfl)
    refine ⟨_, pss_cons (ps_if (pt_cmpR op_eq (pv 1) pe_str (nomark _)) (pss_one (ps_ret (pe_f c O1 hr (pa_cons (pv 0) pa_nil)))) pss_nil)
      (pss_cons (ps_if (pt_cmpR op_eq (pv 1) pe_str (nomark _)) pss_never pss_nil)
      (pss_cons (ps_set (i := 3) nd rfl (.inl rfl) (pe_dget (hu_of hr) (pv 2) pe_str (fun _ _ => rfl)))
      (pss_cons (ps_if (pt_cmpR op_eq (pv 1) pe_str (nomark _)) (pss_one (ps_ret (pe_f c O2 (hr.mono (by decide)) (pa_cons (pv 0) (pa_cons (pv 3) pa_nil))))) pss_nil)
      (pss_cons (ps_if (pt_cmpR op_eq (pv 1) pe_str (nomark _)) (pss_one (ps_ret (pe_f c O3 hr (pa_cons (pv 0) (pa_cons (pv 3) (pa_cons (pe_dget (hu_of hr) (pv 2) pe_str (fun _ _ => rfl)) pa_nil)))))) pss_nil)
      pss_never)))), ?_⟩
    refine ⟨.str z, rfl, rfl, _, rfl, ite2 (fun e => ?_) fun e => ?_⟩
    · obtain rfl := sq e
      have e0 : factD P "edges" = edgD P := if_pos rfl
      rw [e0] at q
      exact ⟨v, rfl, v, P, rfl, hv, okP, hT, q⟩
    have ne : ¬ z = "edges" := sn e
    have hz2 : z = "reach" ∨ z = "doms" := by
      simp only [three, List.mem_cons, List.not_mem_nil, or_false] at hz
      exact hz.resolve_left ne
    have hE : ("edges" : Str) ∈ deps z := by
      rcases hz2 with rfl | rfl
      · unfold deps; rw [if_neg n1, if_pos rfl]; simp
      · unfold deps; rw [if_neg n2, if_neg n3]; simp
    obtain ⟨w, dw, hw⟩ := hd "edges" hE
    have e0 : factD P "edges" = edgD P := if_pos rfl
    rw [e0] at hw
    refine ⟨.str z, rfl, rfl, _, rfl, ite2 (fun e => ?_) fun e => ?_⟩
    · have := sq e
      rcases hz2 with h | h
      · exact absurd (h.symm.trans this) n5
      · exact absurd (h.symm.trans this) n6
    refine ⟨.ref md, rfl, md, w, rfl, dw, ?_⟩
    refine ⟨.str z, rfl, rfl, _, rfl, ite2 (fun e => ?_) fun e => ?_⟩
    · obtain rfl := sq e
      have e1 : factD P "reach" = rchD P := by unfold factD; rw [if_neg n1, if_pos rfl]
      rw [e1] at q
      exact ⟨v, rfl, w, rfl, v, w, P, rfl, hv, hw, okP, q⟩
    have hzd : z = "doms" := hz2.resolve_left (sn e)
    subst hzd
    have hR : ("reach" : Str) ∈ deps "doms" := by unfold deps; rw [if_neg n2, if_neg n3]; simp
    obtain ⟨u, du, hu⟩ := hd "reach" hR
    have e1 : factD P "reach" = rchD P := by unfold factD; rw [if_neg n1, if_pos rfl]
    have e2 : factD P "doms" = domD P := by unfold factD; rw [if_neg n2, if_neg n3]
    rw [e1] at hu
    rw [e2] at q
    refine ⟨.str "doms", rfl, rfl, _, rfl, ite2 (fun e => ?_) fun e => absurd (decide_eq_true rfl) e⟩
    exact ⟨v, rfl, w, rfl, .ref md, rfl, md, u, rfl, du, v, w, u, P, rfl, hv, hw, hu, okP, hT, q⟩
/-! ### fact -/
def spFact (c : Ct) : Sp := fun vs H Q _ => ∃ v z P, vs = [v, .str z] ∧ Dp c.K H v (encP P) ∧ OkP P ∧ Tabs c.ts H ∧ z ∈ three ∧ ∀ H' v', Gr H H' → Dp c.K H' v' (factD P z) → Q v' H'
abbrev nFact : List Str := ["program", "name", "made", "other"]
theorem sc_fact : FnScope nFact ["program", "name"] (defScope s_fact) := ⟨rfl, rfl, rfl, by decide +kernel, rfl, by decide +kernel, by decide +kernel⟩
theorem three_hang : ∀ z ∈ three, hangsL.lookup z = some (deps z) := by decide +kernel
theorem deps_ok : ∀ z ∈ three, (deps z).length ≤ 2 ∧ ∀ i < (deps z).length, ∀ d, (deps z)[i]? = some d → d ∈ three ∧ ∀ e ∈ deps d, e ∈ (deps z).take i := by
  intro z hz
  simp only [three, List.mem_cons, List.not_mem_nil, or_false] at hz
  obtain ⟨n1, n2, n3, n4, n5, n6⟩ := three_ne
  have d1 : deps "edges" = ([] : List Str) := if_pos rfl
  have d2 : deps "reach" = (["edges"] : List Str) := by unfold deps; rw [if_neg n1, if_pos rfl]
  have d3 : deps "doms" = (["edges", "reach"] : List Str) := by unfold deps; rw [if_neg n2, if_neg n3]
  rcases hz with rfl | rfl | rfl
  · rw [d1]
    exact ⟨by decide, fun i h => absurd h (Nat.not_lt_zero _)⟩
  · rw [d2]
    refine ⟨by decide, fun i h d hd => ?_⟩
    obtain rfl : i = 0 := by simp at h; omega
    simp only [List.getElem?_cons_zero, Option.some.injEq] at hd
    subst hd
    exact ⟨by simp [three], by rw [d1]; simp⟩
  · rw [d3]
    refine ⟨by decide, fun i h d hd => ?_⟩
    match i, h with
    | 0, _ =>
      simp only [List.getElem?_cons_zero, Option.some.injEq] at hd
      subst hd
      exact ⟨by simp [three], by rw [d1]; simp⟩
    | 1, _ =>
      simp only [List.getElem?_cons_succ, List.getElem?_cons_zero, Option.some.injEq] at hd
      subst hd
      exact ⟨by simp [three], by rw [d2]; simp⟩
theorem ok_fact (D : Df c "fact" s_fact) (G : Hg c) (O1 : Ok c "check_program" 10 ["thing"] (spCheckProgram c)) (O2 : Ok c "check_fact_name" 2 ["thing"] (spChkFn c)) (O3 : Ok c "make_fact" 7 ["program", "name", "made"] (spMake c)) : Ok c "fact" 11 ["program", "name"] (spFact c) := by
  obtain ⟨aH, hH, _, hHv⟩ := G.hangs
  refine df_ok D sc_fact (fun vs H Q E h => ?_) (fun _ _ _ _ _ _ us hl => match us, hl with | [_, _], _ => rfl) fun f cd A outer s H vs Q E hr h => ?_
  · obtain ⟨v, z, P, rfl, _⟩ := h
    rfl
  · obtain ⟨v, z, P, rfl, hv, okP, hT, hz, q⟩ := h
    have nd := sc_fact.nd
    have r7 : Room 7 _ := hr.mono (by decide)
    obtain ⟨t, hk, hsq⟩ := hHv z _ (three_hang z hz)
    refine ⟨_, pss_cons (ps_expr (pe_f c O1 hr (pa_cons (pv 0) pa_nil)))
      (pss_cons (ps_expr (pe_f c O2 (hr.mono (by decide)) (pa_cons (pv 1) pa_nil)))
      (pss_cons (ps_set (i := 2) nd rfl (.inl rfl) pe_dnewK)
      (pss_cons (ps_for PassesOwn.never rfl (pi_tup (pe_ix ix_kdict (pe_glob (v := .ref aH) (by rfl) hH rfl) (pv 1) (fun _ _ => rfl))) (pg_name (i := 3) nd rfl (.inl rfl))
        (pss_one (ps_dput (hu_of hr) (pv 2) (pv 3) (pe_f c O3 r7 (pa_cons (pv 0) (pa_cons (pv 3) (pa_cons (pv 2) pa_nil)))) (by rfl))))
      (pss_one (ps_ret (pe_f c O3 r7 (pa_cons (pv 0) (pa_cons (pv 1) (pa_cons (pv 2) pa_nil))))))))), ?_⟩
    refine ⟨v, rfl, v, P, rfl, hv, okP, hT, fun H1 g1 => ?_⟩
    refine ⟨.str z, rfl, z, _, rfl, three_hang z hz, fun md nm => ?_⟩
    obtain ⟨dl, dk⟩ := deps_ok z hz
    have g2 : Gr H1 (upd H1 md (.dK [])) := .new nm
    have m2 : MadeIn c (upd H1 md (.dK [])) md P [] := ⟨[], upd_same, Nat.le_refl _, fun d hd => by simp at hd⟩
    refine ⟨.str z, rfl, aH, z, .ref t, rfl, rfl, hk, t, rfl, ⟨_, hsq _⟩, ?_⟩
    refine for_tup (xs := (deps z).map V.str) (fun i σ H' => ∃ ov, σ = [some v, some (.str z), some (.ref md), ov] ∧ Gr H1 H' ∧ MadeIn c H' md P ((deps z).take i)) ⟨none, rfl, g2, m2⟩ (fun i σ H' _ _ => hsq _) (fun i x σ H' hx hPv => ?_) fun σ H' hPv => ?_
    · obtain ⟨ov, rfl, g3, m3⟩ := hPv
      obtain ⟨d, hd, rfl⟩ := get_str hx
      obtain ⟨d3, dsub⟩ := dk i (List.getElem?_eq_some_iff.mp hd).1 d hd
      refine ⟨v, rfl, .str d, rfl, .ref md, rfl, v, d, md, P, rfl, dp_gr (g1.trans g3) hv, okP, hT.gr (g1.trans g3), d3, m3.sub dsub, fun H4 u g4 hu => ?_⟩
      obtain ⟨kvs, k1, k2, k3⟩ := (m3.gr g4).add hu
      refine ⟨.ref md, rfl, .str d, rfl, md, _, rfl, DPut.k (k := Sum.inr d) k1 (small1000 (by rw [List.length_take] at k2; omega)), _, rfl, (g3.trans g4).put nm (.dK k1), ?_⟩
      rw [List.take_add_one, hd]
      exact k3
    · obtain ⟨ov, rfl, g3, m3⟩ := hPv
      rw [List.length_map, List.take_of_length_le (Nat.le_refl _)] at m3
      exact ⟨v, rfl, .str z, rfl, .ref md, rfl, v, z, md, P, rfl, dp_gr (g1.trans g3) hv, okP, hT.gr (g1.trans g3), hz, m3.sub fun e he => he, fun H4 u g4 hu => q H4 u ((g1.trans g3).trans g4) hu⟩
end Pm
set_option maxHeartbeats 4000000
namespace Pm
open PySem PySem.Spec PyProof.Rows L2 GxR GX
theorem merge_out {k : Key} : ∀ {more kvs : List (Key × V)}, k ∉ more.map (·.1) → valV (mergeK kvs more) k = valV kvs k
  | [], _, _ => rfl
  | p :: r, kvs, h => by
    rw [List.map_cons, List.mem_cons, not_or] at h
    show valV (mergeK (putK kvs p.1 p.2) r) k = _
    rw [merge_out h.2, valV_put, if_neg h.1]
theorem merge_in {k : Key} {v : V} : ∀ {more kvs : List (Key × V)}, (more.map (·.1)).Nodup → (k, v) ∈ more → valV (mergeK kvs more) k = some v
  | p :: r, kvs, nd, h => by
    rw [List.map_cons, List.nodup_cons] at nd
    show valV (mergeK (putK kvs p.1 p.2) r) k = _
    rcases List.mem_cons.mp h with rfl | h
    · rw [merge_out nd.1, valV_put, if_pos rfl]
    · exact merge_in nd.2 h
/-- tuples that are pairs -/
def PairsAt (H : Hp) (ps : List Addr) (kvs : List (Key × V)) : Prop := Paired (fun p kv => H p = some (.tup [kV kv.1, kv.2])) ps kvs
theorem PairsAt.gr {H H' : Hp} {ps : List Addr} {kvs : List (Key × V)} (h : PairsAt H ps kvs) (g : Gr H H') : PairsAt H' ps kvs := Paired.mono (fun _ _ e => g.tup e) h
theorem PairsAt.sq {H : Hp} {K : PySem.W.Frag} {ps : List Addr} {kvs : List (Key × V)} (h : PairsAt H ps kvs) : Paired (fun p kv => SqT K H p [kV kv.1, kv.2]) ps kvs := Paired.mono (fun _ _ e => .inl (.inl e)) h
/-! ### what the plain machine keeps -/
theorem cutV_at {xs : List V} {k : Nat} (h : k ≤ xs.length) : cutV xs (some (k : Int)) none = xs.drop k := by
  unfold cutV
  rw [show HT.sIx xs.length 0 (some (k : Int)) = min k xs.length from HT.sIx_nat xs.length 0 k, HT.sIx_none, Nat.min_eq_left h]
  rw [List.take_of_length_le (by rw [List.length_drop]; exact Nat.le_refl _)]
theorem cut_some {xs : List V} {k : Nat} (h : 0 < k) (h2 : 0 < xs.length) : ¬ (HT.sIx xs.length 0 (some (k : Int)) = 0 ∧ HT.sIx xs.length xs.length none = xs.length) := fun e => by
  have e1 := e.1
  rw [show HT.sIx xs.length 0 (some (k : Int)) = min k xs.length from HT.sIx_nat xs.length 0 k] at e1
  omega
end Pm
namespace Pm
open PySem PySem.Spec PyProof.Rows L2 GxR GX
end Pm
set_option maxHeartbeats 4000000
/-! for .., .. in enumerate(t), t a tuple. -/
namespace Pm
open PySem PySem.Spec PyProof.Rows L2 GxR GX
/-- enumerate.__new__ of one thing -/
theorem meets_enum1 {v : Value} {o : Obj} {Hh : Heap → Prop} (B : Begins v o Hh) :
    Meets (Builtin.«enumerate.__new__» ⟨[.type "enumerate", v], []⟩) (fun _ R s => Hh s.heap ∧
      R (.ok (.ret (.ref (s.heap.push o).objs.size))) { s with heap := (s.heap.push o).push { cls := .type "enumerate", data := .fields #[.none, .bool false, .ref s.heap.objs.size, rawInt 0, .none, .none] } }) :=
  .of_wp fun prog w A R s h => by
    obtain ⟨hp, g, d, tk, os⟩ := s
    obtain ⟨h1, h⟩ := h
    have hsub := sub_enumerate
    have q1 : ∀ {A' : Around} {E : Value → Shared → Prop} {Q : Value → Shared → Prop}, Q (.ref hp.objs.size) ⟨hp.push o, g, d, tk, os⟩ → wpAny (model prog w) A' (pyIter v) Q E ⟨hp, g, d, tk, os⟩ := fun q => B.iter prog w _ _ ⟨hp, g, d, tk, os⟩ _ h1 q
    wp_walk using q1
    refine wpAny_stack_any fun st => wpAny_pure ?_
    split
    · rename_i c _ _ _ _ _
      cases (c == Value.type "enumerate")
      · wp_walk using q1
        exact ⟨_, rfl, h⟩
      · wp_walk using q1
        exact ⟨_, rfl, h⟩
    · wp_walk using q1
      exact ⟨_, rfl, h⟩
theorem call_enum1 {prog : Program} {w : World} {A : Around} {E : Value → Shared → Prop} {s : Shared} {v : Value} {o : Obj} {Hh : Heap → Prop} {Q : Value → Shared → Prop} (B : Begins v o Hh) (h1 : Hh s.heap)
    (h : ∀ h', IsEnum h' (s.heap.objs.size + 1) s.heap.objs.size 0 .none → h'.get? s.heap.objs.size = some o → (∀ b o, s.heap.get? b = some o → h'.get? b = some o) → Q (.ref (s.heap.objs.size + 1)) { s with heap := h' }) :
    wpAny (model prog w) A (call (.type "enumerate") [v]) Q E s := by
  refine callType_new F.called_enumerate (by decide) (F.typeCall_enumerate_1 _) (F.newCall_enumerate_1 _) (fun obj => F.args_object_init_2 obj _) F.entry_enumerate_new (meets_enum1 B) ⟨h1, ?_⟩
  have hz : (s.heap.push o).objs.size = s.heap.objs.size + 1 := Heap.size_push ..
  show _ ∧ _
  have he := Heap.get?_push_size (s.heap.push o) (o := { cls := .type "enumerate", data := .fields #[.none, .bool false, .ref s.heap.objs.size, rawInt 0, .none, .none] }) rfl
  rw [hz] at he ⊢
  exact ⟨⟨_, he, rfl⟩, h _ he (Heap.get?_push_of_some _ (Heap.get?_push_size _ B.free)) fun b o x => Heap.get?_push_of_some _ (Heap.get?_push_of_some _ x)⟩
/-- the tuple at a, each item in a new pair behind its number -/
def IteT (K : PySem.W.Frag) (a : Addr) : It :=
  ⟨fun i H => ∃ (xs : List V) (x : V), SqT K H a xs ∧ xs[i]? = some x, fun i H v H' => ∃ T x, v = .ref T ∧ H T = none ∧ H' = upd H T (.tup [.int (i : Nat), x]) ∧ ∀ xs, SqT K H a xs → xs[i]? = some x, fun i H => ∃ xs : List V, SqT K H a xs ∧ xs.length ≤ i⟩
theorem turn_enumT {P : Program} {w : World} {K : PySem.W.Frag} {elts : List Expr} {kk : Nat} {tpos : Pos} (a e it : Addr) :
    Turn P w K (.Tuple elts kk tpos) (IteT K a) [e, it] e (fun i h => (∃ old, IsEnum h e it ((i : Nat) : Int) old) ∧ h.IsTupleIter it a i ∧ e ≠ it) where
  mem := by simp
  obj := fun i h st b hb => by
    obtain ⟨⟨old, he⟩, ⟨o, ho, hc, hd⟩, _⟩ := st
    rcases (show b = e ∨ b = it by simpa using hb) with rfl | rfl
    · exact ⟨_, he, fun v q => nomatch q⟩
    · exact ⟨o, ho, fun v q => by rw [hd] at q; cases q⟩
  keep := fun i h h' st k => let ⟨⟨old, he⟩, hi, hne⟩ := st; ⟨⟨old, k e (by simp) _ he⟩, hi.at fun o q => k it (by simp) o q, hne⟩
  item := by
    intro X hP hw hK hc i pins s σ H E I hf st hg
    subst hP hw hK
    obtain ⟨⟨old, he⟩, hit, hne⟩ := st
    obtain ⟨xs, x, hq, hx⟩ := hg
    obtain ⟨its, rv, p, hz⟩ := I.tuple hq
    obtain ⟨u, hu, ru⟩ := rv.get hx
    have hel : e < s.heap.objs.size := Heap.lt_size he
    have hil : it < s.heap.objs.size := by obtain ⟨_, q, _⟩ := hit; exact Heap.lt_size q
    have n1 : e ≠ a := fun z => by
      obtain ⟨o, ho, hcl, _⟩ := p
      rw [← z, he] at ho
      cases ho
      exact absurd (show Value.type "enumerate" = Value.type "tuple" from hcl) (by decide)
    have n2 : a ≠ it := fun z => by
      obtain ⟨o, ho, hcl, _⟩ := p
      obtain ⟨o2, ho2, hcl2, _⟩ := hit
      rw [z, ho2] at ho
      cases ho
      rw [hcl2] at hcl
      exact absurd hcl (by decide)
    have hu2 : its.toArray[i]? = some u := by simpa using hu
    have hlt : i < its.toArray.size := (Array.getElem?_eq_some_iff.mp hu2).1
    refine wpAny_pyNext_enum_itemD (Draws.tuple (A := X.A.in1) (I.ok.hd hc) it a n2 its.toArray) he ⟨hit, p⟩ hlt hne (by simp [hne, n1]) fun x' h' tk hx' ho hst hT hsz hk => ?_
    rw [hu2] at hx'
    obtain rfl := Option.some.inj hx'
    refine ⟨_, rfl, wpAny_letOwnedTupleGo_enum (s := { s with heap := h', toks := tk + 1 }) ho fun h'' he' sb => ?_⟩
    have hT2 : h''.get? s.heap.objs.size = some { cls := .type "tuple", data := .seq #[.int i tk, u] } := (sb.2 _ (Nat.ne_of_gt hel)).trans hT
    have new : ObjOk X.prog X.w (upd H s.heap.objs.size (.tup [.int (i : Nat), x])) h'' s.heap.objs.size (.tup [.int (i : Nat), x]) :=
      ⟨by show 2 ≤ sizeLine; decide, [.int i tk, u], .cons ⟨_, rfl⟩ (.cons ru .nil), ⟨_, hT2, rfl, _, rfl⟩⟩
    have I1 : Inv X pins σ (upd H s.heap.objs.size (.tup [.int (i : Nat), x])) { s with heap := h'', toks := tk + 1 } :=
      I.turnedNew (ch := [e, it]) (fun b ob hb q => (sb.2 b (fun z => hb (by simp [z]))).trans (hk b ob (fun z => hb (by simp [z])) (fun z => hb (by simp [z])) q)) hf (Nat.le_refl _) new
    refine ⟨.ref s.heap.objs.size, _, I1, rfl, ⟨_, x, rfl, I.hok.fresh (Nat.le_refl _), rfl, fun ys hy => by rw [I.tuple_inj hy hq]; exact hx⟩, ⟨⟨u, ?_⟩, hst.1.at fun o q => (sb.2 it (Ne.symm hne)).trans q, hne⟩, fun b hb => ?_⟩
    · have e1 : ((i + 1 : Nat) : Int) = (i : Int) + 1 := by omega
      rw [e1]; exact he'
    · have hb' : b < s.heap.objs.size := by
        rcases (show b = e ∨ b = it by simpa using hb) with rfl | rfl
        · exact hel
        · exact hil
      rw [upd_ne (Nat.ne_of_lt hb')]
      exact (hf b hb).1
  done := by
    intro X hP hw hK hc i pins s σ H E I hf st hg
    subst hP hw hK
    obtain ⟨⟨old, he⟩, hit, hne⟩ := st
    obtain ⟨xs, hq, hx⟩ := hg
    obtain ⟨its, rv, p, hz⟩ := I.tuple hq
    obtain ⟨f0, f1, f2, f3, f4, f5⟩ := hf it (by simp)
    have hl := rv.length
    have hT : s.TypeIs (.ref e) "enumerate" := ⟨_, he, rfl⟩
    unfold pyNext
    refine wpAny_bind (wpAny_attempt (wpAny_callSpecial?_slot (name := Str.ofString "__next__") hT F.slot_enumerate_next
      (wpAny_call_entry F.slot_enumerate_next hT F.entry_enumerate_next ?_ (F.args_enumerate_next_1 _))))
    show wpAny _ _ (field (.ref e) 2 >>= _) _ _ _
    refine wpAny_bind (wpAny_field he rfl (x := .ref it) rfl ?_)
    refine wpAny_bind (wpAny_nextOf_tuple_end (I.ok.hd hc) hit p (by simp; omega) fun h' x he' hx' => ?_)
    obtain ⟨o, ho, hcl⟩ := hx'
    refine wpAny_bind (wpAny_isInstance (T := "StopIteration") (b := true) ⟨o, ho, hcl⟩ isSubtype_stop ?_)
    exact wpAny_pure ⟨rfl, I.turned (t' := s.toks) (fun b o hb q => he' b o hb q) f0 f1 f3 f4 f5⟩
  self := fun A i s Q E st h => let ⟨⟨_, he⟩, _⟩ := st; wpAny_pyIter_enum he h
def iEnumT (K : PySem.W.Frag) (ta : TA) : TI := fun σ H R => ta σ H fun vs H1 => ∃ a xs, vs = [.ref a] ∧ SqT K H1 a xs ∧ R (IteT K a) H1
theorem pi_enumT {X : Cx} {e : Expr} {ta : TA} {p pos tpos : Pos} {elts : List Expr} {kk : Nat} (hg : Gl X "enumerate") (hm : X.mg "enumerate" = none) (ha : PA X [e] ta) (hs : starEach [e] X.env = [(false, eval e X.env)] := by rfl) :
    PI X (.Tuple elts kk tpos) (.Call (.Name "enumerate" p) [e] [] pos) (iEnumT X.K ta) := by
  refine ⟨fun pins s σ H R I h => ?_⟩
  refine Call_ (ld_blt I hg hm boot_enumerate (PyProof.Rows.callWith_type1 (thn (ha.run pos pins s σ H _ I h) fun us s1 ⟨vs, H1, I1, r1, q1⟩ => ?_) hs rfl))
  obtain ⟨a, xs, rfl, hq, q⟩ := q1
  cases r1 with
  | cons r rr =>
    cases rr
    cases r
    obtain ⟨its, rv, p', hz⟩ := I1.tuple hq
    refine call_enum1 (begins_tuple a its.toArray) p' fun h' he ho hk => wpAny_pyIter_enum he ?_
    have I2 : Inv X pins σ H1 { s1 with heap := h' } := I1.kept (t' := s1.toks) hk
    refine ⟨s1.heap.objs.size + 1, [s1.heap.objs.size + 1, s1.heap.objs.size], _, _, H1, rfl, I2, turn_enumT a (s1.heap.objs.size + 1) s1.heap.objs.size, ⟨⟨.none, he⟩, ⟨_, ho, rfl, rfl⟩, Nat.succ_ne_self _⟩, fun b hb => ?_, q⟩
    have hle : s1.heap.objs.size ≤ b := by
      rcases (show b = s1.heap.objs.size + 1 ∨ b = s1.heap.objs.size by simpa using hb) with z | z
      · rw [z]; exact Nat.le_add_right _ _
      · rw [z]; exact Nat.le_refl _
    exact I1.fpOk hle (I1.hok.fresh hle)
/-- the loop over such pairs, the tuple staying -/
theorem for_enumT {K : PySem.W.Frag} {a : Addr} {xs : List V} {g : TG} {tb : TS} {D : Ends} {σ : L2.St} {H : Hp} (Pv : Nat → L2.St → Hp → Prop) (h0 : Pv 0 σ H) (hl : ∀ i σ H, i ≤ xs.length → Pv i σ H → SqT K H a xs)
    (hs : ∀ i x σ T H, xs[i]? = some x → Pv i σ H → H T = none → g (.ref T) σ (upd H T (.tup [.int (i : Nat), x])) fun σ2 H2 => tb { D with nx := Pv (i + 1), ct := Pv (i + 1), bk := D.nx } σ2 H2) (hd : ∀ σ H, Pv xs.length σ H → D.nx σ H) :
    ∃ W : Nat → Nat → L2.St → Hp → Prop, (∃ m, W 0 m σ H) ∧ ∀ i m σ H, W i m σ H →
      ((IteT K a).stop i H ∧ D.nx σ H) ∨ ((IteT K a).go i H ∧ ∃ N : L2.St → Hp → Prop, (∀ σ' H', N σ' H' → ∃ m', m' < m ∧ W (i + 1) m' σ' H') ∧ ∀ x H', (IteT K a).yld i H x H' → g x σ H' fun σ2 H2 => tb { D with nx := N, ct := N, bk := D.nx } σ2 H2) := by
  refine ⟨fun i m σ H => m = xs.length - i ∧ i ≤ xs.length ∧ Pv i σ H, ⟨xs.length, by simp, Nat.zero_le _, h0⟩, ?_⟩
  rintro i m σ H ⟨rfl, hi, p⟩
  have q := hl i σ H hi p
  by_cases hlt : i < xs.length
  · refine .inr ⟨⟨xs, xs[i], q, by simp [hlt]⟩, Pv (i + 1), fun σ' H' p' => ⟨xs.length - (i + 1), by omega, rfl, hlt, p'⟩, fun v H' y => ?_⟩
    obtain ⟨T, x, rfl, nT, rfl, hx⟩ := y
    exact hs i x σ T H (hx xs q) p nT
  · have e : i = xs.length := by omega
    subst e
    exact .inl ⟨⟨xs, q, Nat.le_refl _⟩, hd σ H p⟩
end Pm
set_option maxHeartbeats 4000000
namespace Pm
open PySem PySem.Spec PyProof.Rows L2 GxR GX
variable {c : Ct} {C : Addr}
def nm6 : List Str := ["a", "b", "c", "d", "e", "f"]
theorem nm6_name : ∀ x ∈ nm6, NameOk x := by
  have : ∀ x ∈ nm6, nameD (.str x) = true := by decide +kernel
  exact this
theorem abc_nat : ∀ n < 6, ∃ d, ("abcdef" : Str).cps.toList[n]? = some d ∧ nm6[n]? = some (⟨#[d]⟩ : Str) := by
  intro n hn
  match n, hn with
  | 0, _ => exact ⟨_, rfl, by decide +kernel⟩
  | 1, _ => exact ⟨_, rfl, by decide +kernel⟩
  | 2, _ => exact ⟨_, rfl, by decide +kernel⟩
  | 3, _ => exact ⟨_, rfl, by decide +kernel⟩
  | 4, _ => exact ⟨_, rfl, by decide +kernel⟩
  | 5, _ => exact ⟨_, rfl, by decide +kernel⟩
theorem abc_at {r : Int} (h0 : 0 ≤ r) (h1 : r < 6) : ∃ d, atI ("abcdef" : Str).cps.toList r = some d ∧ nm6[r.toNat]? = some (⟨#[d]⟩ : Str) := by
  obtain ⟨d, e1, e2⟩ := abc_nat r.toNat (by omega)
  refine ⟨d, ?_, e2⟩
  conv => lhs; rw [show r = ((r.toNat : Nat) : Int) by omega]
  exact atI_nat e1
theorem abc_len : ("abcdef" : Str).length ≤ sizeLine := by decide +kernel
def InE : En → Prop
  | .ite x _ _ => x ∈ pl4
  | _ => True
/-- a drawn block: at most n steps, many blocks there -/
structure GenB (n many : Nat) (b : Blk) : Prop where
  few : b.steps.length ≤ n
  ok : ∀ s ∈ b.steps, OkS s
  ins : ∀ s ∈ b.steps, InS s
  oke : OkE b.en
  ine : InE b.en
  go : ∀ t ∈ goals b.en, t ∈ nm6.take many
structure GenP (n : Nat) (P : List Blk) : Prop where
  ex : ∃ many, 1 ≤ many ∧ many ≤ 6 ∧ P.map (·.name) = nm6.take many ∧ ∀ b ∈ P, GenB n many b
theorem GenP.okP {n : Nat} {P : List Blk} (h : GenP n P) (hn : n ≤ 16) : OkP P := by
  obtain ⟨many, h1, h6, hm, hb⟩ := h.ex
  have hl : P.length = many := by
    have := congrArg List.length hm
    rw [List.length_map, List.length_take] at this
    have e : nm6.length = 6 := rfl
    omega
  refine ⟨by omega, by omega, fun b hbP => ?_, ?_, fun b hbP t ht => ?_⟩
  · have g := hb b hbP
    have hnm : b.name ∈ nm6 := List.mem_of_mem_take (hm ▸ List.mem_map_of_mem (f := Blk.name) hbP)
    exact ⟨nm6_name _ hnm, Nat.le_trans g.few hn, g.ok, g.oke⟩
  · rw [hm]
    exact List.Nodup.sublist (List.take_sublist _ _) (by decide +kernel)
  · rw [hm]
    exact (hb b hbP).go t ht
theorem bridge {t : TE} {σ : L2.St} {H : Hp} {Q : VK} (G : V → Hp → Prop) (h1 : ∀ Q' : VK, (∀ v H', G v H' → Q' v H') → t σ H Q') (h2 : ∀ v H', G v H' → Q v H') : t σ H Q := h1 Q h2
theorem bridgeS {t : TS} {σ : L2.St} {H : Hp} {D : Ends} (G : L2.St → Hp → Prop) (h1 : ∀ D' : Ends, (∀ σ' H', G σ' H' → D'.nx σ' H') → t D' σ H) (h2 : ∀ σ' H', G σ' H' → D.nx σ' H') : t D σ H := h1 D h2
def GoodE (many : Nat) (e : En) : Prop := OkE e ∧ InE e ∧ ∀ t ∈ goals e, t ∈ nm6.take many
theorem encE_at {K : PySem.W.Frag} {H : Hp} {a : Addr} {e : En} (h : H a = some (.tup (rowE e))) : Dp K H (.ref a) (encE e) := by
  cases e with
  | go b => exact .tup (.inl (.inl h)) (.cons (.str _) (.cons (.str _) .nil))
  | ite x b c => exact .tup (.inl (.inl h)) (.cons (.str _) (.cons (.str _) (.cons (.str _) (.cons (.str _) .nil))))
  | stop => exact .tup (.inl (.inl h)) (.cons (.str _) .nil)
def spProgram (c : Ct) : Sp := fun vs H Q _ => ∃ (a : Addr) (k : Int), vs = [.ref a, .int k] ∧ ScrAt c H a ∧ 0 ≤ k ∧ ∀ v H' P, GenP 5 P → Dp c.K H' v (encP P) → Gr H H' → Q v H'
abbrev nProg : List Str := ["_law_script", "_law_at", "_law_many", "_law_made", "_law_k", "_law_here", "_law_steps", "_law_turn", "_law_go", "_law_end", "_law_j"]
theorem sc_program : FnScope nProg ["_law_script", "_law_at"] (defScope s_law_program) := ⟨rfl, rfl, rfl, by decide +kernel, rfl, by decide +kernel, by decide +kernel⟩
set_option maxHeartbeats 8000000 in
theorem ok_program (D : Df c "_law_program" s_law_program) (B : Bl2 c) (O : OkPick c) (O2 : Ok c "_law_step" 2 ["_law_script", "_law_at"] (spStep c)) : Ok c "_law_program" 3 ["_law_script", "_law_at"] (spProgram c) := by
  refine df_ok D sc_program (fun vs H Q E h => ?_) (fun _ _ _ _ _ _ us hl => match us, hl with | [_, _], _ => rfl) fun f cd A outer s H vs Q E hr h => ?_
  · obtain ⟨a, k, rfl, _⟩ := h
    rfl
  · obtain ⟨a, k, rfl, hS, k0, q⟩ := h
    have nd := sc_program.nd
    have hr1 : Room 1 _ := hr.mono (by decide)
    refine ⟨_, pss_cons (ps_set (i := 2) nd rfl (.inr rfl) (pe_op op_add pe_int (pe_f c O hr1 (pa_cons (pv 0) (pa_cons (pv 1) (pa_cons pe_int pa_nil))))))
      (pss_cons (ps_set (i := 3) nd rfl (.inl rfl) (pe_lst pa_nil))
      (pss_cons (ps_for PassesOwn.never rfl (pi_range1 rfl B.range (pa_cons (pv 2) pa_nil)) (pg_name (i := 4) nd rfl (.inl rfl))
        (pss_cons (ps_set (i := 5) nd rfl (.inr rfl) (pe_op op_add (pe_op op_add (pv 1) pe_int) (pe_op op_mul pe_int (pv 4))))
        (pss_cons (ps_set (i := 6) nd rfl (.inl rfl) (pe_callTy call_tuple_of (by rfl) B.tuple (by decide +kernel) (pa_cons (pe_lc (own := [("_law_j", 10)]) (g := gName 10) (tt := tYes) rfl nd
            (pi_range1 rfl B.range (pa_cons (pe_f c O hr1 (pa_cons (pv 0) (pa_cons (pv 5) (pa_cons pe_int pa_nil)))) pa_nil)) (blkOk_by (N := nProg) (sc := defScope s_law_program) (by decide +kernel)) (fun _ _ _ _ _ => pg_name (i := 10) nd rfl (.inl rfl)) (fun _ _ _ _ _ => pts_nil)
            (fun _ _ _ _ _ => pe_f c O2 hr (pa_cons (pv 0) (pa_cons (pe_op op_add (pe_op op_add (pv 5) pe_int) (pe_op op_mul pe_int (pv 10))) pa_nil)))) pa_nil)))
        (pss_cons (ps_set (i := 7) nd rfl (.inl rfl) (pe_f c O hr1 (pa_cons (pv 0) (pa_cons (pe_op op_add (pv 5) pe_int) (pa_cons pe_int pa_nil)))))
        (pss_cons (ps_setLc (i := 8) (own := [("_law_j", 10)]) (g := gName 10) (tt := tYes) rfl nd rfl rfl (sw_true rfl rfl rfl (by decide +kernel)) (pi_range1 rfl B.range (pa_cons pe_int pa_nil)) (blkOk_by (N := nProg) (sc := defScope s_law_program) (by decide +kernel)) (fun _ _ _ _ _ => pg_name (i := 10) nd rfl (.inl rfl)) (fun _ _ _ _ _ => pts_nil)
            (fun _ _ _ _ _ => pe_ix ix_str pe_str (pe_f c O hr1 (pa_cons (pv 0) (pa_cons (pe_op op_add (pe_op op_add (pv 5) pe_int) (pv 10)) (pa_cons (pv 2) pa_nil)))) (fun _ _ => rfl)))
        (pss_cons (ps_set (i := 9) nd rfl (.inl rfl) (pe_ifExp (PW.pt (pw_or (pt_cmpR op_eq (pv 7) pe_int (nomark _)) (pw_or1 (PW.pt (pw_and (pt_cmpR op_eq (pv 4) (pe_op op_sub (pv 2) pe_int) (nomark _)) (pw_and1 (pt_cmpR op_lt (pv 7) pe_int (nomark _)))))))) (pe_tup (pa_cons pe_str pa_nil)) (pe_tup (pa_cons pe_str (pa_cons (pe_ix ix_list (pv 8) pe_int (fun _ _ => rfl)) pa_nil)))))
        (pss_cons (ps_if (pt_cmpR op_gt (pv 7) pe_int (nomark _)) (pss_one (ps_set (i := 9) nd rfl (.inl rfl) (pe_tup (pa_cons pe_str (pa_cons (pe_ix ix_str pe_str (pe_f c O hr1 (pa_cons (pv 0) (pa_cons (pe_op op_add (pv 5) pe_int) (pa_cons pe_int pa_nil)))) (fun _ _ => rfl)) (pa_cons (pe_ix ix_list (pv 8) pe_int (fun _ _ => rfl)) (pa_cons (pe_ix ix_list (pv 8) pe_int (fun _ _ => rfl)) pa_nil))))))) pss_nil)
        (pss_one (ps_expr (pe_bm PySem.F.plainAttrs_list PySem.F.slot_list_append PySem.F.type_list_append mt_append (pv 3) (pa_cons (pe_tup (pa_cons (pe_ix ix_str pe_str (pv 4) (fun _ _ => rfl)) (pa_cons (pv 6) (pa_cons (pv 9) pa_nil)))) pa_nil))))))))))
      ) (pss_one (ps_ret (pe_callTy call_tuple_of (by rfl) B.tuple (by decide +kernel) (pa_cons (pv 3) pa_nil)))))), ?_⟩
    refine ⟨.ref a, rfl, .int k, rfl, a, k, 6, rfl, hS, k0, by decide, fun r H1 r0 r1 g1 => ⟨1, r, rfl, rfl, ?_⟩⟩
    refine ⟨Nat.zero_le _, fun M nM => ?_⟩
    refine ⟨.int (1 + r), rfl, 1 + r, rfl, by omega, by omega, ?_⟩
    obtain ⟨mn, hmn⟩ : ∃ mn : Nat, (1 + r).toNat = mn := ⟨_, rfl⟩
    have hm6 : mn ≤ 6 := by omega
    rw [hmn]
    have l6 : nm6.length = 6 := rfl
    have g0M : Gr H1 (upd H1 M (.lst [])) := (Gr.refl _).put nM
    refine for_range (n := mn) (fun i σ H' => ∃ kv hv sv tv gv ev, σ = [some (.ref a), some (.int k), some (.int (1 + r)), some (.ref M), kv, hv, sv, tv, gv, ev, none] ∧ Gr H1 H' ∧ ∃ vs, ∃ bs : List Blk, H' M = some (.lst vs) ∧ DpAll c.K (hide H' M) vs (bs.map encB) ∧ bs.map Blk.name = nm6.take i ∧ ∀ b ∈ bs, GenB 5 mn b)
      ⟨none, none, none, none, none, none, rfl, g0M, [], [], upd_same, .nil, rfl, fun b hb => by cases hb⟩ (fun i σ H2 hi hPv => ?_) fun σ H2 hPv => ?_
    · obtain ⟨kv, hv, sv, tv, gv, ev, rfl, g2, vs, bs, hM2, hd2, hn2, hb2⟩ := hPv
      have lbs : bs.length = i := by
        have := congrArg List.length hn2
        rw [List.length_map, List.length_take] at this
        omega
      refine ⟨.int k, rfl, k, 10, rfl, rfl, .int (0 + i), rfl, 50, 0 + i, rfl, rfl, .inl ⟨by decide, by decide⟩, k + 10, 50 * (0 + i), rfl, rfl, ?_⟩
      have hh0 : 0 ≤ k + 10 + 50 * (0 + (i : Int)) := by omega
      refine ⟨.ref a, rfl, .int (k + 10 + 50 * (0 + i)), rfl, a, _, 6, rfl, hS.gr (g1.trans g2), hh0, by decide, fun r2 H3 p0 p1 g3 => ⟨r2, rfl, by omega, by omega, fun D nD => ?_⟩⟩
      refine lc_range (lo := 0) (n := r2.toNat) (fun j H' => Gr H3 H' ∧ ∃ ws, ∃ sts : List Stp, H' D = some (.lst ws) ∧ DpAll c.K (hide H' D) ws (sts.map encS) ∧ sts.length = j ∧ ∀ st ∈ sts, OkS st ∧ InS st) ⟨(Gr.refl _).put nD, [], [], upd_same, .nil, rfl, fun x hx => by cases hx⟩ (fun j H4 hj ⟨g4, ws, sts, hD4, hd4, hl4, ho4⟩ => ?_) fun H4 ⟨g4, ws, sts, hD4, hd4, hl4, ho4⟩ => ?_
      · refine ⟨rfl, .ref a, rfl, .int (k + 10 + 50 * (0 + i)), rfl, k + 10 + 50 * (0 + i), 10, rfl, rfl, .int (0 + j), rfl, 6, 0 + j, rfl, rfl, .inl ⟨by decide, by decide⟩, _, _, rfl, rfl, a, _, rfl, hS.gr (((g1.trans g2).trans g3).trans g4), by omega, fun v H5 st ok inn dp g5 => ?_⟩
        have lw : ws.length = j := by rw [dpAll_length hd4, List.length_map, hl4]
        refine ⟨ws, g5.lst hD4, small1000 (by omega), (g4.trans g5).put nD (.lst (g5.lst hD4)), ws ++ [v], sts ++ [st], upd_same, ?_, by rw [List.length_append, hl4]; rfl, fun x h => ?_⟩
        · rw [hide_upd, List.map_append]
          exact dpAll_snoc (dp_hide (g5.lst hD4) (noL_S st) dp) (dpAll_gr (hide_gr g5 (.lst (g5.lst hD4))) hd4)
        · rcases List.mem_append.mp h with h | h
          · exact ho4 x h
          · rw [List.mem_singleton.mp h]; exact ⟨ok, inn⟩
      refine ⟨D, _, rfl, .inl ⟨.inl (.inl hD4), fun tS ntS => ?_⟩⟩
      have g5 : Gr H4 (upd H4 tS (.tup ws)) := .new ntS
      have hS5 : (upd H4 tS (.tup ws)) tS = some (.tup ws) := upd_same
      generalize upd H4 tS (.tup ws) = H5 at g5 hS5
      have dS5 : DpAll c.K H5 ws (sts.map encS) := dpAll_gr ((hide_to H4 D).trans g5) hd4
      have g25 : Gr H2 H5 := (g3.trans g4).trans g5
      have g15 : Gr H H5 := (g1.trans g2).trans g25
      refine ⟨.ref a, rfl, .int (k + 10 + 50 * (0 + i)), rfl, k + 10 + 50 * (0 + i), 1, rfl, rfl, a, _, 6, rfl, hS.gr g15, by omega, by decide, fun r3 H6 s0 s1 g6 => ?_⟩
      refine ⟨2, rfl, by decide, by decide, fun G nG => ?_⟩
      refine lc_range (lo := 0) (n := 2) (fun j H' => Gr H6 H' ∧ ∃ xs : List Str, H' G = some (.lst (xs.map V.str)) ∧ xs.length = j ∧ ∀ x ∈ xs, x ∈ nm6.take mn) ⟨(Gr.refl _).put nG, [], upd_same, rfl, fun x hx => by cases hx⟩ (fun j H7 hj ⟨g7, xs, hG7, hl7, hx7⟩ => ?_) fun H7 ⟨g7, xs, hG7, hl7, hx7⟩ => ?_
      · refine ⟨rfl, .ref a, rfl, .int (k + 10 + 50 * (0 + i)), rfl, k + 10 + 50 * (0 + i), 2, rfl, rfl, .int (0 + j), rfl, _, _, rfl, rfl, .int (1 + r), rfl, a, _, _, rfl, hS.gr ((g15.trans g6).trans g7), by omega, by omega, fun r' H8 q0 q1 g8 => ?_⟩
        obtain ⟨d, e1, e2⟩ := abc_at (r := r') q0 (by omega)
        refine ⟨_, r', d, rfl, rfl, abc_len, e1, _, g8.lst hG7, by rw [List.length_map]; exact small1000 (by omega), (g7.trans g8).put nG (.lst (g8.lst hG7)), xs ++ [⟨#[d]⟩], ?_, by rw [List.length_append, hl7]; rfl, fun x h => ?_⟩
        · rw [upd_same, List.map_append]; rfl
        · rcases List.mem_append.mp h with h | h
          · exact hx7 x h
          · rw [List.mem_singleton.mp h]
            refine List.mem_of_getElem? (i := r'.toNat) ?_
            rw [List.getElem?_take_of_lt (by omega)]
            exact e2
      match xs, hl7 with
      | [x0, x1], _ =>
      have m0 := hx7 x0 (by simp)
      have m1 := hx7 x1 (by simp)
      have nm0 : NameOk x0 := nm6_name _ (List.mem_of_mem_take m0)
      have nm1 : NameOk x1 := nm6_name _ (List.mem_of_mem_take m1)
      have g57 : Gr H5 H7 := g6.trans g7
      unfold gName
      dsimp only
      show tSeq (tAsg (tIf _ _ _) _) _ _ _ _
      show tIf _ _ _ _ _ _
      refine bridge (G := fun v H' => ∃ tE en, v = .ref tE ∧ Gr H7 H' ∧ H' tE = some (.tup (rowE en)) ∧ GoodE mn en) (fun Q' hQ => ?_) fun v H8 hv => ?_
      · have stp : ∀ tE, H7 tE = none → Q' (.ref tE) (upd H7 tE (.tup [.str "stop"])) := fun tE ntE => hQ _ _ ⟨tE, .stop, rfl, .new ntE, upd_same, True.intro, True.intro, fun t ht => by cases ht⟩
        have gon : ∀ tE, H7 tE = none → Q' (.ref tE) (upd H7 tE (.tup [.str "go", .str x0])) := fun tE ntE => hQ _ _ ⟨tE, .go x0, rfl, .new ntE, upd_same, nm0, True.intro, fun t ht => by rw [List.mem_singleton.mp ht]; exact m0⟩
        refine ⟨.int r3, rfl, rfl, _, rfl, ite2 (fun e1 => ?_) fun e1 => ?_⟩
        · exact ⟨by show 1 ≤ sizeLine; decide, stp⟩
        · refine ⟨.int (0 + i), rfl, .int (1 + r), rfl, 1 + r, 1, rfl, rfl, rfl, _, rfl, ite2 (fun e2 => ?_) fun e2 => ?_⟩
          · refine ⟨.int r3, rfl, r3, 3, rfl, rfl, _, rfl, ite2 (fun e3 => ?_) fun e3 => ?_⟩
            · exact ⟨by show 1 ≤ sizeLine; decide, stp⟩
            · exact ⟨.ref G, rfl, G, _, 0, .str x0, rfl, rfl, .inl (.inl hG7), atI_nat (j := 0) rfl, by show 2 ≤ sizeLine; decide, gon⟩
          · exact ⟨.ref G, rfl, G, _, 0, .str x0, rfl, rfl, .inl (.inl hG7), atI_nat (j := 0) rfl, by show 2 ≤ sizeLine; decide, gon⟩
      obtain ⟨tE, en, rfl, g8, hE8, good8⟩ := hv
      have g78 := g57.trans g8
      dsimp only
      show tSeq (tIfS _ _ _) _ _ _ _
      show tIfS _ _ _ _ _ _
      refine bridgeS (G := fun σ' H' => ∃ tE en, σ' = [some (.ref a), some (.int k), some (.int (1 + r)), some (.ref M), some (.int (0 + i)), some (.int (k + 10 + 50 * (0 + i))), some (.ref tS), some (.int r3), some (.ref G), some (.ref tE), none] ∧ Gr H8 H' ∧ H' tE = some (.tup (rowE en)) ∧ GoodE mn en) (fun D' hQ => ?_) fun σ9 H9 h9 => ?_
      · refine ⟨.int r3, rfl, r3, 3, rfl, rfl, _, rfl, ite2 (fun e1 => ?_) fun e1 => hQ _ _ ⟨tE, en, rfl, .refl _, hE8, good8⟩⟩
        refine ⟨.ref a, rfl, .int (k + 10 + 50 * (0 + i)), rfl, k + 10 + 50 * (0 + i), 4, rfl, rfl, a, _, 4, rfl, hS.gr (g15.trans g78), by omega, by decide, fun r' Hx q0 q1 gx => ?_⟩
        obtain ⟨d, e1, e2⟩ := xyzw_at q0 q1
        refine ⟨_, r', d, rfl, rfl, xyzw_len, e1, .ref G, rfl, G, _, 0, .str x0, rfl, rfl, .inl (.inl (gx.lst (g8.lst hG7))), atI_nat (j := 0) rfl, .ref G, rfl, G, _, 1, .str x1, rfl, rfl, .inl (.inl (gx.lst (g8.lst hG7))), atI_nat (j := 1) rfl, by show 4 ≤ sizeLine; decide, fun tE2 ntE => ?_⟩
        exact hQ _ _ ⟨tE2, .ite ⟨#[d]⟩ x0 x1, rfl, gx.trans (.new ntE), upd_same, ⟨pl4_name _ e2, nm0, nm1⟩, e2, fun t ht => by
          simp only [goals, List.mem_cons, List.not_mem_nil, or_false] at ht
          rcases ht with rfl | rfl
          · exact m0
          · exact m1⟩
      obtain ⟨tE, en, rfl, g9, hE9, good9⟩ := h9
      have g59 : Gr H5 H9 := g78.trans g9
      have g29 : Gr H2 H9 := g25.trans g59
      have hM9 : H9 M = some (.lst vs) := g29.lst hM2
      obtain ⟨d, e1, e2⟩ := abc_at (r := 0 + (i : Int)) (by omega) (by omega)
      refine ⟨.ref M, rfl, .inl ⟨rfl, _, .inl (.inl hM9)⟩, .int (0 + i), rfl, _, 0 + i, d, rfl, rfl, abc_len, e1, .ref tS, rfl, .ref tE, rfl, by show 3 ≤ sizeLine; decide, fun tB ntB => ?_⟩
      have g9b : Gr H9 (upd H9 tB (.tup [.str ⟨#[d]⟩, .ref tS, .ref tE])) := .new ntB
      have hB : (upd H9 tB (.tup [.str ⟨#[d]⟩, .ref tS, .ref tE])) tB = some (.tup [.str ⟨#[d]⟩, .ref tS, .ref tE]) := upd_same
      generalize upd H9 tB (.tup [.str ⟨#[d]⟩, .ref tS, .ref tE]) = Hb at g9b hB
      have lvs : vs.length = i := by rw [dpAll_length hd2, List.length_map, lbs]
      refine ⟨M, _, _, rfl, rfl, g9b.lst hM9, small1000 (by omega), ?_⟩
      have dB : Dp c.K Hb (.ref tB) (encB ⟨⟨#[d]⟩, sts, en⟩) := .tup (.inl (.inl hB)) (.cons (.str _) (.cons (.tup (.inl (.inl ((g59.trans g9b).tup hS5))) (dpAll_gr (g59.trans g9b) dS5)) (.cons (dp_gr g9b (encE_at hE9)) .nil)))
      refine ⟨some (.int (0 + i)), _, _, _, _, _, rfl, ((g2.trans g29).trans g9b).put nM (.lst (g9b.lst hM9)), vs ++ [.ref tB], bs ++ [⟨⟨#[d]⟩, sts, en⟩], upd_same, ?_, ?_, fun b hb => ?_⟩
      · rw [hide_upd, List.map_append]
        exact dpAll_snoc (dp_hide (g9b.lst hM9) (noL_B _) dB) (dpAll_gr (hide_gr (g29.trans g9b) (.lst (g9b.lst hM9))) hd2)
      · have e3 : nm6[i]? = some (⟨#[d]⟩ : Str) := by
          rw [show (0 + (i : Int)).toNat = i by omega] at e2
          exact e2
        rw [List.map_append, hn2, List.take_add_one, e3]
        rfl
      · rcases List.mem_append.mp hb with h | h
        · exact hb2 b h
        · rw [List.mem_singleton.mp h]
          exact ⟨by show sts.length ≤ 5; omega, fun x hx => (ho4 x hx).1, fun x hx => (ho4 x hx).2, good9.1, good9.2.1, good9.2.2⟩
    · obtain ⟨kv, hv, sv, tv, gv, ev, rfl, g2, vs, bs, hM2, hd2, hn2, hb2⟩ := hPv
      refine ⟨.ref M, rfl, M, _, rfl, .inl ⟨.inl (.inl hM2), fun t nt => ?_⟩⟩
      exact q _ _ bs ⟨mn, by omega, hm6, hn2, hb2⟩ (.tup (.inl (.inl upd_same)) (dpAll_gr ((hide_to H2 M).trans (.new nt)) hd2)) ((g1.trans g2).trans (.new nt))
end Pm
set_option maxHeartbeats 4000000
namespace Pm
open PySem PySem.Spec PyProof.Rows L2 GxR GX
variable {c : Ct}
/-! ### data that compare -/
theorem str_ok {x : Str} (h : NameOk x) : PyData.canLay0 (.str x) = true := by
  have h2 : ((decide (1 ≤ (x.length : Int)) && decide ((x.length : Int) ≤ 3)) && x.cps.toList.all lowB) = true := h
  have h3 := (Bool.and_eq_true_iff.mp h2).2
  show (x.cps.all fun n => decide (n < 0x110000)) = true
  rw [← Array.all_toList, List.all_eq_true]
  intro n hn
  have h4 := List.all_eq_true.mp h3 n hn
  unfold lowB at h4
  have h5 := of_decide_eq_true (Bool.and_eq_true_iff.mp h4).2
  exact decide_eq_true (by omega)
theorem layAll {ds : List PyData} (h : ∀ d ∈ ds, PyData.canLay0 d = true) : PyData.canLayAll0 ds = true := by
  induction ds with
  | nil => rfl
  | cons d r ih =>
    show (PyData.canLay0 d && PyData.canLayAll0 r) = true
    rw [h d List.mem_cons_self, ih fun e he => h e (List.mem_cons_of_mem _ he)]
    rfl
theorem depAll {ds : List PyData} {k : Nat} (h : ∀ d ∈ ds, PyData.depth d ≤ k) : PyData.depthAll ds ≤ k := by
  induction ds with
  | nil => exact Nat.zero_le _
  | cons d r ih =>
    have h1 := h d List.mem_cons_self
    have h2 := ih fun e he => h e (List.mem_cons_of_mem _ he)
    simp only [PyData.depthAll]
    omega
/-- of such depth, of names -/
def Lay (k : Nat) (d : PyData) : Prop := PyData.canLay0 d = true ∧ PyData.depth d ≤ k
theorem lay_str {x : Str} (h : NameOk x) : Lay 1 (.str x) := ⟨str_ok h, by simp [PyData.depth]⟩
theorem lay_tup {k : Nat} {ds : List PyData} (h : ∀ d ∈ ds, Lay k d) : Lay (k + 1) (.tuple ds) := ⟨layAll fun d hd => (h d hd).1, by
  have := depAll fun d hd => (h d hd).2
  simp only [PyData.depth]
  omega⟩
theorem lay_lst {k : Nat} {ds : List PyData} (h : ∀ d ∈ ds, Lay k d) : Lay (k + 1) (.list ds) := ⟨layAll fun d hd => (h d hd).1, by
  have := depAll fun d hd => (h d hd).2
  simp only [PyData.depth]
  omega⟩
theorem Lay.mono {k l : Nat} {d : PyData} (h : Lay k d) (hkl : k ≤ l) : Lay l d := ⟨h.1, Nat.le_trans h.2 hkl⟩
theorem Lay.shaped {k : Nat} {d : PyData} (h : Lay k d) (hk : k ≤ 64) : SeqAt.shaped d = true := by
  unfold SeqAt.shaped
  rw [h.1, decide_eq_true (Nat.le_trans h.2 hk)]
  rfl
theorem Lay.eqv {k : Nat} {d : PyData} (h : Lay k d) : PyData.eqv d d = true := SeqAt.eqv_refl _ h.1
theorem lay_strs {xs : List Str} (h : ∀ x ∈ xs, NameOk x) : Lay 2 (strsT xs) := lay_tup fun d hd => by
  obtain ⟨x, hx, rfl⟩ := List.mem_map.mp hd
  exact lay_str (h x hx)
theorem lay_strsL {xs : List Str} (h : ∀ x ∈ xs, NameOk x) : Lay 2 (.list (xs.map PyData.str)) := lay_lst fun d hd => by
  obtain ⟨x, hx, rfl⟩ := List.mem_map.mp hd
  exact lay_str (h x hx)
theorem name_nm {P : List Blk} (ok : OkP P) {n : Str} (h : n ∈ P.map (·.name)) : NameOk n := by
  obtain ⟨b, hb, rfl⟩ := List.mem_map.mp h
  exact (ok.blk b hb).name
theorem lay_edg {P : List Blk} (ok : OkP P) : Lay 4 (edgD P) := lay_tup fun d hd => by
  obtain ⟨n, hn, rfl⟩ := List.mem_map.mp hd
  refine lay_tup fun d hd => ?_
  simp only [List.mem_cons, List.not_mem_nil, or_false] at hd
  rcases hd with rfl | rfl | rfl
  · exact (lay_str (name_nm ok (mem_nms.mp hn))).mono (by decide)
  · exact lay_strs fun t ht => name_nm ok (goals_in ok (mem_tg.mp ht))
  · exact lay_strs fun t ht => name_nm ok (mem_nms.mp (List.mem_filter.mp ht).1)
theorem rch_name {P : List Blk} {but : Option Str} (ok : OkP P) : ∀ n ∈ rchL P but, NameOk n := fun n hn => name_nm ok (((mem_rchL ok).mp hn).name ok)
theorem lay_rch {P : List Blk} (ok : OkP P) : Lay 2 (rchD P) := lay_strs (rch_name ok)
theorem lay_dom {P : List Blk} (ok : OkP P) : Lay 4 (domD P) := lay_tup fun d hd => by
  obtain ⟨n, hn, rfl⟩ := List.mem_map.mp hd
  refine lay_tup fun d hd => ?_
  simp only [List.mem_cons, List.not_mem_nil, or_false] at hd
  rcases hd with rfl | rfl
  · exact (lay_str (rch_name ok n hn)).mono (by decide)
  · exact lay_strs fun t ht => rch_name ok t (List.mem_filter.mp ht).1
/-! ### _law_ways -/
def spWays (c : Ct) : Sp := fun vs H Q _ => ∃ v e, vs = [v] ∧ Dp c.K H v (encE e) ∧ ∀ H' p, Gr H H' → SqT c.K H' p ((goals e).map V.str) → Q (.ref p) H'
theorem sc_ways : FnScope ["_law_end"] ["_law_end"] (defScope s_law_ways) := ⟨rfl, rfl, rfl, by decide +kernel, rfl, by decide +kernel, by decide +kernel⟩
theorem ok_ways (D : Df c "_law_ways" s_law_ways) : Ok c "_law_ways" 1 ["_law_end"] (spWays c) := by
  refine df_ok D sc_ways (fun vs H Q E h => ?_) (fun _ _ _ _ _ _ us hl => match us, hl with | [_], _ => rfl) fun f cd A outer s H vs Q E hr h => ?_
  · obtain ⟨v, e, rfl, _⟩ := h
    rfl
  · obtain ⟨v, e, rfl, hv, q⟩ := h
    refine ⟨_, pss_one (ps_ret (pe_ifExp (pt_cmpR op_eq (pe_ix ix_tup (pv 0) pe_int (fun _ _ => rfl)) pe_str (nomark _)) (pe_slice sl_tup (pv 0) (po_some pe_int) po_none) (pe_slice sl_tup (pv 0) (po_some pe_int) po_none))), ?_⟩
    obtain ⟨a, rfl, sq⟩ := end_at hv
    cases e with
    | go b =>
      refine ⟨.ref a, rfl, a, _, 0, .str "go", rfl, rfl, sq, atI_nat (j := 0) rfl, rfl, _, rfl, ite2 (fun e => ?_) fun e => absurd (decide_eq_true rfl) e⟩
      refine ⟨.ref a, rfl, 1, rfl, a, _, rfl, sq, cut_part _ _, fun T nT => ?_⟩
      rw [cutV_one]
      exact q _ T (.new nT) (.inl (.inl upd_same))
    | ite x b d =>
      refine ⟨.ref a, rfl, a, _, 0, .str "if", rfl, rfl, sq, atI_nat (j := 0) rfl, rfl, _, rfl, ite2 (fun e => absurd (V.str.inj (of_decide_eq_true e)) (by decide +kernel)) fun e => ?_⟩
      refine ⟨.ref a, rfl, 2, rfl, a, _, rfl, sq, cut_some (k := 2) (by decide) (Nat.succ_pos 3), fun T nT => ?_⟩
      have e9 : cutV [V.str "if", .str x, .str b, .str d] (some ((2 : Nat) : Int)) none = [.str b, .str d] := cutV_at (k := 2) (Nat.le_add_left 2 2)
      have h : (upd H T (.tup (cutV [V.str "if", .str x, .str b, .str d] (some ((2 : Nat) : Int)) none))) T = some (.tup [V.str b, .str d]) := by rw [upd_same, e9]
      exact q _ T (.new nT) (.inl (.inl h))
    | stop =>
      refine ⟨.ref a, rfl, a, _, 0, .str "stop", rfl, rfl, sq, atI_nat (j := 0) rfl, rfl, _, rfl, ite2 (fun e => absurd (V.str.inj (of_decide_eq_true e)) (by decide +kernel)) fun e => ?_⟩
      refine ⟨.ref a, rfl, 2, rfl, a, _, rfl, sq, cut_some (k := 2) (by decide) (Nat.succ_pos 0), fun T nT => ?_⟩
      have e9 : cutV [V.str "stop"] (some 2) none = [] := by decide +kernel
      have h : (upd H T (.tup (cutV [V.str "stop"] (some 2) none))) T = some (.tup ([] : List V)) := by rw [upd_same, e9]
      exact q _ T (.new nT) (.inl (.inl h))
end Pm
set_option maxHeartbeats 4000000
namespace Pm
open PySem PySem.Spec PyProof.Rows L2 GxR GX
variable {c : Ct}
/-! ### _law_reached -/
def EnsAt (c : Ct) (H0 H : Hp) (D : Addr) (P : List Blk) : Prop := ∃ kvs, H D = some (.dK kvs) ∧ ∀ n ∈ P.map (·.name), ∃ u, valV kvs (Sum.inr n) = some u ∧ Dp c.K H0 u (encE (enOf P n))
theorem EnsAt.get {H0 H : Hp} {D : Addr} {P : List Blk} {n : Str} (h : EnsAt c H0 H D P) (hn : n ∈ P.map (·.name)) : ∃ u, DGet H D (.str n) (some u) ∧ Dp c.K H0 u (encE (enOf P n)) := by
  obtain ⟨kvs, h1, h2⟩ := h
  obtain ⟨u, a, b⟩ := h2 n hn
  refine ⟨u, ?_, b⟩
  have := DGet.k (k := Sum.inr n) h1
  rw [a] at this
  exact this
theorem EnsAt.gr {H0 H H' : Hp} {D : Addr} {P : List Blk} (g : Gr H H') (h : EnsAt c H0 H D P) : EnsAt c H0 H' D P := by
  obtain ⟨kvs, h1, h2⟩ := h
  exact ⟨kvs, g.keep h1 (fun _ z => nomatch z), h2⟩
theorem paired_keys {K : PySem.W.Frag} {H : Hp} : ∀ {bs : List Blk} {kvs : List (Key × V)}, Paired (fun (b : Blk) (kv : Key × V) => kv.1 = Sum.inr b.name ∧ Dp K H kv.2 (encE b.en)) bs kvs → kvs.map (·.1) = bs.map (fun b => Sum.inr b.name)
  | _, _, .nil => rfl
  | _, _, .cons r t => by rw [List.map_cons, List.map_cons, r.1, paired_keys t]
theorem paired_mem {K : PySem.W.Frag} {H : Hp} : ∀ {bs : List Blk} {kvs : List (Key × V)} {b : Blk}, Paired (fun (b : Blk) (kv : Key × V) => kv.1 = Sum.inr b.name ∧ Dp K H kv.2 (encE b.en)) bs kvs → b ∈ bs → ∃ u, (Sum.inr b.name, u) ∈ kvs ∧ Dp K H u (encE b.en)
  | _, _, _, .nil, h => by cases h
  | _, _, b, .cons (b := kv) r t, h => by
    rcases List.mem_cons.mp h with rfl | h
    · exact ⟨kv.2, by rw [← r.1]; exact List.mem_cons_self, r.2⟩
    · obtain ⟨u, a, d⟩ := paired_mem t h
      exact ⟨u, List.mem_cons_of_mem _ a, d⟩
def spLawReached (c : Ct) : Sp := fun vs H Q _ => ∃ v P but, vs = [v, butV but] ∧ Dp c.K H v (encP P) ∧ OkP P ∧ ∀ H' p, Gr H H' → H p = none → H' p = some (.lst ((rchL P but).map V.str)) → Q (.ref p) H'
abbrev nLR : List Str := ["_law_program_here", "_law_but", "_law_block", "_law_blocks", "_law_met", "_law_line", "_law_name"]
theorem sc_lr : FnScope nLR ["_law_program_here", "_law_but"] (defScope s_law_reached) := ⟨rfl, rfl, rfl, by decide +kernel, rfl, by decide +kernel, by decide +kernel⟩
structure Bl4 (c : Ct) : Prop extends Bl2 c where
  sorted : c.mg "sorted" = none
set_option maxHeartbeats 8000000 in
theorem ok_lr (D : Df c "_law_reached" s_law_reached) (B : Bl4 c) (O : Ok c "_law_ways" 1 ["_law_end"] (spWays c)) : Ok c "_law_reached" 2 ["_law_program_here", "_law_but"] (spLawReached c) := by
  refine df_ok D sc_lr (fun vs H Q E h => ?_) (fun _ _ _ _ _ _ us hl => match us, hl with | [_, _], _ => rfl) fun f cd A outer s H vs Q E hr h => ?_
  · obtain ⟨v, P, but, rfl, _⟩ := h
    rfl
  · obtain ⟨v, P, but, rfl, hv, okP, q⟩ := h
    have nd := sc_lr.nd
    refine ⟨_, pss_cons (ps_set (i := 3) nd rfl (.inl rfl) (pe_callTy (call_dictP rfl) (by rfl) B.dict (by decide +kernel) (pa_cons (pe_lc (own := [("_law_block", 2)]) (g := gName 2) (tt := tYes) (te := tTup (tCons (tOp (rIxT c.K) (tVar 2) (tC (.int 0))) (tCons (tOp (rIxT c.K) (tVar 2) (tC (.int 2))) tNil))) rfl nd (pi_tup (pv 0)) (blkOk_by (N := nLR) (sc := defScope s_law_reached) (by decide +kernel)) (fun _ _ _ _ _ => pg_name (i := 2) nd rfl (.inl rfl)) (fun _ _ _ _ _ => pts_nil) (fun _ _ _ _ _ => pe_tup (pa_cons (pe_ix ix_tup (pv 2) pe_int (fun _ _ => rfl)) (pa_cons (pe_ix ix_tup (pv 2) pe_int (fun _ _ => rfl)) pa_nil)))) pa_nil)))
      (pss_cons (ps_par (i := 4) (j := 5) (by rfl) nd rfl rfl (by decide) rfl rfl (pa_cons (pe_lst pa_nil) (pa_cons (pe_lst (pa_cons (pe_ix ix_tup (pe_ix ix_tup (pv 0) pe_int (fun _ _ => rfl)) pe_int (fun _ _ => rfl)) pa_nil)) pa_nil)) (by rfl))
      (pss_cons (ps_while PassesOwn.never (pt_cmpR (op_neD hr.units) (pv 5) (pe_lst pa_nil) (nomark _))
        (pss_cons (ps_set (i := 6) nd rfl (.inl rfl) (pe_bm0 PySem.F.plainAttrs_list PySem.F.slot_list_pop PySem.F.type_list_pop mt_pop (pv 5)))
        (pss_one (ps_if (PW.pt (pw_and (pt_cmpR op_notIn_seq (pv 6) (pv 4) (by rfl)) (pw_and1 (pt_cmpR op_ne (pv 6) (pv 1) (nomark _)))))
          (pss_cons (ps_expr (pe_bm PySem.F.plainAttrs_list PySem.F.slot_list_append PySem.F.type_list_append mt_append (pv 4) (pa_cons (pv 6) pa_nil)))
          (pss_one (ps_expr (pe_bm PySem.F.plainAttrs_list PySem.F.slot_list_extend PySem.F.type_list_extend mt_extend (pv 5) (pa_cons (pe_callTy call_list_of (by rfl) B.list (by decide +kernel) (pa_cons (pe_f c O hr (pa_cons (pe_dget (hu_of hr) (pv 3) (pv 6) (fun _ _ => rfl)) pa_nil)) pa_nil)) pa_nil)))))
          pss_nil))))
      (pss_one (ps_ret (pe_callB cr_sortedS (by rfl) B.sorted (by decide +kernel) (pa_cons (pv 4) pa_nil)))))), ?_⟩
    obtain ⟨pa, xs, rfl, hPa, hPx⟩ := dp_tup hv
    have lenP : xs.length = P.length := by rw [dpAll_length hPx, List.length_map]
    have fP := okP.few
    refine ⟨.ref pa, rfl, pa, rfl, ⟨_, hPa⟩, fun Dl nDl => ?_⟩
    refine lc_tup (xs := xs) (fun i H' => Gr H H' ∧ ∃ ps kvs, H' Dl = some (.lst (ps.map V.ref)) ∧ PairsAt (hide H' Dl) ps kvs ∧ Paired (fun (b : Blk) (kv : Key × V) => kv.1 = Sum.inr b.name ∧ Dp c.K H kv.2 (encE b.en)) (P.take i) kvs) ⟨(Gr.refl _).put nDl, [], [], upd_same, .nil, .nil⟩ (fun i H' _ ⟨hg, _⟩ => hg.sqT hPa) (fun i x H1 hx ⟨g1, ps, kvs, hD1, hp1, hk1⟩ => ?_) fun H1 ⟨g1, ps, kvs, hD1, hp1, hk1⟩ => ?_
    · obtain ⟨d, hd, hdp⟩ := dpAll_get hPx hx
      obtain ⟨b, hb, rfl⟩ := get_encB hd
      have hi : i < P.length := (List.getElem?_eq_some_iff.mp hb).1
      obtain ⟨ba, bp, en, ys, rfl, s1, s2, s3, s4⟩ := blk_at hdp
      have lp : ps.length ≤ 12 := by
        have l0 := hp1.length
        have l1 := hk1.length
        rw [List.length_take] at l1
        omega
      refine ⟨rfl, .ref ba, rfl, ba, _, 0, .str b.name, rfl, rfl, g1.sqT s1, atI_nat (j := 0) rfl, .ref ba, rfl, ba, _, 2, en, rfl, rfl, g1.sqT s1, atI_nat (j := 2) rfl, by show 2 ≤ sizeLine; decide, fun t nt => ?_⟩
      have ntD : Dl ≠ t := ne_of_none hD1 nt
      have gt : Gr H1 (upd H1 t (.tup [.str b.name, en])) := .new nt
      refine ⟨ps.map V.ref, gt.lst hD1, by rw [List.length_map]; exact small1000 (by omega), (g1.trans gt).put nDl (.lst (gt.lst hD1)), ps ++ [t], kvs ++ [(Sum.inr b.name, en)], by rw [upd_same, List.map_append]; rfl, ?_, ?_⟩
      · rw [hide_upd]
        exact (hp1.gr (hide_gr gt (.lst (gt.lst hD1)))).snoc (by rw [hide_ne ntD.symm, upd_same]; rfl)
      · rw [List.take_add_one, hb]
        exact hk1.snoc ⟨rfl, s4⟩
    rw [lenP, List.take_of_length_le (Nat.le_refl _)] at hk1
    refine ⟨Dl, ps, kvs, rfl, .inl (.inl hD1), (hp1.gr (hide_to _ _)).sq, fun d nd1 => ?_⟩
    have g2 : Gr H (upd H1 d (.dK (mergeK [] kvs))) := g1.trans (.new nd1)
    have ens : EnsAt c H (upd H1 d (.dK (mergeK [] kvs))) d P := by
      refine ⟨_, upd_same, fun n hn => ?_⟩
      obtain ⟨b, hb, rfl⟩ := List.mem_map.mp hn
      obtain ⟨u, hu, du⟩ := paired_mem hk1 hb
      refine ⟨u, merge_in ?_ hu, by rw [enOf_mem okP hb]; exact du⟩
      rw [paired_keys hk1]
      have e1 : (P.map fun b => (Sum.inr b.name : Key)) = (P.map (·.name)).map Sum.inr := by rw [List.map_map]; rfl
      rw [e1]
      exact List.Pairwise.map _ (fun a b h z => h (Sum.inr.inj z)) okP.nd
    generalize upd H1 d (.dK (mergeK [] kvs)) = H2 at g2 ens
    obtain ⟨pa', xs', ba, rest, f0, e1, hPa', hBa, hf⟩ := first_at okP hv
    cases e1
    refine ⟨by show 0 ≤ sizeLine; decide, fun fa nf => ?_⟩
    have g3 : Gr H2 (upd H2 fa (.lst [])) := .new nf
    refine ⟨.ref pa, rfl, pa, _, 0, .ref ba, rfl, rfl, (g2.trans g3).sqT hPa', atI_nat (j := 0) rfl, ba, _, 0, .str f0, rfl, rfl, (g2.trans g3).sqT hBa, atI_nat (j := 0) rfl, by show 1 ≤ sizeLine; decide, fun la nl => ⟨_, _, rfl, ?_⟩⟩
    have nfl : fa ≠ la := fun z => by rw [← z, upd_same] at nl; cases nl
    have nl1 : H2 la = none := by rw [upd_ne (Ne.symm nfl)] at nl; exact nl
    refine ⟨fun m σ H' => ∃ nv, σ = [some (.ref pa), some (butV but), none, some (.ref d), some (.ref fa), some (.ref la), nv] ∧ RI P but H2 fa la m H',
      ⟨_, none, rfl, [], [f0], rfl, ((Gr.refl _).put nf).put nl1 (.free nl), by rw [upd_ne nfl, upd_same]; rfl, upd_same, .zero hf, by simp⟩, ?_⟩
    rintro m σ H4 ⟨nv, rfl, fs, ls, rfl, g4, hfa, hla, wk, hll⟩
    have lf := wk.few okP
    have lnm : ∀ n ∈ ls, NameOk n := fun n hn => name_nm okP (wk.lft n hn).1
    refine ⟨.ref la, rfl, Nat.zero_le _, fun l nl9 => ⟨_, _, .lst (.inl (.inl (Gr.lst (.new nl9) hla))) (dpAll_strs ls), .lst (.inl (.inl upd_same)) .nil, (lay_strsL lnm).shaped (by decide), (lay_strsL (xs := []) (fun x hx => by simp at hx)).shaped (by decide), _, rfl, ?_⟩⟩
    have g45 : Gr H4 (upd H4 l (.lst [])) := .new nl9
    have g5 : Gr H2 (upd H4 l (.lst [])) := g4.trans g45
    have hfa5 := g45.lst hfa
    have hla5 := g45.lst hla
    generalize upd H4 l (.lst []) = H5 at g5 hfa5 hla5
    clear g45
    by_cases hl : ls = []
    · subst hl
      refine iteF ⟨.ref fa, rfl, fa, fs, rfl, .inl (.inl hfa5), by omega, fun ys p pm so np => ?_⟩
      have e : ys = rchL P but := (eq_srt pm so).trans (srt_rch okP wk.nd (fun n => wk.done n))
      subst e
      exact q _ p ((g2.trans g5).trans (.new np)) ((g2.trans g5).free np) upd_same
    · obtain ⟨ls', n, rfl⟩ : ∃ ls' n, ls = ls' ++ [n] := ⟨ls.dropLast, ls.getLast hl, (List.dropLast_concat_getLast hl).symm⟩
      have e0 : (!PyData.eqv (.list ((ls' ++ [n]).map PyData.str)) (.list [])) = true := by
        rw [List.map_append]
        cases ls' with
        | nil => rfl
        | cons x r => rfl
      rw [e0]
      refine iteT ⟨fun σ' H' => ∃ m', m' < 3 * (P.length - fs.length) + (ls' ++ [n]).length ∧ ∃ nv, σ' = [some (.ref pa), some (butV but), none, some (.ref d), some (.ref fa), some (.ref la), nv] ∧ RI P but H2 fa la m' H', fun σ' H' h => h, ?_⟩
      have elast : ((ls' ++ [n]).map V.str)[((ls' ++ [n]).map V.str).length - 1]? = some (V.str n) := by simp
      have edrop : ((ls' ++ [n]).map V.str).dropLast = ls'.map V.str := by rw [List.map_append]; simp
      refine ⟨.ref la, rfl, .inl ⟨rfl, _, .inl (.inl hla5)⟩, la, _, .str n, rfl, rfl, hla5, elast, ?_⟩
      rw [edrop]
      have g6 : Gr H2 (upd H5 la (.lst (ls'.map V.str))) := g5.put nl1 (.lst hla5)
      have hfa6 : (upd H5 la (.lst (ls'.map V.str))) fa = some (.lst (fs.map V.str)) := by rw [upd_ne nfl]; exact hfa5
      have hla6 : (upd H5 la (.lst (ls'.map V.str))) la = some (.lst (ls'.map V.str)) := upd_same
      generalize upd H5 la (.lst (ls'.map V.str)) = H6 at g6 hfa6 hla6
      have hll' : ls'.length ≤ 2 * fs.length := by rw [List.length_append, List.length_singleton] at hll; omega
      have skip : (n ∈ fs ∨ some n = but) → ∃ m', m' < 3 * (P.length - fs.length) + (ls' ++ [n]).length ∧ ∃ nv, [some (V.ref pa), some (butV but), none, some (.ref d), some (.ref fa), some (.ref la), some (.str n)] = [some (.ref pa), some (butV but), none, some (.ref d), some (.ref fa), some (.ref la), nv] ∧ RI P but H2 fa la m' H6 := fun h =>
        ⟨_, by rw [List.length_append, List.length_singleton]; exact Nat.lt_succ_self _, _, rfl, fs, ls', rfl, g6, hfa6, hla6, wk.skip h, by omega⟩
      refine ⟨.str n, rfl, .ref fa, rfl, fa, _, rfl, .inl (.inl (.inl hfa6)), rfl, flat_words _, _, rfl, ?_⟩
      show (if (!inV (.str n) (fs.map V.str)) = true then _ else _)
      rw [inV_str]
      by_cases hn : n ∈ fs
      · rw [decide_eq_true hn]
        exact iteF (skip (.inl hn))
      · rw [decide_eq_false hn]
        refine iteT ⟨.str n, rfl, butV but, rfl, by cases but <;> rfl, _, rfl, ite2 (fun e => ?_) fun e => ?_⟩
        · have nb := (ne_but n but).mp e
          have hnP := (wk.lft n (by simp)).1
          refine ⟨.ref fa, rfl, .inl ⟨rfl, _, .inl (.inl hfa6)⟩, .str n, rfl, fa, _, _, rfl, rfl, hfa6, by rw [List.length_map]; exact small1000 (by omega), ?_⟩
          have g7 : Gr H2 (upd H6 fa (.lst (fs.map V.str ++ [.str n]))) := g6.put nf (.lst hfa6)
          have hfa7 : (upd H6 fa (.lst (fs.map V.str ++ [.str n]))) fa = some (.lst ((fs ++ [n]).map V.str)) := by rw [upd_same, List.map_append]; rfl
          have hla7 : (upd H6 fa (.lst (fs.map V.str ++ [.str n]))) la = some (.lst (ls'.map V.str)) := by rw [upd_ne (Ne.symm nfl)]; exact hla6
          generalize upd H6 fa (.lst (fs.map V.str ++ [.str n])) = H7 at g7 hfa7 hla7
          obtain ⟨u, dg, du⟩ := (ens.gr g7).get hnP
          refine ⟨.ref la, rfl, .inl ⟨rfl, _, .inl (.inl hla7)⟩, .ref d, rfl, .str n, rfl, d, u, rfl, dg, u, enOf P n, rfl, dp_gr (g2.trans g7) du, fun H8 p8 g8 h8 => ?_⟩
          refine ⟨p8, _, rfl, .inr h8, fun l9 n9 => ?_⟩
          have g79 : Gr H7 (upd H8 l9 (.lst ((goals (enOf P n)).map V.str))) := g8.trans (.new n9)
          have hla9 := g79.lst hla7
          have lt := goals_len (enOf P n)
          refine ⟨la, l9, _, _, rfl, rfl, hla9, upd_same, by rw [List.length_map, List.length_map]; exact Nat.le_of_lt (small1000 (by omega)), ?_⟩
          have wk' := wk.add okP hn nb (ts := goals (enOf P n)) fun t => Iff.rfl
          have lf' := wk'.few okP
          rw [List.length_append, List.length_singleton] at lf'
          refine ⟨3 * (P.length - (fs ++ [n]).length) + (ls' ++ goals (enOf P n)).length, ?_, _, rfl, fs ++ [n], ls' ++ goals (enOf P n), rfl, (g7.trans g79).put nl1 (.lst hla9), by rw [upd_ne nfl]; exact g79.lst hfa7, by rw [upd_same, List.map_append], wk', ?_⟩
          · simp only [List.length_append, List.length_singleton]
            omega
          · simp only [List.length_append, List.length_singleton]
            omega
        · refine skip (.inr ?_)
          exact Classical.byContradiction fun z => e ((ne_but n but).mpr z)
end Pm
set_option maxHeartbeats 4000000
namespace Pm
open PySem PySem.Spec PyProof.Rows L2 GxR GX
variable {c : Ct}
/-! ### law k02 -/
def spLaw (c : Ct) : Sp := fun vs H Q _ => ∃ a : Addr, vs = [.ref a] ∧ ScrAt c H a ∧ Tabs c.ts H ∧ ∀ H', Q (.bl true) H'
abbrev nLaw : List Str := ["_law_script", "_law_program_here", "_law_ways_here", "_law_name", "_law_steps", "_law_end", "_law_rows", "_law_one", "_law_reached_here", "_law_some", "_law_row"]
theorem sc_law : FnScope nLaw ["_law_script"] (defScope s_law) := ⟨rfl, rfl, rfl, by decide +kernel, rfl, by decide +kernel, by decide +kernel⟩
/-- the law's def itself, at its place -/
theorem df_okE {x : Str} {st : Stmt} {N ps : List Str} {k : Nat} {sp : Sp} {f : Addr} {fd : FuncData} {cd : Addr} (D : DefAt c x st [] f fd cd) (S : FnScope N ps (defScope st)) (len : ∀ vs H Q E, sp vs H Q E → vs.length = ps.length)
    (hbody : ∀ (A : Around) (outer : List Env) (s : Shared) (H : Hp) (vs : List V) (Q : VK) (E : XK), Room k (A.deeper (envOfC x (defScope st) s.heap.objs.size f (.ref cd))) → sp vs H Q E →
      ∃ t, PSs (cxOf CX0 c.P c.w c.K c.mg c.base N x (defScope st) f (.ref cd) A outer s H E).nox (defBody st) t ∧ t { nx := fun _ H' => Q .non H', rt := Q } (start N vs) H) : FnOk c.P c.w c.K c.mg c.base CX0 (k + 1) f fd ps sp := by
  obtain ⟨⟨oc, od, dV, kV, doc, pm, an, ct, osl, rfl, lk, hcd, hD, _⟩, kp, hm⟩ := D
  refine fn_of lk hcd S len fun A outer s H vs Q E hr hsp => ?_
  obtain ⟨t, h, q⟩ := hbody A outer s H vs Q E hr hsp
  exact ⟨t, h.nox, q⟩
structure LawIn (c : Ct) : Prop where
  B : Bl4 c
  prog : Ok c "_law_program" 3 ["_law_script", "_law_at"] (spProgram c)
  ways : Ok c "_law_ways" 1 ["_law_end"] (spWays c)
  lr : Ok c "_law_reached" 2 ["_law_program_here", "_law_but"] (spLawReached c)
  fact : Ok c "fact" 11 ["program", "name"] (spFact c)
/-- the dict at D has the names ns, each with the list f of it -/
def LsAt (H : Hp) (D : Addr) (ns : List Str) (f : Str → List Str) : Prop := ∃ kvs, H D = some (.dK kvs) ∧ kvs.map (·.1) = ns.map Sum.inr ∧ ∀ n ∈ ns, ∃ t, valV kvs (Sum.inr n) = some (.ref t) ∧ H t = some (.lst ((f n).map V.str))
theorem LsAt.gr {H H' : Hp} {D : Addr} {ns : List Str} {f : Str → List Str} (g : Gr H H') (h : LsAt H D ns f) : LsAt H' D ns f := by
  obtain ⟨kvs, h1, h2, h3⟩ := h
  refine ⟨kvs, g.keep h1 (fun _ z => nomatch z), h2, fun n hn => ?_⟩
  obtain ⟨t, a, b⟩ := h3 n hn
  exact ⟨t, a, g.lst b⟩
theorem LsAt.get {H : Hp} {D : Addr} {ns : List Str} {f : Str → List Str} {n : Str} (h : LsAt H D ns f) (hn : n ∈ ns) : ∃ t, DGet H D (.str n) (some (.ref t)) ∧ H t = some (.lst ((f n).map V.str)) := by
  obtain ⟨kvs, h1, h2, h3⟩ := h
  obtain ⟨t, a, b⟩ := h3 n hn
  refine ⟨t, ?_, b⟩
  have := DGet.k (k := Sum.inr n) h1
  rw [a] at this
  exact this
theorem LsAt.add {H : Hp} {D : Addr} {ns : List Str} {f : Str → List Str} {n : Str} {t : Addr} (h : LsAt H D ns f) (hn : n ∉ ns) (ht : H t = some (.lst ((f n).map V.str))) : ∃ kvs, H D = some (.dK kvs) ∧ kvs.length = ns.length ∧ LsAt (upd H D (.dK (putK kvs (Sum.inr n) (.ref t)))) D (ns ++ [n]) f := by
  obtain ⟨kvs, h1, h2, h3⟩ := h
  have hl : kvs.length = ns.length := by
    have := congrArg List.length h2
    simpa using this
  have nk : Sum.inr n ∉ kvs.map (·.1) := fun z => by
    rw [h2] at z
    obtain ⟨m, hm, e⟩ := List.mem_map.mp z
    cases e
    exact hn hm
  refine ⟨kvs, h1, hl, _, upd_same, ?_, fun m hm => ?_⟩
  · rw [putK_new _ (valV_none nk), List.map_append, List.map_append, h2]
    rfl
  · rw [valV_put]
    by_cases e : m = n
    · subst e
      exact ⟨t, by rw [if_pos rfl], by rw [upd_ne (ne_of ht h1 fun z => nomatch z)]; exact ht⟩
    · obtain ⟨t', a, b⟩ := h3 m (by
        rcases List.mem_append.mp hm with z | z
        · exact z
        · exact absurd (List.mem_singleton.mp z) e)
      exact ⟨t', by rw [if_neg (fun z => e (Sum.inr.inj z))]; exact a, by rw [upd_ne (ne_of b h1 fun z => nomatch z)]; exact b⟩
theorem noL_strs (xs : List Str) : noL (strsT xs) := noLs_of fun d hd => by
  obtain ⟨x, _, rfl⟩ := List.mem_map.mp hd
  exact True.intro
theorem noL_edg (P : List Blk) (n : Str) : noL (edgRow P n) := ⟨True.intro, noL_strs _, noL_strs _, True.intro⟩
theorem noL_dom (P : List Blk) (n : Str) : noL (domRow P n) := ⟨True.intro, noL_strs _, True.intro⟩
/-- the rows that were made so far stand in the list at rw -/
def RowsIn (c : Ct) (H : Hp) (rw : Addr) (ds : List PyData) : Prop := ∃ vs, H rw = some (.lst vs) ∧ DpAll c.K (hide H rw) vs ds
theorem RowsIn.gr {H H' : Hp} {rw : Addr} {ds : List PyData} (g : Gr H H') (h : RowsIn c H rw ds) : RowsIn c H' rw ds := by
  obtain ⟨vs, h1, h2⟩ := h
  exact ⟨vs, g.lst h1, dpAll_gr (hide_gr g (.lst (g.lst h1))) h2⟩
theorem RowsIn.add {H : Hp} {rw : Addr} {ds : List PyData} {v : V} {d : PyData} (h : RowsIn c H rw ds) (hn : noL d) (hd : Dp c.K H v d) : ∃ vs, H rw = some (.lst vs) ∧ vs.length = ds.length ∧ RowsIn c (upd H rw (.lst (vs ++ [v]))) rw (ds ++ [d]) := by
  obtain ⟨vs, h1, h2⟩ := h
  refine ⟨vs, h1, dpAll_length h2, _, upd_same, ?_⟩
  rw [hide_upd]
  exact dpAll_snoc (dp_hide h1 hn hd) h2
theorem RowsIn.all {H : Hp} {rw : Addr} {ds : List PyData} (h : RowsIn c H rw ds) : ∃ vs, H rw = some (.lst vs) ∧ DpAll c.K H vs ds := by
  obtain ⟨vs, h1, h2⟩ := h
  exact ⟨vs, h1, dpAll_gr (hide_to H rw) h2⟩
set_option maxHeartbeats 8000000 in
open Classical in
theorem ok_law {f : Addr} {fd : FuncData} {cd : Addr} (D : DefAt c "law" s_law [] f fd cd) (R : LawIn c) : FnOk c.P c.w c.K c.mg c.base CX0 12 f fd ["_law_script"] (spLaw c) := by
  obtain ⟨B, O1, O2, O3, O4⟩ := R
  refine df_okE D sc_law (fun vs H Q E h => ?_) fun A outer s H vs Q E hr h => ?_
  · obtain ⟨a, rfl, _⟩ := h
    rfl
  · obtain ⟨a, rfl, hS, hT, q⟩ := h
    have nd := sc_law.nd
    have hu := hu_of hr
    have r1 : Room 1 _ := hr.mono (by decide)
    have r2 : Room 2 _ := hr.mono (by decide)
    have r3 : Room 3 _ := hr.mono (by decide)
    refine ⟨_, pss_cons (ps_set (i := 1) nd rfl (.inr rfl) (pe_f c O1 r3 (pa_cons (pv 0) (pa_cons pe_int pa_nil))))
      (pss_cons (ps_set (i := 2) nd rfl (.inr rfl) pe_dnewK)
      (pss_cons (ps_for PassesOwn.never rfl (pi_tup (pv 1)) (pg_tup rfl (pgs_cons (pg_name (i := 3) nd rfl (.inr rfl)) (pgs_cons (pg_name (i := 4) nd rfl (.inl rfl)) (pgs_cons (pg_name (i := 5) nd rfl (.inl rfl)) pgs_nil))))
        (pss_one (ps_dput hu (pv 2) (pv 3) (pe_sortSet rfl B.sorted B.set (pe_f c O2 r1 (pa_cons (pv 5) pa_nil))) (by rfl))))
      (pss_cons (ps_set (i := 6) nd rfl (.inl rfl) (pe_lst pa_nil))
      (pss_cons (ps_for PassesOwn.never rfl (pi_list (pe_callB (call_sortedD rfl) (by rfl) B.sorted (by decide +kernel) (pa_cons (pv 2) pa_nil))) (pg_name (i := 3) nd rfl (.inr rfl))
        (pss_one (ps_expr (pe_bm PySem.F.plainAttrs_list PySem.F.slot_list_append PySem.F.type_list_append mt_append (pv 6) (pa_cons (pe_tup (pa_cons (pv 3) (pa_cons (pe_tupleOf (by rfl) B.tuple (pe_dget hu (pv 2) (pv 3) (fun _ _ => rfl))) (pa_cons (pe_tupleOf (by rfl) B.tuple
          (pe_lc (own := [("_law_one", 7)]) (g := gName 7) (tt := tB (tOp (rIn c.K false) (tVar 3) (tDGet (tVar 2) (tVar 7)))) rfl nd (pi_list (pe_callB (call_sortedD rfl) (by rfl) B.sorted (by decide +kernel) (pa_cons (pv 2) pa_nil))) (blkOk_by (N := nLaw) (sc := defScope s_law) (by decide +kernel)) (fun _ _ _ _ _ => pg_name (i := 7) nd rfl (.inl rfl))
            (fun _ _ _ _ _ => pts_one (pt_cmpR op_in_seq (pv 3) (pe_dget hu (pv 2) (pv 7) (fun _ _ => rfl)) (by rfl))) (fun _ _ _ _ _ => pv 7))) pa_nil)))) pa_nil)))))
      (pss_cons (ps_if (pt_cmpR (op_neD hr.units) (pe_f c O4 hr (pa_cons (pv 1) (pa_cons pe_str pa_nil))) (pe_tupleOf (by rfl) B.tuple (pv 6)) (nomark _)) (pss_one (ps_ret pe_bl)) pss_nil)
      (pss_cons (ps_set (i := 8) nd rfl (.inl rfl) (pe_f c O3 r2 (pa_cons (pv 1) (pa_cons pe_non pa_nil))))
      (pss_cons (ps_if (pt_cmpR (op_neD hr.units) (pe_f c O4 hr (pa_cons (pv 1) (pa_cons pe_str pa_nil))) (pe_tupleOf (by rfl) B.tuple (pv 8)) (nomark _)) (pss_one (ps_ret pe_bl)) pss_nil)
      (pss_cons (ps_set (i := 6) nd rfl (.inl rfl) (pe_lst pa_nil))
      (pss_cons (ps_for PassesOwn.never rfl (pi_list (pv 8)) (pg_name (i := 3) nd rfl (.inr rfl))
        (pss_cons (ps_setLc (i := 9) (own := [("_law_one", 7)]) (g := gName 7) (tt := tB (tOp (rIn c.K true) (tVar 3) (tCall (spLawReached c) [] E0 (tCons (tVar 1) (tCons (tVar 7) tNil))))) rfl nd rfl rfl (sw_true rfl rfl rfl (by decide +kernel)) (pi_list (pv 8)) (blkOk_by (N := nLaw) (sc := defScope s_law) (by decide +kernel)) (fun _ _ _ _ _ => pg_name (i := 7) nd rfl (.inl rfl))
            (fun _ _ _ _ _ => pts_one (pt_cmpR op_notIn_seq (pv 3) (pe_f c O3 r2 (pa_cons (pv 1) (pa_cons (pv 7) pa_nil))) (by rfl))) (fun _ _ _ _ _ => pv 7))
        (pss_one (ps_expr (pe_bm PySem.F.plainAttrs_list PySem.F.slot_list_append PySem.F.type_list_append mt_append (pv 6) (pa_cons (pe_tup (pa_cons (pv 3) (pa_cons (pe_tupleOf (by rfl) B.tuple (pv 9)) pa_nil))) pa_nil))))))
      (pss_cons (ps_if (pt_cmpR (op_neD hr.units) (pe_f c O4 hr (pa_cons (pv 1) (pa_cons pe_str pa_nil))) (pe_tupleOf (by rfl) B.tuple (pv 6)) (nomark _)) (pss_one (ps_ret pe_bl)) pss_nil)
      (pss_one (ps_ret (pe_and (pe_cmpR (op_eqD hr.units) (pe_lc (own := [("_law_row", 10)]) (g := gName 10) (tt := tYes) (te := tOp (rIxT c.K) (tVar 10) (tC (.int 0))) rfl nd (pi_tup (pe_f c O4 hr (pa_cons (pv 1) (pa_cons pe_str pa_nil)))) (blkOk_by (N := nLaw) (sc := defScope s_law) (by decide +kernel)) (fun _ _ _ _ _ => pg_name (i := 10) nd rfl (.inl rfl)) (fun _ _ _ _ _ => pts_nil) (fun _ _ _ _ _ => pe_ix ix_tup (pv 10) pe_int (fun _ _ => rfl))) (pv 8) (nomark _))
        (pe_one (pe_cmpR op_in_seq (pe_ix ix_tup (pe_ix ix_tup (pv 1) pe_int (fun _ _ => rfl)) pe_int (fun _ _ => rfl)) (pe_ix ix_tup (pe_ix ix_tup (pe_f c O4 hr (pa_cons (pv 1) (pa_cons pe_str pa_nil))) pe_int (fun _ _ => rfl)) pe_int (fun _ _ => rfl)) (by rfl)))))))))))))))), ?_⟩
    refine ⟨.ref a, rfl, a, 0, rfl, hS, by decide, fun v H1 P genP hv g1 => fun wd nw => ?_⟩
    have okP := genP.okP (by decide : 5 ≤ 16)
    have fP := okP.few
    obtain ⟨pa, xs, rfl, hPa, hPx⟩ := dp_tup hv
    have lenP : xs.length = P.length := by rw [dpAll_length hPx, List.length_map]
    have gw : Gr H1 (upd H1 wd (.dK [])) := .new nw
    refine ⟨.ref pa, rfl, pa, rfl, ⟨_, gw.sqT hPa⟩, ?_⟩
    refine for_tup (xs := xs) (fun i σ H' => ∃ nv sv ev, σ = [some (.ref a), some (.ref pa), some (.ref wd), nv, sv, ev, none, none, none, none, none] ∧ Gr H1 H' ∧ LsAt H' wd ((P.take i).map (·.name)) (tg P)) ⟨none, none, none, rfl, gw, [], upd_same, rfl, fun n hn => by simp at hn⟩ (fun i σ H' _ ⟨_, _, _, _, hg, _⟩ => hg.sqT hPa) (fun i x σ H' hx hPv => ?_) fun σ H4 hPv => ?_
    · obtain ⟨nv, sv, ev, rfl, hg, htab⟩ := hPv
      obtain ⟨d, hd, hdp⟩ := dpAll_get hPx hx
      obtain ⟨b, hb, rfl⟩ := get_encB hd
      have hbP := List.mem_of_getElem? hb
      have hi : i < P.length := (List.getElem?_eq_some_iff.mp hb).1
      obtain ⟨ba, bp, en, ys, rfl, s1, s2, s3, s4⟩ := blk_at hdp
      refine ⟨ba, _, rfl, hg.sqT s1, rfl, .str b.name, _, rfl, .ref bp, _, rfl, en, _, rfl, rfl, ?_⟩
      refine ⟨en, rfl, en, b.en, rfl, dp_gr hg s4, fun H2 p2 g2 h2 => ⟨p2, goals b.en, rfl, .inr h2, by have := goals_len b.en; omega, fun ys p3 pm so n3 => ?_⟩⟩
      have eys : ys = tg P b.name := by unfold tg; rw [enOf_mem okP hbP]; exact eq_srt pm so
      subst eys
      have g3 : Gr H' (upd H2 p3 (.lst ((tg P b.name).map V.str))) := g2.trans (.new n3)
      obtain ⟨kvs, k1, k2, k3⟩ := (htab.gr g3).add (n := b.name) (t := p3) (nm_nodup_take okP hb) upd_same
      refine ⟨.ref wd, rfl, .str b.name, rfl, wd, _, rfl, DPut.k (k := Sum.inr b.name) k1 (small1000 (by rw [k2, List.length_map, List.length_take]; omega)), _, _, _, rfl, (hg.trans g3).put nw (.dK k1), ?_⟩
      rw [List.take_add_one, hb, List.map_append]
      exact k3
    obtain ⟨nv, sv, ev, rfl, g4, tab⟩ := hPv
    rw [lenP, List.take_of_length_le (Nat.le_refl _)] at tab
    have lenN : (nms P).length ≤ 12 := by rw [nms_len]; exact fP
    have wd64 : (P.map (·.name)).length < 64 := by rw [List.length_map]; omega
    refine ⟨by show 0 ≤ sizeLine; decide, fun rw nr => ?_⟩
    have g5 : Gr H4 (upd H4 rw (.lst [])) := .new nr
    have rows5 : RowsIn c (upd H4 rw (.lst [])) rw [] := ⟨[], upd_same, .nil⟩
    generalize upd H4 rw (.lst []) = H5 at g5 rows5
    obtain ⟨kvs5, k51, k52, k53⟩ := tab.gr g5
    refine ⟨.ref wd, rfl, wd, kvs5, P.map (·.name), rfl, .inl k51, k52, wd64, fun ys sl pm so ns => ?_⟩
    have eys : ys = nms P := eq_srt pm so
    subst eys
    have g6 : Gr H5 (upd H5 sl (.lst ((nms P).map V.str))) := .new ns
    have hsl6 : (upd H5 sl (.lst ((nms P).map V.str))) sl = some (.lst ((nms P).map V.str)) := upd_same
    have rows6 := rows5.gr g6
    have nrs : rw ≠ sl := by
      obtain ⟨_, h, _⟩ := rows5
      exact ne_of_none h ns
    generalize upd H5 sl (.lst ((nms P).map V.str)) = H6 at g6 hsl6 rows6
    have g46 := g5.trans g6
    refine ⟨sl, rfl, ⟨_, .inl (.inl hsl6)⟩, ?_⟩
    refine for_list (xs := (nms P).map V.str) (fun i σ H' => ∃ nv, σ = [some (.ref a), some (.ref pa), some (.ref wd), nv, sv, ev, some (.ref rw), none, none, none, none] ∧ Gr H4 H' ∧ H' sl = some (.lst ((nms P).map V.str)) ∧ RowsIn c H' rw (((nms P).take i).map (edgRow P))) ⟨_, rfl, g46, hsl6, rows6⟩ (fun i σ H' _ ⟨_, _, _, h, _⟩ => .inl (.inl h)) (fun i x σ H7 hx hPv => ?_) fun σ H7 hPv => ?_
    · obtain ⟨nv', rfl, g7, hsl7, rows7⟩ := hPv
      obtain ⟨n, hn, rfl⟩ := get_str hx
      have hnP : n ∈ P.map (·.name) := mem_nms.mp (List.mem_of_getElem? hn)
      obtain ⟨t, dg, ht⟩ := (tab.gr g7).get hnP
      obtain ⟨vs7, hrw7, _⟩ := _root_.id rows7
      refine ⟨.ref rw, rfl, .inl ⟨rfl, _, .inl (.inl hrw7)⟩, .str n, rfl, .ref wd, rfl, .str n, rfl, wd, .ref t, rfl, dg, .inl ⟨t, _, rfl, .inl (.inl ht), fun q1 nq1 => ?_⟩⟩
      have g8 : Gr H7 (upd H7 q1 (.tup ((tg P n).map V.str))) := .new nq1
      have hq1 : (upd H7 q1 (.tup ((tg P n).map V.str))) q1 = some (.tup ((tg P n).map V.str)) := upd_same
      generalize upd H7 q1 (.tup ((tg P n).map V.str)) = H8 at g8 hq1
      obtain ⟨kvs8, k81, k82, k83⟩ := tab.gr (g7.trans g8)
      refine ⟨.ref wd, rfl, wd, kvs8, P.map (·.name), rfl, .inl k81, k82, wd64, fun ys2 sl2 pm2 so2 ns2 => ?_⟩
      have eys2 : ys2 = nms P := eq_srt pm2 so2
      subst eys2
      have g9 : Gr H8 (upd H8 sl2 (.lst ((nms P).map V.str))) := .new ns2
      have hsl9 : (upd H8 sl2 (.lst ((nms P).map V.str))) sl2 = some (.lst ((nms P).map V.str)) := upd_same
      generalize upd H8 sl2 (.lst ((nms P).map V.str)) = H9 at g9 hsl9
      have g49 := (g7.trans g8).trans g9
      refine ⟨sl2, rfl, ⟨_, .inl (.inl hsl9)⟩, fun Dl nD => ?_⟩
      refine lc_list (xs := (nms P).map V.str) (fun j H' => Gr H9 H' ∧ H' Dl = some (.lst ((((nms P).take j).filter fun m => decide (n ∈ tg P m)).map V.str))) ⟨(Gr.refl _).put nD, upd_same⟩ (fun j H' _ ⟨hg, _⟩ => .inl (.inl (hg.lst hsl9))) (fun j y Ha hy ⟨ga, hDa⟩ => ?_) fun Ha ⟨ga, hDa⟩ => ?_
      · obtain ⟨m, hm, rfl⟩ := get_str hy
        have hmP : m ∈ P.map (·.name) := mem_nms.mp (List.mem_of_getElem? hm)
        obtain ⟨t', dg', ht'⟩ := (tab.gr (g49.trans ga)).get hmP
        refine ⟨rfl, .str n, rfl, .ref wd, rfl, .str m, rfl, wd, .ref t', rfl, dg', t', _, rfl, .inl (.inl (.inl ht')), rfl, flat_words _, _, rfl, ?_⟩
        show (if inV (.str n) ((tg P m).map V.str) = true then _ else _)
        rw [inV_str]
        have lz : ((((nms P).take j).filter fun m => decide (n ∈ tg P m)).map V.str).length < 100 := by
          rw [List.length_map]
          have h1 := List.length_filter_le (fun m => decide (n ∈ tg P m)) ((nms P).take j)
          rw [List.length_take] at h1
          omega
        refine ite2 (fun e => ?_) fun e => ?_
        · refine ⟨.str m, rfl, _, hDa, small1000 (by omega), ga.put nD (.lst hDa), ?_⟩
          rw [upd_same, List.take_add_one, hm, List.filter_append, List.map_append]
          simp [e]
        · refine ⟨ga, ?_⟩
          rw [List.take_add_one, hm, List.filter_append, hDa]
          simp [e]
      · rw [List.length_map, List.take_of_length_le (Nat.le_refl _)] at hDa
        refine .inl ⟨Dl, _, rfl, .inl (.inl hDa), fun q2 nq2 => ⟨by show 3 ≤ sizeLine; decide, fun q3 nq3 => ?_⟩⟩
        have gb : Gr Ha (upd (upd Ha q2 (.tup (((nms P).filter fun m => decide (n ∈ tg P m)).map V.str))) q3 (.tup [.str n, .ref q1, .ref q2])) := (Gr.new nq2).trans (.new nq3)
        have g7b := ((g8.trans g9).trans ga).trans gb
        have dR : Dp c.K (upd (upd Ha q2 (.tup (((nms P).filter fun m => decide (n ∈ tg P m)).map V.str))) q3 (.tup [.str n, .ref q1, .ref q2])) (.ref q3) (edgRow P n) :=
          .tup (.inl (.inl upd_same)) (.cons (.str n) (.cons (dp_strsT (.inl (.inl (((g9.trans ga).trans gb).tup hq1)))) (.cons (dp_strsT (.inl (.inl (Gr.tup (.new nq3) upd_same)))) .nil)))
        obtain ⟨vs, h1, h2, h3⟩ := (rows7.gr g7b).add (noL_edg P n) dR
        rw [List.length_map, List.length_take] at h2
        refine ⟨rw, _, _, rfl, rfl, h1, small1000 (by omega), _, rfl, (g7.trans g7b).put nr (.lst h1), by rw [upd_ne nrs.symm]; exact g7b.lst hsl7, ?_⟩
        rw [List.take_add_one, hn, List.map_append]
        exact h3
    obtain ⟨nv7, rfl, g7, hsl7, rows7⟩ := hPv
    rw [List.length_map, List.take_of_length_le (Nat.le_refl _)] at rows7
    have fE : factD P "edges" = edgD P := if_pos rfl
    have fR : factD P "reach" = rchD P := by unfold factD; rw [if_neg three_ne.1, if_pos rfl]
    have fD : factD P "doms" = domD P := by unfold factD; rw [if_neg three_ne.2.1, if_neg three_ne.2.2.1]
    have m1 : ("edges" : Str) ∈ three := by decide +kernel
    have m2 : ("reach" : Str) ∈ three := by decide +kernel
    have m3 : ("doms" : Str) ∈ three := by decide +kernel
    have g17 := g4.trans g7
    refine ⟨.ref pa, rfl, .ref pa, "edges", P, rfl, dp_gr g17 hv, okP, hT.gr (g1.trans g17), m1, fun H8 v8 g8 h8 => ?_⟩
    rw [fE] at h8
    obtain ⟨vs8, hrw8, dr8⟩ := (rows7.gr g8).all
    refine ⟨.ref rw, rfl, .inl ⟨rw, _, rfl, .inl (.inl hrw8), fun q1 nq1 => ?_⟩⟩
    have dt : Dp c.K (upd H8 q1 (.tup vs8)) (.ref q1) (edgD P) := .tup (.inl (.inl upd_same)) (dpAll_gr (.new nq1) dr8)
    refine ⟨_, _, dp_gr (.new nq1) h8, dt, (lay_edg okP).shaped (by decide), (lay_edg okP).shaped (by decide), _, rfl, ?_⟩
    rw [show (!PyData.eqv (edgD P) (edgD P)) = false by rw [(lay_edg okP).eqv]; rfl]
    have g19 : Gr H1 (upd H8 q1 (.tup vs8)) := (g17.trans g8).trans (.new nq1)
    generalize upd H8 q1 (.tup vs8) = H9 at g19 dt
    refine iteF ⟨.ref pa, rfl, .ref pa, P, none, rfl, dp_gr g19 hv, okP, fun Ha rp ga na ha => ?_⟩
    have g1a := g19.trans ga
    refine ⟨.ref pa, rfl, .ref pa, "reach", P, rfl, dp_gr g1a hv, okP, hT.gr (g1.trans g1a), m2, fun Hb vb gb hb => ?_⟩
    rw [fR] at hb
    refine ⟨.ref rp, rfl, .inl ⟨rp, _, rfl, .inl (.inl (gb.lst ha)), fun q2 nq2 => ?_⟩⟩
    refine ⟨_, _, dp_gr (.new nq2) hb, dp_strsT (.inl (.inl upd_same)), (lay_rch okP).shaped (by decide), (lay_rch okP).shaped (by decide), _, rfl, ?_⟩
    rw [show (!PyData.eqv (rchD P) (strsT (rchL P none))) = false by rw [show strsT (rchL P none) = rchD P from rfl, (lay_rch okP).eqv]; rfl]
    have gac : Gr Ha (upd Hb q2 (.tup ((rchL P none).map V.str))) := gb.trans (.new nq2)
    generalize upd Hb q2 (.tup ((rchL P none).map V.str)) = Hc at gac
    have hac := gac.lst ha
    have g1c := g1a.trans gac
    refine iteF ⟨by show 0 ≤ sizeLine; decide, fun rv nrv => ?_⟩
    have lenR : (rchL P none).length ≤ 12 := Nat.le_trans (rchL_len P none) fP
    have nrp : rp ≠ rv := ne_of_none hac nrv
    refine ⟨.ref rp, rfl, rp, rfl, ⟨_, .inl (.inl (Gr.lst (.new nrv) hac))⟩, ?_⟩
    refine for_list (xs := (rchL P none).map V.str) (fun i σ H' => ∃ nv sm, σ = [some (.ref a), some (.ref pa), some (.ref wd), nv, sv, ev, some (.ref rv), none, some (.ref rp), sm, none] ∧ Gr Hc H' ∧ RowsIn c H' rv (((rchL P none).take i).map (domRow P))) ⟨_, _, rfl, .new nrv, [], upd_same, .nil⟩ (fun i σ H' _ ⟨_, _, _, h, _⟩ => .inl (.inl (h.lst hac))) (fun i x σ Hd hx hPv => ?_) fun σ Hd hPv => ?_
    · obtain ⟨nv', sm, rfl, gd, rowsd⟩ := hPv
      obtain ⟨n, hn, rfl⟩ := get_str hx
      refine ⟨.ref rp, rfl, rp, rfl, ⟨_, .inl (.inl (gd.lst hac))⟩, fun Dl nD => ?_⟩
      refine lc_list (xs := (rchL P none).map V.str) (fun j H' => Gr Hd H' ∧ H' Dl = some (.lst ((((rchL P none).take j).filter fun m => decide (¬ Rch P (some m) n)).map V.str))) ⟨(Gr.refl _).put nD, upd_same⟩ (fun j H' _ ⟨hg, _⟩ => .inl (.inl ((gd.trans hg).lst hac))) (fun j y He hy ⟨ge, hDe⟩ => ?_) fun He ⟨ge, hDe⟩ => ?_
      · obtain ⟨m, hm, rfl⟩ := get_str hy
        refine ⟨rfl, .str n, rfl, .ref pa, rfl, .str m, rfl, .ref pa, P, some m, rfl, dp_gr ((g1c.trans gd).trans ge) hv, okP, fun Hf p gf nf hf => ⟨p, _, rfl, .inl (.inl (.inl hf)), rfl, flat_words _, _, rfl, ?_⟩⟩
        show (if (!inV (.str n) ((rchL P (some m)).map V.str)) = true then _ else _)
        rw [inV_str]
        have eb : (!decide (n ∈ rchL P (some m))) = decide (¬ Rch P (some m) n) := by
          by_cases h : n ∈ rchL P (some m)
          · rw [decide_eq_true h, decide_eq_false (show ¬ ¬ Rch P (some m) n from fun z => z ((mem_rchL okP).mp h))]; rfl
          · rw [decide_eq_false h, decide_eq_true (show ¬ Rch P (some m) n from fun z => h ((mem_rchL okP).mpr z))]; rfl
        rw [eb]
        have hDf := gf.lst hDe
        have lz : ((((rchL P none).take j).filter fun m => decide (¬ Rch P (some m) n)).map V.str).length < 100 := by
          rw [List.length_map]
          have h1 := List.length_filter_le (fun m => decide (¬ Rch P (some m) n)) ((rchL P none).take j)
          rw [List.length_take] at h1
          omega
        refine ite2 (fun e => ?_) fun e => ?_
        · refine ⟨.str m, rfl, _, hDf, small1000 (by omega), (ge.trans gf).put nD (.lst hDf), ?_⟩
          have e2 : List.filter (fun m => decide (¬ Rch P (some m) n)) [m] = [m] := by rw [List.filter_cons, if_pos e]; rfl
          rw [upd_same, List.take_add_one, hm, List.filter_append, List.map_append]
          show _ = some (HO.lst (_ ++ List.map V.str (List.filter (fun m => decide (¬ Rch P (some m) n)) [m])))
          rw [e2]
          rfl
        · refine ⟨ge.trans gf, ?_⟩
          have e2 : List.filter (fun m => decide (¬ Rch P (some m) n)) [m] = [] := by rw [List.filter_cons, if_neg e]; rfl
          rw [List.take_add_one, hm, List.filter_append, hDf]
          show _ = some (HO.lst (List.map V.str (_ ++ List.filter (fun m => decide (¬ Rch P (some m) n)) [m])))
          rw [e2, List.append_nil]
      · rw [List.length_map, List.take_of_length_le (Nat.le_refl _)] at hDe
        obtain ⟨vs0, hrv0, _⟩ := _root_.id (rowsd.gr ge)
        refine ⟨.ref rv, rfl, .inl ⟨rfl, _, .inl (.inl hrv0)⟩, .str n, rfl, .ref Dl, rfl, .inl ⟨Dl, _, rfl, .inl (.inl hDe), fun q3 nq3 => ⟨by show 2 ≤ sizeLine; decide, fun q4 nq4 => ?_⟩⟩⟩
        have gg : Gr He (upd (upd He q3 (.tup (((rchL P none).filter fun m => decide (¬ Rch P (some m) n)).map V.str))) q4 (.tup [.str n, .ref q3])) := (Gr.new nq3).trans (.new nq4)
        have dR : Dp c.K (upd (upd He q3 (.tup (((rchL P none).filter fun m => decide (¬ Rch P (some m) n)).map V.str))) q4 (.tup [.str n, .ref q3])) (.ref q4) (domRow P n) :=
          .tup (.inl (.inl upd_same)) (.cons (.str n) (.cons (dp_strsT (.inl (.inl (Gr.tup (.new nq4) upd_same)))) .nil))
        obtain ⟨vs, h1, h2, h3⟩ := (rowsd.gr (ge.trans gg)).add (noL_dom P n) dR
        rw [List.length_map, List.length_take] at h2
        refine ⟨rv, _, _, rfl, rfl, h1, small1000 (by omega), _, _, rfl, (gd.trans (ge.trans gg)).put nrv (.lst h1), ?_⟩
        rw [List.take_add_one, hn, List.map_append]
        exact h3
    obtain ⟨nvd, sm, rfl, gd, rowsd⟩ := hPv
    rw [List.length_map, List.take_of_length_le (Nat.le_refl _)] at rowsd
    have g1d := g1c.trans gd
    refine ⟨.ref pa, rfl, .ref pa, "doms", P, rfl, dp_gr g1d hv, okP, hT.gr (g1.trans g1d), m3, fun He ve ge he => ?_⟩
    rw [fD] at he
    obtain ⟨vse, hrve, dre⟩ := (rowsd.gr ge).all
    refine ⟨.ref rv, rfl, .inl ⟨rv, _, rfl, .inl (.inl hrve), fun q5 nq5 => ?_⟩⟩
    have dt5 : Dp c.K (upd He q5 (.tup vse)) (.ref q5) (domD P) := .tup (.inl (.inl upd_same)) (dpAll_gr (.new nq5) dre)
    refine ⟨_, _, dp_gr (.new nq5) he, dt5, (lay_dom okP).shaped (by decide), (lay_dom okP).shaped (by decide), _, rfl, ?_⟩
    rw [show (!PyData.eqv (domD P) (domD P)) = false by rw [(lay_dom okP).eqv]; rfl]
    have gcf : Gr Hc (upd He q5 (.tup vse)) := (gd.trans ge).trans (.new nq5)
    generalize upd He q5 (.tup vse) = Hf at gcf
    have g1f := g1c.trans gcf
    refine iteF ⟨.ref pa, rfl, .ref pa, "doms", P, rfl, dp_gr g1f hv, okP, hT.gr (g1.trans g1f), m3, fun Hg vg gg hg => ?_⟩
    rw [fD] at hg
    obtain ⟨dp, ws, rfl, sqd, dws⟩ := dp_tup hg
    have lw : ws.length = (rchL P none).length := by rw [dpAll_length dws, List.length_map]
    refine ⟨dp, rfl, ⟨_, sqd⟩, fun Dl nD => ?_⟩
    refine lc_tup (xs := ws) (fun j H' => Gr Hg H' ∧ H' Dl = some (.lst (((rchL P none).take j).map V.str))) ⟨(Gr.refl _).put nD, upd_same⟩ (fun j H' _ ⟨hgg, _⟩ => hgg.sqT sqd) (fun j y Hh hy ⟨gh, hDh⟩ => ?_) fun Hh ⟨gh, hDh⟩ => ?_
    · obtain ⟨d, hd, hdp⟩ := dpAll_get dws hy
      obtain ⟨n, hn, rfl⟩ : ∃ n, (rchL P none)[j]? = some n ∧ d = domRow P n := by
        rw [List.getElem?_map] at hd
        cases e9 : (rchL P none)[j]? with
        | none => rw [e9] at hd; cases hd
        | some n => rw [e9] at hd; exact ⟨n, rfl, (Option.some.inj hd).symm⟩
      obtain ⟨ra, us, rfl, sqr, dus⟩ := dp_tup hdp
      cases dus with
      | cons d1 dus =>
        cases d1
        refine ⟨rfl, .ref ra, rfl, ra, _, 0, .str n, rfl, rfl, gh.sqT sqr, atI_nat (j := 0) rfl, _, hDh, small1000 (by rw [List.length_map, List.length_take]; omega), gh.put nD (.lst hDh), ?_⟩
        rw [upd_same, List.take_add_one, hn, List.map_append]
        rfl
    rw [lw, List.take_of_length_le (Nat.le_refl _)] at hDh
    have gch := (gcf.trans gg).trans gh
    refine ⟨.ref rp, rfl, _, _, .lst (.inl (.inl hDh)) (dpAll_strs _), .lst (.inl (.inl (gch.lst hac))) (dpAll_strs _), (lay_strsL (rch_name okP)).shaped (by decide), (lay_strsL (rch_name okP)).shaped (by decide), _, rfl, ?_⟩
    rw [(lay_strsL (rch_name okP)).eqv]
    obtain ⟨pa', xs', ba, rest, f0, e1, hPa', hBa, hf⟩ := first_at okP (dp_gr ((g1f.trans gg).trans gh) hv)
    cases e1
    have g1h := (g1f.trans gg).trans gh
    refine ⟨.ref pa, rfl, pa, _, 0, .ref ba, rfl, rfl, hPa', atI_nat (j := 0) rfl, ba, _, 0, .str f0, rfl, rfl, hBa, atI_nat (j := 0) rfl, ?_⟩
    refine ⟨.ref pa, rfl, .ref pa, "doms", P, rfl, dp_gr g1h hv, okP, hT.gr (g1.trans g1h), m3, fun Hi vi gi hi => ?_⟩
    rw [fD] at hi
    obtain ⟨dp2, ws2, rfl, sqd2, dws2⟩ := dp_tup hi
    have rf : f0 ∈ rchL P none := (mem_rchL okP).mpr (.first f0 hf (fun z => nomatch z))
    cases hr0 : rchL P none with
    | nil => rw [hr0] at rf; simp at rf
    | cons n0 ns0 =>
      rw [hr0] at dws2
      cases dws2 with
      | cons d0 dws2 =>
        obtain ⟨r0, us, rfl, sqr, dus⟩ := dp_tup d0
        cases dus with
        | cons d1 dus =>
          cases dus with
          | cons d2 dus =>
            cases dus
            obtain ⟨ta, rfl, sta⟩ := strsT_at d2
            refine ⟨dp2, _, 0, .ref r0, rfl, rfl, sqd2, atI_nat (j := 0) rfl, r0, _, 1, .ref ta, rfl, rfl, sqr, atI_nat (j := 1) rfl, ta, _, rfl, .inr sta, rfl, flat_words _, ?_⟩
            have hin : inV (.str f0) (((rchL P none).filter fun m => decide (¬ Rch P (some m) n0)).map V.str) = true := by
              rw [inV_str]
              refine decide_eq_true (List.mem_filter.mpr ⟨rf, decide_eq_true ?_⟩)
              exact fun z => z.none_of_first hf
            show Q (.bl (inV (.str f0) (((rchL P none).filter fun m => decide (¬ Rch P (some m) n0)).map V.str))) Hi
            rw [hin]
            exact q _
end Pm
set_option maxHeartbeats 4000000
/-! Methods of a class of the module, and its making. -/
namespace Pm
open PySem PySem.Spec PyProof.Rows L2 GxR GX
/-- the method st (qualified name q) of the class at C -/
def DefM (c : Ct) (C : Addr) (m q : Str) (st : Stmt) : Prop := ∃ f fd, Fun c.K m q st f fd ∧ Meth c.K C m f
def DefI (c : Ct) (C : Addr) (q : Str) (st : Stmt) : Prop := ∃ f fd, Fun c.K "__init__" q st f fd ∧ Mk c.K C f
def OkM (c : Ct) (C : Addr) (m : Str) (k : Nat) (ps : List Str) (sp : Sp) : Prop := ∃ f fd, FnOk c.P c.w c.K c.mg c.base CX0 k f fd ps sp ∧ Meth c.K C m f ∧ Binds c.K fd ps []
def OkI (c : Ct) (C : Addr) (k : Nat) (ps : List Str) (sp : Sp) : Prop := ∃ f fd, FnOk c.P c.w c.K c.mg c.base CX0 k f fd ps sp ∧ Mk c.K C f ∧ Binds c.K fd ps []
theorem dm_ok {c : Ct} {C : Addr} {m q : Str} {st : Stmt} {N ps : List Str} {k : Nat} {sp : Sp} (D : DefM c C m q st) (S : FnScope N ps (defScope st)) (len : ∀ vs H Q E, sp vs H Q E → vs.length = ps.length)
    (hb : ∀ (kV doc pm : Value) (an : Option Addr) (cdv ct : Value) (us : List Value), us.length = ps.length → bindArgs (PySem.W.fnOf m q (defArgs st) (defBody st) (defScope st) .none kV doc pm an cdv ct) ⟨us, []⟩ = pure (ps.zip us))
    (hbody : ∀ (f : Addr) (cdv : Value) (A : Around) (outer : List Env) (s : Shared) (H : Hp) (vs : List V) (Q : VK) (E : XK), Room k (A.deeper (envOfC q (defScope st) s.heap.objs.size f cdv)) → sp vs H Q E →
      ∃ t, PSs (cxOf CX0 c.P c.w c.K c.mg c.base N q (defScope st) f cdv A outer s H E).nox (defBody st) t ∧ t { nx := fun _ H' => Q .non H', rt := Q } (start N vs) H) : OkM c C m (k + 1) ps sp := by
  obtain ⟨f, fd, F, M⟩ := D
  exact ⟨f, fd, F.ok S len fun cdv A outer s H vs Q E hr h => hbody f cdv A outer s H vs Q E hr h, M, F.binds hb⟩
theorem di_ok {c : Ct} {C : Addr} {q : Str} {st : Stmt} {N ps : List Str} {k : Nat} {sp : Sp} (D : DefI c C q st) (S : FnScope N ps (defScope st)) (len : ∀ vs H Q E, sp vs H Q E → vs.length = ps.length)
    (hb : ∀ (kV doc pm : Value) (an : Option Addr) (cdv ct : Value) (us : List Value), us.length = ps.length → bindArgs (PySem.W.fnOf "__init__" q (defArgs st) (defBody st) (defScope st) .none kV doc pm an cdv ct) ⟨us, []⟩ = pure (ps.zip us))
    (hbody : ∀ (f : Addr) (cdv : Value) (A : Around) (outer : List Env) (s : Shared) (H : Hp) (vs : List V) (Q : VK) (E : XK), Room k (A.deeper (envOfC q (defScope st) s.heap.objs.size f cdv)) → sp vs H Q E →
      ∃ t, PSs (cxOf CX0 c.P c.w c.K c.mg c.base N q (defScope st) f cdv A outer s H E).nox (defBody st) t ∧ t { nx := fun _ H' => Q .non H', rt := Q } (start N vs) H) : OkI c C (k + 1) ps sp := by
  obtain ⟨f, fd, F, M⟩ := D
  exact ⟨f, fd, F.ok S len fun cdv A outer s H vs Q E hr h => hbody f cdv A outer s H vs Q E hr h, M, F.binds hb⟩
section
variable {X : Cx} {C : Addr} {m x : Str} {k : Nat} {ps : List Str} {sp : Sp} {p pos apos : Pos} {o e : Expr} {es : List Expr} {ta : TE} {t : TA}
/-- o.m(e, ..) -/
theorem pe_m (c : Ct) (cl : Cls c.K C) (O : OkM c C m k ps sp) (hr : Room k X.A) (ho : PE X o ta) (ha : PA X (e :: es) t) {pl : Sem Bool} (h1 : X.prog = c.P := by rfl) (h2 : X.w = c.w := by rfl) (h3 : X.K = c.K := by rfl) (h4 : X.mg = c.mg := by rfl) (h5 : X.base = c.base := by rfl)
    (hst : starEach (e :: es) X.env = (false, eval e X.env) :: starEach es X.env := by rfl) (hpl : (backTo pos (starEach es X.env)).any (·.1) = false := by rfl)
    (ht : eval (.Call (.Attribute o m apos) (e :: es) [] pos) X.env = (do
      let ov ← eval o X.env
      standAt apos.atName
      let (f, first) ← holding [ov] (getMethod ov m pl)
      callWith pos f first (backTo pos (starEach (e :: es) X.env)) (backToKw pos (keywordEach [] X.env))) := by rfl) : PE X (.Call (.Attribute o m apos) (e :: es) [] pos) (tMeth C m sp [] E0 ta t) := by
  obtain ⟨f, fd, F, M, hb⟩ := O
  refine pe_meth (pl := pl) (CX := CX0) (fd := fd) (ps := ps) (ds := []) ho (by rw [h3]; exact cl) (f := f) (by rw [h3]; exact M) (by rw [h1, h2, h3, h4, h5]; exact F) hr (by rw [h3]; exact hb) .nil pass0 ha hst hpl ht
/-- o.m() -/
theorem pe_m0 (c : Ct) (cl : Cls c.K C) (O : OkM c C m k ps sp) (hr : Room k X.A) (ho : PE X o ta) {pl : Sem Bool} (h1 : X.prog = c.P := by rfl) (h2 : X.w = c.w := by rfl) (h3 : X.K = c.K := by rfl) (h4 : X.mg = c.mg := by rfl) (h5 : X.base = c.base := by rfl)
    (ht : eval (.Call (.Attribute o m apos) [] [] pos) X.env = (do
      let ov ← eval o X.env
      standAt apos.atName
      let (f, first) ← holding [ov] (getMethod ov m pl)
      callWith pos f first (backTo pos (starEach [] X.env)) (backToKw pos (keywordEach [] X.env))) := by rfl) : PE X (.Call (.Attribute o m apos) [] [] pos) (tMeth C m sp [] E0 ta tNil) := by
  obtain ⟨f, fd, F, M, hb⟩ := O
  refine pe_meth0 (pl := pl) (CX := CX0) (fd := fd) (ps := ps) (ds := []) ho (by rw [h3]; exact cl) (f := f) (by rw [h3]; exact M) (by rw [h1, h2, h3, h4, h5]; exact F) hr (by rw [h3]; exact hb) .nil pass0 ht
/-- C(e, ..) -/
theorem pe_new (c : Ct) (O : OkI c C k ps sp) (hm : c.mg x = some (.ref C)) (hr : Room (k + 1) X.A) (ha : PA X (e :: es) t) (h1 : X.prog = c.P := by rfl) (h2 : X.w = c.w := by rfl) (h3 : X.K = c.K := by rfl) (h4 : X.mg = c.mg := by rfl) (h5 : X.base = c.base := by rfl)
    (hg : Gl X x := by rfl) (hdb : (x == ("__debug__" : Str)) = false := by decide) (he : starEach (e :: es) X.env = (false, eval e X.env) :: starEach es X.env := by rfl) (hpl : (backTo pos (starEach es X.env)).any (·.1) = false := by rfl) : PE X (.Call (.Name x p) (e :: es) [] pos) (tMake C sp [] E0 t) := by
  obtain ⟨f, fd, F, M, hb⟩ := O
  refine pe_make (CX := CX0) (fd := fd) (ps := ps) (ds := []) (f := f) (by rw [h3]; exact M) (by rw [h1, h2, h3, h4, h5]; exact F) hr hg (by rw [h4]; exact hm) (by rw [h3]; exact hb) .nil pass0 ha hdb he hpl
end
end Pm
set_option maxHeartbeats 4000000
/-! From what the head tells to what the proofs of the defs ask. -/
namespace Pm
open PySem PySem.Spec PyProof.Rows L2 GxR GX
variable {c : Ct}
abbrev FnG (c : Ct) (x : Str) (st : Stmt) (kws : List (Str × V)) : Prop := ∃ fd, FunD c.K x x (defArgs st) (defBody st) (defScope st) [] kws (He.fAd c.K (x, none)) fd
theorem defAt_of {x : Str} {st : Stmt} {kws : List (Str × V)} (F : FnG c x st kws) (hm : c.mg x = some (.ref (He.ga c.K x))) : ∃ fd cd, DefAt c x st kws (He.ga c.K x) fd cd := by
  obtain ⟨fd, ⟨oc, od, dV, kV, doc, pm, an, cdv, ct, osl, rfl, lk, hcd, hD, hK⟩, kp⟩ := F
  obtain ⟨cd, rfl⟩ := He.codeIn_ref hcd
  exact ⟨_, cd, ⟨oc, od, dV, kV, doc, pm, an, ct, osl, rfl, lk, hcd, hD, hK⟩, kp, hm⟩
theorem df_of {x : Str} {st : Stmt} (F : FnG c x st []) (hm : c.mg x = some (.ref (He.ga c.K x))) : Df c x st := let ⟨fd, cd, h⟩ := defAt_of F hm; ⟨_, fd, cd, h⟩
theorem tf_of {x : Str} {st : Stmt} (F : FnG c x st []) (hm : c.mg x = some (.ref (He.ga c.K x))) (T : TabB c.base c.mg (He.cT c.K (x, none)).1 (He.cT c.K (x, none)).2) (ht : (He.cT c.K (x, none)).2 ∈ c.ts) : Tf c x st := by
  obtain ⟨fd, cd, h⟩ := defAt_of F hm
  obtain ⟨⟨oc, od, dV, kV, doc, pm, an, ct, osl, e, lk, _⟩, _⟩ := _root_.id h
  have ec : He.codeOf c.K (x, none) = cd := He.codeOf_eq (p := (x, none)) lk (by rw [e])
  refine ⟨_, fd, cd, _, h, ?_, ht⟩
  rw [← ec]
  exact T
theorem fun_of {m q : Str} {st : Stmt} {f : Addr} (F : ∃ fd, FunD c.K m q (defArgs st) (defBody st) (defScope st) [] [] f fd) : ∃ fd, Fun c.K m q st f fd := by
  obtain ⟨fd, ⟨oc, od, dV, kV, doc, pm, an, cdv, ct, osl, rfl, lk, hcd, hD, _⟩, kp⟩ := F
  have e : dV = .none := by
    rcases hD with ⟨_, e⟩ | ⟨e, _⟩
    · exact e
    · exact absurd rfl e
  subst e
  exact ⟨_, ⟨oc, od, kV, doc, pm, an, cdv, ct, osl, rfl, lk, hcd⟩, kp⟩
/-! ### tables of the top -/
def tupAt (K : PySem.W.Frag) (t : Addr) (vs : List V) : Bool := match K.lookup t with
  | some ⟨.type z, _, .seq its _, _⟩ => decide (z = "tuple") && (decide (its.size ≤ sizeLine) && He.relAll vs its.toList)
  | _ => false
theorem tupAt_ok {K : PySem.W.Frag} {t : Addr} {vs : List V} (h : tupAt K t vs = true) (H : Hp) : SqT K H t vs := by
  unfold tupAt at h
  cases q : K.lookup t with
  | none => rw [q] at h; cases h
  | some o =>
    obtain ⟨oc, od, dt, osl⟩ := o
    rw [q] at h
    cases oc with
    | type z =>
      cases dt with
      | seq its n =>
        obtain ⟨h1, h2⟩ := He.ba (show (decide (z = "tuple") && (decide (its.size ≤ sizeLine) && He.relAll vs its.toList)) = true from h)
        obtain ⟨h3, h4⟩ := He.ba h2
        exact .inr ⟨_, its, n, q, congrArg Value.type (of_decide_eq_true h1), rfl, of_decide_eq_true h3, He.relAll_ok h4⟩
      | _ => cases h
    | _ => cases dt <;> cases h
/-- a dict of the top whose values are tuples of texts -/
def formsB (K : PySem.W.Frag) (x : Str) (l : List (Str × List Str)) : Bool := l.all fun q => match PySem.W.nsIn K (He.ga K x) q.1 with
  | some (some (.ref t)) => tupAt K t (q.2.map V.str)
  | _ => false
theorem formsB_ok {K : PySem.W.Frag} {w : World} {x : Str} {l : List (Str × List Str)} (h : formsB K x l = true) {es : Array DictEntry} {n : Nat} (D : KDict K w (He.ga K x) es n) {z : Str} {ks : List Str} (hz : (z, ks) ∈ l) :
    ∃ t, KDct K w (He.ga K x) z (.ref t) ∧ ∀ H, SqT K H t (ks.map V.str) := by
  have h2 := List.all_eq_true.mp h (z, ks) hz
  dsimp only at h2
  cases e : PySem.W.nsIn K (He.ga K x) z with
  | none => rw [e] at h2; cases h2
  | some o =>
    rw [e] at h2
    cases o with
    | none => cases h2
    | some v =>
      cases v with
      | ref t => exact ⟨t, ⟨es, n, _, D.at_, D.lit, e, rfl⟩, fun H => tupAt_ok h2 H⟩
      | _ => cases h2
def fmB (K : PySem.W.Frag) : Bool := formsB K "FORMS" formsL && (tupAt K (He.ga K "STEP_WORDS") (stepWords.map V.str) && tupAt K (He.ga K "END_WORDS") (endWords.map V.str))
theorem lookup_in {α : Type} {z : Str} {v : α} : ∀ {l : List (Str × α)}, l.lookup z = some v → (z, v) ∈ l
  | [], h => by simp at h
  | (k, u) :: r, h => by
    rw [List.lookup_cons] at h
    cases hb : z == k with
    | true =>
      rw [hb] at h
      rw [eq_of_beq hb, Option.some.inj h]
      exact List.mem_cons_self
    | false =>
      rw [hb] at h
      exact List.mem_cons_of_mem _ (lookup_in h)
theorem fm_of (h : fmB c.K = true) {es : Array DictEntry} {n : Nat} (D : KDict c.K c.w (He.ga c.K "FORMS") es n) (m1 : c.mg "FORMS" = some (.ref (He.ga c.K "FORMS"))) (m2 : c.mg "STEP_WORDS" = some (.ref (He.ga c.K "STEP_WORDS"))) (m3 : c.mg "END_WORDS" = some (.ref (He.ga c.K "END_WORDS"))) : Fm c := by
  obtain ⟨h1, h2⟩ := He.ba h
  obtain ⟨h3, h4⟩ := He.ba h2
  exact ⟨⟨_, m1, fun z ks hz => formsB_ok h1 D (lookup_in hz)⟩, ⟨_, m2, fun H => tupAt_ok h3 H⟩, ⟨_, m3, fun H => tupAt_ok h4 H⟩⟩
abbrev dG (x : Str) (st : Stmt) : He.DefD := ⟨(x, none), x, x, defArgs st, defBody st, defScope st, [], []⟩
abbrev dM (C m q : Str) (st : Stmt) : He.DefD := ⟨(C, some m), m, q, defArgs st, defBody st, defScope st, [], []⟩
end Pm
set_option maxHeartbeats 4000000
namespace Pm
open PySem PySem.Spec PyProof.Rows L2 GxR GX
variable {c : Ct}
def fmB2 (K : PySem.W.Frag) : Bool := fmB K && (formsB K "HANGS" hangsL && !(He.ga K "HANGS" == sysModules))
theorem hg_of (h : fmB2 c.K = true) {es : Array DictEntry} {n : Nat} (D : KDict c.K c.w (He.ga c.K "HANGS") es n) (m1 : c.mg "HANGS" = some (.ref (He.ga c.K "HANGS"))) : Hg c := by
  obtain ⟨_, h2⟩ := He.ba h
  obtain ⟨h3, h4⟩ := He.ba h2
  exact ⟨⟨_, m1, by simpa using h4, fun z ks hz => formsB_ok h3 D (lookup_in hz)⟩⟩
theorem fm_of2 (h : fmB2 c.K = true) {es : Array DictEntry} {n : Nat} (D : KDict c.K c.w (He.ga c.K "FORMS") es n) (m1 : c.mg "FORMS" = some (.ref (He.ga c.K "FORMS"))) (m2 : c.mg "STEP_WORDS" = some (.ref (He.ga c.K "STEP_WORDS"))) (m3 : c.mg "END_WORDS" = some (.ref (He.ga c.K "END_WORDS"))) : Fm c := fm_of (He.ba h).1 D m1 m2 m3
end Pm
set_option maxHeartbeats 0
/-! the head: what the top leaves -/
namespace Pm
open PySem PySem.Spec PyProof.Rows L2 GxR GX
abbrev R : PySem.W.OpenRow := PySem.W.OpenLaw.row PySem.Challenge.rw_passmill_k02_whole_edges

def loose1 : List Str := ["MillError", "NoProgram", "NoFact", "LETTERS", "MODULUS", "LONGEST_NAME", "is_whole", "is_value", "is_word", "is_name", "MOST_BLOCKS", "MOST_STEPS", "STEP_WORDS", "END_WORDS", "FORMS", "is_program", "is_block", "has_form", "is_part", "parts_of"]
def loose2 : List Str := ["places_in", "rows_of", "check_program", "places_of", "sum_of", "edges_of", "targets_by_name", "reach_of", "doms_of", "names_reached", "SUM_WORDS", "consts_of", "copies_of", "sums_of", "known_rows", "known_starts", "known_behind", "meet_rows", "meet_consts", "turn_consts"]
def loose3 : List Str := ["const_for", "turn_copies", "turn_sums", "uses_of", "live_of", "live_at", "live_before", "go_back", "HANGS", "is_fact_name", "check_fact_name", "fact", "make_fact", "_law_ways", "_law_pick", "_law_step", "_law_program", "_law_reached"]
def loose : List Str := loose1 ++ (loose2 ++ (loose3))
def fas1 : List He.Fa := [.glo "is_whole", .glo "is_value", .glo "is_word", .glo "is_name", .glo "is_program", .glo "is_block", .glo "has_form", .glo "is_part", .glo "parts_of", .glo "check_program", .glo "edges_of", .glo "targets_by_name", .glo "reach_of", .glo "doms_of", .glo "names_reached", .glo "is_fact_name", .glo "check_fact_name", .glo "fact", .glo "make_fact", .glo "_law_ways"]
def fas2 : List He.Fa := [.glo "_law_pick", .glo "_law_step", .glo "_law_program", .glo "_law_reached", .glo "law", .glo "FORMS", .glo "HANGS", .glo "STEP_WORDS", .glo "END_WORDS", .glo "SUM_WORDS", .free "len", .free "all", .free "isinstance", .free "bool", .free "int", .free "str", .free "tuple", .free "list", .free "set", .free "zip"]
def fas3 : List He.Fa := [.free "range", .free "max", .free "min", .free "enumerate", .free "dict", .free "sorted", .str "LETTERS" "abcdefghijklmnopqrstuvwxyz", .int "MODULUS" 9973, .int "LONGEST_NAME" 3, .int "MOST_BLOCKS" 12, .int "MOST_STEPS" 16]
def fas : List He.Fa := fas1 ++ (fas2 ++ (fas3))
def fns1 : List He.DefD := [dG "is_whole" s_is_whole, dG "is_value" s_is_value, dG "is_word" s_is_word, dG "is_name" s_is_name, dG "is_program" s_is_program, dG "is_block" s_is_block, dG "has_form" s_has_form, dG "is_part" s_is_part, dG "parts_of" s_parts_of, dG "check_program" s_check_program, dG "edges_of" s_edges_of, dG "targets_by_name" s_targets_by_name]
def fns2 : List He.DefD := [dG "reach_of" s_reach_of, dG "doms_of" s_doms_of, dG "names_reached" s_names_reached, dG "is_fact_name" s_is_fact_name, dG "check_fact_name" s_check_fact_name, dG "fact" s_fact, dG "make_fact" s_make_fact, dG "_law_ways" s_law_ways, dG "_law_pick" s_law_pick, dG "_law_step" s_law_step, dG "_law_program" s_law_program, dG "_law_reached" s_law_reached]
def fns3 : List He.DefD := [dG "law" s_law]
def fns : List He.DefD := fns1 ++ (fns2 ++ (fns3))
def tabD0 : He.Tab := (fun K => He.ga K "FORMS", ["set", "copy", "add", "sub", "mul", "less", "same", "get", "put", "go", "if", "stop"])
def tabD1 : He.Tab := (fun K => He.ga K "HANGS", ["edges", "reach", "doms", "uses", "live", "consts", "copies", "sums"])
def tabs0 : List He.Tab := [tabD0, tabD1]
def tfs : List He.Defn := [("is_word", none), ("is_program", none), ("is_block", none), ("has_form", none), ("edges_of", none), ("doms_of", none)]
abbrev hk : PySem.W.Hook := He.hookX 5 fas fns tabs0 tfs fmB2
def ob (s : PySem.W.SharedT) : He.AlX := He.obsX 5 fas fns tabs0 tfs fmB2 (HandSHeadRun.getT s)
theorem ob_eq (s : PySem.W.SharedT) : ob s = hk.obs s.abs := He.obsX_eq (HandSHeadRun.getT_eq s)
theorem run_f (w : World) : HandSHeadRun.RunEq R (PySem.W.view R.prog [67]) hk ob 8000 loose (w.withFollow "special-get-raises" false) := by
  intro os
  kernel_rfl
theorem run_t (w : World) : HandSHeadRun.RunEq R (PySem.W.view R.prog [67]) hk ob 8000 loose (w.withFollow "special-get-raises" true) := by
  intro os
  kernel_rfl
theorem runs (w : World) : HandSHeadRun.RunEq R (PySem.W.view R.prog [67]) hk ob 8000 loose w := PySem.W.byRow2 "special-get-raises" run_f run_t w
end Pm
set_option maxHeartbeats 4000000
/-! the end: the facts of the head, the promises of all defs, the law -/
namespace Pm
open PySem PySem.Spec PyProof.Rows L2 GxR GX
theorem law_in {c : Ct} {h : Heap} (X : c.K.In h) (G : h.Ns mainGlobals c.mg) (S : He.SaysX fas fns tabs0 tfs fmB2 c.w h c.K) (T : ∀ p ∈ tfs, TabB c.base c.mg (He.cT c.K p).1 (He.cT c.K p).2 ∧ (He.cT c.K p).2 ∈ c.ts) : LawIn c := by
  have D := S.t.d
  have gl := fun {x : Str} (e : (He.Fa.glo x).ok c.K = true) => He.glo_ok X G e
  have fr := fun {x : Str} (e : (He.Fa.free x).ok c.K = true) => He.free_ok X G e
  have B : Bl c := ⟨(fr (D.fact 30 (f := .free "len") rfl)), (fr (D.fact 31 (f := .free "all") rfl)), (fr (D.fact 32 (f := .free "isinstance") rfl)), (fr (D.fact 33 (f := .free "bool") rfl)), (fr (D.fact 34 (f := .free "int") rfl)), (fr (D.fact 35 (f := .free "str") rfl)), (fr (D.fact 36 (f := .free "tuple") rfl)), (fr (D.fact 37 (f := .free "list") rfl)), (fr (D.fact 38 (f := .free "set") rfl)), (fr (D.fact 39 (f := .free "zip") rfl)), (fr (D.fact 40 (f := .free "range") rfl))⟩
  have B2 : Bl2 c := ⟨B, (fr (D.fact 41 (f := .free "max") rfl)), (fr (D.fact 42 (f := .free "min") rfl)), (fr (D.fact 43 (f := .free "enumerate") rfl)), (fr (D.fact 44 (f := .free "dict") rfl))⟩
  have B3 : Bl3 c := ⟨B, (fr (D.fact 45 (f := .free "sorted") rfl))⟩
  have B4 : Bl4 c := ⟨B2, (fr (D.fact 45 (f := .free "sorted") rfl))⟩
  obtain ⟨es, n, KD⟩ := S.t.tab 0 (t := tabD0) rfl
  have F : Fm c := fm_of2 S.more KD (gl (D.fact 25 (f := .glo "FORMS") rfl)) (gl (D.fact 27 (f := .glo "STEP_WORDS") rfl)) (gl (D.fact 28 (f := .glo "END_WORDS") rfl))
  obtain ⟨es1, n1, KD1⟩ := S.t.tab 1 (t := tabD1) rfl
  have HH : Hg c := hg_of S.more KD1 (gl (D.fact 26 (f := .glo "HANGS") rfl))
  have h1 := ok_is_whole (df_of (D.def_ 0 (d := dG "is_whole" s_is_whole) rfl) (gl (D.fact 0 (f := .glo "is_whole") rfl))) B
  have h2 := ok_is_value (df_of (D.def_ 1 (d := dG "is_value" s_is_value) rfl) (gl (D.fact 1 (f := .glo "is_value") rfl))) h1 (He.int_ok X G (D.fact 47 (f := .int "MODULUS" 9973) rfl))
  have h3 := ok_is_word (tf_of (D.def_ 2 (d := dG "is_word" s_is_word) rfl) (gl (D.fact 2 (f := .glo "is_word") rfl)) (T _ (.head _)).1 (T _ (.head _)).2) B (He.str_ok X G (D.fact 46 (f := .str "LETTERS" "abcdefghijklmnopqrstuvwxyz") rfl))
  have h4 := ok_is_name (df_of (D.def_ 3 (d := dG "is_name" s_is_name) rfl) (gl (D.fact 3 (f := .glo "is_name") rfl))) h3 (He.int_ok X G (D.fact 48 (f := .int "LONGEST_NAME" 3) rfl))
  have h5 := ok_is_part (df_of (D.def_ 7 (d := dG "is_part" s_is_part) rfl) (gl (D.fact 7 (f := .glo "is_part") rfl))) h2 h4
  obtain ⟨fo, ofo, mfo⟩ := h5.at
  have h6 := ok_has_form (tf_of (D.def_ 6 (d := dG "has_form" s_has_form) rfl) (gl (D.fact 6 (f := .glo "has_form") rfl)) (T _ (.tail _ (.tail _ (.tail _ (.head _))))).1 (T _ (.tail _ (.tail _ (.tail _ (.head _))))).2) B F kindD fo ofo
  have h7 := ok_parts_of (df_of (D.def_ 8 (d := dG "parts_of" s_parts_of) rfl) (gl (D.fact 8 (f := .glo "parts_of") rfl))) B F
  have h9 := ok_is_block (tf_of (D.def_ 5 (d := dG "is_block" s_is_block) rfl) (gl (D.fact 5 (f := .glo "is_block") rfl)) (T _ (.tail _ (.tail _ (.head _)))).1 (T _ (.tail _ (.tail _ (.head _)))).2) B F (He.int_ok X G (D.fact 50 (f := .int "MOST_STEPS" 16) rfl)) h4 fo mfo h6
  have h10 := ok_is_program (tf_of (D.def_ 4 (d := dG "is_program" s_is_program) rfl) (gl (D.fact 4 (f := .glo "is_program") rfl)) (T _ (.tail _ (.head _))).1 (T _ (.tail _ (.head _))).2) B F (He.int_ok X G (D.fact 49 (f := .int "MOST_BLOCKS" 12) rfl)) h9 h7
  have h11 := ok_check_program (df_of (D.def_ 9 (d := dG "check_program" s_check_program) rfl) (gl (D.fact 9 (f := .glo "check_program") rfl))) h10
  have p1 := ok_pick (df_of (D.def_ 20 (d := dG "_law_pick" s_law_pick) rfl) (gl (D.fact 20 (f := .glo "_law_pick") rfl))) B2
  have p2 := ok_step (df_of (D.def_ 21 (d := dG "_law_step" s_law_step) rfl) (gl (D.fact 21 (f := .glo "_law_step") rfl))) B2 p1
  have p3 := ok_program (df_of (D.def_ 22 (d := dG "_law_program" s_law_program) rfl) (gl (D.fact 22 (f := .glo "_law_program") rfl))) B2 p1 p2
  have e1 := ok_edges_of (tf_of (D.def_ 10 (d := dG "edges_of" s_edges_of) rfl) (gl (D.fact 10 (f := .glo "edges_of") rfl)) (T _ (.tail _ (.tail _ (.tail _ (.tail _ (.head _)))))).1 (T _ (.tail _ (.tail _ (.tail _ (.tail _ (.head _)))))).2) B3 h7
  have e2 := ok_tbn (df_of (D.def_ 11 (d := dG "targets_by_name" s_targets_by_name) rfl) (gl (D.fact 11 (f := .glo "targets_by_name") rfl)))
  have e3 := ok_reached (df_of (D.def_ 14 (d := dG "names_reached" s_names_reached) rfl) (gl (D.fact 14 (f := .glo "names_reached") rfl))) e2
  have e4 := ok_reach_of (df_of (D.def_ 12 (d := dG "reach_of" s_reach_of) rfl) (gl (D.fact 12 (f := .glo "reach_of") rfl))) B3 e3
  have e5 := ok_doms_of (tf_of (D.def_ 13 (d := dG "doms_of" s_doms_of) rfl) (gl (D.fact 13 (f := .glo "doms_of") rfl)) (T _ (.tail _ (.tail _ (.tail _ (.tail _ (.tail _ (.head _))))))).1 (T _ (.tail _ (.tail _ (.tail _ (.tail _ (.tail _ (.head _))))))).2) B3 e3
  have e6 := ok_make (df_of (D.def_ 18 (d := dG "make_fact" s_make_fact) rfl) (gl (D.fact 18 (f := .glo "make_fact") rfl))) e1 e4 e5
  have e7 := ok_chk_fn (df_of (D.def_ 16 (d := dG "check_fact_name" s_check_fact_name) rfl) (gl (D.fact 16 (f := .glo "check_fact_name") rfl))) (ok_is_fn (df_of (D.def_ 15 (d := dG "is_fact_name" s_is_fact_name) rfl) (gl (D.fact 15 (f := .glo "is_fact_name") rfl))) B3 HH)
  have e8 := ok_fact (df_of (D.def_ 17 (d := dG "fact" s_fact) rfl) (gl (D.fact 17 (f := .glo "fact") rfl))) HH h11 e7 e6
  have w1 := ok_ways (df_of (D.def_ 19 (d := dG "_law_ways" s_law_ways) rfl) (gl (D.fact 19 (f := .glo "_law_ways") rfl)))
  exact ⟨B4, p3, w1, ok_lr (df_of (D.def_ 23 (d := dG "_law_reached" s_law_reached) rfl) (gl (D.fact 23 (f := .glo "_law_reached") rfl))) B4 w1, e8⟩
theorem tabN_nil {H : Hp} {P : Addr} (h : H P = some (.tbl #[])) : TabN H P := ⟨#[], h, True.intro, fun pos cv e => by
  have z : codeAmong pos [] = some cv := e
  simp [codeAmong] at z⟩
theorem law_at {w : World} {K : PySem.W.Frag} {h : Heap} {mg : Str → Option Value} {fa : Addr} (X : K.In h) (G : h.Ns mainGlobals mg) (hfa : mg ("law" : Str) = some (.ref fa)) (S : He.SaysX fas fns tabs0 tfs fmB2 w h K) :
    LamX.LawAtS PySem.Challenge.rw_passmill_k02_whole_edges w K CX0 12 63 "_law_script" mg fa h := by
  have D := S.t.d
  have hg := He.glo_ok X G (D.fact 24 (f := .glo "law") rfl)
  have e := hfa.symm.trans hg
  cases e
  let ts : List Addr := tfs.map fun p => (He.cT K p).2
  obtain ⟨fd, F⟩ := D.def_ 24 (d := dG "law" s_law) rfl
  have b := FunD.bindsA (ps := ["_law_script"]) F fun _ _ _ _ _ _ us hl => match us, hl with | [_], _ => rfl
  refine ⟨fd, tfs.map (He.cT K), spLaw ⟨PySem.Challenge.rw_passmill_k02_whole_edges.prog, w, K, mg, h, ts⟩, fun p hp => ?_, fun p hp => ?_, fun p hp => ?_, fun s u => b s [u] rfl, fun H a ns hl _ hH hS => ?_, fun base KB NB TB => ?_⟩
  · obtain ⟨q, hq, rfl⟩ := List.mem_map.mp hp
    exact S.empty q hq
  · obtain ⟨q, hq, rfl⟩ := List.mem_map.mp hp
    exact S.out q hq
  · obtain ⟨q, hq, rfl⟩ := List.mem_map.mp hp
    exact PySem.W.codeHd_of_K X (S.hd q hq)
  · refine ⟨a, rfl, ⟨ns, hS, hl⟩, fun P hP => ?_, fun _ => rfl⟩
    obtain ⟨q, hq, rfl⟩ := List.mem_map.mp hP
    exact tabN_nil (hH _ (List.mem_map.mpr ⟨q, hq, rfl⟩))
  · obtain ⟨⟨oc, od, dV, kV, doc, pm, an, cdv, ct, osl, rfl, lk, hcd, hD, hK⟩, kp⟩ := F
    obtain ⟨cd, rfl⟩ := He.codeIn_ref hcd
    exact ok_law (c := ⟨PySem.Challenge.rw_passmill_k02_whole_edges.prog, w, K, mg, base, ts⟩) (cd := cd) ⟨⟨oc, od, dV, kV, doc, pm, an, ct, osl, rfl, lk, hcd, hD, hK⟩, kp, hg⟩
      (law_in (c := ⟨PySem.Challenge.rw_passmill_k02_whole_edges.prog, w, K, mg, base, ts⟩) X G S fun p hp => ⟨let z := TB _ (List.mem_map.mpr ⟨p, hp, rfl⟩); ⟨z.code, z.bm, z.gP⟩, List.mem_map.mpr ⟨p, hp, rfl⟩⟩)
end Pm
open PySem PySem.W PySem.Calls PyProof.Rows
theorem PySem.Challenge.cw_passmill_k02_whole_edges_holds : PySem.Challenge.rw_passmill_k02_whole_edges.Holds := by
  w_on; o_law
  refine HandSHeadRun.head_any (r := OpenLaw.row PySem.Challenge.rw_passmill_k02_whole_edges) (q := view (OpenLaw.row PySem.Challenge.rw_passmill_k02_whole_edges).prog [67]) (H := Pm.hk) (ob := Pm.ob) (M := 8000) (loose := Pm.loose) (d := HandSHeadRun.topDef (OpenLaw.row PySem.Challenge.rw_passmill_k02_whole_edges).prog 67) (kwd := []) Pm.ob_eq
    (by kernel_rfl) (fun s => by kernel_rfl) Pm.runs (by kernel_rfl) (by kernel_rfl) (by kernel_rfl) (by rfl) (by first | assumption | decide +kernel) (by decide +kernel) ⟨rfl, rfl, rfl, rfl, rfl, by decide +kernel⟩ ?hw ?hc
  case hw => w_witness2
  case hc =>
    refine LamX.walk_ofTsE (l := PySem.Challenge.rw_passmill_k02_whole_edges) (n := 63) (k := 12) (x := "_law_script") (CX := fun _ => L2.CX0) rfl (by decide) (by kernel_rfl) ⟨rfl, by decide, by decide⟩ ?F (fun _ _ _ _ _ z => z)
    intro w mg fa h Y G hmg0
    obtain ⟨K, KX, c⟩ := Y
    have hmg : mg ("law" : PySem.Str) = some (.ref fa) := by
      have e : (HandSHeadRun.topDef (OpenLaw.row PySem.Challenge.rw_passmill_k02_whole_edges).prog 67).name = ("law" : PySem.Str) := by kernel_rfl
      rw [← e]
      exact hmg0
    exact ⟨K, KX, Pm.law_at KX G hmg c⟩
